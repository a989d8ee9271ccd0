import PyProof.Rows.All
import Wide.All
import OpenK.AllK
import Wide.FinOn
import HandS.ForMost
import HandS.Codes
import HandS.IsInst
import HandS.Wide
import HandS.Style
import HandS.Conv
import HandS.EndTab
import HandS.Star
import HandS.Strs
import HandS.Rev
import HandS.AnyAll
import HandS.Text
import HandS.GenOver
import PyProof.GenQ
import HandS.Lambda
import HandS.Iter
import HandS.TupMul
import KE.GoesMore
import KE.GoesEnum
import HandS.TupAny
import PyProof.DictMoreH
import HandS.Dict
import HandS.Comp
import HandS.Exc
import HandS.ExcOwn
import HandS.ExcInit
import KE.KExcSuper
import HandS.TryMany
import HandS.HotCalls
import HandS.ExcField
import KE.KExcIs
import PyProof.ReprRoads
import PyProof.ReprBulk
import HandS.Words
import PySem.Challenge.RW_undoneall_k04_whole_programs_checked
set_option Elab.async false
set_option linter.all false
set_option maxRecDepth 100000
set_option maxHeartbeats 4000000
/-! all(elt for target in iter), whatever PI walks: the element is judged in the generator's own frame -/
namespace UG
open PySem PySem.Spec PyProof.Rows L2

abbrev gcx (X : Cx) (A : Around) (N : List Str) (s : Shared) (H : Hp) (env : Env) (fp : List Addr) : Cx :=
  { X with
    A := A, N := N, s_0 := s, H_0 := H, env := env, outer := X.stack,
    stack := env :: X.stack, ex := fp, fn := fun _ => false,
    calm := true, pn := [], xe := fun _ _ => False }

structure GenSc (scope : Scope) : Prop where
  kind : scope.kind = .function
  co : scope.isCoroutine = false
  cell : ∀ y ∈ scope.names, y.2 ≠ .cell
  free : ∀ y ∈ scope.names, y.2 ≠ .free
  dot : scope.names.lookup (".0" : Str) = some NameKind.local

/-- the generator's environment -/
abbrev gev (X : Cx) (scope : Scope) (C : Addr) (code : Value) : Env :=
  genEnv scope (cloFrom X.env.cells scope.names []) C code builtinsNs X.env

section
variable {X : Cx} {pins : List (Addr × Obj)} {σ : L2.St} {H : Hp} {s : Shared} {scope : Scope}

theorem gev_cells (S : GenSc scope) {C : Addr} {code : Value} {x : Str} {c : Addr}
    (e : (gev X scope C code).cells.lookup x = some c) : False := by
  have m := PySem.mem_of_lookup e
  rcases cloFrom_mem (show (x, c) ∈ cloFrom X.env.cells scope.names [] from m) with z | ⟨z, _⟩
  · cases z
  · exact S.free _ z rfl

theorem gev_kind (S : GenSc scope) {C : Addr} {code : Value} {x : Str}
    (h : (gev X scope C code).kindOf x = some .cell ∨ (gev X scope C code).kindOf x = some .free) : False := by
  rcases h with h | h
  · exact S.cell _ (PySem.mem_of_lookup (show scope.names.lookup x = some NameKind.cell from h)) rfl
  · exact S.free _ (PySem.mem_of_lookup (show scope.names.lookup x = some NameKind.free from h)) rfl

theorem stk_lt (I : Inv X pins σ H s) {b : Addr} (hb : b ∈ frs X.stack) : b < s.heap.objs.size := by
  rcases List.mem_cons.mp (I.stkSub b hb) with e | z
  · rw [e]; exact I.lt
  · rcases Nat.lt_or_ge b s.heap.objs.size with h | h
    · exact h
    · exact absurd z (I.nofs h)

/-- the generator's frame, as it begins -/
theorem gen_begin (I : Inv X pins σ H s) (S : GenSc scope) {fp : List Addr} {N : List Str} {A' : Around} {code : Value} {s5 : Shared} {a : Addr} {go : Obj} {m : Str → Option Value}
    (hfp : ∀ b ∈ fp, FpOk X pins H b ∧ b < s.heap.objs.size) (hhd : A'.handled = none)
    (hfr : A'.frames = some (gev X scope s.heap.objs.size code :: X.stack))
    (kp : ∀ b o, s.heap.get? b = some o → s5.heap.get? b = some o) (hos : s5.os = s.os) (hb5 : AllBare s5.gens)
    (hns : s5.heap.Ns s.heap.objs.size m) (ha : s.heap.objs.size < a) (hgo : s5.heap.get? a = some go) (hdat : ∀ v, go.data ≠ .cell v) :
    Inv (gcx X A' N s H (gev X scope s.heap.objs.size code) fp) [(a, go)] (N.map fun _ => none) H s5 := by
  have okG : (gcx X A' N s H (gev X scope s.heap.objs.size code) fp).Ok := by
    refine ⟨I.ok.mod, S.kind, I.ok.glob, rfl, Nat.le_refl _, ?_, ?_, ?_, fun _ => hhd, hfr, .inr ⟨rfl, rfl⟩, ?_, I.bs, Nat.le_trans I.ok.bsz I.sz, ?_, ?_, I.stack, I.stkFree⟩
    · intro x y c e _
      exact (gev_cells S e).elim
    · intro x h
      exact (gev_kind S h).elim
    · intro x c h _
      cases h
    · intro b hb
      refine ⟨Nat.ne_of_lt (hfp b hb).2, ?_⟩
      intro x c e
      exact (gev_cells S e).elim
    · intro b o e hb
      rcases (hfp b hb).1.2.2.2.1 with z | z
      · exact I.ok.noex b o e z
      · have h1 := Heap.lt_size e
        have h2 := I.ok.bsz
        exact absurd (Nat.lt_of_lt_of_le h1 (Nat.le_trans h2 z)) (Nat.lt_irrefl _)
    · intro b hb z
      rcases List.mem_cons.mp (I.stkSub b z) with y | y
      · exact (hfp b hb).1.2.1 y
      · exact (hfp b hb).1.2.2.1 y
  refine ⟨okG, hos, hb5, Un.kept kp, ⟨m, hns, ?_⟩, ?_, I.hok.fresh (Nat.le_refl _), ?_, ?_, I.hok.kept kp, ?_⟩
  · intro i x v _ e _
    rw [List.getElem?_map] at e
    cases q : (gcx X A' N s H (gev X scope s.heap.objs.size code) fp).N[i]? with
    | none =>
      have q' : N[i]? = none := q
      rw [q'] at e; cases e
    | some y =>
      have q' : N[i]? = some y := q
      rw [q'] at e; cases e
  · intro x c e
    exact (gev_cells S e).elim
  · intro x c e
    exact (gev_cells S e).elim
  · intro p hp
    have e : p = (a, go) := by simpa using hp
    subst e
    refine ⟨hgo, I.hok.fresh (Nat.le_of_lt ha), Nat.ne_of_gt ha, ?_, hdat⟩
    intro z
    exact absurd (Nat.lt_trans ha (stk_lt I z)) (Nat.lt_irrefl _)
  · show (N.map _).length = N.length
    rw [List.length_map]

/-- what is held of the callers' frame when the generator's is left -/
theorem gen_back {fp : List Addr} {N : List Str} {A' : Around} {env : Env} {s' : Shared} {H' : Hp} {σ' : L2.St} {pg : List (Addr × Obj)}
    (I : Inv X pins σ H s) (hfp : ∀ b ∈ fp, FpOk X pins H b) (J : Inv (gcx X A' N s H env fp) pg σ' H' s') : Inv X pins σ H' s' :=
  I.call' (ch := fp) J.os J.base J.hok J.bare fun b hb => by
    obtain ⟨_, h1, _, h3, h4, h5⟩ := hfp b hb
    exact ⟨h3, h1, h4, h5⟩
end
end UG


set_option Elab.async false
set_option linter.all false
set_option maxRecDepth 100000
set_option maxHeartbeats 4000000
namespace UG
open PySem PySem.Spec PyProof.Rows L2

/-- the generator's loop code -/
abbrev geLoop (elt tg iter : Expr) (scope : Scope) (gpos : Pos) (it : Addr) (env : Env) : Code :=
  .compLoop (.GeneratorExp elt [⟨tg, iter, [], 0⟩] scope gpos) 0 (.ref it) .none env
abbrev geStart (elt tg iter : Expr) (scope : Scope) (gpos : Pos) (it : Addr) (env : Env) : Code :=
  .compStart (.GeneratorExp elt [⟨tg, iter, [], 0⟩] scope gpos) 0 (.ref it) .none env

theorem over_loopG {A : Around} {elt tg iter : Expr} {scope : Scope} {gpos : Pos} {it : Addr} {env : Env} :
    A.over (geLoop elt tg iter scope gpos it env) [] = A.deeper env := by
  obtain ⟨hd, d, fr, gs, u⟩ := A
  simp [Around.over, Around.deeper, marksOver, frameCount, unitsOf, envsOf, guardsOf, pushEnvs, pushGuards, Code.envs, Code.env?, Code.isFrame, Code.guards, Code.isGuard, Code.weight, Code.frames, Code.isCreation, Code.isCaller, Code.cUnits]
theorem over_startG {A : Around} {elt tg iter : Expr} {scope : Scope} {gpos : Pos} {it : Addr} {env : Env} :
    A.over (geStart elt tg iter scope gpos it env) [] = A.deeper env := by
  obtain ⟨hd, d, fr, gs, u⟩ := A
  simp [Around.over, Around.deeper, marksOver, frameCount, unitsOf, envsOf, guardsOf, pushEnvs, pushGuards, Code.envs, Code.env?, Code.isFrame, Code.guards, Code.isGuard, Code.weight, Code.frames, Code.isCreation, Code.isCaller, Code.cUnits]

/-- what the reading asks of the loop -/
structure Way (J : It) (g : TG) (te : TE) (σ0 : L2.St) (Q : VK) (top : Nat) (W : Nat → Hp → Prop) : Prop where
  turn : ∀ i H, W i H → (J.stop i H ∧ Q (.bl true) H) ∨ (i < top ∧ J.go i H ∧ ∀ x H', J.yld i H x H' → g x σ0 H' fun σ2 H2 => te σ2 H2 fun y H3 =>
    ∃ b : Bool, y = .bl b ∧ if b = true then W (i + 1) H3 else Q (.bl false) H3)

section
variable {X : Cx} {N : List Str} {s4 : Shared} {H4 : Hp} {env : Env} {fp : List Addr} {a : Addr} {go : Obj}
/-- the protocol: a truth comes out; behind a True one the walk goes on -/
def GY (X : Cx) (B : Around) (N : List Str) (s4 : Shared) (H4 : Hp) (env : Env) (fp : List Addr) (a : Addr) (go : Obj) (Q : VK) : Protocol := fun m s₀ v s kap =>
  ∃ (b : Bool) (H3 : Hp) (σ3 : L2.St), v = .bool b ∧ Inv (gcx X B N s4 H4 env fp) [(a, go)] σ3 H3 s ∧ (b = false → Q (.bl false) H3) ∧
    (b = true → ∀ s'' : Shared, s''.os = s.os → AllBare s''.gens → s''.heap = s.heap → kap (.send .none) s'')
def GP (X : Cx) (B : Around) (N : List Str) (s4 : Shared) (H4 : Hp) (env : Env) (fp : List Addr) (a : Addr) (go : Obj) (Q : VK) : Nat → Shared → Shared → Prop := fun _ _ s1 =>
  ∃ (H3 : Hp) (σ3 : L2.St), Inv (gcx X B N s4 H4 env fp) [(a, go)] σ3 H3 s1 ∧ Q (.bl true) H3

theorem inv_same {X' : Cx} {pins : List (Addr × Obj)} {σ : L2.St} {H : Hp} {s s'' : Shared} (I : Inv X' pins σ H s) (h1 : s''.os = s.os) (h2 : AllBare s''.gens) (h3 : s''.heap = s.heap) : Inv X' pins σ H s'' := by
  obtain ⟨hh, g, d, t, o⟩ := s''
  cases h1
  cases h3
  exact ⟨I.ok, I.os, h2, I.base, I.loc, I.cell, I.free, I.freeC, I.pin, I.hok, I.len⟩

theorem seg_walk {B : Around} {elt tg iter : Expr} {scope : Scope} {gpos : Pos} {it : Addr} {tn : Nat → Heap → Prop} {J : It} {g : TG} {te : TE} {Q : VK} {top : Nat} {W : Nat → Hp → Prop}
    (hco : env.scope.isCoroutine = false)
    (T : Turn X.prog X.w X.K tg J fp it tn) (hg : PG (gcx X (B.deeper env) N s4 H4 env fp) tg g) (he : PE (gcx X (B.deeper env) N s4 H4 env fp) elt te)
    (hfa : a ∉ fp) (way : Way J g te (N.map fun _ => none) Q top W) :
    ∀ (n i : Nat) (s₀ s : Shared) (H : Hp), top - i ≤ n → Inv (gcx X (B.deeper env) N s4 H4 env fp) [(a, go)] (N.map fun _ => none) H s → tn i s.heap → (∀ b ∈ fp, H b = none) → W i H →
      ∃ k, k ≤ n ∧ Seg (model X.prog X.w) B (fun n s₀ r s₁ => r = .ok .next ∧ GP X (B.deeper env) N s4 H4 env fp a go Q n s₀ s₁) (GY X (B.deeper env) N s4 H4 env fp a go Q) n s₀
        (geLoop elt tg iter scope gpos it env) ((model X.prog X.w).den (geLoop elt tg iter scope gpos it env)) [] s := by
  have stat : ∀ {pl : List (Addr × Obj)} {σ' : L2.St} {H' : Hp} {s' : Shared}, Inv (gcx X (B.deeper env) N s4 H4 env fp) pl σ' H' s' → (∀ b ∈ fp, H' b = none) → (∀ p ∈ pl, p.1 = a) → ∀ b ∈ fp, FpOk (gcx X (B.deeper env) N s4 H4 env fp) pl H' b := by
    intro pl σ' H' s' I' hn hpl b hb
    refine ⟨hn b hb, (I'.ok.exf b hb).1, I'.ok.exfs b hb, .inl hb, (I'.ok.exf b hb).2, ?_⟩
    intro p hp z
    have hp' : p ∈ pl := by simpa using hp
    rw [hpl p hp'] at z
    exact hfa (z ▸ hb)
  have one : ∀ p ∈ [(a, go)], p.1 = a := by
    intro p hp
    have e : p = (a, go) := by simpa using hp
    rw [e]
  intro n
  induction n with
  | zero =>
    intro i s₀ s H hi I st nf w
    refine ⟨0, Nat.le_refl _, ?_⟩
    rcases way.turn i H w with ⟨stop, q⟩ | ⟨lt, _⟩
    · show Seg _ B _ _ _ s₀ _ ((compTurn (.GeneratorExp elt [⟨tg, iter, [], 0⟩] scope gpos) 0 (.ref it) .none env).onRaise (leaving env)) [] s
      rw [compTurn_gen, Sem.onRaise_eq_wrap]
      refine seg_bind_wrap (wpAny_standAt ?_)
      refine seg_bind_wrap ?_
      rw [over_loopG]
      have td := T.done (gcx X (B.deeper env) N s4 H4 env fp) rfl rfl rfl rfl i [(a, go)] s _ H (fun _ _ => False) I (stat I nf one) st stop
      refine thnF td ?_
      rintro r s6 ⟨rfl, I6⟩
      exact seg_end (.ok .next) ⟨rfl, H, _, I6, q⟩
    · omega
  | succ n ih =>
    intro i s₀ s H hi I st nf w
    refine ⟨n + 1, Nat.le_refl _, ?_⟩
    show Seg _ B _ _ _ s₀ _ ((compTurn (.GeneratorExp elt [⟨tg, iter, [], 0⟩] scope gpos) 0 (.ref it) .none env).onRaise (leaving env)) [] s
    rw [compTurn_gen, Sem.onRaise_eq_wrap]
    refine seg_bind_wrap (wpAny_standAt ?_)
    refine seg_bind_wrap ?_
    rw [over_loopG]
    rcases way.turn i H w with ⟨stop, q⟩ | ⟨lt, jgo, step⟩
    · have td := T.done (gcx X (B.deeper env) N s4 H4 env fp) rfl rfl rfl rfl i [(a, go)] s _ H (fun _ _ => False) I (stat I nf one) st stop
      refine thnF td ?_
      rintro r s6 ⟨rfl, I6⟩
      exact seg_end (.ok .next) ⟨rfl, H, _, I6, q⟩
    · have ti := T.item (gcx X (B.deeper env) N s4 H4 env fp) rfl rfl rfl rfl i [(a, go)] s _ H (fun _ _ => False) I (stat I nf one) st jgo
      refine thnF ti ?_
      rintro r s6 ⟨u, rfl, h6⟩
      refine seg_bind_wrap ?_
      rw [over_loopG]
      refine thnF h6 ?_
      rintro _ s7 ⟨x, H7, I7, r7, y7, st7, n7⟩
      have I7' := I7.pinned (stat I7 n7 one) (T.obj _ _ st7)
      refine seg_bind_wrap ?_
      rw [over_loopG]
      refine thnF (hg.run _ s7 _ H7 x u _ I7' r7 (step x H7 y7)) ?_
      rintro _ s8 ⟨σ8, H8, I8, q8⟩
      simp only [List.forIn_nil]
      refine seg_bind_wrap (wpAny_pure ?_)
      simp only [if_true]
      have hy : ∀ v, yieldOut env v = yieldValue v := fun v => by simp only [yieldOut, hco, Bool.false_eq_true, if_false]
      simp only [hy]
      rw [Sem.bind_eq_wrap', Sem.bind_eq_wrap', Sem.wrap_wrap, Sem.wrap_wrap]
      refine seg_wrap ?_
      rw [over_loopG]
      refine thnF (he.run _ s8 σ8 H8 _ I8 q8) ?_
      rintro yv s9 ⟨y, H9, I9, r9, b, rfl, q9⟩
      have ey : yv = Value.bool b := r9
      subst ey
      -- the iterator's objects stand as they stood
      have pin' : ∀ c ∈ fp, ∀ o, s7.heap.get? c = some o → s9.heap.get? c = some o ∧ H9 c = none := fun c hc o e =>
        let z := I9.pin (c, o) (List.mem_append_right _ (List.mem_append_right _ (mem_pinsAt hc e)))
        ⟨z.1, z.2.1⟩
      have st9 : tn (i + 1) s9.heap := T.keep _ _ _ st7 fun c hc o e => (pin' c hc o e).1
      have n9 : ∀ c ∈ fp, H9 c = none := fun c hc => by
        obtain ⟨o, e, _⟩ := T.obj _ _ st7 c hc
        exact (pin' c hc o e).2
      have I9' : Inv (gcx X (B.deeper env) N s4 H4 env fp) [(a, go)] σ8 H9 s9 := I9.unpinned (pins := [(a, go)])
      refine seg_at (seg_yield rfl rfl rfl ⟨b, H9, σ8, rfl, I9', fun hb => ?_, fun hb s'' h1 h2 h3 => ?_⟩)
      · rw [hb] at q9
        simpa using q9
      · rw [hb] at q9
        have q9' : W (i + 1) H9 := by simpa using q9
        have Iw : Inv (gcx X (B.deeper env) N s4 H4 env fp) [(a, go)] (N.map fun _ => none) H9 s9 := I9'.weak (by rw [I9'.len, List.length_map]) fun j v e => by
          rw [List.getElem?_map] at e
          cases q : N[j]? with
          | none => rw [q] at e; cases e
          | some y => rw [q] at e; cases e
        obtain ⟨k, _, z⟩ := ih (i + 1) s'' s'' H9 (by omega) (inv_same Iw h1 h2 h3) (by rw [h3]; exact st9) n9 q9'
        refine seg_again rfl z
end
end UG


set_option Elab.async false
set_option linter.all false
set_option maxRecDepth 100000
set_option maxHeartbeats 4000000
namespace UG
open PySem PySem.Spec PyProof.Rows L2

section
variable {X : Cx} {N : List Str} {s4 : Shared} {H4 : Hp} {env : Env} {fp : List Addr} {a : Addr} {go : Obj}

theorem bare_set {s : Shared} {g : Nat} {x : GenState} (h : AllBare s.gens) (hx : x.bare = true) : AllBare (s.setGen g x).gens := by
  intro y hy
  have hy' : y ∈ s.gens.setIfInBounds g x := hy
  rcases Array.mem_or_eq_of_mem_setIfInBounds hy' with z | z
  · exact h y z
  · rw [z]; exact hx

theorem get_set {s : Shared} {g : Nat} {x : GenState} (h : g + 1 ≤ (s.setGen g x).gens.size) : (s.setGen g x).gens[g]? = some x := by
  have h1 : (s.setGen g x).gens.size = s.gens.size := GenW.setGen_size s g x
  have h2 : g < s.gens.size := by omega
  show (s.gens.setIfInBounds g x)[g]? = some x
  simp [h2]

/-- the consumer: all's own loop over the generator at a -/
theorem all_turns {A : Around} {g : Nat} {Q : VK} {R : Result → Shared → Prop} (hh : A.handled = none) (hroom : A.depth < recursionLimit)
    (hIG : ∀ (s : Shared), s.heap.get? a = some go → s.heap.IsGen a g)
    (hR : ∀ (b : Bool) (s : Shared) (H3 : Hp) (σ3 : L2.St), Inv (gcx X ((A.in1.in1).deeper env) N s4 H4 env fp) [(a, go)] σ3 H3 s → Q (.bl b) H3 → R (.ok (.ret (.bool b))) s) :
    ∀ (n : Nat) (s : Shared) (gs : GenState) (σ3 : L2.St) (H3 : Hp), s.gens[g]? = some gs → Inv (gcx X ((A.in1.in1).deeper env) N s4 H4 env fp) [(a, go)] σ3 H3 s →
      gs.Goes (model X.prog X.w) A.in1.in1 (fun n s₀ r s₁ => r = .ok .next ∧ GP X ((A.in1.in1).deeper env) N s4 H4 env fp a go Q n s₀ s₁) (GY X ((A.in1.in1).deeper env) N s4 H4 env fp a go Q) n (.send .none) (s.setGen g .running) →
      codeAny (model X.prog X.w) A (.builtin "all.loop" ⟨[.ref a], []⟩) R s := by
  intro n
  induction n with
  | zero =>
    intro s gs σ3 H3 hgs I hgo
    refine codeAny_builtin F.entry_all_loop ?_
    rw [Around.under_plainId F.plain_all_loop _]
    have hsz : g + 1 ≤ s.gens.size := by
      obtain ⟨h1, _⟩ := Array.getElem?_eq_some_iff.mp hgs
      exact h1
    have pa := (I.pin (a, go) (by simp)).1
    show wpAny _ A.in1 (pyNext (.ref a) >>= _) _ _ s
    refine wpAny_bind (GenW.wpAny_gsz hsz ?_)
    refine wpAny_pyNext_genexpQ (P := GP X ((A.in1.in1).deeper env) N s4 H4 env fp a go Q) hh I.nolimit hroom (hIG s pa) hgs hgo ?_ ?_
    · intro v s₁ gs' hb hY hsz1
      obtain ⟨b, H5, σ5, rfl, I5, q1, q2⟩ := hY
      cases b with
      | true => exact (q2 rfl s₁ rfl I5.bare rfl).elim
      | false =>
        refine wpAny_bind (wpAny_holding (wpAny_truthy_bool ?_))
        refine wpAny_bind (wpAny_letGo ?_)
        refine wpAny_bind (wpAny_rule (wpAny_pure ?_))
        exact hR false _ H5 σ5 (inv_same I5 rfl (bare_set I5.bare hb) rfl) (q1 rfl)
    · intro s₁ hp h' hk hsz1
      obtain ⟨H5, σ5, I5, q5⟩ := hp
      refine wpAny_bind (wpAny_rule (wpAny_pure ?_))
      refine hR true _ H5 σ5 ?_ q5
      have I6 := inv_same (s'' := s₁.setGen g .finished) I5 rfl (bare_set I5.bare rfl) rfl
      exact I6.kept (t' := s₁.toks) hk
  | succ n ih =>
    intro s gs σ3 H3 hgs I hgo
    refine codeAny_builtin F.entry_all_loop ?_
    rw [Around.under_plainId F.plain_all_loop _]
    have hsz : g + 1 ≤ s.gens.size := by
      obtain ⟨h1, _⟩ := Array.getElem?_eq_some_iff.mp hgs
      exact h1
    have pa := (I.pin (a, go) (by simp)).1
    show wpAny _ A.in1 (pyNext (.ref a) >>= _) _ _ s
    refine wpAny_bind (GenW.wpAny_gsz hsz ?_)
    refine wpAny_pyNext_genexpQ (P := GP X ((A.in1.in1).deeper env) N s4 H4 env fp a go Q) hh I.nolimit hroom (hIG s pa) hgs hgo ?_ ?_
    · intro v s₁ gs' hb hY hsz1
      obtain ⟨b, H5, σ5, rfl, I5, q1, q2⟩ := hY
      cases b with
      | true =>
        refine wpAny_bind (wpAny_holding (wpAny_truthy_bool ?_))
        refine wpAny_bind (wpAny_letGo ?_)
        simp only [if_true]
        refine wpAny_pure ⟨plainId_quiet F.plain_all_loop _, ?_⟩
        refine ih (s₁.setGen g gs') gs' σ5 H5 (get_set hsz1) (inv_same I5 rfl (bare_set I5.bare hb) rfl) ?_
        exact q2 rfl ((s₁.setGen g gs').setGen g .running) rfl (bare_set (bare_set I5.bare hb) rfl) rfl
      | false =>
        refine wpAny_bind (wpAny_holding (wpAny_truthy_bool ?_))
        refine wpAny_bind (wpAny_letGo ?_)
        refine wpAny_bind (wpAny_rule (wpAny_pure ?_))
        exact hR false _ H5 σ5 (inv_same I5 rfl (bare_set I5.bare hb) rfl) (q1 rfl)
    · intro s₁ hp h' hk hsz1
      obtain ⟨H5, σ5, I5, q5⟩ := hp
      refine wpAny_bind (wpAny_rule (wpAny_pure ?_))
      refine hR true _ H5 σ5 ?_ q5
      have I6 := inv_same (s'' := s₁.setGen g .finished) I5 rfl (bare_set I5.bare rfl) rfl
      exact I6.kept (t' := s₁.toks) hk
end
end UG


set_option Elab.async false
set_option linter.all false
set_option maxRecDepth 100000
set_option maxHeartbeats 4000000
namespace UG
open PySem PySem.Spec PyProof.Rows L2

def tAllG (P : Addr) (wi : TI) (g : TG) (te : TE) (σ0 : L2.St) : TE := fun σ H Q => wi σ H fun J H1 =>
  GxR.TabG H1 P ∧ ∃ (top : Nat) (W : Nat → Hp → Prop), Way J g te σ0 Q top W ∧ ∀ H2, GxR.Tabbed P H1 H2 → W 0 H2

section
variable {X : Cx}
theorem pe_allG {c P : Addr} {elt tg iter : Expr} {p pos gpos : Pos} {scope : Scope} {wi : TI} {g : TG} {te : TE} {N : List Str} {k : Nat}
    (hr : Room (k + 1) X.A) (hg : Gl X "all") (hm : X.mg "all" = none) (hb : bootBuiltins "all" = some (.builtin "all")) (TB : LamX.TabB X.base X.mg c P) (hcode : X.env.code = .ref c)
    (S : GenSc scope) (hi : PI X tg iter wi)
    (hgt : ∀ (A' : Around) (s : Shared) (H : Hp) (C : Addr) (code : Value) (fp : List Addr), Room k A' → PG (gcx X A' N s H (gev X scope C code) fp) tg g)
    (hel : ∀ (A' : Around) (s : Shared) (H : Hp) (C : Addr) (code : Value) (fp : List Addr), Room k A' → PE (gcx X A' N s H (gev X scope C code) fp) elt te)
    (hs : ∀ v, genFold iter X.env v = pure v := by intro _; rfl)
    (he : starEach [.GeneratorExp elt [⟨tg, iter, [], 0⟩] scope gpos] X.env = (false, eval (.GeneratorExp elt [⟨tg, iter, [], 0⟩] scope gpos) X.env) :: starEach [] X.env := by rfl) :
    PE X (.Call (.Name "all" p) [.GeneratorExp elt [⟨tg, iter, [], 0⟩] scope gpos] [] pos) (tAllG P wi g te (N.map fun _ => none)) := by
  refine ⟨fun pins s σ H Q I h => ?_⟩
  refine wpAny_Call_Name_kw (ld_blt I hg hm hb ?_)
  refine PyProof.Rows.callWith_builtin1 ?_ he (by rfl)
  rw [he]
  show wpAny _ _ (spliced ((false, eval (.GeneratorExp elt [⟨tg, iter, [], 0⟩] scope gpos) X.env) :: backTo pos (starEach [] X.env))) _ _ s
  refine Calls.spliced_cons ?_
  have hclos := closure_ok (scope := scope) (env := X.env) fun y hy e => (S.free y hy e).elim
  refine wpAny_GeneratorExp_make S.co hclos S.cell S.dot S.kind (by have := hr.dp; omega) ?_ hs
  refine thn (hi.run pins s σ H _ I h) fun xv s1 hx => thn hx fun itv s2 h2 => ?_
  obtain ⟨it, fp, tn, J, H2, e, I2, T, st2, f2, ⟨ps, hP, ht⟩, top, W, way, w0⟩ := h2
  subst e
  refine ⟨I2.nolimit, ?_⟩
  have hPs : s2.heap.get? P = some { cls := .none, data := .fields ps } := I2.hok P _ hP
  have hPlt : P < s2.heap.objs.size := Heap.lt_size hPs
  have cd : PySem.W.CodeHd s2.heap c P := TB.code.keeps I2.bk
  have szF : ∀ b ∈ fp, b < s2.heap.objs.size := fun b hbf => by
    obtain ⟨o, e, _⟩ := T.obj _ _ st2 b hbf
    exact Heap.lt_size e
  have nPf : ∀ b ∈ fp, b ≠ P := fun b hbf z => by
    have q := (f2 b hbf).1
    rw [z, hP] at q
    cases q
  -- behind the making of the code object
  have cont : ∀ (code : Value) (h3 : Heap) (tk : Nat) (more : Array Value), (∀ b o, b ≠ P → s2.heap.get? b = some o → h3.get? b = some o) → s2.heap.objs.size ≤ h3.objs.size →
      h3.get? P = some { cls := .none, data := .fields (ps ++ more) } → TriplesOk (ps ++ more).toList →
      wpAny (model X.prog X.w) X.A (builtinsFor X.env.globals X.env.builtins) (fun bi s₄ => ∀ h', h'.Ns s₄.heap.objs.size (fun y => if y = (".0" : Str) then some (.ref it) else none) →
        Heap.SameBut s₄.heap.objs.size (s₄.heap.push { cls := .type "frame", data := .dict #[] }) h' →
        wpAny (model X.prog X.w) X.A (spliced (backTo pos (starEach [] X.env))) (fun ws s5 => wpAny (model X.prog X.w) X.A (call (.builtin "all") (.ref h'.objs.size :: ws)) (EP X pins σ Q) X.xe s5) X.xe
          { s₄ with
            gens := s₄.gens.push (.fresh (.compStart (.GeneratorExp elt [⟨tg, iter, [], 0⟩] scope gpos) 0 (.ref it) .none (genEnv scope (cloFrom X.env.cells scope.names []) s₄.heap.objs.size code bi X.env))),
            toks := s₄.toks + 1 + 1 + 1,
            heap := h'.push { cls := .type "generator", data := .fields #[.int s₄.gens.size 0, .str "<genexpr>" (s₄.toks + 1), .str (X.env.qual ++ "<genexpr>") (s₄.toks + 1 + 1)] } }) X.xe { s2 with heap := h3, toks := tk } := by
    intro code h3 tk more k3 sz3 hP3 ht3
    obtain ⟨bm, ob, e1, e2, e3, e4, e5, e6, e7, e8⟩ := TB.bm
    have nsG : h3.Ns X.env.globals X.mg := by
      rw [I2.ok.glob]
      obtain ⟨o, es, ep, ho, r⟩ := I2.mod.glob.keeps I2.bk
      exact ⟨o, es, ep, k3 _ o TB.gP ho, r⟩
    refine wpAny_builtinsFor (m := X.mg) nsG e1 e2 (k3 _ _ e4 (I2.bk _ _ e5)) e6 e7 e8 ?_
    intro h' hn' hsb
    have I4 : Inv X pins σ (upd H2 P (.tbl (ps ++ more))) { s2 with heap := h3, toks := tk } :=
      GxR.inv_tab (g' := s2.gens) (d' := s2.drawn) I2 hP k3 hP3 I2.bare
    generalize hs4 : ({ s2 with heap := h3, toks := tk } : Shared) = s4 at I4 hn' hsb ⊢
    have h4 : s4.heap = h3 := by rw [← hs4]
    have st4 : tn 0 s4.heap := T.keep _ _ _ st2 fun b hbf o e => by rw [h4]; exact k3 b o (nPf b hbf) e
    have f4 : ∀ b ∈ fp, FpOk X pins (upd H2 P (.tbl (ps ++ more))) b ∧ b < s4.heap.objs.size := fun b hbf => by
      refine ⟨⟨by rw [upd_ne (nPf b hbf)]; exact (f2 b hbf).1, (f2 b hbf).2⟩, ?_⟩
      rw [h4]
      exact Nat.lt_of_lt_of_le (szF b hbf) sz3
    have szh : h'.objs.size = s4.heap.objs.size + 1 := by rw [hsb.1, Heap.size_push]
    have kp' : ∀ b o, s4.heap.get? b = some o → h'.get? b = some o := fun b o e => hsb.extBut b o (Nat.ne_of_lt (Heap.lt_size e)) (Heap.get?_push_of_some _ e)
    generalize hgo : ({ cls := .type "generator", data := .fields #[.int s4.gens.size 0, .str "<genexpr>" (s4.toks + 1), .str (X.env.qual ++ "<genexpr>") (s4.toks + 1 + 1)] } : Obj) = go
    generalize hs5 : ({ s4 with
            gens := s4.gens.push (.fresh (.compStart (.GeneratorExp elt [⟨tg, iter, [], 0⟩] scope gpos) 0 (.ref it) .none (genEnv scope (cloFrom X.env.cells scope.names []) s4.heap.objs.size code builtinsNs X.env))),
            toks := s4.toks + 1 + 1 + 1,
            heap := h'.push go } : Shared) = s5
    have h5 : s5.heap = h'.push go := by rw [← hs5]
    have kp5 : ∀ b o, s4.heap.get? b = some o → s5.heap.get? b = some o := fun b o e => by rw [h5]; exact Heap.get?_push_of_some _ (kp' b o e)
    have ga : s5.heap.get? h'.objs.size = some go := by rw [h5]; exact Heap.get?_push_size _ (by rw [← hgo] <;> rfl)
    have bare5 : AllBare s5.gens := by
      rw [← hs5]
      exact I4.bare.push rfl
    have g5 : s5.gens[s4.gens.size]? = some (.fresh (geStart elt tg iter scope gpos it (gev X scope s4.heap.objs.size code))) := by
      rw [← hs5]
      exact Array.getElem?_push_size ..
    have hA' : Room k ((X.A.in1.in1).deeper (gev X scope s4.heap.objs.size code)) := by
      refine ⟨hr.hd, ?_, ?_⟩
      · have := hr.dp
        show X.A.depth + 1 + 3 * k + 5 < _
        omega
      · have := hr.un
        show X.A.units + 1 + 1 + 3 + 16 * k + 200 < _
        omega
    have J5 := gen_begin (N := N) (fp := fp) (A' := (X.A.in1.in1).deeper (gev X scope s4.heap.objs.size code)) (s5 := s5) (a := h'.objs.size) (go := go) I4 S f4 hr.hd
      (Around.frames_deeper (A := X.A.in1.in1) I4.ok.frames) kp5 (by rw [← hs5]) bare5 (by rw [h5]; exact hn'.push _) (by rw [szh]; exact Nat.lt_succ_self _) ga (by rw [← hgo]; intro v z; cases z)
    refine Calls.spliced_nil ?_
    refine call_function_tree F.kind_all F.plain_all F.entry_all (F.args_all1 _) ?_
    unfold Builtin.«all»
    refine wpAny_bind (m := oneArg "all" _) (wpAny_pure ?_)
    have isG : s5.heap.IsGen h'.objs.size s4.gens.size := ⟨go, _, _, ga, by rw [← hgo], by rw [← hgo], by rw [← hgo]⟩
    refine wpAny_bind (wpAny_pyIter_gen isG ?_)
    refine wpAny_pure ⟨plainId_quiet F.plain_all_loop _, ?_⟩
    have w4 : W 0 (upd H2 P (.tbl (ps ++ more))) := w0 _ ⟨⟨_, upd_same, ht3⟩, fun b hbn => upd_ne hbn⟩
    refine all_turns (X := X) (N := N) (s4 := s4) (H4 := upd H2 P (.tbl (ps ++ more))) (env := gev X scope s4.heap.objs.size code) (fp := fp) (a := h'.objs.size) (go := go) (g := s4.gens.size) (Q := Q)
      hr.hd (by have := hr.dp; show X.A.depth < _; omega) (fun s6 h6 => ⟨go, _, _, h6, by rw [← hgo], by rw [← hgo], by rw [← hgo]⟩) ?_ top s5 _ _ _ g5 J5 ?_
    · intro b s6 H6 σ6 I6 q6
      exact ⟨.bl b, H6, gen_back I4 (fun b hbf => (f4 b hbf).1) I6, rfl, q6⟩
    · refine ⟨rfl, ?_⟩
      have J6 := inv_same (s'' := s5.setGen s4.gens.size .running) J5 rfl (bare_set J5.bare rfl) rfl
      have st5 : tn 0 s5.heap := T.keep _ _ _ st4 fun b _ o e => kp5 b o e
      have nf : ∀ b ∈ fp, upd H2 P (.tbl (ps ++ more)) b = none := fun b hbf => (f4 b hbf).1.1
      have faN : h'.objs.size ∉ fp := fun z => by
        have q := (f4 _ z).2
        rw [szh] at q
        exact Nat.lt_irrefl _ (Nat.lt_trans (Nat.lt_succ_self _) q)
      have loop : ∀ s₀, ∃ k, k ≤ top ∧ _ := fun s₀ => seg_walk (X := X) (B := X.A.in1.in1) (N := N) (s4 := s4) (H4 := upd H2 P (.tbl (ps ++ more))) (env := gev X scope s4.heap.objs.size code) (fp := fp) (a := h'.objs.size) (go := go)
        (gpos := gpos) (elt := elt) (iter := iter) (scope := scope) (Q := Q) (top := top) (W := W) S.co T (hgt _ _ _ _ _ _ hA') (hel _ _ _ _ _ _ hA') faN way top 0 s₀ (s5.setGen s4.gens.size .running) _ (Nat.sub_le _ _) J6 st5 nf w4
      obtain ⟨_, _, loop⟩ := loop (s5.setGen s4.gens.size .running)
      show Seg _ _ _ _ _ _ _ ((compStart (.GeneratorExp elt [⟨tg, iter, [], 0⟩] scope gpos) 0 (.ref it) .none (gev X scope s4.heap.objs.size code)).onRaise (leaving (gev X scope s4.heap.objs.size code))) [] _
      unfold compStart
      rw [Sem.onRaise_eq_wrap]
      show Seg _ _ _ _ _ _ _ ((ask >>= _).wrap _ _ _ _) [] _
      refine seg_bind_wrap (wpAny_askSetting ?_)
      split
      · exact seg_again rfl loop
      · refine seg_bind_wrap (wpAny_rule ?_)
        show Seg _ _ _ _ _ _ _ ((standAt iter.pos >>= _).wrap _ _ _ _) [] _
        refine seg_bind_wrap (wpAny_standAt ?_)
        refine seg_bind_wrap ?_
        exact T.self _ 0 _ _ _ st5 (seg_again rfl loop)
  cases hf : codeAmong gpos ps.toList with
  | none =>
    refine wpAny_genexprCodeX hcode (cd.code hPs ht) (cd.tab hPs) hf ?_
    intro c' h3 tk hx hge hlt hco' _ htab' _
    obtain ⟨o1, vs, f1, tf, fl, tg', inF, tx, tt, op, _, _, _, _, _, _, _, _, _, htr, _⟩ := hco'
    exact cont _ h3 tk _ (fun b o hbn e => hx b o hbn e) (Nat.le_trans hge (Nat.le_of_lt hlt)) htab'.2 htr
  | some cv =>
    refine wpAny_genexprCode_hit hcode (cd.code hPs ht) hf ?_
    have z := cont cv s2.heap s2.toks #[] (fun _ _ _ e => e) (Nat.le_refl _) (by rw [Array.append_empty]; exact hPs) (by rw [Array.append_empty]; exact ht)
    exact z
end
end UG


set_option Elab.async false
set_option linter.all false
set_option maxRecDepth 100000
set_option maxHeartbeats 4000000
/-! enumerate(t), t a tuple; t * n to some thousands -/
namespace UG
open PySem PySem.Spec PyProof.Rows L2

theorem enum_new1 {v : Value} {o : Obj} {H : Heap → Prop} (B : Begins v o H) :
    Meets (Builtin.«enumerate.__new__» ⟨[.type "enumerate", v], []⟩) (fun _ R s => H s.heap ∧
      R (.ok (.ret (.ref (s.heap.push o).objs.size))) { s with heap := (s.heap.push o).push { cls := .type "enumerate", data := .fields #[.none, .bool false, .ref s.heap.objs.size, rawInt 0, .none, .none] } }) :=
  .of_wp fun prog w A R s h => by
    obtain ⟨hp, g, d, tk, os⟩ := s
    obtain ⟨h1, h⟩ := h
    have hsub := sub_enumerate
    have goes : ∀ {A' : Around} {E : Value → Shared → Prop} {Q : Value → Shared → Prop}, Q (.ref hp.objs.size) ⟨hp.push o, g, d, tk, os⟩ → wpAny (model prog w) A' (pyIter v) Q E ⟨hp, g, d, tk, os⟩ :=
      fun q => B.iter prog w _ _ ⟨hp, g, d, tk, os⟩ _ h1 q
    wp_walk using goes
    refine wpAny_stack_any fun st => wpAny_pure ?_
    split
    · rename_i c _ _ _ _ _
      cases (c == Value.type "enumerate")
      all_goals (wp_walk using goes; exact ⟨_, rfl, h⟩)
    · wp_walk using goes
      exact ⟨_, rfl, h⟩

section
variable {prog : Program} {w : World} {A : Around} {E : Value → Shared → Prop} {s : Shared}
theorem enum_call1 {v : Value} {o : Obj} {H : Heap → Prop} {Q : Value → Shared → Prop} (B : Begins v o H) (h1 : H s.heap)
    (h : ∀ h', IsEnum h' (s.heap.objs.size + 1) s.heap.objs.size 0 .none → h'.get? s.heap.objs.size = some o →
      (∀ b o, s.heap.get? b = some o → h'.get? b = some o) → Q (.ref (s.heap.objs.size + 1)) { s with heap := h' }) :
    wpAny (model prog w) A (call (.type "enumerate") [v]) Q E s := by
  refine callType_new F.called_enumerate (by decide) (F.typeCall_enumerate_1 _) (F.newCall_enumerate_1 _)
    (fun obj => F.args_object_init_2 obj _) F.entry_enumerate_new (enum_new1 B) ⟨h1, ?_⟩
  have sz : (s.heap.push o).objs.size = s.heap.objs.size + 1 := Heap.size_push ..
  show _ ∧ _
  rw [sz]
  have atE := Heap.get?_push_size (s.heap.push o) (o := { cls := .type "enumerate", data := .fields #[.none, .bool false, .ref s.heap.objs.size, rawInt 0, .none, .none] }) rfl
  rw [sz] at atE
  refine ⟨⟨_, atE, rfl⟩, h _ atE (Heap.get?_push_of_some _ (Heap.get?_push_size _ B.free)) ?_⟩
  intro b o' e
  exact Heap.get?_push_of_some _ (Heap.get?_push_of_some _ e)
end

/-- the tuple at a, each item in a new pair -/
def Iet (K : PySem.W.Frag) (a : Addr) : It :=
  ⟨fun i H => ∃ (xs : List V) (x : V), SqT K H a xs ∧ xs[i]? = some x,
   fun i H v H' => ∃ T x, v = .ref T ∧ H T = none ∧ H' = upd H T (.tup [.int (i : Nat), x]) ∧ ∀ xs, SqT K H a xs → xs[i]? = some x,
   fun i H => ∃ xs : List V, SqT K H a xs ∧ xs.length ≤ i⟩

theorem turn_enumT {P : Program} {w : World} {K : PySem.W.Frag} {elts : List Expr} {kk : Nat} {tpos : Pos} (a e it : Addr) :
    Turn P w K (.Tuple elts kk tpos) (Iet K a) [e, it] e (fun i h => (∃ old, IsEnum h e it ((i : Nat) : Int) old) ∧ h.IsTupleIter it a i ∧ e ≠ it) where
  mem := by simp
  obj := by
    intro i h st b hb
    obtain ⟨⟨old, he⟩, ⟨o, ho, hc, hd⟩, _⟩ := st
    rcases (show b = e ∨ b = it by simpa using hb) with z | z
    · subst z
      exact ⟨_, he, fun v q => nomatch q⟩
    · subst z
      refine ⟨o, ho, ?_⟩
      intro v q
      rw [hd] at q
      cases q
  keep := by
    intro i h h' st k
    obtain ⟨⟨old, he⟩, hi, hne⟩ := st
    exact ⟨⟨old, k e (by simp) _ he⟩, hi.at fun o q => k it (by simp) o q, hne⟩
  item := by
    intro X hP hw hK hc i pins s σ H E I hf st hg
    subst hP hw hK
    obtain ⟨⟨old, he⟩, hit, hne⟩ := st
    obtain ⟨xs, x, hq, hx⟩ := hg
    obtain ⟨its, rv, p, hz⟩ := I.tuple hq
    obtain ⟨u, hu, ru⟩ := rv.get hx
    have hel : e < s.heap.objs.size := Heap.lt_size he
    have hil : it < s.heap.objs.size := by
      obtain ⟨_, q, _⟩ := hit
      exact Heap.lt_size q
    have pT : s.heap.IsTuple a its.toArray := p
    have nEa : e ≠ a := by
      intro z
      obtain ⟨o, ho, _, n, hd⟩ := pT
      have he' := he
      unfold IsEnum at he'
      rw [z, ho] at he'
      cases he'
      cases hd
    have nIa : a ≠ it := by
      intro z
      obtain ⟨o, ho, _, n, hd⟩ := pT
      obtain ⟨o2, ho2, _, hd2⟩ := hit
      rw [z, ho2] at ho
      cases ho
      rw [hd2] at hd
      cases hd
    have D := Draws.tuple (prog := X.prog) (w := X.w) (A := X.A.in1) (I.ok.hd hc) it a nIa its.toArray
    have hi : i < its.toArray.size := by
      have l1 := (List.getElem?_eq_some_iff.mp hx).1
      have l2 := rv.length
      simp
      omega
    refine wpAny_pyNext_enum_itemD D he ⟨hit, pT⟩ hi hne (by simp; exact ⟨hne, nEa⟩) fun y h' tk hy ho hst' hT hsz hk => ?_
    have ey : y = u := by
      have q : its.toArray[i]? = some y := hy
      rw [List.getElem?_toArray] at q
      exact Option.some.inj (q.symm.trans hu)
    subst ey
    refine ⟨_, rfl, wpAny_letOwnedTupleGo_enum (s := { s with heap := h', toks := tk + 1 }) ho fun h'' he' sb => ?_⟩
    have hT2 : h''.get? s.heap.objs.size = some { cls := .type "tuple", data := .seq #[.int i tk, y] } := (sb.2 _ (Nat.ne_of_gt hel)).trans hT
    have new : ObjOk X.prog X.w (upd H s.heap.objs.size (.tup [.int (i : Nat), x])) h'' s.heap.objs.size (.tup [.int (i : Nat), x]) :=
      ⟨by show 2 ≤ sizeLine; decide, [.int i tk, y], .cons ⟨_, rfl⟩ (.cons ru .nil), ⟨_, hT2, rfl, _, rfl⟩⟩
    have kk2 : ∀ b o, b ∉ [e, it] → s.heap.get? b = some o → h''.get? b = some o := by
      intro b o hb q
      have b1 : b ≠ e := fun z => hb (by simp [z])
      have b2 : b ≠ it := fun z => hb (by simp [z])
      exact (sb.2 b b1).trans (hk b o b1 b2 q)
    have I1 : Inv X pins σ (upd H s.heap.objs.size (.tup [.int (i : Nat), x])) { s with heap := h'', toks := tk + 1 } :=
      I.turnedNew (ch := [e, it]) kk2 hf (Nat.le_refl _) new
    refine ⟨.ref s.heap.objs.size, _, I1, rfl, ⟨_, x, rfl, I.hok.fresh (Nat.le_refl _), rfl, fun ys hy => by rw [I.tuple_inj hy hq]; exact hx⟩, ⟨⟨y, ?_⟩, hst'.1.at fun o q => (sb.2 it (Ne.symm hne)).trans q, hne⟩, ?_⟩
    · have e1 : ((i + 1 : Nat) : Int) = (i : Int) + 1 := by omega
      rw [e1]
      exact he'
    · intro b hb
      have hb' : b < s.heap.objs.size := by
        rcases (show b = e ∨ b = it by simpa using hb) with z | z
        · rw [z]; exact hel
        · rw [z]; exact hil
      rw [upd_ne (Nat.ne_of_lt hb')]
      exact (hf b hb).1
  done := by
    intro X hP hw hK hc i pins s σ H E I hf st hg
    subst hP hw hK
    obtain ⟨⟨old, he⟩, hit, hne⟩ := st
    obtain ⟨xs, hq, hx⟩ := hg
    obtain ⟨its, rv, p, hz⟩ := I.tuple hq
    have pT : s.heap.IsTuple a its.toArray := p
    have nIa : a ≠ it := by
      intro z
      obtain ⟨o, ho, _, n, hd⟩ := pT
      obtain ⟨o2, ho2, _, hd2⟩ := hit
      rw [z, ho2] at ho
      cases ho
      rw [hd2] at hd
      cases hd
    obtain ⟨f0, f1, f2, f3, f4, f5⟩ := hf it (by simp)
    have hl := rv.length
    have D : Draws X.prog X.w X.A.in1 it [it, a] i (fun _ _ => False) (fun j h => j = i ∧ h.IsTupleIter it a i ∧ h.IsTuple a its.toArray) :=
      { live := fun _ _ st => let ⟨o, ho, _⟩ := st.2.1; ⟨o, ho⟩
        frame := fun _ _ _ st hk => ⟨st.1, st.2.1.at fun o e => hk it (by simp) o e, st.2.2.at fun o e => hk a (by simp) o e⟩
        item := fun j s Q E hj st hQ => absurd st.1 (Nat.ne_of_lt hj)
        done := fun s Q E st hE => wpAny_nextOf_tuple_end (I.ok.hd hc) st.2.1 st.2.2 (by simp; omega) hE }
    exact wpAny_pyNext_enum_endD D he ⟨rfl, hit, pT⟩ fun h' eb => ⟨rfl, I.turned (t' := s.toks) (fun b o hb q => eb b o hb q) f0 f1 f3 f4 f5⟩
  self := by
    intro A i s Q E st h
    obtain ⟨⟨_, he⟩, _⟩ := st
    exact wpAny_pyIter_enum he h

def iEnumT (K : PySem.W.Frag) (ta : TA) : TI := fun σ H R => ta σ H fun vs H1 => ∃ a xs, vs = [.ref a] ∧ SqT K H1 a xs ∧ R (Iet K a) H1
theorem pi_enumT {X : Cx} {e : Expr} {ta : TA} {p pos tpos : Pos} {elts : List Expr} {kk : Nat} (hg : Gl X "enumerate") (hm : X.mg "enumerate" = none) (ha : PA X [e] ta)
    (hs : starEach [e] X.env = [(false, eval e X.env)] := by rfl) :
    PI X (.Tuple elts kk tpos) (.Call (.Name "enumerate" p) [e] [] pos) (iEnumT X.K ta) := by
  refine ⟨fun pins s σ H R I h => ?_⟩
  refine Call_ (ld_blt I hg hm boot_enumerate (PyProof.Rows.callWith_type1 (thn (ha.run pos pins s σ H _ I h) ?_) hs rfl))
  rintro us s1 ⟨vs, H1, I1, r1, a, xs, rfl, hq, q⟩
  obtain ⟨its, rv, p', hz⟩ := I1.tuple hq
  cases r1 with
  | cons r rr =>
    cases rr
    cases r
    have pT : s1.heap.IsTuple a its.toArray := p'
    refine enum_call1 (begins_tuple a its.toArray) pT fun h' he hit hk => wpAny_pyIter_enum he ?_
    have I2 : Inv X pins σ H1 { s1 with heap := h' } := I1.kept (t' := s1.toks) hk
    refine ⟨s1.heap.objs.size + 1, [s1.heap.objs.size + 1, s1.heap.objs.size], _, _, H1, rfl, I2, turn_enumT a (s1.heap.objs.size + 1) s1.heap.objs.size, ⟨⟨.none, he⟩, ⟨_, hit, rfl, rfl⟩, Nat.succ_ne_self _⟩, ?_, q⟩
    intro b hb
    have hle : s1.heap.objs.size ≤ b := by
      rcases (show b = s1.heap.objs.size + 1 ∨ b = s1.heap.objs.size by simpa using hb) with z | z
      · rw [z]; exact Nat.le_succ _
      · rw [z]; exact Nat.le_refl _
    exact I1.fpOk hle (I1.hok.fresh hle)
end UG


set_option Elab.async false
set_option linter.all false
set_option maxRecDepth 100000
set_option maxHeartbeats 4000000
namespace UG
open PySem PySem.Spec PyProof.Rows L2

/-! ### t[::-1], t a tuple -/
theorem fm_congr {α β : Type} {f g : α → Option β} : ∀ {l : List α}, (∀ x ∈ l, f x = g x) → l.filterMap f = l.filterMap g
  | [], _ => rfl
  | x :: r, h => by
    rw [List.filterMap_cons, List.filterMap_cons, h x List.mem_cons_self, fm_congr fun y hy => h y (List.mem_cons_of_mem _ hy)]
theorem adj_back (n : Nat) : Builtin.Slice.sliceAdjust none none (-1) (n : Int) = ((n : Int) - 1, -1) := rfl
theorem plc_back (n : Nat) : Builtin.Slice.slicePlaces ((n : Int) - 1) (-1) (-1) = n := by
  unfold Builtin.Slice.slicePlaces
  rw [if_neg (by decide)]
  by_cases h : (n : Int) - 1 > -1
  · rw [if_pos h]
    have e : ((n : Int) - 1 - -1 - 1) / (- -1) + 1 = (n : Int) := by
      rw [show (- -1 : Int) = 1 by decide, Int.ediv_one]
      omega
    rw [e]
    rfl
  · rw [if_neg h]
    have e : n = 0 := by omega
    subst e
    rfl
section
variable {prog : Program} {w : World} {A : Around} {E : Value → Shared → Prop} {s : Shared}
theorem applied_back {sl : Addr} {vl vu vs : Value} {n : Nat} {Q : Int × Int × Nat → Shared → Prop} (hs : s.heap.IsSliceOf sl vl vu vs) (pl : IsPart vl none) (pu : IsPart vu none) (ps : IsPart vs (some (-1)))
    (h : Q ((n : Int) - 1, -1, n) s) : wpAny (model prog w) A (Builtin.Slice.sliceApplied (.ref sl) (pure (n : Int))) Q E s := by
  obtain ⟨ob, hob, hc, hd⟩ := id hs
  unfold Builtin.Slice.sliceApplied Builtin.Slice.sliceFields
  refine wpAny_bind (wpAny_bind (wpAny_field hob hd (x := vl) rfl (wpAny_bind (wpAny_field hob hd (x := vu) rfl (wpAny_bind (wpAny_field hob hd (x := vs) rfl (wpAny_pure ?_)))))))
  refine wpAny_bind (HT.slicePart_ ps ?_)
  show wpAny _ _ (if ((-1 : Int) == 0) = true then _ else _) _ _ s
  rw [if_neg (by decide)]
  refine wpAny_bind (HT.slicePart_ pl (wpAny_bind (HT.slicePart_ pu (wpAny_bind (wpAny_pure ?_)))))
  show wpAny _ _ (match Builtin.Slice.sliceAdjust none none (-1) (n : Int) with | (lo, hi) => pure (lo, (-1 : Int), Builtin.Slice.slicePlaces lo hi (-1))) _ _ s
  rw [adj_back]
  show wpAny _ _ (pure ((n : Int) - 1, (-1 : Int), Builtin.Slice.slicePlaces ((n : Int) - 1) (-1) (-1))) _ _ s
  rw [plc_back]
  exact wpAny_pure h
theorem pick_back (xs : Array Value) : ((List.range xs.size).filterMap fun (m : Nat) => xs[((xs.size : Int) - 1 + (m : Int) * -1).toNat]?).toArray = xs.toList.reverse.toArray := by
  have e : ∀ m ∈ List.range xs.size, (fun (m : Nat) => xs[((xs.size : Int) - 1 + (m : Int) * -1).toNat]?) m = (fun m => xs[xs.size - 1 - m]?) m := by
    intro m hm
    have hm' := List.mem_range.mp hm
    have q : ((xs.size : Int) - 1 + (m : Int) * -1).toNat = xs.size - 1 - m := by omega
    show xs[((xs.size : Int) - 1 + (m : Int) * -1).toNat]? = _
    rw [q]
  have e2 : (List.range xs.size).filterMap (fun (m : Nat) => xs[((xs.size : Int) - 1 + (m : Int) * -1).toNat]?) = (List.range xs.size).filterMap (fun m => xs[xs.size - 1 - m]?) := fm_congr e
  rw [e2]
  have e3 : (List.range xs.size).filterMap (fun m => xs[xs.size - 1 - m]?) = ((List.range xs.size).map (fun k => xs.size - 1 - k)).filterMap (xs[·]?) := by
    rw [List.filterMap_map]
    rfl
  rw [e3, PySem.W.krv_range, List.filterMap_reverse, PySem.W.krv_all]
theorem getItem_tupBack {t sl : Addr} {items : Array Value} {vl vu vs : Value} {Q : Value → Shared → Prop} (ht : IsTup s.heap t items) (hs : s.heap.IsSliceOf sl vl vu vs) (pl : IsPart vl none) (pu : IsPart vu none) (ps : IsPart vs (some (-1)))
    (h : Q (.ref s.heap.objs.size) { s with heap := s.heap.push { cls := .type "tuple", data := .seq items.toList.reverse.toArray } })
    (hsz : items.size ≤ sizeLine) : wpAny (model prog w) A (getItem (.ref t) (.ref sl)) Q E s := by
  obtain ⟨os, hos, hcs, hds⟩ := id hs
  have tS : s.TypeIs (.ref sl) "slice" := ⟨os, hos, hcs⟩
  unfold getItem
  try with_reducible refine wpAny_holding ?_
  first | refine wpAny_bind (wpAny_pure ?_) | skip
  refine wpAny_bind (wpAny_sequenceKey ht.typeIs (by decide) ?_)
  refine wpAny_bind (wpAny_callSpecial?_slot (name := Str.ofString "__getitem__") ht.typeIs PyProof.Rows.slot_tuple_getitem (wpAny_call_entry PyProof.Rows.slot_tuple_getitem ht.typeIs entry_tuple_getitem ?_ (args_tuple_getitem _ _)))
  show wpAny _ _ (Builtin.Tuple.tupleItemsOf (.ref t) >>= _) _ _ s
  refine wpAny_bind (tupleItemsOf_ ht ?_)
  refine wpAny_bind (wpAny_typeOf tS ?_)
  rw [if_pos (by decide)]
  refine wpAny_bind (applied_back hs pl pu ps ?_)
  have no : ¬ ((((items.size : Int) - 1) == 0 && (-1 : Int) == 1 && items.size == items.size) = true) := by
    intro q
    rw [Bool.and_eq_true, Bool.and_eq_true] at q
    exact absurd q.1.2 (by decide)
  show wpAny _ _ (if (((items.size : Int) - 1) == 0 && (-1 : Int) == 1 && items.size == items.size) = true then _ else _) _ _ s
  rw [if_neg no]
  rw [pick_back]
  have fit : sizeOk (.seq items.toList.reverse.toArray) := by
    show items.toList.reverse.toArray.size ≤ sizeLine
    simpa using hsz
  exact wpAny_bind (m := Builtin.Tuple.tupleExact _) (wpAny_newObj_type (wpAny_pure ⟨_, rfl, wpAny_pure h⟩) fit)
end
section
variable {X : Cx}
def tRevT (K : PySem.W.Frag) (te : TE) : TE := fun σ H Q => te σ H fun x H1 => ∃ a xs, x = .ref a ∧ SqT K H1 a xs ∧ ∀ p, H1 p = none → Q (.ref p) (upd H1 p (.tup xs.reverse))
theorem pe_revT {e : Expr} {te : TE} {k : Nat} {p1 p2 p3 pos : Pos} (he : PE X e te) : PE X (.Subscript e (.Slice none none (some (.UnaryOp .USub (.Constant (.int 1) k p1) p2)) p3) pos) (tRevT X.K te) := by
  refine ⟨fun pins s σ H Q I h => ?_⟩
  refine Subscript_ (thn (he.run pins s σ H _ I h) ?_)
  rintro v s1 ⟨x, H1, I1, r1, a, xs, rfl, hx, q⟩
  cases r1
  have part : PO X (some (.UnaryOp .USub (.Constant (.int 1) k p1) p2)) (tPart (tUn (rU fun i => .int (-i)) (tC (.int 1)))) := po_some (pe_un un_neg pe_int)
  refine wpAny_Slice (thn (po_none.run pins s1 σ H1 (fun o H2 => o = none ∧ H2 = H1) I1 ⟨rfl, rfl⟩) ?_)
  rintro vl s2 ⟨l, H2, I2, pl, rfl, rfl⟩
  refine thn (po_none.run pins s2 σ H2 (fun o H3 => o = none ∧ H3 = H2) I2 ⟨rfl, rfl⟩) ?_
  rintro vu s3 ⟨u, H3, I3, pu, rfl, rfl⟩
  refine thn (part.run pins s3 σ H3 (fun o H4 => o = some (-1) ∧ H4 = H3) I3 ⟨1, rfl, -1, rfl, rfl, rfl⟩) ?_
  rintro vs s4 ⟨o, H4, I4, ps, rfl, rfl⟩
  have I5 : Inv X pins σ H4 { s4 with heap := s4.heap.push { cls := .type "slice", data := .fields #[vl, vu, vs] } } := I4.kept (t' := s4.toks) fun b ob e => Heap.get?_push_of_some _ e
  obtain ⟨its, r, ht, hz⟩ := I5.tuple hx
  have hl := r.length
  show wpAny _ X.A (subscriptTail e (.Slice none none (some (.UnaryOp .USub (.Constant (.int 1) k p1) p2)) p3) (.ref a) (.ref s4.heap.objs.size)) _ X.xe { s4 with heap := s4.heap.push { cls := .type "slice", data := .fields #[vl, vu, vs] } }
  refine tail_any (ops := [.ref a, .ref s4.heap.objs.size]) ht.typeIs PyProof.Rows.slot_tuple_getitem.lookup ?_ (by with_unfolding_all rfl)
  refine getItem_tupBack ht (Heap.IsSliceOf.new _ vl vu vs) pl pu ps ?_ (by rw [List.size_toArray]; omega)
  refine ⟨.ref _, _, I5.laid (t' := s4.toks) (o := .tup xs.reverse) (fun b ob e => Heap.get?_push_of_some _ e) (Nat.le_refl _) ?_, rfl, q _ (I5.hok.fresh (Nat.le_refl _))⟩
  exact ⟨by rw [List.length_reverse]; exact hz, _, r.reverse, IsTup.new _ _⟩

/-- t * n, some million items at most -/
def rRepB (K : PySem.W.Frag) : R2 := fun x y H Q => ∃ l k xs, x = .ref l ∧ y = .int k ∧ SqT K H l xs ∧ xs ≠ [] ∧ 2 ≤ k ∧ k ≤ 1000000 ∧ ((xs.length : Nat) : Int) * k ≤ 1000000 ∧
  ∀ p, H p = none → Q (.ref p) (upd H p (.tup (List.replicate k.toNat xs).flatten))
theorem op_repB : OpR X (binaryOp .Mult) (rRepB X.K) := by
  intro pins s σ H x y v u Q I rx ry h
  obtain ⟨l, k, xs, rfl, rfl, hT, hne, h1, h2, hz, q⟩ := h
  cases rx
  obtain ⟨t, rfl⟩ := ry
  obtain ⟨its, r, ⟨⟨cls, dd, data, sl⟩, ho, hc, n, hd⟩, hs⟩ := I.tuple hT
  simp only at hc hd
  subst hc hd
  have len : its.length = xs.length := r.length.symm
  have its0 : its ≠ [] := by
    rintro rfl
    exact hne (List.eq_nil_of_length_eq_zero len.symm)
  have emp : its.toArray.isEmpty = false := by
    cases its with
    | nil => exact absurd rfl its0
    | cons a b => rfl
  have sz : its.toArray.size = xs.length := by rw [List.size_toArray, len]
  have kk : ((k.toNat : Nat) : Int) = k := by omega
  have prod : k.toNat * xs.length ≤ 1000000 := by
    have q1 : ((k.toNat * xs.length : Nat) : Int) ≤ 1000000 := by
      rw [Int.natCast_mul, kk, Int.mul_comm]
      exact hz
    omega
  have bound : ((its.toArray.size : Nat) : Int) * k ≤ 1000000 := by rw [sz]; exact hz
  have flat : (List.replicate k.toNat its).flatten.length ≤ sizeLine := by
    rw [PyProof.Rows.lm_len_rep_flat, len, sizeLine_eq]
    omega
  have a0 : (decide (k < -(2 ^ 63)) || decide (k ≥ 2 ^ 63)) = false := by
    rw [decide_eq_false (by omega), decide_eq_false (by omega)] <;> rfl
  have a1 : (its.toArray.isEmpty || k == 1) = false := by
    rw [emp, Bool.false_or]
    exact beq_eq_false_iff_ne.mpr (by omega)
  have a2 : (decide (k ≤ 0) || its.toArray.isEmpty) = false := by
    rw [emp, Bool.or_false]
    exact decide_eq_false (by omega)
  have a4 : Builtin.Tuple.tupleTooMany (((its.toArray.size : Nat) : Int) * k) = false := by
    unfold Builtin.Tuple.tupleTooMany
    rw [sizeLine_eq]
    exact decide_eq_false (by omega)
  have mul := tuple_mulW l its.toArray n dd sl k t a0 a1 a2 (by omega) a4 (by rw [size_rep, List.size_toArray]; exact flat)
  have fin : EP X pins σ Q (Value.ref s.heap.objs.size) { s with heap := s.heap.push { cls := Value.type "tuple", data := Data.seq (List.foldl (fun x1 x2 => x1 ++ x2) #[] (List.replicate k.toNat its.toArray)) }, toks := s.toks } := by
    rw [size_rep]
    refine ⟨.ref s.heap.objs.size, _, I.laid (t' := s.toks) (o := .tup (List.replicate k.toNat xs).flatten) (fun b ob e => Heap.get?_push_of_some _ e) (Nat.le_refl _) ?_, rfl, q _ (I.hok.fresh (Nat.le_refl _))⟩
    refine ⟨?_, _, r.rep k.toNat, IsTup.new _ _⟩
    rw [PyProof.Rows.lm_len_rep_flat, sizeLine_eq]
    omega
  have tl : s.TypeIs (.ref l) "tuple" := ⟨_, ho, rfl⟩
  exact wpAny_binaryOp_repeat_ref (T := "tuple") (U := "int") (by decide) tl (fun s' => typeIs_int s' k t) noFill_tuple_mul F.fills_int_mul F.slot_int_rmul repeat_tuple F.slot_int_index.lookup
    (call_meets F.slot_int_rmul (typeIs_int s k t) F.entry_int_rmul (F.args_int_rmul_2 _ _) (int_rmul_tuple k t l its.toArray n dd sl) ⟨ho, rfl, tl, call_meets F.slot_tuple_mul tl F.entry_tuple_mul (F.args_tuple_mul_2 _ _) mul ⟨ho, fin⟩⟩)
end
end UG


set_option Elab.async false
set_option linter.all false
set_option maxRecDepth 100000
set_option maxHeartbeats 4000000
/-! d.setdefault(t, e), t a tuple of ints and texts -/
namespace UG
open PySem PySem.Spec PyProof.Rows L2
section
variable {X : Cx} {pins : List (Addr × Obj)} {σ : L2.St} {H : Hp} {sh : Shared} {D b : Addr} {r : Value} {d : V} {k : List Key} {A : Around} {E : Value → Shared → Prop} {kvs : List (List Key × V)} {Q : Value → Shared → Prop}
theorem setd_tup (room : A.units + 1 < cLine) (J : Inv X pins σ H sh) (hD : H D = some (.dT kvs)) (hb : H b = some (.tup (k.map kV))) (rd : RelV d r) (small : kvs.length < sizeLine)
    (there : ∀ v, valV kvs k = some v → ∀ u s1, Inv X pins σ H s1 → RelV v u → Q u s1)
    (gone : valV kvs k = none → ∀ s1, Inv X pins σ (upd H D (.dT (putK kvs k d))) s1 → Q r s1) :
    wpAny (model X.prog X.w) A (call (.builtin "dict.setdefault") [.ref D, .ref b, r]) Q E sh := by
  obtain ⟨z0, nsys, ents, kt, dict⟩ := dt_of J.hok hD
  have le0 : ents.length ≤ sizeLine := by have := Paired.length kt; omega
  have le1 : (putK kvs k d).length ≤ sizeLine := by have := length_putK kvs k d; omega
  have vk := kt.val k
  refine call_setdefault_heap (hsz := le0) (tupleKind_room_in1 room) (key_of J.hok hb) nsys dict (fun pr found => ?_) fun no h1 dict1 but => ?_
  · rw [found] at vk
    cases e0 : valV kvs k with
    | none => rw [e0] at vk; exact vk.elim
    | some v0 =>
      rw [e0] at vk
      exact there v0 e0 _ _ (J.tok _) vk
  · have e0 : valV kvs k = none := by
      cases q : valV kvs k with
      | none => rfl
      | some v0 =>
        rw [q, no] at vk
        exact (show False from vk).elim
    obtain ⟨ob, es, ep, at1, x2, x3, x4, _, x5⟩ := dict1
    refine gone e0 _ (d_write J (by rw [hD]; exact True.intro) but ⟨ob, at1⟩ ⟨le1, nsys, _, (kt.put k hb rd).keeps fun c ys ec => ?_, ob, es, ep, at1, x2, x3, x4, x5⟩)
    rw [upd_ne (ne_of ec hD (fun w => nomatch w))]
    exact ec
end
/-- d.setdefault(t, e) -/
def tSetdT (td ty tx : TE) : TE := fun σ H Q => td σ H fun x H1 => (∃ D kvs, x = .ref D ∧ H1 D = some (.dT kvs)) ∧ ty σ H1 fun y H2 => tx σ H2 fun z H3 => ∃ (D b : Addr) (kvs : List (List Key × V)) (k : List Key), x = .ref D ∧ y = .ref b ∧ H3 D = some (.dT kvs) ∧ H3 b = some (.tup (k.map kV)) ∧ kvs.length < sizeLine ∧
  (∀ v, valV kvs k = some v → Q v H3) ∧ (valV kvs k = none → Q z (upd H3 D (.dT (putK kvs k z))))
section
variable {X : Cx} {o e f : Expr} {td ty tx : TE} {apos cpos : Pos}
theorem pe_setdT (room : X.A.units + 1 < cLine) (ho : PE X o td) (he : PE X e ty) (hf : PE X f tx) (m : M2 X o "setdefault" apos e f cpos) :
    PE X (.Call (.Attribute o "setdefault" apos) [e, f] [] cpos) (tSetdT td ty tx) := by
  constructor
  intro pins sh σ H Q J hyp
  refine wpAny_Call_method m.base m.few m.line PySem.F.plainAttrs_dict PySem.F.slot_dict_setdefault PySem.F.type_dict_setdefault (thn (ho.run pins sh σ H _ J hyp) ?_)
  rintro w0 sA ⟨x, HA, JA, rx, ⟨D, kvs0, rfl, hD0⟩, qA⟩
  have ew : w0 = Value.ref D := rx
  subst ew
  obtain ⟨ty1, ty2, _⟩ := isD_at JA (.inr ⟨kvs0, .inl hD0⟩)
  refine ⟨ty1, ty2, ?_⟩
  rw [m.trees]
  refine Calls.callWith_builtin rfl (Calls.evalArgs_plain (Calls.spliced_cons (thn (he.run pins sA σ HA _ JA qA) ?_)))
  rintro w1 sB ⟨y, HB, JB, ry, qB⟩
  refine Calls.spliced_cons (thn (hf.run pins sB σ HB _ JB qB) ?_)
  rintro w2 sC ⟨z, HC, JC, rz, D1, b, kvs, k, eD, ey, hD, hb, small, q1, q2⟩
  cases eD
  subst ey
  have e1 : w1 = Value.ref b := ry
  subst e1
  exact Calls.spliced_nil (setd_tup room JC hD hb rz small (fun v hv u s1 J1 r1 => ⟨v, _, J1, r1, q1 v hv⟩) fun hn s1 J1 => ⟨z, _, J1, rz, q2 hn⟩)
end
/-! what putK leaves -/
theorem putK_mem {K : Type} [DecidableEq K] {kvs : List (K × V)} {k : K} {v : V} {e : K × V} (h : e ∈ putK kvs k v) : e ∈ kvs ∨ e.2 = v := by
  unfold putK at h
  split at h
  · obtain ⟨e0, h0, rfl⟩ := List.mem_map.mp h
    by_cases q : e0.1 = k
    · right; rw [if_pos q]
    · left; rw [if_neg q]; exact h0
  · rcases List.mem_append.mp h with h | h
    · exact .inl h
    · right; rw [List.mem_singleton.mp h]
theorem valV_mem {K : Type} [DecidableEq K] {kvs : List (K × V)} {k : K} {v : V} (h : valV kvs k = some v) : ∃ k', (k', v) ∈ kvs := by
  unfold valV at h
  obtain ⟨e, he, rfl⟩ := Option.map_eq_some_iff.mp h
  exact ⟨e.1, List.mem_of_find?_eq_some he⟩
end UG


set_option Elab.async false
set_option linter.all false
set_option maxRecDepth 100000
set_option maxHeartbeats 4000000
namespace K04
open PySem PySem.Spec PyProof.Rows L2

def topS (i : Nat) : Stmt := PySem.Challenge.pw_undoneall_k04_whole_programs_checked.main.body.getD i (.Pass ⟨0, 0, 0, 0⟩)

/-! ### data -/
def tyN : PyData → String
  | .none => "NoneType"
  | .bool _ => "bool"
  | .int _ => "int"
  | .str _ => "str"
  | .list _ => "list"
  | .tuple _ => "tuple"
  | .dict _ => "dict"
theorem dp_ty {K : PySem.W.Frag} {H : Hp} {v : V} {d : PyData} (h : Dp K H v d) : TyX K H v (.type (tyN d)) := by
  cases h with
  | non => exact .base .non
  | bl b => exact .base (.bl b)
  | int i => exact .base (.int i)
  | str x => exact .base (.str x)
  | lst hs _ =>
    rcases hs with (h | ⟨o, h⟩) | ⟨o, its, n, hk, hc, _⟩
    · exact .base (.lst h)
    · exact .base (.frz h)
    · exact .kList hk hc
  | tup hs _ =>
    rcases hs with (h | ⟨o, h⟩) | ⟨o, its, n, hk, hc, _⟩
    · exact .base (.tup h)
    · exact .fTuple h
    · exact .kTuple hk hc
/-- all but tables stay -/
theorem sq_ext {K : PySem.W.Frag} {H H' : Hp} {a : Addr} {xs : List V} (e : LamX.ExtN H H') (h : SqL K H a xs) : SqL K H' a xs := by
  rcases h with (h | ⟨o, h⟩) | h
  · exact .inl (.inl (e _ _ h (fun _ z => by cases z)))
  · exact .inl (.inr ⟨o, e _ _ h (fun _ z => by cases z)⟩)
  · exact .inr h
theorem sqt_ext {K : PySem.W.Frag} {H H' : Hp} {a : Addr} {xs : List V} (e : LamX.ExtN H H') (h : SqT K H a xs) : SqT K H' a xs := by
  rcases h with (h | ⟨o, h⟩) | h
  · exact .inl (.inl (e _ _ h (fun _ z => by cases z)))
  · exact .inl (.inr ⟨o, e _ _ h (fun _ z => by cases z)⟩)
  · exact .inr h
mutual
theorem dp_ext {K : PySem.W.Frag} {H H' : Hp} (e : LamX.ExtN H H') : ∀ (d : PyData) {v : V}, Dp K H v d → Dp K H' v d
  | .none, _, h => by cases h; exact .non
  | .bool _, _, h => by cases h; exact .bl _
  | .int _, _, h => by cases h; exact .int _
  | .str _, _, h => by cases h; exact .str _
  | .list ds, _, h => by
    cases h with
    | lst hs ha => exact .lst (sq_ext e hs) (dps_ext e ds ha)
  | .tuple ds, _, h => by
    cases h with
    | tup hs ha => exact .tup (sqt_ext e hs) (dps_ext e ds ha)
  | .dict _, _, h => by cases h
theorem dps_ext {K : PySem.W.Frag} {H H' : Hp} (e : LamX.ExtN H H') : ∀ (ds : List PyData) {vs : List V}, DpAll K H vs ds → DpAll K H' vs ds
  | [], _, h => by cases h; exact .nil
  | d :: ds, _, h => by
    cases h with
    | cons h1 h2 => exact .cons (dp_ext e d h1) (dps_ext e ds h2)
end
theorem same_ext {H H' : Hp} (h : Same H H') : LamX.ExtN H H' := fun b o e _ => h b o e
theorem dps_len {K : PySem.W.Frag} {H : Hp} : ∀ {vs : List V} {ds : List PyData}, DpAll K H vs ds → vs.length = ds.length
  | _, _, .nil => rfl
  | _, _, .cons _ t => congrArg Nat.succ (dps_len t)
theorem dps_get {K : PySem.W.Frag} {H : Hp} : ∀ {vs : List V} {ds : List PyData} {i : Nat} {d : PyData}, DpAll K H vs ds → ds[i]? = some d → ∃ v, vs[i]? = some v ∧ Dp K H v d
  | _, _, _, _, .nil, e => by simp at e
  | _, _, 0, _, .cons h t, e => by
    simp at e
    subst e
    exact ⟨_, rfl, h⟩
  | _, _, i + 1, _, .cons h t, e => by
    obtain ⟨v, h1, h2⟩ := dps_get (i := i) t (by simpa using e)
    exact ⟨v, by simpa using h1, h2⟩
theorem dps_get' {K : PySem.W.Frag} {H : Hp} {vs : List V} {ds : List PyData} {i : Nat} {v : V} (h : DpAll K H vs ds) (e : vs[i]? = some v) : ∃ d, ds[i]? = some d ∧ Dp K H v d := by
  have hl := dps_len h
  have hi := (List.getElem?_eq_some_iff.mp e).1
  have e2 : ds[i]? = some (ds[i]'(by omega)) := List.getElem?_eq_getElem (by omega)
  obtain ⟨v', h1, h2⟩ := dps_get h e2
  rw [e] at h1
  cases h1
  exact ⟨_, e2, h2⟩
theorem same_new {H : Hp} {p : Addr} (h : H p = none) (o : HO) : Same H (upd H p o) := fun b u q => by rw [upd_ne (ne_of_none q h)]; exact q

/-! ### what the judges tell -/
def rowD (d : PyData) (lo hi : Int) : Bool := match d with
  | .tuple ds => decide (lo ≤ (ds.length : Int)) && decide ((ds.length : Int) ≤ hi)
  | _ => false
def smallL : Str := "abcdefghijklmnopqrstuvwxyz"
def wordS : Str := "abcdefghijklmnopqrstuvwxyz0123456789"
def keptW : List Str := ["call", "choose", "do", "ensure", "finally", "letters", "loop", "or", "proc", "return", "undo"]

/-! ### the module's facts -/
structure Bl (K : PySem.W.Frag) (mg : Str → Option Value) : Prop where
  isi : mg "isinstance" = none
  int : mg "int" = none
  bool : mg "bool" = none
  str : mg "str" = none
  tuple : mg "tuple" = none
  len : mg "len" = none
  all : mg "all" = none
  range : mg "range" = none
  enumerate : mg "enumerate" = none
  list : mg "list" = none
  set : mg "set" = none
  repr : mg "repr" = none
  MOST_SIGNS : ∃ t, mg "MOST_SIGNS" = some (.int 10 t)
  MOST_LETTERS : ∃ t, mg "MOST_LETTERS" = some (.int 20 t)
  MOST_PROCEDURES : ∃ t, mg "MOST_PROCEDURES" = some (.int 8 t)
  LEAST_BODIES : ∃ t, mg "LEAST_BODIES" = some (.int 2 t)
  MOST_BODIES : ∃ t, mg "MOST_BODIES" = some (.int 6 t)
  MOST_IN_BODY : ∃ t, mg "MOST_IN_BODY" = some (.int 60 t)
  MOST_STATEMENTS : ∃ t, mg "MOST_STATEMENTS" = some (.int 200 t)
  LONGEST_CHAIN : ∃ t, mg "LONGEST_CHAIN" = some (.int 12 t)
  SMALL_LETTERS : ∃ t, mg "SMALL_LETTERS" = some (.str smallL t)
  WORD_SIGNS : ∃ t, mg "WORD_SIGNS" = some (.str wordS t)
  KEPT_WORDS : ∃ a, mg "KEPT_WORDS" = some (.ref a) ∧ ∀ H, SqT K H a (keptW.map V.str)

def isiN (c n : String) : Bool := n == c || (c == "int" && n == "bool")
def isiD (c : String) (d : PyData) : Bool := isiN c (tyN d)
theorem kit_names : ∀ n ∈ ["NoneType", "bool", "int", "str", "list", "tuple", "dict"], ∀ c ∈ ["int", "bool", "str", "tuple"], kitB n c = some (isiN c n) := by decide +kernel
theorem kit_d {K : PySem.W.Frag} (d : PyData) {c : String} (hc : c ∈ ["int", "bool", "str", "tuple"]) : PySem.W.kitOne K (.type (tyN d)) (.type c) = some (isiD c d) :=
  kit_ty (kit_names (tyN d) (by cases d <;> simp [tyN]) c hc)
section
variable {X : Cx}
/-- isinstance(x, T) of data -/
def rIsD (K : PySem.W.Frag) (c : String) : List V → Hp → VK → Prop := fun xs H Q => ∃ v d, xs = [v, .ty c] ∧ Dp K H v d ∧ Q (.bl (isiD c d)) H
theorem call_isD (c : String) (hc : c ∈ ["int", "bool", "str", "tuple"]) : CallR X (.builtin "isinstance") (rIsD X.K c) := by
  intro pins s σ H xs us Q I r h
  obtain ⟨v, d, rfl, hd, q⟩ := h
  exact call_isi pins s σ H _ us Q I r ⟨v, .ty c, _, _, _, rfl, .ty c, dp_ty hd, kit_d d hc, q⟩
/-- isinstance(e, T) as a value -/
theorem pe_isD {e : Expr} {te : TE} {c : String} {x : Str} {p1 p2 p3 : Pos} (B : Bl X.K X.mg) (he : PE X e te) (hg : Gl X "isinstance") (hx : Gl X x) (hm : X.mg x = none) (hb : bootBuiltins x = some (.type c)) (hc : c ∈ ["int", "bool", "str", "tuple"])
    (hn : x ≠ "__name__" := by decide) (hdb : (x == ("__debug__" : Str)) = false := by decide) (hs1 : starEach [e, .Name x p3] X.env = (false, eval e X.env) :: starEach [.Name x p3] X.env := by rfl)
    (hs2 : starEach [.Name x p3] X.env = (false, eval (.Name x p3) X.env) :: starEach [] X.env := by rfl) (hpl : (backTo p2 (starEach [.Name x p3] X.env)).any (·.1) = false := by rfl) :
    PE X (.Call (.Name "isinstance" p1) [e, .Name x p3] [] p2) (tCB (rIsD X.K c) (tCons te (tCons (tC (.ty c)) tNil))) :=
  pe_callB (pos := p2) (p := p1) (call_isD c hc) hg B.isi (by decide +kernel) (pa_cons he (pa_cons (pe_bltn (v := .ty c) (pos := p3) hx hm hb rfl hn hdb) pa_nil hs2) hs1) (by decide) (by decide) hs1 hpl
end
end K04


set_option Elab.async false
set_option linter.all false
set_option maxRecDepth 100000
set_option maxHeartbeats 8000000
namespace K04
open PySem PySem.Spec PyProof.Rows L2
/-! ### the heap without some addresses -/
def cutL (as : List Addr) (H : Hp) : Hp := fun p => if p ∈ as then none else H p
theorem cutL_ext {as : List Addr} {H : Hp} : Same (cutL as H) H := fun p o h => by
  unfold cutL at h
  split at h
  · cases h
  · exact h
theorem cutL_get {as : List Addr} {H : Hp} {p : Addr} (n : p ∉ as) : cutL as H p = H p := if_neg n
/-- all but some addresses stays -/
def Kp (as : List Addr) (H H' : Hp) : Prop := ∀ p o, p ∉ as → H p = some o → H' p = some o
theorem Kp.refl {as : List Addr} (H : Hp) : Kp as H H := fun _ _ _ h => h
theorem Kp.trans {as : List Addr} {H H' H2 : Hp} (a : Kp as H H') (b : Kp as H' H2) : Kp as H H2 := fun p o x h => b p o x (a p o x h)
theorem Kp.of_same {as : List Addr} {H H' : Hp} (s : Same H H') : Kp as H H' := fun p o _ h => s p o h
theorem Kp.put {as : List Addr} {H : Hp} {a : Addr} (o : HO) (ha : a ∈ as) : Kp as H (upd H a o) := fun p o' x h => by
  rw [upd_ne (fun z => x (by rw [z]; exact ha))]
  exact h
theorem Kp.new {as : List Addr} {H : Hp} {a : Addr} (o : HO) (ha : H a = none) : Kp as H (upd H a o) := Kp.of_same (same_new ha o)
theorem Kp.mono {as bs : List Addr} {H H' : Hp} (h : Kp as H H') (s : ∀ a ∈ as, a ∈ bs) : Kp bs H H' := fun p o x e => h p o (fun z => x (s p z)) e
theorem Kp.cut {as : List Addr} {H H' : Hp} (h : Kp as H H') : Same (cutL as H) (cutL as H') := fun p o x => by
  unfold cutL at x ⊢
  split at x
  · cases x
  · next n =>
    rw [if_neg n]
    exact h p o n x
theorem Kp.same {as : List Addr} {H H' H0 : Hp} (s : Same H0 (cutL as H)) (h : Kp as H H') : Same H0 (cutL as H') := s.trans h.cut
theorem cut_same {as : List Addr} {H H' : Hp} (s : Same H H') (n : ∀ a ∈ as, H a = none) : Same H (cutL as H') := fun p o e => by
  rw [cutL_get (fun z => by rw [n p z] at e; cases e)]
  exact s p o e
theorem cut_back {as : List Addr} {H H0 : Hp} (s : Same H0 (cutL as H)) : Same H0 H := s.trans cutL_ext
theorem cut_le {as bs : List Addr} {H : Hp} (s : ∀ a ∈ as, a ∈ bs) : Same (cutL bs H) (cutL as H) := fun p o e => by
  by_cases h : p ∈ bs
  · unfold cutL at e; rw [if_pos h] at e; cases e
  · rw [cutL_get h] at e
    rw [cutL_get (fun z => h (s p z))]
    exact e
theorem cut_upd {as : List Addr} {H : Hp} {a : Addr} {o : HO} (n : a ∉ as) : cutL as (upd H a o) a = some o := by rw [cutL_get n]; exact upd_same
theorem sameE {H H' : Hp} (s : Same H H') : LamX.ExtN H H' := same_ext s
/-! ### programs -/
inductive St where
  | dd (x : Str)
  | ud (x : Str)
  | cl (x : Str)
  | ch (bs : List (List St))
  | lp (b : List St)
  | rt
  | en (b c : List St)
mutual
def St.d : St → PyData
  | .dd x => .tuple [.str "do", .str x]
  | .ud x => .tuple [.str "undo", .str x]
  | .cl x => .tuple [.str "call", .str x]
  | .ch bs => .tuple [.str "choose", .tuple (dss bs)]
  | .lp b => .tuple [.str "loop", .tuple (ds b)]
  | .rt => .tuple [.str "return"]
  | .en b c => .tuple [.str "ensure", .tuple (ds b), .tuple (ds c)]
def ds : List St → List PyData
  | [] => []
  | s :: r => s.d :: ds r
def dss : List (List St) → List PyData
  | [] => []
  | b :: r => .tuple (ds b) :: dss r
end
theorem ds_map : ∀ b : List St, ds b = b.map St.d
  | [] => rfl
  | s :: r => by rw [ds, ds_map r]; rfl
theorem dss_map : ∀ b : List (List St), dss b = b.map fun b => .tuple (ds b)
  | [] => rfl
  | s :: r => by rw [dss, dss_map r]; rfl
theorem ds_len (b : List St) : (ds b).length = b.length := by rw [ds_map, List.length_map]
theorem dss_len (b : List (List St)) : (dss b).length = b.length := by rw [dss_map, List.length_map]
/-- the bodies of a statement -/
def St.bs : St → List (List St)
  | .ch bs => bs
  | .lp b => [b]
  | .en b c => [b, c]
  | _ => []
-- how many statements
mutual
def St.n : St → Nat
  | .ch bs => 1 + nss bs
  | .lp b => 1 + ns b
  | .en b c => 1 + (ns b + ns c)
  | _ => 1
def ns : List St → Nat
  | [] => 0
  | s :: r => s.n + ns r
def nss : List (List St) → Nat
  | [] => 0
  | b :: r => ns b + nss r
end
-- the longest chain
mutual
def St.k : St → Nat
  | .ch bs => 1 + kss bs
  | .lp b => 1 + ks b
  | .en b c => 1 + max (ks b) (ks c)
  | _ => 1
def ks : List St → Nat
  | [] => 0
  | s :: r => max s.k (ks r)
def kss : List (List St) → Nat
  | [] => 0
  | b :: r => max (ks b) (kss r)
end
theorem n_bs : ∀ s : St, s.n = 1 + nss s.bs
  | .dd _ | .ud _ | .cl _ | .rt | .ch _ => rfl
  | .lp b => by simp [St.n, St.bs, nss]
  | .en b c => by simp [St.n, St.bs, nss]
theorem k_bs : ∀ s : St, s.k = 1 + kss s.bs
  | .dd _ | .ud _ | .cl _ | .rt | .ch _ => rfl
  | .lp b => by simp [St.k, St.bs, kss]
  | .en b c => by simp [St.k, St.bs, kss]
theorem n_pos (s : St) : 1 ≤ s.n := by rw [n_bs]; omega
theorem len_ns : ∀ b : List St, b.length ≤ ns b
  | [] => Nat.le_refl _
  | s :: r => by
    have := len_ns r
    have := n_pos s
    rw [List.length_cons, ns]
    omega
theorem ns_mem : ∀ {b : List St} {s : St}, s ∈ b → s.n ≤ ns b
  | s :: r, _, h => by
    rw [ns]
    rcases List.mem_cons.mp h with rfl | h
    · omega
    · have := ns_mem h; omega
theorem nss_mem : ∀ {b : List (List St)} {s : List St}, s ∈ b → ns s ≤ nss b
  | s :: r, _, h => by
    rw [nss]
    rcases List.mem_cons.mp h with rfl | h
    · omega
    · have := nss_mem h; omega
theorem ks_mem : ∀ {b : List St} {s : St}, s ∈ b → s.k ≤ ks b
  | s :: r, _, h => by
    rw [ks]
    rcases List.mem_cons.mp h with rfl | h
    · omega
    · have := ks_mem h; omega
theorem kss_mem : ∀ {b : List (List St)} {s : List St}, s ∈ b → ks s ≤ kss b
  | s :: r, _, h => by
    rw [kss]
    rcases List.mem_cons.mp h with rfl | h
    · omega
    · have := kss_mem h; omega
theorem ks_pos : ∀ {b : List St}, b ≠ [] → 1 ≤ ks b
  | s :: r, _ => by rw [ks, k_bs]; omega
theorem ns_app : ∀ a b : List St, ns (a ++ b) = ns a + ns b
  | [], b => by simp [ns]
  | s :: r, b => by rw [List.cons_append, ns, ns, ns_app r b]; omega
theorem ks_app : ∀ a b : List St, ks (a ++ b) = max (ks a) (ks b)
  | [], b => by simp [ks]
  | s :: r, b => by rw [List.cons_append, ks, ks, ks_app r b]; omega
-- names that are there, choices of two to six, returns where they are let
mutual
def St.ok (L N : List Str) (sec : Bool) : St → Prop
  | .dd x => x ∈ L
  | .ud x => x ∈ L
  | .cl x => x ∈ N
  | .ch bs => 2 ≤ bs.length ∧ bs.length ≤ 6 ∧ okss L N sec bs
  | .lp b => oks L N sec b
  | .rt => True
  | .en b c => oks L N sec b ∧ oks L N true c
def oks (L N : List Str) (sec : Bool) : List St → Prop
  | [] => True
  | s :: r => s.ok L N sec ∧ oks L N sec r
def okss (L N : List Str) (sec : Bool) : List (List St) → Prop
  | [] => True
  | b :: r => oks L N sec b ∧ okss L N sec r
end
theorem oks_iff {L N : List Str} {sec : Bool} : ∀ {b : List St}, oks L N sec b ↔ ∀ s ∈ b, s.ok L N sec
  | [] => by simp [oks]
  | s :: r => by rw [oks, oks_iff (b := r)]; simp
theorem okss_iff {L N : List Str} {sec : Bool} : ∀ {b : List (List St)}, okss L N sec b ↔ ∀ s ∈ b, oks L N sec s
  | [] => by simp [okss]
  | s :: r => by rw [okss, okss_iff (b := r)]; simp
-- a body that is let within a second body is let anywhere
mutual
theorem ok_weak {L N : List Str} (sec : Bool) : ∀ s : St, s.ok L N true → s.ok L N sec
  | .dd _, h | .ud _, h | .cl _, h => h
  | .ch bs, h => ⟨h.1, h.2.1, okss_weak sec bs h.2.2⟩
  | .lp b, h => oks_weak sec b h
  | .rt, h => h
  | .en b c, h => ⟨oks_weak sec b h.1, h.2⟩
theorem oks_weak {L N : List Str} (sec : Bool) : ∀ b : List St, oks L N true b → oks L N sec b
  | [], _ => trivial
  | s :: r, h => ⟨ok_weak sec s h.1, oks_weak sec r h.2⟩
theorem okss_weak {L N : List Str} (sec : Bool) : ∀ b : List (List St), okss L N true b → okss L N sec b
  | [], _ => trivial
  | s :: r, h => ⟨oks_weak sec s h.1, okss_weak sec r h.2⟩
end
end K04


set_option Elab.async false
set_option linter.all false
set_option maxRecDepth 100000
set_option maxHeartbeats 8000000
namespace K04
open PySem PySem.Spec PyProof.Rows L2
/-! ### tables -/
def genC (sc : Scope) : Bool := decide (sc.kind = .function) && !sc.isCoroutine && sc.names.all (fun y => !decide (y.2 = .cell)) && sc.names.all (fun y => !decide (y.2 = .free)) && decide (sc.names.lookup (".0" : Str) = some NameKind.local)
theorem gensc_by {sc : Scope} (h : genC sc = true) : UG.GenSc sc := by
  unfold genC at h
  simp only [Bool.and_eq_true, Bool.not_eq_true', decide_eq_true_eq, List.all_eq_true, decide_eq_false_iff_not] at h
  obtain ⟨⟨⟨⟨h1, h2⟩, h3⟩, h4⟩, h5⟩ := h
  exact ⟨h1, h2, h3, h4, h5⟩
def Keep (T : Addr) (H H' : Hp) : Prop := LamX.ExtN H H' ∧ GxR.TabG H' T
theorem keep_tabbed {T : Addr} {H H' : Hp} (h : GxR.TabG H T) (t : GxR.Tabbed T H H') : Keep T H H' := by
  refine ⟨fun b o e n => ?_, t.1⟩
  by_cases hb : b = T
  · obtain ⟨ps, hp, _⟩ := h
    rw [hb, hp] at e
    exact absurd (Option.some.inj e).symm (n ps)
  · rw [t.2 b hb]; exact e
theorem tabG_upd {T p : Addr} {H : Hp} {o : HO} (h : GxR.TabG H T) (hp : H p = none) : GxR.TabG (upd H p o) T := by
  obtain ⟨ps, h1, h2⟩ := h
  exact ⟨ps, by rw [upd_ne (ne_of_none h1 hp)]; exact h1, h2⟩
theorem inV_str (k : Str) : ∀ zs : List Str, inV (.str k) (zs.map V.str) = zs.any fun z => decide (k = z)
  | [] => rfl
  | z :: r => by
    have ih := inV_str k r
    show (eqV (.str z) (.str k) || inV (.str k) (r.map V.str)) = _
    rw [ih, List.any_cons]
    congr 1
    show (z == k) = decide (k = z)
    by_cases h : k = z
    · subst h; simp
    · rw [decide_eq_false h]; exact beq_eq_false_iff_ne.mpr (Ne.symm h)
theorem at0 {α : Type} (x : α) (r : List α) : atI (x :: r) 0 = some x := atI_nat (j := 0) rfl
theorem at1 {α : Type} (x y : α) (r : List α) : atI (x :: y :: r) 1 = some y := atI_nat (j := 1) rfl
theorem at2 {α : Type} (x y z : α) (r : List α) : atI (x :: y :: z :: r) 2 = some z := atI_nat (j := 2) rfl
theorem dec_str (k z : Str) : decide (V.str k = V.str z) = decide (k = z) := by
  by_cases h : k = z
  · subst h; simp
  · rw [decide_eq_false h, decide_eq_false (fun y => h (V.str.inj y))]
theorem dec_int (k z : Int) : decide (V.int k = V.int z) = decide (k = z) := by
  by_cases h : k = z
  · subst h; simp
  · rw [decide_eq_false h, decide_eq_false (fun y => h (V.int.inj y))]
theorem str_of {d : PyData} (h : isiD "str" d = true) : ∃ k, d = .str k := by
  cases d with
  | str k => exact ⟨k, rfl⟩
  | _ => exact absurd (show false = true from h) Bool.false_ne_true

theorem tup_of {d : PyData} (h : isiD "tuple" d = true) : ∃ ds, d = .tuple ds := by
  cases d with
  | tuple ds => exact ⟨ds, rfl⟩
  | _ => exact absurd (show false = true from h) Bool.false_ne_true
theorem len_ok {K : PySem.W.Frag} {H : Hp} {v : V} {ds : List PyData} (h : Dp K H v (.tuple ds)) : ∃ a xs, v = .ref a ∧ SqT K H a xs ∧ DpAll K H xs ds ∧ xs.length = ds.length := by
  cases h with
  | tup hs ha => exact ⟨_, _, rfl, hs, ha, dps_len ha⟩
/-- the tables of code objects -/
def Tbs (Ts : List Addr) (H : Hp) : Prop := ∀ T ∈ Ts, GxR.TabG H T
/-- all but the tables stays -/
def Go (Ts : List Addr) (H H' : Hp) : Prop := Tbs Ts H' ∧ Kp Ts H H'
theorem Tbs.same {Ts : List Addr} {H H' : Hp} (h : Tbs Ts H) (s : Same H H') : Tbs Ts H' := fun T hT => by
  obtain ⟨ps, h1, h2⟩ := h T hT
  exact ⟨ps, s _ _ h1, h2⟩
theorem Go.refl {Ts : List Addr} {H : Hp} (h : Tbs Ts H) : Go Ts H H := ⟨h, Kp.refl H⟩
theorem Go.trans {Ts : List Addr} {H H' H2 : Hp} (a : Go Ts H H') (b : Go Ts H' H2) : Go Ts H H2 := ⟨b.1, a.2.trans b.2⟩
theorem Go.of_same {Ts : List Addr} {H H' : Hp} (h : Tbs Ts H) (s : Same H H') : Go Ts H H' := ⟨h.same s, Kp.of_same s⟩
theorem Go.of_tab {Ts : List Addr} {T : Addr} {H H' : Hp} (h : Tbs Ts H) (hT : T ∈ Ts) (t : GxR.Tabbed T H H') : Go Ts H H' := by
  refine ⟨fun T' hT' => ?_, fun p o n e => ?_⟩
  · by_cases z : T' = T
    · rw [z]; exact t.1
    · obtain ⟨ps, h1, h2⟩ := h T' hT'
      exact ⟨ps, by rw [t.2 _ z]; exact h1, h2⟩
  · rw [t.2 p (fun z => n (by rw [z]; exact hT))]
    exact e
/-- tables are no data -/
theorem ext_cut {Ts ms : List Addr} {H : Hp} (h : Tbs Ts H) (n : ∀ a ∈ ms, H a = none) : LamX.ExtN H (cutL (ms ++ Ts) H) := fun p o e no => by
  rw [cutL_get]
  · exact e
  · intro z
    rcases List.mem_append.mp z with z | z
    · rw [n p z] at e; cases e
    · obtain ⟨ps, h1, _⟩ := h p z
      rw [h1] at e
      cases e
      exact no _ rfl
theorem ext_cut0 {Ts : List Addr} {H : Hp} (h : Tbs Ts H) : LamX.ExtN H (cutL Ts H) := ext_cut (ms := []) h (fun _ z => by cases z)
theorem Go.ext {Ts : List Addr} {H H' : Hp} (h : Tbs Ts H) (g : Go Ts H H') : LamX.ExtN H H' := (ext_cut0 h).trans ((same_ext g.2.cut).trans (same_ext cutL_ext))
theorem tbs_cut {Ts ms : List Addr} {H : Hp} {p : Addr} {o : HO} (h : Tbs Ts H) (hp : H p = none) : p ∉ Ts := fun z => by
  obtain ⟨ps, h1, _⟩ := h p z
  rw [h1] at hp; cases hp
/-! ### names -/
def nameB (s : Str) : Bool := decide (1 ≤ s.length) && decide (s.length ≤ 10) && (match s.cps.toList with | [] => false | c :: _ => decide (c ∈ smallL.cps.toList)) && !(keptW.any fun z => decide (s = z)) && s.cps.toList.all fun c => decide (c ∈ wordS.cps.toList)
def nameD : PyData → Bool
  | .str s => nameB s
  | _ => false
def strD : PyData → Prop
  | .str s => s.length ≤ sizeLine
  | _ => True
theorem nd1 : (["sign"] : List Str).Nodup := by decide +kernel
section
variable {P : Program} {w : World} {K : PySem.W.Frag} {mg : Str → Option Value} {base : Heap}

def spRow (K : PySem.W.Frag) : Sp := fun vs H Q _ => ∃ v d lo hi, vs = [v, .int lo, .int hi] ∧ Dp K H v d ∧ Q (.bl (rowD d lo hi)) H
theorem sc_is_row : FnScope ["thing", "low", "high"] ["thing", "low", "high"] (C8.fnScope (topS 5)) := C8.fnScope_by (by decide +kernel)
theorem ok_is_row {f : Addr} {fd : FuncData} (F : C8.Def K mg "is_row" (topS 5) f fd) (b : Binds K fd ["thing", "low", "high"] []) (B : Bl K mg)  : C8.Cal P w K mg base 1 "is_row" (spRow K) [] := by
  refine C8.cal0 F b .nil sc_is_row ?len ?body
  case len => rintro vs H Q E ⟨v, d, lo, hi, rfl, _⟩; rfl
  case body =>
    rintro cdv A outer s H vs Q E hr ⟨v, d, lo, hi, rfl, hd, q⟩
    refine ⟨_, (pss_one (ps_ret (pe_and (pe_isD (c := "tuple") B (pv 0) rfl rfl B.tuple (by decide +kernel) (by decide)) (pe_one (pe_chain op_le op_le (pv 1) (pe_callB call_len_seq rfl B.len PySem.boot_len (pa_cons (pv 0) pa_nil)) (pv 2)))))), ?_⟩
    refine ⟨_, rfl, v, d, rfl, hd, _, rfl, ?_⟩
    cases h : isiD "tuple" d with
    | false =>
      refine iteF ?_
      have e : rowD d lo hi = false := by
        cases d with
        | tuple ds => exact absurd (show true = false from h) (by decide)
        | _ => rfl
      rw [e] at q
      exact q
    | true =>
      obtain ⟨ds, rfl⟩ := tup_of h
      obtain ⟨a, xs, rfl, hs, ha, hl⟩ := len_ok hd
      refine iteT ⟨_, rfl, _, rfl, a, xs, rfl, .inr hs, _, _, rfl, rfl, _, rfl, ?_⟩
      rw [hl]
      have q' : Q (.bl (decide (lo ≤ (ds.length : Int)) && decide ((ds.length : Int) ≤ hi))) H := q
      cases h1 : decide (lo ≤ (ds.length : Int)) with
      | true =>
        rw [h1] at q'
        exact iteT ⟨_, rfl, _, _, rfl, rfl, q'⟩
      | false =>
        rw [h1] at q'
        exact iteF q'
def spName (K : PySem.W.Frag) (Ts : List Addr) : Sp := fun vs H Q _ => ∃ v d, vs = [v] ∧ Dp K H v d ∧ strD d ∧ Tbs Ts H ∧ ∀ H', Go Ts H H' → Q (.bl (nameD d)) H'
theorem sc_is_name : FnScope ["thing"] ["thing"] (C8.fnScope (topS 11)) := C8.fnScope_by (by decide +kernel)
theorem ok_is_name {Ts : List Addr} {f c T : Addr} {oc : Value} {od an : Option Addr} {kV doc pm ct : Value} {osl : Array (Option Value)}
    (lk : K.lookup f = some ⟨oc, od, .func (PySem.W.fnOf "is_name" "is_name" (C8.fnArgs (topS 11)) (C8.fnBody (topS 11)) (C8.fnScope (topS 11)) .none kV doc pm an (.ref c) ct), osl⟩) (hcd : PySem.W.codeIn K (.ref c) "is_name" = true)
    (TB : LamX.TabB base mg c T) (hT : T ∈ Ts) (B : Bl K mg) :
    FnOk P w K mg base C8.CX0 4 f (PySem.W.fnOf "is_name" "is_name" (C8.fnArgs (topS 11)) (C8.fnBody (topS 11)) (C8.fnScope (topS 11)) .none kV doc pm an (.ref c) ct) ["thing"] (spName K Ts) := by
  obtain ⟨ka, hka, hks⟩ := B.KEPT_WORDS
  refine fn_of lk hcd sc_is_name (by rintro vs H Q E ⟨v, d, rfl, _⟩; rfl) ?_
  intro A outer s H vs Q E hr hsp
  suffices h : ∃ t, PSs (cxOf C8.CX0 P w K mg base ["thing"] "is_name" (C8.fnScope (topS 11)) f (.ref c) A outer s H E).nox (C8.fnBody (topS 11)) t ∧ t { nx := fun _ H' => Q .non H', rt := Q } (start ["thing"] vs) H by
    obtain ⟨t, h1, h2⟩ := h
    exact ⟨t, h1.nox, h2⟩
  obtain ⟨v, d, rfl, hd, hsd, hTb, q⟩ := hsp
  refine ⟨_, pss_cons (ps_if (PW.pt (pw_or (pt_not (pt_val (pe_isD (c := "str") B (pv 0) rfl rfl B.str (by decide +kernel) (by decide)))) (pw_or1 (pt_not (pt_chain op_le op_le pe_int (pe_callB call_len_str rfl B.len PySem.boot_len (pa_cons (pv 0) pa_nil)) (pe_glob (v := .int 10) rfl B.MOST_SIGNS.choose_spec ⟨_, rfl⟩)))))) (pss_one (ps_ret pe_bl)) pss_nil)
    (pss_cons (ps_if (PW.pt (pw_or (pt_cmpR op_notIn_sign (pe_ix ix_str (pv 0) pe_int (fun _ _ => rfl)) (pe_glob (v := .str smallL) rfl B.SMALL_LETTERS.choose_spec ⟨_, rfl⟩) (by with_unfolding_all rfl)) (pw_or1 (pt_cmpR op_in_seq (pv 0) (pe_glob (v := .ref ka) rfl hka rfl) (by with_unfolding_all rfl))))) (pss_one (ps_ret pe_bl)) pss_nil)
    (pss_one (ps_ret (UG.pe_allG (P := T) (N := ["sign"]) (k := 0) (g := gName 0) (hr.mono (by decide)) rfl B.all (by decide +kernel) TB rfl (gensc_by (by decide +kernel)) (pi_str (pv 0))
      (fun _ _ _ _ _ _ _ => by exact pg_name (i := 0) nd1 rfl (Or.inl rfl))
      (fun _ _ _ _ _ _ _ => by exact pe_cmpR op_in_sign (pv 0) (pe_glob (v := .str wordS) rfl B.WORD_SIGNS.choose_spec ⟨_, rfl⟩) (by with_unfolding_all rfl)))))), ?_⟩
  have qH := q H (Go.refl hTb)
  refine ⟨_, rfl, v, d, rfl, hd, _, rfl, ?_⟩
  cases hstr : isiD "str" d with
  | false =>
    refine iteT ?_
    have e : nameD d = false := by
      cases d with
      | str k => exact absurd (show true = false from hstr) (by decide)
      | _ => rfl
    rw [e] at qH
    exact qH
  | true =>
    obtain ⟨k, rfl⟩ := str_of hstr
    cases hd
    refine iteF ?_
    have eD : nameD (.str k) = nameB k := rfl
    rw [eD] at qH
    refine ⟨_, rfl, k, rfl, hsd, _, _, rfl, rfl, _, rfl, ?_⟩
    cases h1 : decide ((1 : Int) ≤ ((k.length : Nat) : Int)) with
    | false =>
      refine iteF ⟨_, rfl, ?_⟩
      refine iteT ?_
      have e : nameB k = false := by
        have : decide (1 ≤ k.length) = false := by rw [decide_eq_false_iff_not] at h1 ⊢; omega
        unfold nameB
        rw [this]
        rfl
      rw [e] at qH
      exact qH
    | true =>
      refine iteT ⟨_, _, rfl, rfl, _, rfl, ?_⟩
      have h1' := of_decide_eq_true h1
      by_cases h2 : ((k.length : Nat) : Int) ≤ 10
      · rw [decide_eq_true h2]
        refine iteF ?_
        have l1 : decide (1 ≤ k.length) = true := by rw [decide_eq_true_eq]; omega
        have l2 : decide (k.length ≤ 10) = true := by rw [decide_eq_true_eq]; omega
        cases hc : k.cps.toList with
        | nil =>
          have : k.length = 0 := by
            show k.cps.size = 0
            rw [← Array.length_toList, hc]; rfl
          omega
        | cons c r =>
          have eN : nameB k = (decide (c ∈ smallL.cps.toList) && !(keptW.any fun z => decide (k = z)) && k.cps.toList.all fun c => decide (c ∈ wordS.cps.toList)) := by
            unfold nameB
            rw [l1, l2, hc]
            rfl
          refine ⟨_, rfl, k, 0, c, rfl, rfl, hsd, by rw [hc]; exact at0 _ _, c, smallL, rfl, rfl, _, rfl, ?_⟩
          cases h3 : decide (c ∈ smallL.cps.toList) with
          | false =>
            refine iteT ?_
            rw [h3] at eN
            rw [eN] at qH
            exact qH
          | true =>
            refine iteF ?_
            refine ⟨_, rfl, ka, _, rfl, .inr (hks H), rfl, by decide +kernel, _, rfl, ?_⟩
            show if inV (.str k) (keptW.map V.str) = true then _ else _
            rw [inV_str]
            cases h4 : (keptW.any fun z => decide (k = z)) with
            | true =>
              refine iteT ?_
              rw [h3, h4] at eN
              rw [eN] at qH
              exact qH
            | false =>
              refine iteF ?_
              rw [h3, h4] at eN
              have eN' : nameB k = k.cps.toList.all fun c => decide (c ∈ wordS.cps.toList) := eN
              rw [eD, eN'] at q
              refine ⟨_, rfl, k, rfl, hTb T hT, k.cps.size, fun i H' => i ≤ k.cps.size ∧ Go Ts H H' ∧ ∀ j e, j < i → k.cps[j]? = some e → decide (e ∈ wordS.cps.toList) = true, ⟨?_⟩, ?_⟩
              · rintro i H1 ⟨hi, hk, hall⟩
                by_cases hlt : i < k.cps.size
                · refine .inr ⟨hlt, hlt, ?_⟩
                  rintro x H' ⟨rfl, e, he, rfl⟩
                  refine ⟨_, rfl, e, wordS, rfl, rfl, _, rfl, ?_⟩
                  cases hb : decide (e ∈ wordS.cps.toList) with
                  | true =>
                    refine iteT ⟨hlt, hk, fun j e' hj he' => ?_⟩
                    rcases Nat.lt_succ_iff_lt_or_eq.mp hj with h | h
                    · exact hall j e' h he'
                    · subst h
                      rw [he] at he'
                      cases he'
                      exact hb
                  | false =>
                    refine iteF ?_
                    have := q _ hk
                    rw [show (k.cps.toList.all fun c => decide (c ∈ wordS.cps.toList)) = false from by
                      rw [List.all_eq_false]
                      exact ⟨e, by rw [Array.mem_toList_iff]; exact Array.mem_of_getElem? he, by rw [hb]; decide⟩] at this
                    exact this
                · have ei : i = k.cps.size := by omega
                  refine .inl ⟨by show k.cps.size ≤ i; omega, ?_⟩
                  have := q H1 hk
                  rw [show (k.cps.toList.all fun c => decide (c ∈ wordS.cps.toList)) = true from by
                    rw [List.all_eq_true]
                    intro e he
                    obtain ⟨j, hj, ej⟩ := List.getElem_of_mem he
                    exact hall j e (by rw [ei]; simpa using hj) (by rw [← ej]; simp at hj; simp [hj])] at this
                  exact this
              · intro H2 t2
                exact ⟨Nat.zero_le _, Go.of_tab hTb hT t2, fun j e hj => absurd hj (Nat.not_lt_zero _)⟩
      · rw [decide_eq_false h2]
        refine iteT ?_
        have e : nameB k = false := by
          have : decide (k.length ≤ 10) = false := by rw [decide_eq_false_iff_not]; omega
          unfold nameB
          rw [this, Bool.and_false]
          rfl
        rw [e] at qH
        exact qH
end
end K04


set_option Elab.async false
set_option linter.all false
set_option maxRecDepth 100000
set_option maxHeartbeats 8000000
namespace K04
open PySem PySem.Spec PyProof.Rows L2
theorem ifT {c : Bool} {p q : Prop} (h : c = true) (x : p) : if c = true then p else q := by rw [if_pos h]; exact x
theorem ifF {c : Bool} {p q : Prop} (h : c = false) (x : q) : if c = true then p else q := by rw [if_neg (by rw [h]; decide)]; exact x
-- bodies of at most sixty
mutual
def St.wd : St → Prop
  | .ch bs => wdbs bs
  | .lp b => b.length ≤ 60 ∧ wdl b
  | .en b c => (b.length ≤ 60 ∧ wdl b) ∧ c.length ≤ 60 ∧ wdl c
  | _ => True
def wdl : List St → Prop
  | [] => True
  | s :: r => s.wd ∧ wdl r
def wdbs : List (List St) → Prop
  | [] => True
  | b :: r => (b.length ≤ 60 ∧ wdl b) ∧ wdbs r
end
theorem wdl_iff : ∀ {b : List St}, wdl b ↔ ∀ s ∈ b, s.wd
  | [] => by simp [wdl]
  | s :: r => by rw [wdl, wdl_iff (b := r)]; simp
theorem wdbs_iff : ∀ {b : List (List St)}, wdbs b ↔ ∀ s ∈ b, s.length ≤ 60 ∧ wdl s
  | [] => by simp [wdbs]
  | s :: r => by rw [wdbs, wdbs_iff (b := r)]; simp
theorem wd_bs : ∀ {s : St}, s.wd → wdbs s.bs
  | .dd _, _ | .ud _, _ | .cl _, _ | .rt, _ => trivial
  | .ch _, h => h
  | .lp b, h => ⟨h, trivial⟩
  | .en b c, h => ⟨h.1, h.2, trivial⟩
mutual
theorem wd_n : ∀ s : St, s.n ≤ 60 → s.wd
  | .dd _, _ | .ud _, _ | .cl _, _ | .rt, _ => trivial
  | .ch bs, h => wdbs_n bs (by rw [St.n] at h; omega)
  | .lp b, h => by
    rw [St.n] at h
    exact ⟨Nat.le_trans (len_ns b) (by omega), wdl_n b (by omega)⟩
  | .en b c, h => by
    rw [St.n] at h
    exact ⟨⟨Nat.le_trans (len_ns b) (by omega), wdl_n b (by omega)⟩, Nat.le_trans (len_ns c) (by omega), wdl_n c (by omega)⟩
theorem wdl_n : ∀ b : List St, ns b ≤ 60 → wdl b
  | [], _ => trivial
  | s :: r, h => by
    rw [ns] at h
    exact ⟨wd_n s (by omega), wdl_n r (by omega)⟩
theorem wdbs_n : ∀ b : List (List St), nss b ≤ 60 → wdbs b
  | [], _ => trivial
  | s :: r, h => by
    rw [nss] at h
    exact ⟨⟨Nat.le_trans (len_ns s) (by omega), wdl_n s (by omega)⟩, wdbs_n r (by omega)⟩
end
theorem ok_bs {L N : List Str} {sec : Bool} : ∀ {s : St}, s.ok L N sec → ∀ b ∈ s.bs, ∃ sec', oks L N sec' b
  | .dd _, _, b, hb | .ud _, _, b, hb | .cl _, _, b, hb | .rt, _, b, hb => by cases hb
  | .ch _, h, b, hb => ⟨sec, okss_iff.mp h.2.2 b hb⟩
  | .lp b, h, b', hb => by
    cases List.mem_singleton.mp hb
    exact ⟨sec, h⟩
  | .en b c, h, b', hb => by
    rcases List.mem_cons.mp hb with rfl | hb
    · exact ⟨sec, h.1⟩
    · cases List.mem_singleton.mp hb
      exact ⟨true, h.2⟩
def Nok (L : List Str) : Prop := ∀ x ∈ L, nameB x = true
theorem nameB_len {x : Str} (h : nameB x = true) : x.length ≤ 10 := by
  unfold nameB at h
  simp only [Bool.and_eq_true, decide_eq_true_eq] at h
  exact h.1.1.1.2
theorem nameB_str {x : Str} (h : nameB x = true) : x.length ≤ sizeLine := Nat.le_trans (nameB_len h) (by decide)
theorem tail1 (x y : V) : cutV [x, y] (some 1) none = [y] := rfl
theorem tail2 (x y z : V) : cutV [x, y, z] (some 1) none = [y, z] := rfl
section
variable {P : Program} {w : World} {K : PySem.W.Frag} {mg : Str → Option Value} {base : Heap}

def spBod (K : PySem.W.Frag) : Sp := fun vs H Q _ => ∃ v s, vs = [v] ∧ Dp K H v (St.d s) ∧ ∀ v' H', Same H H' → Dp K H' v' (.tuple (dss s.bs)) → Q v' H'
theorem sc_bodies_of : FnScope ["statement"] ["statement"] (C8.fnScope (topS 23)) := C8.fnScope_by (by decide +kernel)
theorem ok_bodies_of {f : Addr} {fd : FuncData} (F : C8.Def K mg "bodies_of" (topS 23) f fd) (b : Binds K fd ["statement"] []) (B : Bl K mg)  : C8.Cal P w K mg base 1 "bodies_of" (spBod K) [] := by
  refine C8.cal0 F b .nil sc_bodies_of ?len ?body
  case len => rintro vs H Q E ⟨v, s, rfl, _⟩; rfl
  case body =>
    rintro cdv A outer s H vs Q E hr ⟨v, st, rfl, hd, q⟩
    refine ⟨_, (pss_cons (ps_if (pt_cmpR op_eq (pe_ix ix_tup (pv 0) pe_int (fun _ _ => rfl)) pe_str (nomark _)) (pss_one (ps_ret (pe_ix ix_tup (pv 0) pe_int (fun _ _ => rfl)))) pss_nil)
    (pss_cons (ps_if (pt_cmpR op_in_seq (pe_ix ix_tup (pv 0) pe_int (fun _ _ => rfl)) (pe_tup (pa_cons pe_str (pa_cons pe_str pa_nil))) (by with_unfolding_all rfl)) (pss_one (ps_ret (pe_slice sl_tupA (pv 0) (po_some pe_int) po_none))) pss_nil)
    (pss_one (ps_ret (pe_tup pa_nil))))), ?_⟩
    cases st with
    | dd x =>
      obtain ⟨a, xs, rfl, hs, ha, hl⟩ := len_ok hd
      cases ha with
      | cons h0 ha =>
      cases h0
      refine ⟨_, rfl, _, _, _, _, rfl, rfl, hs, at0 _ _, rfl, _, rfl, ?_⟩
      rw [dec_str]
      refine ifF (by decide +kernel) ?_
      refine ⟨_, rfl, _, _, _, _, rfl, rfl, hs, at0 _ _, (by show 2 ≤ sizeLine; decide), fun p hp => ⟨p, _, rfl, .inr (SqT.of upd_same), rfl, rfl, _, rfl, ?_⟩⟩
      refine ifF (by decide +kernel) ?_
      refine ⟨(by show 0 ≤ sizeLine; decide), fun p2 hp2 => ?_⟩
      exact q _ _ ((same_new hp _).trans (same_new hp2 _)) (.tup (SqT.of upd_same) .nil)
    | ud x =>
      obtain ⟨a, xs, rfl, hs, ha, hl⟩ := len_ok hd
      cases ha with
      | cons h0 ha =>
      cases h0
      refine ⟨_, rfl, _, _, _, _, rfl, rfl, hs, at0 _ _, rfl, _, rfl, ?_⟩
      rw [dec_str]
      refine ifF (by decide +kernel) ?_
      refine ⟨_, rfl, _, _, _, _, rfl, rfl, hs, at0 _ _, (by show 2 ≤ sizeLine; decide), fun p hp => ⟨p, _, rfl, .inr (SqT.of upd_same), rfl, rfl, _, rfl, ?_⟩⟩
      refine ifF (by decide +kernel) ?_
      refine ⟨(by show 0 ≤ sizeLine; decide), fun p2 hp2 => ?_⟩
      exact q _ _ ((same_new hp _).trans (same_new hp2 _)) (.tup (SqT.of upd_same) .nil)
    | cl x =>
      obtain ⟨a, xs, rfl, hs, ha, hl⟩ := len_ok hd
      cases ha with
      | cons h0 ha =>
      cases h0
      refine ⟨_, rfl, _, _, _, _, rfl, rfl, hs, at0 _ _, rfl, _, rfl, ?_⟩
      rw [dec_str]
      refine ifF (by decide +kernel) ?_
      refine ⟨_, rfl, _, _, _, _, rfl, rfl, hs, at0 _ _, (by show 2 ≤ sizeLine; decide), fun p hp => ⟨p, _, rfl, .inr (SqT.of upd_same), rfl, rfl, _, rfl, ?_⟩⟩
      refine ifF (by decide +kernel) ?_
      refine ⟨(by show 0 ≤ sizeLine; decide), fun p2 hp2 => ?_⟩
      exact q _ _ ((same_new hp _).trans (same_new hp2 _)) (.tup (SqT.of upd_same) .nil)
    | rt =>
      obtain ⟨a, xs, rfl, hs, ha, hl⟩ := len_ok hd
      cases ha with
      | cons h0 ha =>
      cases h0
      refine ⟨_, rfl, _, _, _, _, rfl, rfl, hs, at0 _ _, rfl, _, rfl, ?_⟩
      rw [dec_str]
      refine ifF (by decide +kernel) ?_
      refine ⟨_, rfl, _, _, _, _, rfl, rfl, hs, at0 _ _, (by show 2 ≤ sizeLine; decide), fun p hp => ⟨p, _, rfl, .inr (SqT.of upd_same), rfl, rfl, _, rfl, ?_⟩⟩
      refine ifF (by decide +kernel) ?_
      refine ⟨(by show 0 ≤ sizeLine; decide), fun p2 hp2 => ?_⟩
      exact q _ _ ((same_new hp _).trans (same_new hp2 _)) (.tup (SqT.of upd_same) .nil)
    | ch bs =>
      obtain ⟨a, xs, rfl, hs, ha, hl⟩ := len_ok hd
      cases ha with
      | cons h0 ha =>
      cases h0
      refine ⟨_, rfl, _, _, _, _, rfl, rfl, hs, at0 _ _, rfl, _, rfl, ?_⟩
      rw [dec_str]
      refine ifT (by decide +kernel) ?_
      cases ha with
      | cons h1 ha =>
        exact ⟨_, rfl, _, _, _, _, rfl, rfl, hs, at1 _ _ _, q _ H (Same.refl H) h1⟩
    | lp b =>
      obtain ⟨a, xs, rfl, hs, ha, hl⟩ := len_ok hd
      cases ha with
      | cons h0 ha =>
      cases h0
      refine ⟨_, rfl, _, _, _, _, rfl, rfl, hs, at0 _ _, rfl, _, rfl, ?_⟩
      rw [dec_str]
      refine ifF (by decide +kernel) ?_
      refine ⟨_, rfl, _, _, _, _, rfl, rfl, hs, at0 _ _, (by show 2 ≤ sizeLine; decide), fun p hp => ⟨p, _, rfl, .inr (SqT.of upd_same), rfl, rfl, _, rfl, ?_⟩⟩
      refine ifT (by decide +kernel) ?_
      cases ha with
      | @cons v1 _ _ _ h1 ha =>
        cases ha
        have hs' := sqt_ext (same_ext (same_new hp (.tup [.str "loop", .str "ensure"]))) hs
        refine ⟨_, rfl, 1, rfl, _, _, rfl, hs', fun w => ?_, fun _ r hr2 => ?_⟩
        · exact absurd w.1 (by show ¬ (HT.sIx 2 0 (some 1) = 0); decide)
        · have s2 := (same_new hp (.tup [.str "loop", .str "ensure"])).trans (same_new hr2 (.tup [v1]))
          exact q _ _ s2 (.tup (SqT.of upd_same) (.cons (dp_ext (same_ext s2) _ h1) .nil))
    | en b c =>
      obtain ⟨a, xs, rfl, hs, ha, hl⟩ := len_ok hd
      cases ha with
      | cons h0 ha =>
      cases h0
      refine ⟨_, rfl, _, _, _, _, rfl, rfl, hs, at0 _ _, rfl, _, rfl, ?_⟩
      rw [dec_str]
      refine ifF (by decide +kernel) ?_
      refine ⟨_, rfl, _, _, _, _, rfl, rfl, hs, at0 _ _, (by show 2 ≤ sizeLine; decide), fun p hp => ⟨p, _, rfl, .inr (SqT.of upd_same), rfl, rfl, _, rfl, ?_⟩⟩
      refine ifT (by decide +kernel) ?_
      cases ha with
      | @cons v1 _ _ _ h1 ha =>
        cases ha with
        | @cons v2 _ _ _ h2 ha =>
        cases ha
        have hs' := sqt_ext (same_ext (same_new hp (.tup [.str "loop", .str "ensure"]))) hs
        refine ⟨_, rfl, 1, rfl, _, _, rfl, hs', fun w => ?_, fun _ r hr2 => ?_⟩
        · exact absurd w.1 (by show ¬ (HT.sIx 3 0 (some 1) = 0); decide)
        · have s2 := (same_new hp (.tup [.str "loop", .str "ensure"])).trans (same_new hr2 (.tup [v1, v2]))
          exact q _ _ s2 (.tup (SqT.of upd_same) (.cons (dp_ext (same_ext s2) _ h1) (.cons (dp_ext (same_ext s2) _ h2) .nil)))

def spStm (K : PySem.W.Frag) (Ts : List Addr) : Sp := fun vs H Q _ => ∃ v s L N sec, vs = [v] ∧ Dp K H v (St.d s) ∧ s.ok L N sec ∧ Nok L ∧ Nok N ∧ Tbs Ts H ∧ ∀ H', Go Ts H H' → Q (.bl true) H'
theorem sc__is_statement : FnScope ["thing", "word"] ["thing"] (C8.fnScope (topS 22)) := C8.fnScope_by (by decide +kernel)
theorem ok__is_statement {Ts : List Addr} {f : Addr} {fd : FuncData} (F : C8.Def K mg "_is_statement" (topS 22) f fd) (b : Binds K fd ["thing"] []) (B : Bl K mg) (c_is_row : C8.Cal P w K mg base 1 "is_row" (spRow K) []) (c_is_name : C8.Cal P w K mg base 4 "is_name" (spName K Ts) []) : C8.Cal P w K mg base 5 "_is_statement" (spStm K Ts) [] := by
  refine C8.cal0 F b .nil sc__is_statement ?len ?body
  case len => rintro vs H Q E ⟨v, s, L, N, sec, rfl, _⟩; rfl
  case body =>
    rintro cdv A outer s H vs Q E hr ⟨v, st, L, N, sec, rfl, hd, hok, hL, hN, hTb, q⟩
    refine ⟨_, (pss_cons (ps_if (PW.pt (pw_or (pt_not (pt_val (C8.pe_c c_is_row hr (by decide) rfl (pa_cons (pv 0) (pa_cons pe_int (pa_cons pe_int pa_nil)))))) (pw_or1 (pt_not (pt_val (pe_isD (c := "str") B (pe_ix ix_tup (pv 0) pe_int (fun _ _ => rfl)) rfl rfl B.str (by decide +kernel) (by decide))))))) (pss_one (ps_ret pe_bl)) pss_nil)
    (pss_cons (ps_set (i := 1) sc__is_statement.nd rfl (Or.inl rfl) (pe_ix ix_tup (pv 0) pe_int (fun _ _ => rfl)))
    (pss_cons (ps_if (pt_cmpR op_in_seq (pv 1) (pe_tup (pa_cons pe_str (pa_cons pe_str (pa_cons pe_str pa_nil)))) (by with_unfolding_all rfl)) (pss_one (ps_ret (pe_and (pe_cmpR op_eq (pe_callB call_len_seq rfl B.len PySem.boot_len (pa_cons (pv 0) pa_nil)) pe_int (nomark _)) (pe_one (C8.pe_c c_is_name hr (by decide) rfl (pa_cons (pe_ix ix_tup (pv 0) pe_int (fun _ _ => rfl)) pa_nil)))))) pss_nil)
    (pss_cons (ps_if (pt_cmpR op_eq (pv 1) pe_str (nomark _)) (pss_one (ps_ret (pe_and (pe_cmpR op_eq (pe_callB call_len_seq rfl B.len PySem.boot_len (pa_cons (pv 0) pa_nil)) pe_int (nomark _)) (pe_one (C8.pe_c c_is_row hr (by decide) rfl (pa_cons (pe_ix ix_tup (pv 0) pe_int (fun _ _ => rfl)) (pa_cons (pe_glob (v := .int 2) rfl B.LEAST_BODIES.choose_spec ⟨_, rfl⟩) (pa_cons (pe_glob (v := .int 6) rfl B.MOST_BODIES.choose_spec ⟨_, rfl⟩) pa_nil)))))))) pss_nil)
    (pss_cons (ps_if (pt_cmpR op_eq (pv 1) pe_str (nomark _)) (pss_one (ps_ret (pe_cmpR op_eq (pe_callB call_len_seq rfl B.len PySem.boot_len (pa_cons (pv 0) pa_nil)) pe_int (nomark _)))) pss_nil)
    (pss_cons (ps_if (pt_cmpR op_eq (pv 1) pe_str (nomark _)) (pss_one (ps_ret (pe_cmpR op_eq (pe_callB call_len_seq rfl B.len PySem.boot_len (pa_cons (pv 0) pa_nil)) pe_int (nomark _)))) pss_nil)
    (pss_one (ps_ret (pe_and (pe_cmpR op_eq (pv 1) pe_str (nomark _)) (pe_one (pe_cmpR op_eq (pe_callB call_len_seq rfl B.len PySem.boot_len (pa_cons (pv 0) pa_nil)) pe_int (nomark _)))))))))))), ?_⟩
    cases st with
    | dd x =>
      have hd0 := hd
      obtain ⟨a, xs, rfl, hs, ha, hl⟩ := len_ok hd
      cases ha with
      | cons h0 ha =>
      cases h0
      refine ⟨_, rfl, _, _, 1, 3, rfl, hd0, _, rfl, ?_⟩
      refine iteF ?_
      refine ⟨_, rfl, _, _, _, _, rfl, rfl, hs, at0 _ _, _, _, rfl, .str _, _, rfl, ?_⟩
      refine iteF ?_
      refine ⟨_, rfl, _, _, _, _, rfl, rfl, hs, at0 _ _, ?_⟩
      refine ⟨_, rfl, (by show 3 ≤ sizeLine; decide), fun p hp => ⟨p, _, rfl, .inr (SqT.of upd_same), rfl, rfl, _, rfl, ?_⟩⟩
      have sN := same_new hp (.tup [.str "do", .str "undo", .str "call"])
      have hs' := sqt_ext (same_ext sN) hs
      have gN := Go.of_same hTb sN
      refine ifT (by decide +kernel) ?_
      cases ha with
      | cons h1 ha =>
      cases h1
      cases ha
      have hx : nameB x = true := hL x hok
      refine ⟨_, rfl, a, _, rfl, .inr hs', rfl, _, rfl, ?_⟩
      rw [dec_int]
      refine iteT ?_
      refine ⟨_, rfl, _, _, _, _, rfl, rfl, hs', at1 _ _ _, _, .str x, rfl, .str x, nameB_str hx, gN.1, fun H2 g2 => ?_⟩
      rw [show nameD (.str x) = true from hx]
      exact q _ (gN.trans g2)
    | ud x =>
      have hd0 := hd
      obtain ⟨a, xs, rfl, hs, ha, hl⟩ := len_ok hd
      cases ha with
      | cons h0 ha =>
      cases h0
      refine ⟨_, rfl, _, _, 1, 3, rfl, hd0, _, rfl, ?_⟩
      refine iteF ?_
      refine ⟨_, rfl, _, _, _, _, rfl, rfl, hs, at0 _ _, _, _, rfl, .str _, _, rfl, ?_⟩
      refine iteF ?_
      refine ⟨_, rfl, _, _, _, _, rfl, rfl, hs, at0 _ _, ?_⟩
      refine ⟨_, rfl, (by show 3 ≤ sizeLine; decide), fun p hp => ⟨p, _, rfl, .inr (SqT.of upd_same), rfl, rfl, _, rfl, ?_⟩⟩
      have sN := same_new hp (.tup [.str "do", .str "undo", .str "call"])
      have hs' := sqt_ext (same_ext sN) hs
      have gN := Go.of_same hTb sN
      refine ifT (by decide +kernel) ?_
      cases ha with
      | cons h1 ha =>
      cases h1
      cases ha
      have hx : nameB x = true := hL x hok
      refine ⟨_, rfl, a, _, rfl, .inr hs', rfl, _, rfl, ?_⟩
      rw [dec_int]
      refine iteT ?_
      refine ⟨_, rfl, _, _, _, _, rfl, rfl, hs', at1 _ _ _, _, .str x, rfl, .str x, nameB_str hx, gN.1, fun H2 g2 => ?_⟩
      rw [show nameD (.str x) = true from hx]
      exact q _ (gN.trans g2)
    | cl x =>
      have hd0 := hd
      obtain ⟨a, xs, rfl, hs, ha, hl⟩ := len_ok hd
      cases ha with
      | cons h0 ha =>
      cases h0
      refine ⟨_, rfl, _, _, 1, 3, rfl, hd0, _, rfl, ?_⟩
      refine iteF ?_
      refine ⟨_, rfl, _, _, _, _, rfl, rfl, hs, at0 _ _, _, _, rfl, .str _, _, rfl, ?_⟩
      refine iteF ?_
      refine ⟨_, rfl, _, _, _, _, rfl, rfl, hs, at0 _ _, ?_⟩
      refine ⟨_, rfl, (by show 3 ≤ sizeLine; decide), fun p hp => ⟨p, _, rfl, .inr (SqT.of upd_same), rfl, rfl, _, rfl, ?_⟩⟩
      have sN := same_new hp (.tup [.str "do", .str "undo", .str "call"])
      have hs' := sqt_ext (same_ext sN) hs
      have gN := Go.of_same hTb sN
      refine ifT (by decide +kernel) ?_
      cases ha with
      | cons h1 ha =>
      cases h1
      cases ha
      have hx : nameB x = true := hN x hok
      refine ⟨_, rfl, a, _, rfl, .inr hs', rfl, _, rfl, ?_⟩
      rw [dec_int]
      refine iteT ?_
      refine ⟨_, rfl, _, _, _, _, rfl, rfl, hs', at1 _ _ _, _, .str x, rfl, .str x, nameB_str hx, gN.1, fun H2 g2 => ?_⟩
      rw [show nameD (.str x) = true from hx]
      exact q _ (gN.trans g2)
    | rt =>
      have hd0 := hd
      obtain ⟨a, xs, rfl, hs, ha, hl⟩ := len_ok hd
      cases ha with
      | cons h0 ha =>
      cases h0
      refine ⟨_, rfl, _, _, 1, 3, rfl, hd0, _, rfl, ?_⟩
      refine iteF ?_
      refine ⟨_, rfl, _, _, _, _, rfl, rfl, hs, at0 _ _, _, _, rfl, .str _, _, rfl, ?_⟩
      refine iteF ?_
      refine ⟨_, rfl, _, _, _, _, rfl, rfl, hs, at0 _ _, ?_⟩
      refine ⟨_, rfl, (by show 3 ≤ sizeLine; decide), fun p hp => ⟨p, _, rfl, .inr (SqT.of upd_same), rfl, rfl, _, rfl, ?_⟩⟩
      have sN := same_new hp (.tup [.str "do", .str "undo", .str "call"])
      have hs' := sqt_ext (same_ext sN) hs
      have gN := Go.of_same hTb sN
      refine ifF (by decide +kernel) ?_
      refine ⟨_, rfl, rfl, _, rfl, ?_⟩
      rw [dec_str]
      refine ifF (by decide +kernel) ?_
      refine ⟨_, rfl, rfl, _, rfl, ?_⟩
      rw [dec_str]
      refine ifF (by decide +kernel) ?_
      refine ⟨_, rfl, rfl, _, rfl, ?_⟩
      rw [dec_str]
      refine ifF (by decide +kernel) ?_
      refine ⟨_, rfl, rfl, _, rfl, ?_⟩
      rw [dec_str]
      refine ifT (by decide +kernel) ?_
      refine ⟨_, rfl, a, _, rfl, .inr hs', rfl, ?_⟩
      rw [dec_int, hl]
      exact q _ gN
    | ch bs =>
      have hd0 := hd
      obtain ⟨a, xs, rfl, hs, ha, hl⟩ := len_ok hd
      cases ha with
      | cons h0 ha =>
      cases h0
      refine ⟨_, rfl, _, _, 1, 3, rfl, hd0, _, rfl, ?_⟩
      refine iteF ?_
      refine ⟨_, rfl, _, _, _, _, rfl, rfl, hs, at0 _ _, _, _, rfl, .str _, _, rfl, ?_⟩
      refine iteF ?_
      refine ⟨_, rfl, _, _, _, _, rfl, rfl, hs, at0 _ _, ?_⟩
      refine ⟨_, rfl, (by show 3 ≤ sizeLine; decide), fun p hp => ⟨p, _, rfl, .inr (SqT.of upd_same), rfl, rfl, _, rfl, ?_⟩⟩
      have sN := same_new hp (.tup [.str "do", .str "undo", .str "call"])
      have hs' := sqt_ext (same_ext sN) hs
      have gN := Go.of_same hTb sN
      refine ifF (by decide +kernel) ?_
      refine ⟨_, rfl, rfl, _, rfl, ?_⟩
      rw [dec_str]
      refine ifT (by decide +kernel) ?_
      cases ha with
      | cons h1 ha =>
      cases ha
      refine ⟨_, rfl, a, _, rfl, .inr hs', rfl, _, rfl, ?_⟩
      rw [dec_int]
      refine iteT ?_
      refine ⟨_, rfl, _, _, _, _, rfl, rfl, hs', at1 _ _ _, _, _, 2, 6, rfl, dp_ext (same_ext sN) _ h1, ?_⟩
      have hb := hok.1
      have hb2 := hok.2.1
      rw [show rowD (.tuple (dss bs)) 2 6 = true by
        show (decide ((2 : Int) ≤ ((dss bs).length : Int)) && decide (((dss bs).length : Int) ≤ 6)) = true
        rw [dss_len, Bool.and_eq_true, decide_eq_true_eq, decide_eq_true_eq]
        omega]
      exact q _ gN
    | lp b =>
      have hd0 := hd
      obtain ⟨a, xs, rfl, hs, ha, hl⟩ := len_ok hd
      cases ha with
      | cons h0 ha =>
      cases h0
      refine ⟨_, rfl, _, _, 1, 3, rfl, hd0, _, rfl, ?_⟩
      refine iteF ?_
      refine ⟨_, rfl, _, _, _, _, rfl, rfl, hs, at0 _ _, _, _, rfl, .str _, _, rfl, ?_⟩
      refine iteF ?_
      refine ⟨_, rfl, _, _, _, _, rfl, rfl, hs, at0 _ _, ?_⟩
      refine ⟨_, rfl, (by show 3 ≤ sizeLine; decide), fun p hp => ⟨p, _, rfl, .inr (SqT.of upd_same), rfl, rfl, _, rfl, ?_⟩⟩
      have sN := same_new hp (.tup [.str "do", .str "undo", .str "call"])
      have hs' := sqt_ext (same_ext sN) hs
      have gN := Go.of_same hTb sN
      refine ifF (by decide +kernel) ?_
      refine ⟨_, rfl, rfl, _, rfl, ?_⟩
      rw [dec_str]
      refine ifF (by decide +kernel) ?_
      refine ⟨_, rfl, rfl, _, rfl, ?_⟩
      rw [dec_str]
      refine ifT (by decide +kernel) ?_
      refine ⟨_, rfl, a, _, rfl, .inr hs', rfl, ?_⟩
      rw [dec_int, hl]
      exact q _ gN
    | en b c =>
      have hd0 := hd
      obtain ⟨a, xs, rfl, hs, ha, hl⟩ := len_ok hd
      cases ha with
      | cons h0 ha =>
      cases h0
      refine ⟨_, rfl, _, _, 1, 3, rfl, hd0, _, rfl, ?_⟩
      refine iteF ?_
      refine ⟨_, rfl, _, _, _, _, rfl, rfl, hs, at0 _ _, _, _, rfl, .str _, _, rfl, ?_⟩
      refine iteF ?_
      refine ⟨_, rfl, _, _, _, _, rfl, rfl, hs, at0 _ _, ?_⟩
      refine ⟨_, rfl, (by show 3 ≤ sizeLine; decide), fun p hp => ⟨p, _, rfl, .inr (SqT.of upd_same), rfl, rfl, _, rfl, ?_⟩⟩
      have sN := same_new hp (.tup [.str "do", .str "undo", .str "call"])
      have hs' := sqt_ext (same_ext sN) hs
      have gN := Go.of_same hTb sN
      refine ifF (by decide +kernel) ?_
      refine ⟨_, rfl, rfl, _, rfl, ?_⟩
      rw [dec_str]
      refine ifF (by decide +kernel) ?_
      refine ⟨_, rfl, rfl, _, rfl, ?_⟩
      rw [dec_str]
      refine ifF (by decide +kernel) ?_
      refine ⟨_, rfl, rfl, _, rfl, ?_⟩
      rw [dec_str]
      refine ifT (by decide +kernel) ?_
      refine ⟨_, rfl, a, _, rfl, .inr hs', rfl, ?_⟩
      rw [dec_int, hl]
      exact q _ gN
end
end K04


set_option Elab.async false
set_option linter.all false
set_option maxRecDepth 100000
set_option maxHeartbeats 8000000
namespace K04
open PySem PySem.Spec PyProof.Rows L2
/-! ### what stands in tuples stays -/
def Tk (H H' : Hp) : Prop := ∀ p xs, (H p = some (.tup xs) → H' p = some (.tup xs)) ∧ ∀ o, H p = some (.frz o (.tup xs)) → H' p = some (.frz o (.tup xs))
theorem Tk.refl (H : Hp) : Tk H H := fun _ _ => ⟨id, fun _ => id⟩
theorem Tk.trans {H H1 H2 : Hp} (a : Tk H H1) (b : Tk H1 H2) : Tk H H2 := fun p xs => ⟨fun h => (b p xs).1 ((a p xs).1 h), fun o h => (b p xs).2 o ((a p xs).2 o h)⟩
theorem Tk.same {H H' : Hp} (s : Same H H') : Tk H H' := fun p xs => ⟨fun h => s _ _ h, fun o h => s _ _ h⟩
theorem Tk.new {H : Hp} {a : Addr} (h : H a = none) (o : HO) : Tk H (upd H a o) := Tk.same (same_new h o)
theorem Tk.put {H : Hp} {a : Addr} {xs : List V} (h : H a = some (.lst xs)) (o : HO) : Tk H (upd H a o) := fun p ys => by
  constructor
  · intro e
    rw [upd_ne (fun z => by rw [z, h] at e; cases e)]
    exact e
  · intro u e
    rw [upd_ne (fun z => by rw [z, h] at e; cases e)]
    exact e
theorem Tk.putI {H : Hp} {a C dx : Addr} {fs : List (Str × V)} (h : H a = some (.ins C dx fs)) (o : HO) : Tk H (upd H a o) := fun p ys => by
  constructor
  · intro e
    rw [upd_ne (fun z => by rw [z, h] at e; cases e)]
    exact e
  · intro u e
    rw [upd_ne (fun z => by rw [z, h] at e; cases e)]
    exact e
theorem Tk.go {Ts : List Addr} {H H' : Hp} (t : Tbs Ts H) (g : Go Ts H H') : Tk H H' := fun p xs => by
  have n : ∀ o, H p = some o → (∀ ps, o ≠ .tbl ps) → p ∉ Ts := fun o e no z => by
    obtain ⟨ps, h1, _⟩ := t p z
    rw [h1] at e
    cases e
    exact no _ rfl
  exact ⟨fun e => g.2 _ _ (n _ e (fun ps z => by cases z)) e, fun o e => g.2 _ _ (n _ e (fun ps z => by cases z)) e⟩
-- data of tuples alone
mutual
def TupD : PyData → Prop
  | .list _ => False
  | .dict _ => False
  | .tuple xs => TupDs xs
  | _ => True
def TupDs : List PyData → Prop
  | [] => True
  | d :: r => TupD d ∧ TupDs r
end
theorem tupds_iff : ∀ {b : List PyData}, TupDs b ↔ ∀ s ∈ b, TupD s
  | [] => by simp [TupDs]
  | s :: r => by rw [TupDs, tupds_iff (b := r)]; simp
theorem Tk.sqt {K : PySem.W.Frag} {H H' : Hp} {a : Addr} {xs : List V} (t : Tk H H') (h : SqT K H a xs) : SqT K H' a xs := by
  rcases h with (h | ⟨o, h⟩) | h
  · exact .inl (.inl ((t _ _).1 h))
  · exact .inl (.inr ⟨o, (t _ _).2 o h⟩)
  · exact .inr h
mutual
theorem Tk.dp {K : PySem.W.Frag} {H H' : Hp} (t : Tk H H') : ∀ (d : PyData) {v : V}, TupD d → Dp K H v d → Dp K H' v d
  | .none, _, _, h => by cases h; exact .non
  | .bool _, _, _, h => by cases h; exact .bl _
  | .int _, _, _, h => by cases h; exact .int _
  | .str _, _, _, h => by cases h; exact .str _
  | .list _, _, n, _ => n.elim
  | .tuple ds, _, n, h => by
    cases h with
    | tup hs ha => exact .tup (t.sqt hs) (Tk.dps t ds n ha)
  | .dict _, _, n, _ => n.elim
theorem Tk.dps {K : PySem.W.Frag} {H H' : Hp} (t : Tk H H') : ∀ (ds : List PyData) {vs : List V}, TupDs ds → DpAll K H vs ds → DpAll K H' vs ds
  | [], _, _, h => by cases h; exact .nil
  | d :: ds, _, n, h => by
    cases h with
    | cons h1 h2 => exact .cons (Tk.dp t d n.1 h1) (Tk.dps t ds n.2 h2)
end
mutual
theorem tup_St : ∀ s : St, TupD s.d
  | .dd _ | .ud _ | .cl _ => ⟨trivial, trivial, trivial⟩
  | .ch bs => ⟨trivial, tup_dss bs, trivial⟩
  | .lp b => ⟨trivial, tup_ds b, trivial⟩
  | .rt => ⟨trivial, trivial⟩
  | .en b c => ⟨trivial, tup_ds b, tup_ds c, trivial⟩
theorem tup_ds : ∀ b : List St, TupDs (ds b)
  | [] => trivial
  | s :: r => ⟨tup_St s, tup_ds r⟩
theorem tup_dss : ∀ b : List (List St), TupDs (dss b)
  | [] => trivial
  | b :: r => ⟨tup_ds b, tup_dss r⟩
end
end K04


set_option Elab.async false
set_option linter.all false
set_option maxRecDepth 100000
set_option maxHeartbeats 8000000
namespace K04
open PySem PySem.Spec PyProof.Rows L2
-- how many bodies
mutual
def St.m : St → Nat
  | .ch bs => mss bs
  | .lp b => 1 + ms b
  | .en b c => (1 + ms b) + (1 + ms c)
  | _ => 0
def ms : List St → Nat
  | [] => 0
  | s :: r => s.m + ms r
def mss : List (List St) → Nat
  | [] => 0
  | b :: r => (1 + ms b) + mss r
end
theorem m_bs : ∀ s : St, s.m = mss s.bs
  | .dd _ | .ud _ | .cl _ | .rt | .ch _ => rfl
  | .lp b => by simp [St.m, St.bs, mss]
  | .en b c => by simp [St.m, St.bs, mss]
theorem mss_app : ∀ a b : List (List St), mss (a ++ b) = mss a + mss b
  | [], b => by simp [mss]
  | s :: r, b => by rw [List.cons_append, mss, mss, mss_app r b]; omega
theorem nss_app : ∀ a b : List (List St), nss (a ++ b) = nss a + nss b
  | [], b => by simp [nss]
  | s :: r, b => by rw [List.cons_append, nss, nss, nss_app r b]; omega
theorem len_mss : ∀ b : List (List St), b.length ≤ mss b
  | [] => Nat.le_refl _
  | s :: r => by
    have := len_mss r
    rw [List.length_cons, mss]
    omega
theorem mss_flat : ∀ b : List St, mss (b.flatMap St.bs) = ms b
  | [] => rfl
  | s :: r => by rw [List.flatMap_cons, mss_app, mss_flat r, ms, m_bs]
theorem mss_take : ∀ (l : List (List St)) (j : Nat), mss (l.take j) ≤ mss l
  | [], j => by simp
  | b :: r, 0 => by simp [mss]
  | b :: r, j + 1 => by
    have := mss_take r j
    rw [List.take_succ_cons, mss, mss]
    omega
theorem ms_take : ∀ {b : List St} {i : Nat} {s : St}, b[i]? = some s → ms (b.take i) + s.m ≤ ms b
  | [], i, s, h => by simp at h
  | x :: r, 0, s, h => by
    simp at h
    subst h
    simp [ms]
  | x :: r, i + 1, s, h => by
    have := ms_take (b := r) (i := i) (s := s) (by simpa using h)
    rw [List.take_succ_cons, ms, ms]
    omega
theorem nss_flat : ∀ b : List St, nss (b.flatMap St.bs) + b.length = ns b
  | [] => rfl
  | s :: r => by
    have := nss_flat r
    rw [List.flatMap_cons, nss_app, ns, n_bs, List.length_cons]
    omega
/-- the stack of bodies and their depths -/
inductive Stk (K : PySem.W.Frag) (H : Hp) : List V → List (List St × Nat) → Prop
  | nil : Stk K H [] []
  | snoc {vs : List V} {st : List (List St × Nat)} {p : Addr} {x : V} {b : List St} {d : Nat} : Stk K H vs st → SqT K H p [x, .int (d : Int)] → Dp K H x (.tuple (ds b)) → Stk K H (vs ++ [.ref p]) (st ++ [(b, d)])
theorem Stk.tk {K : PySem.W.Frag} {H H' : Hp} (e : Tk H H') {vs : List V} {st : List (List St × Nat)} (h : Stk K H vs st) : Stk K H' vs st := by
  induction h with
  | nil => exact .nil
  | snoc _ hp hx ih => exact .snoc ih (e.sqt hp) (e.dp _ (tup_ds _) hx)
theorem Stk.len {K : PySem.W.Frag} {H : Hp} {vs : List V} {st : List (List St × Nat)} (h : Stk K H vs st) : vs.length = st.length := by
  induction h with
  | nil => rfl
  | snoc _ _ _ ih => simp [ih]
def push (d : Nat) (bs : List (List St)) : List (List St × Nat) := bs.map fun b => (b, d)
theorem push_fst (d : Nat) (bs : List (List St)) : (push d bs).map Prod.fst = bs := by
  unfold push
  rw [List.map_map]
  exact List.map_id' bs
theorem push_app (d : Nat) (a b : List (List St)) : push d (a ++ b) = push d a ++ push d b := by
  unfold push
  rw [List.map_append]
theorem push_mem {d : Nat} {bs : List (List St)} {e : List St × Nat} (h : e ∈ push d bs) : e.1 ∈ bs ∧ e.2 = d := by
  unfold push at h
  obtain ⟨b, hb, rfl⟩ := List.mem_map.mp h
  exact ⟨hb, rfl⟩
theorem ext_kp {Ts ms : List Addr} {H H' : Hp} (h : Tbs Ts H) (n : ∀ a ∈ ms, H a = none) (k : Kp (ms ++ Ts) H H') : LamX.ExtN H H' := (ext_cut h n).trans ((same_ext k.cut).trans (same_ext cutL_ext))
theorem go_of {Ts ms : List Addr} {H H' : Hp} (n : ∀ a ∈ ms, H a = none) (t : Tbs Ts H') (k : Kp (ms ++ Ts) H H') : Go Ts H H' := ⟨t, fun p o hp e => k p o (fun z => by
  rcases List.mem_append.mp z with z | z
  · rw [n p z] at e; cases e
  · exact hp z) e⟩
theorem kp_go {Ts ms : List Addr} {H H' : Hp} (g : Go Ts H H') : Kp (ms ++ Ts) H H' := g.2.mono fun _ h => List.mem_append_right _ h
theorem tbs_upd {Ts : List Addr} {H : Hp} {a : Addr} {o o' : HO} (h : Tbs Ts H) (e : H a = some o) (n : ∀ ps, o ≠ .tbl ps) : Tbs Ts (upd H a o') := fun T hT => by
  obtain ⟨ps, h1, h2⟩ := h T hT
  refine ⟨ps, ?_, h2⟩
  rw [upd_ne (fun z => by rw [z, e] at h1; cases h1; exact n _ rfl)]
  exact h1
theorem tbs_new {Ts : List Addr} {H : Hp} {a : Addr} {o' : HO} (h : Tbs Ts H) (e : H a = none) : Tbs Ts (upd H a o') := h.same (same_new e _)
def Gd (L N : List Str) (e : List St × Nat) : Prop := ks e.1 + e.2 ≤ 13 ∧ (e.1.length ≤ 60 ∧ wdl e.1) ∧ ∃ sec, oks L N sec e.1
/-- the state of the walk -/
def AbI (K : PySem.W.Frag) (Ts : List Addr) (H0 : Hp) (Wd : Addr) (st : List (List St × Nat)) (H' : Hp) : Prop :=
  Tbs Ts H' ∧ Kp ([Wd] ++ Ts) H0 H' ∧ Tk H0 H' ∧ ∃ vs, H' Wd = some (.lst vs) ∧ Stk K H' vs st
theorem AbI.kp {K : PySem.W.Frag} {Ts : List Addr} {H0 H' H2 : Hp} {Wd : Addr} {st : List (List St × Nat)} (a : AbI K Ts H0 Wd st H') (nW : Wd ∉ Ts) (g : Go Ts H' H2) : AbI K Ts H0 Wd st H2 := by
  obtain ⟨t, k, tk, vs, h1, h2⟩ := a
  have t2 := Tk.go t g
  exact ⟨g.1, k.trans (kp_go g), tk.trans t2, vs, g.2 _ _ nW h1, h2.tk t2⟩
/-- one more on the stack -/
theorem AbI.push1 {K : PySem.W.Frag} {Ts : List Addr} {H0 H' : Hp} {Wd p : Addr} {st : List (List St × Nat)} {x : V} {b : List St} {d : Nat} {vs : List V} (a : AbI K Ts H0 Wd st H') (hp : H' p = none)
    (hv : (upd H' p (.tup [x, .int (d : Int)])) Wd = some (.lst vs)) (hx : Dp K H' x (.tuple (ds b))) : AbI K Ts H0 Wd (st ++ [(b, d)]) (upd (upd H' p (.tup [x, .int (d : Int)])) Wd (.lst (vs ++ [.ref p]))) := by
  obtain ⟨t, k, tk, vs', h1, h2⟩ := a
  have np : p ≠ Wd := fun z => by rw [← z, hp] at h1; cases h1
  have s1 := same_new hp (.tup [x, .int (d : Int)])
  have t1 : Tbs Ts (upd H' p (.tup [x, .int (d : Int)])) := t.same s1
  have hv' := hv
  rw [upd_ne (Ne.symm np), h1] at hv
  cases hv
  have t2 : Tk H' (upd (upd H' p (.tup [x, .int (d : Int)])) Wd (.lst (vs ++ [.ref p]))) := (Tk.same s1).trans (Tk.put hv' _)
  refine ⟨?_, k.trans ((Kp.of_same s1).trans (Kp.put _ (by simp))), tk.trans t2, _, upd_same, ?_⟩
  · exact tbs_upd t1 hv' (fun ps z => by cases z)
  · refine .snoc (h2.tk t2) (SqT.of ?_) (t2.dp _ (tup_ds b) hx)
    rw [upd_ne np]
    exact upd_same
section
variable {P : Program} {w : World} {K : PySem.W.Frag} {mg : Str → Option Value} {base : Heap}

def spAB (K : PySem.W.Frag) (Ts : List Addr) : Sp := fun vs H Q _ => ∃ a xs bl L N, vs = [.ref a] ∧ SqL K H a xs ∧ DpAll K H xs (dss bl) ∧ nss bl ≤ 200 ∧ mss bl ≤ 10000 ∧ kss bl ≤ 12 ∧ wdbs bl ∧ (∀ b ∈ bl, ∃ sec, oks L N sec b) ∧ Nok L ∧ Nok N ∧ Tbs Ts H ∧ ∀ H', Go Ts H H' → Q (.bl true) H'
theorem sc__are_bodies : FnScope ["bodies", "count", "waiting", "body", "depth", "statement", "inner"] ["bodies"] (C8.fnScope (topS 21)) := C8.fnScope_by (by decide +kernel)
theorem ok__are_bodies {Ts : List Addr} {f : Addr} {fd : FuncData} (F : C8.Def K mg "_are_bodies" (topS 21) f fd) (b : Binds K fd ["bodies"] []) (B : Bl K mg) (c_is_row : C8.Cal P w K mg base 1 "is_row" (spRow K) []) (c__is_statement : C8.Cal P w K mg base 5 "_is_statement" (spStm K Ts) []) (c_bodies_of : C8.Cal P w K mg base 1 "bodies_of" (spBod K) []) : C8.Cal P w K mg base 6 "_are_bodies" (spAB K Ts) [] := by
  refine C8.cal0 F b .nil sc__are_bodies ?len ?body
  case len => rintro vs H Q E ⟨a, xs, bl, L, N, rfl, _⟩; rfl
  case body =>
    rintro cdv A outer s H vs Q E hr ⟨a, xs, bl, L, N, rfl, hs, ha, hn, hm0, hk, hw, hok, hL, hN, hTb, q⟩
    refine ⟨_, (pss_cons (ps_set (i := 1) sc__are_bodies.nd rfl (Or.inl rfl) pe_int)
    (pss_cons (ps_setLc (i := 2) (own := [("body", 3)]) (g := gName 3) (by rfl) sc__are_bodies.nd rfl rfl (sw_true rfl rfl rfl (by decide +kernel)) (pi_list (pv 0)) (blkOk_by (own := [("body", 3)]) (N := ["bodies", "count", "waiting", "body", "depth", "statement", "inner"]) (sc := (C8.fnScope (topS 21))) (by decide +kernel)) (fun _ _ _ _ _ => pg_name (i := 3) sc__are_bodies.nd rfl (Or.inl rfl)) (fun _ _ _ _ _ => pts_nil) (fun _ _ _ _ _ => (pe_tup (pa_cons (pv 3) (pa_cons pe_int pa_nil)))))
    (pss_cons (ps_while PassesOwn.never (pt_truth (pv 2) (by intro _; rfl)) (pss_cons (ps_asg (pe_bm0 PySem.F.plainAttrs_list PySem.F.slot_list_pop PySem.F.type_list_pop mt_pop (pv 2)) (pg_tup rfl (pgs_cons (pg_name (i := 3) sc__are_bodies.nd rfl (Or.inl rfl)) (pgs_cons (pg_name (i := 4) sc__are_bodies.nd rfl (Or.inl rfl)) pgs_nil))))
    (pss_cons (ps_if (pt_not (pt_val (C8.pe_c c_is_row hr (by decide) rfl (pa_cons (pv 3) (pa_cons pe_int (pa_cons (pe_glob (v := .int 60) rfl B.MOST_IN_BODY.choose_spec ⟨_, rfl⟩) pa_nil)))))) (pss_one (ps_ret pe_bl)) pss_nil)
    (pss_cons (ps_aug (i := 1) sc__are_bodies.nd rfl (Or.inl rfl) (pe_callB call_len_seq rfl B.len PySem.boot_len (pa_cons (pv 3) pa_nil)) ip_add)
    (pss_cons (ps_if (PW.pt (pw_or (pt_cmpR op_gt (pv 1) (pe_glob (v := .int 200) rfl B.MOST_STATEMENTS.choose_spec ⟨_, rfl⟩) (nomark _)) (pw_or1 (PW.pt (pw_and (pt_truth (pv 3) (by intro _; rfl)) (pw_and1 (pt_cmpR op_gt (pv 4) (pe_glob (v := .int 12) rfl B.LONGEST_CHAIN.choose_spec ⟨_, rfl⟩) (nomark _)))))))) (pss_one (ps_ret pe_bl)) pss_nil)
    (pss_one (ps_for PassesOwn.never rfl (pi_tup (pv 3)) (pg_name (i := 5) sc__are_bodies.nd rfl (Or.inl rfl))
    (pss_cons (ps_if (pt_not (pt_val (C8.pe_c c__is_statement hr (by decide) rfl (pa_cons (pv 5) pa_nil)))) (pss_one (ps_ret pe_bl)) pss_nil)
    (pss_one (ps_for PassesOwn.never rfl (pi_tup (C8.pe_c c_bodies_of hr (by decide) rfl (pa_cons (pv 5) pa_nil))) (pg_name (i := 6) sc__are_bodies.nd rfl (Or.inl rfl))
    (pss_one (ps_expr (pe_bm PySem.F.plainAttrs_list PySem.F.slot_list_append PySem.F.type_list_append mt_append (pv 2) (pa_cons (pe_tup (pa_cons (pv 6) (pa_cons (pe_op op_add (pv 4) pe_int) pa_nil))) pa_nil))))))))))))))
    (pss_one (ps_ret pe_bl))))), ?_⟩
    have hbl := len_mss bl
    have hxl : xs.length = bl.length := by rw [dps_len ha, dss_len]
    refine ⟨_, rfl, a, rfl, ⟨_, hs⟩, fun Wd hWd => ?_⟩
    have nW : Wd ∉ Ts := tbs_cut (ms := []) (o := .rng 0 0) hTb hWd
    have nWs : ∀ p ∈ [Wd], H p = none := fun p hp => by cases List.mem_singleton.mp hp; exact hWd
    refine lc_list (xs := xs) (fun i H' => AbI K Ts H Wd (push 1 (bl.take i)) H') ?_ ?_ ?_ ?_
    · exact ⟨tbs_new hTb hWd, Kp.new _ hWd, Tk.new hWd _, [], upd_same, by rw [List.take_zero]; exact .nil⟩
    · rintro i H' _ ⟨_, k, _⟩
      exact sq_ext (ext_kp hTb nWs k) hs
    · rintro i x H1 hx hI
      obtain ⟨t, k, tk, vs, h1, h2⟩ := id hI
      obtain ⟨d, hd, hp⟩ := dps_get' ha hx
      rw [dss_map, List.getElem?_map] at hd
      obtain ⟨b, hb, rfl⟩ : ∃ b, bl[i]? = some b ∧ d = .tuple (ds b) := by
        cases e : bl[i]? with
        | none => rw [e] at hd; cases hd
        | some b => rw [e] at hd; exact ⟨b, rfl, (Option.some.inj hd).symm⟩
      have hdc := tk.dp (.tuple (ds b)) (tup_ds b) hp
      refine ⟨rfl, ?_⟩
      refine ⟨_, rfl, (by show 2 ≤ sizeLine; decide), fun p hp => ?_⟩
      have np : p ≠ Wd := fun z => by rw [← z, hp] at h1; cases h1
      refine ⟨vs, by rw [upd_ne (Ne.symm np)]; exact h1, ?_, ?_⟩
      · have hv := h2.len
        have hl2 : (push 1 (bl.take i)).length ≤ bl.length := by unfold push; rw [List.length_map]; exact List.length_take_le' _ _
        exact Nat.lt_of_le_of_lt (show vs.length ≤ 10000 by omega) (by decide)
      · have e : push 1 (bl.take (i + 1)) = push 1 (bl.take i) ++ [(b, 1)] := by
          rw [List.take_succ, hb, push_app]
          rfl
        rw [e]
        exact hI.push1 hp (by rw [upd_ne (Ne.symm np)]; exact h1) hdc
    · intro H1 hI
      rw [hxl, List.take_length] at hI
      have good0 : ∀ e ∈ push 1 bl, Gd L N e := fun e he => by
        obtain ⟨h1, h2⟩ := push_mem he
        refine ⟨?_, wdbs_iff.mp hw _ h1, hok _ h1⟩
        have := kss_mem h1
        omega
      refine ⟨fun m σ H' => ∃ (c : Nat) (st : List (List St × Nat)) (b3 b4 b5 b6 : Option V), m = mss (st.map Prod.fst) ∧ σ = [some (.ref a), some (.int (c : Int)), some (.ref Wd), b3, b4, b5, b6] ∧ AbI K Ts H Wd st H' ∧ c + nss (st.map Prod.fst) ≤ 200 ∧ mss (st.map Prod.fst) ≤ 10000 ∧ ∀ e ∈ st, Gd L N e,
        ⟨_, 0, _, none, none, none, none, rfl, rfl, hI, by rw [push_fst]; omega, by rw [push_fst]; exact hm0, good0⟩, ?_⟩
      rintro m σ H2 ⟨c, st, b3, b4, b5, b6, rfl, rfl, hI, hc, hm, hg⟩
      obtain ⟨t, k, tk, vs, h1, h2⟩ := id hI
      refine ⟨_, rfl, _, .inl ⟨_, SqL.of h1, rfl⟩, ?_⟩
      cases h2 with
      | nil =>
        refine ifF rfl ?_
        exact q H2 (go_of nWs t k)
      | @snoc vs' st' p x b d hst hp hx =>
        refine ifT (by simp) ?_
        refine ⟨fun σ' H' => ∃ (c : Nat) (st : List (List St × Nat)) (b3 b4 b5 b6 : Option V), mss (st.map Prod.fst) < mss ((st' ++ [(b, d)]).map Prod.fst) ∧ σ' = [some (.ref a), some (.int (c : Int)), some (.ref Wd), b3, b4, b5, b6] ∧ AbI K Ts H Wd st H' ∧ c + nss (st.map Prod.fst) ≤ 200 ∧ mss (st.map Prod.fst) ≤ 10000 ∧ ∀ e ∈ st, Gd L N e, ?_, ?_⟩
        · rintro σ' H' ⟨c, st, b3, b4, b5, b6, e1, e2, e3, e4, e5, e6⟩
          exact ⟨_, e1, c, st, b3, b4, b5, b6, rfl, e2, e3, e4, e5, e6⟩
        rw [List.map_append, nss_app] at hc
        rw [List.map_append, mss_app] at hm ⊢
        have hc : c + (nss (st'.map Prod.fst) + ns b) ≤ 200 := by
          have e : nss ([(b, d)].map Prod.fst) = ns b := by simp [nss]
          omega
        have em : mss ([(b, d)].map Prod.fst) = 1 + ms b := by simp [mss]
        rw [em] at hm ⊢
        have hgb := hg (b, d) (by simp)
        have hg' : ∀ e ∈ st', Gd L N e := fun e he => hg e (by simp [he])
        refine ⟨_, rfl, .inl ⟨rfl, _, SqL.of h1⟩, Wd, _, .ref p, rfl, rfl, h1, by simp, ?_⟩
        have tk3 : Tk H2 (upd H2 Wd (.lst (vs' ++ [V.ref p]).dropLast)) := Tk.put h1 _
        have I3 : AbI K Ts H Wd st' (upd H2 Wd (.lst (vs' ++ [V.ref p]).dropLast)) := ⟨tbs_upd t h1 (fun ps z => by cases z), k.trans (Kp.put _ (by simp)), tk.trans tk3, vs', by rw [List.dropLast_concat]; exact upd_same, hst.tk tk3⟩
        have hp3 := tk3.sqt hp
        have hx3 := tk3.dp (.tuple (ds b)) (tup_ds b) hx
        show (fun H3 => _) (upd H2 Wd (.lst (vs' ++ [V.ref p]).dropLast))
        generalize upd H2 Wd (.lst (vs' ++ [V.ref p]).dropLast) = H3 at I3 hp3 hx3
        clear tk3
        have hx3' := hx3
        obtain ⟨xa, xxs, rfl, hsx, hax, hlx⟩ := len_ok hx3
        refine ⟨p, _, rfl, hp3, rfl, _, _, rfl, _, _, rfl, rfl, ?_⟩
        have hrow : rowD (.tuple (ds b)) 0 60 = true := by
          have h60 : b.length ≤ 60 := hgb.2.1.1
          show (decide ((0 : Int) ≤ ((ds b).length : Int)) && decide (((ds b).length : Int) ≤ 60)) = true
          rw [ds_len, Bool.and_eq_true, decide_eq_true_eq, decide_eq_true_eq]
          omega
        refine ⟨_, rfl, _, _, 0, 60, rfl, hx3', _, rfl, ?_⟩
        rw [hrow]
        refine iteF ?_
        refine ⟨_, rfl, _, rfl, xa, xxs, rfl, .inr hsx, _, _, rfl, rfl, ?_⟩
        refine ⟨_, rfl, _, _, rfl, rfl, _, rfl, ?_⟩
        have hlb : xxs.length = b.length := by rw [hlx, ds_len]
        have hcb := len_ns b
        rw [hlb]
        rw [show decide ((200 : Int) < (c : Int) + (b.length : Int)) = false from decide_eq_false (by omega)]
        refine iteF ?_
        refine ⟨_, rfl, !xxs.isEmpty, .inr (.inl ⟨xxs, hsx, rfl⟩), ?_⟩
        have fin : xxs.isEmpty = true ∨ (xxs.isEmpty = false ∧ d ≤ 12) := by
          cases xxs with
          | nil => exact .inl rfl
          | cons x0 r =>
            refine .inr ⟨rfl, ?_⟩
            have : b ≠ [] := fun z => by rw [z] at hlb; simp at hlb
            have := ks_pos this
            have h13 : ks b + d ≤ 13 := hgb.1
            omega
        rcases fin with e | ⟨e, hd12⟩
        case' inl =>
          rw [e]
          refine iteF ?_
        case' inr =>
          rw [e]
          refine iteT ⟨_, rfl, _, _, rfl, rfl, _, rfl, ?_⟩
          rw [show decide ((12 : Int) < (d : Int)) = false from decide_eq_false (by omega)]
          refine iteF ?_
        all_goals
          refine ⟨_, rfl, xa, rfl, ⟨_, hsx⟩, ?_⟩
          refine for_tup (xs := xxs) (fun i σ H' => ∃ b5 b6, σ = [some (.ref a), some (.int ((c : Int) + (b.length : Int))), some (.ref Wd), some (.ref xa), some (.int (d : Int)), b5, b6] ∧ AbI K Ts H Wd (st' ++ push (d + 1) ((b.take i).flatMap St.bs)) H' ∧ Tk H3 H') ?_ ?_ ?_ ?_
          · exact ⟨b5, b6, rfl, by rw [List.take_zero]; simpa [push] using I3, Tk.refl _⟩
          · rintro i σ H' _ ⟨_, _, _, _, kk⟩
            exact kk.sqt hsx
          · rintro i x _ H4 hx ⟨b5', b6', rfl, I4, kk4⟩
            obtain ⟨dd, hdd, hdp⟩ := dps_get' hax hx
            rw [ds_map, List.getElem?_map] at hdd
            obtain ⟨s, hsb, rfl⟩ : ∃ s, b[i]? = some s ∧ dd = St.d s := by
              cases e : b[i]? with
              | none => rw [e] at hdd; cases hdd
              | some s => rw [e] at hdd; exact ⟨s, rfl, (Option.some.inj hdd).symm⟩
            have hsm : s ∈ b := List.mem_of_getElem? hsb
            obtain ⟨sec, hsec⟩ := hgb.2.2
            have hso : s.ok L N sec := oks_iff.mp hsec s hsm
            have hsw : s.wd := wdl_iff.mp hgb.2.1.2 s hsm
            have hd4 := kk4.dp _ (tup_St s) hdp
            refine ⟨_, rfl, x, s, L, N, sec, rfl, hd4, hso, hL, hN, I4.1, fun H5 g5 => ⟨_, rfl, ?_⟩⟩
            refine iteF ?_
            have I5 := I4.kp nW g5
            have kk5 : Tk H3 H5 := kk4.trans (Tk.go I4.1 g5)
            have hd5 := kk5.dp _ (tup_St s) hdp
            refine ⟨_, rfl, x, s, rfl, hd5, fun v' H6 s6 hd6 => ?_⟩
            obtain ⟨ra, rxs, rfl, hrs, hra, hrl⟩ := len_ok hd6
            have I6 := I5.kp nW (Go.of_same I5.1 s6)
            have kk6 : Tk H3 H6 := kk5.trans (Tk.same s6)
            refine ⟨ra, rfl, ⟨_, hrs⟩, ?_⟩
            have hrl2 : rxs.length = s.bs.length := by rw [hrl, dss_len]
            refine for_tup (xs := rxs) (fun j σ H' => ∃ b6, σ = [some (.ref a), some (.int ((c : Int) + (b.length : Int))), some (.ref Wd), some (.ref xa), some (.int (d : Int)), some x, b6] ∧ AbI K Ts H Wd (st' ++ push (d + 1) ((b.take i).flatMap St.bs) ++ push (d + 1) (s.bs.take j)) H' ∧ Tk H6 H') ?_ ?_ ?_ ?_
            · exact ⟨b6', rfl, by rw [List.take_zero]; simpa [push] using I6, Tk.refl _⟩
            · rintro j σ H' _ ⟨_, _, _, kk⟩
              exact kk.sqt hrs
            · rintro j y _ H7 hy ⟨b6'', rfl, I7, kk7⟩
              obtain ⟨t7, k7, tk7, vs7, h71, h72⟩ := id I7
              obtain ⟨dd, hdd, hdp2⟩ := dps_get' hra hy
              rw [dss_map, List.getElem?_map] at hdd
              obtain ⟨b2, hb2, rfl⟩ : ∃ b2, s.bs[j]? = some b2 ∧ dd = .tuple (ds b2) := by
                cases e : s.bs[j]? with
                | none => rw [e] at hdd; cases hdd
                | some s => rw [e] at hdd; exact ⟨s, rfl, (Option.some.inj hdd).symm⟩
              have hy7 := kk7.dp (.tuple (ds b2)) (tup_ds b2) hdp2
              refine ⟨_, rfl, .inl ⟨rfl, _, SqL.of h71⟩, _, rfl, _, rfl, _, _, rfl, rfl, (by show 2 ≤ sizeLine; decide), fun p7 hp7 => ?_⟩
              have np : p7 ≠ Wd := fun z => by rw [← z, hp7] at h71; cases h71
              have hW7 : upd H7 p7 (.tup [y, .int ((d : Int) + 1)]) Wd = some (.lst vs7) := by rw [upd_ne (Ne.symm np)]; exact h71
              refine ⟨Wd, vs7, _, rfl, rfl, hW7, ?_, ?_⟩
              · have l7 := h72.len
                have lm := len_mss ((st' ++ push (d + 1) ((b.take i).flatMap St.bs) ++ push (d + 1) (s.bs.take j)).map Prod.fst)
                rw [List.length_map, List.map_append, List.map_append, push_fst, push_fst, mss_app, mss_app, mss_flat] at lm
                have := mss_take s.bs j
                have := ms_take hsb
                have := m_bs s
                exact Nat.lt_of_le_of_lt (show vs7.length ≤ 10000 by omega) (by decide)
              · refine ⟨_, rfl, ?_, ?_⟩
                · have e : st' ++ push (d + 1) ((b.take i).flatMap St.bs) ++ push (d + 1) (s.bs.take (j + 1)) = (st' ++ push (d + 1) ((b.take i).flatMap St.bs) ++ push (d + 1) (s.bs.take j)) ++ [(b2, d + 1)] := by
                    rw [List.take_succ, hb2, push_app]
                    simp [push]
                  rw [e]
                  exact I7.push1 (d := d + 1) hp7 hW7 hy7
                · exact kk7.trans ((Tk.new hp7 _).trans (Tk.put hW7 _))
            · rintro σ H7 ⟨b6'', rfl, I7, kk7⟩
              refine ⟨_, _, rfl, ?_, kk6.trans kk7⟩
              have e : st' ++ push (d + 1) ((b.take (i + 1)).flatMap St.bs) = st' ++ push (d + 1) ((b.take i).flatMap St.bs) ++ push (d + 1) (s.bs.take rxs.length) := by
                rw [hrl2, List.take_length, List.take_succ, hsb, List.flatMap_append, push_app]
                simp
              rw [e]
              exact I7
          · rintro σ H' ⟨b5', b6', rfl, I4, kk4⟩
            rw [hlb, List.take_length] at I4
            refine ⟨c + b.length, _, _, _, _, _, ?_, by rw [Int.natCast_add], I4, ?_, ?_, ?_⟩
            · rw [List.map_append, push_fst, mss_app, mss_flat]
              omega
            · have := nss_flat b
              rw [List.map_append, push_fst, nss_app]
              omega
            · rw [List.map_append, push_fst, mss_app, mss_flat]
              omega
            · intro e he
              rcases List.mem_append.mp he with he | he
              · exact hg' e he
              · obtain ⟨h1, h2⟩ := push_mem he
                obtain ⟨s, hs1, hs2⟩ := List.mem_flatMap.mp h1
                obtain ⟨sec, hsec⟩ := hgb.2.2
                have hso : s.ok L N sec := oks_iff.mp hsec s hs1
                have hsw : s.wd := wdl_iff.mp hgb.2.1.2 s hs1
                refine ⟨?_, wdbs_iff.mp (wd_bs hsw) _ hs2, ok_bs hso _ hs2⟩
                have h13 : ks b + d ≤ 13 := hgb.1
                have := ks_mem hs1
                have := kss_mem hs2
                have := k_bs s
                omega
end
end K04


set_option Elab.async false
set_option linter.all false
set_option maxRecDepth 100000
set_option maxHeartbeats 8000000
namespace K04
open PySem PySem.Spec PyProof.Rows L2
def procD (p : Str × List St) : PyData := .tuple [.str p.1, .tuple (ds p.2)]
def progD (L : List Str) (P : List (Str × List St)) : PyData := .tuple [.tuple (L.map .str), .tuple (P.map procD)]
def nsP (P : List (Str × List St)) : List (List St) := P.map Prod.snd
/-- right by its form; A, B: all names of letters and procedures in it -/
structure Prog (L : List Str) (P : List (Str × List St)) (A B : List Str) : Prop where
  l1 : 1 ≤ L.length
  l2 : L.length ≤ 20
  p1 : 1 ≤ P.length
  p2 : P.length ≤ 8
  okA : Nok A
  okB : Nok B
  inA : ∀ x ∈ L, x ∈ A
  inB : ∀ x ∈ P.map Prod.fst, x ∈ B
  ok : ∀ b ∈ nsP P, oks A B false b
  wd : wdbs (nsP P)
  ks : kss (nsP P) ≤ 12
  n : nss (nsP P) ≤ 200
theorem tup_strs : ∀ L : List Str, TupDs (L.map PyData.str)
  | [] => trivial
  | _ :: r => ⟨trivial, tup_strs r⟩
theorem tup_proc (p : Str × List St) : TupD (procD p) := ⟨trivial, tup_ds p.2, trivial⟩
theorem tup_procs : ∀ P : List (Str × List St), TupDs (P.map procD)
  | [] => trivial
  | p :: r => ⟨tup_proc p, tup_procs r⟩
theorem tup_prog (L : List Str) (P : List (Str × List St)) : TupD (progD L P) := ⟨tup_strs L, tup_procs P, trivial⟩
-- choices have six bodies at most
mutual
theorem m_n {L N : List Str} : ∀ (sec : Bool) (s : St), s.ok L N sec → s.m ≤ 6 * s.n
  | _, .dd _, _ | _, .ud _, _ | _, .cl _, _ | _, .rt, _ => by simp [St.m]
  | sec, .ch bs, h => by
    have := mss_n sec bs h.2.2
    have := h.2.1
    rw [St.m, St.n]
    omega
  | sec, .lp b, h => by
    have := ms_n sec b h
    rw [St.m, St.n]
    omega
  | sec, .en b c, h => by
    have := ms_n sec b h.1
    have := ms_n true c h.2
    rw [St.m, St.n]
    omega
theorem ms_n {L N : List Str} : ∀ (sec : Bool) (b : List St), oks L N sec b → ms b ≤ 6 * ns b
  | _, [], _ => by simp [ms]
  | sec, s :: r, h => by
    have := m_n sec s h.1
    have := ms_n sec r h.2
    rw [ms, ns]
    omega
theorem mss_n {L N : List Str} : ∀ (sec : Bool) (b : List (List St)), okss L N sec b → mss b ≤ b.length + 6 * nss b
  | _, [], _ => by simp [mss]
  | sec, s :: r, h => by
    have := ms_n sec s h.1
    have := mss_n sec r h.2
    rw [mss, nss, List.length_cons]
    omega
end
theorem dps_app {K : PySem.W.Frag} {H : Hp} : ∀ {vs ws : List V} {ds es : List PyData}, DpAll K H vs ds → DpAll K H ws es → DpAll K H (vs ++ ws) (ds ++ es)
  | _, _, _, _, .nil, h => h
  | _, _, _, _, .cons a t, h => .cons a (dps_app t h)
theorem ndl : (["letter"] : List Str).Nodup := by decide +kernel
theorem strs_get {L : List Str} {i : Nat} {d : PyData} (h : (L.map PyData.str)[i]? = some d) : ∃ x, L[i]? = some x ∧ d = .str x := by
  rw [List.getElem?_map] at h
  cases e : L[i]? with
  | none => rw [e] at h; cases h
  | some s => rw [e] at h; exact ⟨s, rfl, (Option.some.inj h).symm⟩
theorem procs_get {P : List (Str × List St)} {i : Nat} {d : PyData} (h : (P.map procD)[i]? = some d) : ∃ x, P[i]? = some x ∧ d = procD x := by
  rw [List.getElem?_map] at h
  cases e : P[i]? with
  | none => rw [e] at h; cases h
  | some s => rw [e] at h; exact ⟨s, rfl, (Option.some.inj h).symm⟩
section
variable {P : Program} {w : World} {K : PySem.W.Frag} {mg : Str → Option Value} {base : Heap}

def spProg (K : PySem.W.Frag) (Ts : List Addr) : Sp := fun vs H Q _ => ∃ v L P A B, vs = [v] ∧ Dp K H v (progD L P) ∧ Prog L P A B ∧ Tbs Ts H ∧ ∀ H', Go Ts H H' → Q (.bl true) H'
theorem sc_is_program : FnScope ["thing", "letters", "procedures", "procedure"] ["thing"] (C8.fnScope (topS 20)) := C8.fnScope_by (by decide +kernel)
theorem ok_is_program {Ts : List Addr} {f c T : Addr} {oc : Value} {od an : Option Addr} {kV doc pm ct : Value} {osl : Array (Option Value)}
    (lk : K.lookup f = some ⟨oc, od, .func (PySem.W.fnOf "is_program" "is_program" (C8.fnArgs (topS 20)) (C8.fnBody (topS 20)) (C8.fnScope (topS 20)) .none kV doc pm an (.ref c) ct), osl⟩) (hcd : PySem.W.codeIn K (.ref c) "is_program" = true)
    (TB : LamX.TabB base mg c T) (hT : T ∈ Ts) (B : Bl K mg) (c_is_row : C8.Cal P w K mg base 1 "is_row" (spRow K) []) (c_is_name : C8.Cal P w K mg base 4 "is_name" (spName K Ts) []) (c__are_bodies : C8.Cal P w K mg base 6 "_are_bodies" (spAB K Ts) []) :
    FnOk P w K mg base C8.CX0 8 f (PySem.W.fnOf "is_program" "is_program" (C8.fnArgs (topS 20)) (C8.fnBody (topS 20)) (C8.fnScope (topS 20)) .none kV doc pm an (.ref c) ct) ["thing"] (spProg K Ts) := by
  refine fn_of lk hcd sc_is_program (by rintro vs H Q E ⟨v, _, _, _, _, rfl, _⟩; rfl) ?_
  intro A outer s H vs Q E hr hsp
  suffices h : ∃ t, PSs (cxOf C8.CX0 P w K mg base ["thing", "letters", "procedures", "procedure"] "is_program" (C8.fnScope (topS 20)) f (.ref c) A outer s H E).nox (C8.fnBody (topS 20)) t ∧ t { nx := fun _ H' => Q .non H', rt := Q } (start ["thing", "letters", "procedures", "procedure"] vs) H by
    obtain ⟨t, h1, h2⟩ := h
    exact ⟨t, h1.nox, h2⟩
  obtain ⟨v, L, Ps, AL, BN, rfl, hd, hP, hTb, q⟩ := hsp
  refine ⟨_, (pss_cons (ps_if (pt_not (pt_val (C8.pe_c c_is_row hr (by decide) rfl (pa_cons (pv 0) (pa_cons pe_int (pa_cons pe_int pa_nil)))))) (pss_one (ps_ret pe_bl)) pss_nil)
    (pss_cons (ps_asg (pv 0) (pg_tup rfl (pgs_cons (pg_name (i := 1) sc_is_program.nd rfl (Or.inl rfl)) (pgs_cons (pg_name (i := 2) sc_is_program.nd rfl (Or.inl rfl)) pgs_nil))))
    (pss_cons (ps_if (PW.pt (pw_or (pt_not (pt_val (C8.pe_c c_is_row hr (by decide) rfl (pa_cons (pv 1) (pa_cons pe_int (pa_cons (pe_glob (v := .int 20) rfl B.MOST_LETTERS.choose_spec ⟨_, rfl⟩) pa_nil)))))) (pw_or1 (pt_not (pt_val (C8.pe_c c_is_row hr (by decide) rfl (pa_cons (pv 2) (pa_cons pe_int (pa_cons (pe_glob (v := .int 8) rfl B.MOST_PROCEDURES.choose_spec ⟨_, rfl⟩) pa_nil))))))))) (pss_one (ps_ret pe_bl)) pss_nil)
    (pss_cons (ps_for PassesOwn.never rfl (pi_tup (pv 2)) (pg_name (i := 3) sc_is_program.nd rfl (Or.inl rfl))
    (pss_one (ps_if (PW.pt (pw_or (pt_not (pt_val (C8.pe_c c_is_row hr (by decide) rfl (pa_cons (pv 3) (pa_cons pe_int (pa_cons pe_int pa_nil)))))) (pw_or1 (pt_not (pt_val (C8.pe_c c_is_name hr (by decide) rfl (pa_cons (pe_ix ix_tup (pv 3) pe_int (fun _ _ => rfl)) pa_nil))))))) (pss_one (ps_ret pe_bl)) pss_nil)))
    (pss_one (ps_ret (pe_and (UG.pe_allG (P := T) (N := ["letter"]) (k := 4) (g := gName 0) (hr.mono (by decide)) rfl B.all (by decide +kernel) TB rfl (gensc_by (by decide +kernel)) (pi_tup (pv 1))
      (fun _ _ _ _ _ _ _ => by exact pg_name (i := 0) ndl rfl (Or.inl rfl))
      (fun _ _ _ _ _ _ hr' => by exact C8.pe_c c_is_name hr' (by decide) rfl (pa_cons (pv 0) pa_nil))) (pe_one (C8.pe_c c__are_bodies hr (by decide) rfl (pa_cons (pe_lc (own := [("procedure", 3)]) (g := gName 3) (te := tOp (rIxT K) (tVar 3) (tC (.int 1))) (by rfl) sc_is_program.nd (pi_tup (pv 2)) (blkOk_by (own := [("procedure", 3)]) (N := ["thing", "letters", "procedures", "procedure"]) (sc := (C8.fnScope (topS 20))) (by decide +kernel)) (fun _ _ _ _ _ => pg_name (i := 3) sc_is_program.nd rfl (Or.inl rfl)) (fun _ _ _ _ _ => pts_nil) (fun _ _ _ _ _ => by exact (pe_ix ix_tup (pv 3) pe_int (fun _ _ => rfl)))) pa_nil)))))))))), ?_⟩
  have hd0 := hd
  obtain ⟨a, xs, rfl, hs, ha, hl⟩ := len_ok hd
  cases ha with
  | @cons vL _ _ _ hvL ha =>
  cases ha with
  | @cons vP _ _ _ hvP ha =>
  cases ha
  refine ⟨_, rfl, _, _, 2, 2, rfl, hd0, _, rfl, ?_⟩
  refine iteF ?_
  refine ⟨_, rfl, a, _, rfl, hs, rfl, _, _, rfl, _, _, rfl, rfl, ?_⟩
  refine ⟨_, rfl, _, _, 1, 20, rfl, hvL, _, rfl, ?_⟩
  have l1 := hP.l1
  have l2 := hP.l2
  have p1 := hP.p1
  have p2 := hP.p2
  rw [show rowD (.tuple (L.map PyData.str)) 1 20 = true by
    show (decide ((1 : Int) ≤ ((L.map PyData.str).length : Int)) && decide (((L.map PyData.str).length : Int) ≤ 20)) = true
    rw [List.length_map, Bool.and_eq_true, decide_eq_true_eq, decide_eq_true_eq]
    omega]
  refine iteF ?_
  refine ⟨_, rfl, _, _, 1, 8, rfl, hvP, _, rfl, ?_⟩
  rw [show rowD (.tuple (Ps.map procD)) 1 8 = true by
    show (decide ((1 : Int) ≤ ((Ps.map procD).length : Int)) && decide (((Ps.map procD).length : Int) ≤ 8)) = true
    rw [List.length_map, Bool.and_eq_true, decide_eq_true_eq, decide_eq_true_eq]
    omega]
  refine iteF ?_
  have hvL0 := hvL
  have hvP0 := hvP
  obtain ⟨la, lxs, rfl, hls, hla, hll⟩ := len_ok hvL
  obtain ⟨pa, pxs, rfl, hps, hpa, hpl⟩ := len_ok hvP
  rw [List.length_map] at hll hpl
  refine ⟨_, rfl, pa, rfl, ⟨_, hps⟩, ?_⟩
  refine for_tup (xs := pxs) (fun i σ H' => ∃ b3, σ = [some (.ref a), some (.ref la), some (.ref pa), b3] ∧ Go Ts H H') ?_ ?_ ?_ ?_
  · exact ⟨none, rfl, Go.refl hTb⟩
  · rintro i σ H' _ ⟨_, _, g⟩
    exact (Tk.go hTb g).sqt hps
  · rintro i x _ H1 hx ⟨b3, rfl, g⟩
    obtain ⟨d, hd, hdp⟩ := dps_get' hpa hx
    obtain ⟨p, hp, rfl⟩ := procs_get hd
    have hd1 := (Tk.go hTb g).dp _ (tup_proc p) hdp
    refine ⟨_, rfl, _, _, 2, 2, rfl, hd1, _, rfl, ?_⟩
    refine iteF ?_
    obtain ⟨qa, qxs, rfl, hqs, hqa, hql⟩ := len_ok hd1
    cases hqa with
    | @cons v0 _ _ _ h0 hqa =>
    have hnm : nameB p.1 = true := hP.okB p.1 (hP.inB _ (List.mem_map.mpr ⟨p, List.mem_of_getElem? hp, rfl⟩))
    refine ⟨_, rfl, _, _, _, _, rfl, rfl, hqs, at0 _ _, v0, _, rfl, h0, nameB_str hnm, g.1, fun H2 g2 => ⟨_, rfl, ?_⟩⟩
    rw [show nameD (.str p.1) = true from hnm]
    refine iteF ?_
    exact ⟨_, rfl, g.trans g2⟩
  · rintro σ H1 ⟨b3, rfl, g1⟩
    have hls1 := (Tk.go hTb g1).sqt hls
    refine ⟨_, rfl, la, rfl, ⟨_, hls1⟩, g1.1 T hT, lxs.length, fun i H' => i ≤ lxs.length ∧ Go Ts H H', ⟨?_⟩, ?_⟩
    · rintro i H2 ⟨hi, g2⟩
      have hls2 := (Tk.go hTb g2).sqt hls
      by_cases hlt : i < lxs.length
      · refine .inr ⟨hlt, ⟨_, _, hls2, List.getElem?_eq_getElem hlt⟩, ?_⟩
        rintro x H3 ⟨rfl, hx⟩
        have ex := hx _ hls2
        obtain ⟨d, hd, hdp⟩ := dps_get' hla ex
        obtain ⟨y, hy, rfl⟩ := strs_get hd
        cases hdp
        have hnm : nameB y = true := hP.okA y (hP.inA _ (List.mem_of_getElem? hy))
        refine ⟨_, rfl, .str y, .str y, rfl, .str y, nameB_str hnm, g2.1, fun H4 g4 => ⟨_, rfl, ?_⟩⟩
        rw [show nameD (.str y) = true from hnm]
        exact iteT ⟨hlt, g2.trans g4⟩
      · refine .inl ⟨⟨_, hls2, by omega⟩, ⟨_, rfl, ?_⟩⟩
        refine iteT ?_
        have hps2 := (Tk.go hTb g2).sqt hps
        refine ⟨_, rfl, pa, rfl, ⟨_, hps2⟩, fun Dd hDd => ?_⟩
        have bodies : ∀ i : Nat, i ≤ Ps.length → True := fun _ _ => trivial
        refine lc_tup (xs := pxs) (fun i H' => ∃ vs, H' Dd = some (.lst vs) ∧ DpAll K H' vs (dss ((nsP Ps).take i)) ∧ Tbs Ts H' ∧ Same H2 H') ?_ ?_ ?_ ?_
        · exact ⟨[], upd_same, by rw [List.take_zero]; exact .nil, tbs_new g2.1 hDd, same_new hDd _⟩
        · rintro i H' _ ⟨_, _, _, _, s5⟩
          exact (Tk.same s5).sqt hps2
        · rintro i x H5 hx ⟨vs, hv1, hv2, t5, s5⟩
          obtain ⟨d, hd, hdp⟩ := dps_get' hpa hx
          obtain ⟨p, hp, rfl⟩ := procs_get hd
          have hd1 := ((Tk.go hTb g2).trans (Tk.same s5)).dp _ (tup_proc p) hdp
          obtain ⟨qa, qxs, rfl, hqs, hqa, hql⟩ := len_ok hd1
          cases hqa with
          | @cons v0 _ _ _ h0 hqa =>
          cases hqa with
          | @cons v1 _ _ _ h1 hqa =>
          refine ⟨rfl, ?_⟩
          refine ⟨_, rfl, _, _, _, _, rfl, rfl, hqs, at1 _ _ _, vs, hv1, ?_, _, upd_same, ?_, tbs_upd t5 hv1 (fun ps z => by cases z), ?_⟩
          · have := dps_len hv2
            rw [dss_len] at this
            have h3 : ((nsP Ps).take i).length ≤ (nsP Ps).length := List.length_take_le' _ _
            have h4 : (nsP Ps).length = Ps.length := by unfold nsP; rw [List.length_map]
            exact Nat.lt_of_le_of_lt (show vs.length ≤ 10000 by omega) (by decide)
          · have tk5 : Tk H5 (upd H5 Dd (.lst (vs ++ [v1]))) := Tk.put hv1 _
            have e : (nsP Ps).take (i + 1) = (nsP Ps).take i ++ [p.2] := by
              unfold nsP
              rw [List.take_succ, List.getElem?_map, hp]
              rfl
            rw [e]
            have e2 : ∀ x y : List (List St), dss (x ++ y) = dss x ++ dss y := fun x y => by rw [dss_map, dss_map, dss_map, List.map_append]
            rw [e2]
            exact dps_app (tk5.dps _ (tup_dss _) hv2) (.cons (tk5.dp (.tuple (ds p.2)) (tup_ds p.2) h1) .nil)
          · intro b o e
            rw [upd_ne (fun z => by rw [z, hDd] at e; cases e)]
            exact s5 _ _ e
        · rintro H5 ⟨vs, hv1, hv2, t5, s5⟩
          have hpl2 : (nsP Ps).length = pxs.length := by unfold nsP; rw [List.length_map, hpl]
          rw [← hpl2, List.take_length] at hv2
          have hkk : ∀ b ∈ nsP Ps, ∃ sec, oks AL BN sec b := fun b hb => ⟨false, hP.ok b hb⟩
          have hms := mss_n false (nsP Ps) (okss_iff.mpr hP.ok)
          have hn := hP.n
          refine ⟨Dd, vs, nsP Ps, AL, BN, rfl, SqL.of hv1, hv2, hn, by omega, hP.ks, hP.wd, hkk, hP.okA, hP.okB, t5, fun H6 g6 => ?_⟩
          exact q _ (g2.trans ((Go.of_same g2.1 s5).trans g6))
    · intro H2 t2
      exact ⟨Nat.zero_le _, g1.trans (Go.of_tab g1.1 hT t2)⟩
def spWant (K : PySem.W.Frag) (Ts : List Addr) : Sp := fun vs H Q _ => ∃ v L P A B, vs = [v] ∧ Dp K H v (progD L P) ∧ Prog L P A B ∧ Tbs Ts H ∧ ∀ H', Go Ts H H' → Q .non H'
theorem sc_want_program : FnScope ["program"] ["program"] (C8.fnScope (topS 24)) := C8.fnScope_by (by decide +kernel)
theorem ok_want_program {Ts : List Addr} {f : Addr} {fd : FuncData} (F : C8.Def K mg "want_program" (topS 24) f fd) (b : Binds K fd ["program"] []) (B : Bl K mg) (c_is_program : C8.Cal P w K mg base 8 "is_program" (spProg K Ts) []) : C8.Cal P w K mg base 9 "want_program" (spWant K Ts) [] := by
  refine C8.cal0 F b .nil sc_want_program ?len ?body
  case len => rintro vs H Q E ⟨v, L, Ps, AL, BN, rfl, _⟩; rfl
  case body =>
    rintro cdv A outer s H vs Q E hr ⟨v, L, Ps, AL, BN, rfl, hd, hP, hTb, q⟩
    refine ⟨_, (pss_one (ps_if (pt_not (pt_val (C8.pe_c c_is_program hr (by decide) rfl (pa_cons (pv 0) pa_nil)))) pss_never pss_nil)), ?_⟩
    exact ⟨_, rfl, v, L, Ps, AL, BN, rfl, hd, hP, hTb, fun H1 g1 => ⟨_, rfl, iteF (q H1 g1)⟩⟩
end
end K04


set_option Elab.async false
set_option linter.all false
set_option maxRecDepth 100000
set_option maxHeartbeats 8000000
namespace K04
open PySem PySem.Spec PyProof.Rows L2
theorem for_enumT {K : PySem.W.Frag} {a : Addr} {xs : List V} {g : TG} {tb : TS} {D : Ends} {σ : L2.St} {H : Hp} (Pv : Nat → L2.St → Hp → Prop) (h0 : Pv 0 σ H) (hl : ∀ i σ H, i ≤ xs.length → Pv i σ H → SqT K H a xs)
    (hs : ∀ i x σ H Tp, xs[i]? = some x → Pv i σ H → H Tp = none → g (.ref Tp) σ (upd H Tp (.tup [.int (i : Nat), x])) fun σ2 H2 => tb { D with nx := Pv (i + 1), ct := Pv (i + 1), bk := D.nx } σ2 H2) (hd : ∀ σ H, Pv xs.length σ H → D.nx σ H) :
    ∃ W : Nat → Nat → L2.St → Hp → Prop, (∃ m, W 0 m σ H) ∧ ∀ i m σ H, W i m σ H →
      ((UG.Iet K a).stop i H ∧ D.nx σ H) ∨ ((UG.Iet K a).go i H ∧ ∃ N : L2.St → Hp → Prop, (∀ σ' H', N σ' H' → ∃ m', m' < m ∧ W (i + 1) m' σ' H') ∧ ∀ x H', (UG.Iet K a).yld i H x H' → g x σ H' fun σ2 H2 => tb { D with nx := N, ct := N, bk := D.nx } σ2 H2) := by
  refine ⟨fun i m σ H => m = xs.length - i ∧ i ≤ xs.length ∧ Pv i σ H, ⟨xs.length, by simp, Nat.zero_le _, h0⟩, ?_⟩
  rintro i m σ H ⟨rfl, hi, p⟩
  have q := hl i σ H hi p
  by_cases hlt : i < xs.length
  · refine .inr ⟨⟨xs, xs[i], q, List.getElem?_eq_getElem hlt⟩, Pv (i + 1), fun σ' H' p' => ⟨xs.length - (i + 1), by omega, rfl, hlt, p'⟩, ?_⟩
    rintro _ _ ⟨Tp, x, rfl, hTp, rfl, hx⟩
    exact hs i x σ H Tp (hx xs q) p hTp
  · have e : i = xs.length := by omega
    subst e
    exact .inl ⟨⟨xs, q, Nat.le_refl _⟩, hd σ H p⟩
theorem for_enumLL {K : PySem.W.Frag} {a : Addr} {xs : List V} {g : TG} {tb : TS} {D : Ends} {σ : L2.St} {H : Hp} (Pv : Nat → L2.St → Hp → Prop) (h0 : Pv 0 σ H) (hl : ∀ i σ H, i ≤ xs.length → Pv i σ H → SqL K H a xs)
    (hs : ∀ i x σ H Tp, xs[i]? = some x → Pv i σ H → H Tp = none → g (.ref Tp) σ (upd H Tp (.tup [.int (i : Nat), x])) fun σ2 H2 => tb { D with nx := Pv (i + 1), ct := Pv (i + 1), bk := D.nx } σ2 H2) (hd : ∀ σ H, Pv xs.length σ H → D.nx σ H) :
    ∃ W : Nat → Nat → L2.St → Hp → Prop, (∃ m, W 0 m σ H) ∧ ∀ i m σ H, W i m σ H →
      ((Ite K a).stop i H ∧ D.nx σ H) ∨ ((Ite K a).go i H ∧ ∃ N : L2.St → Hp → Prop, (∀ σ' H', N σ' H' → ∃ m', m' < m ∧ W (i + 1) m' σ' H') ∧ ∀ x H', (Ite K a).yld i H x H' → g x σ H' fun σ2 H2 => tb { D with nx := N, ct := N, bk := D.nx } σ2 H2) := by
  refine ⟨fun i m σ H => m = xs.length - i ∧ i ≤ xs.length ∧ Pv i σ H, ⟨xs.length, by simp, Nat.zero_le _, h0⟩, ?_⟩
  rintro i m σ H ⟨rfl, hi, p⟩
  have q := hl i σ H hi p
  by_cases hlt : i < xs.length
  · refine .inr ⟨⟨xs, xs[i], q, List.getElem?_eq_getElem hlt⟩, Pv (i + 1), fun σ' H' p' => ⟨xs.length - (i + 1), by omega, rfl, hlt, p'⟩, ?_⟩
    rintro _ _ ⟨Tp, x, rfl, hTp, rfl, hx⟩
    exact hs i x σ H Tp (hx xs q) p hTp
  · have e : i = xs.length := by omega
    subst e
    exact .inl ⟨⟨xs, q, Nat.le_refl _⟩, hd σ H p⟩
theorem inV_strs (k : Str) (L : List Str) : inV (.str k) (L.map V.str) = decide (k ∈ L) := by
  rw [inV_str]
  induction L with
  | nil => rfl
  | cons z r ih =>
    rw [List.any_cons, ih]
    by_cases h : k = z
    · subst h; simp
    · simp [h]
theorem flat_strs : ∀ L : List Str, (L.map V.str).all flatV = true
  | [] => rfl
  | _ :: r => by rw [List.map_cons, List.all_cons, flat_strs r]; rfl
theorem sIx_le {n i : Nat} (h : i ≤ n) : HT.sIx n n (some (i : Int)) = i := by
  rw [HT.sIx_nat]
  omega
theorem cut_take (xs : List V) {i : Nat} (h : i ≤ xs.length) : cutV xs none (some (i : Int)) = xs.take i := by
  unfold cutV
  rw [sIx_le h]
  have : HT.sIx xs.length 0 none = 0 := rfl
  rw [this]
  simp
/-- the word of a statement -/
def St.w : St → Str
  | .dd _ => "do"
  | .ud _ => "undo"
  | .cl _ => "call"
  | .ch _ => "choose"
  | .lp _ => "loop"
  | .rt => "return"
  | .en _ _ => "ensure"
theorem d_word : ∀ s : St, ∃ r, s.d = .tuple (.str s.w :: r)
  | .dd _ | .ud _ | .cl _ | .ch _ | .lp _ | .rt | .en _ _ => ⟨_, rfl⟩
def isEn : St → Bool
  | .en _ _ => true
  | _ => false
theorem w_en : ∀ s : St, decide (s.w = "ensure") = isEn s
  | .dd _ => (by decide +kernel : decide (("do" : Str) = "ensure") = false)
  | .ud _ => (by decide +kernel : decide (("undo" : Str) = "ensure") = false)
  | .cl _ => (by decide +kernel : decide (("call" : Str) = "ensure") = false)
  | .ch _ => (by decide +kernel : decide (("choose" : Str) = "ensure") = false)
  | .lp _ => (by decide +kernel : decide (("loop" : Str) = "ensure") = false)
  | .rt => (by decide +kernel : decide (("return" : Str) = "ensure") = false)
  | .en _ _ => (by decide +kernel : decide (("ensure" : Str) = "ensure") = true)
theorem bs_k {s : St} {j : Nat} {b : List St} (e : s.bs[j]? = some b) : ks b < s.k := by
  have := kss_mem (List.mem_of_getElem? e)
  have := k_bs s
  omega
-- what stands in it, in its order, each with whether it stands in a second body
mutual
def St.fs (sec : Bool) : St → List (St × Bool)
  | .dd x => [(.dd x, sec)]
  | .ud x => [(.ud x, sec)]
  | .cl x => [(.cl x, sec)]
  | .ch bs => (.ch bs, sec) :: fsss sec bs
  | .lp b => (.lp b, sec) :: fss sec b
  | .rt => [(.rt, sec)]
  | .en b c => (.en b c, sec) :: (fss sec b ++ fss true c)
def fss (sec : Bool) : List St → List (St × Bool)
  | [] => []
  | s :: r => s.fs sec ++ fss sec r
def fsss (sec : Bool) : List (List St) → List (St × Bool)
  | [] => []
  | b :: r => fss sec b ++ fsss sec r
end
def fsE (sec e : Bool) : Nat → List (List St) → List (St × Bool)
  | _, [] => []
  | j, b :: r => fss (sec || (e && decide ((j : Int) = 1))) b ++ fsE sec e (j + 1) r
theorem fsE_no (sec : Bool) : ∀ (bs : List (List St)) (j : Nat), fsE sec false j bs = fsss sec bs
  | [], _ => rfl
  | b :: r, j => by rw [fsE, fsss, fsE_no sec r, Bool.false_and, Bool.or_false]
theorem fs_bs (sec : Bool) : ∀ s : St, s.fs sec = (s, sec) :: fsE sec (isEn s) 0 s.bs
  | .dd _ | .ud _ | .cl _ | .rt => rfl
  | .ch bs => by rw [St.fs, show isEn (.ch bs) = false from rfl, fsE_no]; rfl
  | .lp b => by rw [St.fs, show isEn (.lp b) = false from rfl, fsE_no]; simp [St.bs, fsss]
  | .en b c => by
    rw [St.fs, show isEn (.en b c) = true from rfl]
    simp [St.bs, fsE]
theorem fsE_take (sec e : Bool) : ∀ {bs : List (List St)} {j : Nat} {b : List St} (k : Nat), bs[j]? = some b → fsE sec e k (bs.take (j + 1)) = fsE sec e k (bs.take j) ++ fss (sec || (e && decide (((k + j : Nat) : Int) = 1))) b
  | [], j, b, k, h => by simp at h
  | x :: r, 0, b, k, h => by
    simp at h
    subst h
    simp [fsE]
  | x :: r, j + 1, b, k, h => by
    have := fsE_take sec e (bs := r) (j := j) (b := b) (k + 1) (by simpa using h)
    rw [List.take_succ_cons, List.take_succ_cons, fsE, fsE, this, List.append_assoc, show k + (j + 1) = k + 1 + j by omega]
theorem fss_take (sec : Bool) : ∀ {b : List St} {i : Nat} {s : St}, b[i]? = some s → fss sec (b.take (i + 1)) = fss sec (b.take i) ++ s.fs sec
  | [], i, s, h => by simp at h
  | x :: r, 0, s, h => by
    simp at h
    subst h
    simp [fss]
  | x :: r, i + 1, s, h => by
    have := fss_take sec (b := r) (i := i) (s := s) (by simpa using h)
    rw [List.take_succ_cons, List.take_succ_cons, fss, fss, this, List.append_assoc]
mutual
theorem fs_len (sec : Bool) : ∀ s : St, (s.fs sec).length = s.n
  | .dd _ | .ud _ | .cl _ | .rt => rfl
  | .ch bs => by rw [St.fs, List.length_cons, fsss_len sec bs, St.n]; omega
  | .lp b => by rw [St.fs, List.length_cons, fss_len sec b, St.n]; omega
  | .en b c => by rw [St.fs, List.length_cons, List.length_append, fss_len sec b, fss_len true c, St.n]; omega
theorem fss_len (sec : Bool) : ∀ b : List St, (fss sec b).length = ns b
  | [] => rfl
  | s :: r => by rw [fss, List.length_append, fs_len sec s, fss_len sec r, ns]
theorem fsss_len (sec : Bool) : ∀ b : List (List St), (fsss sec b).length = nss b
  | [] => rfl
  | s :: r => by rw [fsss, List.length_append, fss_len sec s, fsss_len sec r, nss]
end
theorem fsE_len (sec e : Bool) : ∀ (j : Nat) (b : List (List St)), (fsE sec e j b).length = nss b
  | _, [] => rfl
  | j, s :: r => by rw [fsE, List.length_append, fss_len, fsE_len sec e (j + 1) r, nss]
/-- the list of what was found -/
inductive Fds (K : PySem.W.Frag) (H : Hp) : List V → List (St × Bool) → Prop
  | nil : Fds K H [] []
  | cons {p : Addr} {x : V} {s : St} {sec : Bool} {vs : List V} {l : List (St × Bool)} : SqT K H p [x, .bl sec] → Dp K H x s.d → Fds K H vs l → Fds K H (.ref p :: vs) ((s, sec) :: l)
theorem Fds.tk {K : PySem.W.Frag} {H H' : Hp} (t : Tk H H') : ∀ {vs : List V} {l : List (St × Bool)}, Fds K H vs l → Fds K H' vs l
  | _, _, .nil => .nil
  | _, _, .cons h1 h2 r => .cons (t.sqt h1) (t.dp _ (tup_St _) h2) (r.tk t)
theorem Fds.app {K : PySem.W.Frag} {H : Hp} : ∀ {vs ws : List V} {l m : List (St × Bool)}, Fds K H vs l → Fds K H ws m → Fds K H (vs ++ ws) (l ++ m)
  | _, _, _, _, .nil, h => h
  | _, _, _, _, .cons h1 h2 r, h => .cons h1 h2 (r.app h)
theorem Fds.len {K : PySem.W.Frag} {H : Hp} : ∀ {vs : List V} {l : List (St × Bool)}, Fds K H vs l → vs.length = l.length
  | _, _, .nil => rfl
  | _, _, .cons _ _ r => by rw [List.length_cons, List.length_cons, r.len]
theorem Fds.get {K : PySem.W.Frag} {H : Hp} : ∀ {vs : List V} {l : List (St × Bool)} {i : Nat} {v : V}, Fds K H vs l → vs[i]? = some v → ∃ p x s sec, v = .ref p ∧ SqT K H p [x, .bl sec] ∧ Dp K H x (St.d s) ∧ l[i]? = some (s, sec)
  | _, _, i, v, .nil, h => by simp at h
  | _, _, 0, v, .cons h1 h2 r, h => by
    simp at h
    exact ⟨_, _, _, _, h.symm, h1, h2, rfl⟩
  | _, _, i + 1, v, .cons h1 h2 r, h => by
    obtain ⟨p, x, s, sec, a, b, c, d⟩ := r.get (i := i) (v := v) (by simpa using h)
    exact ⟨p, x, s, sec, a, b, c, by simpa using d⟩
/-- the first name that stands ahead -/
def fd1 : List Str → List Str → Option Str
  | _, [] => none
  | seen, x :: r => if x ∈ seen then some x else fd1 (seen ++ [x]) r
def firstD (L : List Str) : Option Str := fd1 [] L
def optV : Option Str → V
  | none => .non
  | some x => .str x
theorem fd1_step {L : List Str} {i : Nat} {y : Str} (h : L[i]? = some y) : fd1 (L.take i) (L.drop i) = if y ∈ L.take i then some y else fd1 (L.take (i + 1)) (L.drop (i + 1)) := by
  obtain ⟨hi, e⟩ := List.getElem?_eq_some_iff.mp h
  rw [List.drop_eq_getElem_cons hi, fd1, e, List.take_succ, h]
  rfl
theorem ns_take : ∀ {b : List St} {i : Nat} {s : St}, b[i]? = some s → ns (b.take (i + 1)) = ns (b.take i) + s.n
  | [], i, s, h => by simp at h
  | x :: r, 0, s, h => by
    simp at h
    subst h
    simp [ns]
  | x :: r, i + 1, s, h => by
    have := ns_take (b := r) (i := i) (s := s) (by simpa using h)
    rw [List.take_succ_cons, List.take_succ_cons, ns, ns, this]
    omega
theorem ns_take_le : ∀ (b : List St) (i : Nat), ns (b.take i) ≤ ns b
  | [], i => by simp
  | x :: r, 0 => by simp [ns]
  | x :: r, i + 1 => by
    have := ns_take_le r i
    rw [List.take_succ_cons, ns, ns]
    omega
theorem nss_takeS : ∀ {b : List (List St)} {i : Nat} {s : List St}, b[i]? = some s → nss (b.take (i + 1)) = nss (b.take i) + ns s
  | [], i, s, h => by simp at h
  | x :: r, 0, s, h => by
    simp at h
    subst h
    simp [nss]
  | x :: r, i + 1, s, h => by
    have := nss_takeS (b := r) (i := i) (s := s) (by simpa using h)
    rw [List.take_succ_cons, List.take_succ_cons, nss, nss, this]
    omega
theorem nss_take_le : ∀ (b : List (List St)) (i : Nat), nss (b.take i) ≤ nss b
  | [], i => by simp
  | x :: r, 0 => by simp [nss]
  | x :: r, i + 1 => by
    have := nss_take_le r i
    rw [List.take_succ_cons, nss, nss]
    omega
theorem ds_get {b : List St} {i : Nat} {d : PyData} (h : (ds b)[i]? = some d) : ∃ s, b[i]? = some s ∧ d = St.d s := by
  rw [ds_map, List.getElem?_map] at h
  cases e : b[i]? with
  | none => rw [e] at h; cases h
  | some s => rw [e] at h; exact ⟨s, rfl, (Option.some.inj h).symm⟩
theorem dss_get {b : List (List St)} {i : Nat} {d : PyData} (h : (dss b)[i]? = some d) : ∃ s, b[i]? = some s ∧ d = .tuple (ds s) := by
  rw [dss_map, List.getElem?_map] at h
  cases e : b[i]? with
  | none => rw [e] at h; cases h
  | some s => rw [e] at h; exact ⟨s, rfl, (Option.some.inj h).symm⟩
section
variable {P : Program} {w : World} {K : PySem.W.Frag} {mg : Str → Option Value} {base : Heap}

def spFDT (K : PySem.W.Frag) : Sp := fun vs H Q _ => ∃ (a : Addr) (L : List Str), vs = [.ref a] ∧ SqT K H a (L.map V.str) ∧ ∀ H', Same H H' → Q (optV (firstD L)) H'
def spFDL (K : PySem.W.Frag) : Sp := fun vs H Q _ => ∃ (a : Addr) (L : List Str), vs = [.ref a] ∧ SqL K H a (L.map V.str) ∧ ∀ H', Same H H' → Q (optV (firstD L)) H'
theorem sc__first_double : FnScope ["names", "at", "name"] ["names"] (C8.fnScope (topS 27)) := C8.fnScope_by (by decide +kernel)
theorem ok_fdT {f : Addr} {fd : FuncData} (F : C8.Def K mg "_first_double" (topS 27) f fd) (b : Binds K fd ["names"] []) (B : Bl K mg)  : C8.Cal P w K mg base 1 "_first_double" (spFDT K) [] := by
  refine C8.cal0 F b .nil sc__first_double ?len ?body
  case len => rintro vs H Q E ⟨a, L, rfl, _⟩; rfl
  case body =>
    rintro cdv A outer s H vs Q E hr ⟨a, L, rfl, hs, q⟩
    refine ⟨_, (pss_cons (ps_for PassesOwn.never rfl (UG.pi_enumT rfl B.enumerate (pa_cons (pv 0) pa_nil)) (pg_tup rfl (pgs_cons (pg_name (i := 1) sc__first_double.nd rfl (Or.inl rfl)) (pgs_cons (pg_name (i := 2) sc__first_double.nd rfl (Or.inl rfl)) pgs_nil)))
    (pss_one (ps_if (pt_cmpR op_in_seq (pv 2) (pe_slice sl_tupA (pv 0) po_none (po_some (pv 1))) (by with_unfolding_all rfl)) (pss_one (ps_ret (pv 2))) pss_nil)))
    (pss_one (ps_ret pe_non))), ?_⟩
    refine ⟨_, rfl, a, _, rfl, hs, ?_⟩
    refine for_enumT (xs := L.map V.str) (fun i σ H' => ∃ b1 b2, σ = [some (.ref a), b1, b2] ∧ Same H H' ∧ firstD L = fd1 (L.take i) (L.drop i)) ⟨none, none, rfl, Same.refl H, rfl⟩ ?_ ?_ ?_
    · rintro i σ H' _ ⟨_, _, _, s1, _⟩
      exact sqt_ext (same_ext s1) hs
    · rintro i x _ H1 Tp hx ⟨b1, b2, rfl, s1, ei⟩ hTp
      obtain ⟨y, hy, rfl⟩ : ∃ y, L[i]? = some y ∧ x = .str y := by
        rw [List.getElem?_map] at hx
        cases e : L[i]? with
        | none => rw [e] at hx; cases hx
        | some s => rw [e] at hx; exact ⟨s, rfl, (Option.some.inj hx).symm⟩
      have hi := (List.getElem?_eq_some_iff.mp hy).1
      have s2 := s1.trans (same_new hTp (.tup [.int (i : Nat), .str y]))
      refine ⟨Tp, _, rfl, SqT.of upd_same, rfl, _, _, rfl, _, _, rfl, rfl, ?_⟩
      have hs2 := sqt_ext (same_ext s2) hs
      have e : cutV (L.map V.str) none (some (i : Int)) = (L.take i).map V.str := by
        rw [cut_take _ (by rw [List.length_map]; omega), List.map_take]
      have es := ei.trans (fd1_step hy)
      refine ⟨_, rfl, _, rfl, _, rfl, _, rfl, a, _, rfl, hs2, fun w => ?_, fun _ p hp => ?_⟩
      · exact absurd w.2 (by rw [sIx_le (by rw [List.length_map]; omega), List.length_map]; omega)
      · rw [e]
        refine ⟨p, _, rfl, .inr (SqT.of upd_same), rfl, flat_strs _, _, rfl, ?_⟩
        show if inV (.str y) ((L.take i).map V.str) = true then _ else _
        rw [inV_strs]
        by_cases c : y ∈ L.take i
        · rw [decide_eq_true c]
          rw [if_pos c] at es
          rw [es] at q
          exact iteT ⟨_, rfl, q _ (s2.trans (same_new hp _))⟩
        · rw [decide_eq_false c]
          rw [if_neg c] at es
          exact iteF ⟨_, _, rfl, s2.trans (same_new hp _), es⟩
    · rintro σ H1 ⟨b1, b2, rfl, s1, ei⟩
      rw [List.length_map, List.drop_length] at ei
      have := q H1 s1
      rw [ei] at this
      exact this
theorem ok_fdL {f : Addr} {fd : FuncData} (F : C8.Def K mg "_first_double" (topS 27) f fd) (b : Binds K fd ["names"] []) (B : Bl K mg)  : C8.Cal P w K mg base 1 "_first_double" (spFDL K) [] := by
  refine C8.cal0 F b .nil sc__first_double ?len ?body
  case len => rintro vs H Q E ⟨a, L, rfl, _⟩; rfl
  case body =>
    rintro cdv A outer s H vs Q E hr ⟨a, L, rfl, hs, q⟩
    refine ⟨_, (pss_cons (ps_for PassesOwn.never rfl (pi_enum rfl B.enumerate (pa_cons (pv 0) pa_nil)) (pg_tup rfl (pgs_cons (pg_name (i := 1) sc__first_double.nd rfl (Or.inl rfl)) (pgs_cons (pg_name (i := 2) sc__first_double.nd rfl (Or.inl rfl)) pgs_nil)))
    (pss_one (ps_if (pt_cmpR op_in_seq (pv 2) (pe_slice sl_list (pv 0) po_none (po_some (pv 1))) (by with_unfolding_all rfl)) (pss_one (ps_ret (pv 2))) pss_nil)))
    (pss_one (ps_ret pe_non))), ?_⟩
    refine ⟨_, rfl, a, _, rfl, hs, ?_⟩
    refine for_enumLL (xs := L.map V.str) (fun i σ H' => ∃ b1 b2, σ = [some (.ref a), b1, b2] ∧ Same H H' ∧ firstD L = fd1 (L.take i) (L.drop i)) ⟨none, none, rfl, Same.refl H, rfl⟩ ?_ ?_ ?_
    · rintro i σ H' _ ⟨_, _, _, s1, _⟩
      exact sq_ext (same_ext s1) hs
    · rintro i x _ H1 Tp hx ⟨b1, b2, rfl, s1, ei⟩ hTp
      obtain ⟨y, hy, rfl⟩ : ∃ y, L[i]? = some y ∧ x = .str y := by
        rw [List.getElem?_map] at hx
        cases e : L[i]? with
        | none => rw [e] at hx; cases hx
        | some s => rw [e] at hx; exact ⟨s, rfl, (Option.some.inj hx).symm⟩
      have hi := (List.getElem?_eq_some_iff.mp hy).1
      have s2 := s1.trans (same_new hTp (.tup [.int (i : Nat), .str y]))
      refine ⟨Tp, _, rfl, SqT.of upd_same, rfl, _, _, rfl, _, _, rfl, rfl, ?_⟩
      have hs2 := sq_ext (same_ext s2) hs
      have e : cutV (L.map V.str) none (some (i : Int)) = (L.take i).map V.str := by
        rw [cut_take _ (by rw [List.length_map]; omega), List.map_take]
      have es := ei.trans (fd1_step hy)
      refine ⟨_, rfl, _, rfl, _, rfl, _, rfl, a, _, rfl, hs2, fun p hp => ?_⟩
      rw [e]
      refine ⟨p, _, rfl, .inl (SqL.of upd_same), rfl, flat_strs _, _, rfl, ?_⟩
      show if inV (.str y) ((L.take i).map V.str) = true then _ else _
      rw [inV_strs]
      by_cases c : y ∈ L.take i
      · rw [decide_eq_true c]
        rw [if_pos c] at es
        rw [es] at q
        exact iteT ⟨_, rfl, q _ (s2.trans (same_new hp _))⟩
      · rw [decide_eq_false c]
        rw [if_neg c] at es
        exact iteF ⟨_, _, rfl, s2.trans (same_new hp _), es⟩
    · rintro σ H1 ⟨b1, b2, rfl, s1, ei⟩
      rw [List.length_map, List.drop_length] at ei
      have := q H1 s1
      rw [ei] at this
      exact this

def spFS (K : PySem.W.Frag) (n : Nat) : Sp := fun vs H Q _ => ∃ v b sec F acc, vs = [v, .bl sec, .ref F] ∧ Dp K H v (.tuple (ds b)) ∧ ks b < n ∧ H F = some (.lst acc) ∧ acc.length + ns b ≤ 1000 ∧
  ∀ H' more, H' F = some (.lst (acc ++ more)) → Fds K H' more (fss sec b) → Tk H H' → Kp [F] H H' → Q .non H'
theorem sc__find_statements : FnScope ["body", "is_second", "found", "statement", "at", "inner"] ["body", "is_second", "found"] (C8.fnScope (topS 29)) := C8.fnScope_by (by decide +kernel)
theorem ok_fs {n : Nat} {f : Addr} {fd : FuncData} (F : C8.Def K mg "_find_statements" (topS 29) f fd) (b : Binds K fd ["body", "is_second", "found"] []) (B : Bl K mg) (c_bodies_of : C8.Cal P w K mg base 1 "bodies_of" (spBod K) []) (c__find_statements : C8.Cal P w K mg base (n + 2) "_find_statements" (spFS K n) []) : C8.Cal P w K mg base (n + 3) "_find_statements" (spFS K (n + 1)) [] := by
  refine C8.cal0 F b .nil sc__find_statements ?len ?body
  case len => rintro vs H Q E ⟨v, b, sec, F, acc, rfl, _⟩; rfl
  case body =>
    rintro cdv A outer s H vs Q E hr ⟨v, b, sec, F, acc, rfl, hd, hk, hF, hacc, q⟩
    refine ⟨_, (pss_one (ps_for PassesOwn.never rfl (pi_tup (pv 0)) (pg_name (i := 3) sc__find_statements.nd rfl (Or.inl rfl))
    (pss_cons (ps_expr (pe_bm PySem.F.plainAttrs_list PySem.F.slot_list_append PySem.F.type_list_append mt_append (pv 2) (pa_cons (pe_tup (pa_cons (pv 3) (pa_cons (pv 1) pa_nil))) pa_nil)))
    (pss_one (ps_for PassesOwn.never rfl (UG.pi_enumT rfl B.enumerate (pa_cons (C8.pe_c c_bodies_of hr (by omega) rfl (pa_cons (pv 3) pa_nil)) pa_nil)) (pg_tup rfl (pgs_cons (pg_name (i := 4) sc__find_statements.nd rfl (Or.inl rfl)) (pgs_cons (pg_name (i := 5) sc__find_statements.nd rfl (Or.inl rfl)) pgs_nil)))
    (pss_one (ps_expr (C8.pe_c c__find_statements hr (by omega) rfl (pa_cons (pv 5) (pa_cons (pe_or (pv 1) (pe_one (pe_and (pe_cmpR op_eq (pe_ix ix_tup (pv 3) pe_int (fun _ _ => rfl)) pe_str (nomark _)) (pe_one (pe_cmpR op_eq (pv 4) pe_int (nomark _)))))) (pa_cons (pv 2) pa_nil))))))))))), ?_⟩
    obtain ⟨a, xs, rfl, hs, ha, hl⟩ := len_ok hd
    have hlb : xs.length = b.length := by rw [hl, ds_len]
    refine ⟨_, rfl, a, rfl, ⟨_, hs⟩, ?_⟩
    refine for_tup (xs := xs) (fun i σ H' => ∃ b3 b4 b5 more, σ = [some (.ref a), some (.bl sec), some (.ref F), b3, b4, b5] ∧ H' F = some (.lst (acc ++ more)) ∧ Fds K H' more (fss sec (b.take i)) ∧ Tk H H' ∧ Kp [F] H H') ?_ ?_ ?_ ?_
    · exact ⟨none, none, none, [], rfl, by rw [List.append_nil]; exact hF, by simpa [fss] using Fds.nil, Tk.refl H, Kp.refl H⟩
    · rintro i σ H' _ ⟨_, _, _, _, _, _, _, t, _⟩
      exact t.sqt hs
    · rintro i x _ H1 hx ⟨b3, b4, b5, more, rfl, hF1, fd1, t1, k1⟩
      have ml : more.length = ns (b.take i) := by rw [fd1.len, fss_len]
      obtain ⟨dd, hdd, hdp⟩ := dps_get' ha hx
      obtain ⟨s, hsb, rfl⟩ := ds_get hdd
      have hsm : s ∈ b := List.mem_of_getElem? hsb
      have hsk := ks_mem hsm
      have hnt := ns_take hsb
      have hntl := ns_take_le b (i + 1)
      have hnp := n_bs s
      have hd1 := t1.dp _ (tup_St s) hdp
      refine ⟨_, rfl, .inl ⟨rfl, _, SqL.of hF1⟩, _, rfl, _, rfl, (by show 2 ≤ sizeLine; decide), fun p hp => ?_⟩
      have np : p ≠ F := fun z => by rw [← z, hp] at hF1; cases hF1
      have hF2 : upd H1 p (.tup [x, .bl sec]) F = some (.lst (acc ++ more)) := by rw [upd_ne (Ne.symm np)]; exact hF1
      refine ⟨F, _, _, rfl, rfl, hF2, Nat.lt_of_le_of_lt (show _ ≤ 1000 by rw [List.length_append]; omega) (by decide), ?_⟩
      have t2 : Tk H1 (upd (upd H1 p (.tup [x, .bl sec])) F (.lst (acc ++ more ++ [.ref p]))) := (Tk.new hp _).trans (Tk.put hF2 _)
      have k2 : Kp [F] H1 (upd (upd H1 p (.tup [x, .bl sec])) F (.lst (acc ++ more ++ [.ref p]))) := (Kp.of_same (same_new hp _)).trans (Kp.put _ (by simp))
      have hF3 : upd (upd H1 p (.tup [x, .bl sec])) F (.lst (acc ++ more ++ [.ref p])) F = some (.lst (acc ++ (more ++ [.ref p]))) := by rw [upd_same, List.append_assoc]
      have fd3 : Fds K (upd (upd H1 p (.tup [x, .bl sec])) F (.lst (acc ++ more ++ [.ref p]))) (more ++ [.ref p]) (fss sec (b.take i) ++ [(s, sec)]) := (fd1.tk t2).app (.cons (SqT.of (by rw [upd_ne np]; exact upd_same)) (t2.dp _ (tup_St s) hd1) .nil)
      show (fun H3 => _) (upd (upd H1 p (.tup [x, .bl sec])) F (.lst (acc ++ more ++ [.ref p])))
      have t3 := t1.trans t2
      have k3 := k1.trans k2
      generalize upd (upd H1 p (.tup [x, .bl sec])) F (.lst (acc ++ more ++ [.ref p])) = H3 at hF3 fd3 t3 k3
      have hd3 := t3.dp _ (tup_St s) hdp
      refine ⟨_, rfl, x, s, rfl, hd3, fun v' H4 s4 hd4 => ?_⟩
      obtain ⟨ra, rxs, rfl, hrs, hra, hrl⟩ := len_ok hd4
      rw [dss_len] at hrl
      refine ⟨ra, _, rfl, hrs, ?_⟩
      refine for_enumT (xs := rxs) (fun j σ H' => ∃ b4 b5 more2, σ = [some (.ref a), some (.bl sec), some (.ref F), some x, b4, b5] ∧ H' F = some (.lst (acc ++ (more ++ [.ref p] ++ more2))) ∧ Fds K H' (more ++ [.ref p] ++ more2) (fss sec (b.take i) ++ [(s, sec)] ++ fsE sec (isEn s) 0 (s.bs.take j)) ∧ Tk H4 H' ∧ Kp [F] H4 H') ?_ ?_ ?_ ?_
      · exact ⟨b4, b5, [], rfl, by rw [List.append_nil]; exact s4 _ _ hF3, by rw [List.append_nil, List.take_zero, fsE, List.append_nil]; exact fd3.tk (Tk.same s4), Tk.refl _, Kp.refl _⟩
      · rintro j σ H' _ ⟨_, _, _, _, _, _, t, _⟩
        exact t.sqt hrs
      · rintro j y _ H5 Tp hy ⟨b4', b5', more2, rfl, hF5, fd5, t5, k5⟩ hTp
        have ml5 := fd5.len
        obtain ⟨dd2, hdd2, hdp2⟩ := dps_get' hra hy
        obtain ⟨b2, hb2, rfl⟩ := dss_get hdd2
        have sT := same_new hTp (.tup [.int (j : Nat), y])
        refine ⟨Tp, _, rfl, SqT.of upd_same, rfl, _, _, rfl, _, _, rfl, rfl, ?_⟩
        have hF6 := sT _ _ hF5
        have t6 := t5.trans (Tk.same sT)
        have k6 : Kp [F] H4 _ := k5.trans (Kp.of_same sT)
        have fd6 := fd5.tk (Tk.same sT)
        generalize upd H5 Tp (.tup [.int (j : Nat), y]) = H6 at hF6 t6 k6 fd6
        have hx6 := ((Tk.same s4).trans t6).dp _ (tup_St s) hd3
        obtain ⟨r, er⟩ := d_word s
        rw [er] at hx6
        obtain ⟨xa, xxs, rfl, hxs, hxa, hxl⟩ := len_ok hx6
        cases hxa with
        | @cons v0 _ _ _ h0 hxa =>
        cases h0
        have hfe := fsE_take sec (isEn s) 0 hb2
        rw [Nat.zero_add] at hfe
        have hkb := bs_k hb2
        have nt := nss_takeS hb2
        have ntl := nss_take_le s.bs (j + 1)
        refine ⟨_, rfl, _, rfl, _, rfl, ?_⟩
        have call : ∀ flag : Bool, (sec || (isEn s && decide ((j : Int) = 1))) = flag → spFS K n [y, .bl flag, .ref F] H6 (fun _ H' => ∃ b4 b5 more2, ([some (.ref a), some (.bl sec), some (.ref F), some (.ref xa), some (.int (j : Int)), some y] : L2.St) = [some (.ref a), some (.bl sec), some (.ref F), some (.ref xa), b4, b5] ∧ H' F = some (.lst (acc ++ (more ++ [.ref p] ++ more2))) ∧ Fds K H' (more ++ [.ref p] ++ more2) (fss sec (b.take i) ++ [(s, sec)] ++ fsE sec (isEn s) 0 (s.bs.take (j + 1))) ∧ Tk H4 H' ∧ Kp [F] H4 H') C8.E0 := fun flag hfl => by
          refine ⟨y, b2, flag, F, _, rfl, t6.dp (.tuple (ds b2)) (tup_ds b2) hdp2, by omega, hF6, ?_, fun H7 m7 h71 h72 t7 k7 => ?_⟩
          · have e1 := fsE_len sec (isEn s) 0 (s.bs.take j)
            simp only [List.length_append, fss_len, e1, List.length_cons, List.length_nil] at ml5 ⊢
            omega
          · refine ⟨_, _, more2 ++ m7, rfl, ?_, ?_, t6.trans t7, k6.trans k7⟩
            · rw [h71]; simp
            · have := (fd6.tk t7).app h72
              rw [← hfl] at this
              rw [hfe, ← List.append_assoc, ← List.append_assoc]
              exact this
        cases sec with
        | true =>
          refine iteT ?_
          exact ⟨_, rfl, call true (by rfl)⟩
        | false =>
          refine iteF ⟨_, rfl, _, _, _, _, rfl, rfl, hxs, at0 _ _, rfl, _, rfl, ?_⟩
          rw [dec_str, w_en]
          by_cases he : isEn s = true
          · refine ifT he ⟨_, rfl, rfl, ?_⟩
            rw [dec_int]
            exact ⟨_, rfl, call _ (by rw [he]; rfl)⟩
          · have he : isEn s = false := by simpa using he
            exact ifF he ⟨_, rfl, call false (by rw [he]; rfl)⟩
      · rintro σ H5 ⟨b4', b5', more2, rfl, hF5, fd5, t5, k5⟩
        rw [hrl, List.take_length] at fd5
        exact ⟨_, _, _, _, rfl, hF5, by rw [show fss sec (b.take (i + 1)) = fss sec (b.take i) ++ [(s, sec)] ++ fsE sec (isEn s) 0 s.bs by rw [fss_take sec hsb, fs_bs]; simp]; exact fd5, (t3.trans (Tk.same s4)).trans t5, (k3.trans (Kp.of_same s4)).trans k5⟩
    · rintro σ H1 ⟨b3, b4, b5, more, rfl, hF1, fd1, t1, k1⟩
      rw [hlb, List.take_length] at fd1
      exact q H1 more hF1 fd1 t1 k1
theorem fs_all {f : Addr} {fd : FuncData} (F : C8.Def K mg "_find_statements" (topS 29) f fd) (b : Binds K fd ["body", "is_second", "found"] []) (B : Bl K mg) (c_bodies_of : C8.Cal P w K mg base 1 "bodies_of" (spBod K) []) : ∀ n : Nat, C8.Cal P w K mg base (n + 2) "_find_statements" (spFS K n) []
  | 0 => by
    refine C8.cal0 F b .nil sc__find_statements ?len ?body
    case len => rintro vs H Q E ⟨_, _, _, _, _, _, _, h, _⟩; exact absurd h (Nat.not_lt_zero _)
    case body => rintro cdv A outer s H vs Q E hr ⟨_, _, _, _, _, _, _, h, _⟩; exact absurd h (Nat.not_lt_zero _)
  | n + 1 => ok_fs F b B c_bodies_of (fs_all F b B c_bodies_of n)
end
end K04


set_option Elab.async false
set_option linter.all false
set_option maxRecDepth 100000
set_option maxHeartbeats 8000000
namespace K04
open PySem PySem.Spec PyProof.Rows L2
theorem strs_vals {K : PySem.W.Frag} {H : Hp} : ∀ {L : List Str} {xs : List V}, DpAll K H xs (L.map PyData.str) → xs = L.map V.str
  | [], _, h => by cases h; rfl
  | x :: r, _, h => by
    cases h with
    | cons h1 h2 =>
      cases h1
      rw [strs_vals h2]
      rfl
/-- what is wrong with a statement -/
def fault1 (L N : List Str) : St × Bool → Option Str
  | (.dd x, _) => if x ∈ L then none else some "letter"
  | (.ud x, _) => if x ∈ L then none else some "letter"
  | (.cl x, _) => if x ∈ N then none else some "call"
  | (.rt, sec) => if sec = true then some "return" else none
  | _ => none
def bfault (L N : List Str) (b : List St) : Option Str := (fss false b).findSome? (fault1 L N)
theorem find_step {α β : Type} {f : α → Option β} {l : List α} {i : Nat} {e : α} (h : l[i]? = some e) : (l.drop i).findSome? f = (f e).or ((l.drop (i + 1)).findSome? f) := by
  obtain ⟨hi, q⟩ := List.getElem?_eq_some_iff.mp h
  rw [List.drop_eq_getElem_cons hi, q, List.findSome?_cons]
  cases f e <;> rfl
def pfault (L N : List Str) (p : Str × List St) : Option (Str × Str) := (bfault L N p.2).map fun w => (w, p.1)
/-- what check tells -/
def chkD (L : List Str) (P : List (Str × List St)) : PyData :=
  match firstD L with
  | some x => .tuple [.str "letter", .str x]
  | none => match firstD (P.map Prod.fst) with
    | some x => .tuple [.str "double", .str x]
    | none => match P.findSome? (pfault L (P.map Prod.fst)) with
      | some (w, n) => .tuple [.str w, .str n]
      | none => .none
theorem dp_tup2 {K : PySem.W.Frag} {H : Hp} {p : Addr} {x y : V} {d e : PyData} (h : H p = none) (hx : Dp K (upd H p (.tup [x, y])) x d) (hy : Dp K (upd H p (.tup [x, y])) y e) : Dp K (upd H p (.tup [x, y])) (.ref p) (.tuple [d, e]) := .tup (SqT.of upd_same) (.cons hx (.cons hy .nil))
section
variable {P : Program} {w : World} {K : PySem.W.Frag} {mg : Str → Option Value} {base : Heap}

def spBF (K : PySem.W.Frag) : Sp := fun vs H Q _ => ∃ v la na b L N, vs = [v, .ref la, .ref na] ∧ Dp K H v (.tuple (ds b)) ∧ ks b ≤ 12 ∧ ns b ≤ 200 ∧ SqT K H la (L.map V.str) ∧ SqL K H na (N.map V.str) ∧ ∀ H', Same H H' → Q (optV (bfault L N b)) H'
theorem sc__body_fault : FnScope ["body", "letters", "names", "found", "statement", "is_second", "word"] ["body", "letters", "names"] (C8.fnScope (topS 28)) := C8.fnScope_by (by decide +kernel)
theorem ok__body_fault {f : Addr} {fd : FuncData} (F : C8.Def K mg "_body_fault" (topS 28) f fd) (b : Binds K fd ["body", "letters", "names"] []) (B : Bl K mg) (c__find_statements : C8.Cal P w K mg base 15 "_find_statements" (spFS K 13) []) : C8.Cal P w K mg base 16 "_body_fault" (spBF K) [] := by
  refine C8.cal0 F b .nil sc__body_fault ?len ?body
  case len => rintro vs H Q E ⟨v, la, na, b, L, N, rfl, _⟩; rfl
  case body =>
    rintro cdv A outer s H vs Q E hr ⟨v, la, na, b, L, N, rfl, hd, hk, hn, hla, hna, q⟩
    refine ⟨_, (pss_cons (ps_set (i := 3) sc__body_fault.nd rfl (Or.inl rfl) (pe_lst pa_nil))
    (pss_cons (ps_expr (C8.pe_c c__find_statements hr (by decide) rfl (pa_cons (pv 0) (pa_cons pe_bl (pa_cons (pv 3) pa_nil)))))
    (pss_cons (ps_for PassesOwn.never rfl (pi_list (pv 3)) (pg_tup rfl (pgs_cons (pg_name (i := 4) sc__body_fault.nd rfl (Or.inl rfl)) (pgs_cons (pg_name (i := 5) sc__body_fault.nd rfl (Or.inl rfl)) pgs_nil)))
    (pss_cons (ps_set (i := 6) sc__body_fault.nd rfl (Or.inl rfl) (pe_ix ix_tup (pv 4) pe_int (fun _ _ => rfl)))
    (pss_cons (ps_if (PW.pt (pw_and (pt_cmpR op_in_seq (pv 6) (pe_tup (pa_cons pe_str (pa_cons pe_str pa_nil))) (by with_unfolding_all rfl)) (pw_and1 (pt_cmpR op_notIn_seq (pe_ix ix_tup (pv 4) pe_int (fun _ _ => rfl)) (pv 1) (by with_unfolding_all rfl))))) (pss_one (ps_ret pe_str)) pss_nil)
    (pss_cons (ps_if (PW.pt (pw_and (pt_cmpR op_eq (pv 6) pe_str (nomark _)) (pw_and1 (pt_cmpR op_notIn_seq (pe_ix ix_tup (pv 4) pe_int (fun _ _ => rfl)) (pv 2) (by with_unfolding_all rfl))))) (pss_one (ps_ret pe_str)) pss_nil)
    (pss_one (ps_if (PW.pt (pw_and (pt_cmpR op_eq (pv 6) pe_str (nomark _)) (pw_and1 (pt_val (pv 5))))) (pss_one (ps_ret pe_str)) pss_nil))))))
    (pss_one (ps_ret pe_non))))), ?_⟩
    refine ⟨(by show 0 ≤ sizeLine; decide), fun F hF => ?_⟩
    have s1 := same_new hF (.lst [])
    refine ⟨_, rfl, _, rfl, v, b, false, F, [], rfl, dp_ext (same_ext s1) _ hd, by omega, upd_same, by simp; omega, fun H2 more hF2 fd2 t2 k2 => ?_⟩
    rw [List.nil_append] at hF2
    have s2 : Same H H2 := fun p o e => k2 p o (fun z => by cases List.mem_singleton.mp z; rw [hF] at e; cases e) (s1 p o e)
    refine ⟨_, rfl, F, rfl, ⟨_, SqL.of hF2⟩, ?_⟩
    refine for_list (xs := more) (fun i σ H' => ∃ b4 b5 b6, σ = [some v, some (.ref la), some (.ref na), some (.ref F), b4, b5, b6] ∧ Same H2 H' ∧ bfault L N b = ((fss false b).drop i).findSome? (fault1 L N)) ?_ ?_ ?_ ?_
    · exact ⟨none, none, none, rfl, Same.refl _, rfl⟩
    · rintro i σ H' _ ⟨_, _, _, _, s3, _⟩
      exact SqL.of (s3 _ _ hF2)
    · rintro i x _ H3 hx ⟨b4, b5, b6, rfl, s3, ei⟩
      obtain ⟨p, xv, st, sec, rfl, hp, hxd, hst⟩ := fd2.get hx
      have es := ei.trans (find_step hst)
      have hp3 := (Tk.same s3).sqt hp
      have hd3 := (Tk.same s3).dp _ (tup_St st) hxd
      have hla3 := sqt_ext (same_ext (s2.trans s3)) hla
      have hna3 := sq_ext (same_ext (s2.trans s3)) hna
      refine ⟨p, _, rfl, hp3, rfl, _, _, rfl, _, _, rfl, rfl, ?_⟩
      cases st with
      | dd x =>
        obtain ⟨a, xs, rfl, hs, ha, hl⟩ := len_ok hd3
        cases ha with
        | cons h0 ha =>
        cases h0
        refine ⟨_, rfl, _, _, _, _, rfl, rfl, hs, at0 _ _, ?_⟩
        refine ⟨_, rfl, (by show 2 ≤ sizeLine; decide), fun p2 hp2 => ⟨p2, _, rfl, .inr (SqT.of upd_same), rfl, rfl, _, rfl, ?_⟩⟩
        have sN := same_new hp2 (.tup [.str "do", .str "undo"])
        have hs' := sqt_ext (same_ext sN) hs
        have hla4 := sqt_ext (same_ext sN) hla3
        have hna4 := sq_ext (same_ext sN) hna3
        refine ifT (by decide +kernel) ?_
        cases ha with
        | cons h1 ha =>
        cases h1
        refine ⟨_, rfl, _, _, _, _, rfl, rfl, hs', at1 _ _ _, _, rfl, la, _, rfl, .inr hla4, rfl, flat_strs _, _, rfl, ?_⟩
        show if (!inV (.str x) (L.map V.str)) = true then _ else _
        rw [inV_strs]
        by_cases hin : x ∈ L
        case neg =>
          rw [decide_eq_false hin]
          rw [fault1, if_neg hin] at es
          rw [es] at q
          exact iteT (q _ ((s2.trans s3).trans sN))
        rw [fault1, if_pos hin] at es
        rw [decide_eq_true hin]
        refine iteF ?_
        refine ⟨_, rfl, rfl, _, rfl, ?_⟩
        rw [dec_str]
        refine ifF (by decide +kernel) ?_
        refine ⟨_, rfl, rfl, _, rfl, ?_⟩
        rw [dec_str]
        refine ifF (by decide +kernel) ?_
        exact ⟨_, _, _, rfl, s3.trans sN, es⟩
      | ud x =>
        obtain ⟨a, xs, rfl, hs, ha, hl⟩ := len_ok hd3
        cases ha with
        | cons h0 ha =>
        cases h0
        refine ⟨_, rfl, _, _, _, _, rfl, rfl, hs, at0 _ _, ?_⟩
        refine ⟨_, rfl, (by show 2 ≤ sizeLine; decide), fun p2 hp2 => ⟨p2, _, rfl, .inr (SqT.of upd_same), rfl, rfl, _, rfl, ?_⟩⟩
        have sN := same_new hp2 (.tup [.str "do", .str "undo"])
        have hs' := sqt_ext (same_ext sN) hs
        have hla4 := sqt_ext (same_ext sN) hla3
        have hna4 := sq_ext (same_ext sN) hna3
        refine ifT (by decide +kernel) ?_
        cases ha with
        | cons h1 ha =>
        cases h1
        refine ⟨_, rfl, _, _, _, _, rfl, rfl, hs', at1 _ _ _, _, rfl, la, _, rfl, .inr hla4, rfl, flat_strs _, _, rfl, ?_⟩
        show if (!inV (.str x) (L.map V.str)) = true then _ else _
        rw [inV_strs]
        by_cases hin : x ∈ L
        case neg =>
          rw [decide_eq_false hin]
          rw [fault1, if_neg hin] at es
          rw [es] at q
          exact iteT (q _ ((s2.trans s3).trans sN))
        rw [fault1, if_pos hin] at es
        rw [decide_eq_true hin]
        refine iteF ?_
        refine ⟨_, rfl, rfl, _, rfl, ?_⟩
        rw [dec_str]
        refine ifF (by decide +kernel) ?_
        refine ⟨_, rfl, rfl, _, rfl, ?_⟩
        rw [dec_str]
        refine ifF (by decide +kernel) ?_
        exact ⟨_, _, _, rfl, s3.trans sN, es⟩
      | cl x =>
        obtain ⟨a, xs, rfl, hs, ha, hl⟩ := len_ok hd3
        cases ha with
        | cons h0 ha =>
        cases h0
        refine ⟨_, rfl, _, _, _, _, rfl, rfl, hs, at0 _ _, ?_⟩
        refine ⟨_, rfl, (by show 2 ≤ sizeLine; decide), fun p2 hp2 => ⟨p2, _, rfl, .inr (SqT.of upd_same), rfl, rfl, _, rfl, ?_⟩⟩
        have sN := same_new hp2 (.tup [.str "do", .str "undo"])
        have hs' := sqt_ext (same_ext sN) hs
        have hla4 := sqt_ext (same_ext sN) hla3
        have hna4 := sq_ext (same_ext sN) hna3
        refine ifF (by decide +kernel) ?_
        refine ⟨_, rfl, rfl, _, rfl, ?_⟩
        rw [dec_str]
        refine ifT (by decide +kernel) ?_
        cases ha with
        | cons h1 ha =>
        cases h1
        refine ⟨_, rfl, _, _, _, _, rfl, rfl, hs', at1 _ _ _, _, rfl, na, _, rfl, .inl hna4, rfl, flat_strs _, _, rfl, ?_⟩
        show if (!inV (.str x) (N.map V.str)) = true then _ else _
        rw [inV_strs]
        by_cases hin : x ∈ N
        case neg =>
          rw [decide_eq_false hin]
          rw [fault1, if_neg hin] at es
          rw [es] at q
          exact iteT (q _ ((s2.trans s3).trans sN))
        rw [fault1, if_pos hin] at es
        rw [decide_eq_true hin]
        refine iteF ?_
        refine ⟨_, rfl, rfl, _, rfl, ?_⟩
        rw [dec_str]
        refine ifF (by decide +kernel) ?_
        exact ⟨_, _, _, rfl, s3.trans sN, es⟩
      | rt =>
        obtain ⟨a, xs, rfl, hs, ha, hl⟩ := len_ok hd3
        cases ha with
        | cons h0 ha =>
        cases h0
        refine ⟨_, rfl, _, _, _, _, rfl, rfl, hs, at0 _ _, ?_⟩
        refine ⟨_, rfl, (by show 2 ≤ sizeLine; decide), fun p2 hp2 => ⟨p2, _, rfl, .inr (SqT.of upd_same), rfl, rfl, _, rfl, ?_⟩⟩
        have sN := same_new hp2 (.tup [.str "do", .str "undo"])
        have hs' := sqt_ext (same_ext sN) hs
        have hla4 := sqt_ext (same_ext sN) hla3
        have hna4 := sq_ext (same_ext sN) hna3
        refine ifF (by decide +kernel) ?_
        refine ⟨_, rfl, rfl, _, rfl, ?_⟩
        rw [dec_str]
        refine ifF (by decide +kernel) ?_
        refine ⟨_, rfl, rfl, _, rfl, ?_⟩
        rw [dec_str]
        refine ifT (by decide +kernel) ?_
        refine ⟨_, rfl, _, rfl, ?_⟩
        cases sec with
        | true =>
          rw [fault1, if_pos rfl] at es
          rw [es] at q
          exact iteT (q _ ((s2.trans s3).trans sN))
        | false =>
          rw [fault1, if_neg (by decide)] at es
          exact iteF ⟨_, _, _, rfl, s3.trans sN, es⟩
      | ch bs =>
        obtain ⟨a, xs, rfl, hs, ha, hl⟩ := len_ok hd3
        cases ha with
        | cons h0 ha =>
        cases h0
        refine ⟨_, rfl, _, _, _, _, rfl, rfl, hs, at0 _ _, ?_⟩
        refine ⟨_, rfl, (by show 2 ≤ sizeLine; decide), fun p2 hp2 => ⟨p2, _, rfl, .inr (SqT.of upd_same), rfl, rfl, _, rfl, ?_⟩⟩
        have sN := same_new hp2 (.tup [.str "do", .str "undo"])
        have hs' := sqt_ext (same_ext sN) hs
        have hla4 := sqt_ext (same_ext sN) hla3
        have hna4 := sq_ext (same_ext sN) hna3
        refine ifF (by decide +kernel) ?_
        refine ⟨_, rfl, rfl, _, rfl, ?_⟩
        rw [dec_str]
        refine ifF (by decide +kernel) ?_
        refine ⟨_, rfl, rfl, _, rfl, ?_⟩
        rw [dec_str]
        refine ifF (by decide +kernel) ?_
        exact ⟨_, _, _, rfl, s3.trans sN, es⟩
      | lp b =>
        obtain ⟨a, xs, rfl, hs, ha, hl⟩ := len_ok hd3
        cases ha with
        | cons h0 ha =>
        cases h0
        refine ⟨_, rfl, _, _, _, _, rfl, rfl, hs, at0 _ _, ?_⟩
        refine ⟨_, rfl, (by show 2 ≤ sizeLine; decide), fun p2 hp2 => ⟨p2, _, rfl, .inr (SqT.of upd_same), rfl, rfl, _, rfl, ?_⟩⟩
        have sN := same_new hp2 (.tup [.str "do", .str "undo"])
        have hs' := sqt_ext (same_ext sN) hs
        have hla4 := sqt_ext (same_ext sN) hla3
        have hna4 := sq_ext (same_ext sN) hna3
        refine ifF (by decide +kernel) ?_
        refine ⟨_, rfl, rfl, _, rfl, ?_⟩
        rw [dec_str]
        refine ifF (by decide +kernel) ?_
        refine ⟨_, rfl, rfl, _, rfl, ?_⟩
        rw [dec_str]
        refine ifF (by decide +kernel) ?_
        exact ⟨_, _, _, rfl, s3.trans sN, es⟩
      | en b c =>
        obtain ⟨a, xs, rfl, hs, ha, hl⟩ := len_ok hd3
        cases ha with
        | cons h0 ha =>
        cases h0
        refine ⟨_, rfl, _, _, _, _, rfl, rfl, hs, at0 _ _, ?_⟩
        refine ⟨_, rfl, (by show 2 ≤ sizeLine; decide), fun p2 hp2 => ⟨p2, _, rfl, .inr (SqT.of upd_same), rfl, rfl, _, rfl, ?_⟩⟩
        have sN := same_new hp2 (.tup [.str "do", .str "undo"])
        have hs' := sqt_ext (same_ext sN) hs
        have hla4 := sqt_ext (same_ext sN) hla3
        have hna4 := sq_ext (same_ext sN) hna3
        refine ifF (by decide +kernel) ?_
        refine ⟨_, rfl, rfl, _, rfl, ?_⟩
        rw [dec_str]
        refine ifF (by decide +kernel) ?_
        refine ⟨_, rfl, rfl, _, rfl, ?_⟩
        rw [dec_str]
        refine ifF (by decide +kernel) ?_
        exact ⟨_, _, _, rfl, s3.trans sN, es⟩
    · rintro σ H3 ⟨b4, b5, b6, rfl, s3, ei⟩
      rw [fd2.len, List.drop_length] at ei
      rw [ei] at q
      exact q H3 (s2.trans s3)
def spCheck (K : PySem.W.Frag) (Ts : List Addr) : Sp := fun vs H Q _ => ∃ v L P AL BN, vs = [v] ∧ Dp K H v (progD L P) ∧ Prog L P AL BN ∧ Tbs Ts H ∧ ∀ H' v', Go Ts H H' → Dp K H' v' (chkD L P) → Q v' H'
theorem sc_check : FnScope ["program", "letters", "procedures", "names", "procedure", "double", "name", "body", "word"] ["program"] (C8.fnScope (topS 26)) := C8.fnScope_by (by decide +kernel)
theorem ok_check {Ts : List Addr} {f : Addr} {fd : FuncData} (F : C8.Def K mg "check" (topS 26) f fd) (b : Binds K fd ["program"] []) (B : Bl K mg) (c_want_program : C8.Cal P w K mg base 9 "want_program" (spWant K Ts) []) (c_fdT : C8.Cal P w K mg base 1 "_first_double" (spFDT K) []) (c_fdL : C8.Cal P w K mg base 1 "_first_double" (spFDL K) []) (c__body_fault : C8.Cal P w K mg base 16 "_body_fault" (spBF K) []) : C8.Cal P w K mg base 17 "check" (spCheck K Ts) [] := by
  refine C8.cal0 F b .nil sc_check ?len ?body
  case len => rintro vs H Q E ⟨v, L, Ps, AL, BN, rfl, _⟩; rfl
  case body =>
    rintro cdv A outer s H vs Q E hr ⟨v, L, Ps, AL, BN, rfl, hd, hP, hTb, q⟩
    refine ⟨_, (pss_cons (ps_expr (C8.pe_c c_want_program hr (by decide) rfl (pa_cons (pv 0) pa_nil)))
    (pss_cons (ps_asg (pv 0) (pg_tup rfl (pgs_cons (pg_name (i := 1) sc_check.nd rfl (Or.inl rfl)) (pgs_cons (pg_name (i := 2) sc_check.nd rfl (Or.inl rfl)) pgs_nil))))
    (pss_cons (ps_setLc (i := 3) (te := tOp (rIxT K) (tVar 4) (tC (.int 0)))  (own := [("procedure", 4)]) (g := gName 4) (by rfl) sc_check.nd rfl rfl (sw_true rfl rfl rfl (by decide +kernel)) (pi_tup (pv 2)) (blkOk_by (own := [("procedure", 4)]) (N := ["program", "letters", "procedures", "names", "procedure", "double", "name", "body", "word"]) (sc := (C8.fnScope (topS 26))) (by decide +kernel)) (fun _ _ _ _ _ => pg_name (i := 4) sc_check.nd rfl (Or.inl rfl)) (fun _ _ _ _ _ => pts_nil) (fun _ _ _ _ _ => by exact (pe_ix ix_tup (pv 4) pe_int (fun _ _ => rfl))))
    (pss_cons (ps_set (i := 5) sc_check.nd rfl (Or.inl rfl) (C8.pe_c c_fdT hr (by decide) rfl (pa_cons (pv 1) pa_nil)))
    (pss_cons (ps_if (pt_cmpR op_notN (pv 5) pe_non (nomark _)) (pss_one (ps_ret (pe_tup (pa_cons pe_str (pa_cons (pv 5) pa_nil))))) pss_nil)
    (pss_cons (ps_set (i := 5) sc_check.nd rfl (Or.inl rfl) (C8.pe_c c_fdL hr (by decide) rfl (pa_cons (pv 3) pa_nil)))
    (pss_cons (ps_if (pt_cmpR op_notN (pv 5) pe_non (nomark _)) (pss_one (ps_ret (pe_tup (pa_cons pe_str (pa_cons (pv 5) pa_nil))))) pss_nil)
    (pss_cons (ps_for PassesOwn.never rfl (pi_tup (pv 2)) (pg_tup rfl (pgs_cons (pg_name (i := 6) sc_check.nd rfl (Or.inl rfl)) (pgs_cons (pg_name (i := 7) sc_check.nd rfl (Or.inl rfl)) pgs_nil)))
    (pss_cons (ps_set (i := 8) sc_check.nd rfl (Or.inl rfl) (C8.pe_c c__body_fault hr (by decide) rfl (pa_cons (pv 7) (pa_cons (pv 1) (pa_cons (pv 3) pa_nil)))))
    (pss_one (ps_if (pt_cmpR op_notN (pv 8) pe_non (nomark _)) (pss_one (ps_ret (pe_tup (pa_cons (pv 8) (pa_cons (pv 6) pa_nil))))) pss_nil))))
    (pss_one (ps_ret pe_non)))))))))), ?_⟩
    refine ⟨_, rfl, v, L, Ps, AL, BN, rfl, hd, hP, hTb, fun H1 g1 => ?_⟩
    have hd1 := (Tk.go hTb g1).dp _ (tup_prog L Ps) hd
    obtain ⟨a, xs, rfl, hs, ha, hl⟩ := len_ok hd1
    cases ha with
    | @cons vL _ _ _ hvL ha =>
    cases ha with
    | @cons vP _ _ _ hvP ha =>
    cases ha
    refine ⟨_, rfl, a, _, rfl, hs, rfl, _, _, rfl, _, _, rfl, rfl, ?_⟩
    obtain ⟨la, lxs, rfl, hls, hla, hll⟩ := len_ok hvL
    obtain ⟨pa, pxs, rfl, hps, hpa, hpl⟩ := len_ok hvP
    have elx : lxs = L.map V.str := strs_vals hla
    subst elx
    rw [List.length_map] at hpl
    refine ⟨_, rfl, pa, rfl, ⟨_, hps⟩, fun Dd hDd => ?_⟩
    refine lc_tup (xs := pxs) (fun i H' => H' Dd = some (.lst (((Ps.take i).map Prod.fst).map V.str)) ∧ Same H1 H') ?_ ?_ ?_ ?_
    · exact ⟨by simpa using upd_same, same_new hDd _⟩
    · rintro i H' _ ⟨_, s5⟩
      exact (Tk.same s5).sqt hps
    · rintro i x H5 hx ⟨hv1, s5⟩
      obtain ⟨d, hd, hdp⟩ := dps_get' hpa hx
      obtain ⟨p, hp, rfl⟩ := procs_get hd
      have hd5 := (Tk.same s5).dp _ (tup_proc p) hdp
      obtain ⟨qa, qxs, rfl, hqs, hqa, hql⟩ := len_ok hd5
      cases hqa with
      | @cons v0 _ _ _ h0 hqa =>
      cases h0
      refine ⟨rfl, ?_⟩
      refine ⟨_, rfl, _, _, _, _, rfl, rfl, hqs, at0 _ _, _, hv1, ?_, ?_, ?_⟩
      · have := hP.p2
        have h3 : (Ps.take i).length ≤ Ps.length := List.length_take_le' _ _
        exact Nat.lt_of_le_of_lt (show _ ≤ 8 by rw [List.length_map, List.length_map]; omega) (by decide)
      · rw [upd_same, List.take_succ, hp]
        simp
      · intro b o e
        rw [upd_ne (fun z => by rw [z, hDd] at e; cases e)]
        exact s5 _ _ e
    · rintro H5 ⟨hv1, s5⟩
      rw [hpl, List.take_length] at hv1
      have hls5 := (Tk.same s5).sqt hls
      refine ⟨_, rfl, la, L, rfl, hls5, fun H6 s6 => ?_⟩
      have ek : chkD L Ps = chkD L Ps := rfl
      conv at ek => rhs; unfold chkD
      have goS : ∀ {H' : Hp}, Same H1 H' → Go Ts H H' := fun s => g1.trans (Go.of_same g1.1 s)
      cases e1 : firstD L with
      | some x =>
        rw [e1] at ek
        refine ⟨_, rfl, rfl, _, rfl, ?_⟩
        refine iteT ⟨_, rfl, (by show 2 ≤ sizeLine; decide), fun p hp => ?_⟩
        exact q _ _ (goS ((s5.trans s6).trans (same_new hp _))) (by rw [ek]; exact dp_tup2 hp (.str _) (.str _))
      | none =>
      rw [e1] at ek
      refine ⟨_, rfl, rfl, _, rfl, ?_⟩
      refine iteF ?_
      have hv6 := s6 _ _ hv1
      refine ⟨_, rfl, Dd, Ps.map Prod.fst, rfl, SqL.of hv6, fun H7 s7 => ?_⟩
      cases e2 : firstD (Ps.map Prod.fst) with
      | some x =>
        rw [e2] at ek
        refine ⟨_, rfl, rfl, _, rfl, ?_⟩
        refine iteT ⟨_, rfl, (by show 2 ≤ sizeLine; decide), fun p hp => ?_⟩
        exact q _ _ (goS (((s5.trans s6).trans s7).trans (same_new hp _))) (by rw [ek]; exact dp_tup2 hp (.str _) (.str _))
      | none =>
      rw [e2] at ek
      refine ⟨_, rfl, rfl, _, rfl, ?_⟩
      refine iteF ?_
      have s17 : Same H1 H7 := s5.trans (s6.trans s7)
      have hv7 := s7 _ _ hv6
      refine ⟨_, rfl, pa, rfl, ⟨_, (Tk.same s17).sqt hps⟩, ?_⟩
      refine for_tup (xs := pxs) (fun i σ H' => ∃ b7 b8 b9, σ = [some (.ref a), some (.ref la), some (.ref pa), some (.ref Dd), none, some .non, b7, b8, b9] ∧ Same H7 H' ∧ Ps.findSome? (pfault L (Ps.map Prod.fst)) = (Ps.drop i).findSome? (pfault L (Ps.map Prod.fst))) ?_ ?_ ?_ ?_
      · exact ⟨none, none, none, rfl, Same.refl _, rfl⟩
      · rintro i σ H' _ ⟨_, _, _, _, s8, _⟩
        exact (Tk.same (s17.trans s8)).sqt hps
      · rintro i x _ H8 hx ⟨b7, b8, b9, rfl, s8, ei⟩
        obtain ⟨d, hd, hdp⟩ := dps_get' hpa hx
        obtain ⟨p, hp, rfl⟩ := procs_get hd
        have s18 := s17.trans s8
        have hd8 := (Tk.same s18).dp _ (tup_proc p) hdp
        obtain ⟨qa, qxs, rfl, hqs, hqa, hql⟩ := len_ok hd8
        cases hqa with
        | @cons v0 _ _ _ h0 hqa =>
        cases h0
        cases hqa with
        | @cons v1 _ _ _ h1 hqa =>
        cases hqa
        refine ⟨qa, _, rfl, hqs, rfl, _, _, rfl, _, _, rfl, rfl, ?_⟩
        have hpm : p.2 ∈ nsP Ps := List.mem_map.mpr ⟨p, List.mem_of_getElem? hp, rfl⟩
        have hk := kss_mem hpm
        have hn := nss_mem hpm
        have hk2 := hP.ks
        have hn2 := hP.n
        refine ⟨_, rfl, _, rfl, _, rfl, v1, la, Dd, p.2, L, Ps.map Prod.fst, rfl, h1, by omega, by omega, (Tk.same s18).sqt hls, SqL.of (s8 _ _ hv7), fun H9 s9 => ?_⟩
        have es := ei.trans (find_step hp)
        cases e3 : bfault L (Ps.map Prod.fst) p.2 with
        | some x =>
          rw [pfault, e3] at es
          rw [es] at ek
          refine ⟨_, rfl, rfl, _, rfl, ?_⟩
          refine iteT ⟨_, rfl, _, rfl, (by show 2 ≤ sizeLine; decide), fun p2 hp2 => ?_⟩
          exact q _ _ (goS ((s18.trans s9).trans (same_new hp2 _))) (by rw [ek]; exact dp_tup2 hp2 (.str _) (.str _))
        | none =>
          rw [pfault, e3] at es
          refine ⟨_, rfl, rfl, _, rfl, ?_⟩
          exact iteF ⟨_, _, _, rfl, s8.trans s9, es⟩
      · rintro σ H8 ⟨b7, b8, b9, rfl, s8, ei⟩
        rw [hpl, List.drop_length] at ei
        rw [ei] at ek
        exact q _ _ (goS (s17.trans s8)) (by rw [ek]; exact .non)
end
end K04


set_option Elab.async false
set_option linter.all false
set_option maxRecDepth 100000
set_option maxHeartbeats 8000000
namespace K04
open PySem PySem.Spec PyProof.Rows L2
/-! ### tuples of which the object is known: their methods may be called -/
def TupO (H : Hp) (a : Addr) (ys : List V) : Prop := ∃ o : Obj, H a = some (.frz o (.tup ys)) ∧ o.cls = .type "tuple" ∧ o.dict = none
theorem TupO.tk {H H' : Hp} {a : Addr} {ys : List V} (h : TupO H a ys) (t : Tk H H') : TupO H' a ys := let ⟨o, h1, h2⟩ := h; ⟨o, (t _ _).2 o h1, h2⟩
theorem TupO.sq {K : PySem.W.Frag} {H : Hp} {a : Addr} {ys : List V} (h : TupO H a ys) : SqT K H a ys := let ⟨o, h1, _⟩ := h; .inl (.inr ⟨o, h1⟩)
section
variable {X : Cx}
def rTupZ (K : PySem.W.Frag) : List V → Hp → VK → Prop := fun zs H Q => ∃ (l : Addr) (ys : List V), zs = [.ref l] ∧ SqL K H l ys ∧ ∀ (r : Addr) (ob : Obj), H r = none → ob.cls = .type "tuple" → ob.dict = none → Q (.ref r) (upd H r (.frz ob (.tup ys)))
theorem call_tupleZ : CallR X (.type "tuple") (rTupZ X.K) := by
  intro pins sh σ H zs us Q J rz hyp
  obtain ⟨l, ys, rfl, hl, fin⟩ := hyp
  obtain ⟨u, rfl, ru⟩ := vals1 rz
  have eu : u = Value.ref l := ru
  subst eu
  obtain ⟨its, ri, pp, hsz⟩ := J.list hl
  refine call_tuple_list pp.isList (fun hh keep => ?_) (by rw [List.size_toArray, ← ri.length]; exact hsz)
  have J2 := J.kept (t' := sh.toks) keep
  let ob : Obj := { cls := .type "tuple", data := .seq its.toArray }
  have J3 : Inv X pins σ (upd H hh.objs.size (.frz ob (.tup ys))) { sh with heap := hh.push ob } :=
    J2.laid (t' := sh.toks) (fun _ _ e => Heap.get?_push_of_some _ e) (Nat.le_refl _) ⟨Heap.get?_push_size _ rfl, hsz, its, ri, IsTup.new _ _⟩
  exact ⟨.ref hh.objs.size, _, J3, rfl, fin _ ob (J2.hok.fresh (Nat.le_refl _)) rfl rfl⟩
end
/-- a program's data -/
def PD (K : PySem.W.Frag) (H : Hp) (v : V) (L : List Str) (P : List (Str × List St)) : Prop := Dp K H v (progD L P)
theorem PD.tk {K : PySem.W.Frag} {H H' : Hp} {v : V} {L : List Str} {P : List (Str × List St)} (h : PD K H v L P) (t : Tk H H') : PD K H' v L P := t.dp _ (tup_prog L P) h
theorem PD.open {K : PySem.W.Frag} {H : Hp} {v : V} {L : List Str} {P : List (Str × List St)} (h : PD K H v L P) : ∃ a la pv, v = .ref a ∧ SqT K H a [.ref la, pv] ∧ SqT K H la (L.map V.str) ∧ Dp K H pv (.tuple (P.map procD)) := by
  obtain ⟨a, xs, rfl, hs, ha, _⟩ := len_ok h
  cases ha with
  | @cons vL _ _ _ hvL ha =>
  cases ha with
  | @cons vP _ _ _ hvP ha =>
  cases ha
  obtain ⟨la, lxs, rfl, hls, hla, _⟩ := len_ok hvL
  cases strs_vals hla
  exact ⟨a, la, vP, rfl, hs, hls, hvP⟩
theorem dp_strs {K : PySem.W.Frag} {H : Hp} : ∀ L : List Str, DpAll K H (L.map V.str) (L.map PyData.str)
  | [] => .nil
  | x :: r => .cons (.str x) (dp_strs r)
theorem PD.make {K : PySem.W.Frag} {H : Hp} {a la : Addr} {pv : V} {L : List Str} {P : List (Str × List St)} (h : SqT K H a [.ref la, pv]) (hl : SqT K H la (L.map V.str)) (hp : Dp K H pv (.tuple (P.map procD))) : PD K H (.ref a) L P := .tup h (.cons (.tup hl (dp_strs L)) (.cons hp .nil))
theorem ix_nat {n j : Nat} (hj : j < n) : ixN n (j : Int) = some j := by
  unfold ixN
  rw [if_pos (by omega), if_pos (by omega), Int.toNat_natCast]
theorem dss_snoc (secs : List (List St)) (c : List St) : dss (secs ++ [c]) = dss secs ++ [.tuple (ds c)] := by rw [dss_map, dss_map, List.map_append]; rfl
end K04


set_option Elab.async false
set_option linter.all false
set_option maxRecDepth 100000
set_option maxHeartbeats 8000000
namespace K04
open PySem PySem.Spec PyProof.Rows L2
/-! ### the well of draws -/
def Wl (H : Hp) (w l : Addr) (m : Nat) : Prop := ∃ (ns : List Int) (a n : Int), H w = some (.lst [.ref l, .int a, .int n]) ∧ H l = some (.lst (ns.map V.int)) ∧ w ≠ l ∧ 0 ≤ a ∧ a < 2147483648 ∧ 0 ≤ n ∧ n + m ≤ 1000000000000000000
theorem Wl.le {H : Hp} {w l : Addr} {m k : Nat} (h : Wl H w l m) (hk : k ≤ m) : Wl H w l k := by
  obtain ⟨ns, a, n, h1, h2, h3, h4, h5, h6, h7⟩ := h
  exact ⟨ns, a, n, h1, h2, h3, h4, h5, h6, by omega⟩
theorem Wl.kp {H H' : Hp} {w l : Addr} {m : Nat} {as : List Addr} (h : Wl H w l m) (k : Kp as H H') (nw : w ∉ as) (nl : l ∉ as) : Wl H' w l m := by
  obtain ⟨ns, a, n, h1, h2, h3⟩ := h
  exact ⟨ns, a, n, k _ _ nw h1, k _ _ nl h2, h3⟩
theorem Wl.same {H H' : Hp} {w l : Addr} {m : Nat} (h : Wl H w l m) (s : Same H H') : Wl H' w l m := by
  obtain ⟨ns, a, n, h1, h2, h3⟩ := h
  exact ⟨ns, a, n, s _ _ h1, s _ _ h2, h3⟩
theorem Wl.out {H : Hp} {w l p : Addr} {m : Nat} (h : Wl H w l m) (hp : H p = none) : p ∉ [w, l] := by
  obtain ⟨ns, a, n, h1, h2, _⟩ := h
  intro z
  rcases List.mem_cons.mp z with rfl | z
  · rw [h1] at hp; cases hp
  · cases List.mem_singleton.mp z
    rw [h2] at hp; cases hp
theorem dp_ints9 {K : PySem.W.Frag} {H : Hp} : ∀ ns : List Int, DpAll K H (ns.map V.int) (ns.map PyData.int)
  | [] => .nil
  | n :: ns => .cons (.int n) (dp_ints9 ns)
theorem canAll_ints : ∀ ns : List Int, PyData.canLayAll0 (ns.map PyData.int) = true ∧ PyData.depthAll (ns.map PyData.int) = 0
  | [] => ⟨rfl, rfl⟩
  | n :: ns => by
    have ih := canAll_ints ns
    constructor
    · rw [List.map_cons, PyData.canLayAll0, ih.1]; rfl
    · rw [List.map_cons, PyData.depthAll, ih.2]; rfl
theorem shaped_ints (ns : List Int) : SeqAt.shaped (.list (ns.map PyData.int)) = true := by
  have h := canAll_ints ns
  unfold SeqAt.shaped
  rw [PyData.canLay0, h.1, PyData.depth, h.2]
  decide
theorem eqv_nil9 (ds : List PyData) : PyData.eqv (.list ds) (.list []) = ds.isEmpty := by
  cases ds <;> simp [PyData.eqv, PyData.eqvAll]
theorem seq09 {α : Type} {x : α} (l : List α) : seqIndex? 0 (x :: l).length = some 0 := by
  unfold seqIndex?
  simp
section
variable {P : Program} {w : World} {K : PySem.W.Frag} {mg : Str → Option Value} {base : Heap}
def spDraw : Sp := fun vs H Q _ => ∃ (w l : Addr) (m : Nat) (k : Int), vs = [.ref w, .int k] ∧ Wl H w l (m + 1) ∧ 1 ≤ k ∧ k ≤ 1000000 ∧ ∀ (r : Int) H', 0 ≤ r → r < k → Wl H' w l m → Kp [w, l] H H' → Tk H H' → Q (.int r) H'
theorem sc__law_draw : FnScope ["well", "many", "top"] ["well", "many"] (C8.fnScope (topS 33)) := C8.fnScope_by (by decide +kernel)
theorem ok__law_draw {f : Addr} {fd : FuncData} (F : C8.Def K mg "_law_draw" (topS 33) f fd) (b : Binds K fd ["well", "many"] []) (B : Bl K mg)  : C8.Cal P w K mg base 1 "_law_draw" spDraw [] := by
  refine C8.cal0 F b .nil sc__law_draw ?len ?body
  case len => rintro vs H Q E ⟨w, l, m, k, rfl, _⟩; rfl
  case body =>
    rintro cdv A outer s H vs Q E hr ⟨w, l, m, k, rfl, ⟨ns, a, n, hw, hl, hwl, ha0, ha1, hn0, hn1⟩, hk0, hk1, q⟩
    refine ⟨_, (pss_cons (ps_if (pt_cmpR (op_neD hr.units) (pe_ix ix_list (pv 0) pe_int (fun _ _ => rfl)) (pe_lst pa_nil) (nomark _)) (pss_cons (ps_set (i := 2) sc__law_draw.nd rfl (Or.inl rfl) (pe_ix ix_list (pe_ix ix_list (pv 0) pe_int (fun _ _ => rfl)) pe_int (fun _ _ => rfl)))
    (pss_cons (ps_if (pt_cmpR op_lt (pv 2) (pv 1) (nomark _)) (pss_one (ps_expr (pe_bm PySem.F.plainAttrs_list PySem.F.slot_list_pop PySem.F.type_list_pop mt_popAt (pe_ix ix_list (pv 0) pe_int (fun _ _ => rfl)) (pa_cons pe_int pa_nil)))) (pss_one (ps_asg (pe_op op_fdiv (pv 2) (pv 1)) (pg_sub (pe_ix ix_list (pv 0) pe_int (fun _ _ => rfl)) pe_int set_list))))
    (pss_one (ps_ret (pe_op op_mod (pe_callTy call_int1 rfl B.int (by decide +kernel) (pa_cons (pv 2) pa_nil)) (pv 1)))))) pss_nil)
    (pss_cons (ps_asg (pe_op op_add (pe_ix ix_list (pv 0) pe_int (fun _ _ => rfl)) pe_int) (pg_sub (pv 0) pe_int set_list))
    (pss_cons (ps_asg (pe_op op_mod (pe_callTy call_int1 rfl B.int (by decide +kernel) (pa_cons (pe_op op_add (pe_op op_add (pe_op op_mul (pe_ix ix_list (pv 0) pe_int (fun _ _ => rfl)) pe_int) (pe_op op_mul (pe_op op_mul pe_int (pe_ix ix_list (pv 0) pe_int (fun _ _ => rfl))) (pe_ix ix_list (pv 0) pe_int (fun _ _ => rfl)))) pe_int) pa_nil)) pe_int) (pg_sub (pv 0) pe_int set_list))
    (pss_one (ps_ret (pe_op op_mod (pe_op op_fdiv (pe_op op_mod (pe_callTy call_int1 rfl B.int (by decide +kernel) (pa_cons (pe_op op_mul (pe_ix ix_list (pv 0) pe_int (fun _ _ => rfl)) (pe_ix ix_list (pv 0) pe_int (fun _ _ => rfl))) pa_nil)) pe_int) pe_int) (pv 1))))))), ?_⟩
    refine ⟨_, rfl, w, _, _, _, rfl, rfl, SqL.of hw, at0 _ _, (by show 0 ≤ sizeLine; decide), fun p hp => ?_⟩
    have s1 := same_new hp (.lst [])
    have nw : w ≠ p := fun z => by rw [z, hp] at hw; cases hw
    have nl : l ≠ p := fun z => by rw [z, hp] at hl; cases hl
    have hw1 := s1 _ _ hw
    have hl1 := s1 _ _ hl
    refine ⟨.list (ns.map PyData.int), .list [], .lst (SqL.of hl1) (dp_ints9 ns), .lst (SqL.of upd_same) .nil, shaped_ints ns, by decide +kernel, _, rfl, ?_⟩
    rw [eqv_nil9]
    generalize upd H p (.lst []) = H1 at s1 hw1 hl1
    have k1 : Kp [w, l] H H1 := Kp.of_same s1
    have t1 : Tk H H1 := Tk.same s1
    cases ns with
    | nil =>
      refine iteF ?_
      refine ⟨_, rfl, _, _, _, _, rfl, rfl, SqL.of hw1, rfl, _, _, rfl, rfl, _, rfl, w, _, 2, 2, rfl, rfl, hw1, rfl, ?_⟩
      have hw2 : upd H1 w (.lst [.ref l, .int a, .int (n + 1)]) w = some (.lst [.ref l, .int a, .int (n + 1)]) := upd_same
      have hl2 : upd H1 w (.lst [.ref l, .int a, .int (n + 1)]) l = some (.lst (([] : List Int).map V.int)) := by rw [upd_ne (Ne.symm hwl)]; exact hl1
      have k2 : Kp [w, l] H (upd H1 w (.lst [.ref l, .int a, .int (n + 1)])) := k1.trans (Kp.put _ (by simp))
      have t2 : Tk H (upd H1 w (.lst [.ref l, .int a, .int (n + 1)])) := t1.trans (Tk.put hw1 _)
      show (fun H2 => _) (upd H1 w (.lst [.ref l, .int a, .int (n + 1)]))
      generalize upd H1 w (.lst [.ref l, .int a, .int (n + 1)]) = H2 at hw2 hl2 k2 t2
      refine ⟨_, rfl, _, _, _, _, rfl, rfl, SqL.of hw2, rfl, _, _, rfl, rfl, .inl ⟨by omega, by omega⟩, ?_⟩
      refine ⟨_, rfl, _, _, _, _, rfl, rfl, SqL.of hw2, rfl, _, _, rfl, rfl, .inl ⟨by decide, by decide⟩, ?_⟩
      refine ⟨_, rfl, _, _, _, _, rfl, rfl, SqL.of hw2, rfl, _, _, rfl, rfl, .inr ⟨by omega, by omega⟩, ?_⟩
      refine ⟨_, _, rfl, rfl, _, _, rfl, rfl, .inl ⟨_, rfl, _, _, rfl, rfl, (show (0 : Int) < 2147483647 by decide), _, rfl, w, _, 1, 1, rfl, rfl, hw2, rfl, ?_⟩⟩
      have p1 := Int.emod_nonneg (a * 48271 + 69621 * (n + 1) * (n + 1) + 40692) (show (2147483647 : Int) ≠ 0 by decide)
      have p2 := Int.emod_lt_of_pos (a * 48271 + 69621 * (n + 1) * (n + 1) + 40692) (show (0 : Int) < 2147483647 by decide)
      show (fun H2 => _) (upd H2 w (.lst [.ref l, .int ((a * 48271 + 69621 * (n + 1) * (n + 1) + 40692) % 2147483647), .int (n + 1)]))
      generalize (a * 48271 + 69621 * (n + 1) * (n + 1) + 40692) % 2147483647 = a2 at p1 p2
      have hw3 : upd H2 w (.lst [.ref l, .int a2, .int (n + 1)]) w = some (.lst [.ref l, .int a2, .int (n + 1)]) := upd_same
      have hl3 : upd H2 w (.lst [.ref l, .int a2, .int (n + 1)]) l = some (.lst (([] : List Int).map V.int)) := by rw [upd_ne (Ne.symm hwl)]; exact hl2
      have k3 : Kp [w, l] H (upd H2 w (.lst [.ref l, .int a2, .int (n + 1)])) := k2.trans (Kp.put _ (by simp))
      have t3 : Tk H (upd H2 w (.lst [.ref l, .int a2, .int (n + 1)])) := t2.trans (Tk.put hw2 _)
      show (fun H2 => _) (upd H2 w (.lst [.ref l, .int a2, .int (n + 1)]))
      generalize upd H2 w (.lst [.ref l, .int a2, .int (n + 1)]) = H3 at hw3 hl3 k3 t3
      refine ⟨_, rfl, _, _, _, _, rfl, rfl, SqL.of hw3, rfl, ?_⟩
      refine ⟨_, rfl, _, _, _, _, rfl, rfl, SqL.of hw3, rfl, _, _, rfl, rfl, .inl ⟨by omega, by omega⟩, ?_⟩
      refine .inl ⟨_, rfl, _, _, rfl, rfl, (show (0 : Int) < 2147483629 by decide), _, _, rfl, rfl, ⟨by decide, by decide⟩, _, rfl, _, _, rfl, rfl, (show (0 : Int) < k by omega), ?_⟩
      exact q _ _ (Int.emod_nonneg _ (by omega)) (Int.emod_lt_of_pos _ (by omega)) ⟨[], a2, n + 1, hw3, hl3, hwl, p1, by omega, by omega, by omega⟩ k3 t3
    | cons n0 nr =>
      refine iteT ?_
      refine ⟨_, rfl, _, _, _, _, rfl, rfl, SqL.of hw1, rfl, _, _, _, _, rfl, rfl, SqL.of hl1, (show atI (V.int n0 :: nr.map V.int) 0 = some (.int n0) from at0 _ _), ?_⟩
      have fin : ∀ (H' : Hp) (ns' : List Int), H' w = some (.lst [.ref l, .int a, .int n]) → H' l = some (.lst (ns'.map V.int)) → Kp [w, l] H H' → Tk H H' → Q (.int (n0 % k)) H' := fun H' ns' e1 e2 e3 e4 =>
        q _ _ (Int.emod_nonneg _ (by omega)) (Int.emod_lt_of_pos _ (by omega)) ⟨ns', a, n, e1, e2, hwl, ha0, ha1, hn0, by omega⟩ e3 e4
      refine ⟨_, rfl, _, rfl, _, _, rfl, rfl, _, rfl, ?_⟩
      by_cases c1 : n0 < k
      · rw [decide_eq_true c1]
        refine iteT ?_
        refine ⟨_, rfl, _, _, _, _, rfl, rfl, SqL.of hw1, rfl, .inl ⟨rfl, _, SqL.of hl1⟩, l, _, 0, 0, .int n0, rfl, rfl, hl1, by decide, by decide, seq09 _, rfl, ?_⟩
        refine ⟨_, rfl, .inl ⟨_, rfl, _, rfl, _, _, rfl, rfl, (show (0 : Int) < k by omega), ?_⟩⟩
        refine fin _ nr (by rw [upd_ne hwl]; exact hw1) upd_same (k1.trans (Kp.put _ (by simp))) (t1.trans (Tk.put hl1 _))
      · rw [decide_eq_false c1]
        refine iteF ?_
        refine ⟨_, rfl, _, rfl, _, _, rfl, rfl, ⟨by omega, by omega⟩, _, rfl, _, _, _, _, rfl, rfl, SqL.of hw1, rfl, l, _, 0, 0, rfl, rfl, hl1, ix_nat (j := 0) (by simp), ?_⟩
        refine ⟨_, rfl, .inl ⟨_, rfl, _, rfl, _, _, rfl, rfl, (show (0 : Int) < k by omega), ?_⟩⟩
        refine fin _ (n0 / k :: nr) (by rw [upd_ne hwl]; exact hw1) upd_same (k1.trans (Kp.put _ (by simp))) (t1.trans (Tk.put hl1 _))
def spWell (K : PySem.W.Frag) : Sp := fun vs H Q _ => ∃ (a : Addr) (ns : List Int), vs = [.ref a] ∧ SqL K H a (ns.map V.int) ∧ ns.length ≤ 1000 ∧ ∀ H' w l, Same H H' → H w = none → H l = none → Wl H' w l 900000000000000000 → Q (.ref w) H'
theorem sc__law_well : FnScope ["script", "stir", "cell"] ["script"] (C8.fnScope (topS 32)) := C8.fnScope_by (by decide +kernel)
theorem ok__law_well {f : Addr} {fd : FuncData} (F : C8.Def K mg "_law_well" (topS 32) f fd) (b : Binds K fd ["script"] []) (B : Bl K mg)  : C8.Cal P w K mg base 1 "_law_well" (spWell K) [] := by
  refine C8.cal0 F b .nil sc__law_well ?len ?body
  case len => rintro vs H Q E ⟨a, ns, rfl, _⟩; rfl
  case body =>
    rintro cdv A outer s H vs Q E hr ⟨a, ns, rfl, hs, hlen, q⟩
    refine ⟨_, (pss_cons (ps_set (i := 1) sc__law_well.nd rfl (Or.inl rfl) pe_int)
    (pss_cons (ps_for PassesOwn.never rfl (pi_list (pv 0)) (pg_name (i := 2) sc__law_well.nd rfl (Or.inl rfl))
    (pss_one (ps_set (i := 1) sc__law_well.nd rfl (Or.inl rfl) (pe_op op_mod (pe_callTy call_int1 rfl B.int (by decide +kernel) (pa_cons (pe_op op_add (pe_op op_add (pe_op op_mul (pv 1) pe_int) (pe_op op_mod (pe_callTy call_int1 rfl B.int (by decide +kernel) (pa_cons (pv 2) pa_nil)) pe_int)) pe_int) pa_nil)) pe_int))))
    (pss_one (ps_ret (pe_lst (pa_cons (pe_lc (own := [("cell", 2)]) (g := gName 2) (by rfl) sc__law_well.nd (pi_list (pv 0)) (blkOk_by (own := [("cell", 2)]) (N := ["script", "stir", "cell"]) (sc := (C8.fnScope (topS 32))) (by decide +kernel)) (fun _ _ _ _ _ => pg_name (i := 2) sc__law_well.nd rfl (Or.inl rfl)) (fun _ _ _ _ _ => (pts_one (pt_cmpR op_gt (pv 2) (pe_op op_pow pe_int pe_int) (nomark _)))) (fun _ _ _ _ _ => (pe_op op_sub (pe_callTy call_int1 rfl B.int (by decide +kernel) (pa_cons (pv 2) pa_nil)) (pe_op op_pow pe_int pe_int)))) (pa_cons (pv 1) (pa_cons pe_int pa_nil)))))))), ?_⟩
    refine ⟨_, rfl, a, rfl, ⟨_, hs⟩, ?_⟩
    refine for_list (xs := ns.map V.int) (fun j σ H' => H' = H ∧ ∃ (z : Int) (b2 : Option V), σ = [some (.ref a), some (.int z), b2] ∧ 0 ≤ z ∧ z < 2147483647) ⟨rfl, 7, none, rfl, by omega, by omega⟩ ?_ ?_ ?_
    · rintro i σ H' _ ⟨rfl, _⟩
      exact hs
    · rintro i x _ H2 hx ⟨rfl, z, b2, rfl, z0, z1⟩
      rw [List.getElem?_map] at hx
      obtain ⟨n, _, rfl⟩ := Option.map_eq_some_iff.mp hx
      refine ⟨_, rfl, _, _, rfl, rfl, .inl ⟨by omega, by omega⟩, _, rfl, .inl ⟨_, rfl, _, _, rfl, rfl, (show (0 : Int) < 2147483629 by decide), _, _, rfl, rfl, _, _, rfl, rfl, .inl ⟨_, rfl, _, _, rfl, rfl, (show (0 : Int) < 2147483647 by decide), ?_⟩⟩⟩
      exact ⟨rfl, _, _, rfl, Int.emod_nonneg _ (by decide), Int.emod_lt_of_pos _ (by decide)⟩
    · rintro σ H2 ⟨rfl, z, b2, rfl, z0, z1⟩
      refine ⟨_, rfl, a, rfl, ⟨_, hs⟩, ?_⟩
      intro l hl
      have s1 := same_new hl (.lst [])
      refine lc_list (xs := ns.map V.int) (fun i H' => ∃ ns' : List Int, ns'.length ≤ i ∧ H' l = some (.lst (ns'.map V.int)) ∧ ∀ p o, p ≠ l → H2 p = some o → H' p = some o) ⟨[], Nat.le_refl _, upd_same, fun p o hp e => by rw [upd_ne hp]; exact e⟩ ?_ ?_ ?_
      · rintro i H' _ ⟨_, _, _, st⟩
        rcases hs with (h | ⟨ob, h⟩) | h
        · exact .inl (.inl (st _ _ (fun z => by rw [z, hl] at h; cases h) h))
        · exact .inl (.inr ⟨ob, st _ _ (fun z => by rw [z, hl] at h; cases h) h⟩)
        · exact .inr h
      · rintro i x H3 hx ⟨ns', hn', hl3, st⟩
        rw [List.getElem?_map] at hx
        obtain ⟨n, _, rfl⟩ := Option.map_eq_some_iff.mp hx
        have hil : i < ns.length := by
          by_cases h : i < ns.length
          · exact h
          · rw [List.getElem?_eq_none_iff.mpr (by omega)] at hx; cases hx
        refine ⟨rfl, ?_⟩
        refine ⟨_, rfl, _, _, rfl, rfl, ⟨by decide, by decide, by decide⟩, _, _, rfl, rfl, _, rfl, ?_⟩
        refine ite2 (fun _ => ?_) (fun _ => ⟨ns', by omega, hl3, st⟩)
        refine ⟨_, rfl, .inl ⟨_, rfl, _, _, rfl, rfl, ⟨by decide, by decide, by decide⟩, _, _, rfl, rfl, ?_⟩⟩
        refine ⟨_, hl3, Nat.lt_of_le_of_lt (show _ ≤ 1000 by rw [List.length_map]; omega) (by decide), ns' ++ [n - 10 ^ Int.toNat 18], by rw [List.length_append]; simp; omega, ?_, fun p o hp e => by rw [upd_ne hp]; exact st p o hp e⟩
        rw [List.map_append]
        exact upd_same
      · rintro H3 ⟨ns', hn', hl3, st⟩
        refine ⟨_, rfl, (by show 3 ≤ sizeLine; decide), fun w hw => ?_⟩
        have s3 : Same H2 H3 := fun p o e => st p o (fun z => by rw [z, hl] at e; cases e) e
        have s4 := s3.trans (same_new hw (.lst [.ref l, .int z, .int 0]))
        have hwl : w ≠ l := fun e => by rw [e, hl3] at hw; cases hw
        have hw2 : H2 w = none := by
          cases e : H2 w with
          | none => rfl
          | some o => rw [s3 _ _ e] at hw; cases hw
        exact q _ w l s4 hw2 hl ⟨ns', z, 0, upd_same, by rw [upd_ne (Ne.symm hwl)]; exact hl3, hwl, z0, by omega, by omega, by omega⟩
end
end K04


set_option Elab.async false
set_option linter.all false
set_option maxRecDepth 100000
set_option maxHeartbeats 8000000
namespace K04
open PySem PySem.Spec PyProof.Rows L2
/-! ### texts of word signs -/
def Sg (n : Nat) (s : Str) : Prop := s.length ≤ n ∧ ∀ c ∈ s.cps.toList, c ∈ wordS.cps.toList
theorem Sg.le {n m : Nat} {s : Str} (h : Sg n s) (hm : n ≤ m) : Sg m s := ⟨Nat.le_trans h.1 hm, h.2⟩
theorem Sg.app {n m : Nat} {s t : Str} (h : Sg n s) (g : Sg m t) : Sg (n + m) (s ++ t) := by
  constructor
  · show (s.cps ++ t.cps).size ≤ _
    rw [Array.size_append]
    exact Nat.add_le_add h.1 g.1
  · intro c hc
    have : c ∈ (s.cps ++ t.cps).toList := hc
    rw [Array.toList_append] at this
    rcases List.mem_append.mp this with z | z
    · exact h.2 c z
    · exact g.2 c z
theorem Sg.cut {n : Nat} {s : Str} (h : Sg n s) (lo hi : Option Int) : Sg n (cutS s lo hi) := by
  refine ⟨Nat.le_trans (cutS_length s lo hi) h.1, fun c hc => ?_⟩
  have : c ∈ (s.cps.toList.drop (HT.sIx s.length 0 lo)).take (HT.sIx s.length s.length hi - HT.sIx s.length 0 lo) := by
    unfold cutS at hc
    simpa using hc
  exact h.2 c (List.mem_of_mem_drop (List.mem_of_mem_take this))
theorem Sg.ten {n : Nat} {s : Str} (h : Sg n s) : Sg 10 (cutS s none (some 10)) := by
  refine ⟨?_, (h.cut none (some 10)).2⟩
  unfold cutS
  show (List.toArray _).size ≤ 10
  rw [List.size_toArray, List.length_take]
  refine Nat.le_trans (Nat.min_le_left _ _) ?_
  show (if (10 : Int) < 0 then ((10 : Int) + (s.length : Int)).toNat else min (10 : Int).toNat s.length) - 0 ≤ 10
  rw [if_neg (by decide)]
  exact Nat.le_trans (Nat.sub_le _ _) (Nat.min_le_left _ _)
theorem Sg.nil : Sg 0 "" := ⟨Nat.le_refl _, fun c hc => by cases hc⟩
theorem Sg.one {c : Nat} (h : c ∈ wordS.cps.toList) : Sg 1 ⟨#[c]⟩ := ⟨Nat.le_refl _, fun d hd => by
  have : d ∈ [c] := hd
  cases List.mem_singleton.mp this
  exact h⟩
theorem sg_nameB {s : Str} (h : nameB s = true) : Sg 10 s := by
  unfold nameB at h
  simp only [Bool.and_eq_true, decide_eq_true_eq, List.all_eq_true] at h
  exact ⟨h.1.1.1.2, h.2⟩
theorem small_in : ∀ c ∈ smallL.cps.toList, c ∈ wordS.cps.toList := by decide +kernel
theorem kept_sg : ∀ x ∈ keptW, x.length ≤ 10 ∧ ∀ c ∈ x.cps.toList, c ∈ wordS.cps.toList := by decide +kernel
def nth9 (k : Nat) : Str := "n" ++ (toString ((k : Int)) : Str)
theorem nth_ok : ∀ k < 400, nameB (nth9 k) = true := by decide +kernel
theorem nth_inj : ((List.range 41).map nth9).Nodup := by decide +kernel
theorem len_sub {α : Type} [DecidableEq α] : ∀ {l m : List α}, l.Nodup → (∀ x ∈ l, x ∈ m) → l.length ≤ m.length
  | [], _, _, _ => Nat.zero_le _
  | x :: l, m, hn, hs => by
    have h1 := List.nodup_cons.mp hn
    have hx := hs x (by simp)
    have ih := len_sub (l := l) (m := m.erase x) h1.2 (fun y hy => (List.mem_erase_of_ne (fun e => h1.1 (by rw [← e]; exact hy))).mpr (hs y (by simp [hy])))
    rw [List.length_erase_of_mem hx] at ih
    have : 0 < m.length := List.length_pos_of_mem hx
    simp only [List.length_cons]
    omega
theorem some_free {T : List Str} (h : T.length ≤ 40) : ∃ k < 41, nth9 k ∉ T := by
  by_cases z : ∃ k < 41, nth9 k ∉ T
  · exact z
  · exfalso
    have := len_sub nth_inj (m := T) (fun x hx => by
      obtain ⟨k, hk, rfl⟩ := List.mem_map.mp hx
      by_cases e : nth9 k ∈ T
      · exact e
      · exact absurd ⟨k, List.mem_range.mp hk, e⟩ z)
    rw [List.length_map, List.length_range] at this
    omega
end K04


set_option Elab.async false
set_option linter.all false
set_option maxRecDepth 100000
set_option maxHeartbeats 8000000
namespace K04
open PySem PySem.Spec PyProof.Rows L2
def tNth : TE := tOp (fun x y H Q => ∃ i j, x = V.str i ∧ y = V.str j ∧ i.length + j.length ≤ sizeLine ∧ Q (.str (i ++ j)) H) (tC (.str "n")) (tCB (fun xs H Q => ∃ i : Int, xs = [V.int i] ∧ i.natAbs.log2 < 1920 ∧ Q (.str (toString i)) H) (tCons (tVar 7) tNil))
def ttN (K : PySem.W.Frag) : TT := tTest (tOp (rIn K true) tNth (tVar 1))
def signS9 : Str := "abcdefghijklmnopqrstuvwxyz" ++ "0123456789"
theorem sml_all : ∀ j < 26, smallL.cps.toList[j]? = some (smallL.cps.toList.getD j 0) ∧ smallL.cps.toList.getD j 0 ∈ wordS.cps.toList := by decide +kernel
theorem sgn_all : ∀ j < 36, signS9.cps.toList[j]? = some (signS9.cps.toList.getD j 0) ∧ signS9.cps.toList.getD j 0 ∈ wordS.cps.toList := by decide +kernel
theorem sml_at {r : Int} (h0 : 0 ≤ r) (h1 : r < 26) : ∃ c, atI smallL.cps.toList r = some c ∧ c ∈ wordS.cps.toList := by
  obtain ⟨a, b⟩ := sml_all r.toNat (by omega)
  have := atI_nat a
  rw [show ((r.toNat : Nat) : Int) = r by omega] at this
  exact ⟨_, this, b⟩
theorem sgn_at {r : Int} (h0 : 0 ≤ r) (h1 : r < 36) : ∃ c, atI signS9.cps.toList r = some c ∧ c ∈ wordS.cps.toList := by
  obtain ⟨a, b⟩ := sgn_all r.toNat (by omega)
  have := atI_nat a
  rw [show ((r.toNat : Nat) : Int) = r by omega] at this
  exact ⟨_, this, b⟩
theorem Wl.upd {H : Hp} {w l p : Addr} {m : Nat} {o : HO} (h : Wl H w l m) (n : p ∉ [w, l]) : Wl (upd H p o) w l m := by
  obtain ⟨ns, a, k, h1, h2, h3⟩ := h
  exact ⟨ns, a, k, by rw [upd_ne (fun z => n (by simp [z]))]; exact h1, by rw [upd_ne (fun z => n (by simp [z]))]; exact h2, h3⟩
theorem Kp.none {as : List Addr} {H H' : Hp} {p : Addr} (k : Kp as H H') (n : p ∉ as) (h : H' p = none) : H p = none := by
  cases e : H p with
  | none => rfl
  | some o => rw [k _ _ n e] at h; cases h
theorem kp_new {as : List Addr} {H H' : Hp} {p : Addr} {o : HO} (k : Kp as H H') (h : H p = Option.none) : Kp as H (L2.upd H' p o) := fun q o' n e => by
  rw [upd_ne (fun z => by rw [z, h] at e; cases e)]
  exact k _ _ n e
theorem sum_one : ∀ ys : List Str, (∀ y ∈ ys, Sg 1 y) → (ys.map (·.length)).sum + ys.length * (Str.length "") ≤ ys.length
  | [], _ => Nat.le_refl _
  | x :: r, h => by
    have ih := sum_one r fun y hy => h y (by simp [hy])
    have := (h x (by simp)).1
    have e : Str.length "" = 0 := rfl
    rw [e] at ih ⊢
    simp only [List.map_cons, List.sum_cons, List.length_cons]
    omega
theorem old_at {L : List Str} {r : Int} (h : ∀ x ∈ L, x.length ≤ 10 ∧ ∀ c ∈ x.cps.toList, c ∈ wordS.cps.toList) (h0 : 0 ≤ r) (h1 : r < L.length) : ∃ old, Sg 10 old ∧ atI (L.map V.str) r = some (.str old) := by
  have hlt : r.toNat < L.length := by omega
  refine ⟨L[r.toNat], h _ (List.getElem_mem hlt), ?_⟩
  have := atI_nat (xs := L.map V.str) (j := r.toNat) (v := .str L[r.toNat]) (by rw [List.getElem?_map, List.getElem?_eq_getElem hlt]; rfl)
  rwa [show ((r.toNat : Nat) : Int) = r by omega] at this
theorem nth_len : ∀ k < 400, (Str.ofString "n").length + (toString ((k : Nat) : Int) : Str).length ≤ 10 := by decide +kernel
theorem name_by {fd : Str} {c : Nat} {cr : List Nat} (h : Sg 10 fd) (hc : fd.cps.toList = c :: cr) (h2 : c ∈ smallL.cps.toList) (h3 : fd ∉ keptW) : nameB fd = true := by
  have hl : 1 ≤ fd.length := by
    show 1 ≤ fd.cps.size
    rw [← Array.length_toList, hc]
    simp
  have hk : (keptW.any fun z => decide (fd = z)) = false := by
    rw [List.any_eq_false]
    intro z hz
    rw [decide_eq_true_eq]
    rintro rfl
    exact h3 hz
  have ha : (fd.cps.toList.all fun c => decide (c ∈ wordS.cps.toList)) = true := by
    rw [List.all_eq_true]
    intro x hx
    exact decide_eq_true (h.2 x hx)
  unfold nameB
  rw [ha, hk, hc, decide_eq_true hl, decide_eq_true h.1]
  show (true && true && decide (c ∈ smallL.cps.toList) && !false && true) = true
  rw [decide_eq_true h2]
  rfl
theorem sg_join : ∀ ys : List Str, (∀ y ∈ ys, Sg 1 y) → Sg ys.length (Str.join "" ys)
  | [], _ => Sg.nil
  | [x], h => h x (by simp)
  | x :: z :: r, h => by
    have ih := sg_join (z :: r) fun y hy => h y (by simp [hy])
    exact (((h x (by simp)).app Sg.nil).app ih).le (by simp; omega)
section
variable {P : Program} {w : World} {K : PySem.W.Frag} {mg : Str → Option Value} {base : Heap}
def spName9 : Sp := fun vs H Q _ => ∃ (w l t : Addr) (m : Nat) (T : List Str), vs = [.ref w, .ref t] ∧ Wl H w l (m + 30) ∧ H t = some (.lst (T.map V.str)) ∧ t ∉ [w, l] ∧ T.length ≤ 40 ∧ (∀ x ∈ T, nameB x = true) ∧ ∀ (r : Str) H', nameB r = true → r ∉ T → Wl H' w l m → Kp [w, l] H H' → Tk H H' → Q (.str r) H'
theorem sc__law_name : FnScope ["well", "taken", "small", "signs", "way", "words", "found", "k", "old", "at"] ["well", "taken"] (C8.fnScope (topS 35)) := C8.fnScope_by (by decide +kernel)
theorem ok__law_name {f : Addr} {fd : FuncData} (F : C8.Def K mg "_law_name" (topS 35) f fd) (b : Binds K fd ["well", "taken"] []) (B : Bl K mg) (c_draw : C8.Cal P w K mg base 1 "_law_draw" spDraw []) : C8.Cal P w K mg base 2 "_law_name" spName9 [] := by
  refine C8.cal0 F b .nil sc__law_name ?len ?body
  case len => rintro vs H Q E ⟨w, l, t, m, T, rfl, _⟩; rfl
  case body =>
    rintro cdv A outer s H vs Q E hr ⟨w, l, t, m, T, rfl, hW, ht, htn, hT, hTn, q⟩
    refine ⟨_, (pss_cons (ps_set (i := 2) sc__law_name.nd rfl (Or.inl rfl) pe_str)
    (pss_cons (ps_asg (pe_tup (pa_cons (pe_op op_add_str (pv 2) pe_str) (pa_cons (C8.pe_c c_draw hr (by decide) rfl (pa_cons (pv 0) (pa_cons pe_int pa_nil))) pa_nil))) (pg_tup rfl (pgs_cons (pg_name (i := 3) sc__law_name.nd rfl (Or.inr rfl)) (pgs_cons (pg_name (i := 4) sc__law_name.nd rfl (Or.inl rfl)) pgs_nil))))
    (pss_cons (ps_set (i := 5) sc__law_name.nd rfl (Or.inl rfl) (pe_lst (pa_cons pe_str (pa_cons pe_str (pa_cons pe_str (pa_cons pe_str (pa_cons pe_str (pa_cons pe_str (pa_cons pe_str (pa_cons pe_str (pa_cons pe_str (pa_cons pe_str (pa_cons pe_str pa_nil)))))))))))))
    (pss_cons (ps_set (i := 6) sc__law_name.nd rfl (Or.inl rfl) (pe_ix ix_str (pv 2) (C8.pe_c c_draw hr (by decide) rfl (pa_cons (pv 0) (pa_cons pe_int pa_nil))) (fun _ _ => rfl)))
    (C8.pss_cut (ps_if (pt_cmpR op_eq (pv 4) pe_int (nomark _)) (pss_one (ps_set (i := 6) sc__law_name.nd rfl (Or.inl rfl) (pe_op op_add_str (pv 6) (pe_join pe_str (pe_lc (own := [("k", 7)]) (g := gName 7) (by rfl) sc__law_name.nd (pi_range1 rfl B.range (pa_cons (C8.pe_c c_draw hr (by decide) rfl (pa_cons (pv 0) (pa_cons pe_int pa_nil))) pa_nil)) (blkOk_by (own := [("k", 7)]) (N := ["well", "taken", "small", "signs", "way", "words", "found", "k", "old", "at"]) (sc := (C8.fnScope (topS 35))) (by decide +kernel)) (fun _ _ _ _ _ => pg_name (i := 7) sc__law_name.nd rfl (Or.inl rfl)) (fun _ _ _ _ _ => pts_nil) (fun _ _ _ _ _ => (pe_ix ix_str (pv 3) (C8.pe_c c_draw hr (by decide) rfl (pa_cons (pv 0) (pa_cons pe_int pa_nil))) (fun _ _ => rfl)))))))) pss_nil)
    (C8.pss_cut (ps_if (pt_cmpR op_gt (pv 4) pe_int (nomark _)) (pss_cons (ps_set (i := 8) sc__law_name.nd rfl (Or.inl rfl) (pe_ix ix_list (pe_op op_cat (pe_ifExp (pt_cmpR op_eq (pv 4) pe_int (nomark _)) (pv 1) (pe_lst pa_nil)) (pv 5)) (C8.pe_c c_draw hr (by decide) rfl (pa_cons (pv 0) (pa_cons (pe_op op_add (pe_callB call_len_seq rfl B.len PySem.boot_len (pa_cons (pv 5) pa_nil)) (pe_ifExp (pt_cmpR op_eq (pv 4) pe_int (nomark _)) (pe_callB call_len_seq rfl B.len PySem.boot_len (pa_cons (pv 1) pa_nil)) pe_int)) pa_nil))) (fun _ _ => rfl)))
    (pss_cons (ps_set (i := 9) sc__law_name.nd rfl (Or.inl rfl) (C8.pe_c c_draw hr (by decide) rfl (pa_cons (pv 0) (pa_cons (pe_op op_add (pe_callB call_len_str rfl B.len PySem.boot_len (pa_cons (pv 8) pa_nil)) pe_int) pa_nil))))
    (pss_one (ps_set (i := 6) sc__law_name.nd rfl (Or.inl rfl) (pe_slice sl_str (pe_op op_add_str (pe_op op_add_str (pe_slice sl_str (pv 8) po_none (po_some (pv 9))) (pe_ix ix_list (pe_lst (pa_cons pe_str (pa_cons (pe_ix ix_str (pv 3) (C8.pe_c c_draw hr (by decide) rfl (pa_cons (pv 0) (pa_cons pe_int pa_nil))) (fun _ _ => rfl)) pa_nil))) (C8.pe_c c_draw hr (by decide) rfl (pa_cons (pv 0) (pa_cons pe_int pa_nil))) (fun _ _ => rfl))) (pe_slice sl_str (pv 8) (po_some (pe_op op_add (pv 9) (C8.pe_c c_draw hr (by decide) rfl (pa_cons (pv 0) (pa_cons pe_int pa_nil))))) po_none)) po_none (po_some pe_int)))))) pss_nil)
    (C8.pss_cut (ps_if (PW.pt (pw_or (pt_cmpR op_eq (pv 6) pe_str (nomark _)) (pw_or (pt_cmpR op_notIn_sign (pe_ix ix_str (pv 6) pe_int (fun _ _ => rfl)) (pv 2) (by with_unfolding_all rfl)) (pw_or (pt_cmpR op_in_seq (pv 6) (pv 5) (by with_unfolding_all rfl)) (pw_or1 (pt_cmpR op_in_seq (pv 6) (pv 1) (by with_unfolding_all rfl))))))) (pss_one (ps_set (i := 6) sc__law_name.nd rfl (Or.inl rfl) (pe_ix ix_list (pe_lc (own := [("k", 7)]) (g := gName 7) (tt := ttN K) (te := tNth) (by rfl) sc__law_name.nd (pi_range1 rfl B.range (pa_cons pe_int pa_nil)) (blkOk_by (own := [("k", 7)]) (N := ["well", "taken", "small", "signs", "way", "words", "found", "k", "old", "at"]) (sc := (C8.fnScope (topS 35))) (by decide +kernel)) (fun _ _ _ _ _ => pg_name (i := 7) sc__law_name.nd rfl (Or.inl rfl)) (fun _ _ _ _ _ => by exact (pts_one (pt_cmpR op_notIn_seq (pe_op op_add_str pe_str (pe_callTy call_str_int rfl B.str (by decide +kernel) (pa_cons (pv 7) pa_nil))) (pv 1) (by with_unfolding_all rfl)))) (fun _ _ _ _ _ => by exact (pe_op op_add_str pe_str (pe_callTy call_str_int rfl B.str (by decide +kernel) (pa_cons (pv 7) pa_nil))))) pe_int (fun _ _ => rfl)))) pss_nil)
    (pss_one (ps_ret (pv 6)))))))))), ?_⟩
    have hwt : t ≠ w ∧ t ≠ l := by
      constructor
      · intro z; exact htn (by simp [z])
      · intro z; exact htn (by simp [z])
    refine ⟨_, rfl, smallL, "0123456789", rfl, rfl, by decide +kernel, _, rfl, w, l, m + 29, 4, rfl, hW, by decide, by decide, fun way H1 y0 y1 hW1 k1 t1 => ?_⟩
    refine ⟨(by show 2 ≤ sizeLine; decide), fun tp htp => ?_⟩
    have s2 := same_new htp (.tup [.str signS9, .int way])
    refine ⟨tp, _, rfl, SqT.of upd_same, rfl, _, _, rfl, _, _, rfl, rfl, ?_⟩
    have hW2 := hW1.same s2
    have k2 : Kp [w, l] H (upd H1 tp (.tup [.str signS9, .int way])) := k1.trans (Kp.of_same s2)
    have t2 : Tk H (upd H1 tp (.tup [.str signS9, .int way])) := t1.trans (Tk.same s2)
    show (fun H5 => _) (upd H1 tp (.tup [.str signS9, .int way]))
    generalize upd H1 tp (.tup [.str signS9, .int way]) = H2 at hW2 k2 t2
    refine ⟨(by show 11 ≤ sizeLine; decide), fun wd hwd => ?_⟩
    have s3 := same_new hwd (.lst (keptW.map V.str))
    have nwd : wd ∉ [w, l] := hW2.out hwd
    have hW3 := hW2.same s3
    have k3 := k2.trans (Kp.of_same s3)
    have t3 := t2.trans (Tk.same s3)
    have hwd3 : upd H2 wd (.lst (keptW.map V.str)) wd = some (.lst (keptW.map V.str)) := upd_same
    show (fun H5 => _) (upd H2 wd (.lst (keptW.map V.str)))
    generalize upd H2 wd (.lst (keptW.map V.str)) = H3 at hW3 k3 t3 hwd3
    refine ⟨_, rfl, _, rfl, w, l, m + 28, 26, rfl, hW3, by decide, by decide, fun r4 H4 r40 r41 hW4 k4 t4 => ?_⟩
    obtain ⟨c0, hc0, hc0w⟩ := sml_at r40 r41
    refine ⟨smallL, r4, c0, rfl, rfl, by decide +kernel, hc0, ?_⟩
    have keep : ∀ {Hx : Hp}, Kp [w, l] H Hx → Hx t = some (.lst (T.map V.str)) := fun k => k _ _ htn ht
    -- a letter, and maybe more signs
    refine ⟨fun σ' H' => ∃ (fd : Str) (b7 b8 b9 : Option V), σ' = [some (.ref w), some (.ref t), some (.str smallL), some (.str signS9), some (.int way), some (.ref wd), some (.str fd), b7, b8, b9] ∧ Sg 10 fd ∧ H' wd = some (.lst (keptW.map V.str)) ∧ Wl H' w l (m + 18) ∧ Kp [w, l] H H' ∧ Tk H H', ?_, ?_⟩
    · have hwd4 := k4 _ _ nwd hwd3
      have k04 := k3.trans k4
      have t04 := t3.trans t4
      refine ⟨_, rfl, rfl, _, rfl, ?_⟩
      rw [dec_int]
      by_cases c1 : way = 1
      · rw [decide_eq_true c1]
        refine iteT ?_
        refine ⟨_, rfl, ⟨_, rfl⟩, _, rfl, w, l, m + 27, 10, rfl, hW4, by decide, by decide, fun n H5 n0 n1 hW5 k5 t5 => ⟨n, rfl, by omega, by omega, fun D hD => ?_⟩⟩
        have nD := hW5.out hD
        have s6 := same_new hD (.lst [])
        have k06 := (k04.trans k5).trans (Kp.of_same s6)
        have t06 := (t04.trans t5).trans (Tk.same s6)
        have hwd5 := k5 _ _ nwd hwd4
        have hDn : H D = none := (k04.trans k5).none nD hD
        have nDw : wd ≠ D := fun z => by rw [← z, hwd5] at hD; cases hD
        refine lc_range (fun j H' => ∃ ys : List Str, ys.length = j ∧ (∀ y ∈ ys, Sg 1 y) ∧ H' D = some (.lst (ys.map V.str)) ∧ H' wd = some (.lst (keptW.map V.str)) ∧ Wl H' w l (m + 18 + (n.toNat - j)) ∧ Kp [w, l] H H' ∧ Tk H H') ⟨[], rfl, fun y hy => (List.not_mem_nil hy).elim, upd_same, s6 _ _ hwd5, (hW5.same s6).le (by omega), k06, t06⟩ ?_ ?_
        · rintro j H7 hj ⟨ys, yl, yg, hD7, hwd7, hW7, k7, t7⟩
          refine ⟨rfl, ?_⟩
          obtain ⟨b, hb⟩ : ∃ b, m + 18 + (n.toNat - j) = b + 1 := ⟨m + 18 + (n.toNat - j) - 1, by omega⟩
          rw [hb] at hW7
          refine ⟨_, rfl, _, rfl, w, l, b, 36, rfl, hW7, by decide, by decide, fun r H8 r0 r1 hW8 k8 t8 => ?_⟩
          obtain ⟨c, hc, hcw⟩ := sgn_at r0 r1
          refine ⟨signS9, r, c, rfl, rfl, by decide +kernel, hc, ?_⟩
          have hD8 := k8 _ _ nD hD7
          have hp := Tk.put (o := .lst (ys.map V.str ++ [.str ⟨#[c]⟩])) hD8
          refine ⟨_, hD8, Nat.lt_of_le_of_lt (show _ ≤ 9 by rw [List.length_map]; omega) (by decide), ys ++ [⟨#[c]⟩], by rw [List.length_append, yl]; rfl, fun y hy => ?_, by rw [List.map_append]; exact upd_same, by rw [upd_ne nDw]; exact k8 _ _ nwd hwd7, ?_, ?_, ?_⟩
          · rcases List.mem_append.mp hy with h | h
            · exact yg y h
            · cases List.mem_singleton.mp h
              exact Sg.one hcw
          · exact (hW8.le (by omega)).upd nD
          · exact kp_new (k7.trans k8) hDn
          · exact (t7.trans t8).trans hp
        · rintro H7 ⟨ys, yl, yg, hD7, hwd7, hW7, k7, t7⟩
          have hj := sg_join ys yg
          refine ⟨_, D, ys, rfl, rfl, .inl (SqL.of hD7), ?_, ?_⟩
          · exact Nat.le_trans (sum_one ys yg) (by omega)
          rw [TL.join_eq]
          refine ⟨_, _, rfl, rfl, Nat.le_trans (show _ ≤ 20 from ?_) (by decide), ?_⟩
          · have := hj.1
            show 1 + _ ≤ 20
            omega
          · exact ⟨_, _, _, _, rfl, ((Sg.one hc0w).app hj).le (by omega), hwd7, hW7.le (by omega), k7, t7⟩
      · rw [decide_eq_false c1]
        exact iteF ⟨_, none, none, none, rfl, (Sg.one hc0w).le (by decide), hwd4, hW4.le (by omega), k04, t04⟩
    rintro _ H5 ⟨fd, b7, b8, b9, rfl, sg5, hwd5, hW5, k5, t5⟩
    -- a word near an old one
    refine ⟨fun σ' H' => ∃ (fd : Str) (b7 b8 b9 : Option V), σ' = [some (.ref w), some (.ref t), some (.str smallL), some (.str signS9), some (.int way), some (.ref wd), some (.str fd), b7, b8, b9] ∧ Sg 10 fd ∧ H' wd = some (.lst (keptW.map V.str)) ∧ Wl H' w l (m + 13) ∧ Kp [w, l] H H' ∧ Tk H H', ?_, ?_⟩
    · refine ⟨_, rfl, _, _, rfl, rfl, _, rfl, ?_⟩
      by_cases c1 : (1 : Int) < way
      · rw [decide_eq_true c1]
        refine iteT ?_
        refine ⟨_, rfl, rfl, _, rfl, ?_⟩
        rw [dec_int]
        have hT5 := k5 _ _ htn ht
        by_cases c2 : way = 2
        · rw [decide_eq_true c2]
          refine iteT ⟨_, rfl, _, rfl, t, wd, _, _, rfl, rfl, hT5, hwd5, Nat.le_trans (show _ ≤ 51 by rw [List.length_map, List.length_map, show keptW.length = 11 from rfl]; omega) (by decide), fun p hp => ?_⟩
          have s6 := same_new hp (.lst (T.map V.str ++ keptW.map V.str))
          have np := hW5.out hp
          refine ⟨_, rfl, _, rfl, wd, _, rfl, .inl (SqL.of (s6 _ _ hwd5)), _, rfl, rfl, _, rfl, ?_⟩
          rw [dec_int, decide_eq_true c2]
          refine iteT ⟨_, rfl, t, _, rfl, .inl (SqL.of (s6 _ _ hT5)), _, _, rfl, rfl, w, l, m + 17, _, rfl, hW5.same s6, ?_, ?_, fun r H7 r0 r1 hW7 k7' t7' => ?_⟩
          · rw [List.length_map, List.length_map, show keptW.length = 11 from rfl]; omega
          · rw [List.length_map, List.length_map, show keptW.length = 11 from rfl]; omega
          rw [List.length_map, List.length_map] at r1
          have hp7 := k7' _ _ np (upd_same (H := H5) (a := p) (o := .lst (T.map V.str ++ keptW.map V.str)))
          rw [← List.map_append] at hp7
          obtain ⟨old, sgo, hat⟩ := old_at (L := T ++ keptW) (fun x hx => by
            rcases List.mem_append.mp hx with h | h
            · exact sg_nameB (hTn x h)
            · exact kept_sg x h) r0 (by rw [List.length_append]; omega)
          refine ⟨p, _, r, .str old, rfl, rfl, SqL.of hp7, hat, ?_⟩
          have k7 := (Kp.of_same (as := [w, l]) s6).trans k7'
          have t7 := (Tk.same s6).trans t7'
          refine ⟨_, rfl, _, rfl, old, rfl, Nat.le_trans sgo.1 (by decide), _, _, rfl, rfl, w, l, m + 16, (old.length : Int) + 1, rfl, hW7, by omega, by have := sgo.1; omega, fun at_ H8 a0 a1 hW8 k8 t8 => ?_⟩
          refine ⟨_, rfl, _, rfl, _, rfl, old, rfl, Nat.le_trans sgo.1 (by decide), ?_⟩
          refine ⟨_, rfl, _, rfl, w, l, m + 15, 36, rfl, hW8, by decide, by decide, fun r9 H9 r90 r91 hW9 k9 t9 => ?_⟩
          obtain ⟨c, hc, hcw⟩ := sgn_at r90 r91
          refine ⟨signS9, r9, c, rfl, rfl, by decide +kernel, hc, (by show 2 ≤ sizeLine; decide), fun q hq => ?_⟩
          have sq := same_new hq (.lst [.str "", .str ⟨#[c]⟩])
          have hWq := hW9.same sq
          have nq := hW9.out hq
          have hq1 : upd H9 q (.lst [.str "", .str ⟨#[c]⟩]) q = some (.lst [.str "", .str ⟨#[c]⟩]) := upd_same
          have kq := (k7.trans (k8.trans k9)).trans (Kp.of_same sq)
          have tq := (t7.trans (t8.trans t9)).trans (Tk.same sq)
          show (fun H5 => _) (upd H9 q (.lst [.str "", .str ⟨#[c]⟩]))
          generalize upd H9 q (.lst [.str "", .str ⟨#[c]⟩]) = Hq at hWq hq1 kq tq
          refine ⟨_, rfl, w, l, m + 14, 2, rfl, hWq, by decide, by decide, fun r3 Hr r30 r31 hWr kr tr => ?_⟩
          obtain ⟨e, se, hat3⟩ : ∃ e : Str, Sg 1 e ∧ atI [V.str "", V.str ⟨#[c]⟩] r3 = some (.str e) := by
            rcases (show r3 = 0 ∨ r3 = 1 by omega) with rfl | rfl
            · exact ⟨"", Sg.nil.le (by decide), rfl⟩
            · exact ⟨⟨#[c]⟩, Sg.one hcw, rfl⟩
          refine ⟨q, _, r3, .str e, rfl, rfl, SqL.of (kr _ _ nq hq1), hat3, ?_⟩
          have s1 := (sgo.cut none (some at_)).app se
          refine ⟨_, _, rfl, rfl, Nat.le_trans (show _ ≤ 11 from Nat.add_le_add (sgo.cut none (some at_)).1 se.1) (by decide), ?_⟩
          refine ⟨_, rfl, _, rfl, _, rfl, w, l, m + 13, 2, rfl, hWr, by decide, by decide, fun r4 Hs r40 r41 hWs ks ts => ?_⟩
          refine ⟨_, _, rfl, rfl, _, rfl, old, rfl, Nat.le_trans sgo.1 (by decide), ?_⟩
          have s2 := s1.app (sgo.cut (some (at_ + r4)) none)
          refine ⟨_, _, rfl, rfl, Nat.le_trans (show _ ≤ 21 from Nat.add_le_add s1.1 (sgo.cut (some (at_ + r4)) none).1) (by decide), ?_⟩
          refine ⟨_, rfl, _, rfl, Nat.le_trans s2.1 (by decide), ?_⟩
          exact ⟨_, _, _, _, rfl, s2.ten, (kq.trans (kr.trans ks)) _ _ nwd hwd5, hWs, k5.trans (kq.trans (kr.trans ks)), t5.trans (tq.trans (tr.trans ts))⟩
        · rw [decide_eq_false c2]
          refine iteF ⟨(by show 0 ≤ sizeLine; decide), fun p0 hp0 => ?_⟩
          have s60 := same_new hp0 (.lst [])
          refine ⟨_, rfl, p0, wd, _, _, rfl, rfl, upd_same, s60 _ _ hwd5, (by show 11 ≤ sizeLine; decide), fun p hp => ?_⟩
          have s6 := s60.trans (same_new hp (.lst ([] ++ keptW.map V.str)))
          have np := (hW5.same s60).out hp
          refine ⟨_, rfl, _, rfl, wd, _, rfl, .inl (SqL.of (s6 _ _ hwd5)), _, rfl, rfl, _, rfl, ?_⟩
          rw [dec_int, decide_eq_false c2]
          refine iteF ⟨_, _, rfl, rfl, w, l, m + 17, _, rfl, hW5.same s6, ?_, ?_, fun r H7 r0 r1 hW7 k7' t7' => ?_⟩
          · rw [List.length_map, show keptW.length = 11 from rfl]; decide
          · rw [List.length_map, show keptW.length = 11 from rfl]; decide
          rw [List.length_map] at r1
          have hp7 := k7' _ _ np (upd_same (a := p) (o := .lst ([] ++ keptW.map V.str)))
          rw [List.nil_append] at hp7
          obtain ⟨old, sgo, hat⟩ := old_at (L := keptW) kept_sg r0 (by omega)
          refine ⟨p, _, r, .str old, rfl, rfl, SqL.of hp7, hat, ?_⟩
          have k7 := (Kp.of_same (as := [w, l]) s6).trans k7'
          have t7 := (Tk.same s6).trans t7'
          refine ⟨_, rfl, _, rfl, old, rfl, Nat.le_trans sgo.1 (by decide), _, _, rfl, rfl, w, l, m + 16, (old.length : Int) + 1, rfl, hW7, by omega, by have := sgo.1; omega, fun at_ H8 a0 a1 hW8 k8 t8 => ?_⟩
          refine ⟨_, rfl, _, rfl, _, rfl, old, rfl, Nat.le_trans sgo.1 (by decide), ?_⟩
          refine ⟨_, rfl, _, rfl, w, l, m + 15, 36, rfl, hW8, by decide, by decide, fun r9 H9 r90 r91 hW9 k9 t9 => ?_⟩
          obtain ⟨c, hc, hcw⟩ := sgn_at r90 r91
          refine ⟨signS9, r9, c, rfl, rfl, by decide +kernel, hc, (by show 2 ≤ sizeLine; decide), fun q hq => ?_⟩
          have sq := same_new hq (.lst [.str "", .str ⟨#[c]⟩])
          have hWq := hW9.same sq
          have nq := hW9.out hq
          have hq1 : upd H9 q (.lst [.str "", .str ⟨#[c]⟩]) q = some (.lst [.str "", .str ⟨#[c]⟩]) := upd_same
          have kq := (k7.trans (k8.trans k9)).trans (Kp.of_same sq)
          have tq := (t7.trans (t8.trans t9)).trans (Tk.same sq)
          show (fun H5 => _) (upd H9 q (.lst [.str "", .str ⟨#[c]⟩]))
          generalize upd H9 q (.lst [.str "", .str ⟨#[c]⟩]) = Hq at hWq hq1 kq tq
          refine ⟨_, rfl, w, l, m + 14, 2, rfl, hWq, by decide, by decide, fun r3 Hr r30 r31 hWr kr tr => ?_⟩
          obtain ⟨e, se, hat3⟩ : ∃ e : Str, Sg 1 e ∧ atI [V.str "", V.str ⟨#[c]⟩] r3 = some (.str e) := by
            rcases (show r3 = 0 ∨ r3 = 1 by omega) with rfl | rfl
            · exact ⟨"", Sg.nil.le (by decide), rfl⟩
            · exact ⟨⟨#[c]⟩, Sg.one hcw, rfl⟩
          refine ⟨q, _, r3, .str e, rfl, rfl, SqL.of (kr _ _ nq hq1), hat3, ?_⟩
          have s1 := (sgo.cut none (some at_)).app se
          refine ⟨_, _, rfl, rfl, Nat.le_trans (show _ ≤ 11 from Nat.add_le_add (sgo.cut none (some at_)).1 se.1) (by decide), ?_⟩
          refine ⟨_, rfl, _, rfl, _, rfl, w, l, m + 13, 2, rfl, hWr, by decide, by decide, fun r4 Hs r40 r41 hWs ks ts => ?_⟩
          refine ⟨_, _, rfl, rfl, _, rfl, old, rfl, Nat.le_trans sgo.1 (by decide), ?_⟩
          have s2 := s1.app (sgo.cut (some (at_ + r4)) none)
          refine ⟨_, _, rfl, rfl, Nat.le_trans (show _ ≤ 21 from Nat.add_le_add s1.1 (sgo.cut (some (at_ + r4)) none).1) (by decide), ?_⟩
          refine ⟨_, rfl, _, rfl, Nat.le_trans s2.1 (by decide), ?_⟩
          exact ⟨_, _, _, _, rfl, s2.ten, (kq.trans (kr.trans ks)) _ _ nwd hwd5, hWs, k5.trans (kq.trans (kr.trans ks)), t5.trans (tq.trans (tr.trans ts))⟩
      · rw [decide_eq_false c1]
        exact iteF ⟨_, b7, b8, b9, rfl, sg5, hwd5, hW5.le (by omega), k5, t5⟩
    rintro _ H6 ⟨fd, b7, b8, b9, rfl, sg6, hwd6, hW6, k6, t6⟩
    have hT6 := k6 _ _ htn ht
    refine ⟨fun σ' H' => ∃ (fd : Str) (b7 b8 b9 : Option V), σ' = [some (.ref w), some (.ref t), some (.str smallL), some (.str signS9), some (.int way), some (.ref wd), some (.str fd), b7, b8, b9] ∧ nameB fd = true ∧ fd ∉ T ∧ Wl H' w l (m + 13) ∧ Kp [w, l] H H' ∧ Tk H H', ?_, ?_⟩
    · refine ⟨_, rfl, rfl, _, rfl, ?_⟩
      rw [dec_str]
      by_cases g1 : fd = ""
      · rw [decide_eq_true g1]
        refine iteT (iteT ?_)
        refine ⟨400, rfl, by decide, by decide, fun D hD => ?_⟩
        have hDn : H D = none := k6.none (hW6.out hD) hD
        have nDt : t ≠ D := fun z => by rw [← z, hT6] at hD; cases hD
        refine lc_range (fun j H' => ∃ ys : List Str, H' D = some (.lst (ys.map V.str)) ∧ (∀ y ∈ ys, nameB y = true ∧ y ∉ T) ∧ ((∃ k < j, nth9 k ∉ T) → ys ≠ []) ∧ ys.length ≤ j ∧ H' t = some (.lst (T.map V.str)) ∧ Wl H' w l (m + 13) ∧ Kp [w, l] H H' ∧ Tk H H') ⟨[], upd_same, fun y hy => (List.not_mem_nil hy).elim, fun ⟨k, hk, _⟩ => absurd hk (Nat.not_lt_zero _), Nat.le_refl _, by rw [upd_ne nDt]; exact hT6, hW6.upd (hW6.out hD), kp_new k6 hDn, t6.trans (Tk.same (same_new hD _))⟩ ?_ ?_
        · rintro j H7 hj ⟨ys, hD7, hys, hne, hyl, hT7, hW7, k7, t7⟩
          have hj : j < 400 := hj
          have e0 : (0 : Int) + (j : Int) = (j : Int) := Int.zero_add _
          rw [e0]
          refine ⟨rfl, ?_⟩
          have lg : ((j : Nat) : Int).natAbs.log2 < 1920 := by
            show Nat.log2 j < 1920
            exact Nat.lt_of_le_of_lt (Nat.log2_le_self j) (by omega)
          refine ⟨_, rfl, _, rfl, lg, _, _, rfl, rfl, Nat.le_trans (nth_len j hj) (by decide), _, rfl, t, _, rfl, .inl (SqL.of hT7), rfl, flat_strs T, _, rfl, ?_⟩
          have en : ((Str.ofString "n") ++ (toString ((j : Nat) : Int) : Str)) = nth9 j := rfl
          rw [inV_strs]
          by_cases cj : nth9 j ∈ T
          · rw [show decide ((Str.ofString "n") ++ (toString ((j : Nat) : Int) : Str) ∈ T) = true from decide_eq_true cj]
            refine iteF ⟨ys, hD7, hys, fun ⟨k, hk, hkT⟩ => ?_, by omega, hT7, hW7, k7, t7⟩
            refine hne ⟨k, ?_, hkT⟩
            rcases Nat.lt_or_ge k j with h | h
            · exact h
            · exact absurd (by rw [show k = j by omega]; exact cj) hkT
          · rw [show decide ((Str.ofString "n") ++ (toString ((j : Nat) : Int) : Str) ∈ T) = false from decide_eq_false cj]
            refine iteT ⟨_, rfl, _, rfl, lg, _, _, rfl, rfl, Nat.le_trans (nth_len j hj) (by decide), ?_⟩
            refine ⟨_, hD7, Nat.lt_of_le_of_lt (show _ ≤ 400 by rw [List.length_map]; omega) (by decide), ys ++ [nth9 j], by rw [List.map_append]; exact upd_same, fun y hy => ?_, fun _ => by simp, by rw [List.length_append]; simp; omega, by rw [upd_ne nDt]; exact hT7, hW7.upd (hW6.out hD), kp_new k7 hDn, t7.trans (Tk.put hD7 _)⟩
            rcases List.mem_append.mp hy with h | h
            · exact hys y h
            · cases List.mem_singleton.mp h
              exact ⟨nth_ok j hj, cj⟩
        · rintro H7 ⟨ys, hD7, hys, hne, hyl, hT7, hW7, k7, t7⟩
          obtain ⟨k, hk, hkT⟩ := some_free hT
          cases ys with
          | nil => exact absurd rfl (hne ⟨k, Nat.lt_of_lt_of_le hk (by decide), hkT⟩)
          | cons y0 r =>
            obtain ⟨n0, nT⟩ := hys y0 (by simp)
            exact ⟨D, _, 0, .str y0, rfl, rfl, SqL.of hD7, at0 _ _, y0, _, _, _, rfl, n0, nT, hW7, k7, t7⟩
      rw [decide_eq_false g1]
      refine iteF ?_
      obtain ⟨c, cr, hcr⟩ : ∃ c cr, fd.cps.toList = c :: cr := by
        cases e : fd.cps.toList with
        | nil =>
          exact absurd (by
            cases fd with
            | mk cps =>
              have : cps = #[] := Array.toList_inj.mp e
              rw [this]
              rfl) g1
        | cons c cr => exact ⟨c, cr, rfl⟩
      refine ⟨_, rfl, fd, 0, c, rfl, rfl, Nat.le_trans sg6.1 (by decide), by rw [hcr]; exact at0 _ _, _, rfl, c, smallL, rfl, rfl, _, rfl, ?_⟩
      by_cases g2 : c ∈ smallL.cps.toList
      · rw [decide_eq_true g2]
        refine iteF ?_
        refine ⟨_, rfl, _, rfl, wd, _, rfl, .inl (SqL.of hwd6), rfl, flat_strs keptW, _, rfl, ?_⟩
        rw [inV_strs]
        by_cases g3 : fd ∈ keptW
        · rw [show decide (fd ∈ keptW) = true from decide_eq_true g3]
          refine iteT (iteT ?_)
          refine ⟨400, rfl, by decide, by decide, fun D hD => ?_⟩
          have hDn : H D = none := k6.none (hW6.out hD) hD
          have nDt : t ≠ D := fun z => by rw [← z, hT6] at hD; cases hD
          refine lc_range (fun j H' => ∃ ys : List Str, H' D = some (.lst (ys.map V.str)) ∧ (∀ y ∈ ys, nameB y = true ∧ y ∉ T) ∧ ((∃ k < j, nth9 k ∉ T) → ys ≠ []) ∧ ys.length ≤ j ∧ H' t = some (.lst (T.map V.str)) ∧ Wl H' w l (m + 13) ∧ Kp [w, l] H H' ∧ Tk H H') ⟨[], upd_same, fun y hy => (List.not_mem_nil hy).elim, fun ⟨k, hk, _⟩ => absurd hk (Nat.not_lt_zero _), Nat.le_refl _, by rw [upd_ne nDt]; exact hT6, hW6.upd (hW6.out hD), kp_new k6 hDn, t6.trans (Tk.same (same_new hD _))⟩ ?_ ?_
          · rintro j H7 hj ⟨ys, hD7, hys, hne, hyl, hT7, hW7, k7, t7⟩
            have hj : j < 400 := hj
            have e0 : (0 : Int) + (j : Int) = (j : Int) := Int.zero_add _
            rw [e0]
            refine ⟨rfl, ?_⟩
            have lg : ((j : Nat) : Int).natAbs.log2 < 1920 := by
              show Nat.log2 j < 1920
              exact Nat.lt_of_le_of_lt (Nat.log2_le_self j) (by omega)
            refine ⟨_, rfl, _, rfl, lg, _, _, rfl, rfl, Nat.le_trans (nth_len j hj) (by decide), _, rfl, t, _, rfl, .inl (SqL.of hT7), rfl, flat_strs T, _, rfl, ?_⟩
            have en : ((Str.ofString "n") ++ (toString ((j : Nat) : Int) : Str)) = nth9 j := rfl
            rw [inV_strs]
            by_cases cj : nth9 j ∈ T
            · rw [show decide ((Str.ofString "n") ++ (toString ((j : Nat) : Int) : Str) ∈ T) = true from decide_eq_true cj]
              refine iteF ⟨ys, hD7, hys, fun ⟨k, hk, hkT⟩ => ?_, by omega, hT7, hW7, k7, t7⟩
              refine hne ⟨k, ?_, hkT⟩
              rcases Nat.lt_or_ge k j with h | h
              · exact h
              · exact absurd (by rw [show k = j by omega]; exact cj) hkT
            · rw [show decide ((Str.ofString "n") ++ (toString ((j : Nat) : Int) : Str) ∈ T) = false from decide_eq_false cj]
              refine iteT ⟨_, rfl, _, rfl, lg, _, _, rfl, rfl, Nat.le_trans (nth_len j hj) (by decide), ?_⟩
              refine ⟨_, hD7, Nat.lt_of_le_of_lt (show _ ≤ 400 by rw [List.length_map]; omega) (by decide), ys ++ [nth9 j], by rw [List.map_append]; exact upd_same, fun y hy => ?_, fun _ => by simp, by rw [List.length_append]; simp; omega, by rw [upd_ne nDt]; exact hT7, hW7.upd (hW6.out hD), kp_new k7 hDn, t7.trans (Tk.put hD7 _)⟩
              rcases List.mem_append.mp hy with h | h
              · exact hys y h
              · cases List.mem_singleton.mp h
                exact ⟨nth_ok j hj, cj⟩
          · rintro H7 ⟨ys, hD7, hys, hne, hyl, hT7, hW7, k7, t7⟩
            obtain ⟨k, hk, hkT⟩ := some_free hT
            cases ys with
            | nil => exact absurd rfl (hne ⟨k, Nat.lt_of_lt_of_le hk (by decide), hkT⟩)
            | cons y0 r =>
              obtain ⟨n0, nT⟩ := hys y0 (by simp)
              exact ⟨D, _, 0, .str y0, rfl, rfl, SqL.of hD7, at0 _ _, y0, _, _, _, rfl, n0, nT, hW7, k7, t7⟩
        · rw [show decide (fd ∈ keptW) = false from decide_eq_false g3]
          refine iteF ?_
          refine ⟨_, rfl, _, rfl, t, _, rfl, .inl (SqL.of hT6), rfl, flat_strs T, _, rfl, ?_⟩
          rw [inV_strs]
          by_cases g4 : fd ∈ T
          · rw [show decide (fd ∈ T) = true from decide_eq_true g4]
            refine iteT ?_
            refine ⟨400, rfl, by decide, by decide, fun D hD => ?_⟩
            have hDn : H D = none := k6.none (hW6.out hD) hD
            have nDt : t ≠ D := fun z => by rw [← z, hT6] at hD; cases hD
            refine lc_range (fun j H' => ∃ ys : List Str, H' D = some (.lst (ys.map V.str)) ∧ (∀ y ∈ ys, nameB y = true ∧ y ∉ T) ∧ ((∃ k < j, nth9 k ∉ T) → ys ≠ []) ∧ ys.length ≤ j ∧ H' t = some (.lst (T.map V.str)) ∧ Wl H' w l (m + 13) ∧ Kp [w, l] H H' ∧ Tk H H') ⟨[], upd_same, fun y hy => (List.not_mem_nil hy).elim, fun ⟨k, hk, _⟩ => absurd hk (Nat.not_lt_zero _), Nat.le_refl _, by rw [upd_ne nDt]; exact hT6, hW6.upd (hW6.out hD), kp_new k6 hDn, t6.trans (Tk.same (same_new hD _))⟩ ?_ ?_
            · rintro j H7 hj ⟨ys, hD7, hys, hne, hyl, hT7, hW7, k7, t7⟩
              have hj : j < 400 := hj
              have e0 : (0 : Int) + (j : Int) = (j : Int) := Int.zero_add _
              rw [e0]
              refine ⟨rfl, ?_⟩
              have lg : ((j : Nat) : Int).natAbs.log2 < 1920 := by
                show Nat.log2 j < 1920
                exact Nat.lt_of_le_of_lt (Nat.log2_le_self j) (by omega)
              refine ⟨_, rfl, _, rfl, lg, _, _, rfl, rfl, Nat.le_trans (nth_len j hj) (by decide), _, rfl, t, _, rfl, .inl (SqL.of hT7), rfl, flat_strs T, _, rfl, ?_⟩
              have en : ((Str.ofString "n") ++ (toString ((j : Nat) : Int) : Str)) = nth9 j := rfl
              rw [inV_strs]
              by_cases cj : nth9 j ∈ T
              · rw [show decide ((Str.ofString "n") ++ (toString ((j : Nat) : Int) : Str) ∈ T) = true from decide_eq_true cj]
                refine iteF ⟨ys, hD7, hys, fun ⟨k, hk, hkT⟩ => ?_, by omega, hT7, hW7, k7, t7⟩
                refine hne ⟨k, ?_, hkT⟩
                rcases Nat.lt_or_ge k j with h | h
                · exact h
                · exact absurd (by rw [show k = j by omega]; exact cj) hkT
              · rw [show decide ((Str.ofString "n") ++ (toString ((j : Nat) : Int) : Str) ∈ T) = false from decide_eq_false cj]
                refine iteT ⟨_, rfl, _, rfl, lg, _, _, rfl, rfl, Nat.le_trans (nth_len j hj) (by decide), ?_⟩
                refine ⟨_, hD7, Nat.lt_of_le_of_lt (show _ ≤ 400 by rw [List.length_map]; omega) (by decide), ys ++ [nth9 j], by rw [List.map_append]; exact upd_same, fun y hy => ?_, fun _ => by simp, by rw [List.length_append]; simp; omega, by rw [upd_ne nDt]; exact hT7, hW7.upd (hW6.out hD), kp_new k7 hDn, t7.trans (Tk.put hD7 _)⟩
                rcases List.mem_append.mp hy with h | h
                · exact hys y h
                · cases List.mem_singleton.mp h
                  exact ⟨nth_ok j hj, cj⟩
            · rintro H7 ⟨ys, hD7, hys, hne, hyl, hT7, hW7, k7, t7⟩
              obtain ⟨k, hk, hkT⟩ := some_free hT
              cases ys with
              | nil => exact absurd rfl (hne ⟨k, Nat.lt_of_lt_of_le hk (by decide), hkT⟩)
              | cons y0 r =>
                obtain ⟨n0, nT⟩ := hys y0 (by simp)
                exact ⟨D, _, 0, .str y0, rfl, rfl, SqL.of hD7, at0 _ _, y0, _, _, _, rfl, n0, nT, hW7, k7, t7⟩
          · rw [show decide (fd ∈ T) = false from decide_eq_false g4]
            exact iteF ⟨fd, b7, b8, b9, rfl, name_by sg6 hcr g2 g3, g4, hW6, k6, t6⟩
      · rw [decide_eq_false g2]
        refine iteT (iteT ?_)
        refine ⟨400, rfl, by decide, by decide, fun D hD => ?_⟩
        have hDn : H D = none := k6.none (hW6.out hD) hD
        have nDt : t ≠ D := fun z => by rw [← z, hT6] at hD; cases hD
        refine lc_range (fun j H' => ∃ ys : List Str, H' D = some (.lst (ys.map V.str)) ∧ (∀ y ∈ ys, nameB y = true ∧ y ∉ T) ∧ ((∃ k < j, nth9 k ∉ T) → ys ≠ []) ∧ ys.length ≤ j ∧ H' t = some (.lst (T.map V.str)) ∧ Wl H' w l (m + 13) ∧ Kp [w, l] H H' ∧ Tk H H') ⟨[], upd_same, fun y hy => (List.not_mem_nil hy).elim, fun ⟨k, hk, _⟩ => absurd hk (Nat.not_lt_zero _), Nat.le_refl _, by rw [upd_ne nDt]; exact hT6, hW6.upd (hW6.out hD), kp_new k6 hDn, t6.trans (Tk.same (same_new hD _))⟩ ?_ ?_
        · rintro j H7 hj ⟨ys, hD7, hys, hne, hyl, hT7, hW7, k7, t7⟩
          have hj : j < 400 := hj
          have e0 : (0 : Int) + (j : Int) = (j : Int) := Int.zero_add _
          rw [e0]
          refine ⟨rfl, ?_⟩
          have lg : ((j : Nat) : Int).natAbs.log2 < 1920 := by
            show Nat.log2 j < 1920
            exact Nat.lt_of_le_of_lt (Nat.log2_le_self j) (by omega)
          refine ⟨_, rfl, _, rfl, lg, _, _, rfl, rfl, Nat.le_trans (nth_len j hj) (by decide), _, rfl, t, _, rfl, .inl (SqL.of hT7), rfl, flat_strs T, _, rfl, ?_⟩
          have en : ((Str.ofString "n") ++ (toString ((j : Nat) : Int) : Str)) = nth9 j := rfl
          rw [inV_strs]
          by_cases cj : nth9 j ∈ T
          · rw [show decide ((Str.ofString "n") ++ (toString ((j : Nat) : Int) : Str) ∈ T) = true from decide_eq_true cj]
            refine iteF ⟨ys, hD7, hys, fun ⟨k, hk, hkT⟩ => ?_, by omega, hT7, hW7, k7, t7⟩
            refine hne ⟨k, ?_, hkT⟩
            rcases Nat.lt_or_ge k j with h | h
            · exact h
            · exact absurd (by rw [show k = j by omega]; exact cj) hkT
          · rw [show decide ((Str.ofString "n") ++ (toString ((j : Nat) : Int) : Str) ∈ T) = false from decide_eq_false cj]
            refine iteT ⟨_, rfl, _, rfl, lg, _, _, rfl, rfl, Nat.le_trans (nth_len j hj) (by decide), ?_⟩
            refine ⟨_, hD7, Nat.lt_of_le_of_lt (show _ ≤ 400 by rw [List.length_map]; omega) (by decide), ys ++ [nth9 j], by rw [List.map_append]; exact upd_same, fun y hy => ?_, fun _ => by simp, by rw [List.length_append]; simp; omega, by rw [upd_ne nDt]; exact hT7, hW7.upd (hW6.out hD), kp_new k7 hDn, t7.trans (Tk.put hD7 _)⟩
            rcases List.mem_append.mp hy with h | h
            · exact hys y h
            · cases List.mem_singleton.mp h
              exact ⟨nth_ok j hj, cj⟩
        · rintro H7 ⟨ys, hD7, hys, hne, hyl, hT7, hW7, k7, t7⟩
          obtain ⟨k, hk, hkT⟩ := some_free hT
          cases ys with
          | nil => exact absurd rfl (hne ⟨k, Nat.lt_of_lt_of_le hk (by decide), hkT⟩)
          | cons y0 r =>
            obtain ⟨n0, nT⟩ := hys y0 (by simp)
            exact ⟨D, _, 0, .str y0, rfl, rfl, SqL.of hD7, at0 _ _, y0, _, _, _, rfl, n0, nT, hW7, k7, t7⟩
    rintro _ H7 ⟨fd, b7, b8, b9, rfl, n7, nT7, hW7, k7, t7⟩
    exact ⟨_, rfl, q _ _ n7 nT7 (hW7.le (by omega)) k7 t7⟩
end
end K04


set_option Elab.async false
set_option linter.all false
set_option maxRecDepth 100000
set_option maxHeartbeats 8000000
namespace K04
open PySem PySem.Spec PyProof.Rows L2
section
variable {P : Program} {w : World} {K : PySem.W.Frag} {mg : Str → Option Value} {base : Heap}
def spNames9 : Sp := fun vs H Q _ => ∃ (w l : Addr) (m many : Nat), vs = [.ref w, .int (many : Int)] ∧ Wl H w l (m + 30 * many) ∧ many ≤ 20 ∧ ∀ H' a L, TupO H' a (L.map V.str) → L.length = many → Nok L → L.Nodup → Wl H' w l m → Kp [w, l] H H' → Tk H H' → Q (.ref a) H'
theorem sc__law_names : FnScope ["well", "many", "found", "k"] ["well", "many"] (C8.fnScope (topS 36)) := C8.fnScope_by (by decide +kernel)
theorem ok__law_names {f : Addr} {fd : FuncData} (F : C8.Def K mg "_law_names" (topS 36) f fd) (b : Binds K fd ["well", "many"] []) (B : Bl K mg) (c_name : C8.Cal P w K mg base 2 "_law_name" spName9 []) : C8.Cal P w K mg base 3 "_law_names" spNames9 [] := by
  refine C8.cal0 F b .nil sc__law_names ?len ?body
  case len => rintro vs H Q E ⟨w, l, m, many, rfl, _⟩; rfl
  case body =>
    rintro cdv A outer s H vs Q E hr ⟨w, l, m, many, rfl, hW, hm, q⟩
    refine ⟨_, (pss_cons (ps_set (i := 2) sc__law_names.nd rfl (Or.inl rfl) (pe_lst pa_nil))
    (pss_cons (ps_for PassesOwn.never rfl (pi_range1 rfl B.range (pa_cons (pv 1) pa_nil)) (pg_name (i := 3) sc__law_names.nd rfl (Or.inl rfl))
    (pss_one (ps_expr (pe_bm PySem.F.plainAttrs_list PySem.F.slot_list_append PySem.F.type_list_append mt_append (pv 2) (pa_cons (C8.pe_c c_name hr (by decide) rfl (pa_cons (pv 0) (pa_cons (pv 2) pa_nil))) pa_nil)))))
    (pss_one (ps_ret (pe_callTy call_tupleZ rfl B.tuple (by decide +kernel) (pa_cons (pv 2) pa_nil)))))), ?_⟩
    refine ⟨(by show 0 ≤ sizeLine; decide), fun F hF => ?_⟩
    have nF := hW.out hF
    have s1 := same_new hF (.lst [])
    refine ⟨_, rfl, (many : Int), rfl, by omega, by omega, ?_⟩
    rw [Int.toNat_natCast]
    refine for_range (lo := 0) (n := many) (fun i σ H' => ∃ (L : List Str) (b3 : Option V), σ = [some (.ref w), some (.int (many : Int)), some (.ref F), b3] ∧ H' F = some (.lst (L.map V.str)) ∧ L.length = i ∧ Nok L ∧ L.Nodup ∧ Wl H' w l (m + 30 * (many - i)) ∧ Kp [w, l] H H' ∧ Tk H H') ⟨[], none, rfl, upd_same, rfl, fun x hx => (List.not_mem_nil hx).elim, List.nodup_nil, (hW.same s1).le (by omega), Kp.of_same s1, Tk.same s1⟩ ?_ ?_
    · rintro i _ H2 hi ⟨L, b3, rfl, hF2, hL, hLn, hLd, hW2, k2, t2⟩
      obtain ⟨b, hb⟩ : ∃ b, m + 30 * (many - i) = b + 30 ∧ m + 30 * (many - (i + 1)) = b := ⟨m + 30 * (many - (i + 1)), by omega, rfl⟩
      rw [hb.1] at hW2
      rw [hb.2]
      refine ⟨_, rfl, .inl ⟨rfl, _, SqL.of hF2⟩, ?_⟩
      refine ⟨_, rfl, _, rfl, w, l, F, b, L, rfl, hW2, hF2, nF, by omega, hLn, fun r H3 hr3 hrL hW3 k3 t3 => ?_⟩
      have hF3 := k3 _ _ nF hF2
      have hFn : H F = none := hF
      refine ⟨F, _, _, rfl, rfl, hF3, Nat.lt_of_le_of_lt (show _ ≤ 20 by rw [List.length_map]; omega) (by decide), ?_⟩
      refine ⟨L ++ [r], _, rfl, by rw [List.map_append]; exact upd_same, by rw [List.length_append, hL]; rfl, fun x hx => ?_, ?_, hW3.upd nF, kp_new (k2.trans k3) hFn, (t2.trans t3).trans (Tk.put hF3 _)⟩
      · rcases List.mem_append.mp hx with h | h
        · exact hLn x h
        · cases List.mem_singleton.mp h; exact hr3
      · rw [List.nodup_append]
        refine ⟨hLd, by simp, fun x hx y hy => ?_⟩
        cases List.mem_singleton.mp hy
        rintro rfl
        exact hrL hx
    · rintro σ H2 ⟨L, b3, rfl, hF2, hL, hLn, hLd, hW2, k2, t2⟩
      refine ⟨_, rfl, F, _, rfl, SqL.of hF2, fun lt ob hlt ho1 ho2 => ?_⟩
      have sl := same_new hlt (.frz ob (.tup (L.map V.str)))
      exact q _ lt L ⟨ob, upd_same, ho1, ho2⟩ hL hLn hLd ((hW2.same sl).le (by omega)) (k2.trans (Kp.of_same sl)) (t2.trans (Tk.same sl))
end
end K04


set_option Elab.async false
set_option linter.all false
set_option maxRecDepth 100000
set_option maxHeartbeats 8000000
namespace K04
open PySem PySem.Spec PyProof.Rows L2
def CS : Nat → Nat
  | 0 => 0
  | n + 1 => 12 + 24 * CS n
def CB (n : Nat) : Nat := 1 + 4 * CS n
theorem cs_succ (n : Nat) : CS (n + 1) = 6 + 6 * CB n := by unfold CB; rw [CS]; omega
/-- what the drawing of a program holds -/
structure Drw9 (K : PySem.W.Frag) (H : Hp) (w l R h la na : Addr) (L N : List Str) (m c : Nat) : Prop where
  wl : Wl H w l c
  room : H R = some (.lst [.int (m : Int)])
  hd : SqT K H h [.ref la, .ref na]
  hl : TupO H la (L.map V.str)
  hn : TupO H na (N.map V.str)
  n1 : R ∉ [w, l]
section
variable {K : PySem.W.Frag} {H H' : Hp} {w l R h la na : Addr} {L N : List Str} {m m' c c' : Nat}
theorem Drw9.same (d : Drw9 K H w l R h la na L N m c) (s : Same H H') : Drw9 K H' w l R h la na L N m c := ⟨d.wl.same s, s _ _ d.room, (Tk.same s).sqt d.hd, d.hl.tk (Tk.same s), d.hn.tk (Tk.same s), d.n1⟩
theorem Drw9.le (d : Drw9 K H w l R h la na L N m c) (e : c' ≤ c) : Drw9 K H w l R h la na L N m c' := ⟨d.wl.le e, d.room, d.hd, d.hl, d.hn, d.n1⟩
theorem Drw9.pick (d : Drw9 K H w l R h la na L N m c) (hc : Wl H' w l c') (k : Kp [w, l] H H') (t : Tk H H') : Drw9 K H' w l R h la na L N m c' :=
  ⟨hc, k _ _ d.n1 d.room, t.sqt d.hd, d.hl.tk t, d.hn.tk t, d.n1⟩
theorem Drw9.keep (d : Drw9 K H w l R h la na L N m c) (hc : Wl H' w l c') (hr : H' R = some (.lst [.int (m' : Int)])) (t : Tk H H') : Drw9 K H' w l R h la na L N m' c' :=
  ⟨hc, hr, t.sqt d.hd, d.hl.tk t, d.hn.tk t, d.n1⟩
theorem Drw9.put (d : Drw9 K H w l R h la na L N m c) (m' : Nat) : Drw9 K (upd H R (.lst [.int (m' : Int)])) w l R h la na L N m' c :=
  d.keep (d.wl.upd d.n1) upd_same (Tk.put d.room _)
end
theorem kp9 {w l R : Addr} {H H' : Hp} (k : Kp [w, l] H H') : Kp [w, l, R] H H' := k.mono fun a h => by
  rcases List.mem_cons.mp h with rfl | h
  · simp
  · cases List.mem_singleton.mp h; simp
theorem pick_str {L : List Str} {H : Hp} {r : Int} (h0 : 0 ≤ r) (h1 : r < L.length) : ∃ x, x ∈ L ∧ atI (L.map V.str) r = some (.str x) := by
  have hlt : r.toNat < L.length := by omega
  refine ⟨L[r.toNat], List.getElem_mem hlt, ?_⟩
  have := atI_nat (xs := L.map V.str) (j := r.toNat) (v := .str L[r.toNat]) (by rw [List.getElem?_map, List.getElem?_eq_getElem hlt]; rfl)
  rwa [show ((r.toNat : Nat) : Int) = r by omega] at this
theorem pick_int {L : List Int} {r : Int} (h0 : 0 ≤ r) (h1 : r < L.length) : ∃ x, x ∈ L ∧ atI (L.map V.int) r = some (.int x) := by
  have hlt : r.toNat < L.length := by omega
  refine ⟨L[r.toNat], List.getElem_mem hlt, ?_⟩
  have := atI_nat (xs := L.map V.int) (j := r.toNat) (v := .int L[r.toNat]) (by rw [List.getElem?_map, List.getElem?_eq_getElem hlt]; rfl)
  rwa [show ((r.toNat : Nat) : Int) = r by omega] at this
theorem ds_snoc (b : List St) (s : St) : ds (b ++ [s]) = ds b ++ [s.d] := by rw [ds_map, ds_map, List.map_append]; rfl
theorem ns_snoc (b : List St) (s : St) : ns (b ++ [s]) = ns b + s.n := by rw [ns_app]; simp [ns]
theorem ks_snoc (b : List St) (s : St) : ks (b ++ [s]) = max (ks b) s.k := by rw [ks_app]; simp [ks]
theorem inV_ints (r : Int) (L : List Int) : inV (.int r) (L.map V.int) = decide (r ∈ L) := by
  induction L with
  | nil => rfl
  | cons z l ih =>
    show (eqV (.int z) (.int r) || inV (.int r) (l.map V.int)) = _
    rw [ih]
    have e : eqV (.int z) (.int r) = decide (z = r) := by
      show (z == r) = _
      by_cases h : z = r
      · subst h; simp
      · rw [decide_eq_false h]; exact beq_eq_false_iff_ne.mpr h
    rw [e]
    by_cases h : r = z
    · subst h; simp
    · simp [h, Ne.symm h]
-- no body of more than m statements within, and no more than d statements with bodies around another
mutual
def St.wm (m : Nat) : Nat → St → Prop
  | d, .ch bs => 1 ≤ d ∧ wmbs m (d - 1) bs
  | d, .lp b => 1 ≤ d ∧ b.length ≤ m ∧ wms m (d - 1) b
  | d, .en b c => 1 ≤ d ∧ (b.length ≤ m ∧ wms m (d - 1) b) ∧ (c.length ≤ m ∧ wms m (d - 1) c)
  | _, .dd _ => True
  | _, .ud _ => True
  | _, .cl _ => True
  | _, .rt => True
def wms (m : Nat) : Nat → List St → Prop
  | _, [] => True
  | d, s :: r => s.wm m d ∧ wms m d r
def wmbs (m : Nat) : Nat → List (List St) → Prop
  | _, [] => True
  | d, b :: r => (b.length ≤ m ∧ wms m d b) ∧ wmbs m d r
end
theorem wms_iff {m d : Nat} : ∀ {b : List St}, wms m d b ↔ ∀ s ∈ b, s.wm m d
  | [] => by simp [wms]
  | s :: r => by rw [wms, wms_iff (b := r)]; simp
theorem wmbs_iff {m d : Nat} : ∀ {b : List (List St)}, wmbs m d b ↔ ∀ s ∈ b, s.length ≤ m ∧ wms m d s
  | [] => by simp [wmbs]
  | s :: r => by rw [wmbs, wmbs_iff (b := r)]; simp
mutual
theorem wm_le {m k : Nat} (h : m ≤ k) : ∀ (s : St) {d e : Nat}, d ≤ e → s.wm m d → s.wm k e
  | .dd _, _, _, _, _ | .ud _, _, _, _, _ | .cl _, _, _, _, _ | .rt, _, _, _, _ => trivial
  | .ch bs, d, e, g, q => ⟨Nat.le_trans q.1 g, wmbs_le h bs (by omega) q.2⟩
  | .lp b, d, e, g, q => ⟨Nat.le_trans q.1 g, Nat.le_trans q.2.1 h, wms_le h b (by omega) q.2.2⟩
  | .en b c, d, e, g, q => ⟨Nat.le_trans q.1 g, ⟨Nat.le_trans q.2.1.1 h, wms_le h b (by omega) q.2.1.2⟩, Nat.le_trans q.2.2.1 h, wms_le h c (by omega) q.2.2.2⟩
theorem wms_le {m k : Nat} (h : m ≤ k) : ∀ (b : List St) {d e : Nat}, d ≤ e → wms m d b → wms k e b
  | [], _, _, _, _ => trivial
  | s :: r, _, _, g, q => ⟨wm_le h s g q.1, wms_le h r g q.2⟩
theorem wmbs_le {m k : Nat} (h : m ≤ k) : ∀ (b : List (List St)) {d e : Nat}, d ≤ e → wmbs m d b → wmbs k e b
  | [], _, _, _, _ => trivial
  | s :: r, _, _, g, q => ⟨⟨Nat.le_trans q.1.1 h, wms_le h s g q.1.2⟩, wmbs_le h r g q.2⟩
end
mutual
theorem wm_wd {m : Nat} (h : m ≤ 60) : ∀ (s : St) {d : Nat}, s.wm m d → s.wd
  | .dd _, _, _ | .ud _, _, _ | .cl _, _, _ | .rt, _, _ => by simp [St.wd]
  | .ch bs, _, q => by rw [St.wd]; exact wmbs_wd h bs q.2
  | .lp b, _, q => by rw [St.wd]; exact ⟨Nat.le_trans q.2.1 h, wms_wd h b q.2.2⟩
  | .en b c, _, q => by rw [St.wd]; exact ⟨⟨Nat.le_trans q.2.1.1 h, wms_wd h b q.2.1.2⟩, Nat.le_trans q.2.2.1 h, wms_wd h c q.2.2.2⟩
theorem wms_wd {m : Nat} (h : m ≤ 60) : ∀ (b : List St) {d : Nat}, wms m d b → wdl b
  | [], _, _ => trivial
  | s :: r, _, q => ⟨wm_wd h s q.1, wms_wd h r q.2⟩
theorem wmbs_wd {m : Nat} (h : m ≤ 60) : ∀ (b : List (List St)) {d : Nat}, wmbs m d b → wdbs b
  | [], _, _ => trivial
  | s :: r, _, q => ⟨⟨Nat.le_trans q.1.1 h, wms_wd h s q.1.2⟩, wmbs_wd h r q.2⟩
end
mutual
theorem wm_k {m : Nat} : ∀ (s : St) {d : Nat}, s.wm m d → s.k ≤ d + 1
  | .dd _, _, _ | .ud _, _, _ | .cl _, _, _ | .rt, _, _ => by simp [St.k]
  | .ch bs, _, q => by have := wmbs_k bs q.2; have := q.1; rw [St.k]; omega
  | .lp b, _, q => by have := wms_k b q.2.2; have := q.1; rw [St.k]; omega
  | .en b c, _, q => by have := wms_k b q.2.1.2; have := wms_k c q.2.2.2; have := q.1; rw [St.k]; omega
theorem wms_k {m : Nat} : ∀ (b : List St) {d : Nat}, wms m d b → ks b ≤ d + 1
  | [], _, _ => by simp [ks]
  | s :: r, _, q => by have := wm_k s q.1; have := wms_k r q.2; rw [ks]; omega
theorem wmbs_k {m : Nat} : ∀ (b : List (List St)) {d : Nat}, wmbs m d b → kss b ≤ d + 1
  | [], _, _ => by simp [kss]
  | s :: r, _, q => by have := wms_k s q.1.2; have := wmbs_k r q.2; rw [kss]; omega
end
section
variable {P : Program} {w : World} {K : PySem.W.Frag} {mg : Str → Option Value} {base : Heap}

def spDB9 (K : PySem.W.Frag) (n : Nat) : Sp := fun vs H Q _ => ∃ w l h la na R deep sec L N m c, vs = [.ref w, .int (deep : Nat), .ref h, .bl sec, .ref R] ∧ Drw9 K H w l R h la na L N m (c + CB n) ∧ m ≤ 200 ∧ deep < n ∧ 1 ≤ L.length ∧ L.length ≤ 20 ∧ 1 ≤ N.length ∧ N.length ≤ 20 ∧
  ∀ H' v b m', Dp K H' v (.tuple (ds b)) → oks L N sec b → ns b + m' = m → ks b ≤ deep + 1 → b.length ≤ 4 → wms 4 deep b → Wl H' w l c → H' R = some (.lst [.int ((m' : Nat) : Int)]) → Kp [w, l, R] H H' → Tk H H' → Q v H'
def spDS9 (K : PySem.W.Frag) (n : Nat) : Sp := fun vs H Q _ => ∃ w l h la na R deep sec L N m c, vs = [.ref w, .int (deep : Nat), .ref h, .bl sec, .ref R] ∧ Drw9 K H w l R h la na L N m (c + CS n) ∧ m ≤ 200 ∧ deep < n ∧ 1 ≤ L.length ∧ L.length ≤ 20 ∧ 1 ≤ N.length ∧ N.length ≤ 20 ∧
  ∀ H' v s m', Dp K H' v (St.d s) → s.ok L N sec → s.n + m' = m + 1 → s.k ≤ deep + 1 → s.wm 4 deep → Wl H' w l c → H' R = some (.lst [.int ((m' : Nat) : Int)]) → Kp [w, l, R] H H' → Tk H H' → Q v H'
theorem sc__law_body : FnScope ["well", "deep", "heads", "is_second", "room", "found", "turn"] ["well", "deep", "heads", "is_second", "room"] (C8.fnScope (topS 37)) := C8.fnScope_by (by decide +kernel)
theorem sc__law_statement : FnScope ["well", "deep", "heads", "is_second", "room", "way", "many", "k", "body"] ["well", "deep", "heads", "is_second", "room"] (C8.fnScope (topS 38)) := C8.fnScope_by (by decide +kernel)
theorem ok_db9 {n e : Nat} {f : Addr} {fd : FuncData} (F : C8.Def K mg "_law_body" (topS 37) f fd) (b : Binds K fd ["well", "deep", "heads", "is_second", "room"] []) (B : Bl K mg) (c_draw : C8.Cal P w K mg base 1 "_law_draw" spDraw []) (c_stmt : C8.Cal P w K mg base e "_law_statement" (spDS9 K n) []) (he : 1 ≤ e) : C8.Cal P w K mg base (e + 1) "_law_body" (spDB9 K n) [] := by
  refine C8.cal0 F b .nil sc__law_body ?len ?body
  case len => rintro vs H Q E ⟨w, l, h, la, na, R, deep, sec, L, N, m, c, rfl, _⟩; rfl
  case body =>
    rintro cdv A outer s H vs Q E hr ⟨w, l, h, la, na, R, deep, sec, L, N, m, c, rfl, hD, hm, hdn, hL1, hL2, hN1, hN2, q⟩
    refine ⟨_, (pss_cons (ps_set (i := 5) sc__law_body.nd rfl (Or.inl rfl) (pe_tup pa_nil))
    (pss_cons (ps_for PassesOwn.never rfl (pi_range1 rfl B.range (pa_cons (C8.pe_c c_draw hr (by omega) rfl (pa_cons (pv 0) (pa_cons pe_int pa_nil))) pa_nil)) (pg_name (i := 6) sc__law_body.nd rfl (Or.inl rfl))
    (pss_one (ps_if (pt_cmpR op_gt (pe_ix ix_list (pv 4) pe_int (fun _ _ => rfl)) pe_int (nomark _)) (pss_cons (ps_asg (pe_op op_sub (pe_ix ix_list (pv 4) pe_int (fun _ _ => rfl)) pe_int) (pg_sub (pv 4) pe_int set_list))
    (pss_one (ps_set (i := 5) sc__law_body.nd rfl (Or.inl rfl) (pe_op op_catA (pv 5) (pe_tup (pa_cons (C8.pe_c c_stmt hr (by omega) rfl (pa_cons (pv 0) (pa_cons (pv 1) (pa_cons (pv 2) (pa_cons (pv 3) (pa_cons (pv 4) pa_nil)))))) pa_nil)))))) pss_nil)))
    (pss_one (ps_ret (pv 5))))), ?_⟩
    refine ⟨(by show 0 ≤ sizeLine; decide), fun f0 hf0 => ?_⟩
    have s1 := same_new hf0 (.tup [])
    have D1 := hD.same s1
    have hf1 : upd H f0 (.tup []) f0 = some (.tup []) := upd_same
    generalize upd H f0 (.tup []) = H1 at s1 D1 hf1
    refine ⟨_, rfl, w, l, c + 4 * CS n, 5, rfl, D1.wl.le (by unfold CB; omega), by omega, by omega, fun r H2 r0 r1 hc2 k2 t2 => ?_⟩
    refine ⟨r, rfl, by omega, by omega, ?_⟩
    have D2 := D1.pick hc2 k2 t2
    have k02 : Kp [w, l, R] H H2 := (Kp.of_same s1).trans (kp9 k2)
    have t02 : Tk H H2 := (Tk.same s1).trans t2
    refine for_range (lo := 0) (n := r.toNat) (fun i σ H' => ∃ b6 v b m', σ = [some (.ref w), some (.int (deep : Nat)), some (.ref h), some (.bl sec), some (.ref R), some v, b6] ∧ Dp K H' v (.tuple (ds b)) ∧ oks L N sec b ∧ ns b + m' = m ∧ ks b ≤ deep + 1 ∧ (b.length ≤ i ∧ wms 4 deep b) ∧ Drw9 K H' w l R h la na L N m' (c + CS n * (4 - i)) ∧ Kp [w, l, R] H H' ∧ Tk H H') ?_ ?_ ?_
    · exact ⟨none, _, [], m, rfl, .tup (t2.sqt (SqT.of hf1)) .nil, trivial, by simp [ns], by simp [ks], ⟨Nat.le_refl _, trivial⟩, D2.le (by omega), k02, t02⟩
    · rintro i _ H3 hi ⟨b7, v, b, m', rfl, hb, ho, hn, hk, ⟨hbl, hwm⟩, D3, k3, t3⟩
      have hi4 : i < 4 := by omega
      have ec : CS n * (4 - i) = CS n * (4 - (i + 1)) + CS n := by
        rw [show 4 - i = (4 - (i + 1)) + 1 by omega]
        exact Nat.mul_succ _ _
      refine ⟨_, rfl, R, _, _, _, rfl, rfl, SqL.of D3.room, at0 _ _, _, _, rfl, rfl, _, rfl, ?_⟩
      by_cases c1 : (0 : Int) < (m' : Int)
      · rw [decide_eq_true c1]
        refine iteT ?_
        refine ⟨_, rfl, R, _, _, _, rfl, rfl, SqL.of D3.room, at0 _ _, _, _, rfl, rfl, _, rfl, R, _, _, 0, rfl, rfl, D3.room, rfl, ?_⟩
        have D4 := D3.put (m' - 1)
        have em : ((m' : Nat) : Int) - 1 = ((m' - 1 : Nat) : Int) := by omega
        have tP := Tk.put D3.room (.lst [.int ((m' - 1 : Nat) : Int)])
        have kP : Kp [w, l, R] H3 (upd H3 R (.lst [.int ((m' - 1 : Nat) : Int)])) := Kp.put _ (by simp)
        show (fun H4 => _) (upd H3 R (.lst [.int (((m' : Nat) : Int) - 1)]))
        rw [em]
        have hb4 := tP.dp (.tuple (ds b)) (tup_ds b) hb
        generalize upd H3 R (.lst [.int ((m' - 1 : Nat) : Int)]) = H4 at D4 tP kP hb4
        refine ⟨_, rfl, _, rfl, _, rfl, _, rfl, _, rfl, _, rfl, w, l, h, la, na, R, deep, sec, L, N, m' - 1, c + CS n * (4 - (i + 1)), rfl, D4.le (by omega), by omega, hdn, hL1, hL2, hN1, hN2, fun H5 x st m5 hw hso hsn hsk hsw hc5 hr5 k5 t5 => ?_⟩
        refine ⟨(by show 1 ≤ sizeLine; decide), fun y hy => ?_⟩
        have sy := same_new hy (.tup [x])
        have t45 : Tk H4 (upd H5 y (.tup [x])) := t5.trans (Tk.same sy)
        have hb5 := t45.dp (.tuple (ds b)) (tup_ds b) hb4
        have hw5 := (Tk.same sy).dp _ (tup_St st) hw
        obtain ⟨ba, bxs, rfl, hbs, hba, hbx⟩ := len_ok hb5
        rw [ds_len] at hbx
        have D5 := (D4.keep hc5 hr5 t5).same sy
        have hyT : SqT K (upd H5 y (.tup [x])) y [x] := SqT.of upd_same
        have k5y : Kp [w, l, R] H (upd H5 y (.tup [x])) := k3.trans (kP.trans (k5.trans (Kp.of_same sy)))
        have t5y : Tk H (upd H5 y (.tup [x])) := t3.trans (tP.trans t45)
        generalize upd H5 y (.tup [x]) = H6 at hbs hba hw5 D5 hyT k5y t5y
        have fin : oks L N sec (b ++ [st]) ∧ ns (b ++ [st]) + m5 = m ∧ ks (b ++ [st]) ≤ deep + 1 ∧ ((b ++ [st]).length ≤ i + 1 ∧ wms 4 deep (b ++ [st])) := by
          refine ⟨oks_iff.mpr fun x hx => ?_, by rw [ns_snoc]; omega, by rw [ks_snoc]; omega, by simp; omega, wms_iff.mpr fun x hx => (List.mem_append.mp hx).elim (wms_iff.mp hwm x) fun z => by cases List.mem_singleton.mp z; exact hsw⟩
          rcases List.mem_append.mp hx with h | h
          · exact oks_iff.mp ho x h
          · cases List.mem_singleton.mp h
            exact hso
        refine ⟨ba, y, bxs, [x], rfl, rfl, hbs, hyT, Nat.le_trans (show bxs.length + 1 ≤ 6 by omega) (by decide), fun z => ?_, fun _ z => (by cases z), fun _ _ p hp => ?_⟩
        · have : b = [] := by
            cases b with
            | nil => rfl
            | cons _ _ => rw [z] at hbx; simp at hbx
          subst this
          exact ⟨_, _, [st], m5, rfl, .tup hyT (.cons hw5 .nil), fin.1, fin.2.1, fin.2.2.1, fin.2.2.2, D5, k5y, t5y⟩
        · have sp := same_new hp (.tup (bxs ++ [x]))
          refine ⟨_, _, b ++ [st], m5, rfl, .tup (SqT.of upd_same) ?_, fin.1, fin.2.1, fin.2.2.1, fin.2.2.2, D5.same sp, k5y.trans (Kp.of_same sp), t5y.trans (Tk.same sp)⟩
          rw [ds_snoc]
          exact dps_ext (same_ext sp) _ (dps_app hba (.cons hw5 .nil))
      · rw [decide_eq_false c1]
        exact iteF ⟨_, _, b, m', rfl, hb, ho, hn, hk, ⟨by omega, hwm⟩, D3.le (by omega), k3, t3⟩
    · rintro σ H3 ⟨b7, v, b, m', rfl, hb, ho, hn, hk, ⟨hbl, hwm⟩, D3, k3, t3⟩
      exact ⟨_, rfl, q H3 v b m' hb ho hn hk (by omega) hwm (D3.wl.le (by omega)) D3.room k3 t3⟩
theorem tupo_sq {K : PySem.W.Frag} {H : Hp} {a : Addr} {ys : List V} (h : TupO H a ys) : SqT K H a ys := let ⟨o, h1, _⟩ := h; .inl (.inr ⟨o, h1⟩)
theorem ok_dst9 {n e : Nat} {f : Addr} {fd : FuncData} (F : C8.Def K mg "_law_statement" (topS 38) f fd) (b : Binds K fd ["well", "deep", "heads", "is_second", "room"] []) (B : Bl K mg) (c_draw : C8.Cal P w K mg base 1 "_law_draw" spDraw []) (c_body : C8.Cal P w K mg base e "_law_body" (spDB9 K n) []) (he : 1 ≤ e) : C8.Cal P w K mg base (e + 1) "_law_statement" (spDS9 K (n + 1)) [] := by
  refine C8.cal0 F b .nil sc__law_statement ?len ?body
  case len => rintro vs H Q E ⟨w, l, h, la, na, R, deep, sec, L, N, m, c, rfl, _⟩; rfl
  case body =>
    rintro cdv A outer s H vs Q E hr ⟨w, l, h, la, na, R, deep, sec, L, N, m, c, rfl, hD, hm, hdn, hL1, hL2, hN1, hN2, q⟩
    refine ⟨_, (C8.pss_cut (ps_set (i := 5) sc__law_statement.nd rfl (Or.inl rfl) (C8.pe_c c_draw hr (by omega) rfl (pa_cons (pv 0) (pa_cons (pe_ifExp (pt_cmpR op_gt (pv 1) pe_int (nomark _)) pe_int pe_int) pa_nil))))
    (pss_cons (ps_if (pt_cmpR op_eq (pv 5) pe_int (nomark _)) (pss_one (ps_ret (pe_tup (pa_cons pe_str (pa_cons (pe_ix ix_tup (pe_ix ix_tup (pv 2) pe_int (fun _ _ => rfl)) (C8.pe_c c_draw hr (by omega) rfl (pa_cons (pv 0) (pa_cons (pe_callB call_len_seq rfl B.len PySem.boot_len (pa_cons (pe_ix ix_tup (pv 2) pe_int (fun _ _ => rfl)) pa_nil)) pa_nil))) (fun _ _ => rfl)) pa_nil))))) pss_nil)
    (pss_cons (ps_if (PW.pt (pw_and (pt_cmpR op_eq (pv 5) pe_int (nomark _)) (pw_and1 (pt_not (pt_val (pv 3)))))) (pss_one (ps_ret (pe_tup (pa_cons pe_str pa_nil)))) pss_nil)
    (pss_cons (ps_if (pt_cmpR op_lt (pv 5) pe_int (nomark _)) (pss_one (ps_ret (pe_tup (pa_cons (pe_ix ix_list (pe_lst (pa_cons pe_str (pa_cons pe_str pa_nil))) (C8.pe_c c_draw hr (by omega) rfl (pa_cons (pv 0) (pa_cons pe_int pa_nil))) (fun _ _ => rfl)) (pa_cons (pe_ix ix_tup (pe_ix ix_tup (pv 2) pe_int (fun _ _ => rfl)) (C8.pe_c c_draw hr (by omega) rfl (pa_cons (pv 0) (pa_cons (pe_callB call_len_seq rfl B.len PySem.boot_len (pa_cons (pe_ix ix_tup (pv 2) pe_int (fun _ _ => rfl)) pa_nil)) pa_nil))) (fun _ _ => rfl)) pa_nil))))) pss_nil)
    (pss_cons (ps_if (pt_cmpR op_lt (pv 5) pe_int (nomark _)) (pss_cons (ps_set (i := 6) sc__law_statement.nd rfl (Or.inl rfl) (pe_ix ix_list (pe_lst (pa_cons pe_int (pa_cons pe_int (pa_cons pe_int (pa_cons pe_int pa_nil))))) (C8.pe_c c_draw hr (by omega) rfl (pa_cons (pv 0) (pa_cons pe_int pa_nil))) (fun _ _ => rfl)))
    (pss_one (ps_ret (pe_tup (pa_cons pe_str (pa_cons (pe_callTy call_tuple_of rfl B.tuple (by decide +kernel) (pa_cons (pe_lc (own := [("k", 7)]) (g := gName 7) (te := tCall (spDB9 K n) [] C8.E0 (tCons (tVar 0) (tCons (tOp (rI0 fun i j => .int (i - j)) (tVar 1) (tC (.int 1))) (tCons (tVar 2) (tCons (tVar 3) (tCons (tVar 4) tNil)))))) (by rfl) sc__law_statement.nd (pi_range1 rfl B.range (pa_cons (pv 6) pa_nil)) (blkOk_by (own := [("k", 7)]) (N := ["well", "deep", "heads", "is_second", "room", "way", "many", "k", "body"]) (sc := (C8.fnScope (topS 38))) (by decide +kernel)) (fun _ _ _ _ _ => pg_name (i := 7) sc__law_statement.nd rfl (Or.inl rfl)) (fun _ _ _ _ _ => pts_nil) (fun _ _ _ _ _ => by exact (C8.pe_c c_body hr (by omega) rfl (pa_cons (pv 0) (pa_cons (pe_op op_sub (pv 1) pe_int) (pa_cons (pv 2) (pa_cons (pv 3) (pa_cons (pv 4) pa_nil)))))))) pa_nil)) pa_nil)))))) pss_nil)
    (pss_cons (ps_if (pt_cmpR op_eq (pv 5) pe_int (nomark _)) (pss_one (ps_ret (pe_tup (pa_cons pe_str (pa_cons (C8.pe_c c_body hr (by omega) rfl (pa_cons (pv 0) (pa_cons (pe_op op_sub (pv 1) pe_int) (pa_cons (pv 2) (pa_cons (pv 3) (pa_cons (pv 4) pa_nil)))))) pa_nil))))) pss_nil)
    (pss_cons (ps_set (i := 8) sc__law_statement.nd rfl (Or.inl rfl) (C8.pe_c c_body hr (by omega) rfl (pa_cons (pv 0) (pa_cons (pe_op op_sub (pv 1) pe_int) (pa_cons (pv 2) (pa_cons (pv 3) (pa_cons (pv 4) pa_nil)))))))
    (pss_one (ps_ret (pe_tup (pa_cons pe_str (pa_cons (pv 8) (pa_cons (C8.pe_c c_body hr (by omega) rfl (pa_cons (pv 0) (pa_cons (pe_op op_sub (pv 1) pe_int) (pa_cons (pv 2) (pa_cons pe_bl (pa_cons (pv 4) pa_nil)))))) pa_nil))))))))))))), ?_⟩
    have cs := cs_succ n
    refine ⟨fun σ' H' => ∃ r : Int, σ' = [some (.ref w), some (.int (deep : Nat)), some (.ref h), some (.bl sec), some (.ref R), some (.int r), none, none, none] ∧ 0 ≤ r ∧ r < 11 ∧ (5 ≤ r → 0 < deep) ∧ Drw9 K H' w l R h la na L N m (c + 5 + 6 * CB n) ∧ Kp [w, l, R] H H' ∧ Tk H H', ?_, ?_⟩
    · refine ⟨_, rfl, _, rfl, _, _, rfl, rfl, _, rfl, ?_⟩
      by_cases c1 : (0 : Int) < (deep : Nat)
      · rw [decide_eq_true c1]
        refine iteT ⟨w, l, c + 5 + 6 * CB n, 11, rfl, hD.wl.le (by omega), by omega, by omega, fun r H1 r0 r1 hc1 k1 t1 => ?_⟩
        exact ⟨r, rfl, r0, r1, fun _ => by omega, hD.pick hc1 k1 t1, kp9 k1, t1⟩
      · rw [decide_eq_false c1]
        refine iteF ⟨w, l, c + 5 + 6 * CB n, 5, rfl, hD.wl.le (by omega), by omega, by omega, fun r H1 r0 r1 hc1 k1 t1 => ?_⟩
        exact ⟨r, rfl, r0, by omega, fun _ => by omega, hD.pick hc1 k1 t1, kp9 k1, t1⟩
    rintro _ H1 ⟨r, rfl, r0, r12, rd, D1, k1, t1⟩
    refine ⟨_, rfl, rfl, _, rfl, ?_⟩
    rw [dec_int]
    by_cases c3 : r = 3
    · rw [decide_eq_true c3]
      refine iteT ⟨_, rfl, h, _, _, _, rfl, rfl, D1.hd, at1 _ _ _, _, rfl, _, rfl, h, _, _, _, rfl, rfl, D1.hd, at1 _ _ _, na, _, rfl, .inr (tupo_sq D1.hn), w, l, c, _, rfl, D1.wl.le (by omega), by rw [List.length_map]; omega, by rw [List.length_map]; omega, fun r2 H2 r20 r21 hc2 k2 t2 => ?_⟩
      have D2 := D1.pick hc2 k2 t2
      rw [List.length_map] at r21
      obtain ⟨x, hx, hat⟩ := pick_str (L := N) (H := H2) r20 r21
      refine ⟨na, _, _, _, rfl, rfl, tupo_sq D2.hn, hat, (by show 2 ≤ sizeLine; decide), fun p hp => ?_⟩
      have sp := same_new hp (.tup [.str "call", .str x])
      exact q _ _ (.cl x) m (.tup (SqT.of upd_same) (.cons (.str _) (.cons (.str _) .nil))) hx (by simp [St.n]; omega) (by simp [St.k]) trivial (D2.same sp).wl (D2.same sp).room (k1.trans ((kp9 k2).trans (Kp.of_same sp))) (t1.trans (t2.trans (Tk.same sp)))
    rw [decide_eq_false c3]
    refine iteF ?_
    have ret : ∀ X : Prop, (sec = false → r = 4 → False) ∨ (sec = false ∧ r = 4) := fun _ => by
      by_cases h : sec = false ∧ r = 4
      · exact .inr h
      · exact .inl fun a b => h ⟨a, b⟩
    rcases ret True with c4 | ⟨c4, c4b⟩
    rotate_left
    · refine ⟨_, rfl, rfl, _, rfl, ?_⟩
      rw [dec_int, decide_eq_true c4b]
      refine iteT ⟨_, rfl, _, rfl, ?_⟩
      subst c4
      refine iteT ⟨(by show 1 ≤ sizeLine; decide), fun p hp => ?_⟩
      have sp := same_new hp (.tup [.str "return"])
      exact q _ _ .rt m (.tup (SqT.of upd_same) (.cons (.str _) .nil)) trivial (by simp [St.n]; omega) (by simp [St.k]) trivial ((D1.same sp).wl.le (by omega)) (D1.same sp).room (k1.trans (Kp.of_same sp)) (t1.trans (Tk.same sp))
    refine ⟨_, rfl, rfl, _, rfl, ?_⟩
    rw [dec_int]
    have go4 : ∀ {A B : Prop}, B → ((if decide (r = 4) = true then (∃ v, ([some (.ref w), some (.int (deep : Nat)), some (.ref h), some (.bl sec), some (.ref R), some (.int r), none, none, none] : L2.St)[3]? = some (some v) ∧ ∃ k, v = .bl k ∧ if (!k) = true then A else B) else B)) := fun {A B} b => by
      by_cases h : r = 4
      · rw [if_pos (by simpa using h)]
        refine ⟨_, rfl, _, rfl, ?_⟩
        cases sec with
        | true => exact iteF b
        | false => exact (c4 rfl h).elim
      · rw [if_neg (by simpa using h)]
        exact b
    refine go4 ?_
    refine ⟨_, rfl, _, _, rfl, rfl, _, rfl, ?_⟩
    by_cases c5 : r < 5
    · rw [decide_eq_true c5]
      refine iteT ?_
      refine ⟨(by show 2 ≤ sizeLine; decide), fun l5 hl5 => ?_⟩
      have s5 := same_new hl5 (.lst [.str "do", .str "undo"])
      have D5 := D1.same s5
      have hl6 : upd H1 l5 (.lst [.str "do", .str "undo"]) l5 = some (.lst ((["do", "undo"] : List Str).map V.str)) := upd_same
      have nl5 := D1.wl.out hl5
      refine ⟨_, rfl, w, l, c + 1, 2, rfl, D5.wl.le (by omega), by omega, by omega, fun r6 H6 r60 r61 hc6 k6 t6 => ?_⟩
      have D6 := D5.pick hc6 k6 t6
      obtain ⟨wd, hwd, hatw⟩ := pick_str (L := ["do", "undo"]) (H := H6) r60 r61
      refine ⟨l5, _, _, _, rfl, rfl, SqL.of (k6 _ _ nl5 hl6), hatw, ?_⟩
      refine ⟨_, rfl, h, _, _, _, rfl, rfl, D6.hd, at0 _ _, _, rfl, _, rfl, h, _, _, _, rfl, rfl, D6.hd, at0 _ _, la, _, rfl, .inr (tupo_sq D6.hl), w, l, c, _, rfl, D6.wl, by rw [List.length_map]; omega, by rw [List.length_map]; omega, fun r7 H7 r70 r71 hc7 k7 t7 => ?_⟩
      have D7 := D6.pick hc7 k7 t7
      rw [List.length_map] at r71
      obtain ⟨x, hx, hat⟩ := pick_str (L := L) (H := H7) r70 r71
      refine ⟨la, _, _, _, rfl, rfl, tupo_sq D7.hl, hat, (by show 2 ≤ sizeLine; decide), fun p hp => ?_⟩
      have sp := same_new hp (.tup [.str wd, .str x])
      have kk : Kp [w, l, R] H (upd H7 p (.tup [.str wd, .str x])) := k1.trans ((Kp.of_same s5).trans ((kp9 k6).trans ((kp9 k7).trans (Kp.of_same sp))))
      have tt : Tk H (upd H7 p (.tup [.str wd, .str x])) := t1.trans ((Tk.same s5).trans (t6.trans (t7.trans (Tk.same sp))))
      simp at hwd
      rcases hwd with rfl | rfl
      · exact q _ _ (.dd x) m (.tup (SqT.of upd_same) (.cons (.str _) (.cons (.str _) .nil))) hx (by simp [St.n]; omega) (by simp [St.k]) trivial (D7.same sp).wl (D7.same sp).room kk tt
      · exact q _ _ (.ud x) m (.tup (SqT.of upd_same) (.cons (.str _) (.cons (.str _) .nil))) hx (by simp [St.n]; omega) (by simp [St.k]) trivial (D7.same sp).wl (D7.same sp).room kk tt
    rw [decide_eq_false c5]
    refine iteF ?_
    have hd0 : 0 < deep := rd (by omega)
    refine ⟨_, rfl, _, _, rfl, rfl, _, rfl, ?_⟩
    by_cases c7 : r < 7
    · rw [decide_eq_true c7]
      refine iteT ?_
      refine ⟨(by show 4 ≤ sizeLine; decide), fun l3 hl3 => ?_⟩
      have s3 := same_new hl3 (.lst [.int 2, .int 2, .int 3, .int 6])
      have D3 := D1.same s3
      have hl4 : upd H1 l3 (.lst [.int 2, .int 2, .int 3, .int 6]) l3 = some (.lst (([2, 2, 3, 6] : List Int).map V.int)) := upd_same
      have nl3 := D1.wl.out hl3
      refine ⟨_, rfl, w, l, c + 6 * CB n, 4, rfl, D3.wl.le (by omega), by omega, by omega, fun r3 H4 r30 r31 hc4 k4 t4 => ?_⟩
      have D4 := D3.pick hc4 k4 t4
      obtain ⟨mm, hmm, hat⟩ := pick_int (L := [2, 2, 3, 6]) r30 r31
      have hmm2 : 2 ≤ mm ∧ mm ≤ 6 := by simp at hmm; omega
      have k04 : Kp [w, l, R] H H4 := k1.trans ((Kp.of_same s3).trans (kp9 k4))
      have t04 : Tk H H4 := t1.trans ((Tk.same s3).trans t4)
      refine ⟨l3, _, _, _, rfl, rfl, SqL.of (k4 _ _ nl3 hl4), hat, ?_⟩
      refine ⟨_, rfl, mm, rfl, by omega, by omega, fun Dd hDd => ?_⟩
      have nDw := D4.wl.out hDd
      have nDR : Dd ≠ R := fun z => by have := D4.room; rw [← z, hDd] at this; cases this
      have nD3 : Dd ∉ [w, l, R] := fun z => by
        rcases List.mem_cons.mp z with rfl | z
        · exact nDw (by simp)
        · rcases List.mem_cons.mp z with rfl | z
          · exact nDw (by simp)
          · exact nDR (List.mem_singleton.mp z)
      have hDH : H Dd = none := k04.none nD3 hDd
      refine lc_range (fun j H' => ∃ vs bs m', H' Dd = some (.lst vs) ∧ DpAll K H' vs (dss bs) ∧ okss L N sec bs ∧ nss bs + m' = m ∧ kss bs ≤ deep ∧ (bs.length = j ∧ wmbs 4 (deep - 1) bs) ∧ Drw9 K H' w l R h la na L N m' (c + CB n * (6 - j)) ∧ Kp [w, l, R] H H' ∧ Tk H H') ?_ ?_ ?_
      · refine ⟨[], [], m, upd_same, .nil, trivial, by simp [nss], by simp [kss], ⟨rfl, trivial⟩, (D4.same (same_new hDd _)).le (by omega), k04.trans (Kp.new _ hDd), t04.trans (Tk.new hDd _)⟩
      · rintro j H5 hj ⟨vs, bs, m', h51, h52, h53, h54, h55, ⟨h56, hwm⟩, D5, k5, t5⟩
        refine ⟨rfl, ?_⟩
        have hjm : j < mm.toNat := hj
        have ec : CB n * (6 - j) = CB n * (6 - (j + 1)) + CB n := by
          rw [show 6 - j = (6 - (j + 1)) + 1 by omega]
          exact Nat.mul_succ _ _
        refine ⟨_, rfl, _, rfl, _, _, rfl, rfl, _, rfl, _, rfl, _, rfl, w, l, h, la, na, R, deep - 1, sec, L, N, m', c + CB n * (6 - (j + 1)), (by rw [show (((deep - 1 : Nat)) : Int) = (deep : Int) - 1 by omega]; rfl), D5.le (by omega), by omega, by omega, hL1, hL2, hN1, hN2, fun H6 v b m6 hv hvo hvn hvk hvl hvw hc6 hr6 k6 t6 => ?_⟩
        have h61 := k6 _ _ nD3 h51
        have tD := Tk.put h61 (.lst (vs ++ [v]))
        have D6 := D5.keep hc6 hr6 t6
        have D7 : Drw9 K (upd H6 Dd (.lst (vs ++ [v]))) w l R h la na L N m6 (c + CB n * (6 - (j + 1))) := D6.keep (D6.wl.upd nDw) (by rw [upd_ne (Ne.symm nDR)]; exact D6.room) tD
        have hvl2 := dps_len h52
        rw [dss_len] at hvl2
        refine ⟨vs, h61, Nat.lt_of_le_of_lt (show vs.length ≤ 6 by omega) (by decide), vs ++ [v], bs ++ [b], m6, upd_same, ?_, ?_, ?_, ?_, ⟨by rw [List.length_append, h56]; rfl, wmbs_iff.mpr fun x hx => (List.mem_append.mp hx).elim (wmbs_iff.mp hwm x) fun z => by cases List.mem_singleton.mp z; exact ⟨hvl, hvw⟩⟩, D7, kp_new (k5.trans k6) hDH, t5.trans (t6.trans tD)⟩
        · rw [dss_snoc]
          exact dps_app (tD.dps _ (tup_dss bs) (t6.dps _ (tup_dss bs) h52)) (.cons (tD.dp (.tuple (ds b)) (tup_ds b) hv) .nil)
        · refine okss_iff.mpr fun x hx => (List.mem_append.mp hx).elim (okss_iff.mp h53 x) fun z => ?_
          cases List.mem_singleton.mp z
          exact hvo
        · rw [nss_app]; simp [nss]; omega
        · have e1 : ∀ (x y : List (List St)), kss (x ++ y) = max (kss x) (kss y) := fun x y => by
            induction x with
            | nil => simp [kss]
            | cons z l ih => rw [List.cons_append, kss, kss, ih]; omega
          rw [e1]
          simp [kss]
          omega
      · rintro H5 ⟨vs, bs, m', h51, h52, h53, h54, h55, ⟨h56, hwm⟩, D5, k5, t5⟩
        refine ⟨Dd, _, rfl, .inl ⟨SqL.of h51, fun z hz => ⟨(by show 2 ≤ sizeLine; decide), fun x hx => ?_⟩⟩⟩
        have nzw : z ≠ x := fun qq => by rw [← qq, upd_same] at hx; cases hx
        have sP := (same_new hz (.tup vs)).trans (same_new hx (.tup [.str "choose", .ref z]))
        refine q _ _ (.ch bs) m' (.tup (SqT.of upd_same) (.cons (.str _) (.cons (.tup (SqT.of (by rw [upd_ne nzw]; exact upd_same)) ((Tk.same sP).dps _ (tup_dss bs) h52)) .nil))) ⟨by omega, by omega, h53⟩ (by rw [St.n]; omega) (by rw [St.k]; omega) ⟨hd0, hwm⟩ ((D5.same sP).wl.le (by omega)) (D5.same sP).room (k5.trans (Kp.of_same sP)) (t5.trans (Tk.same sP))
    rw [decide_eq_false c7]
    refine iteF ?_
    refine ⟨_, rfl, rfl, _, rfl, ?_⟩
    rw [dec_int]
    by_cases c11 : r = 7
    · rw [decide_eq_true c11]
      refine iteT ?_
      refine ⟨_, rfl, _, rfl, _, _, rfl, rfl, _, rfl, _, rfl, _, rfl, w, l, h, la, na, R, deep - 1, sec, L, N, m, c, (by rw [show (((deep - 1 : Nat)) : Int) = (deep : Int) - 1 by omega]; rfl), D1.le (by omega), hm, by omega, hL1, hL2, hN1, hN2, fun H4 v b m4 hv hvo hvn hvk hvl hvw hc4 hr4 k4 t4 => ⟨(by show 2 ≤ sizeLine; decide), fun p hp => ?_⟩⟩
      have D4 := D1.keep hc4 hr4 t4
      have sp := same_new hp (.tup [.str "loop", v])
      exact q _ _ (.lp b) m4 (.tup (SqT.of upd_same) (.cons (.str _) (.cons ((Tk.same sp).dp (.tuple (ds b)) (tup_ds b) hv) .nil))) hvo (by rw [St.n]; omega) (by rw [St.k]; omega) ⟨hd0, hvl, hvw⟩ (D4.same sp).wl (D4.same sp).room (k1.trans (k4.trans (Kp.of_same sp))) (t1.trans (t4.trans (Tk.same sp)))
    rw [decide_eq_false c11]
    refine iteF ?_
    refine ⟨_, rfl, _, rfl, _, _, rfl, rfl, _, rfl, _, rfl, _, rfl, w, l, h, la, na, R, deep - 1, sec, L, N, m, c + CB n, (by rw [show (((deep - 1 : Nat)) : Int) = (deep : Int) - 1 by omega]; rfl), D1.le (by omega), hm, by omega, hL1, hL2, hN1, hN2, fun H4 v b m4 hv hvo hvn hvk hvl hvw hc4 hr4 k4 t4 => ?_⟩
    have D4 := D1.keep hc4 hr4 t4
    refine ⟨_, rfl, _, rfl, _, rfl, _, _, rfl, rfl, _, rfl, _, rfl, w, l, h, la, na, R, deep - 1, true, L, N, m4, c, (by rw [show (((deep - 1 : Nat)) : Int) = (deep : Int) - 1 by omega]; rfl), D4, by omega, by omega, hL1, hL2, hN1, hN2, fun H5 v5 b5 m5 hv5 hvo5 hvn5 hvk5 hvl5 hvw5 hc5 hr5 k5 t5 => ⟨(by show 3 ≤ sizeLine; decide), fun p hp => ?_⟩⟩
    have D5 := D4.keep hc5 hr5 t5
    have sp := same_new hp (.tup [.str "ensure", v, v5])
    exact q _ _ (.en b b5) m5 (.tup (SqT.of upd_same) (.cons (.str _) (.cons ((t5.trans (Tk.same sp)).dp (.tuple (ds b)) (tup_ds b) hv) (.cons ((Tk.same sp).dp (.tuple (ds b5)) (tup_ds b5) hv5) .nil)))) ⟨hvo, hvo5⟩ (by rw [St.n]; omega) (by rw [St.k]; omega) ⟨hd0, ⟨hvl, hvw⟩, hvl5, hvw5⟩ (D5.same sp).wl (D5.same sp).room (k1.trans (k4.trans (k5.trans (Kp.of_same sp)))) (t1.trans (t4.trans (t5.trans (Tk.same sp))))
end
end K04


set_option Elab.async false
set_option linter.all false
set_option maxRecDepth 100000
set_option maxHeartbeats 8000000
namespace K04
open PySem PySem.Spec PyProof.Rows L2
section
variable {P : Program} {w : World} {K : PySem.W.Frag} {mg : Str → Option Value} {base : Heap}
theorem drw9 {fb fs : Addr} {fdb fds : FuncData} (Fb : C8.Def K mg "_law_body" (topS 37) fb fdb) (bb : Binds K fdb ["well", "deep", "heads", "is_second", "room"] []) (Fs : C8.Def K mg "_law_statement" (topS 38) fs fds) (bs : Binds K fds ["well", "deep", "heads", "is_second", "room"] []) (B : Bl K mg) (c_draw : C8.Cal P w K mg base 1 "_law_draw" spDraw []) :
    ∀ n : Nat, C8.Cal P w K mg base (2 * n + 3) "_law_body" (spDB9 K n) []
  | 0 => by
    refine ok_db9 Fb bb B c_draw ?_ (by omega)
    refine C8.cal0 (k := 1) Fs bs .nil sc__law_statement ?len ?body
    case len => rintro vs H Q E ⟨_, _, _, _, _, _, _, _, _, _, _, _, _, _, _, h, _⟩; exact absurd h (Nat.not_lt_zero _)
    case body => rintro cdv A outer s H vs Q E hr ⟨_, _, _, _, _, _, _, _, _, _, _, _, _, _, _, h, _⟩; exact absurd h (Nat.not_lt_zero _)
  | n + 1 => by
    have := ok_db9 (n := n + 1) Fb bb B c_draw (ok_dst9 Fs bs B c_draw (drw9 Fb bb Fs bs B c_draw n) (by omega)) (by omega)
    rw [show 2 * (n + 1) + 3 = 2 * n + 3 + 1 + 1 by omega]
    exact this
/-- a plan, spoilt j times -/
structure Plan (L : List Str) (P : List (Str × List St)) (A B : List Str) (j : Nat) : Prop where
  l1 : 1 ≤ L.length
  l2 : L.length ≤ 20
  p1 : 1 ≤ P.length
  p2 : P.length ≤ 8
  okA : Nok A
  okB : Nok B
  inA : ∀ x ∈ L, x ∈ A
  inB : ∀ x ∈ P.map Prod.fst, x ∈ B
  ok : ∀ b ∈ nsP P, oks A B false b
  wm : ∀ b ∈ nsP P, b.length ≤ 4 + j ∧ wms (4 + j) (7 + 2 * j) b
  n : nss (nsP P) ≤ 190 + 4 * j
  lenA : A.length ≤ 20 + j
  lenB : B.length ≤ 8 + j
theorem kss_of {m : Nat} : ∀ {bl : List (List St)}, (∀ b ∈ bl, ks b ≤ m) → kss bl ≤ m
  | [], _ => by simp [kss]
  | z :: l, h => by
    have h1 := h z (by simp)
    have h2 := kss_of (bl := l) fun b hb => h b (by simp [hb])
    rw [kss]
    omega
theorem Plan.prog {L : List Str} {P : List (Str × List St)} {A B : List Str} {j : Nat} (h : Plan L P A B j) (hj : j ≤ 2) : Prog L P A B :=
  ⟨h.l1, h.l2, h.p1, h.p2, h.okA, h.okB, h.inA, h.inB, h.ok, wmbs_wd (m := 4 + j) (by omega) _ (wmbs_iff.mpr h.wm), Nat.le_trans (wmbs_k _ (wmbs_iff.mpr h.wm)) (by omega), by have := h.n; omega⟩
def CP : Nat := 1300 + 8 * (1 + CB 8)
def spPlan (K : PySem.W.Frag) : Sp := fun vs H Q _ => ∃ (w l : Addr) (c size : Nat), vs = [.ref w, .int (size : Int)] ∧ Wl H w l (c + CP) ∧ size ≤ 190 ∧ ∀ H' v L Ps, PD K H' v L Ps → Plan L Ps L (Ps.map Prod.fst) 0 → Wl H' w l c → Kp [w, l] H H' → Tk H H' → Q v H'
theorem sc__law_plan : FnScope ["well", "size", "letters", "names", "room", "heads", "procedures", "name"] ["well", "size"] (C8.fnScope (topS 39)) := C8.fnScope_by (by decide +kernel)
theorem ok__law_plan {f : Addr} {fd : FuncData} (F : C8.Def K mg "_law_plan" (topS 39) f fd) (b : Binds K fd ["well", "size"] []) (B : Bl K mg) (c_draw : C8.Cal P w K mg base 1 "_law_draw" spDraw []) (c_names : C8.Cal P w K mg base 3 "_law_names" spNames9 []) (c_body : C8.Cal P w K mg base 19 "_law_body" (spDB9 K 8) []) : C8.Cal P w K mg base 20 "_law_plan" (spPlan K) [] := by
  refine C8.cal0 F b .nil sc__law_plan ?len ?body
  case len => rintro vs H Q E ⟨w, l, c, size, rfl, _⟩; rfl
  case body =>
    rintro cdv A outer s H vs Q E hr ⟨w, l, c, size, rfl, hW, hsz, q⟩
    refine ⟨_, (pss_cons (ps_set (i := 2) sc__law_plan.nd rfl (Or.inl rfl) (C8.pe_c c_names hr (by decide) rfl (pa_cons (pv 0) (pa_cons (pe_op op_add pe_int (C8.pe_c c_draw hr (by decide) rfl (pa_cons (pv 0) (pa_cons (pe_ix ix_list (pe_lst (pa_cons pe_int (pa_cons pe_int (pa_cons pe_int pa_nil)))) (C8.pe_c c_draw hr (by decide) rfl (pa_cons (pv 0) (pa_cons pe_int pa_nil))) (fun _ _ => rfl)) pa_nil)))) pa_nil))))
    (pss_cons (ps_set (i := 3) sc__law_plan.nd rfl (Or.inl rfl) (C8.pe_c c_names hr (by decide) rfl (pa_cons (pv 0) (pa_cons (pe_op op_add pe_int (C8.pe_c c_draw hr (by decide) rfl (pa_cons (pv 0) (pa_cons (pe_ix ix_list (pe_lst (pa_cons pe_int (pa_cons pe_int (pa_cons pe_int pa_nil)))) (C8.pe_c c_draw hr (by decide) rfl (pa_cons (pv 0) (pa_cons pe_int pa_nil))) (fun _ _ => rfl)) pa_nil)))) pa_nil))))
    (pss_cons (ps_asg (pe_tup (pa_cons (pe_lst (pa_cons (pv 1) pa_nil)) (pa_cons (pe_tup (pa_cons (pv 2) (pa_cons (pv 3) pa_nil))) pa_nil))) (pg_tup rfl (pgs_cons (pg_name (i := 4) sc__law_plan.nd rfl (Or.inr rfl)) (pgs_cons (pg_name (i := 5) sc__law_plan.nd rfl (Or.inr rfl)) pgs_nil))))
    (pss_cons (ps_set (i := 6) sc__law_plan.nd rfl (Or.inl rfl) (pe_callTy call_tuple_of rfl B.tuple (by decide +kernel) (pa_cons (pe_lc (own := [("name", 7)]) (g := gName 7) (te := tTup (tCons (tVar 7) (tCons (tCall (spDB9 K 8) [] C8.E0 (tCons (tVar 0) (tCons (tOp (rIxL K) (tLst (tCons (tC (.int 2)) (tCons (tC (.int 4)) (tCons (tC (.int 7)) tNil)))) (tCall spDraw [] C8.E0 (tCons (tVar 0) (tCons (tC (.int 3)) tNil)))) (tCons (tVar 5) (tCons (tC (.bl false)) (tCons (tVar 4) tNil)))))) tNil))) (by rfl) sc__law_plan.nd (pi_tup (pv 3)) (blkOk_by (own := [("name", 7)]) (N := ["well", "size", "letters", "names", "room", "heads", "procedures", "name"]) (sc := (C8.fnScope (topS 39))) (by decide +kernel)) (fun _ _ _ _ _ => pg_name (i := 7) sc__law_plan.nd rfl (Or.inl rfl)) (fun _ _ _ _ _ => pts_nil) (fun _ _ _ _ _ => by exact (pe_tup (pa_cons (pv 7) (pa_cons (C8.pe_c c_body hr (by decide) rfl (pa_cons (pv 0) (pa_cons (pe_ix ix_list (pe_lst (pa_cons pe_int (pa_cons pe_int (pa_cons pe_int pa_nil)))) (C8.pe_c c_draw hr (by decide) rfl (pa_cons (pv 0) (pa_cons pe_int pa_nil))) (fun _ _ => rfl)) (pa_cons (pv 5) (pa_cons pe_bl (pa_cons (pv 4) pa_nil)))))) pa_nil))))) pa_nil)))
    (pss_one (ps_ret (pe_tup (pa_cons (pv 2) (pa_cons (pv 6) pa_nil))))))))), ?_⟩
    unfold CP at hW
    obtain ⟨X, hX⟩ : ∃ X, X = c + 8 * (1 + CB 8) := ⟨_, rfl⟩
    have hW1 : Wl H w l (X + 1300) := hW.le (by omega)
    have k1 : Kp [w, l] H H := Kp.refl H
    have t1 : Tk H H := Tk.refl H
    refine ⟨_, rfl, ?_⟩
    refine ⟨_, rfl, (by show 3 ≤ sizeLine; decide), fun p1 hp1 => ?_⟩
    have sp1 := same_new hp1 (.lst [.int 2, .int 5, .int 20])
    have np1 := hW1.out hp1
    have hq1 : upd H p1 (.lst [.int 2, .int 5, .int 20]) p1 = some (.lst (([2, 5, 20] : List Int).map V.int)) := upd_same
    have hWa1 := hW1.same sp1
    generalize upd H p1 (.lst [.int 2, .int 5, .int 20]) = Ha1 at sp1 hq1 hWa1
    refine ⟨_, rfl, w, l, X + 1299, 3, rfl, hWa1.le (by omega), by decide, by decide, fun r1 Hb1 rr01 rr11 hWb1 kb1 tb1 => ?_⟩
    obtain ⟨mm1, hmm1, hat1⟩ := pick_int (L := [2, 5, 20]) rr01 rr11
    have hmx1 : 1 ≤ mm1 ∧ mm1 ≤ 20 := by simp at hmm1; omega
    refine ⟨p1, _, r1, .int mm1, rfl, rfl, SqL.of (kb1 _ _ np1 hq1), hat1, w, l, X + 1298, mm1, rfl, hWb1, by omega, by omega, fun ra1 Hc1 ra01 ra11 hWc1 kc1 tc1 => ?_⟩
    refine ⟨_, _, rfl, rfl, w, l, X + 698, (1 + ra1).toNat, by rw [show (((1 + ra1).toNat : Nat) : Int) = 1 + ra1 by omega]; rfl, hWc1.le (by omega), by omega, fun H2 la L hL Ll Ln Ld hW2 kd1 td1 => ?_⟩
    have k2 : Kp [w, l] H H2 := k1.trans ((Kp.of_same sp1).trans (kb1.trans (kc1.trans kd1)))
    have t2 : Tk H H2 := t1.trans ((Tk.same sp1).trans (tb1.trans (tc1.trans td1)))
    refine ⟨_, rfl, ?_⟩
    refine ⟨_, rfl, (by show 3 ≤ sizeLine; decide), fun p2 hp2 => ?_⟩
    have sp2 := same_new hp2 (.lst [.int 2, .int 3, .int 8])
    have np2 := hW2.out hp2
    have hq2 : upd H2 p2 (.lst [.int 2, .int 3, .int 8]) p2 = some (.lst (([2, 3, 8] : List Int).map V.int)) := upd_same
    have hWa2 := hW2.same sp2
    generalize upd H2 p2 (.lst [.int 2, .int 3, .int 8]) = Ha2 at sp2 hq2 hWa2
    refine ⟨_, rfl, w, l, X + 697, 3, rfl, hWa2.le (by omega), by decide, by decide, fun r2 Hb2 rr02 rr12 hWb2 kb2 tb2 => ?_⟩
    obtain ⟨mm2, hmm2, hat2⟩ := pick_int (L := [2, 3, 8]) rr02 rr12
    have hmx2 : 1 ≤ mm2 ∧ mm2 ≤ 8 := by simp at hmm2; omega
    refine ⟨p2, _, r2, .int mm2, rfl, rfl, SqL.of (kb2 _ _ np2 hq2), hat2, w, l, X + 696, mm2, rfl, hWb2, by omega, by omega, fun ra2 Hc2 ra02 ra12 hWc2 kc2 tc2 => ?_⟩
    refine ⟨_, _, rfl, rfl, w, l, X + 96, (1 + ra2).toNat, by rw [show (((1 + ra2).toNat : Nat) : Int) = 1 + ra2 by omega]; rfl, hWc2.le (by omega), by omega, fun H3 na N hN Nl Nn Nd hW3 kd2 td2 => ?_⟩
    have k3 : Kp [w, l] H H3 := k2.trans ((Kp.of_same sp2).trans (kb2.trans (kc2.trans kd2)))
    have t3 : Tk H H3 := t2.trans ((Tk.same sp2).trans (tb2.trans (tc2.trans td2)))
    have hla3 := hL.tk ((Tk.same sp2).trans (tb2.trans (tc2.trans td2)))
    refine ⟨_, rfl, (by show 1 ≤ sizeLine; decide), fun R hR => ?_⟩
    have sR := same_new hR (.lst [.int (size : Int)])
    refine ⟨_, rfl, _, rfl, (by show 2 ≤ sizeLine; decide), fun hd hhd => ⟨(by show 2 ≤ sizeLine; decide), fun tp htp => ?_⟩⟩
    have sH := same_new hhd (.tup [.ref la, .ref na])
    have sT := same_new htp (.tup [.ref R, .ref hd])
    have sA := sR.trans (sH.trans sT)
    have nR := hW3.out hR
    have hRH : H R = none := k3.none nR hR
    refine ⟨tp, _, rfl, SqT.of upd_same, rfl, _, _, rfl, _, _, rfl, rfl, ?_⟩
    have D6 : Drw9 K (upd (upd (upd H3 R (.lst [.int (size : Int)])) hd (.tup [.ref la, .ref na])) tp (.tup [.ref R, .ref hd])) w l R hd la na L N size (c + (1 + CB 8) * (8 - 0)) :=
      ⟨(hW3.same sA).le (by omega), (sH.trans sT) _ _ upd_same, (Tk.same sT).sqt (SqT.of upd_same), hla3.tk (Tk.same sA), hN.tk (Tk.same sA), nR⟩
    have k6 := k3.trans (Kp.of_same sA)
    have t6 := t3.trans (Tk.same sA)
    generalize upd (upd (upd H3 R (.lst [.int (size : Int)])) hd (.tup [.ref la, .ref na])) tp (.tup [.ref R, .ref hd]) = H6 at D6 k6 t6
    have hN8 : N.length ≤ 8 := by rw [Nl]; omega
    have hN1 : 1 ≤ N.length := by rw [Nl]; omega
    have hL20 : L.length ≤ 20 := by rw [Ll]; omega
    have hL1 : 1 ≤ L.length := by rw [Ll]; omega
    refine ⟨_, rfl, na, rfl, ⟨_, tupo_sq D6.hn⟩, fun Dd hDd => ?_⟩
    have nD := D6.wl.out hDd
    have nDR : Dd ≠ R := fun z => by have := D6.room; rw [← z, hDd] at this; cases this
    have hDH : H Dd = none := k6.none nD hDd
    have nD3 : Dd ∉ [w, l, R] := fun z => by
      rcases List.mem_cons.mp z with rfl | z
      · exact nD (by simp)
      · rcases List.mem_cons.mp z with rfl | z
        · exact nD (by simp)
        · exact nDR (List.mem_singleton.mp z)
    have sD := same_new hDd (.lst [])
    refine lc_tup (xs := N.map V.str) (fun i H' => ∃ vs Ps m', Ps.map Prod.fst = N.take i ∧ H' Dd = some (.lst vs) ∧ DpAll K H' vs (Ps.map procD) ∧ (∀ x ∈ nsP Ps, (oks L N false x ∧ x.length ≤ 4 ∧ wms 4 7 x) ∧ ks x ≤ 8) ∧ nss (nsP Ps) + m' = size ∧ Drw9 K H' w l R hd la na L N m' (c + (1 + CB 8) * (8 - i)) ∧ Kp [w, l] H H' ∧ Tk H H') ⟨[], [], size, by simp, upd_same, .nil, fun x hx => (List.not_mem_nil hx).elim, by simp [nsP, nss], D6.same sD, k6.trans (Kp.of_same sD), t6.trans (Tk.same sD)⟩ ?_ ?_ ?_
    · rintro i H' _ ⟨_, _, _, _, _, _, _, _, D, _, _⟩
      exact tupo_sq D.hn
    · rintro i x H8 hx ⟨vs, Ps, m', hfst, hv1, hv2, hoks, hns, D8, k8, t8⟩
      obtain ⟨nm, hnm, rfl⟩ : ∃ y, N[i]? = some y ∧ x = .str y := by
        rw [List.getElem?_map] at hx
        cases e : N[i]? with
        | none => rw [e] at hx; cases hx
        | some s => rw [e] at hx; exact ⟨s, rfl, (Option.some.inj hx).symm⟩
      have hil := (List.getElem?_eq_some_iff.mp hnm).1
      have ec : (1 + CB 8) * (8 - i) = (1 + CB 8) * (8 - (i + 1)) + (1 + CB 8) := by
        rw [show 8 - i = (8 - (i + 1)) + 1 by omega]
        exact Nat.mul_succ _ _
      refine ⟨rfl, ?_⟩
      refine ⟨_, rfl, _, rfl, (by show 3 ≤ sizeLine; decide), fun p hp => ?_⟩
      have sp := same_new hp (.lst [.int 2, .int 4, .int 7])
      have np := D8.wl.out hp
      have hq : upd H8 p (.lst [.int 2, .int 4, .int 7]) p = some (.lst (([2, 4, 7] : List Int).map V.int)) := upd_same
      have Dp8 := D8.same sp
      have kp8 := k8.trans (Kp.of_same sp)
      have tp8 := t8.trans (Tk.same sp)
      have hv1p := sp _ _ hv1
      have hv2p := (Tk.same sp).dps _ (tup_procs Ps) hv2
      generalize upd H8 p (.lst [.int 2, .int 4, .int 7]) = H9 at hq Dp8 kp8 tp8 hv1p hv2p
      refine ⟨_, rfl, w, l, c + (1 + CB 8) * (8 - (i + 1)) + CB 8, 3, rfl, Dp8.wl.le (by omega), by decide, by decide, fun r Ha r0 r1 hWa ka ta => ?_⟩
      obtain ⟨dp, hdp, hat⟩ := pick_int (L := [2, 4, 7]) r0 r1
      have hdp2 : 2 ≤ dp ∧ dp ≤ 7 := by simp at hdp; omega
      have Da := Dp8.pick hWa ka ta
      refine ⟨p, _, r, .int dp, rfl, rfl, SqL.of (ka _ _ np hq), hat, ?_⟩
      refine ⟨_, rfl, _, rfl, w, l, hd, la, na, R, dp.toNat, false, L, N, m', c + (1 + CB 8) * (8 - (i + 1)), by rw [show ((dp.toNat : Nat) : Int) = dp by omega]; rfl, Da, by omega, by omega, hL1, hL20, hN1, by omega, fun Hb v b m9 hv hvo hvn hvk hvl9 hvw hcb hrb kb tb => ?_⟩
      refine ⟨(by show 2 ≤ sizeLine; decide), fun z hz => ?_⟩
      have sz := same_new hz (.tup [.str nm, v])
      have Db := (Da.keep hcb hrb tb).same sz
      have hvb := sz _ _ (kb _ _ nD3 (ka _ _ nD hv1p))
      have tAll := ta.trans (tb.trans (Tk.same sz))
      have hfl : Ps.length = i := by
        have := congrArg List.length hfst
        rw [List.length_map, List.length_take] at this
        omega
      have hvl := dps_len hv2
      rw [List.length_map] at hvl
      have tD := Tk.put hvb (.lst (vs ++ [.ref z]))
      have kR : Kp [w, l] Ha Hb ∨ True := .inr trivial
      have kab : Kp [w, l] H Hb := fun qq o n e => by
        have e2 := (kp8.trans ka) _ _ n e
        refine kb _ _ (fun h => ?_) e2
        rcases List.mem_cons.mp h with rfl | h
        · exact n (by simp)
        · rcases List.mem_cons.mp h with rfl | h
          · exact n (by simp)
          · rw [List.mem_singleton.mp h, hRH] at e; cases e
      refine ⟨vs, hvb, Nat.lt_of_le_of_lt (show vs.length ≤ 8 by omega) (by decide), vs ++ [.ref z], Ps ++ [(nm, b)], m9, ?_, upd_same, ?_, ?_, ?_, ?_, kp_new (kab.trans (Kp.of_same sz)) hDH, (tp8.trans tAll).trans tD⟩
      · rw [List.map_append, hfst, List.take_succ, hnm]
        rfl
      · rw [List.map_append]
        refine dps_app ((tAll.trans tD).dps _ (tup_procs Ps) hv2p) (.cons ?_ .nil)
        exact .tup (tD.sqt (SqT.of upd_same)) (.cons (.str _) (.cons (((Tk.same sz).trans tD).dp (.tuple (ds b)) (tup_ds b) hv) .nil))
      · intro x hx
        unfold nsP at hx
        rw [List.map_append] at hx
        rcases List.mem_append.mp hx with h | h
        · exact hoks x h
        · cases List.mem_singleton.mp h
          exact ⟨⟨hvo, hvl9, wms_le (Nat.le_refl _) _ (by omega) hvw⟩, (show ks b ≤ 8 by omega)⟩
      · unfold nsP at hns ⊢
        rw [List.map_append, nss_app]
        simp [nss]
        omega
      · exact Db.keep (Db.wl.upd nD) (by rw [upd_ne (Ne.symm nDR)]; exact Db.room) tD
    · rintro H8 ⟨vs, Ps, m', hfst, hv1, hv2, hoks, hns, D8, k8, t8⟩
      rw [List.length_map, List.take_length] at hfst
      refine ⟨Dd, _, rfl, .inl ⟨SqL.of hv1, fun pt hpt => ?_⟩⟩
      have s9 := same_new hpt (.tup vs)
      refine ⟨_, rfl, _, rfl, (by show 2 ≤ sizeLine; decide), fun ra hra => ?_⟩
      have sa := same_new hra (.tup [.ref la, .ref pt])
      have sAll := s9.trans sa
      have hlen : Ps.length = N.length := by rw [← hfst, List.length_map]
      have PG : Plan L Ps L (Ps.map Prod.fst) 0 := ⟨by omega, by omega, by omega, by omega, Ln, by rw [hfst]; exact Nn, fun _ h => h, fun _ h => h, fun b hb => by rw [hfst]; exact (hoks b hb).1.1, fun b hb => (hoks b hb).1.2, by omega, by omega, by rw [List.length_map]; omega⟩
      refine q _ _ L Ps (PD.make (SqT.of upd_same) (tupo_sq (D8.hl.tk (Tk.same sAll))) (.tup (SqT.of (sa _ _ upd_same)) ((Tk.same sAll).dps _ (tup_procs Ps) hv2))) PG ((D8.wl.le (by omega)).same sAll) (k8.trans (Kp.of_same sAll)) (t8.trans (Tk.same sAll))
end
end K04


set_option Elab.async false
set_option linter.all false
set_option maxRecDepth 100000
set_option maxHeartbeats 8000000
namespace K04
open PySem PySem.Spec PyProof.Rows L2
-- more names: still right
mutual
theorem ok_mono {A B A' B' : List Str} (ha : ∀ x ∈ A, x ∈ A') (hb : ∀ x ∈ B, x ∈ B') (s2 : Bool) : ∀ (s : St) (sec : Bool), s.ok A B sec → s.ok A' B' s2
  | .dd _, _, h | .ud _, _, h => ha _ h
  | .cl _, _, h => hb _ h
  | .rt, _, _ => trivial
  | .ch bs, sec, h => ⟨h.1, h.2.1, okss_mono ha hb s2 bs sec h.2.2⟩
  | .lp b, sec, h => oks_mono ha hb s2 b sec h
  | .en b c, sec, h => ⟨oks_mono ha hb s2 b sec h.1, oks_mono ha hb true c true h.2⟩
theorem oks_mono {A B A' B' : List Str} (ha : ∀ x ∈ A, x ∈ A') (hb : ∀ x ∈ B, x ∈ B') (s2 : Bool) : ∀ (b : List St) (sec : Bool), oks A B sec b → oks A' B' s2 b
  | [], _, _ => trivial
  | s :: r, sec, h => ⟨ok_mono ha hb s2 s sec h.1, oks_mono ha hb s2 r sec h.2⟩
theorem okss_mono {A B A' B' : List Str} (ha : ∀ x ∈ A, x ∈ A') (hb : ∀ x ∈ B, x ∈ B') (s2 : Bool) : ∀ (b : List (List St)) (sec : Bool), okss A B sec b → okss A' B' s2 b
  | [], _, _ => trivial
  | s :: r, sec, h => ⟨oks_mono ha hb s2 s sec h.1, okss_mono ha hb s2 r sec h.2⟩
end
/-! ### sums and slices of tuples, as data -/
theorem catA_dp {K : PySem.W.Frag} {H : Hp} {x y : V} {d1 d2 : List PyData} {Q : VK} (hx : Dp K H x (.tuple d1)) (hy : Dp K H y (.tuple d2)) (hl : d1.length + d2.length ≤ 1000) (t1 : TupDs d1) (t2 : TupDs d2)
    (q : ∀ v H', Same H H' → Dp K H' v (.tuple (d1 ++ d2)) → Q v H') : rCatA K x y H Q := by
  obtain ⟨a, xs, rfl, hs, ha, la⟩ := len_ok hx
  obtain ⟨b, ys, rfl, hb, hb2, lb⟩ := len_ok hy
  refine ⟨a, b, xs, ys, rfl, rfl, hs, hb, Nat.le_trans (by omega) (show 1000 ≤ sizeLine by decide), fun z => ?_, fun _ z => ?_, fun _ _ p hp => ?_⟩
  · have : d1 = [] := List.eq_nil_of_length_eq_zero (by rw [← la, z]; rfl)
    subst this
    exact q _ H (Same.refl H) (.tup hb hb2)
  · have : d2 = [] := List.eq_nil_of_length_eq_zero (by rw [← lb, z]; rfl)
    subst this
    rw [List.append_nil] at q
    exact q _ H (Same.refl H) (.tup hs ha)
  · have sp := same_new hp (.tup (xs ++ ys))
    exact q _ _ sp (.tup (SqT.of upd_same) (dps_app ((Tk.same sp).dps _ t1 ha) ((Tk.same sp).dps _ t2 hb2)))
theorem dps_take {K : PySem.W.Frag} {H : Hp} : ∀ {xs : List V} {d : List PyData} (i : Nat), DpAll K H xs d → DpAll K H (xs.take i) (d.take i)
  | _, _, 0, _ => by simpa using .nil
  | _, _, _ + 1, .nil => .nil
  | _, _, i + 1, .cons h r => .cons h (dps_take i r)
theorem dps_drop {K : PySem.W.Frag} {H : Hp} : ∀ {xs : List V} {d : List PyData} (i : Nat), DpAll K H xs d → DpAll K H (xs.drop i) (d.drop i)
  | _, _, 0, h => h
  | _, _, _ + 1, .nil => .nil
  | _, _, i + 1, .cons _ r => dps_drop i r
theorem tup_take : ∀ {d : List PyData} (i : Nat), TupDs d → TupDs (d.take i)
  | _, 0, _ => by rw [List.take_zero]; exact trivial
  | [], _ + 1, _ => trivial
  | _ :: _, i + 1, h => ⟨h.1, tup_take i h.2⟩
theorem tup_drop : ∀ {d : List PyData} (i : Nat), TupDs d → TupDs (d.drop i)
  | _, 0, h => h
  | [], _ + 1, h => h
  | _ :: _, i + 1, h => tup_drop i h.2
/-- t[lo:hi], lo and hi within the tuple -/
theorem sliceA_dp {K : PySem.W.Frag} {H : Hp} {x : V} {d : List PyData} {Q : VK} {lo hi : Option Int} {i j : Nat} (hx : Dp K H x (.tuple d)) (td : TupDs d) (hi1 : HT.sIx d.length 0 lo = i) (hj : HT.sIx d.length d.length hi = j)
    (q : ∀ v H', Same H H' → Dp K H' v (.tuple ((d.drop i).take (j - i))) → Q v H') : rSlA K x lo hi H Q := by
  obtain ⟨a, xs, rfl, hs, ha, la⟩ := len_ok hx
  refine ⟨a, xs, rfl, hs, fun z => ?_, fun _ p hp => ?_⟩
  · rw [la, hi1, hj] at z
    rw [z.1, z.2] at q
    have e : (d.drop 0).take (d.length - 0) = d := by simp
    rw [e] at q
    exact q _ H (Same.refl H) (.tup hs ha)
  · have sp := same_new hp (.tup (cutV xs lo hi))
    refine q _ _ sp (.tup (SqT.of upd_same) ?_)
    have e : cutV xs lo hi = (xs.drop i).take (j - i) := by
      unfold cutV
      rw [la, hi1, hj]
    have h2 := dps_take (j - i) (dps_drop i ((Tk.same sp).dps _ td ha))
    rw [← e] at h2
    exact h2
theorem sIx_lo {n i : Nat} (h : i ≤ n) : HT.sIx n 0 (some (i : Int)) = i := by
  rw [HT.sIx_nat]; omega
theorem sIx_hi {n i : Nat} (h : i ≤ n) : HT.sIx n n (some (i : Int)) = i := by
  rw [HT.sIx_nat]; omega
theorem ds_take (b : List St) (i : Nat) : (ds b).take i = ds (b.take i) := by rw [ds_map, ds_map, List.map_take]
theorem ds_drop (b : List St) (i : Nat) : (ds b).drop i = ds (b.drop i) := by rw [ds_map, ds_map, List.map_drop]
theorem dss_take (b : List (List St)) (i : Nat) : (dss b).take i = dss (b.take i) := by rw [dss_map, dss_map, List.map_take]
theorem dss_drop (b : List (List St)) (i : Nat) : (dss b).drop i = dss (b.drop i) := by rw [dss_map, dss_map, List.map_drop]
theorem ds_app (a b : List St) : ds (a ++ b) = ds a ++ ds b := by rw [ds_map, ds_map, ds_map, List.map_append]
theorem dss_app (a b : List (List St)) : dss (a ++ b) = dss a ++ dss b := by rw [dss_map, dss_map, dss_map, List.map_append]
end K04


set_option Elab.async false
set_option linter.all false
set_option maxRecDepth 100000
set_option maxHeartbeats 8000000
namespace K04
open PySem PySem.Spec PyProof.Rows L2
theorem oks_app {L N : List Str} {sec : Bool} {a b : List St} : oks L N sec (a ++ b) ↔ oks L N sec a ∧ oks L N sec b := by
  rw [oks_iff, oks_iff, oks_iff]
  exact List.forall_mem_append
theorem okss_app {L N : List Str} {sec : Bool} {a b : List (List St)} : okss L N sec (a ++ b) ↔ okss L N sec a ∧ okss L N sec b := by
  rw [okss_iff, okss_iff, okss_iff]
  exact List.forall_mem_append
theorem kss_app : ∀ a b : List (List St), kss (a ++ b) = max (kss a) (kss b)
  | [], _ => by simp [kss]
  | x :: r, b => by
    rw [List.cons_append, kss, kss, kss_app r b]
    omega
theorem split_at {α : Type} {b : List α} {k : Nat} {s : α} (h : b[k]? = some s) : b = b.take k ++ s :: b.drop (k + 1) := by
  obtain ⟨hk, e⟩ := List.getElem?_eq_some_iff.mp h
  rw [← e, List.getElem_cons_drop, List.take_append_drop]
/-- a body with another statement somewhere in it -/
structure Wp (A B : List Str) (m d e k : Nat) (b b' : List St) : Prop where
  ok : oks A B false b'
  l : b'.length ≤ m + 1
  w : wms (m + 1) (d + e) b'
  n : ns b' ≤ ns b + k
structure Wp1 (A B : List Str) (m d e k : Nat) (s s' : St) : Prop where
  ok : s'.ok A B false
  w : s'.wm (m + 1) (d + e)
  n : s'.n ≤ s.n + k
theorem oks_any {A B : List Str} {s1 : Bool} (s2 : Bool) {b : List St} (h : oks A B s1 b) : oks A B s2 b := oks_mono (fun _ h => h) (fun _ h => h) s2 b s1 h
theorem wms_app {m d : Nat} {a b : List St} : wms m d (a ++ b) ↔ wms m d a ∧ wms m d b := by
  rw [wms_iff, wms_iff, wms_iff]
  exact List.forall_mem_append
theorem wmbs_app {m d : Nat} {a b : List (List St)} : wmbs m d (a ++ b) ↔ wmbs m d a ∧ wmbs m d b := by
  rw [wmbs_iff, wmbs_iff, wmbs_iff]
  exact List.forall_mem_append
theorem Wp.of1 {A B : List Str} {m d e k : Nat} {b : List St} {i : Nat} {s s' : St} (h : b[i]? = some s) (hb : oks A B false b) (hl : b.length ≤ m) (hw : wms m d b) (w : Wp1 A B m d e k s s') : Wp A B m d e k b (b.take i ++ s' :: b.drop (i + 1)) := by
  have eq := split_at h
  generalize b.take i = x at eq
  generalize b.drop (i + 1) = y at eq
  subst eq
  obtain ⟨o1, o2, o3⟩ := oks_app.mp hb
  obtain ⟨w1, w2, w3⟩ := wms_app.mp hw
  refine ⟨oks_app.mpr ⟨o1, w.ok, o3⟩, ?_, wms_app.mpr ⟨wms_le (by omega) _ (by omega) w1, w.w, wms_le (by omega) _ (by omega) w3⟩, ?_⟩
  · simp only [List.length_append, List.length_cons] at hl ⊢
    omega
  · have := w.n
    rw [ns_app, ns_app, ns, ns]; omega
theorem Wp.put {A B : List Str} {m d e : Nat} {b : List St} {x : St} {i j : Nat} (h1 : i ≤ j) (h3 : i ≤ b.length) (hb : oks A B false b) (hl : b.length ≤ m) (hw : wms m d b) (ho : x.ok A B false) (hx : x.wm (m + 1) e) : Wp A B m d e x.n b (b.take i ++ x :: b.drop j) := by
  have e2 : ns b = ns (b.take i) + ns (b.drop i) := by rw [← ns_app, List.take_append_drop]
  have e3 : ns (b.drop i) = ns ((b.drop i).take (j - i)) + ns (b.drop j) := by
    rw [← ns_app, show b.drop j = (b.drop i).drop (j - i) by rw [List.drop_drop]; congr 1; omega, List.take_append_drop]
  have sub : ∀ s, s ∈ b.take i ∨ s ∈ b.drop j → s ∈ b := fun s h => h.elim List.mem_of_mem_take List.mem_of_mem_drop
  refine ⟨oks_app.mpr ⟨oks_iff.mpr fun s hs => oks_iff.mp hb s (sub s (.inl hs)), ho, oks_iff.mpr fun s hs => oks_iff.mp hb s (sub s (.inr hs))⟩, ?_,
    wms_app.mpr ⟨wms_iff.mpr fun s hs => wm_le (by omega) s (by omega) (wms_iff.mp hw s (sub s (.inl hs))), wm_le (Nat.le_refl _) x (by omega) hx, wms_iff.mpr fun s hs => wm_le (by omega) s (by omega) (wms_iff.mp hw s (sub s (.inr hs)))⟩, ?_⟩
  · rw [List.length_append, List.length_cons, List.length_take, List.length_drop]
    omega
  · rw [ns_app, ns]; omega
theorem Wp.ch {A B : List Str} {m d e k : Nat} {bs : List (List St)} {j : Nat} {b b' : List St} (h : bs[j]? = some b) (ho : (St.ch bs).ok A B false) (hw : (St.ch bs).wm m d) (w : Wp A B m (d - 1) e k b b') : Wp1 A B m d e k (.ch bs) (.ch (bs.take j ++ b' :: bs.drop (j + 1))) := by
  have eq := split_at h
  generalize bs.take j = x at eq
  generalize bs.drop (j + 1) = y at eq
  subst eq
  obtain ⟨l1, l2, o⟩ := ho
  obtain ⟨o1, o2, o3⟩ := okss_app.mp o
  obtain ⟨d1, hw⟩ := hw
  obtain ⟨w1, w2, w3⟩ := wmbs_app.mp hw
  have ww := w.w
  rw [show d - 1 + e = d + e - 1 by omega] at ww
  refine ⟨⟨by simpa using l1, by simpa using l2, okss_app.mpr ⟨o1, w.ok, o3⟩⟩, ⟨by omega, wmbs_app.mpr ⟨wmbs_le (by omega) _ (by omega) w1, ⟨w.l, ww⟩, wmbs_le (by omega) _ (by omega) w3⟩⟩, ?_⟩
  have := w.n
  rw [St.n, St.n, nss_app, nss_app, nss, nss]; omega
theorem Wp.lp {A B : List Str} {m d e k : Nat} {b b' : List St} (hw : (St.lp b).wm m d) (w : Wp A B m (d - 1) e k b b') : Wp1 A B m d e k (.lp b) (.lp b') := by
  have ww := w.w
  obtain ⟨d1, hw⟩ := hw
  rw [show d - 1 + e = d + e - 1 by omega] at ww
  refine ⟨w.ok, ⟨by omega, w.l, ww⟩, ?_⟩
  have := w.n
  rw [St.n, St.n]; omega
theorem Wp.en1 {A B : List Str} {m d e k : Nat} {b b' c : List St} (hw : (St.en b c).wm m d) (hc : oks A B true c) (w : Wp A B m (d - 1) e k b b') : Wp1 A B m d e k (.en b c) (.en b' c) := by
  have ww := w.w
  obtain ⟨d1, hw, hv⟩ := hw
  rw [show d - 1 + e = d + e - 1 by omega] at ww
  refine ⟨⟨w.ok, hc⟩, ⟨by omega, ⟨w.l, ww⟩, Nat.le_trans hv.1 (by omega), wms_le (by omega) _ (by omega) hv.2⟩, ?_⟩
  have := w.n
  rw [St.n, St.n]; omega
theorem Wp.en2 {A B : List Str} {m d e k : Nat} {b c c' : List St} (hw : (St.en b c).wm m d) (hb : oks A B false b) (w : Wp A B m (d - 1) e k c c') : Wp1 A B m d e k (.en b c) (.en b c') := by
  have ww := w.w
  obtain ⟨d1, hw, hv⟩ := hw
  rw [show d - 1 + e = d + e - 1 by omega] at ww
  refine ⟨⟨hb, oks_any true w.ok⟩, ⟨by omega, ⟨Nat.le_trans hw.1 (by omega), wms_le (by omega) _ (by omega) hw.2⟩, w.l, ww⟩, ?_⟩
  have := w.n
  rw [St.n, St.n]; omega
def St.word : St → Str
  | .dd _ => "do"
  | .ud _ => "undo"
  | .cl _ => "call"
  | .ch _ => "choose"
  | .lp _ => "loop"
  | .rt => "return"
  | .en _ _ => "ensure"
def St.isO : St → Bool
  | .ch _ | .lp _ | .en _ _ => true
  | _ => false
theorem head_of {K : PySem.W.Frag} {H : Hp} {v : V} {s : St} (h : Dp K H v s.d) : ∃ a xs, v = V.ref a ∧ SqT K H a xs ∧ atI xs 0 = some (.str s.word) := by
  cases s <;> (obtain ⟨a, xs, rfl, hs, ha, hl⟩ := len_ok h; cases ha with | cons h0 ha => cases h0; exact ⟨a, _, rfl, hs, at0 _ _⟩)
theorem word_in : ∀ s : St, inV (.str s.word) [V.str "choose", V.str "loop", V.str "ensure"] = s.isO
  | .dd _ => (by decide +kernel : inV (.str "do") [V.str "choose", V.str "loop", V.str "ensure"] = false)
  | .ud _ => (by decide +kernel : inV (.str "undo") [V.str "choose", V.str "loop", V.str "ensure"] = false)
  | .cl _ => (by decide +kernel : inV (.str "call") [V.str "choose", V.str "loop", V.str "ensure"] = false)
  | .ch _ => (by decide +kernel : inV (.str "choose") [V.str "choose", V.str "loop", V.str "ensure"] = true)
  | .lp _ => (by decide +kernel : inV (.str "loop") [V.str "choose", V.str "loop", V.str "ensure"] = true)
  | .rt => (by decide +kernel : inV (.str "return") [V.str "choose", V.str "loop", V.str "ensure"] = false)
  | .en _ _ => (by decide +kernel : inV (.str "ensure") [V.str "choose", V.str "loop", V.str "ensure"] = true)
/-- the indexes of the statements with bodies -/
def outs (b : List St) (i : Nat) : List Nat := (List.range i).filter fun k => (b[k]?).any St.isO
theorem outs_succ (b : List St) (i : Nat) {s : St} (h : b[i]? = some s) : outs b (i + 1) = if s.isO = true then outs b i ++ [i] else outs b i := by
  unfold outs
  rw [List.range_succ, List.filter_append]
  have e : [i].filter (fun k => (b[k]?).any St.isO) = if s.isO = true then [i] else [] := by
    rw [List.filter_cons, show ((b[i]?).any St.isO) = s.isO by rw [h]; rfl]
    cases s.isO <;> rfl
  rw [e]
  split <;> simp
theorem outs_get {b : List St} {i j : Nat} {k : Nat} (h : (outs b i)[j]? = some k) : ∃ s, b[k]? = some s ∧ s.isO = true := by
  have hm := List.mem_of_getElem? h
  unfold outs at hm
  have := (List.mem_filter.mp hm).2
  cases e : b[k]? with
  | none => rw [e] at this; cases this
  | some s => rw [e] at this; exact ⟨s, rfl, this⟩
theorem outs_len (b : List St) (i : Nat) : (outs b i).length ≤ i := by
  have := List.length_filter_le (fun k => (b[k]?).any St.isO) (List.range i)
  rw [List.length_range] at this
  exact this
def ixI (ks : List Nat) : List Int := ks.map fun k : Nat => ((k : Nat) : Int)
def ixV (ks : List Nat) : List V := (ixI ks).map V.int
def ttO (K : PySem.W.Frag) : TT := tTest (tOp (rIn K false) (tOp (rIxT K) (tOp (rIxT K) (tVar 1) (tVar 4)) (tC (.int 0))) (tTup (tCons (tC (.str "choose")) (tCons (tC (.str "loop")) (tCons (tC (.str "ensure")) tNil)))))
theorem slTo {K : PySem.W.Frag} {H : Hp} {x : V} {d : List PyData} {Q : VK} {i : Nat} (hx : Dp K H x (.tuple d)) (td : TupDs d) (h : i ≤ d.length) (q : ∀ v H', Same H H' → Dp K H' v (.tuple (d.take i)) → Q v H') : rSlA K x none (some (i : Int)) H Q :=
  sliceA_dp (i := 0) (j := i) hx td rfl (sIx_hi h) fun v H' s hv => q v H' s (by rw [List.drop_zero, Nat.sub_zero] at hv; exact hv)
theorem slFrom {K : PySem.W.Frag} {H : Hp} {x : V} {d : List PyData} {Q : VK} {i : Nat} (hx : Dp K H x (.tuple d)) (td : TupDs d) (h : i ≤ d.length) (q : ∀ v H', Same H H' → Dp K H' v (.tuple (d.drop i)) → Q v H') : rSlA K x (some (i : Int)) none H Q :=
  sliceA_dp (i := i) (j := d.length) hx td (sIx_lo h) rfl fun v H' s hv => q v H' s (by rw [List.take_of_length_le (by rw [List.length_drop]; exact Nat.le_refl _)] at hv; exact hv)
theorem slBeyond {K : PySem.W.Frag} {H : Hp} {x : V} {d : List PyData} {Q : VK} {i : Nat} (hx : Dp K H x (.tuple d)) (td : TupDs d) (q : ∀ v H', Same H H' → Dp K H' v (.tuple (d.drop i)) → Q v H') : rSlA K x (some (i : Int)) none H Q := by
  by_cases h : i ≤ d.length
  · exact slFrom hx td h q
  · refine sliceA_dp (i := d.length) (j := d.length) hx td (by rw [HT.sIx_nat]; omega) rfl fun v H' s hv => q v H' s ?_
    rw [Nat.sub_self, List.take_zero] at hv
    rw [List.drop_eq_nil_of_le (by omega)]
    exact hv
theorem slMid {K : PySem.W.Frag} {H : Hp} {x : V} {d : List PyData} {Q : VK} {i j : Nat} (hx : Dp K H x (.tuple d)) (td : TupDs d) (h1 : i ≤ d.length) (h2 : j ≤ d.length) (q : ∀ v H', Same H H' → Dp K H' v (.tuple ((d.drop i).take (j - i))) → Q v H') : rSlA K x (some (i : Int)) (some (j : Int)) H Q :=
  sliceA_dp (i := i) (j := j) hx td (sIx_lo h1) (sIx_hi h2) q
/-- the bodies of a loop or an ensure, by their index in the statement -/
theorem pick_body {A B : List Str} {m d : Nat} : ∀ {s : St}, s.isO = true → (∀ bs, s ≠ .ch bs) → s.ok A B false → s.wm m d → ∃ dl, s.d = .tuple dl ∧ TupDs dl ∧ 2 ≤ dl.length ∧ dl.length ≤ 3 ∧ ∀ r, r + 1 < dl.length → ∃ bj, dl[1 + r]? = some (.tuple (ds bj)) ∧ oks A B false bj ∧ ns bj ≤ s.n ∧ ks bj < s.k ∧ bj.length ≤ m ∧ wms m (d - 1) bj ∧
    ∀ b' e k, Wp A B m (d - 1) e k bj b' → ∃ s', s'.d = .tuple (dl.take (1 + r) ++ [.tuple (ds b')] ++ dl.drop (1 + r + 1)) ∧ Wp1 A B m d e k s s'
  | .ch bs, _, h, _, _ => absurd rfl (h bs)
  | .lp b, _, _, ho, hw => ⟨_, rfl, ⟨trivial, tup_ds b, trivial⟩, by simp, by simp, fun r hr => by
    have e : r = 0 := by simp at hr; omega
    subst e
    exact ⟨b, rfl, ho, by rw [St.n]; omega, by rw [St.k]; omega, hw.2.1, hw.2.2, fun b' e k w => ⟨.lp b', rfl, w.lp hw⟩⟩⟩
  | .en b c, _, _, ho, hw => ⟨_, rfl, ⟨trivial, tup_ds b, tup_ds c, trivial⟩, by simp, by simp, fun r hr => by
    have e : r = 0 ∨ r = 1 := by simp at hr; omega
    rcases e with rfl | rfl
    · exact ⟨b, rfl, ho.1, by rw [St.n]; omega, by rw [St.k]; omega, hw.2.1.1, hw.2.1.2, fun b' e k w => ⟨.en b' c, rfl, w.en1 hw ho.2⟩⟩
    · exact ⟨c, rfl, oks_any false ho.2, by rw [St.n]; omega, by rw [St.k]; omega, hw.2.2.1, hw.2.2.2, fun b' e k w => ⟨.en b b', rfl, w.en2 hw ho.1⟩⟩⟩
theorem dec_gt0 (i : Int) : decide ((0 : Int) < i) = true ∨ decide ((0 : Int) < i) = false := by cases decide ((0 : Int) < i) <;> simp
section
variable {P : Program} {w : World} {K : PySem.W.Frag} {mg : Str → Option Value} {base : Heap}

def spPut (K : PySem.W.Frag) (n : Nat) : Sp := fun vs H Q _ => ∃ w l bv xv c A B b x m d e, vs = [.ref w, bv, xv] ∧ Wl H w l (c + (3 * n + 2)) ∧ ks b < n ∧ Dp K H bv (.tuple (ds b)) ∧ Dp K H xv (St.d x) ∧ ns b ≤ 250 ∧ oks A B false b ∧ x.ok A B false ∧ b.length ≤ m ∧ wms m d b ∧ x.wm (m + 1) e ∧
  ∀ H' v' b', Dp K H' v' (.tuple (ds b')) → Wp A B m d e x.n b b' → Wl H' w l c → Kp [w, l] H H' → Tk H H' → Q v' H'
def spPI (K : PySem.W.Frag) (n : Nat) : Sp := fun vs H Q _ => ∃ w l sv xv c A B s x m d e, vs = [.ref w, sv, xv] ∧ Wl H w l (c + (3 * n + 3)) ∧ s.isO = true ∧ s.k ≤ n ∧ Dp K H sv (St.d s) ∧ Dp K H xv (St.d x) ∧ s.n ≤ 250 ∧ s.ok A B false ∧ x.ok A B false ∧ s.wm m d ∧ x.wm (m + 1) e ∧
  ∀ H' v' s', Dp K H' v' (St.d s') → Wp1 A B m d e x.n s s' → Wl H' w l c → Kp [w, l] H H' → Tk H H' → Q v' H'
theorem sc__law_put_in : FnScope ["well", "outer", "statement", "k"] ["well", "outer", "statement"] (C8.fnScope (topS 41)) := C8.fnScope_by (by decide +kernel)
theorem ok_pi {n e : Nat} {f : Addr} {fd : FuncData} (F : C8.Def K mg "_law_put_in" (topS 41) f fd) (b : Binds K fd ["well", "outer", "statement"] []) (B : Bl K mg) (c_draw : C8.Cal P w K mg base 1 "_law_draw" spDraw []) (c_put : C8.Cal P w K mg base e "_law_put" (spPut K n) []) (he : 1 ≤ e) : C8.Cal P w K mg base (e + 1) "_law_put_in" (spPI K n) [] := by
  refine C8.cal0 F b .nil sc__law_put_in ?len ?body
  case len => rintro vs H Q E ⟨w, l, sv, xv, c, AL, BN, st, x, m, d, e', rfl, _⟩; rfl
  case body =>
    rintro cdv A outer s H vs Q E hr ⟨w, l, sv, xv, c, AL, BN, st, x, m, d, e', rfl, hW4, hio, hkn, hst4, hxv, hsn, hso, hxo, hsw, hxw, q⟩
    refine ⟨_, (pss_cons (ps_if (pt_cmpR op_eq (pe_ix ix_tup (pv 1) pe_int (fun _ _ => rfl)) pe_str (nomark _)) (pss_cons (ps_set (i := 3) sc__law_put_in.nd rfl (Or.inl rfl) (C8.pe_c c_draw hr (by omega) rfl (pa_cons (pv 0) (pa_cons (pe_callB call_len_seq rfl B.len PySem.boot_len (pa_cons (pe_ix ix_tup (pv 1) pe_int (fun _ _ => rfl)) pa_nil)) pa_nil))))
    (pss_one (ps_ret (pe_tup (pa_cons pe_str (pa_cons (pe_op op_catA (pe_op op_catA (pe_slice sl_tupA (pe_ix ix_tup (pv 1) pe_int (fun _ _ => rfl)) po_none (po_some (pv 3))) (pe_tup (pa_cons (C8.pe_c c_put hr (by omega) rfl (pa_cons (pv 0) (pa_cons (pe_ix ix_tup (pe_ix ix_tup (pv 1) pe_int (fun _ _ => rfl)) (pv 3) (fun _ _ => rfl)) (pa_cons (pv 2) pa_nil)))) pa_nil))) (pe_slice sl_tupA (pe_ix ix_tup (pv 1) pe_int (fun _ _ => rfl)) (po_some (pe_op op_add (pv 3) pe_int)) po_none)) pa_nil)))))) pss_nil)
    (pss_cons (ps_set (i := 3) sc__law_put_in.nd rfl (Or.inl rfl) (pe_op op_add pe_int (C8.pe_c c_draw hr (by omega) rfl (pa_cons (pv 0) (pa_cons (pe_op op_sub (pe_callB call_len_seq rfl B.len PySem.boot_len (pa_cons (pv 1) pa_nil)) pe_int) pa_nil)))))
    (pss_one (ps_ret (pe_op op_catA (pe_op op_catA (pe_slice sl_tupA (pv 1) po_none (po_some (pv 3))) (pe_tup (pa_cons (C8.pe_c c_put hr (by omega) rfl (pa_cons (pv 0) (pa_cons (pe_ix ix_tup (pv 1) (pv 3) (fun _ _ => rfl)) (pa_cons (pv 2) pa_nil)))) pa_nil))) (pe_slice sl_tupA (pv 1) (po_some (pe_op op_add (pv 3) pe_int)) po_none)))))), ?_⟩
    obtain ⟨sa, sxs, rfl, hss, hs0⟩ := head_of hst4
    refine ⟨_, rfl, _, _, _, _, rfl, rfl, hss, hs0, rfl, _, rfl, ?_⟩
    rw [dec_str]
    by_cases hch : ∃ bs, st = .ch bs
    · obtain ⟨bs, rfl⟩ := hch
      refine ifT (by show decide ((("choose" : Str)) = "choose") = true; decide +kernel) ?_
      obtain ⟨sa2, sxs2, e2, hss2, hsa, hsl⟩ := len_ok hst4
      cases e2
      cases hsa with
      | @cons w0 _ _ _ q0 hsa =>
      cases q0
      cases hsa with
      | @cons v1 _ _ _ hb1 hsa =>
      cases hsa
      obtain ⟨ra, rxs, rfl, hrs, hra, hrl⟩ := len_ok hb1
      rw [dss_len] at hrl
      have hb2 : 2 ≤ bs.length := hso.1
      have hb6 : bs.length ≤ 6 := hso.2.1
      refine ⟨_, rfl, _, rfl, _, _, _, _, rfl, rfl, hss2, at1 _ _ _, ra, rxs, rfl, .inr hrs, w, l, c + (3 * n + 2), (rxs.length : Nat), rfl, hW4.le (by omega), by omega, by omega, fun r3 H5 y0 y1 hW5 k5 t5 => ?_⟩
      obtain ⟨j, rfl⟩ : ∃ j : Nat, r3 = (j : Int) := ⟨r3.toNat, by omega⟩
      have hj : j < rxs.length := by omega
      have hxj := List.getElem?_eq_getElem hj
      generalize rxs[j] = xj at hxj
      obtain ⟨dj, hdj, hdpj⟩ := dps_get' hra hxj
      obtain ⟨bj, hbj, rfl⟩ := dss_get hdj
      have hjm := List.mem_of_getElem? hbj
      have hjn := nss_mem hjm
      have hjk := kss_mem hjm
      rw [St.n] at hsn
      rw [St.k] at hkn
      obtain ⟨hjl0, hjw⟩ := wmbs_iff.mp hsw.2 bj hjm
      have hb5 := t5.dp (.tuple (dss bs)) (tup_dss bs) (.tup hrs hra)
      have hjl : j ≤ (dss bs).length := by rw [dss_len]; omega
      refine ⟨_, rfl, _, _, _, _, rfl, rfl, t5.sqt hss2, at1 _ _ _, _, rfl, _, rfl, slTo hb5 (tup_dss bs) hjl fun vA HA sA hA => ?_⟩
      have t5A := t5.trans (Tk.same sA)
      refine ⟨_, rfl, _, rfl, _, _, _, _, rfl, rfl, t5A.sqt hss2, at1 _ _ _, _, rfl, _, _, _, _, rfl, rfl, t5A.sqt hrs, atI_nat hxj, _, rfl, ?_⟩
      refine ⟨w, l, xj, xv, c, AL, BN, bj, x, m, d - 1, e', rfl, hW5.same sA, by omega, t5A.dp (.tuple (ds bj)) (tup_ds bj) hdpj, t5A.dp _ (tup_St x) hxv, by omega, okss_iff.mp hso.2.2 bj hjm, hxo, hjl0, hjw, hxw, fun H6 v6 b6 hv6 wr6 hW6 k6 t6 => ?_⟩
      have t56 := t5A.trans t6
      refine ⟨(by show 1 ≤ sizeLine; decide), fun z hz => ?_⟩
      have sz := same_new hz (.tup [v6])
      refine catA_dp ((t6.trans (Tk.same sz)).dp (.tuple ((dss bs).take j)) (tup_take j (tup_dss bs)) hA) (.tup (SqT.of upd_same) (.cons ((Tk.same sz).dp (.tuple (ds b6)) (tup_ds b6) hv6) .nil)) (by rw [List.length_take, dss_len]; simp; omega) (tup_take j (tup_dss bs)) ⟨tup_ds b6, trivial⟩ fun vB HB sB hB => ?_
      have sAB := sz.trans sB
      have t6B := t56.trans (Tk.same sAB)
      have ej : ((j : Nat) : Int) + 1 = ((j + 1 : Nat) : Int) := by omega
      refine ⟨_, rfl, _, _, _, _, rfl, rfl, t6B.sqt hss2, at1 _ _ _, _, rfl, _, _, rfl, rfl, _, rfl, ?_⟩
      rw [ej]
      dsimp only [tNoPart]
      refine slFrom (i := j + 1) (t6B.dp (.tuple (dss bs)) (tup_dss bs) (.tup hrs hra)) (tup_dss bs) (by rw [dss_len]; omega) fun vC HC sC hC => ?_
      have tB : TupDs ((dss bs).take j ++ [.tuple (ds b6)]) := tupds_iff.mpr fun d hd => (List.mem_append.mp hd).elim (tupds_iff.mp (tup_take j (tup_dss bs)) d) fun z => by
        cases List.mem_singleton.mp z
        exact tup_ds b6
      refine catA_dp ((Tk.same sC).dp (.tuple _) tB hB) hC (by rw [List.length_append, List.length_take, List.length_drop, dss_len]; simp; omega) tB (tup_drop (j + 1) (tup_dss bs)) fun vR HR sR hR => ?_
      have eb : (dss bs).take j ++ [.tuple (ds b6)] ++ (dss bs).drop (j + 1) = dss (bs.take j ++ b6 :: bs.drop (j + 1)) := by
        rw [dss_take, dss_drop, dss_app, List.append_assoc]
        rfl
      rw [eb] at hR
      refine ⟨(by show 2 ≤ sizeLine; decide), fun y hy => ?_⟩
      have sy := same_new hy (.tup [.str "choose", vR])
      have sAll := sAB.trans (sC.trans (sR.trans sy))
      exact q _ _ (.ch (bs.take j ++ b6 :: bs.drop (j + 1))) (.tup (SqT.of upd_same) (.cons (.str _) (.cons ((Tk.same sy).dp (.tuple (dss _)) (tup_dss _) hR) .nil))) (Wp.ch hbj hso hsw wr6) (hW6.same sAll) (k5.trans ((Kp.of_same sA).trans (k6.trans (Kp.of_same sAll)))) (t56.trans (Tk.same sAll))
    · have hno : ∀ bs, st ≠ .ch bs := fun bs e => hch ⟨bs, e⟩
      refine ifF ?_ ?_
      · cases st with
        | ch bs => exact absurd rfl (hno bs)
        | dd _ => cases hio
        | ud _ => cases hio
        | cl _ => cases hio
        | rt => cases hio
        | lp _ => show decide ((("loop" : Str)) = "choose") = false; decide +kernel
        | en _ _ => show decide ((("ensure" : Str)) = "choose") = false; decide +kernel
      obtain ⟨dl, hdl, tdl, l2, l3, pick⟩ := pick_body hio hno hso hsw
      rw [hdl] at hst4
      obtain ⟨sa2, sxs2, e2, hss2, hsa, hsl⟩ := len_ok hst4
      cases e2
      refine ⟨_, rfl, _, rfl, _, sxs2, rfl, .inr hss2, _, _, rfl, rfl, w, l, c + (3 * n + 2), ((sxs2.length : Int) - 1), rfl, hW4.le (by omega), by omega, by omega, fun r3 H5 y0 y1 hW5 k5 t5 => ?_⟩
      obtain ⟨j, rfl⟩ : ∃ j : Nat, r3 = (j : Int) := ⟨r3.toNat, by omega⟩
      have hj : j + 1 < dl.length := by omega
      obtain ⟨bj, hbj, hoj, hnj, hkj, hlj, hwj, back⟩ := pick j hj
      have hj1 : 1 + j < sxs2.length := by omega
      have hxj := List.getElem?_eq_getElem hj1
      generalize sxs2[1 + j] = xj at hxj
      obtain ⟨dj, hdj, hdpj⟩ := dps_get' hsa hxj
      rw [hbj] at hdj
      cases hdj
      have e1j : (1 : Int) + (j : Nat) = ((1 + j : Nat) : Int) := by omega
      refine ⟨_, _, rfl, rfl, ?_⟩
      show gName 3 (.int ((1 : Int) + (j : Nat))) _ _ _
      rw [e1j]
      have hst5 := t5.dp (.tuple dl) tdl hst4
      refine ⟨_, rfl, _, rfl, _, rfl, slTo hst5 tdl (by omega) fun vA HA sA hA => ?_⟩
      have t5A := t5.trans (Tk.same sA)
      refine ⟨_, rfl, _, rfl, _, rfl, _, _, _, _, rfl, rfl, t5A.sqt hss2, atI_nat hxj, _, rfl, ?_⟩
      refine ⟨w, l, xj, xv, c, AL, BN, bj, x, m, d - 1, e', rfl, hW5.same sA, by omega, t5A.dp (.tuple (ds bj)) (tup_ds bj) hdpj, t5A.dp _ (tup_St x) hxv, by omega, hoj, hxo, hlj, hwj, hxw, fun H6 v6 b6 hv6 wr6 hW6 k6 t6 => ?_⟩
      obtain ⟨st', hd', wr'⟩ := back b6 _ _ wr6
      refine ⟨(by show 1 ≤ sizeLine; decide), fun z hz => ?_⟩
      have sz := same_new hz (.tup [v6])
      have tA : TupDs (dl.take (1 + j)) := tup_take (1 + j) tdl
      refine catA_dp ((t6.trans (Tk.same sz)).dp (.tuple _) tA hA) (.tup (SqT.of upd_same) (.cons ((Tk.same sz).dp (.tuple (ds b6)) (tup_ds b6) hv6) .nil)) (by rw [List.length_take]; simp; omega) tA ⟨tup_ds b6, trivial⟩ fun vB HB sB hB => ?_
      have sAB := sz.trans sB
      have ej : ((1 + j : Nat) : Int) + 1 = ((1 + j + 1 : Nat) : Int) := by omega
      have t6B := t6.trans (Tk.same sAB)
      refine ⟨_, rfl, _, rfl, _, _, rfl, rfl, _, rfl, ?_⟩
      rw [ej]
      dsimp only [tNoPart]
      refine slFrom (i := 1 + j + 1) ((t5A.trans t6B).dp (.tuple dl) tdl hst4) tdl (by omega) fun vC HC sC hC => ?_
      have tB : TupDs (dl.take (1 + j) ++ [.tuple (ds b6)]) := tupds_iff.mpr fun d hd => (List.mem_append.mp hd).elim (tupds_iff.mp tA d) fun z => by
        cases List.mem_singleton.mp z
        exact tup_ds b6
      refine catA_dp ((Tk.same sC).dp (.tuple _) tB hB) hC (by rw [List.length_append, List.length_take, List.length_drop]; simp; omega) tB (tup_drop (1 + j + 1) tdl) fun vR HR sR hR => ?_
      rw [← hd'] at hR
      have sAll := sAB.trans (sC.trans sR)
      exact q _ _ st' hR wr' (hW6.same sAll) (k5.trans ((Kp.of_same sA).trans (k6.trans (Kp.of_same sAll)))) (t5A.trans (t6.trans (Tk.same sAll)))
theorem sc__law_put : FnScope ["well", "body", "statement", "outer", "k", "at"] ["well", "body", "statement"] (C8.fnScope (topS 40)) := C8.fnScope_by (by decide +kernel)
theorem ok_put {n e : Nat} {f : Addr} {fd : FuncData} (F : C8.Def K mg "_law_put" (topS 40) f fd) (b : Binds K fd ["well", "body", "statement"] []) (B : Bl K mg) (c_draw : C8.Cal P w K mg base 1 "_law_draw" spDraw []) (c_pi : C8.Cal P w K mg base e "_law_put_in" (spPI K n) []) (he : 1 ≤ e) : C8.Cal P w K mg base (e + 1) "_law_put" (spPut K (n + 1)) [] := by
  refine C8.cal0 F b .nil sc__law_put ?len ?body
  case len => rintro vs H Q E ⟨w, l, bv, xv, c, AL, BN, b, x, m, d, e', rfl, _⟩; rfl
  case body =>
    rintro cdv A outer s H vs Q E hr ⟨w, l, bv, yv, c, AL, BN, b, y, m, d, e', rfl, hW, hdn, hd, hyv, hn, hok, hyo, hlen, hwd, hyw, q⟩
    refine ⟨_, (pss_cons (ps_setLc (i := 3)  (own := [("k", 4)]) (tt := ttO K) (g := gName 4) (by rfl) sc__law_put.nd rfl rfl (sw_true rfl rfl rfl (by decide +kernel)) (pi_range1 rfl B.range (pa_cons (pe_callB call_len_seq rfl B.len PySem.boot_len (pa_cons (pv 1) pa_nil)) pa_nil)) (blkOk_by (own := [("k", 4)]) (N := ["well", "body", "statement", "outer", "k", "at"]) (sc := (C8.fnScope (topS 40))) (by decide +kernel)) (fun _ _ _ _ _ => pg_name (i := 4) sc__law_put.nd rfl (Or.inl rfl)) (fun _ _ _ _ _ => by exact (pts_one (pt_cmpR op_in_seq (pe_ix ix_tup (pe_ix ix_tup (pv 1) (pv 4) (fun _ _ => rfl)) pe_int (fun _ _ => rfl)) (pe_tup (pa_cons pe_str (pa_cons pe_str (pa_cons pe_str pa_nil)))) (by with_unfolding_all rfl)))) (fun _ _ _ _ _ => (pv 4)))
    (C8.pss_cut (ps_if (PW.pt (pw_and (pt_cmpR (op_neD hr.units) (pv 3) (pe_lst pa_nil) (nomark _)) (pw_and1 (pt_cmpR op_gt (C8.pe_c c_draw hr (by omega) rfl (pa_cons (pv 0) (pa_cons pe_int pa_nil))) pe_int (nomark _))))) (pss_cons (ps_set (i := 4) sc__law_put.nd rfl (Or.inl rfl) (pe_ix ix_list (pv 3) (C8.pe_c c_draw hr (by omega) rfl (pa_cons (pv 0) (pa_cons (pe_callB call_len_seq rfl B.len PySem.boot_len (pa_cons (pv 3) pa_nil)) pa_nil))) (fun _ _ => rfl)))
    (pss_one (ps_ret (pe_op op_catA (pe_op op_catA (pe_slice sl_tupA (pv 1) po_none (po_some (pv 4))) (pe_tup (pa_cons (C8.pe_c c_pi hr (by omega) rfl (pa_cons (pv 0) (pa_cons (pe_ix ix_tup (pv 1) (pv 4) (fun _ _ => rfl)) (pa_cons (pv 2) pa_nil)))) pa_nil))) (pe_slice sl_tupA (pv 1) (po_some (pe_op op_add (pv 4) pe_int)) po_none))))) pss_nil)
    (pss_cons (ps_set (i := 5) sc__law_put.nd rfl (Or.inl rfl) (C8.pe_c c_draw hr (by omega) rfl (pa_cons (pv 0) (pa_cons (pe_op op_add (pe_callB call_len_seq rfl B.len PySem.boot_len (pa_cons (pv 1) pa_nil)) pe_int) pa_nil))))
    (pss_one (ps_ret (pe_op op_catA (pe_op op_catA (pe_slice sl_tupA (pv 1) po_none (po_some (pv 5))) (pe_tup (pa_cons (pv 2) pa_nil))) (pe_slice sl_tupA (pv 1) (po_some (pe_op op_add (pv 5) (C8.pe_c c_draw hr (by omega) rfl (pa_cons (pv 0) (pa_cons pe_int pa_nil))))) po_none))))))), ?_⟩
    obtain ⟨ba, bxs, rfl, hbs, hba, hbl⟩ := len_ok hd
    rw [ds_len] at hbl
    have hbn := len_ns b
    have hbl60 : bxs.length ≤ 300 := by omega
    refine ⟨_, rfl, ba, bxs, rfl, .inr hbs, _, rfl, by omega, by omega, fun O hO => ?_⟩
    have hO0 : ∀ x o, H x = some o → x ≠ O := fun x o e z => by rw [z, hO] at e; cases e
    refine lc_range (lo := 0) (n := ((bxs.length : Int)).toNat) (fun i H' => H' O = some (.lst (ixV (outs b i))) ∧ Same H H') ?_ ?_ ?_
    · exact ⟨upd_same, same_new hO _⟩
    · rintro i H1 hi ⟨hv1, s1⟩
      have hib : i < bxs.length := by omega
      have hx := List.getElem?_eq_getElem hib
      generalize bxs[i] = x at hx
      obtain ⟨d, hdd, hdp⟩ := dps_get' hba hx
      obtain ⟨st, hst, rfl⟩ := ds_get hdd
      obtain ⟨sa, sxs, rfl, hss, hs0⟩ := head_of ((Tk.same s1).dp _ (tup_St st) hdp)
      have ei : ((0 : Int) + (i : Nat)) = ((i : Nat) : Int) := by omega
      rw [ei]
      refine ⟨rfl, ?_⟩
      refine ⟨_, rfl, _, rfl, _, _, _, _, rfl, rfl, (Tk.same s1).sqt hbs, atI_nat hx, _, _, _, _, rfl, rfl, hss, hs0, (by show 3 ≤ sizeLine; decide), fun p hp => ⟨p, _, rfl, .inr (SqT.of upd_same), rfl, rfl, _, rfl, ?_⟩⟩
      have s2 := s1.trans (same_new hp (.tup [.str "choose", .str "loop", .str "ensure"]))
      have hv2 := (same_new hp (.tup [.str "choose", .str "loop", .str "ensure"])) _ _ hv1
      show (if (if false = true then _ else inV (.str st.word) [V.str "choose", V.str "loop", V.str "ensure"]) = true then _ else _)
      rw [if_neg Bool.false_ne_true, word_in]
      have es := outs_succ b i hst
      cases ho : st.isO with
      | false =>
        rw [ho, if_neg Bool.false_ne_true] at es
        refine ifF rfl ⟨?_, s2⟩
        rw [es]
        exact hv2
      | true =>
        rw [ho, if_pos rfl] at es
        refine ifT rfl ⟨_, rfl, _, hv2, ?_, ?_, fun y o e => ?_⟩
        · have := outs_len b i
          exact Nat.lt_of_le_of_lt (show _ ≤ 300 by rw [ixV, ixI, List.length_map, List.length_map]; omega) (by decide)
        · rw [es]
          unfold ixV ixI
          rw [List.map_append, List.map_append]
          exact upd_same
        · rw [upd_ne (hO0 _ _ e)]
          exact s2 _ _ e
    · rintro H1 ⟨hv1, s1⟩
      have en : ((bxs.length : Int)).toNat = b.length := by omega
      rw [en] at hv1
      generalize hks : outs b b.length = ks at hv1
      have hkl : ks.length ≤ 300 := by have := outs_len b b.length; rw [hks] at this; omega
      have hW1 := hW.same s1
      have hd1 := (Tk.same s1).dp (.tuple (ds b)) (tup_ds b) hd
      have k1 : Kp [w, l] H H1 := Kp.of_same s1
      have hwO : ∀ H', Kp [w, l] H1 H' → ∀ o, H1 O = some o → H' O = some o := fun H' k o e => k _ _ (by
        obtain ⟨ns', a', n', hw0, hl0, _⟩ := id hW
        intro z
        rcases List.mem_cons.mp z with z | z
        · exact hO0 _ _ hw0 z.symm
        · exact hO0 _ _ hl0 (List.mem_singleton.mp z).symm) e
      refine ⟨fun σ' H' => σ' = [some (.ref w), some (.ref ba), some yv, some (.ref O), none, none] ∧ Wl H' w l (c + 2) ∧ Kp [w, l] H H' ∧ Tk H H', ?_, ?_⟩
      · refine ⟨_, rfl, (by show 0 ≤ sizeLine; decide), fun p0 hp0 => ⟨.list ((ixI ks).map PyData.int), .list [], .lst (SqL.of ((same_new hp0 _) _ _ hv1)) (dp_ints9 _), .lst (SqL.of upd_same) .nil, shaped_ints _, by decide +kernel, _, rfl, ?_⟩⟩
        rw [eqv_nil9]
        have sp := same_new hp0 (.lst [])
        have hv2 := sp _ _ hv1
        have hW2 := hW1.same sp
        have k2 : Kp [w, l] H1 (upd H1 p0 (.lst [])) := Kp.of_same sp
        have t2 : Tk H (upd H1 p0 (.lst [])) := Tk.same (s1.trans sp)
        generalize upd H1 p0 (.lst []) = H2 at hv2 hW2 k2 t2
        cases hk : ks with
        | nil => exact ifF rfl (ifF rfl ⟨rfl, hW2.le (by omega), k1.trans k2, t2⟩)
        | cons k0 kr =>
        rw [← hk]
        refine ifT (by rw [hk]; rfl) ?_
        refine ⟨_, rfl, w, l, c + (3 * n + 4), 4, rfl, hW2.le (by omega), by decide, by decide, fun r H3 r0 r1 hW3 k3 t3 => ⟨_, _, rfl, rfl, _, rfl, ?_⟩⟩
        rcases dec_gt0 r with hz | hz
        rotate_left
        · rw [hz]
          exact iteF ⟨rfl, hW3.le (by omega), k1.trans (k2.trans k3), t2.trans t3⟩
        rw [hz]
        refine iteT ?_
        have hv3 := hwO H3 (k2.trans k3) _ hv1
        have hkl2 : (ixV ks).length = ks.length := by unfold ixV ixI; rw [List.length_map, List.length_map]
        have hk1 : 1 ≤ ks.length := by rw [hk]; simp
        refine ⟨_, rfl, _, rfl, _, rfl, O, _, rfl, .inl (SqL.of hv3), w, l, c + (3 * n + 3), ((ixV ks).length : Nat), rfl, hW3.le (by omega), by omega, by omega, fun r2 H4 z0 z1 hW4 k4 t4 => ?_⟩
        obtain ⟨j2, rfl⟩ : ∃ j2 : Nat, r2 = (j2 : Int) := ⟨r2.toNat, by omega⟩
        have hj2 : j2 < ks.length := by omega
        have hkj := List.getElem?_eq_getElem hj2
        generalize ks[j2] = k at hkj
        obtain ⟨st, hst, hio⟩ := outs_get (by rw [hks]; exact hkj)
        have hkb : k < b.length := (List.getElem?_eq_some_iff.mp hst).1
        have hv4 := hwO H4 (k2.trans (k3.trans k4)) _ hv1
        have hvx : (ixV ks)[j2]? = some (V.int (k : Int)) := by unfold ixV ixI; rw [List.getElem?_map, List.getElem?_map, hkj]; rfl
        refine ⟨O, _, _, _, rfl, rfl, SqL.of hv4, atI_nat hvx, ?_⟩
        have t04 : Tk H H4 := t2.trans (t3.trans t4)
        have k04 : Kp [w, l] H H4 := k1.trans (k2.trans (k3.trans k4))
        have hxk : k < bxs.length := by omega
        have hx := List.getElem?_eq_getElem hxk
        generalize bxs[k] = x at hx
        obtain ⟨d, hdd, hdp0⟩ := dps_get' hba hx
        obtain ⟨st2, hst2, rfl⟩ := ds_get hdd
        rw [hst] at hst2
        cases hst2
        have hso := oks_iff.mp hok st (List.mem_of_getElem? hst)
        have hsn := ns_mem (List.mem_of_getElem? hst)
        have hsk := ks_mem (List.mem_of_getElem? hst)
        have hsw := wms_iff.mp hwd st (List.mem_of_getElem? hst)
        have hd4 := t04.dp (.tuple (ds b)) (tup_ds b) hd
        have hkl5 : k ≤ (ds b).length := by rw [ds_len]; omega
        refine ⟨_, rfl, _, rfl, _, rfl, slTo hd4 (tup_ds b) hkl5 fun vA HA sA hA => ?_⟩
        have t4A := t04.trans (Tk.same sA)
        refine ⟨_, rfl, _, rfl, _, rfl, _, _, _, _, rfl, rfl, t4A.sqt hbs, atI_nat hx, _, rfl, ?_⟩
        refine ⟨w, l, x, yv, c, AL, BN, st, y, m, d, e', rfl, hW4.same sA, hio, by omega, t4A.dp _ (tup_St st) hdp0, t4A.dp _ (tup_St y) hyv, by omega, hso, hyo, hsw, hyw, fun H5 v st' hv wr hW5 k5 t5 => ?_⟩
        refine ⟨(by show 1 ≤ sizeLine; decide), fun z hz => ?_⟩
        have sz := same_new hz (.tup [v])
        refine catA_dp ((t5.trans (Tk.same sz)).dp (.tuple ((ds b).take k)) (tup_take k (tup_ds b)) hA) (.tup (SqT.of upd_same) (.cons ((Tk.same sz).dp _ (tup_St st') hv) .nil)) (by rw [List.length_take, ds_len]; simp; omega) (tup_take k (tup_ds b)) ⟨tup_St st', trivial⟩ fun vB HB sB hB => ?_
        have sAB := sz.trans sB
        have t5B := t4A.trans (t5.trans (Tk.same sAB))
        have ek : ((k : Nat) : Int) + 1 = ((k + 1 : Nat) : Int) := by omega
        refine ⟨_, rfl, _, rfl, _, _, rfl, rfl, _, rfl, ?_⟩
        rw [ek]
        dsimp only [tNoPart]
        refine slFrom (i := k + 1) (t5B.dp (.tuple (ds b)) (tup_ds b) hd) (tup_ds b) (by rw [ds_len]; omega) fun vC HC sC hC => ?_
        have tB : TupDs ((ds b).take k ++ [st'.d]) := tupds_iff.mpr fun d hd => (List.mem_append.mp hd).elim (tupds_iff.mp (tup_take k (tup_ds b)) d) fun z => by
          cases List.mem_singleton.mp z
          exact tup_St st'
        refine catA_dp ((Tk.same sC).dp (.tuple _) tB hB) hC (by rw [List.length_append, List.length_take, List.length_drop, ds_len]; simp; omega) tB (tup_drop (k + 1) (tup_ds b)) fun vR HR sR hR => ?_
        have eb : (ds b).take k ++ [st'.d] ++ (ds b).drop (k + 1) = ds (b.take k ++ st' :: b.drop (k + 1)) := by
          rw [ds_take, ds_drop, ds_app, List.append_assoc]
          rfl
        rw [eb] at hR
        have sAll := sAB.trans (sC.trans sR)
        exact q _ _ _ hR (Wp.of1 hst hok hlen hwd wr) (hW5.same sAll) (k04.trans ((Kp.of_same sA).trans (k5.trans (Kp.of_same sAll)))) (t4A.trans (t5.trans (Tk.same sAll)))
      · rintro _ H2 ⟨rfl, hW2, k2, t2⟩
        have hd2 := t2.dp (.tuple (ds b)) (tup_ds b) hd
        obtain ⟨ba2, bxs2, e2, hbs2, _, hbl2⟩ := len_ok hd2
        cases e2
        rw [ds_len] at hbl2
        refine ⟨_, rfl, _, rfl, ba, bxs2, rfl, .inr hbs2, _, _, rfl, rfl, w, l, c + 1, ((bxs2.length : Int) + 1), rfl, hW2, by omega, by omega, fun r H3 r0 r1 hW3 k3 t3 => ?_⟩
        obtain ⟨lo, rfl⟩ : ∃ lo : Nat, r = (lo : Int) := ⟨r.toNat, by omega⟩
        have hd3 := t3.dp (.tuple (ds b)) (tup_ds b) hd2
        have hlo : lo ≤ (ds b).length := by rw [ds_len]; omega
        refine ⟨_, rfl, _, rfl, _, rfl, slTo hd3 (tup_ds b) hlo fun vA HA sA hA => ?_⟩
        refine ⟨_, rfl, (by show 1 ≤ sizeLine; decide), fun z hz => ?_⟩
        have sz := same_new hz (.tup [yv])
        have ty := (t2.trans t3).trans (Tk.same (sA.trans sz))
        refine catA_dp ((Tk.same sz).dp (.tuple ((ds b).take lo)) (tup_take lo (tup_ds b)) hA) (.tup (SqT.of upd_same) (.cons (ty.dp _ (tup_St y) hyv) .nil)) (by rw [List.length_take, ds_len]; simp; omega) (tup_take lo (tup_ds b)) ⟨tup_St y, trivial⟩ fun vB HB sB hB => ?_
        have sAB := sA.trans (sz.trans sB)
        refine ⟨_, rfl, _, rfl, _, rfl, w, l, c, 2, rfl, hW3.same sAB, by decide, by decide, fun r2 H4 z0 z1 hW4 k4 t4 => ?_⟩
        obtain ⟨df, rfl⟩ : ∃ df : Nat, r2 = (df : Int) := ⟨r2.toNat, by omega⟩
        have eh : ((lo : Nat) : Int) + (df : Nat) = ((lo + df : Nat) : Int) := by omega
        refine ⟨_, _, rfl, rfl, _, rfl, ?_⟩
        rw [eh]
        dsimp only [tNoPart]
        have tB : TupDs ((ds b).take lo ++ [y.d]) := tupds_iff.mpr fun d hd => (List.mem_append.mp hd).elim (tupds_iff.mp (tup_take lo (tup_ds b)) d) fun z => by
          cases List.mem_singleton.mp z
          exact tup_St y
        have t34 := t3.trans ((Tk.same sAB).trans t4)
        refine slBeyond (i := lo + df) (t34.dp (.tuple (ds b)) (tup_ds b) hd2) (tup_ds b) fun vC HC sC hC => ?_
        refine catA_dp ((t4.trans (Tk.same sC)).dp (.tuple _) tB hB) hC (by rw [List.length_append, List.length_take, List.length_drop, ds_len]; simp; omega) tB (tup_drop (lo + df) (tup_ds b)) fun vR HR sR hR => ?_
        have eb : (ds b).take lo ++ [y.d] ++ (ds b).drop (lo + df) = ds (b.take lo ++ y :: b.drop (lo + df)) := by
          rw [ds_take, ds_drop, ds_app, List.append_assoc]
          rfl
        rw [eb] at hR
        have sAll := sC.trans sR
        exact q _ _ _ hR (Wp.put (by omega) (by rw [ds_len] at hlo; exact hlo) hok hlen hwd hyo hyw) (hW4.same sAll) (k2.trans (k3.trans ((Kp.of_same sAB).trans (k4.trans (Kp.of_same sAll))))) (t2.trans (t34.trans (Tk.same sAll)))
theorem put_all {fp fi : Addr} {fdp fdi : FuncData} (Fp : C8.Def K mg "_law_put" (topS 40) fp fdp) (bp : Binds K fdp ["well", "body", "statement"] []) (Fi : C8.Def K mg "_law_put_in" (topS 41) fi fdi) (bi : Binds K fdi ["well", "outer", "statement"] []) (B : Bl K mg) (c_draw : C8.Cal P w K mg base 1 "_law_draw" spDraw []) : ∀ n : Nat, C8.Cal P w K mg base (2 * n + 1) "_law_put" (spPut K n) []
  | 0 => by
    refine C8.cal0 Fp bp .nil sc__law_put ?len ?body
    case len => rintro vs H Q E ⟨_, _, _, _, _, _, _, _, _, _, _, _, rfl, _⟩; rfl
    case body => rintro cdv A outer s H vs Q E hr ⟨_, _, _, _, _, _, _, _, _, _, _, _, _, _, h, _⟩; exact absurd h (Nat.not_lt_zero _)
  | n + 1 => ok_put Fp bp B c_draw (ok_pi Fi bi B c_draw (put_all Fp bp Fi bi B c_draw n) (by omega)) (by omega)
end
end K04


set_option Elab.async false
set_option linter.all false
set_option maxRecDepth 100000
set_option maxHeartbeats 8000000
namespace K04
open PySem PySem.Spec PyProof.Rows L2
/-! ### what the spoiling keeps -/
theorem Nok.cons {A : List Str} {x : Str} (h : Nok A) (hx : nameB x = true) : Nok (x :: A) := fun y hy => (List.mem_cons.mp hy).elim (fun z => by rw [z]; exact hx) (h y)
theorem strs_app (a b : List Str) : (a ++ b).map PyData.str = a.map PyData.str ++ b.map PyData.str := List.map_append
theorem Plan.letter {L : List Str} {P : List (Str × List St)} {A B : List Str} {j k : Nat} {y : Str} (h : Plan L P A B j) (hl : L.length < 20) (hy : y ∈ L) : Plan (L.take k ++ y :: L.drop k) P A B (j + 1) :=
  { h with
    l1 := by simp; omega
    l2 := by rw [List.length_append, List.length_cons, List.length_take, List.length_drop]; omega
    inA := fun x hx => h.inA x (by
      rcases List.mem_append.mp hx with z | z
      · exact List.mem_of_mem_take z
      · rcases List.mem_cons.mp z with rfl | z
        · exact hy
        · exact List.mem_of_mem_drop z)
    wm := fun b hb => ⟨Nat.le_trans (h.wm b hb).1 (by omega), wms_le (by omega) _ (by omega) (h.wm b hb).2⟩
    n := by have := h.n; omega
    lenA := by have := h.lenA; omega
    lenB := by have := h.lenB; omega }
theorem Plan.proc {L : List Str} {P : List (Str × List St)} {A B A' B' : List Str} {j i e k : Nat} {p : Str × List St} {nm : Str} {b' : List St} (h : Plan L P A B j) (hp : P[i]? = some p) (ha : ∀ x ∈ A, x ∈ A') (hb : ∀ x ∈ B, x ∈ B') (oa : Nok A') (ob : Nok B') (la : A'.length ≤ A.length + 1) (lb : B'.length ≤ B.length + 1)
    (hn : nm ∈ B) (w : Wp A' B' (4 + j) (7 + 2 * j) e k p.2 b') (he : e ≤ 2) (hk : k ≤ 4) : Plan L (P.take i ++ (nm, b') :: P.drop (i + 1)) A' B' (j + 1) := by
  have eq := split_at hp
  generalize P.take i = x at eq
  generalize P.drop (i + 1) = y at eq
  subst eq
  have l1 := h.p1
  have l2 := h.p2
  have hB := h.inB
  have hok := h.ok
  have hwm := h.wm
  have hnn := h.n
  unfold nsP at hok hwm hnn
  simp only [List.map_append, List.map_cons, List.length_append, List.length_cons] at l1 l2 hB hok hwm hnn
  refine ⟨h.l1, h.l2, by simp; omega, by simp only [List.length_append, List.length_cons]; omega, oa, ob, fun z hz => ha z (h.inA z hz), ?_, ?_, ?_, ?_, by have := h.lenA; omega, by have := h.lenB; omega⟩
  · intro z hz
    simp only [List.map_append, List.map_cons] at hz
    rcases List.mem_append.mp hz with q | q
    · exact hb z (hB z (List.mem_append_left _ q))
    · rcases List.mem_cons.mp q with rfl | q
      · exact hb _ hn
      · exact hb z (hB z (List.mem_append_right _ (List.mem_cons_of_mem _ q)))
  · intro z hz
    unfold nsP at hz
    simp only [List.map_append, List.map_cons] at hz
    rcases List.mem_append.mp hz with q | q
    · exact oks_mono ha hb false _ _ (hok z (List.mem_append_left _ q))
    · rcases List.mem_cons.mp q with rfl | q
      · exact w.ok
      · exact oks_mono ha hb false _ _ (hok z (List.mem_append_right _ (List.mem_cons_of_mem _ q)))
  · intro z hz
    unfold nsP at hz
    simp only [List.map_append, List.map_cons] at hz
    have up : ∀ z, z ∈ (x.map Prod.snd) ++ p.2 :: y.map Prod.snd → z.length ≤ 4 + (j + 1) ∧ wms (4 + (j + 1)) (7 + 2 * (j + 1)) z := fun z hz => ⟨Nat.le_trans (hwm z hz).1 (by omega), wms_le (by omega) _ (by omega) (hwm z hz).2⟩
    rcases List.mem_append.mp hz with q | q
    · exact up z (List.mem_append_left _ q)
    · rcases List.mem_cons.mp q with rfl | q
      · exact ⟨w.l, wms_le (by omega) _ (by omega) w.w⟩
      · exact up z (List.mem_append_right _ (List.mem_cons_of_mem _ q))
  · have := w.n
    unfold nsP
    simp only [List.map_append, List.map_cons, nss_app, nss] at hnn ⊢
    omega
theorem Wp.refl {A B : List Str} {m d : Nat} {b : List St} (ho : oks A B false b) (hl : b.length ≤ m) (hw : wms m d b) : Wp A B m d 0 0 b b := ⟨ho, by omega, wms_le (by omega) _ (by omega) hw, Nat.le_refl _⟩
/-- the second bodies that are put in -/
def secs3 (l0 : Str) : List (List St) := [[.rt], [.en [.rt] []], [.dd l0, .lp [.rt]]]
theorem sec3_ok {A B : List Str} {l0 : Str} (h : l0 ∈ A) {m : Nat} (hm : 2 ≤ m) : ∀ b ∈ secs3 l0, (St.en [] b).ok A B false ∧ (St.en [] b).wm m 2 ∧ (St.en [] b).n ≤ 4 := by
  intro b hb
  unfold secs3 at hb
  simp only [List.mem_cons, List.not_mem_nil, or_false] at hb
  rcases hb with rfl | rfl | rfl
  · refine ⟨by simp [St.ok, oks], ?_, by simp [St.n, ns]⟩
    simp [St.wm, wms]
    omega
  · refine ⟨by simp [St.ok, oks], ?_, by simp [St.n, ns]⟩
    simp [St.wm, wms]
    omega
  · refine ⟨by simp [St.ok, oks, h], ?_, by simp [St.n, ns]⟩
    simp [St.wm, wms]
    omega
section
variable {P : Program} {w : World} {K : PySem.W.Frag} {mg : Str → Option Value} {base : Heap}

def spSpoil (K : PySem.W.Frag) : Sp := fun vs H Q _ => ∃ w l v c L Ps A B j, vs = [.ref w, v] ∧ Wl H w l (c + 100) ∧ PD K H v L Ps ∧ Plan L Ps A B j ∧ j ≤ 1 ∧
  ∀ H' v' L' P' A' B', PD K H' v' L' P' → Plan L' P' A' B' (j + 1) → Wl H' w l c → Kp [w, l] H H' → Tk H H' → Q v' H'
theorem sc__law_spoilt : FnScope ["well", "plan", "letters", "procedures", "names", "procedure", "at", "way", "name", "body", "k", "seconds"] ["well", "plan"] (C8.fnScope (topS 42)) := C8.fnScope_by (by decide +kernel)
theorem ok__law_spoilt {f : Addr} {fd : FuncData} (F : C8.Def K mg "_law_spoilt" (topS 42) f fd) (b : Binds K fd ["well", "plan"] []) (B : Bl K mg) (c_draw : C8.Cal P w K mg base 1 "_law_draw" spDraw []) (c_name : C8.Cal P w K mg base 2 "_law_name" spName9 []) (c_put : C8.Cal P w K mg base 25 "_law_put" (spPut K 12) []) : C8.Cal P w K mg base 26 "_law_spoilt" (spSpoil K) [] := by
  refine C8.cal0 F b .nil sc__law_spoilt ?len ?body
  case len => rintro vs H Q E ⟨w, l, v, c, L, Ps, AL, BN, j, rfl, _⟩; rfl
  case body =>
    rintro cdv A outer s H vs Q E hr ⟨w, l, v, c, L, Ps, AL, BN, j, rfl, hW, hpd, hP, hj, q⟩
    refine ⟨_, (pss_cons (ps_asg (pv 1) (pg_tup rfl (pgs_cons (pg_name (i := 2) sc__law_spoilt.nd rfl (Or.inl rfl)) (pgs_cons (pg_name (i := 3) sc__law_spoilt.nd rfl (Or.inl rfl)) pgs_nil))))
    (pss_cons (ps_setLc (i := 4) (te := tOp (rIxT K) (tVar 5) (tC (.int 0)))  (own := [("procedure", 5)]) (g := gName 5) (by rfl) sc__law_spoilt.nd rfl rfl (sw_true rfl rfl rfl (by decide +kernel)) (pi_tup (pv 3)) (blkOk_by (own := [("procedure", 5)]) (N := ["well", "plan", "letters", "procedures", "names", "procedure", "at", "way", "name", "body", "k", "seconds"]) (sc := (C8.fnScope (topS 42))) (by decide +kernel)) (fun _ _ _ _ _ => pg_name (i := 5) sc__law_spoilt.nd rfl (Or.inl rfl)) (fun _ _ _ _ _ => pts_nil) (fun _ _ _ _ _ => by exact (pe_ix ix_tup (pv 5) pe_int (fun _ _ => rfl))))
    (pss_cons (ps_par (i := 6) (j := 7) rfl sc__law_spoilt.nd rfl rfl (by decide) rfl rfl (pa_cons (C8.pe_c c_draw hr (by decide) rfl (pa_cons (pv 0) (pa_cons (pe_callB call_len_seq rfl B.len PySem.boot_len (pa_cons (pv 3) pa_nil)) pa_nil))) (pa_cons (C8.pe_c c_draw hr (by decide) rfl (pa_cons (pv 0) (pa_cons pe_int pa_nil))) pa_nil)) (by with_unfolding_all rfl))
    (pss_cons (ps_asg (pe_ix ix_tup (pv 3) (pv 6) (fun _ _ => rfl)) (pg_tup rfl (pgs_cons (pg_name (i := 8) sc__law_spoilt.nd rfl (Or.inl rfl)) (pgs_cons (pg_name (i := 9) sc__law_spoilt.nd rfl (Or.inl rfl)) pgs_nil))))
    (C8.pss_cut (ps_if (PW.pt (pw_and (pt_cmpR op_eq (pv 7) pe_int (nomark _)) (pw_and1 (pt_cmpR op_lt (pe_callB call_len_seq rfl B.len PySem.boot_len (pa_cons (pv 2) pa_nil)) pe_int (nomark _))))) (pss_cons (ps_set (i := 10) sc__law_spoilt.nd rfl (Or.inl rfl) (C8.pe_c c_draw hr (by decide) rfl (pa_cons (pv 0) (pa_cons (pe_op op_add (pe_callB call_len_seq rfl B.len PySem.boot_len (pa_cons (pv 2) pa_nil)) pe_int) pa_nil))))
    (pss_one (ps_ret (pe_tup (pa_cons (pe_op op_catA (pe_op op_catA (pe_slice sl_tupA (pv 2) po_none (po_some (pv 10))) (pe_tup (pa_cons (pe_ix ix_tup (pv 2) (C8.pe_c c_draw hr (by decide) rfl (pa_cons (pv 0) (pa_cons (pe_callB call_len_seq rfl B.len PySem.boot_len (pa_cons (pv 2) pa_nil)) pa_nil))) (fun _ _ => rfl)) pa_nil))) (pe_slice sl_tupA (pv 2) (po_some (pv 10)) po_none)) (pa_cons (pv 3) pa_nil)))))) pss_nil)
    (C8.pss_cut (ps_if (pt_cmpR op_eq (pv 7) pe_int (nomark _)) (pss_one (ps_set (i := 8) sc__law_spoilt.nd rfl (Or.inl rfl) (pe_ix ix_list (pv 4) (C8.pe_c c_draw hr (by decide) rfl (pa_cons (pv 0) (pa_cons (pe_callB call_len_seq rfl B.len PySem.boot_len (pa_cons (pv 4) pa_nil)) pa_nil))) (fun _ _ => rfl)))) (pss_one (ps_if (pt_cmpR op_lt (pv 7) pe_int (nomark _)) (pss_one (ps_set (i := 9) sc__law_spoilt.nd rfl (Or.inl rfl) (C8.pe_c c_put hr (by decide) rfl (pa_cons (pv 0) (pa_cons (pv 9) (pa_cons (pe_tup (pa_cons (pe_ix ix_list (pe_lst (pa_cons pe_str (pa_cons pe_str pa_nil))) (C8.pe_c c_draw hr (by decide) rfl (pa_cons (pv 0) (pa_cons pe_int pa_nil))) (fun _ _ => rfl)) (pa_cons (C8.pe_c c_name hr (by decide) rfl (pa_cons (pv 0) (pa_cons (pe_callTy call_list_of rfl B.list (by decide +kernel) (pa_cons (pv 2) pa_nil)) pa_nil))) pa_nil))) pa_nil)))))) (pss_one (ps_if (pt_cmpR op_eq (pv 7) pe_int (nomark _)) (pss_one (ps_set (i := 9) sc__law_spoilt.nd rfl (Or.inl rfl) (C8.pe_c c_put hr (by decide) rfl (pa_cons (pv 0) (pa_cons (pv 9) (pa_cons (pe_tup (pa_cons pe_str (pa_cons (C8.pe_c c_name hr (by decide) rfl (pa_cons (pv 0) (pa_cons (pv 4) pa_nil))) pa_nil))) pa_nil)))))) (pss_one (ps_if (pt_cmpR op_eq (pv 7) pe_int (nomark _)) (pss_cons (ps_set (i := 11) sc__law_spoilt.nd rfl (Or.inl rfl) (pe_lst (pa_cons (pe_tup (pa_cons (pe_tup (pa_cons pe_str pa_nil)) pa_nil)) (pa_cons (pe_tup (pa_cons (pe_tup (pa_cons pe_str (pa_cons (pe_tup (pa_cons (pe_tup (pa_cons pe_str pa_nil)) pa_nil)) (pa_cons (pe_tup pa_nil) pa_nil)))) pa_nil)) (pa_cons (pe_tup (pa_cons (pe_tup (pa_cons pe_str (pa_cons (pe_ix ix_tup (pv 2) pe_int (fun _ _ => rfl)) pa_nil))) (pa_cons (pe_tup (pa_cons pe_str (pa_cons (pe_tup (pa_cons (pe_tup (pa_cons pe_str pa_nil)) pa_nil)) pa_nil))) pa_nil))) pa_nil)))))
    (pss_one (ps_set (i := 9) sc__law_spoilt.nd rfl (Or.inl rfl) (C8.pe_c c_put hr (by decide) rfl (pa_cons (pv 0) (pa_cons (pv 9) (pa_cons (pe_tup (pa_cons pe_str (pa_cons (pe_tup pa_nil) (pa_cons (pe_ix ix_list (pv 11) (C8.pe_c c_draw hr (by decide) rfl (pa_cons (pv 0) (pa_cons pe_int pa_nil))) (fun _ _ => rfl)) pa_nil)))) pa_nil))))))) (pss_one (ps_set (i := 9) sc__law_spoilt.nd rfl (Or.inl rfl) (C8.pe_c c_put hr (by decide) rfl (pa_cons (pv 0) (pa_cons (pv 9) (pa_cons (pe_tup (pa_cons pe_str pa_nil)) pa_nil)))))))))))))
    (pss_one (ps_ret (pe_tup (pa_cons (pv 2) (pa_cons (pe_op op_catA (pe_op op_catA (pe_slice sl_tupA (pv 3) po_none (po_some (pv 6))) (pe_tup (pa_cons (pe_tup (pa_cons (pv 8) (pa_cons (pv 9) pa_nil))) pa_nil))) (pe_slice sl_tupA (pv 3) (po_some (pe_op op_add (pv 6) pe_int)) po_none)) pa_nil))))))))))), ?_⟩
    obtain ⟨pga, la, pvv, rfl, hps0, hla, hpv⟩ := hpd.open
    obtain ⟨pa, pxs, rfl, hps, hpa, hpl⟩ := len_ok hpv
    rw [List.length_map] at hpl
    have hp1 := hP.p1
    have hp2 := hP.p2
    have hl1 := hP.l1
    have hl2 := hP.l2
    refine ⟨_, rfl, pga, _, rfl, hps0, rfl, _, _, rfl, _, _, rfl, rfl, ?_⟩
    refine ⟨_, rfl, pa, rfl, ⟨_, hps⟩, fun D hD => ?_⟩
    refine lc_tup (xs := pxs) (fun i H' => H' D = some (.lst (((Ps.take i).map Prod.fst).map V.str)) ∧ Same H H') ?_ ?_ ?_ ?_
    · exact ⟨by simpa using upd_same, same_new hD _⟩
    · rintro i H' _ ⟨_, s5⟩
      exact (Tk.same s5).sqt hps
    · rintro i x H5 hx ⟨hv1, s5⟩
      obtain ⟨d, hd, hdp⟩ := dps_get' hpa hx
      obtain ⟨p, hp, rfl⟩ := procs_get hd
      have hd5 := (Tk.same s5).dp _ (tup_proc p) hdp
      obtain ⟨qa, qxs, rfl, hqs, hqa, hql⟩ := len_ok hd5
      cases hqa with
      | @cons v0 _ _ _ h0 hqa =>
      cases h0
      refine ⟨rfl, ?_⟩
      refine ⟨_, rfl, _, _, _, _, rfl, rfl, hqs, at0 _ _, _, hv1, ?_, ?_, ?_⟩
      · have h3 : (Ps.take i).length ≤ Ps.length := List.length_take_le' _ _
        exact Nat.lt_of_le_of_lt (show _ ≤ 8 by rw [List.length_map, List.length_map]; omega) (by decide)
      · rw [upd_same, List.take_succ, hp]
        simp
      · intro qq oo e
        rw [upd_ne (fun z => by rw [z, hD] at e; cases e)]
        exact s5 _ _ e
    rintro H2 ⟨hD2, s2⟩
    rw [hpl, List.take_length] at hD2
    have hW2 := hW.same s2
    have nD := hW.out hD
    refine ⟨_, rfl, _, rfl, pa, pxs, rfl, .inr ((Tk.same s2).sqt hps), w, l, c + 99, (pxs.length : Nat), rfl, hW2.le (by omega), by omega, by omega, fun r1 H3 r10 r11 hW3 k3 t3 => ?_⟩
    obtain ⟨i, rfl⟩ : ∃ i : Nat, r1 = (i : Int) := ⟨r1.toNat, by omega⟩
    have hi : i < pxs.length := by omega
    refine ⟨_, rfl, w, l, c + 98, 8, rfl, hW3, by decide, by decide, fun way H4 wy0 wy1 hW4 k4 t4 => ⟨_, _, rfl, ?_⟩⟩
    have t02 := Tk.same s2
    have t04 := t02.trans (t3.trans t4)
    have k04 : Kp [w, l] H H4 := (Kp.of_same s2).trans (k3.trans k4)
    have hxi := List.getElem?_eq_getElem hi
    generalize pxs[i] = xp at hxi
    obtain ⟨dp, hdp, hdpp⟩ := dps_get' hpa hxi
    obtain ⟨p, hp, rfl⟩ := procs_get hdp
    have hd4 := t04.dp _ (tup_proc p) hdpp
    obtain ⟨qa, qxs, rfl, hqs, hqa, hql⟩ := len_ok hd4
    cases hqa with
    | @cons v0 _ _ _ h0 hqa =>
    cases h0
    cases hqa with
    | @cons bv _ _ _ hbv hqa =>
    cases hqa
    refine ⟨_, rfl, _, rfl, _, _, _, _, rfl, rfl, t04.sqt hps, atI_nat hxi, ?_⟩
    refine ⟨qa, _, rfl, hqs, rfl, _, _, rfl, _, _, rfl, rfl, ?_⟩
    have hD4 := k4 _ _ nD (k3 _ _ nD hD2)
    have hpm : p ∈ Ps := List.mem_of_getElem? hp
    have hbm : p.2 ∈ nsP Ps := List.mem_map.mpr ⟨p, hpm, rfl⟩
    have hnm : p.1 ∈ BN := hP.inB _ (List.mem_map.mpr ⟨p, hpm, rfl⟩)
    have hbo := hP.ok _ hbm
    obtain ⟨hbl, hbw⟩ := hP.wm _ hbm
    have hbn := nss_mem hbm
    have hnn := hP.n
    have hbk := wms_k _ hbw
    have hlA := hP.lenA
    have hlB := hP.lenB
    have hdL : ∀ {H'}, Tk H H' → Dp K H' (.ref la) (.tuple (L.map PyData.str)) := fun t => .tup (t.sqt hla) (dp_strs L)
    have hdP : ∀ {H'}, Tk H H' → Dp K H' (.ref pa) (.tuple (Ps.map procD)) := fun t => t.dp (.tuple (Ps.map procD)) (tup_procs Ps) hpv
    refine ⟨fun σ' H' => σ' = [some (.ref w), some (.ref pga), some (.ref la), some (.ref pa), some (.ref D), none, some (.int (i : Nat)), some (.int way), some (.str p.1), some bv, none, none] ∧ H' = H4, ?_, ?_⟩
    · refine ⟨_, rfl, rfl, _, rfl, ?_⟩
      rw [dec_int]
      by_cases c0 : way = 0
      rotate_left
      · exact ifF (by simpa using c0) ⟨rfl, rfl⟩
      refine ifT (by simpa using c0) ⟨_, rfl, la, _, rfl, .inr (t04.sqt hla), _, _, rfl, rfl, _, rfl, ?_⟩
      by_cases c1 : (((L.map V.str).length : Nat) : Int) < 20
      rotate_left
      · exact ifF (by simpa using c1) ⟨rfl, rfl⟩
      refine ifT (by simpa using c1) ?_
      rw [List.length_map] at c1
      refine ⟨_, rfl, _, rfl, la, L.map V.str, rfl, .inr (t04.sqt hla), _, _, rfl, rfl, w, l, c + 97, (((L.map V.str).length : Nat) : Int) + 1, rfl, hW4.le (by omega), by omega, by rw [List.length_map]; omega, fun r5 H5 y0 y1 hW5 k5 t5 => ?_⟩
      rw [List.length_map] at y1
      obtain ⟨k, rfl⟩ : ∃ k : Nat, r5 = (k : Int) := ⟨r5.toNat, by omega⟩
      have hkl : k ≤ (L.map PyData.str).length := by rw [List.length_map]; omega
      have t05 := t04.trans t5
      refine ⟨_, rfl, _, rfl, _, rfl, slTo (hdL t05) (tup_strs L) hkl fun vA HA sA hA => ?_⟩
      have t0A := t05.trans (Tk.same sA)
      refine ⟨_, rfl, _, rfl, _, rfl, la, L.map V.str, rfl, .inr (t0A.sqt hla), w, l, c + 96, (((L.map V.str).length : Nat) : Int), rfl, (hW5.same sA).le (by omega), by rw [List.length_map]; omega, by rw [List.length_map]; omega, fun r6 H6 z0 z1 hW6 k6 t6 => ?_⟩
      rw [List.length_map] at z1
      obtain ⟨y, hy, hat⟩ := pick_str (L := L) (H := H6) z0 z1
      have t06 := t0A.trans t6
      refine ⟨la, _, _, _, rfl, rfl, t06.sqt hla, hat, (by show 1 ≤ sizeLine; decide), fun z hz => ?_⟩
      have sz := same_new hz (.tup [.str y])
      refine catA_dp ((t6.trans (Tk.same sz)).dp (.tuple _) (tup_take k (tup_strs L)) hA) (d2 := [.str y]) (.tup (SqT.of upd_same) (.cons (.str _) .nil)) (by rw [List.length_take, List.length_map]; simp; omega) (tup_take k (tup_strs L)) ⟨trivial, trivial⟩ fun vB HB sB hB => ?_
      have sAB := sz.trans sB
      have t0B := t06.trans (Tk.same sAB)
      refine ⟨_, rfl, _, rfl, _, rfl, ?_⟩
      dsimp only [tNoPart]
      refine slFrom (i := k) (hdL t0B) (tup_strs L) hkl fun vC HC sC hC => ?_
      have tB : TupDs ((L.map PyData.str).take k ++ [.str y]) := tupds_iff.mpr fun d hd => (List.mem_append.mp hd).elim (tupds_iff.mp (tup_take k (tup_strs L)) d) fun z => by
        cases List.mem_singleton.mp z
        exact trivial
      refine catA_dp ((Tk.same sC).dp (.tuple _) tB hB) hC (by rw [List.length_append, List.length_take, List.length_drop, List.length_map]; simp; omega) tB (tup_drop k (tup_strs L)) fun vR HR sR hR => ?_
      have eb : (L.map PyData.str).take k ++ [.str y] ++ (L.map PyData.str).drop k = (L.take k ++ y :: L.drop k).map PyData.str := by
        rw [← List.map_take, ← List.map_drop, List.map_append, List.map_cons, List.append_assoc]
        rfl
      rw [eb] at hR
      refine ⟨_, rfl, (by show 2 ≤ sizeLine; decide), fun u hu => ?_⟩
      have su := same_new hu (.tup [vR, .ref pa])
      have sAll := sC.trans (sR.trans su)
      have t0Z := t0B.trans (Tk.same sAll)
      exact q _ _ _ Ps _ _ (.tup (SqT.of upd_same) (.cons ((Tk.same su).dp (.tuple _) (tup_strs _) hR) (.cons (hdP t0Z) .nil))) (hP.letter (by omega) hy) ((hW6.le (by omega)).same (sAB.trans sAll)) (k04.trans (k5.trans ((Kp.of_same sA).trans (k6.trans (Kp.of_same (sAB.trans sAll)))))) t0Z
    rintro _ _ ⟨rfl, rfl⟩
    rename Hp => H4
    refine ⟨fun σ' H' => ∃ nm bv' b' A' B' e k x10 x11, σ' = [some (.ref w), some (.ref pga), some (.ref la), some (.ref pa), some (.ref D), none, some (.int (i : Nat)), some (.int way), some (.str nm), some bv', x10, x11] ∧ Dp K H' bv' (.tuple (ds b')) ∧ nm ∈ BN ∧ Wp A' B' (4 + j) (7 + 2 * j) e k p.2 b' ∧ e ≤ 2 ∧ k ≤ 4 ∧ ((∀ x ∈ AL, x ∈ A') ∧ (∀ x ∈ BN, x ∈ B') ∧ Nok A' ∧ Nok B' ∧ A'.length ≤ AL.length + 1 ∧ B'.length ≤ BN.length + 1) ∧ Wl H' w l c ∧ Kp [w, l] H H' ∧ Tk H H', ?_, ?_⟩
    rotate_left
    · rintro _ H5 ⟨nm, bv', b', A', B', e, k, x10, x11, rfl, hb', hnm', wp, he, hk, ⟨ha, hb, oa, ob, la', lb'⟩, hW5, k5, t5⟩
      have hkl : i ≤ (Ps.map procD).length := by rw [List.length_map]; omega
      refine ⟨_, rfl, _, rfl, _, rfl, _, rfl, slTo (hdP t5) (tup_procs Ps) hkl fun vA HA sA hA => ?_⟩
      have t0A := t5.trans (Tk.same sA)
      refine ⟨_, rfl, _, rfl, (by show 2 ≤ sizeLine; decide), fun y hy => ⟨(by show 1 ≤ sizeLine; decide), fun z hz => ?_⟩⟩
      have nyz : y ≠ z := fun q => by rw [← q, upd_same] at hz; cases hz
      have sy := same_new hy (.tup [.str nm, bv'])
      have sz := same_new hz (.tup [.ref y])
      have syz := sy.trans sz
      have hy3 : Dp K (upd (upd HA y (.tup [.str nm, bv'])) z (.tup [.ref y])) (.ref y) (procD (nm, b')) := .tup (SqT.of (by rw [upd_ne nyz]; exact upd_same)) (.cons (.str _) (.cons ((Tk.same (sA.trans syz)).dp (.tuple (ds b')) (tup_ds b') hb') .nil))
      refine catA_dp ((Tk.same syz).dp (.tuple _) (tup_take i (tup_procs Ps)) hA) (d2 := [procD (nm, b')]) (.tup (SqT.of upd_same) (.cons hy3 .nil)) (by rw [List.length_take, List.length_map]; simp; omega) (tup_take i (tup_procs Ps)) ⟨tup_proc _, trivial⟩ fun vB HB sB hB => ?_
      have sAB := syz.trans sB
      have t0B := t0A.trans (Tk.same sAB)
      have ei : ((i : Nat) : Int) + 1 = ((i + 1 : Nat) : Int) := by omega
      refine ⟨_, rfl, _, rfl, _, _, rfl, rfl, _, rfl, ?_⟩
      rw [ei]
      dsimp only [tNoPart]
      refine slFrom (i := i + 1) (hdP t0B) (tup_procs Ps) (by rw [List.length_map]; omega) fun vC HC sC hC => ?_
      have tB : TupDs ((Ps.map procD).take i ++ [procD (nm, b')]) := tupds_iff.mpr fun d hd => (List.mem_append.mp hd).elim (tupds_iff.mp (tup_take i (tup_procs Ps)) d) fun z => by
        cases List.mem_singleton.mp z
        exact tup_proc _
      refine catA_dp ((Tk.same sC).dp (.tuple _) tB hB) hC (by rw [List.length_append, List.length_take, List.length_drop, List.length_map]; simp; omega) tB (tup_drop (i + 1) (tup_procs Ps)) fun vR HR sR hR => ?_
      have eb : (Ps.map procD).take i ++ [procD (nm, b')] ++ (Ps.map procD).drop (i + 1) = (Ps.take i ++ (nm, b') :: Ps.drop (i + 1)).map procD := by
        rw [← List.map_take, ← List.map_drop, List.map_append, List.map_cons, List.append_assoc]
        rfl
      rw [eb] at hR
      refine ⟨(by show 2 ≤ sizeLine; decide), fun u hu => ?_⟩
      have su := same_new hu (.tup [.ref la, vR])
      have sAll := sC.trans (sR.trans su)
      have t0Z := t0B.trans (Tk.same sAll)
      exact q _ _ L _ _ _ (.tup (SqT.of upd_same) (.cons (hdL t0Z) (.cons ((Tk.same su).dp (.tuple _) (tup_procs _) hR) .nil))) (hP.proc hp ha hb oa ob la' lb' hnm' wp he hk) (hW5.same (sA.trans (sAB.trans sAll))) (k5.trans (Kp.of_same (sA.trans (sAB.trans sAll)))) t0Z
    have same0 : (∀ x ∈ AL, x ∈ AL) ∧ (∀ x ∈ BN, x ∈ BN) ∧ Nok AL ∧ Nok BN ∧ AL.length ≤ AL.length + 1 ∧ BN.length ≤ BN.length + 1 := ⟨fun _ h => h, fun _ h => h, hP.okA, hP.okB, by omega, by omega⟩
    have put : ∀ {H5 : Hp} {xv : V} {x : St} {A' B' : List Str} {e k : Nat} {Q' : VK}, Wl H5 w l (c + 38) → Kp [w, l] H4 H5 → Tk H4 H5 → Dp K H5 xv x.d → x.ok A' B' false → x.wm (4 + j + 1) e → x.n ≤ k →
        ((∀ x ∈ AL, x ∈ A') ∧ (∀ x ∈ BN, x ∈ B') ∧ Nok A' ∧ Nok B' ∧ A'.length ≤ AL.length + 1 ∧ B'.length ≤ BN.length + 1) → (∀ H' v' b', Dp K H' v' (.tuple (ds b')) → Wp A' B' (4 + j) (7 + 2 * j) e k p.2 b' → Wl H' w l c → Kp [w, l] H H' → Tk H H' → Q' v' H') → spPut K 12 [.ref w, bv, xv] H5 Q' C8.E0 := fun {H5 xv x A' B' e k Q'} hW5 k5 t5 hx xo xw xn all q' =>
      ⟨w, l, bv, xv, c, A', B', p.2, x, 4 + j, 7 + 2 * j, e, rfl, hW5, by omega, t5.dp (.tuple (ds p.2)) (tup_ds p.2) hbv, hx, by omega, oks_mono all.1 all.2.1 false _ _ hbo, xo, hbl, hbw, xw, fun H' v' b' h1 w1 h2 k2 t2 => q' H' v' b' h1 ⟨w1.ok, w1.l, w1.w, Nat.le_trans w1.n (by omega)⟩ h2 (k04.trans (k5.trans k2)) (t04.trans (t5.trans t2))⟩
    have withA : ∀ {r : Str}, nameB r = true → (∀ x ∈ AL, x ∈ r :: AL) ∧ (∀ x ∈ BN, x ∈ BN) ∧ Nok (r :: AL) ∧ Nok BN ∧ (r :: AL).length ≤ AL.length + 1 ∧ BN.length ≤ BN.length + 1 := fun h => ⟨fun _ h => List.mem_cons_of_mem _ h, fun _ h => h, hP.okA.cons h, hP.okB, by simp, by omega⟩
    have withB : ∀ {r : Str}, nameB r = true → (∀ x ∈ AL, x ∈ AL) ∧ (∀ x ∈ BN, x ∈ r :: BN) ∧ Nok AL ∧ Nok (r :: BN) ∧ AL.length ≤ AL.length + 1 ∧ (r :: BN).length ≤ BN.length + 1 := fun h => ⟨fun _ h => h, fun _ h => List.mem_cons_of_mem _ h, hP.okA, hP.okB.cons h, by omega, by simp⟩
    have hnL : ∀ x ∈ L, nameB x = true := fun x hx => hP.okA x (hP.inA x hx)
    have hnN : ∀ x ∈ Ps.map Prod.fst, nameB x = true := fun x hx => hP.okB x (hP.inB x hx)
    refine ⟨_, rfl, rfl, _, rfl, ?_⟩
    rw [dec_int]
    by_cases c1 : way = 1
    · refine ifT (by simpa using c1) ⟨_, rfl, _, rfl, _, rfl, D, _, rfl, .inl (SqL.of hD4), w, l, c + 97, ((((Ps.map Prod.fst).map V.str).length : Nat) : Int), rfl, hW4.le (by omega), by rw [List.length_map, List.length_map]; omega, by rw [List.length_map, List.length_map]; omega, fun r5 H5 y0 y1 hW5 k5 t5 => ?_⟩
      rw [List.length_map] at y1
      obtain ⟨y, hy, hat⟩ := pick_str (L := Ps.map Prod.fst) (H := H5) y0 y1
      refine ⟨D, _, _, _, rfl, rfl, SqL.of (k5 _ _ nD hD4), hat, ?_⟩
      exact ⟨y, bv, p.2, AL, BN, 0, 0, none, none, rfl, t5.dp (.tuple (ds p.2)) (tup_ds p.2) hbv, hP.inB _ hy, Wp.refl hbo hbl hbw, by omega, by omega, same0, hW5.le (by omega), k04.trans k5, t04.trans t5⟩
    refine ifF (by simpa using c1) ?_
    refine ⟨_, rfl, _, _, rfl, rfl, _, rfl, ?_⟩
    by_cases c2 : way < 4
    · refine ifT (by simpa using c2) ?_
      refine ⟨_, rfl, _, rfl, (by show 2 ≤ sizeLine; decide), fun l5 hl5 => ?_⟩
      have s5 := same_new hl5 (.lst [.str "do", .str "undo"])
      have hl6 : upd H4 l5 (.lst [.str "do", .str "undo"]) l5 = some (.lst ((["do", "undo"] : List Str).map V.str)) := upd_same
      have nl5 := hW4.out hl5
      refine ⟨_, rfl, w, l, c + 97, 2, rfl, (hW4.same s5).le (by omega), by omega, by omega, fun r6 H6 r60 r61 hW6 k6 t6 => ?_⟩
      obtain ⟨wd, hwd, hatw⟩ := pick_str (L := ["do", "undo"]) (H := H6) r60 r61
      have t46 := (Tk.same s5).trans t6
      have k46 := (Kp.of_same (as := [w, l]) s5).trans k6
      refine ⟨l5, _, _, _, rfl, rfl, SqL.of (k6 _ _ nl5 hl6), hatw, ?_⟩
      refine ⟨_, rfl, _, rfl, la, _, rfl, .inr ((t04.trans t46).sqt hla), fun x0 hx0 => ?_⟩
      have s7 := same_new hx0 (.lst (L.map V.str))
      have nx0 := hW6.out hx0
      refine ⟨w, l, x0, c + 67, L, rfl, (hW6.same s7).le (by omega), upd_same, nx0, by omega, hnL, fun r H8 hr0 hr1 hW8 k8 t8 => ?_⟩
      refine ⟨(by show 2 ≤ sizeLine; decide), fun z hz => ?_⟩
      have sz := same_new hz (.tup [.str wd, .str r])
      have t4z := t46.trans ((Tk.same s7).trans (t8.trans (Tk.same sz)))
      have k4z := k46.trans ((Kp.of_same s7).trans (k8.trans (Kp.of_same sz)))
      have hz2 : SqT K (upd H8 z (.tup [.str wd, .str r])) z [.str wd, .str r] := SqT.of upd_same
      have hWz := (hW8.same sz).le (show c + 38 ≤ c + 67 by omega)
      simp at hwd
      rcases hwd with rfl | rfl
      · exact put (x := .dd r) (e := 0) (k := 1) hWz k4z t4z (.tup hz2 (.cons (.str _) (.cons (.str _) .nil))) List.mem_cons_self trivial (by simp [St.n]) (withA hr0) fun H' v' b' h1 w1 h2 k2 t2 => ⟨p.1, v', b', _, _, 0, 1, none, none, rfl, h1, hnm, w1, by omega, by omega, withA hr0, h2, k2, t2⟩
      · exact put (x := .ud r) (e := 0) (k := 1) hWz k4z t4z (.tup hz2 (.cons (.str _) (.cons (.str _) .nil))) List.mem_cons_self trivial (by simp [St.n]) (withA hr0) fun H' v' b' h1 w1 h2 k2 t2 => ⟨p.1, v', b', _, _, 0, 1, none, none, rfl, h1, hnm, w1, by omega, by omega, withA hr0, h2, k2, t2⟩
    refine ifF (by simpa using c2) ?_
    refine ⟨_, rfl, rfl, _, rfl, ?_⟩
    rw [dec_int]
    by_cases c3 : way = 4
    · refine ifT (by simpa using c3) ?_
      refine ⟨_, rfl, _, rfl, _, rfl, _, rfl, w, l, D, c + 68, Ps.map Prod.fst, rfl, hW4.le (by omega), hD4, nD, by rw [List.length_map]; omega, hnN, fun r H8 hr0 hr1 hW8 k8 t8 => ?_⟩
      refine ⟨(by show 2 ≤ sizeLine; decide), fun z hz => ?_⟩
      have sz := same_new hz (.tup [.str "call", .str r])
      have hz2 : SqT K (upd H8 z (.tup [.str "call", .str r])) z [.str "call", .str r] := SqT.of upd_same
      exact put (x := .cl r) (e := 0) (k := 1) ((hW8.same sz).le (by omega)) (k8.trans (Kp.of_same sz)) (t8.trans (Tk.same sz)) (.tup hz2 (.cons (.str _) (.cons (.str _) .nil))) List.mem_cons_self trivial (by simp [St.n]) (withB hr0) fun H' v' b' h1 w1 h2 k2 t2 => ⟨p.1, v', b', _, _, 0, 1, none, none, rfl, h1, hnm, w1, by omega, by omega, withB hr0, h2, k2, t2⟩
    refine ifF (by simpa using c3) ?_
    refine ⟨_, rfl, rfl, _, rfl, ?_⟩
    rw [dec_int]
    by_cases c4 : way = 5
    rotate_left
    · refine ifF (by simpa using c4) ?_
      refine ⟨_, rfl, _, rfl, (by show 1 ≤ sizeLine; decide), fun z hz => ?_⟩
      have sz := same_new hz (.tup [.str "return"])
      exact put (x := .rt) (e := 0) (k := 1) ((hW4.same sz).le (by omega)) (Kp.of_same sz) (Tk.same sz) (.tup (SqT.of upd_same) (.cons (.str _) .nil)) trivial trivial (by simp [St.n]) same0 fun H' v' b' h1 w1 h2 k2 t2 => ⟨p.1, v', b', _, _, 0, 1, none, none, rfl, h1, hnm, w1, by omega, by omega, same0, h2, k2, t2⟩
    refine ifT (by simpa using c4) ?_
    obtain ⟨l0, lr, eL⟩ : ∃ l0 lr, L = l0 :: lr := by
      cases L with
      | nil => simp at hl1
      | cons a r => exact ⟨a, r, rfl⟩
    have hl0 : l0 ∈ AL := hP.inA _ (by rw [eL]; exact List.mem_cons_self)
    refine ⟨(by show 1 ≤ sizeLine; decide), fun a1 h1 => ⟨(by show 1 ≤ sizeLine; decide), fun a2 h2 => ?_⟩⟩
    have n12 : a1 ≠ a2 := fun q => by rw [← q, upd_same] at h2; cases h2
    have s1 := (same_new h1 (.tup [.str "return"])).trans (same_new h2 (.tup [.ref a1]))
    have d1 : Dp K (upd (upd H4 a1 (.tup [.str "return"])) a2 (.tup [.ref a1])) (.ref a2) (.tuple (ds [.rt])) := .tup (SqT.of upd_same) (.cons (.tup (SqT.of (by rw [upd_ne n12]; exact upd_same)) (.cons (.str _) .nil)) .nil)
    generalize upd (upd H4 a1 (.tup [.str "return"])) a2 (.tup [.ref a1]) = I1 at s1 d1
    refine ⟨(by show 1 ≤ sizeLine; decide), fun a3 h3 => ⟨(by show 1 ≤ sizeLine; decide), fun a4 h4 => ?_⟩⟩
    have n34 : a3 ≠ a4 := fun q => by rw [← q, upd_same] at h4; cases h4
    have s2' := (same_new h3 (.tup [.str "return"])).trans (same_new h4 (.tup [.ref a3]))
    have d2 : Dp K (upd (upd I1 a3 (.tup [.str "return"])) a4 (.tup [.ref a3])) (.ref a4) (.tuple (ds [.rt])) := .tup (SqT.of upd_same) (.cons (.tup (SqT.of (by rw [upd_ne n34]; exact upd_same)) (.cons (.str _) .nil)) .nil)
    generalize upd (upd I1 a3 (.tup [.str "return"])) a4 (.tup [.ref a3]) = I2 at s2' d2
    refine ⟨(by show 0 ≤ sizeLine; decide), fun a5 h5 => ⟨(by show 3 ≤ sizeLine; decide), fun a6 h6 => ⟨(by show 1 ≤ sizeLine; decide), fun a7 h7 => ?_⟩⟩⟩
    have n56 : a5 ≠ a6 := fun q => by rw [← q, upd_same] at h6; cases h6
    have n67 : a6 ≠ a7 := fun q => by rw [← q, upd_same] at h7; cases h7
    have n57 : a5 ≠ a7 := fun q => by rw [← q, upd_ne n56, upd_same] at h7; cases h7
    have s3' := (same_new h5 (.tup [])).trans ((same_new h6 (.tup [.str "ensure", .ref a4, .ref a5])).trans (same_new h7 (.tup [.ref a6])))
    have d3 : Dp K (upd (upd (upd I2 a5 (.tup [])) a6 (.tup [.str "ensure", .ref a4, .ref a5])) a7 (.tup [.ref a6])) (.ref a7) (.tuple (ds [.en [.rt] []])) :=
      .tup (SqT.of upd_same) (.cons (.tup (SqT.of (by rw [upd_ne n67]; exact upd_same)) (.cons (.str _) (.cons ((Tk.same s3').dp (.tuple (ds [.rt])) (tup_ds _) d2) (.cons (.tup (SqT.of (by rw [upd_ne n57, upd_ne n56]; exact upd_same)) .nil) .nil)))) .nil)
    generalize upd (upd (upd I2 a5 (.tup [])) a6 (.tup [.str "ensure", .ref a4, .ref a5])) a7 (.tup [.ref a6]) = I3 at s3' d3
    have t13 : Tk H4 I3 := Tk.same (s1.trans (s2'.trans s3'))
    refine ⟨_, rfl, la, _, 0, .str l0, rfl, rfl, (t04.trans t13).sqt hla, by rw [eL]; exact at0 _ _, (by show 2 ≤ sizeLine; decide), fun a8 h8 => ?_⟩
    have s4' := same_new h8 (.tup [.str "do", .str l0])
    have d4 : Dp K (upd I3 a8 (.tup [.str "do", .str l0])) (.ref a8) (St.d (.dd l0)) := .tup (SqT.of upd_same) (.cons (.str _) (.cons (.str _) .nil))
    generalize upd I3 a8 (.tup [.str "do", .str l0]) = I4 at s4' d4
    refine ⟨(by show 1 ≤ sizeLine; decide), fun b1 g1 => ⟨(by show 1 ≤ sizeLine; decide), fun b2 g2 => ⟨(by show 2 ≤ sizeLine; decide), fun b3 g3 => ⟨(by show 2 ≤ sizeLine; decide), fun b4 g4 => ?_⟩⟩⟩⟩
    have m12 : b1 ≠ b2 := fun q => by rw [← q, upd_same] at g2; cases g2
    have m23 : b2 ≠ b3 := fun q => by rw [← q, upd_same] at g3; cases g3
    have m13 : b1 ≠ b3 := fun q => by rw [← q, upd_ne m12, upd_same] at g3; cases g3
    have m34 : b3 ≠ b4 := fun q => by rw [← q, upd_same] at g4; cases g4
    have m24 : b2 ≠ b4 := fun q => by rw [← q, upd_ne m23, upd_same] at g4; cases g4
    have m14 : b1 ≠ b4 := fun q => by rw [← q, upd_ne m13, upd_ne m12, upd_same] at g4; cases g4
    have s5' := (same_new g1 (.tup [.str "return"])).trans ((same_new g2 (.tup [.ref b1])).trans ((same_new g3 (.tup [.str "loop", .ref b2])).trans (same_new g4 (.tup [.ref a8, .ref b3]))))
    have d5 : Dp K (upd (upd (upd (upd I4 b1 (.tup [.str "return"])) b2 (.tup [.ref b1])) b3 (.tup [.str "loop", .ref b2])) b4 (.tup [.ref a8, .ref b3])) (.ref b4) (.tuple (ds [.dd l0, .lp [.rt]])) := by
      refine .tup (SqT.of upd_same) (.cons ((Tk.same s5').dp _ (tup_St (.dd l0)) d4) (.cons (.tup (SqT.of (by rw [upd_ne m34]; exact upd_same)) (.cons (.str _) (.cons (.tup (SqT.of (by rw [upd_ne m24, upd_ne m23]; exact upd_same)) (.cons (.tup (SqT.of (by rw [upd_ne m14, upd_ne m13, upd_ne m12]; exact upd_same)) (.cons (.str _) .nil)) .nil)) .nil))) .nil))
    generalize upd (upd (upd (upd I4 b1 (.tup [.str "return"])) b2 (.tup [.ref b1])) b3 (.tup [.str "loop", .ref b2])) b4 (.tup [.ref a8, .ref b3]) = I5 at s5' d5
    refine ⟨(by show 3 ≤ sizeLine; decide), fun sl hsl => ?_⟩
    have s6' := same_new hsl (.lst [.ref a2, .ref a7, .ref b4])
    have hs6 : upd I5 sl (.lst [.ref a2, .ref a7, .ref b4]) sl = some (.lst [.ref a2, .ref a7, .ref b4]) := upd_same
    have dall : ∀ (r : Int), 0 ≤ r → r < 3 → ∃ x b, atI [V.ref a2, V.ref a7, V.ref b4] r = some x ∧ b ∈ secs3 l0 ∧ Dp K (upd I5 sl (.lst [.ref a2, .ref a7, .ref b4])) x (.tuple (ds b)) := fun r r0 r1 => by
      have : r = 0 ∨ r = 1 ∨ r = 2 := by omega
      rcases this with rfl | rfl | rfl
      · exact ⟨_, _, at0 _ _, by simp [secs3], (Tk.same (s2'.trans (s3'.trans (s4'.trans (s5'.trans s6'))))).dp (.tuple (ds [.rt])) (tup_ds _) d1⟩
      · exact ⟨_, _, at1 _ _ _, by simp [secs3], (Tk.same (s4'.trans (s5'.trans s6'))).dp (.tuple (ds [.en [.rt] []])) (tup_ds _) d3⟩
      · exact ⟨_, _, at2 _ _ _ _, by simp [secs3], (Tk.same s6').dp (.tuple (ds [.dd l0, .lp [.rt]])) (tup_ds _) d5⟩
    have sI := s1.trans (s2'.trans (s3'.trans (s4'.trans (s5'.trans s6'))))
    generalize upd I5 sl (.lst [.ref a2, .ref a7, .ref b4]) = I6 at s6' hs6 dall sI
    have hWI := hW4.same sI
    have nsl : sl ∉ [w, l] := (hW4.same (s1.trans (s2'.trans (s3'.trans (s4'.trans s5'))))).out hsl
    refine ⟨_, rfl, _, rfl, (by show 0 ≤ sizeLine; decide), fun e1 he1 => ?_⟩
    have s7' := same_new he1 (.tup [])
    have q7 : SqT K (upd I6 e1 (.tup [])) e1 [] := SqT.of upd_same
    have hs7 := s7' _ _ hs6
    refine ⟨_, rfl, _, rfl, w, l, c + 97, 3, rfl, (hWI.same s7').le (by omega), by decide, by decide, fun r H8 r0 r1 hW8 k8 t8 => ?_⟩
    obtain ⟨xv, b, hat, hbm', hdx⟩ := dall r r0 r1
    obtain ⟨o1, o2, o3⟩ := sec3_ok (A := AL) (B := BN) hl0 (m := 4 + j + 1) (by omega) b hbm'
    refine ⟨sl, _, _, _, rfl, rfl, SqL.of (k8 _ _ nsl hs7), hat, (by show 3 ≤ sizeLine; decide), fun z hz => ?_⟩
    have sz := same_new hz (.tup [.str "ensure", .ref e1, xv])
    have t8z := t8.trans (Tk.same sz)
    exact put (x := .en [] b) (e := 2) (k := 4) ((hW8.same sz).le (by omega)) ((Kp.of_same (sI.trans s7')).trans (k8.trans (Kp.of_same sz))) ((Tk.same (sI.trans s7')).trans t8z) (.tup (SqT.of upd_same) (.cons (.str _) (.cons (.tup (t8z.sqt q7) .nil) (.cons (((Tk.same s7').trans t8z).dp (.tuple (ds b)) (tup_ds b) hdx) .nil)))) o1 o2 o3 same0 fun H' v' b' h1 w1 h2 k2 t2 => ⟨p.1, v', b', _, _, 2, 4, none, _, rfl, h1, hnm, w1, by omega, by omega, same0, h2, k2, t2⟩
end
end K04


set_option Elab.async false
set_option linter.all false
set_option maxRecDepth 100000
set_option maxHeartbeats 8000000
namespace K04
open PySem PySem.Spec PyProof.Rows L2
/-! ### all that is wrong in a body -/
def wrongs (L N : List Str) (sec : Bool) (b : List St) : List Str := (fss sec b).filterMap (fault1 L N)
def wrong1 (L N : List Str) (sec : Bool) (s : St) : List Str := (s.fs sec).filterMap (fault1 L N)
def wrongss (L N : List Str) (sec : Bool) (b : List (List St)) : List Str := (fsss sec b).filterMap (fault1 L N)
theorem wrongs_take {L N : List Str} {sec : Bool} {b : List St} {i : Nat} {s : St} (h : b[i]? = some s) : wrongs L N sec (b.take (i + 1)) = wrongs L N sec (b.take i) ++ wrong1 L N sec s := by
  unfold wrongs wrong1
  rw [fss_take sec h, List.filterMap_append]
theorem wrongss_take {L N : List Str} {sec : Bool} {b : List (List St)} {i : Nat} {s : List St} (h : b[i]? = some s) : wrongss L N sec (b.take (i + 1)) = wrongss L N sec (b.take i) ++ wrongs L N sec s := by
  unfold wrongs wrongss
  rw [← fsE_no sec _ 0, ← fsE_no sec _ 0, fsE_take sec false 0 h, List.filterMap_append, Bool.false_and, Bool.or_false]
theorem wrongs_len (L N : List Str) (sec : Bool) (b : List St) : (wrongs L N sec b).length ≤ ns b := by
  have := List.length_filterMap_le (fault1 L N) (fss sec b)
  rw [fss_len] at this
  exact this
theorem wrongss_len (L N : List Str) (sec : Bool) (b : List (List St)) : (wrongss L N sec b).length ≤ nss b := by
  have := List.length_filterMap_le (fault1 L N) (fsss sec b)
  rw [fsss_len] at this
  exact this
theorem wrong_dd (L N : List Str) (sec : Bool) (x : Str) : wrong1 L N sec (.dd x) = if (!decide (x ∈ L)) = true then [("letter" : Str)] else [] := by
  unfold wrong1
  by_cases h : x ∈ L <;> simp [St.fs, fault1, h]
theorem wrong_ud (L N : List Str) (sec : Bool) (x : Str) : wrong1 L N sec (.ud x) = if (!decide (x ∈ L)) = true then [("letter" : Str)] else [] := by
  unfold wrong1
  by_cases h : x ∈ L <;> simp [St.fs, fault1, h]
theorem wrong_cl (L N : List Str) (sec : Bool) (x : Str) : wrong1 L N sec (.cl x) = if (!decide (x ∈ N)) = true then [("call" : Str)] else [] := by
  unfold wrong1
  by_cases h : x ∈ N <;> simp [St.fs, fault1, h]
theorem wrong_rt (L N : List Str) (sec : Bool) : wrong1 L N sec .rt = if sec = true then [("return" : Str)] else [] := by
  unfold wrong1
  cases sec <;> simp [St.fs, fault1]
theorem wrong_ch (L N : List Str) (sec : Bool) (bs : List (List St)) : wrong1 L N sec (.ch bs) = wrongss L N sec bs := by
  unfold wrong1 wrongss
  rw [St.fs]
  exact List.filterMap_cons_none rfl
theorem wrong_lp (L N : List Str) (sec : Bool) (c : List St) : wrong1 L N sec (.lp c) = wrongs L N sec c := by
  unfold wrong1 wrongs
  rw [St.fs]
  exact List.filterMap_cons_none rfl
theorem wrong_en (L N : List Str) (sec : Bool) (c e : List St) : wrong1 L N sec (.en c e) = wrongs L N sec c ++ wrongs L N true e := by
  unfold wrong1 wrongs
  rw [St.fs, ← List.filterMap_append]
  exact List.filterMap_cons_none rfl
theorem rep_if (s : Str) (c : Bool) : (List.replicate (if c = true then (1 : Int) else 0).toNat [V.str s]).flatten = (if c = true then [s] else []).map V.str := by cases c <;> rfl
theorem rep_lo (c : Bool) : -(2 ^ 63) ≤ (if c = true then (1 : Int) else 0) := by cases c <;> decide
theorem rep_hi (c : Bool) : (if c = true then (1 : Int) else 0) < 2 ^ 63 := by cases c <;> decide
theorem rep_sz (s : Str) (c : Bool) : [V.str s].length * (if c = true then (1 : Int) else 0).toNat ≤ sizeLine := Nat.le_trans (show _ ≤ 1 by cases c <;> simp) (by decide)
theorem if_len (s : Str) (c : Bool) : (if c = true then [s] else [] : List Str).length ≤ 1000 := by cases c <;> simp
theorem nss_in {c : List St} : ∀ {bs : List (List St)}, c ∈ bs → ns c ≤ nss bs
  | b :: r, h => by
    rw [nss]
    rcases List.mem_cons.mp h with z | z
    · rw [z]; omega
    · have := nss_in z; omega
theorem nmI {i : Nat} {v : V} {nx : L2.St → Hp → Prop} {σ : L2.St} {H : Hp} (h : nx (σ.set i (some v)) H) : gName i v σ H nx := h
section
variable {P : Program} {w : World} {K : PySem.W.Frag} {mg : Str → Option Value} {base : Heap}
theorem sc__law_wrongs : FnScope ["body", "is_second", "heads", "found", "statement", "word", "inner"] ["body", "is_second", "heads"] (C8.fnScope (topS 43)) := C8.fnScope_by (by decide +kernel)
def spWr (K : PySem.W.Frag) (n : Nat) : Sp := fun vs H Q _ => ∃ v sec hd la na b L N, vs = [v, .bl sec, .ref hd] ∧ Dp K H v (.tuple (ds b)) ∧ ks b < n ∧ ns b ≤ 1000 ∧ SqT K H hd [.ref la, .ref na] ∧ SqT K H la (L.map V.str) ∧ SqT K H na (N.map V.str) ∧ ∀ l H', Same H H' → H' l = some (.lst ((wrongs L N sec b).map V.str)) → Q (.ref l) H'
theorem ok_wr {n : Nat} {f : Addr} {fd : FuncData} (F : C8.Def K mg "_law_wrongs" (topS 43) f fd) (b : Binds K fd ["body", "is_second", "heads"] []) (B : Bl K mg) (c_wr : C8.Cal P w K mg base (n + 1) "_law_wrongs" (spWr K n) []) : C8.Cal P w K mg base (n + 2) "_law_wrongs" (spWr K (n + 1)) [] := by
  refine C8.cal0 F b .nil sc__law_wrongs ?len ?body
  case len => rintro vs H Q E ⟨v, sec, hd, la, na, b, L, N, rfl, _⟩; rfl
  case body =>
    rintro cdv A outer s H vs Q E hr ⟨v, sec, hh, la, na, b, L, N, rfl, hd, hk, hn, hhd, hla, hna, q⟩
    refine ⟨_, (pss_cons (ps_set (i := 3) sc__law_wrongs.nd rfl (Or.inl rfl) (pe_lst pa_nil))
    (pss_cons (ps_for PassesOwn.never rfl (pi_tup (pv 0)) (pg_name (i := 4) sc__law_wrongs.nd rfl (Or.inl rfl))
    (pss_cons (ps_set (i := 5) sc__law_wrongs.nd rfl (Or.inl rfl) (pe_ix ix_tup (pv 4) pe_int (fun _ _ => rfl)))
    (pss_one (ps_if (pt_cmpR op_in_seq (pv 5) (pe_tup (pa_cons pe_str (pa_cons pe_str pa_nil))) (by with_unfolding_all rfl)) (pss_one (ps_set (i := 3) sc__law_wrongs.nd rfl (Or.inl rfl) (pe_op op_cat (pv 3) (pe_op op_rep (pe_lst (pa_cons pe_str pa_nil)) (pe_callTy call_int1 rfl B.int (by decide +kernel) (pa_cons (pe_cmpR op_notIn_seq (pe_ix ix_tup (pv 4) pe_int (fun _ _ => rfl)) (pe_ix ix_tup (pv 2) pe_int (fun _ _ => rfl)) (by with_unfolding_all rfl)) pa_nil)))))) (pss_one (ps_if (pt_cmpR op_eq (pv 5) pe_str (nomark _)) (pss_one (ps_set (i := 3) sc__law_wrongs.nd rfl (Or.inl rfl) (pe_op op_cat (pv 3) (pe_op op_rep (pe_lst (pa_cons pe_str pa_nil)) (pe_callTy call_int1 rfl B.int (by decide +kernel) (pa_cons (pe_cmpR op_notIn_seq (pe_ix ix_tup (pv 4) pe_int (fun _ _ => rfl)) (pe_ix ix_tup (pv 2) pe_int (fun _ _ => rfl)) (by with_unfolding_all rfl)) pa_nil)))))) (pss_one (ps_if (pt_cmpR op_eq (pv 5) pe_str (nomark _)) (pss_one (ps_set (i := 3) sc__law_wrongs.nd rfl (Or.inl rfl) (pe_op op_cat (pv 3) (pe_op op_rep (pe_lst (pa_cons pe_str pa_nil)) (pe_callTy call_int1 rfl B.int (by decide +kernel) (pa_cons (pv 1) pa_nil)))))) (pss_one (ps_if (pt_cmpR op_eq (pv 5) pe_str (nomark _)) (pss_one (ps_for PassesOwn.never rfl (pi_tup (pe_ix ix_tup (pv 4) pe_int (fun _ _ => rfl))) (pg_name (i := 6) sc__law_wrongs.nd rfl (Or.inl rfl))
    (pss_one (ps_set (i := 3) sc__law_wrongs.nd rfl (Or.inl rfl) (pe_op op_cat (pv 3) (C8.pe_c c_wr hr (by omega) rfl (pa_cons (pv 6) (pa_cons (pv 1) (pa_cons (pv 2) pa_nil))))))))) (pss_cons (ps_set (i := 3) sc__law_wrongs.nd rfl (Or.inl rfl) (pe_op op_cat (pv 3) (C8.pe_c c_wr hr (by omega) rfl (pa_cons (pe_ix ix_tup (pv 4) pe_int (fun _ _ => rfl)) (pa_cons (pv 1) (pa_cons (pv 2) pa_nil))))))
    (pss_one (ps_if (pt_cmpR op_eq (pv 5) pe_str (nomark _)) (pss_one (ps_set (i := 3) sc__law_wrongs.nd rfl (Or.inl rfl) (pe_op op_cat (pv 3) (C8.pe_c c_wr hr (by omega) rfl (pa_cons (pe_ix ix_tup (pv 4) pe_int (fun _ _ => rfl)) (pa_cons pe_bl (pa_cons (pv 2) pa_nil))))))) pss_nil)))))))))))))
    (pss_one (ps_ret (pv 3))))), ?_⟩
    obtain ⟨a, xs, rfl, hs, ha, hl⟩ := len_ok hd
    refine ⟨(by show 0 ≤ sizeLine; decide), fun F0 hF0 => ?_⟩
    have s0 := same_new hF0 (.lst [])
    have hF00 : upd H F0 (.lst []) F0 = some (.lst ((wrongs L N sec (b.take 0)).map V.str)) := upd_same
    generalize upd H F0 (.lst []) = H0 at s0 hF00
    refine nmI ?_
    refine ⟨_, rfl, a, rfl, ⟨_, (Tk.same s0).sqt hs⟩, ?_⟩
    refine for_tup (xs := xs) (fun i σ H' => ∃ F1 b4 b5 b6, σ = [some (.ref a), some (.bl sec), some (.ref hh), some (.ref F1), b4, b5, b6] ∧ H' F1 = some (.lst ((wrongs L N sec (b.take i)).map V.str)) ∧ Same H H') ⟨F0, none, none, none, rfl, hF00, s0⟩ ?_ ?_ ?_
    · rintro i σ H' _ ⟨_, _, _, _, _, _, s1⟩
      exact (Tk.same s1).sqt hs
    · rintro i x _ H1 hx ⟨F1, b4, b5, b6, rfl, hF1, s1⟩
      obtain ⟨dd, hdd, hdp⟩ := dps_get' ha hx
      obtain ⟨st, hsb, rfl⟩ := ds_get hdd
      have hsk := ks_mem (List.mem_of_getElem? hsb)
      have hnt := ns_take hsb
      have hnb0 := ns_take_le b (i + 1)
      have hwl := wrongs_len L N sec (b.take i)
      have hdp1 := (Tk.same s1).dp _ (tup_St st) hdp
      have hh1 := (Tk.same s1).sqt hhd
      have la1 := (Tk.same s1).sqt hla
      have na1 := (Tk.same s1).sqt hna
      have fin : ∀ (F2 : Addr) (ws : List Str) (H2 : Hp) b4 b5 b6, wrong1 L N sec st = ws → H2 F2 = some (.lst ((wrongs L N sec (b.take i)).map V.str ++ ws.map V.str)) → Same H1 H2 →
          (∃ F1 b4' b5' b6', ([some (.ref a), some (.bl sec), some (.ref hh), some (.ref F2), b4, b5, b6] : L2.St) = [some (.ref a), some (.bl sec), some (.ref hh), some (.ref F1), b4', b5', b6'] ∧ H2 F1 = some (.lst ((wrongs L N sec (b.take (i + 1))).map V.str)) ∧ Same H H2) := fun F2 ws H2 b4 b5 b6 e h s2 =>
        ⟨F2, _, _, _, rfl, by rw [wrongs_take hsb, List.map_append, e]; exact h, s1.trans s2⟩
      have bnd : ∀ k : Nat, k ≤ 1000 → ((wrongs L N sec (b.take i)).map V.str).length + k ≤ sizeLine := fun k hk => by
        rw [List.length_map]
        exact Nat.le_trans (show _ ≤ 2000 by omega) (by decide)
      refine nmI ?_
      cases st with
      | dd x =>
        obtain ⟨sa, sxs, rfl, hss, hsa, hsl⟩ := len_ok hdp1
        cases hsa with
        | cons h0 hsa =>
        cases h0
        cases hsa with
        | cons h1 hsa =>
        cases h1
        refine ⟨_, rfl, _, _, _, _, rfl, rfl, hss, at0 _ _, ?_⟩
        refine nmI ?_
        refine ⟨_, rfl, (by show 2 ≤ sizeLine; decide), fun z1 hz1 => ⟨z1, _, rfl, .inr (SqT.of upd_same), rfl, rfl, _, rfl, ?_⟩⟩
        have sz := same_new hz1 (.tup [.str "do", .str "undo"])
        have hss1 := (Tk.same sz).sqt hss
        have hh2 := (Tk.same sz).sqt hh1
        have la2 := (Tk.same sz).sqt la1
        have na2 := (Tk.same sz).sqt na1
        have hF2 := sz _ _ hF1
        generalize upd H1 z1 (.tup [.str "do", .str "undo"]) = H2 at sz hss1 hh2 la2 na2 hF2
        refine ifT (by decide +kernel) ?_
        refine ⟨_, rfl, (by show 1 ≤ sizeLine; decide), fun z2 hz2 => ?_⟩
        have sy := same_new hz2 (.lst [.str "letter"])
        have hz20 : upd H2 z2 (.lst [.str "letter"]) z2 = some (.lst [.str "letter"]) := upd_same
        have hss2 := (Tk.same sy).sqt hss1
        have hh3 := (Tk.same sy).sqt hh2
        have tt3 := (Tk.same sy).sqt la2
        have hF3 := sy _ _ hF2
        generalize upd H2 z2 (.lst [.str "letter"]) = H3 at sy hz20 hss2 hh3 tt3 hF3
        refine ⟨_, rfl, _, _, _, _, rfl, rfl, hss2, at1 _ _ _, _, rfl, _, _, _, _, rfl, rfl, hh3, at0 _ _, _, _, rfl, .inr tt3, rfl, flat_strs _, .inr ⟨_, rfl, ?_⟩⟩
        rw [inV_strs]
        refine ⟨z2, _, _, rfl, rfl, hz20, ?r1, ?r2, ?r3, fun z3 hz3 => ?_⟩
        case r1 => exact rep_lo _
        case r2 => exact rep_hi _
        case r3 => exact rep_sz _ _
        rw [rep_if]
        have sx := same_new hz3 (.lst ((if (!decide (x ∈ L)) = true then [("letter" : Str)] else []).map V.str))
        refine ⟨F1, z3, _, _, rfl, rfl, sx _ _ hF3, upd_same, ?r4, fun z4 hz4 => ?_⟩
        case r4 => exact bnd _ (by rw [List.length_map]; exact if_len _ _)
        exact fin z4 _ _ _ _ _ (wrong_dd L N sec x) upd_same (sz.trans (sy.trans (sx.trans (same_new hz4 _))))
      | ud x =>
        obtain ⟨sa, sxs, rfl, hss, hsa, hsl⟩ := len_ok hdp1
        cases hsa with
        | cons h0 hsa =>
        cases h0
        cases hsa with
        | cons h1 hsa =>
        cases h1
        refine ⟨_, rfl, _, _, _, _, rfl, rfl, hss, at0 _ _, ?_⟩
        refine nmI ?_
        refine ⟨_, rfl, (by show 2 ≤ sizeLine; decide), fun z1 hz1 => ⟨z1, _, rfl, .inr (SqT.of upd_same), rfl, rfl, _, rfl, ?_⟩⟩
        have sz := same_new hz1 (.tup [.str "do", .str "undo"])
        have hss1 := (Tk.same sz).sqt hss
        have hh2 := (Tk.same sz).sqt hh1
        have la2 := (Tk.same sz).sqt la1
        have na2 := (Tk.same sz).sqt na1
        have hF2 := sz _ _ hF1
        generalize upd H1 z1 (.tup [.str "do", .str "undo"]) = H2 at sz hss1 hh2 la2 na2 hF2
        refine ifT (by decide +kernel) ?_
        refine ⟨_, rfl, (by show 1 ≤ sizeLine; decide), fun z2 hz2 => ?_⟩
        have sy := same_new hz2 (.lst [.str "letter"])
        have hz20 : upd H2 z2 (.lst [.str "letter"]) z2 = some (.lst [.str "letter"]) := upd_same
        have hss2 := (Tk.same sy).sqt hss1
        have hh3 := (Tk.same sy).sqt hh2
        have tt3 := (Tk.same sy).sqt la2
        have hF3 := sy _ _ hF2
        generalize upd H2 z2 (.lst [.str "letter"]) = H3 at sy hz20 hss2 hh3 tt3 hF3
        refine ⟨_, rfl, _, _, _, _, rfl, rfl, hss2, at1 _ _ _, _, rfl, _, _, _, _, rfl, rfl, hh3, at0 _ _, _, _, rfl, .inr tt3, rfl, flat_strs _, .inr ⟨_, rfl, ?_⟩⟩
        rw [inV_strs]
        refine ⟨z2, _, _, rfl, rfl, hz20, ?r1, ?r2, ?r3, fun z3 hz3 => ?_⟩
        case r1 => exact rep_lo _
        case r2 => exact rep_hi _
        case r3 => exact rep_sz _ _
        rw [rep_if]
        have sx := same_new hz3 (.lst ((if (!decide (x ∈ L)) = true then [("letter" : Str)] else []).map V.str))
        refine ⟨F1, z3, _, _, rfl, rfl, sx _ _ hF3, upd_same, ?r4, fun z4 hz4 => ?_⟩
        case r4 => exact bnd _ (by rw [List.length_map]; exact if_len _ _)
        exact fin z4 _ _ _ _ _ (wrong_ud L N sec x) upd_same (sz.trans (sy.trans (sx.trans (same_new hz4 _))))
      | cl x =>
        obtain ⟨sa, sxs, rfl, hss, hsa, hsl⟩ := len_ok hdp1
        cases hsa with
        | cons h0 hsa =>
        cases h0
        cases hsa with
        | cons h1 hsa =>
        cases h1
        refine ⟨_, rfl, _, _, _, _, rfl, rfl, hss, at0 _ _, ?_⟩
        refine nmI ?_
        refine ⟨_, rfl, (by show 2 ≤ sizeLine; decide), fun z1 hz1 => ⟨z1, _, rfl, .inr (SqT.of upd_same), rfl, rfl, _, rfl, ?_⟩⟩
        have sz := same_new hz1 (.tup [.str "do", .str "undo"])
        have hss1 := (Tk.same sz).sqt hss
        have hh2 := (Tk.same sz).sqt hh1
        have la2 := (Tk.same sz).sqt la1
        have na2 := (Tk.same sz).sqt na1
        have hF2 := sz _ _ hF1
        generalize upd H1 z1 (.tup [.str "do", .str "undo"]) = H2 at sz hss1 hh2 la2 na2 hF2
        refine ifF (by decide +kernel) ?_
        refine ⟨_, rfl, rfl, _, rfl, ?_⟩
        rw [dec_str]
        refine ifT (by decide +kernel) ?_
        refine ⟨_, rfl, (by show 1 ≤ sizeLine; decide), fun z2 hz2 => ?_⟩
        have sy := same_new hz2 (.lst [.str "call"])
        have hz20 : upd H2 z2 (.lst [.str "call"]) z2 = some (.lst [.str "call"]) := upd_same
        have hss2 := (Tk.same sy).sqt hss1
        have hh3 := (Tk.same sy).sqt hh2
        have tt3 := (Tk.same sy).sqt na2
        have hF3 := sy _ _ hF2
        generalize upd H2 z2 (.lst [.str "call"]) = H3 at sy hz20 hss2 hh3 tt3 hF3
        refine ⟨_, rfl, _, _, _, _, rfl, rfl, hss2, at1 _ _ _, _, rfl, _, _, _, _, rfl, rfl, hh3, at1 _ _ _, _, _, rfl, .inr tt3, rfl, flat_strs _, .inr ⟨_, rfl, ?_⟩⟩
        rw [inV_strs]
        refine ⟨z2, _, _, rfl, rfl, hz20, ?r1, ?r2, ?r3, fun z3 hz3 => ?_⟩
        case r1 => exact rep_lo _
        case r2 => exact rep_hi _
        case r3 => exact rep_sz _ _
        rw [rep_if]
        have sx := same_new hz3 (.lst ((if (!decide (x ∈ N)) = true then [("call" : Str)] else []).map V.str))
        refine ⟨F1, z3, _, _, rfl, rfl, sx _ _ hF3, upd_same, ?r4, fun z4 hz4 => ?_⟩
        case r4 => exact bnd _ (by rw [List.length_map]; exact if_len _ _)
        exact fin z4 _ _ _ _ _ (wrong_cl L N sec x) upd_same (sz.trans (sy.trans (sx.trans (same_new hz4 _))))
      | rt =>
        obtain ⟨sa, sxs, rfl, hss, hsa, hsl⟩ := len_ok hdp1
        cases hsa with
        | cons h0 hsa =>
        cases h0
        refine ⟨_, rfl, _, _, _, _, rfl, rfl, hss, at0 _ _, ?_⟩
        refine nmI ?_
        refine ⟨_, rfl, (by show 2 ≤ sizeLine; decide), fun z1 hz1 => ⟨z1, _, rfl, .inr (SqT.of upd_same), rfl, rfl, _, rfl, ?_⟩⟩
        have sz := same_new hz1 (.tup [.str "do", .str "undo"])
        have hss1 := (Tk.same sz).sqt hss
        have hh2 := (Tk.same sz).sqt hh1
        have la2 := (Tk.same sz).sqt la1
        have na2 := (Tk.same sz).sqt na1
        have hF2 := sz _ _ hF1
        generalize upd H1 z1 (.tup [.str "do", .str "undo"]) = H2 at sz hss1 hh2 la2 na2 hF2
        refine ifF (by decide +kernel) ?_
        refine ⟨_, rfl, rfl, _, rfl, ?_⟩
        rw [dec_str]
        refine ifF (by decide +kernel) ?_
        refine ⟨_, rfl, rfl, _, rfl, ?_⟩
        rw [dec_str]
        refine ifT (by decide +kernel) ?_
        refine ⟨_, rfl, (by show 1 ≤ sizeLine; decide), fun z2 hz2 => ?_⟩
        have sy := same_new hz2 (.lst [.str "return"])
        have hz20 : upd H2 z2 (.lst [.str "return"]) z2 = some (.lst [.str "return"]) := upd_same
        have hF3 := sy _ _ hF2
        generalize upd H2 z2 (.lst [.str "return"]) = H3 at sy hz20 hF3
        refine ⟨_, rfl, .inr ⟨_, rfl, ?_⟩⟩
        refine ⟨z2, _, _, rfl, rfl, hz20, rep_lo _, rep_hi _, rep_sz _ _, fun z3 hz3 => ?_⟩
        rw [rep_if]
        have sx := same_new hz3 (.lst ((if sec = true then [("return" : Str)] else []).map V.str))
        refine ⟨F1, z3, _, _, rfl, rfl, sx _ _ hF3, upd_same, bnd _ (by rw [List.length_map]; exact if_len _ _), fun z4 hz4 => ?_⟩
        exact fin z4 _ _ _ _ _ (wrong_rt L N sec) upd_same (sz.trans (sy.trans (sx.trans (same_new hz4 _))))
      | ch bs =>
        obtain ⟨sa, sxs, rfl, hss, hsa, hsl⟩ := len_ok hdp1
        cases hsa with
        | cons h0 hsa =>
        cases h0
        cases hsa with
        | cons h1 hsa =>
        obtain ⟨ba, ys, rfl, hbs, hba, hbl⟩ := len_ok h1
        have hyl : ys.length = bs.length := by rw [hbl, dss_len]
        refine ⟨_, rfl, _, _, _, _, rfl, rfl, hss, at0 _ _, ?_⟩
        refine nmI ?_
        refine ⟨_, rfl, (by show 2 ≤ sizeLine; decide), fun z1 hz1 => ⟨z1, _, rfl, .inr (SqT.of upd_same), rfl, rfl, _, rfl, ?_⟩⟩
        have sz := same_new hz1 (.tup [.str "do", .str "undo"])
        have hss1 := (Tk.same sz).sqt hss
        have hh2 := (Tk.same sz).sqt hh1
        have la2 := (Tk.same sz).sqt la1
        have na2 := (Tk.same sz).sqt na1
        have hF2 := sz _ _ hF1
        generalize upd H1 z1 (.tup [.str "do", .str "undo"]) = H2 at sz hss1 hh2 la2 na2 hF2
        refine ifF (by decide +kernel) ?_
        refine ⟨_, rfl, rfl, _, rfl, ?_⟩
        rw [dec_str]
        refine ifF (by decide +kernel) ?_
        refine ⟨_, rfl, rfl, _, rfl, ?_⟩
        rw [dec_str]
        refine ifF (by decide +kernel) ?_
        refine ⟨_, rfl, rfl, _, rfl, ?_⟩
        rw [dec_str]
        refine ifT (by decide +kernel) ?_
        have hbs2 := (Tk.same sz).sqt hbs
        refine ⟨_, rfl, _, _, _, _, rfl, rfl, hss1, at1 _ _ _, ba, rfl, ⟨_, hbs2⟩, ?_⟩
        refine for_tup (xs := ys) (fun j σ H' => ∃ F2 b4 b5 b6, σ = [some (.ref a), some (.bl sec), some (.ref hh), some (.ref F2), b4, b5, b6] ∧ H' F2 = some (.lst ((wrongs L N sec (b.take i)).map V.str ++ (wrongss L N sec (bs.take j)).map V.str)) ∧ Same H1 H') ⟨F1, _, _, _, rfl, by rw [hF2]; simp [wrongss, fsss], sz⟩ ?_ ?_ ?_
        · rintro j σ H' _ ⟨_, _, _, _, _, _, s3⟩
          exact (Tk.same s3).sqt hbs
        · rintro j y _ H3 hy ⟨F2, b4, b5, b6, rfl, hF3, s3⟩
          obtain ⟨d3, hd3, hdp3⟩ := dps_get' hba hy
          obtain ⟨c, hcb, rfl⟩ := dss_get hd3
          have hcm := List.mem_of_getElem? hcb
          have hkc := kss_mem hcm
          have hnc := nss_in hcm
          have hlj := wrongss_len L N sec (bs.take j)
          have hnj := nss_take_le bs j
          have hlc := wrongs_len L N sec c
          rw [St.n] at hnt
          rw [St.k] at hsk
          refine nmI ?_
          refine ⟨_, rfl, _, rfl, _, rfl, _, rfl, y, sec, hh, la, na, c, L, N, rfl, (Tk.same s3).dp _ (tup_ds c) hdp3, by omega, by omega, (Tk.same s3).sqt hh1, (Tk.same s3).sqt la1, (Tk.same s3).sqt na1, fun l H4 s4 hl4 => ?_⟩
          refine ⟨F2, l, _, _, rfl, rfl, s4 _ _ hF3, hl4, ?_, fun z4 hz4 => ?_⟩
          · rw [List.length_append, List.length_map, List.length_map, List.length_map]
            exact Nat.le_trans (show _ ≤ 4000 by omega) (by decide)
          · exact ⟨z4, _, _, _, rfl, by rw [upd_same, wrongss_take hcb, List.map_append, List.append_assoc], s3.trans (s4.trans (same_new hz4 _))⟩
        · rintro σ H3 ⟨F2, b4, b5, b6, rfl, hF3, s3⟩
          rw [hyl, List.take_length] at hF3
          exact fin F2 _ _ _ _ _ (wrong_ch L N sec bs) hF3 s3
      | lp c =>
        obtain ⟨sa, sxs, rfl, hss, hsa, hsl⟩ := len_ok hdp1
        cases hsa with
        | cons h0 hsa =>
        cases h0
        cases hsa with
        | cons h1 hsa =>
        refine ⟨_, rfl, _, _, _, _, rfl, rfl, hss, at0 _ _, ?_⟩
        refine nmI ?_
        refine ⟨_, rfl, (by show 2 ≤ sizeLine; decide), fun z1 hz1 => ⟨z1, _, rfl, .inr (SqT.of upd_same), rfl, rfl, _, rfl, ?_⟩⟩
        have sz := same_new hz1 (.tup [.str "do", .str "undo"])
        have hss1 := (Tk.same sz).sqt hss
        have hh2 := (Tk.same sz).sqt hh1
        have la2 := (Tk.same sz).sqt la1
        have na2 := (Tk.same sz).sqt na1
        have hF2 := sz _ _ hF1
        generalize upd H1 z1 (.tup [.str "do", .str "undo"]) = H2 at sz hss1 hh2 la2 na2 hF2
        refine ifF (by decide +kernel) ?_
        refine ⟨_, rfl, rfl, _, rfl, ?_⟩
        rw [dec_str]
        refine ifF (by decide +kernel) ?_
        refine ⟨_, rfl, rfl, _, rfl, ?_⟩
        rw [dec_str]
        refine ifF (by decide +kernel) ?_
        refine ⟨_, rfl, rfl, _, rfl, ?_⟩
        rw [dec_str]
        refine ifF (by decide +kernel) ?_
        have hlc := wrongs_len L N sec c
        rw [St.n] at hnt
        rw [St.k] at hsk
        refine ⟨_, rfl, _, rfl, _, _, _, _, rfl, rfl, hss1, at1 _ _ _, _, rfl, _, rfl, _, sec, hh, la, na, c, L, N, rfl, (Tk.same sz).dp (.tuple (ds c)) (tup_ds c) h1, by omega, by omega, hh2, la2, na2, fun l H4 s4 hl4 => ?_⟩
        refine ⟨F1, l, _, _, rfl, rfl, s4 _ _ hF2, hl4, bnd _ (by rw [List.length_map]; omega), fun z4 hz4 => ?_⟩
        refine nmI ?_
        refine ⟨_, rfl, rfl, _, rfl, ?_⟩
        rw [dec_str]
        refine ifF (by decide +kernel) ?_
        exact fin z4 _ _ _ _ _ (wrong_lp L N sec c) upd_same (sz.trans (s4.trans (same_new hz4 _)))
      | en c e =>
        obtain ⟨sa, sxs, rfl, hss, hsa, hsl⟩ := len_ok hdp1
        cases hsa with
        | cons h0 hsa =>
        cases h0
        cases hsa with
        | cons h1 hsa =>
        cases hsa with
        | cons h2 hsa =>
        refine ⟨_, rfl, _, _, _, _, rfl, rfl, hss, at0 _ _, ?_⟩
        refine nmI ?_
        refine ⟨_, rfl, (by show 2 ≤ sizeLine; decide), fun z1 hz1 => ⟨z1, _, rfl, .inr (SqT.of upd_same), rfl, rfl, _, rfl, ?_⟩⟩
        have sz := same_new hz1 (.tup [.str "do", .str "undo"])
        have hss1 := (Tk.same sz).sqt hss
        have hh2 := (Tk.same sz).sqt hh1
        have la2 := (Tk.same sz).sqt la1
        have na2 := (Tk.same sz).sqt na1
        have hF2 := sz _ _ hF1
        generalize upd H1 z1 (.tup [.str "do", .str "undo"]) = H2 at sz hss1 hh2 la2 na2 hF2
        refine ifF (by decide +kernel) ?_
        refine ⟨_, rfl, rfl, _, rfl, ?_⟩
        rw [dec_str]
        refine ifF (by decide +kernel) ?_
        refine ⟨_, rfl, rfl, _, rfl, ?_⟩
        rw [dec_str]
        refine ifF (by decide +kernel) ?_
        refine ⟨_, rfl, rfl, _, rfl, ?_⟩
        rw [dec_str]
        refine ifF (by decide +kernel) ?_
        have hlc := wrongs_len L N sec c
        have hle := wrongs_len L N true e
        rw [St.n] at hnt
        rw [St.k] at hsk
        refine ⟨_, rfl, _, rfl, _, _, _, _, rfl, rfl, hss1, at1 _ _ _, _, rfl, _, rfl, _, sec, hh, la, na, c, L, N, rfl, (Tk.same sz).dp (.tuple (ds c)) (tup_ds c) h1, by omega, by omega, hh2, la2, na2, fun l H4 s4 hl4 => ?_⟩
        refine ⟨F1, l, _, _, rfl, rfl, s4 _ _ hF2, hl4, bnd _ (by rw [List.length_map]; omega), fun z4 hz4 => ?_⟩
        have s5 := s4.trans (same_new hz4 (.lst ((wrongs L N sec (b.take i)).map V.str ++ (wrongs L N sec c).map V.str)))
        have hz40 : upd H4 z4 (.lst ((wrongs L N sec (b.take i)).map V.str ++ (wrongs L N sec c).map V.str)) z4 = some (.lst ((wrongs L N sec (b.take i)).map V.str ++ (wrongs L N sec c).map V.str)) := upd_same
        generalize upd H4 z4 (.lst ((wrongs L N sec (b.take i)).map V.str ++ (wrongs L N sec c).map V.str)) = H5 at s5 hz40
        refine nmI ?_
        refine ⟨_, rfl, rfl, _, rfl, ?_⟩
        rw [dec_str]
        refine ifT (by decide +kernel) ?_
        refine ⟨_, rfl, _, rfl, _, _, _, _, rfl, rfl, (Tk.same s5).sqt hss1, at2 _ _ _ _, _, rfl, _, true, hh, la, na, e, L, N, rfl, (Tk.same (sz.trans s5)).dp (.tuple (ds e)) (tup_ds e) h2, by omega, by omega, (Tk.same s5).sqt hh2, (Tk.same s5).sqt la2, (Tk.same s5).sqt na2, fun l2 H6 s6 hl6 => ?_⟩
        refine ⟨z4, l2, _, _, rfl, rfl, s6 _ _ hz40, hl6, ?_, fun z5 hz5 => ?_⟩
        · rw [List.length_append, List.length_map, List.length_map, List.length_map]
          exact Nat.le_trans (show _ ≤ 4000 by omega) (by decide)
        · exact fin z5 _ _ _ _ _ (wrong_en L N sec c e) (by rw [upd_same, List.map_append, List.append_assoc]) (sz.trans (s5.trans (s6.trans (same_new hz5 _))))
    · rintro σ H' ⟨F1, b4, b5, b6, rfl, hF1, s1⟩
      refine ⟨_, rfl, q _ _ s1 ?_⟩
      rw [hF1, hl, ds_len, List.take_length]
end
end K04


set_option Elab.async false
set_option linter.all false
set_option maxRecDepth 100000
set_option maxHeartbeats 8000000
namespace K04
open PySem PySem.Spec PyProof.Rows L2
/-! ### what is double -/
def dbAt (L : List Str) (k : Nat) : Bool := match L[k]? with | some x => decide (x ∈ L.take k) | none => false
def dblU (L : List Str) (j : Nat) : List Nat := (List.range j).filter (dbAt L)
theorem dblU_succ (L : List Str) (j : Nat) : dblU L (j + 1) = if dbAt L j = true then dblU L j ++ [j] else dblU L j := by
  unfold dblU
  rw [List.range_succ, List.filter_append]
  by_cases h : dbAt L j = true
  · rw [if_pos h]; simp [h]
  · rw [if_neg h]; simp [h]
theorem dblU_len (L : List Str) (j : Nat) : (dblU L j).length ≤ j := by
  unfold dblU
  exact Nat.le_trans (List.length_filter_le _ _) (by simp)
theorem first_at (L : List Str) : ∀ m i, i + m = L.length → fd1 (L.take i) (L.drop i) = ((List.range' i m).find? (dbAt L)).bind fun k => L[k]?
  | 0, i, h => by
    rw [List.drop_of_length_le (by omega)]
    rfl
  | m + 1, i, h => by
    have hi : i < L.length := by omega
    have hy := List.getElem?_eq_getElem hi
    rw [fd1_step hy, List.range'_succ, List.find?_cons]
    by_cases z : L[i] ∈ L.take i
    · have e : dbAt L i = true := by unfold dbAt; rw [hy]; exact decide_eq_true z
      rw [if_pos z, e]
      exact hy.symm
    · have e : dbAt L i = false := by unfold dbAt; rw [hy]; exact decide_eq_false z
      rw [if_neg z, e]
      exact first_at L m (i + 1) (by omega)
theorem first_is (L : List Str) : firstD L = ((dblU L L.length).head?).bind fun k => L[k]? := by
  have h := first_at L L.length 0 (by omega)
  unfold firstD dblU
  rw [List.head?_filter, List.range_eq_range']
  exact h
theorem dbl_in {L : List Str} {j k : Nat} {r : List Nat} (h : dblU L j = k :: r) : dbAt L k = true := by
  have : k ∈ dblU L j := by rw [h]; simp
  unfold dblU at this
  exact (List.mem_filter.mp this).2
theorem canAll_strs9 : ∀ ns : List Str, (∀ x ∈ ns, PyData.strOk x = true) → PyData.canLayAll0 (ns.map PyData.str) = true ∧ PyData.depthAll (ns.map PyData.str) = 0
  | [], _ => ⟨rfl, rfl⟩
  | n :: ns, h => by
    obtain ⟨a, b⟩ := canAll_strs9 ns fun x hx => h x (List.mem_cons_of_mem _ hx)
    constructor
    · rw [List.map_cons, PyData.canLayAll0, a]; simpa [PyData.canLay0] using h n (by simp)
    · rw [List.map_cons, PyData.depthAll, b]; rfl
theorem shaped_strs9 (ns : List Str) (k : ∀ x ∈ ns, PyData.strOk x = true) : SeqAt.shaped (.list (ns.map PyData.str)) = true := by
  have h := canAll_strs9 ns k
  unfold SeqAt.shaped
  rw [PyData.canLay0, h.1, PyData.depth, h.2]
  rfl
theorem wrongs_ok {L N : List Str} {sec : Bool} {b : List St} : ∀ x ∈ wrongs L N sec b, PyData.strOk x = true := by
  intro x hx
  unfold wrongs at hx
  obtain ⟨⟨s, c⟩, _, e⟩ := List.mem_filterMap.mp hx
  have : x = "letter" ∨ x = "call" ∨ x = "return" := by
    cases s with
    | dd y => simp only [fault1] at e; split at e <;> simp_all
    | ud y => simp only [fault1] at e; split at e <;> simp_all
    | cl y => simp only [fault1] at e; split at e <;> simp_all
    | rt => simp only [fault1] at e; split at e <;> simp_all
    | ch bs => cases e
    | lp c => cases e
    | en c d => cases e
  rcases this with rfl | rfl | rfl <;> decide +kernel
theorem dp_strs9 {K : PySem.W.Frag} {H : Hp} : ∀ ns : List Str, DpAll K H (ns.map V.str) (ns.map PyData.str)
  | [] => .nil
  | n :: ns => .cons (.str n) (dp_strs9 ns)
theorem bfault_is (L N : List Str) (b : List St) : bfault L N b = (wrongs L N false b).head? := by
  unfold bfault wrongs
  rw [List.head?_filterMap]
def ttD (K : PySem.W.Frag) : TT := tTest (tOp (rIn K false) (tOp (rIxT K) (tVar 4) (tVar 6)) (tSl (rSlA K) (tVar 4) tNoPart (tPart (tVar 6))))
section
variable {P : Program} {w : World} {K : PySem.W.Frag} {mg : Str → Option Value} {base : Heap}
theorem wr_all {f : Addr} {fd : FuncData} (F : C8.Def K mg "_law_wrongs" (topS 43) f fd) (b : Binds K fd ["body", "is_second", "heads"] []) (B : Bl K mg) : ∀ n : Nat, C8.Cal P w K mg base (n + 1) "_law_wrongs" (spWr K n) []
  | 0 => C8.cal0 (k := 0) F b .nil sc__law_wrongs (by rintro vs H Q E ⟨v, sec, hd, la, na, b, L, N, rfl, _⟩; rfl) (by rintro cdv A outer s H vs Q E hr ⟨v, sec, hd, la, na, b, L, N, rfl, _, h, _⟩; exact absurd h (by omega))
  | n + 1 => ok_wr F b B (wr_all F b B n)
theorem sc__law_due_check : FnScope ["plan", "names", "procedure", "word", "some", "doubles", "k", "name", "body", "wrongs"] ["plan"] (C8.fnScope (topS 44)) := C8.fnScope_by (by decide +kernel)
def spDue (K : PySem.W.Frag) : Sp := fun vs H Q _ => ∃ v L Ps AL BN, vs = [v] ∧ Dp K H v (progD L Ps) ∧ Prog L Ps AL BN ∧ ∀ H' v', Same H H' → Dp K H' v' (chkD L Ps) → Q v' H'
theorem ok__law_due_check {f : Addr} {fd : FuncData} (F : C8.Def K mg "_law_due_check" (topS 44) f fd) (b : Binds K fd ["plan"] []) (B : Bl K mg) (c_wr : C8.Cal P w K mg base 14 "_law_wrongs" (spWr K 13) []) : C8.Cal P w K mg base 15 "_law_due_check" (spDue K) [] := by
  refine C8.cal0 F b .nil sc__law_due_check ?len ?body
  case len => rintro vs H Q E ⟨v, L, Ps, AL, BN, rfl, _⟩; rfl
  case body =>
    rintro cdv A outer s H vs Q E hr ⟨v, L, Ps, AL, BN, rfl, hd, hP, q⟩
    refine ⟨_, (pss_cons (ps_set (i := 1) sc__law_due_check.nd rfl (Or.inl rfl) (pe_callTy call_tuple_of rfl B.tuple (by decide +kernel) (pa_cons (pe_lc (own := [("procedure", 2)]) (g := gName 2) (te := tOp (rIxT K) (tVar 2) (tC (.int 0))) (by rfl) sc__law_due_check.nd (pi_tup (pe_ix ix_tup (pv 0) pe_int (fun _ _ => rfl))) (blkOk_by (own := [("procedure", 2)]) (N := ["plan", "names", "procedure", "word", "some", "doubles", "k", "name", "body", "wrongs"]) (sc := (C8.fnScope (topS 44))) (by decide +kernel)) (fun _ _ _ _ _ => pg_name (i := 2) sc__law_due_check.nd rfl (Or.inl rfl)) (fun _ _ _ _ _ => pts_nil) (fun _ _ _ _ _ => by exact (pe_ix ix_tup (pv 2) pe_int (fun _ _ => rfl)))) pa_nil)))
    (pss_cons (ps_for PassesOwn.never rfl (pi_tup (pe_tup (pa_cons (pe_tup (pa_cons pe_str (pa_cons (pe_ix ix_tup (pv 0) pe_int (fun _ _ => rfl)) pa_nil))) (pa_cons (pe_tup (pa_cons pe_str (pa_cons (pv 1) pa_nil))) pa_nil)))) (pg_tup rfl (pgs_cons (pg_name (i := 3) sc__law_due_check.nd rfl (Or.inl rfl)) (pgs_cons (pg_name (i := 4) sc__law_due_check.nd rfl (Or.inr rfl)) pgs_nil)))
    (pss_cons (ps_setLc (i := 5)  (own := [("k", 6)]) (tt := ttD K) (g := gName 6) (by rfl) sc__law_due_check.nd rfl rfl (sw_true rfl rfl rfl (by decide +kernel)) (pi_range1 rfl B.range (pa_cons (pe_callB call_len_seq rfl B.len PySem.boot_len (pa_cons (pv 4) pa_nil)) pa_nil)) (blkOk_by (own := [("k", 6)]) (N := ["plan", "names", "procedure", "word", "some", "doubles", "k", "name", "body", "wrongs"]) (sc := (C8.fnScope (topS 44))) (by decide +kernel)) (fun _ _ _ _ _ => pg_name (i := 6) sc__law_due_check.nd rfl (Or.inl rfl)) (fun _ _ _ _ _ => by exact (pts_one (pt_cmpR op_in_seq (pe_ix ix_tup (pv 4) (pv 6) (fun _ _ => rfl)) (pe_slice sl_tupA (pv 4) po_none (po_some (pv 6))) (by with_unfolding_all rfl)))) (fun _ _ _ _ _ => (pv 6)))
    (pss_one (ps_if (pt_cmpR (op_neD hr.units) (pv 5) (pe_lst pa_nil) (nomark _)) (pss_one (ps_ret (pe_tup (pa_cons (pv 3) (pa_cons (pe_ix ix_tup (pv 4) (pe_ix ix_list (pv 5) pe_int (fun _ _ => rfl)) (fun _ _ => rfl)) pa_nil))))) pss_nil))))
    (pss_cons (ps_for PassesOwn.never rfl (pi_tup (pe_ix ix_tup (pv 0) pe_int (fun _ _ => rfl))) (pg_tup rfl (pgs_cons (pg_name (i := 7) sc__law_due_check.nd rfl (Or.inl rfl)) (pgs_cons (pg_name (i := 8) sc__law_due_check.nd rfl (Or.inl rfl)) pgs_nil)))
    (pss_cons (ps_set (i := 9) sc__law_due_check.nd rfl (Or.inl rfl) (C8.pe_c c_wr hr (by decide) rfl (pa_cons (pv 8) (pa_cons pe_bl (pa_cons (pe_tup (pa_cons (pe_ix ix_tup (pv 0) pe_int (fun _ _ => rfl)) (pa_cons (pv 1) pa_nil))) pa_nil)))))
    (pss_one (ps_if (pt_cmpR (op_neD hr.units) (pv 9) (pe_lst pa_nil) (nomark _)) (pss_one (ps_ret (pe_tup (pa_cons (pe_ix ix_list (pv 9) pe_int (fun _ _ => rfl)) (pa_cons (pv 7) pa_nil))))) pss_nil))))
    (pss_one (ps_ret pe_non))))), ?_⟩
    obtain ⟨a, xs, rfl, hs, ha, hl⟩ := len_ok hd
    cases ha with
    | @cons vL _ _ _ hvL ha =>
    cases ha with
    | @cons vP _ _ _ hvP ha =>
    cases ha
    obtain ⟨la, lxs, rfl, hls, hla, hll⟩ := len_ok hvL
    obtain ⟨pa, pxs, rfl, hps, hpa, hpl⟩ := len_ok hvP
    have elx : lxs = L.map V.str := strs_vals hla
    subst elx
    rw [List.length_map] at hpl
    have hL20 := hP.l2
    have hP8 := hP.p2
    refine ⟨_, rfl, _, _, _, _, rfl, rfl, hs, at1 _ _ _, pa, rfl, ⟨_, hps⟩, fun Dd hDd => ?_⟩
    refine lc_tup (xs := pxs) (fun i H' => H' Dd = some (.lst (((Ps.take i).map Prod.fst).map V.str)) ∧ Same H H') ?_ ?_ ?_ ?_
    · exact ⟨by simpa using upd_same, same_new hDd _⟩
    · rintro i H' _ ⟨_, s5⟩
      exact (Tk.same s5).sqt hps
    · rintro i x H5 hx ⟨hv1, s5⟩
      obtain ⟨d, hd, hdp⟩ := dps_get' hpa hx
      obtain ⟨p, hp, rfl⟩ := procs_get hd
      have hd5 := (Tk.same s5).dp _ (tup_proc p) hdp
      obtain ⟨qa, qxs, rfl, hqs, hqa, hql⟩ := len_ok hd5
      cases hqa with
      | @cons v0 _ _ _ h0 hqa =>
      cases h0
      refine ⟨rfl, ?_⟩
      refine ⟨_, rfl, _, _, _, _, rfl, rfl, hqs, at0 _ _, _, hv1, ?_, ?_, ?_⟩
      · have h3 : (Ps.take i).length ≤ Ps.length := List.length_take_le' _ _
        exact Nat.lt_of_le_of_lt (show _ ≤ 8 by rw [List.length_map, List.length_map]; omega) (by decide)
      · rw [upd_same, List.take_succ, hp]
        simp
      · intro b o e
        rw [upd_ne (fun z => by rw [z, hDd] at e; cases e)]
        exact s5 _ _ e
    rintro H1 ⟨hv1, s1⟩
    rw [hpl, List.take_length] at hv1
    have hN8 : (Ps.map Prod.fst).length ≤ 8 := by rw [List.length_map]; omega
    generalize hN : Ps.map Prod.fst = N at hv1 hN8
    refine ⟨Dd, _, rfl, .inl ⟨SqL.of hv1, fun na hna0 => ?_⟩⟩
    have s2 := same_new hna0 (.tup (N.map V.str))
    have hna : SqT K (upd H1 na (.tup (N.map V.str))) na (N.map V.str) := SqT.of upd_same
    have s02 := s1.trans s2
    generalize upd H1 na (.tup (N.map V.str)) = H2 at s2 hna s02
    clear hv1 s1 hna0 s2 hDd
    refine nmI ?_
    have hs2 := (Tk.same s02).sqt hs
    have hls2 := (Tk.same s02).sqt hls
    refine ⟨_, rfl, _, _, _, _, rfl, rfl, hs2, at0 _ _, (by show 2 ≤ sizeLine; decide), fun t1 ht1 => ?_⟩
    have st1 := same_new ht1 (.tup [.str "letter", .ref la])
    have q1 : SqT K (upd H2 t1 (.tup [.str "letter", .ref la])) t1 [.str "letter", .ref la] := SqT.of upd_same
    generalize upd H2 t1 (.tup [.str "letter", .ref la]) = H3 at st1 q1
    refine ⟨_, rfl, (by show 2 ≤ sizeLine; decide), fun t2 ht2 => ?_⟩
    have st2 := same_new ht2 (.tup [.str "double", .ref na])
    have q2 : SqT K (upd H3 t2 (.tup [.str "double", .ref na])) t2 [.str "double", .ref na] := SqT.of upd_same
    generalize upd H3 t2 (.tup [.str "double", .ref na]) = H4 at st2 q2
    refine ⟨(by show 2 ≤ sizeLine; decide), fun t3 ht3 => ?_⟩
    have st3 := same_new ht3 (.tup [.ref t1, .ref t2])
    have q3 : SqT K (upd H4 t3 (.tup [.ref t1, .ref t2])) t3 [.ref t1, .ref t2] := SqT.of upd_same
    generalize upd H4 t3 (.tup [.ref t1, .ref t2]) = H5 at st3 q3
    have S25 := st1.trans (st2.trans st3)
    have q15 := (Tk.same (st2.trans st3)).sqt q1
    have q25 := (Tk.same st3).sqt q2
    have hls5 := (Tk.same S25).sqt hls2
    have hna5 := (Tk.same S25).sqt hna
    have S05 := s02.trans S25
    refine ⟨t3, rfl, ⟨_, q3⟩, ?_⟩
    have ek : chkD L Ps = chkD L Ps := rfl
    conv at ek => rhs; unfold chkD
    rw [hN] at ek
    refine for_tup (xs := [.ref t1, .ref t2]) (fun j σ H' => (∃ b2 b3 b4 b5 b6 b7 b8 b9, σ = [some (.ref a), some (.ref na), b2, b3, b4, b5, b6, b7, b8, b9]) ∧ Same H5 H' ∧ (1 ≤ j → firstD L = none) ∧ (2 ≤ j → firstD N = none)) ⟨⟨_, _, _, _, _, _, _, _, rfl⟩, Same.refl _, fun h => absurd h (by omega), fun h => absurd h (by omega)⟩ ?_ ?_ ?_
    · rintro j σ H' _ ⟨_, s6, _⟩
      exact (Tk.same s6).sqt q3
    · rintro j x _ H6 hx ⟨⟨b2, b3, b4, b5, b6, b7, b8, b9, rfl⟩, s6, n1, n2⟩
      obtain ⟨t, word, S, sa, rfl, ht, hsa, hS, yes, no⟩ : ∃ (t : Addr) (word : Str) (S : List Str) (sa : Addr), x = .ref t ∧ SqT K H6 t [.str word, .ref sa] ∧ SqT K H6 sa (S.map V.str) ∧ S.length ≤ 20 ∧ (∀ y, firstD S = some y → chkD L Ps = .tuple [.str word, .str y]) ∧ (firstD S = none → (1 ≤ j + 1 → firstD L = none) ∧ (2 ≤ j + 1 → firstD N = none)) := by
        match j, hx with
        | 0, hx =>
          cases hx
          exact ⟨t1, "letter", L, la, rfl, (Tk.same s6).sqt q15, (Tk.same s6).sqt hls5, hL20, fun y e => by rw [ek, e], fun e => ⟨fun _ => e, fun h => absurd h (by omega)⟩⟩
        | 1, hx =>
          cases hx
          exact ⟨t2, "double", N, na, rfl, (Tk.same s6).sqt q25, (Tk.same s6).sqt hna5, by omega, fun y e => by rw [ek, n1 (by omega), e], fun e => ⟨fun _ => n1 (by omega), fun _ => e⟩⟩
        | k + 2, hx => cases hx
      have S06 := S05.trans s6
      refine ⟨t, _, rfl, ht, rfl, _, _, rfl, _, _, rfl, rfl, ?_⟩
      refine ⟨_, rfl, sa, _, rfl, .inr hsa, _, rfl, by omega, by rw [List.length_map]; omega, fun D6 hD6 => ?_⟩
      refine lc_range (lo := 0) (n := (((S.map V.str).length : Int)).toNat) (fun i H' => H' D6 = some (.lst (ixV (dblU S i))) ∧ Same H6 H') ?_ ?_ ?_
      · exact ⟨upd_same, same_new hD6 _⟩
      · rintro i H7 hi ⟨hv7, s7⟩
        have hiS : i < S.length := by rw [List.length_map] at hi; omega
        have hy := List.getElem?_eq_getElem hiS
        generalize S[i] = y at hy
        have ei : ((0 : Int) + (i : Nat)) = ((i : Nat) : Int) := by omega
        rw [ei]
        have hsa7 := (Tk.same s7).sqt hsa
        have hyV : (S.map V.str)[i]? = some (.str y) := by rw [List.getElem?_map, hy]; rfl
        refine ⟨rfl, ?_⟩
        refine ⟨_, rfl, _, rfl, _, _, _, _, rfl, rfl, hsa7, atI_nat hyV, _, rfl, _, rfl, _, rfl, sa, _, rfl, hsa7, fun w => ?_, fun _ p hp => ?_⟩
        · have e2 := w.2
          rw [sIx_le (by rw [List.length_map]; omega)] at e2
          rw [List.length_map] at e2
          omega
        · rw [cut_take _ (by rw [List.length_map]; omega), ← List.map_take]
          refine ⟨p, _, rfl, .inr (SqT.of upd_same), rfl, flat_strs _, _, rfl, ?_⟩
          have s8 := s7.trans (same_new hp (.tup ((S.take i).map V.str)))
          have hv8 := (same_new hp (.tup ((S.take i).map V.str))) _ _ hv7
          show (if (if false = true then _ else inV (.str y) ((S.take i).map V.str)) = true then _ else _)
          rw [if_neg Bool.false_ne_true, inV_strs]
          have ed : dbAt S i = decide (y ∈ S.take i) := by unfold dbAt; rw [hy]
          have es := dblU_succ S i
          rw [ed] at es
          cases ho : decide (y ∈ S.take i) with
          | false =>
            rw [ho, if_neg Bool.false_ne_true] at es
            refine ifF rfl ⟨?_, s8⟩
            rw [es]
            exact hv8
          | true =>
            rw [ho, if_pos rfl] at es
            refine ifT rfl ⟨_, rfl, _, hv8, ?_, ?_, fun z o e => ?_⟩
            · have := dblU_len S i
              exact Nat.lt_of_le_of_lt (show _ ≤ 300 by rw [ixV, ixI, List.length_map, List.length_map]; omega) (by decide)
            · rw [es]
              unfold ixV ixI
              rw [List.map_append, List.map_append]
              exact upd_same
            · rw [upd_ne (fun zz => by rw [zz, hD6] at e; cases e)]
              exact s8 _ _ e
      · rintro H7 ⟨hv7, s7⟩
        have en : (((S.map V.str).length : Int)).toNat = S.length := by rw [List.length_map]; omega
        rw [en] at hv7
        have fi := first_is S
        have S07 := S06.trans s7
        refine ⟨_, rfl, (by show 0 ≤ sizeLine; decide), fun p0 hp0 => ⟨.list ((ixI (dblU S S.length)).map PyData.int), .list [], .lst (SqL.of ((same_new hp0 _) _ _ hv7)) (dp_ints9 _), .lst (SqL.of upd_same) .nil, shaped_ints _, by decide +kernel, _, rfl, ?_⟩⟩
        rw [eqv_nil9]
        have s8 := same_new hp0 (.lst [])
        have hv8 := s8 _ _ hv7
        generalize upd H7 p0 (.lst []) = H8 at s8 hv8
        cases hk : dblU S S.length with
        | nil =>
          rw [hk] at fi
          refine ifF (by decide +kernel) ⟨⟨_, _, _, _, _, _, _, _, rfl⟩, s6.trans (s7.trans s8), no fi⟩
        | cons k r =>
          rw [hk] at fi hv8
          have hin := dbl_in hk
          unfold dbAt at hin
          cases hy : S[k]? with
          | none => rw [hy] at hin; cases hin
          | some y =>
            have fi2 : firstD S = some y := fi.trans hy
            refine ifT (by simp [ixI]) ?_
            refine ⟨_, rfl, _, rfl, _, rfl, D6, _, _, _, rfl, rfl, SqL.of hv8, at0 _ _, sa, _, _, _, rfl, rfl, (Tk.same (s7.trans s8)).sqt hsa, atI_nat (j := k) (by rw [List.getElem?_map, hy]; rfl), (by show 2 ≤ sizeLine; decide), fun pr hpr => ?_⟩
            refine q _ _ (S07.trans (s8.trans (same_new hpr _))) ?_
            rw [yes y fi2]
            exact .tup (SqT.of upd_same) (.cons (.str _) (.cons (.str _) .nil))
    · rintro _ H6 ⟨⟨b2, b3, b4, b5, b6, b7, b8, b9, rfl⟩, s6, n1, n2⟩
      rw [n1 (by show 1 ≤ 2; decide), n2 (by show 2 ≤ 2; decide)] at ek
      have S06 := S05.trans s6
      have hs6 := (Tk.same S06).sqt hs
      have hps6 := (Tk.same S06).sqt hps
      have hls6 := (Tk.same s6).sqt hls5
      have hna6 := (Tk.same s6).sqt hna5
      refine ⟨_, rfl, _, _, _, _, rfl, rfl, hs6, at1 _ _ _, pa, rfl, ⟨_, hps6⟩, ?_⟩
      refine for_tup (xs := pxs) (fun j σ H' => (∃ b2 b3 b4 b5 b6 b7 b8 b9, σ = [some (.ref a), some (.ref na), b2, b3, b4, b5, b6, b7, b8, b9]) ∧ Same H6 H' ∧ (Ps.take j).findSome? (pfault L N) = none) ⟨⟨_, _, _, _, _, _, _, _, rfl⟩, Same.refl _, rfl⟩ ?_ ?_ ?_
      · rintro j σ H' _ ⟨_, s7, _⟩
        exact (Tk.same s7).sqt hps6
      · rintro j x _ H7 hx ⟨⟨b2, b3, b4, b5, b6, b7, b8, b9, rfl⟩, s7, nf⟩
        obtain ⟨d, hd, hdp⟩ := dps_get' hpa hx
        obtain ⟨p, hp, rfl⟩ := procs_get hd
        have S07 := S06.trans s7
        have hd7 := (Tk.same S07).dp _ (tup_proc p) hdp
        obtain ⟨qa, qxs, rfl, hqs, hqa, hql⟩ := len_ok hd7
        cases hqa with
        | @cons v0 _ _ _ h0 hqa =>
        cases h0
        cases hqa with
        | @cons v1 _ _ _ h1 hqa =>
        cases hqa
        have hpm : p.2 ∈ nsP Ps := List.mem_map.mpr ⟨p, List.mem_of_getElem? hp, rfl⟩
        have hk12 := kss_mem hpm
        have hn200 := nss_mem hpm
        have := hP.ks
        have := hP.n
        refine ⟨qa, _, rfl, hqs, rfl, _, _, rfl, _, _, rfl, rfl, ?_⟩
        refine ⟨_, rfl, _, rfl, _, _, _, _, rfl, rfl, (Tk.same s7).sqt hs6, at0 _ _, _, rfl, (by show 2 ≤ sizeLine; decide), fun hh hhh => ?_⟩
        have s8 := same_new hhh (.tup [.ref la, .ref na])
        have q8 : SqT K (upd H7 hh (.tup [.ref la, .ref na])) hh [.ref la, .ref na] := SqT.of upd_same
        generalize upd H7 hh (.tup [.ref la, .ref na]) = H8 at s8 q8
        have S78 := s7.trans s8
        refine ⟨v1, false, hh, la, na, p.2, L, N, rfl, (Tk.same s8).dp (.tuple (ds p.2)) (tup_ds p.2) h1, by omega, by omega, q8, (Tk.same S78).sqt hls6, (Tk.same S78).sqt hna6, fun l H9 s9 hl9 => ?_⟩
        refine nmI ?_
        refine ⟨_, rfl, (by show 0 ≤ sizeLine; decide), fun p0 hp0 => ⟨.list ((wrongs L N false p.2).map PyData.str), .list [], .lst (SqL.of ((same_new hp0 _) _ _ hl9)) (dp_strs9 _), .lst (SqL.of upd_same) .nil, shaped_strs9 _ wrongs_ok, by decide +kernel, _, rfl, ?_⟩⟩
        rw [eqv_nil9]
        have s10 := same_new hp0 (.lst [])
        have hl10 := s10 _ _ hl9
        generalize upd H9 p0 (.lst []) = H10 at s10 hl10
        have bf := bfault_is L N p.2
        have S810 := s8.trans (s9.trans s10)
        cases hk : wrongs L N false p.2 with
        | nil =>
          rw [hk] at bf
          refine ifF (by decide +kernel) ⟨⟨_, _, _, _, _, _, _, _, rfl⟩, s7.trans S810, ?_⟩
          rw [List.take_succ, hp, List.findSome?_append, nf]
          show ([p].findSome? (pfault L N)) = none
          simp [List.findSome?, pfault, bf]
        | cons wd r =>
          rw [hk] at bf hl10
          refine ifT (by simp) ?_
          refine ⟨_, rfl, l, _, _, _, rfl, rfl, SqL.of hl10, at0 _ _, _, rfl, (by show 2 ≤ sizeLine; decide), fun pr hpr => ?_⟩
          refine q _ _ (S07.trans (S810.trans (same_new hpr _))) ?_
          have ef : Ps.findSome? (pfault L N) = some (wd, p.1) := by
            have e1 : Ps = Ps.take j ++ p :: Ps.drop (j + 1) := split_at hp
            rw [e1, List.findSome?_append, nf]
            simp [pfault, bf]
          rw [ef] at ek
          rw [ek]
          exact .tup (SqT.of upd_same) (.cons (.str _) (.cons (.str _) .nil))
      · rintro _ H7 ⟨⟨b2, b3, b4, b5, b6, b7, b8, b9, rfl⟩, s7, nf⟩
        rw [hpl, List.take_length] at nf
        rw [nf] at ek
        refine q _ _ (S06.trans s7) ?_
        rw [ek]
        exact .non
end
end K04


set_option Elab.async false
set_option linter.all false
set_option maxRecDepth 100000
set_option maxHeartbeats 4000000
/-! a comprehension whose element may raise: the error leaves the block and is in the air of the def -/
namespace UG
open PySem PySem.Spec PyProof.Rows L2

theorem frames_swap {h h' B B' : Heap} (k : ∀ b o, h.get? b = some o → B.get? b = none → h'.get? b = some o) (n : ∀ b, B.get? b = none → B'.get? b = none) : ∀ {l : List Env}, h.FunFrames B l → h'.FunFrames B' l
  | [], _ => trivial
  | _ :: _, ⟨kd, ⟨L, o, ef, eB, eh, nf⟩, rest⟩ => ⟨kd, ⟨L, o, ef, n L eB, k L o eh eB, nf⟩, frames_swap k n rest⟩
section
variable {X : Cx} {pins : List (Addr × Obj)} {σ : L2.St} {H1 : Hp} {s1 s2 : Shared} {W : WX} {E : XK} {C : Addr} {ce : Env} {e : Value}
theorem note_same (hce : ce.frame = X.env.frame) (v : Value) : noteFrame v ce = noteFrame v X.env := by
  unfold noteFrame PySem.frameOf
  rw [hce]
/-- the error of a call within a block, noted, and the block's names let go -/
theorem fly_out (hfr : X.A.frames = some X.stack) (hs : X.stack = X.env :: X.outer) (hf : X.env.frame = some X.env.locals) (tk : Takes X W) (hW : ∀ cls d σ H, E cls d H → W cls d σ H) (J : Inv X pins σ H1 s1) (fp : FpOk X pins H1 C)
    (hn : ∃ m, s1.heap.Ns C m) (hce : ce.frame = X.env.frame) (c : L2.CX X.prog X.w X.stack H1 s1 E e s2) {EE : Value → Shared → Prop} :
    wpAny (model X.prog X.w) X.A (noteFrame e ce) (fun _ s3 => ∃ m, s3.heap.Ns C m ∧ ∀ h', Heap.SameBut C s3.heap h' →
      wpAny (model X.prog X.w) X.A (PySem.passOn "comprehension.variables-let-go" e ce : Sem Value) (fun _ _ => False) X.xe { s3 with heap := h' }) EE s2 := by
  obtain ⟨a, B, H2, cls, d, rfl, fl, hok, ub, na, eos, ag, hE⟩ := c
  have nC : C ∉ frs X.stack := fun z => (List.mem_cons.mp (J.stkSub C z)).elim fp.2.1 fp.2.2.1
  obtain ⟨m, oC, es, ep, hoC, rC⟩ := hn
  have bC : B.get? C = some oC := ub.keep C oC hoC fp.1 nC
  have hC2 : H2 C = none := ub.free C oC hoC fp.1
  rw [note_same hce]
  refine HandSPX.looks_onZ (Z := Zc cls d) Zc.steady (by rw [hfr, hs]) hf (by rw [← hs]; exact fl) fun h3 held up => ?_
  rw [← hs] at held
  refine ⟨m, ⟨oC, es, ep, held.1 C oC bC, rC⟩, fun h' sb => ?_⟩
  obtain ⟨B', b1, b2⟩ := restrict h' fun b => (B.get? b).isSome
  obtain ⟨G, g1, g2⟩ := restrict h' fun b => (B.get? b).isSome || decide (b ∈ frs X.stack)
  have noB : ∀ b, B.get? b = none → B'.get? b = none := fun b hb => b2 b (by rw [hb]; rfl)
  have isB : ∀ b o, B.get? b = some o → B'.get? b = h'.get? b := fun b o hb => b1 b (by rw [hb]; rfl)
  have ofB : ∀ b o, B'.get? b = some o → ∃ o', B.get? b = some o' := fun b o hb => by
    cases q : B.get? b with
    | none => rw [noB b q] at hb; cases hb
    | some o' => exact ⟨o', rfl⟩
  have ofNone : ∀ b, B.get? b = none → b ≠ C := fun b hb z => by rw [z, bC] at hb; cases hb
  have st' : B'.StaysIn h' := fun b o hb => by
    obtain ⟨o', q⟩ := ofB b o hb
    rw [isB b o' q] at hb
    exact hb
  have fr' : h'.FunFrames B' X.stack := frames_swap (fun b o hb nb => (sb.2 b (ofNone b nb)).trans hb) noB held.2.2.1
  have aB : B.get? a = none := held.2.1
  have atB : ∀ b o, B.get? b = some o → b ≠ C → h'.get? b = some o := fun b o hb n => (sb.2 b n).trans (held.1 b o hb)
  have atG : ∀ b o, B.get? b = some o → G.get? b = h'.get? b := fun b o hb => g1 b (by rw [hb]; rfl)
  have atF : ∀ b, b ∈ frs X.stack → G.get? b = h'.get? b := fun b hb => g1 b (by rw [decide_eq_true hb, Bool.or_true])
  have ofG : ∀ b o, G.get? b = some o → h'.get? b = some o ∧ ((∃ o', B.get? b = some o') ∨ b ∈ frs X.stack) := fun b o hb => by
    cases q : B.get? b with
    | some o' =>
      rw [atG b o' q] at hb
      exact ⟨hb, .inl ⟨o', rfl⟩⟩
    | none =>
      by_cases z : b ∈ frs X.stack
      · rw [atF b z] at hb
        exact ⟨hb, .inr z⟩
      · rw [g2 b (by rw [q, decide_eq_false z]; rfl)] at hb
        cases hb
  have frF : ∀ b o, s1.heap.get? b = some o → b ∈ frs X.stack → ∃ sl, G.get? b = some { o with slots := sl } := fun b o hb z => by
    obtain ⟨sl, q⟩ := ub.slot b o hb z
    obtain ⟨_, o', q', nf⟩ := J.stack.mem z
    rw [hb] at q'
    cases q'
    obtain ⟨sl2, q2⟩ := up b _ q nf
    refine ⟨sl2, ?_⟩
    rw [atF b z, sb.2 b (fun w => nC (by rw [← w]; exact z))]
    exact q2
  have J2 : Inv X pins σ H2 { s1 with heap := G, gens := s2.gens, drawn := s1.drawn, toks := s1.toks } := by
    refine J.call (ch := [C]) ⟨fun b o hb n1 n2 n3 => ?_, fun b o hb _ z _ => frF b o hb z, fun b o hb n1 _ => ub.free b o hb n1, fun b o hb n3 => ?_, ub.tups, ub.frzs, ub.tbls⟩ (fun b o hb => ?_) ag fun b hb => ?_
    · have q := ub.keep b o hb n1 n2
      rw [atG b o q]
      exact atB b o q (fun w => n3 (by rw [w]; exact List.mem_cons_self))
    · by_cases z : b ∈ frs X.stack
      · obtain ⟨sl, q⟩ := frF b o hb z
        exact ⟨_, q⟩
      · obtain ⟨o', q⟩ := ub.there b o hb z
        exact ⟨o', (atG b o' q).trans (atB b o' q (fun w => n3 (by rw [w]; exact List.mem_cons_self)))⟩
    · refine (hok b o hb).stay (fun b' u hb' r => ?_) (fun _ r => r) fun _ _ r => r
      have n : b' ≠ C := fun w => by
        rcases hb' with z | z
        · rw [← z, w, hC2] at hb; cases hb
        · rw [w, hC2] at z; cases z
      exact (atG b' u r).trans (atB b' u r n)
    · cases List.mem_singleton.mp hb
      exact ⟨fp.2.2.2.1, fp.2.1, fp.2.2.2.2.1, fp.2.2.2.2.2⟩
  obtain ⟨oe, vs, T, oT, ts, he, hz, hd, h1, hnT, hTe, hT, hdT, h4⟩ := held.2.2.2
  have he' : h'.get? a = some oe := (sb.2 a (ofNone a aB)).trans he
  have hT' : h'.get? T = some oT := (sb.2 T (ofNone T hnT)).trans hT
  unfold PySem.passOn
  refine wpAny_bind (wpAny_field he' hd h1 ?_)
  rw [if_neg (show ¬ ((Value.ref T == Value.none) = true) from by simp)]
  have fin : wpAny (model X.prog X.w) X.A (setFlight (.ref a) ce.frame) (fun _ s4 => wpAny (model X.prog X.w) X.A (throw (Value.ref a) : Sem Value) (fun _ _ => False) X.xe s4) X.xe { s2 with heap := h' } := by
    rw [hce, hf]
    refine HandSPX.setFlight_anyZ st' fr' ⟨oe, vs, T, oT, ts, he', hz, hd, h1, noB T hnT, hTe, hT', hdT, h4⟩ fun h5 k1 k2 k3 k4 => wpAny_throw (tk _ _ ?_)
    refine ⟨a, B', _, pins, σ, H2, cls, d, rfl, J2, fun b o hb nb => ?_, fun b o hb nf => ?_, .inr (.inr ⟨k1, noB a aB, k2, k3⟩), na, eos, ag, hW _ _ _ _ hE⟩
    · obtain ⟨q, w⟩ := ofG b o hb
      rcases w with ⟨o', w⟩ | w
      · rw [isB b o' w]; exact q
      · exact absurd w nb
    · exact k4 b o (ofG b o hb).1 nf
  first
    | exact wpAny_bind (wpAny_pure (wpAny_bind fin))
    | exact wpAny_bind fin
end
/-- what the end of a block asks; cv: the block's own frame -/
def blockEnd (M : Model) (A : Around) (EE : Value → Shared → Prop) (use : Option (Value → Sem Unit)) (Q : Value → Shared → Prop) (acc : Value) (cv : Env) (r : Result) (s' : Shared) : Prop :=
  match r with
  | .error x => ∃ m, s'.heap.Ns cv.locals m ∧ ∀ h', Heap.SameBut cv.locals s'.heap h' → wpAny M A (PySem.passOn "comprehension.variables-let-go" x cv : Sem Value) (fun _ _ => False) EE { s' with heap := h' }
  | .ok _ => match use with
    | none => ∃ m, s'.heap.Ns cv.locals m ∧ ∀ h', Heap.SameBut cv.locals s'.heap h' → Q acc { s' with heap := h' }
    | some u => wpAny M A (u acc) (fun _ s2 => ∃ m, s2.heap.Ns cv.locals m ∧ ∀ h', Heap.SameBut cv.locals s2.heap h' → Q .none { s2 with heap := h' }) EE s'
section
variable {M : Model} {A : Around} {EE : Value → Shared → Prop} {env : Env} {s : Shared}
theorem comp_wp {ex : Expr} {sc : Scope} {pos : Pos} {mkAcc first : Sem Value} {gen : Comprehension} {gens : List Comprehension} {cls : List (Str × Addr)} {use : Option (Value → Sem Unit)} {Q : Value → Shared → Prop}
    (h1 : clausesOf ex = gen :: gens) (h2 : ∀ x, foldedSetIterable gen.iter env x = pure x) (h3 : closureFor sc env = pure cls) (h4 : sc.kind = .function) (h5 : ∀ x ∈ sc.names, x.2 = .local → sc.names.lookup x.1 = some .local)
    (hyp : wpAny M A first (fun x sA => wpAny M A (pyIter x) (fun it sB => wpAny M A mkAcc (fun acc sC =>
      wpAny M A (newFunctionEnv sc env.globals cls [] env.qual none .none (some env)) (fun cv sD =>
        codeAny M A (.compStart ex 0 it acc { cv with scope := relabel sc env }) (blockEnd M A EE use Q acc { cv with scope := relabel sc env }) sD) EE sC) EE sB) EE sA) EE s) :
    wpAny M A (comprehension ex sc env pos mkAcc false first use) Q EE s := by
  unfold comprehension
  rw [h3, h1]
  refine wpAny_bind (wpAny_mono hyp (fun x sA hA => ?_) fun _ _ y => y)
  refine wpAny_bind (wpAny_standAt (wpAny_bind (wpAny_of_eq (h2 x) (wpAny_bind (wpAny_holding (wpAny_mono hA (fun it sB hB => ?_) fun _ _ y => y))))))
  refine wpAny_standIf (wpAny_bind (wpAny_mono hB (fun acc sC hC => ?_) fun _ _ y => y))
  refine wpAny_bind (wpAny_pure (wpAny_bind (wpAny_mono hC (fun cv sD hD => ?_) fun _ _ y => y)))
  dsimp only
  have loc1 : ∀ x ∈ (sc.names.filter fun x => (x.2 == .local || x.2 == .cell) && x.1 != (".0" : Str)).reverse, x.2 = .local → Env.kindOf { cv with scope := relabel sc env } x.1 = some .local :=
    fun x hx el => lookup_relabel_local (h5 x (List.mem_filter.mp (List.mem_reverse.mp hx)).1 el)
  have loc2 : ∀ x ∈ (sc.names.filter fun x => (x.2 == .local || x.2 == .cell) && x.1 != (".0" : Str)).reverse.drop 1 ++ (sc.names.filter fun x => (x.2 == .local || x.2 == .cell) && x.1 != (".0" : Str)).reverse.take 1,
      x.2 = .local → Env.kindOf { cv with scope := relabel sc env } x.1 = some .local :=
    fun x hx el => (List.mem_append.mp hx).elim (fun q => loc1 x (List.mem_of_mem_drop q) el) fun q => loc1 x (List.mem_of_mem_take q) el
  refine wpAny_holding (wpAny_bind (wpAny_attempt (wpAny_holding (wpAny_run (codeAny_mono hD fun r sE hr => ?_)))))
  cases r with
  | error x =>
    have hr2 : blockEnd M A EE none Q acc { cv with scope := relabel sc env } (.error x) sE := hr
    obtain ⟨m, hm, go⟩ := hr2
    cases use <;> exact wpAny_bind (wpAny_holding (wpAny_comp_letGo (cenv := { cv with scope := relabel sc env }) h4 _ sE m loc1 hm fun hh _ _ sb => wpAny_mono (go hh sb) (fun _ _ z => z.elim) fun _ _ y => y))
  | ok fl =>
    cases use with
    | none =>
      obtain ⟨m, hm, go⟩ := hr
      exact wpAny_bind (wpAny_holding (wpAny_comp_letGo (cenv := { cv with scope := relabel sc env }) h4 _ sE m loc1 hm fun hh _ _ sb => wpAny_pure (go hh sb)))
    | some u =>
      refine wpAny_bind (wpAny_rule (wpAny_bind (wpAny_holding (wpAny_mono hr (fun _ sF hF => ?_) fun _ _ y => y))))
      obtain ⟨m, hm, go⟩ := hF
      exact wpAny_bind (wpAny_comp_letGo (cenv := { cv with scope := relabel sc env }) h4 _ sF m loc2 hm fun hh _ _ sb => wpAny_pure (go hh sb))
end
/-- the context of an element that may raise -/
abbrev elX (X : Cx) (s : Shared) (H : Hp) (sc : Scope) (ce : Env) (fp : List Addr) (xe : Value → Shared → Prop) : Cx := (X.blk s H sc ce fp).wish xe
section
variable {X : Cx}
theorem core_x {pins : List (Addr × Obj)} {sh : Shared} {σ : L2.St} {H : Hp} {Q : VK} {W : WX} {E : XK} {elt tgt itr : Expr} {ifs : List Expr} {sc : Scope} {own : List (Str × Nat)} {pos pos' : Pos} {wi : TI} {g : TG} {tt : TT} {te : TE} {use : Option (Value → Sem Unit)} {Qf : Value → Shared → Prop}
    (hs : X.stack = X.env :: X.outer) (hf : X.env.frame = some X.env.locals) (tk : Takes X W) (hW : ∀ cls d σ H, E cls d H → W cls d σ H)
    (calm : X.calm = true) (J : Inv X pins σ H sh) (hi : PI X tgt itr wi) (ok : BlkOk X.N X.env.scope sc own) (nd : X.N.Nodup)
    (hg : ∀ (s : Shared) (H : Hp) (C : Addr) (cl : List (Str × Addr)) (fp : List Addr), PG (X.blk s H sc (compEnvC sc cl C X.env) fp) tgt g)
    (ht : ∀ (s : Shared) (H : Hp) (C : Addr) (cl : List (Str × Addr)) (fp : List Addr), PTs (X.blk s H sc (compEnvC sc cl C X.env) fp) ifs tt)
    (he : ∀ (s : Shared) (H : Hp) (C : Addr) (cl : List (Str × Addr)) (fp : List Addr) (xe : Value → Shared → Prop), Passes (L2.CX X.prog X.w) (elX X s H sc (compEnvC sc cl C X.env) fp xe) E → PE (elX X s H sc (compEnvC sc cl C X.env) fp xe) elt te)
    (fold : ∀ x, foldedSetIterable itr X.env x = pure x) (hyp : tLc wi g tt te (own.map (·.2)) σ H Q)
    (fin : ∀ D C s' m H', Inv X pins σ H' s' → Q (.ref D) H' → s'.heap.Ns C m → FpOk X pins H' C → ∀ cv : Env, cv.locals = C → blockEnd (model X.prog X.w) X.A X.xe use Qf (.ref D) cv (.ok .next) s') :
    wpAny (model X.prog X.w) X.A (comprehension (.ListComp elt [⟨tgt, itr, ifs, 0⟩] sc pos) sc X.env pos' (newList []) false (eval itr X.env) use) Qf X.xe sh := by
  have frees : ∀ y ∈ sc.names, y.2 = .free → ∃ c, X.env.cells.lookup y.1 = some c := fun y hy e => J.ok.has _ (ok.free y hy e)
  refine comp_wp (use := use) rfl fold (closure_ok frees) ok.kind (fun y hy e => by rw [ok.uniq y hy, e]) (thn (hi.run pins sh σ H _ J hyp) fun _ _ hx => thn hx fun _ sA hA => ?_)
  obtain ⟨it, fp, tn, Jt, HA, rfl, JA, TT, stA, fA, q⟩ := hA
  refine wpAny_newObj_type (newEnv_comp ?_) (by show 0 ≤ sizeLine; decide)
  generalize hD : sA.heap.objs.size = D
  have freeD : HA D = none := JA.hok.fresh (Nat.le_of_eq hD)
  obtain ⟨Wt, ⟨k0, w0⟩, turn⟩ := q D freeD
  generalize hB : ({ sA with heap := sA.heap.push { cls := .type "list", data := .seq ([] : List Value).toArray } } : Shared) = sB
  have hpB : sB.heap = sA.heap.push { cls := .type "list", data := .seq ([] : List Value).toArray } := by rw [← hB]
  have keepB : ∀ b o, sA.heap.get? b = some o → sB.heap.get? b = some o := fun b o hb => by rw [hpB]; exact Heap.get?_push_of_some _ hb
  have JB : Inv X pins σ (upd HA D (.lst [])) sB := by
    subst hB
    refine JA.laid (t' := sA.toks) (fun _ _ hb => Heap.get?_push_of_some _ hb) (Nat.le_of_eq hD) ⟨Nat.zero_le _, [], 0, .nil, ?_⟩
    subst hD
    exact Heap.get?_push_size _ rfl
  have small : ∀ b ∈ fp, b < sA.heap.objs.size := fun b hb => let ⟨_, z, _⟩ := TT.obj _ _ stA b hb; Heap.lt_size z
  have fB : ∀ b ∈ fp, FpOk X pins (upd HA D (.lst [])) b ∧ b < sB.heap.objs.size := fun b hb => by
    have lt := small b hb
    have n : b ≠ D := fun z => by rw [z, ← hD] at lt; exact Nat.lt_irrefl _ lt
    refine ⟨⟨by rw [upd_ne n]; exact (fA b hb).1, (fA b hb).2⟩, ?_⟩
    rw [hpB, Heap.size_push]
    exact Nat.lt_succ_of_lt lt
  have stB : tn 0 sB.heap := TT.keep _ _ _ stA fun b _ o hb => keepB b o hb
  have J0 := block_start JB ok nd fB
  have pg := hg sB (upd HA D (.lst [])) sB.heap.objs.size (cellsFrom (sB.heap.objs.size + 1) sc.names (cloFrom X.env.cells sc.names [])) fp
  have pt := ht sB (upd HA D (.lst [])) sB.heap.objs.size (cellsFrom (sB.heap.objs.size + 1) sc.names (cloFrom X.env.cells sc.names [])) fp
  have pe := he sB (upd HA D (.lst [])) sB.heap.objs.size (cellsFrom (sB.heap.objs.size + 1) sc.names (cloFrom X.env.cells sc.names [])) fp
  have free0 : ∀ b ∈ fp, (upd HA D (.lst [])) b = none := fun b hb => (fB b hb).1.1
  show codeAny _ _ (.compStart (.ListComp elt [⟨tgt, itr, ifs, 0⟩] sc pos) 0 (.ref it) (.ref D) (compEnvC sc (cellsFrom (sB.heap.objs.size + 1) sc.names (cloFrom X.env.cells sc.names [])) sB.heap.objs.size X.env)) (blockEnd (model X.prog X.w) X.A X.xe use Qf (.ref D) (compEnvC sc (cellsFrom (sB.heap.objs.size + 1) sc.names (cloFrom X.env.cells sc.names [])) sB.heap.objs.size X.env)) { sB with heap := pushCells (sB.heap.push { cls := .type "dict", data := .dict #[] }) sc.names }
  generalize hce : compEnvC sc (cellsFrom (sB.heap.objs.size + 1) sc.names (cloFrom X.env.cells sc.names [])) sB.heap.objs.size X.env = ce at J0 pg pt pe ⊢
  have ceL : ce.locals = sB.heap.objs.size := by subst hce; rfl
  have ceF : ce.frame = X.env.frame := by subst hce; rfl
  generalize hHB : upd HA D (.lst []) = HB at JB J0 pg pt pe w0 free0 fB
  generalize hC : ({ sB with heap := pushCells (sB.heap.push { cls := .type "dict", data := .dict #[] }) sc.names } : Shared) = sC at J0 ⊢
  have stC : tn 0 sC.heap := TT.keep _ _ _ stB fun b _ o hb => by rw [← hC]; exact pushCells_keeps _ _ _ _ (Heap.get?_push_of_some _ hb)
  have stands : ∀ {σ' : L2.St} {H' : Hp} {s' : Shared}, Inv (X.blk sB HB sc ce fp) [] σ' H' s' → (∀ b ∈ fp, H' b = none) → ∀ b ∈ fp, FpOk (X.blk sB HB sc ce fp) [] H' b := fun {σ' H' s'} I' hn b hb =>
    ⟨hn b hb, (I'.ok.exf b hb).1, I'.ok.exfs b hb, .inl hb, fun x c z => (I'.ok.exf b hb).2 x c z, fun p hp => absurd (show p ∈ ([] : List (Addr × Obj)) ++ [] from hp) (by simp)⟩
  -- from the block's context back to the def's
  have back : ∀ {pins' : List (Addr × Obj)} {σ' : L2.St} {H' : Hp} {s' : Shared}, Inv (X.blk sB HB sc ce fp) pins' σ' H' s' → Inv X pins σ H' s' ∧ FpOk X pins H' sB.heap.objs.size ∧ ∃ m, s'.heap.Ns sB.heap.objs.size m := fun {pins' σ' H' s'} I' => by
    have nC : H' sB.heap.objs.size = none := by
      have z : H' ce.locals = none := I'.free
      rw [ceL] at z
      exact z
    obtain ⟨m, hm, _⟩ := I'.loc
    have hm : s'.heap.Ns ce.locals m := hm
    rw [ceL] at hm
    exact ⟨JB.call' (ch := fp) I'.os I'.base I'.hok I'.bare fun b hb => ⟨(fB b hb).1.2.2.2.1, (fB b hb).1.2.1, (fB b hb).1.2.2.2.2.1, (fB b hb).1.2.2.2.2.2⟩, JB.fpOk (Nat.le_refl _) nC, m, hm⟩
  have loop : codeAny (model X.prog X.w) X.A (.compLoop (.ListComp elt [⟨tgt, itr, ifs, 0⟩] sc pos) 0 (.ref it) (.ref D) ce) (blockEnd (model X.prog X.w) X.A X.xe use Qf (.ref D) ce) sC := by
    refine compLoop_any (fun n s' => ∃ i H', Inv (X.blk sB HB sc ce fp) [] (wipe σ (own.map (·.2))) H' s' ∧ tn i s'.heap ∧ (∀ b ∈ fp, H' b = none) ∧ Wt i n H') ?_ k0 ⟨0, HB, J0, stC, free0, w0⟩
    rintro n s5 ⟨i, H5, J5, st5, n5, w5⟩
    rcases turn i n H5 w5 with ⟨stop, done⟩ | ⟨go, Nx, hNx, step⟩
    · refine thnF (TT.done (X.blk sB HB sc ce fp) rfl rfl rfl calm i [] s5 _ H5 (fun _ _ => False) J5 (stands J5 n5) st5 stop) fun r s6 ⟨er, J6⟩ => ?_
      subst er
      obtain ⟨z1, z2, m, z3⟩ := back J6
      exact fin D _ s6 m H5 z1 done z3 z2 ce ceL
    · refine thnF (TT.item (X.blk sB HB sc ce fp) rfl rfl rfl calm i [] s5 _ H5 (fun _ _ => False) J5 (stands J5 n5) st5 go) fun r s6 ⟨u, er, got⟩ => ?_
      subst er
      refine thnF got fun _ s7 ⟨x, H7, J7, rx, yl, st7, n7⟩ => ?_
      have J7p := J7.pinned (stands J7 n7) (TT.obj _ _ st7)
      refine thnF (pg.run _ s7 _ H7 x u _ J7p rx (step x H7 yl)) fun _ s8 ⟨σ8, H8, J8, wp8, q8⟩ => ?_
      refine thnF (pt.run _ s8 σ8 H8 _ J8 q8) fun b s9 ⟨H9, J9, q9⟩ => ?_
      have next : ∀ {s' : Shared} {H' : Hp}, Inv (X.blk sB HB sc ce fp) ([] ++ pinsAt fp s7.heap) σ8 H' s' → Nx H' → ∃ m, m < n ∧ ∃ i H', Inv (X.blk sB HB sc ce fp) [] (wipe σ (own.map (·.2))) H' s' ∧ tn i s'.heap ∧ (∀ b ∈ fp, H' b = none) ∧ Wt i m H' := fun {s' H'} I' nx => by
        obtain ⟨m', lt, w'⟩ := hNx H' nx
        have pinned : ∀ b ∈ fp, ∀ o, s7.heap.get? b = some o → s'.heap.get? b = some o ∧ H' b = none := fun b hb o z =>
          let y := I'.pin (b, o) (List.mem_append_right _ (List.mem_append_right _ (mem_pinsAt hb z)))
          ⟨y.1, y.2.1⟩
        have el : (wipe σ (own.map (·.2))).length = σ8.length := by rw [← wp8, wipe_length]
        refine ⟨m', lt, i + 1, H', (I'.unpinned (pins := [])).weak el (fun j v z => ?_), TT.keep _ _ _ st7 fun b hb o z => (pinned b hb o z).1, fun b hb => ?_, w'⟩
        · rw [← wp8] at z
          exact (wipe_some z).1
        · obtain ⟨o, z, _⟩ := TT.obj _ _ st7 b hb
          exact (pinned b hb o z).2
      cases b with
      | false => exact next J9 q9
      | true =>
        have pe1 := pe (fun v s' => ∃ pins' σ' H' s1, Inv (X.blk sB HB sc ce fp) pins' σ' H' s1 ∧ L2.CX X.prog X.w X.stack H' s1 E v s') fun pins' σ' H' s1 v s' I' c => ⟨pins', σ', H', s1, I'.unwish, c⟩
        have ev := pe1.run _ s9 σ8 H9 _ (J9.wish _) q9
        refine wpAny_mono ev (fun z s10 hz => ?_) fun v s10 hv => ?_
        · obtain ⟨yv, H10, J10, r10, acc, hD10, hz10, nx⟩ := hz
          exact app_ok (X := X.blk sB HB sc ce fp) J10.unwish hD10 hz10 r10 fun s11 J11 => next J11 nx
        · obtain ⟨pins', σ', H', s1, I', c⟩ := hv
          obtain ⟨z1, z2, z3⟩ := back I'
          have out := fly_out (EE := fun e s' => blockEnd (model X.prog X.w) X.A X.xe use Qf (.ref D) ce (.error e) s') z1.ok.frames hs hf tk hW z1 z2 z3 ceF c
          refine wpAny_mono out (fun _ s3 h3 => ?_) fun _ _ y => y
          rw [← ceL] at h3
          exact h3
  exact codeAny_compStart_list loop (TT.self X.A 0 _ _ _ stC loop)
/-- [e for t in xs], e may raise -/
theorem pe_lcX {W : WX} {E : XK} {elt tgt itr : Expr} {ifs : List Expr} {sc : Scope} {own : List (Str × Nat)} {pos : Pos} {wi : TI} {g : TG} {tt : TT} {te : TE}
    (hs : X.stack = X.env :: X.outer) (hf : X.env.frame = some X.env.locals) (tk : Takes X W) (hW : ∀ cls d σ H, E cls d H → W cls d σ H)
    (calm : X.calm = true) (nd : X.N.Nodup) (hi : PI X tgt itr wi) (ok : BlkOk X.N X.env.scope sc own)
    (hg : ∀ (s : Shared) (H : Hp) (C : Addr) (cl : List (Str × Addr)) (fp : List Addr), PG (X.blk s H sc (compEnvC sc cl C X.env) fp) tgt g)
    (ht : ∀ (s : Shared) (H : Hp) (C : Addr) (cl : List (Str × Addr)) (fp : List Addr), PTs (X.blk s H sc (compEnvC sc cl C X.env) fp) ifs tt)
    (he : ∀ (s : Shared) (H : Hp) (C : Addr) (cl : List (Str × Addr)) (fp : List Addr) (xe : Value → Shared → Prop), Passes (L2.CX X.prog X.w) (elX X s H sc (compEnvC sc cl C X.env) fp xe) E → PE (elX X s H sc (compEnvC sc cl C X.env) fp xe) elt te)
    (fold : ∀ x, foldedSetIterable itr X.env x = pure x := by intro _; rfl) :
    PE X (.ListComp elt [⟨tgt, itr, ifs, 0⟩] sc pos) (tLc wi g tt te (own.map (·.2))) := by
  constructor
  intro pins sh σ H Q J hyp
  rw [eval_ListComp]
  refine core_x hs hf tk hW calm J hi ok nd hg ht he fold hyp fun D C s' m H' J' q hn fp cv ecv => ?_
  obtain ⟨f0, f1, f2, f3, f4, f5⟩ := fp
  subst ecv
  exact ⟨m, hn, fun h2 sb => ⟨.ref D, H', J'.turned (t' := s'.toks) (fun b o hb z => (sb.2 b hb).trans z) f0 f1 f3 f4 f5, rfl, q⟩⟩
/-- y = [e for t in xs], y a plain local name -/
theorem ps_setLcX {W : WX} {E : XK} {i : Nat} {y : Str} {py : Pos} {elt tgt itr : Expr} {ifs : List Expr} {sc : Scope} {own : List (Str × Nat)} {pos spos : Pos} {wi : TI} {g : TG} {tt : TT} {te : TE}
    (hs : X.stack = X.env :: X.outer) (hf : X.env.frame = some X.env.locals) (tk : Takes X W) (hW : ∀ cls d σ H, E cls d H → W cls d σ H)
    (calm : X.calm = true) (nd : X.N.Nodup) (iy : X.N[i]? = some y) (ly : X.env.scope.names.lookup y = some .local) (sw : swapsWith (.ListComp elt [⟨tgt, itr, ifs, 0⟩] sc pos) (some (.Name y py)) spos.line X.env = pure true)
    (hi : PI X tgt itr wi) (ok : BlkOk X.N X.env.scope sc own)
    (hg : ∀ (s : Shared) (H : Hp) (C : Addr) (cl : List (Str × Addr)) (fp : List Addr), PG (X.blk s H sc (compEnvC sc cl C X.env) fp) tgt g)
    (ht : ∀ (s : Shared) (H : Hp) (C : Addr) (cl : List (Str × Addr)) (fp : List Addr), PTs (X.blk s H sc (compEnvC sc cl C X.env) fp) ifs tt)
    (he : ∀ (s : Shared) (H : Hp) (C : Addr) (cl : List (Str × Addr)) (fp : List Addr) (xe : Value → Shared → Prop), Passes (L2.CX X.prog X.w) (elX X s H sc (compEnvC sc cl C X.env) fp xe) E → PE (elX X s H sc (compEnvC sc cl C X.env) fp xe) elt te)
    (fold : ∀ x, foldedSetIterable itr X.env x = pure x := by intro _; rfl) :
    PS X (.Assign [.Name y py] (.ListComp elt [⟨tgt, itr, ifs, 0⟩] sc pos) spos) (tAsg (tLc wi g tt te (own.map (·.2))) (gName i)) := by
  constructor
  intro pins sh σ H D J hyp
  have hyp : tLc wi g tt te (own.map (·.2)) σ H (fun x H1 => gName i x σ H1 D.nx) := hyp
  rw [exec_Assign_Name_used _ _ _ _ sw]
  refine wpAny_bind (wpAny_standAt (wpAny_bind ?_))
  show wpAny _ X.A (do let _ ← comprehension (.ListComp elt [⟨tgt, itr, ifs, 0⟩] sc pos) sc X.env (firstIterPos [⟨tgt, itr, ifs, 0⟩] pos) (newList []) false (eval itr X.env) (some (assign (.Name y py) X.env))) _ _ sh
  have core := core_x (pos := pos) (use := some (assign (.Name y py) X.env)) (Qf := fun _ s' => SP X pins D .next s') (pos' := firstIterPos [⟨tgt, itr, ifs, 0⟩] pos) hs hf tk hW calm J hi ok nd hg ht he fold hyp fun L C s' m H' J' q hn fp cv ecv => by
    obtain ⟨f0, f1, f2, f3, f4, f5⟩ := fp
    subst ecv
    show wpAny _ _ (assign (.Name y py) X.env (.ref L)) _ _ _
    refine wpAny_assign_Name (store_ok2 (v := V.ref L) J' nd iy (.inl ly) rfl (fun s2 J2 there => ?_) (.inr ly))
    obtain ⟨a, sb, ha⟩ := there
    have nCa : cv.locals ≠ a := ha.elim (fun z => by rw [z]; exact f1) fun z w => f4 y a z w.symm
    exact ⟨m, hn.sameBut sb nCa, fun h3 sb3 => ⟨_, H', J2.turned (t' := s2.toks) (fun b o hb z => (sb3.2 b hb).trans z) f0 f1 f3 f4 f5, q⟩⟩
  exact wpAny_bind (thn core fun _ s' hq => wpAny_pure (wpAny_pure hq))
end
/-! ### defs and methods that may raise: promises -/
section
variable {P : Program} {w : World} {K : PySem.W.Frag} {mg : Str → Option Value} {base : Heap}
abbrev defX (P : Program) (w : World) (K : PySem.W.Frag) (mg : Str → Option Value) (base : Heap) (N : List Str) (qual : Str) (sc : Scope) (f : Addr) (cd : Value) (A : Around) (outer : List Env) (s : Shared) (H : Hp) (E : XK) : Cx := cxOf (L2.CX P w) P w K mg base N qual sc f cd A outer s H E
theorem takes_def {N : List Str} {qual : Str} {sc : Scope} {f : Addr} {cd : Value} {A : Around} {outer : List Env} {s : Shared} {H : Hp} {E : XK} : Takes (defX P w K mg base N qual sc f cd A outer s H E) (fun cls d _ H => E cls d H) := takes_of rfl rfl rfl rfl
theorem pass_def {N : List Str} {qual : Str} {sc : Scope} {f : Addr} {cd : Value} {A : Around} {outer : List Env} {s : Shared} {H : Hp} {E : XK} : Passes (L2.CX P w) (defX P w K mg base N qual sc f cd A outer s H E) E := passes_call (W := fun cls d _ H => E cls d H) takes_def fun _ _ _ _ h => h
theorem own_def {N : List Str} {qual : Str} {sc : Scope} {f : Addr} {cd : Value} {A : Around} {outer : List Env} {s : Shared} {H : Hp} {E : XK} : PassesOwn (model P w) (defX P w K mg base N qual sc f cd A outer s H E).A (defX P w K mg base N qual sc f cd A outer s H E).env (defX P w K mg base N qual sc f cd A outer s H E).xe :=
  passes_of (X := defX P w K mg base N qual sc f cd A outer s H E) rfl
theorem fnX {x qual : Str} {st : Stmt} {f : Addr} {fd : FuncData} {N ps : List Str} {k : Nat} {sp : Sp} (F : C8.Fun K x qual st f fd) (S : FnScope N ps (C8.fnScope st)) (len : ∀ vs H Q E, sp vs H Q E → vs.length = ps.length)
    (walk : ∀ (cdv : Value) (A : Around) (outer : List Env) (s : Shared) (H : Hp) (vs : List V) (Q : VK) (E : XK), Room k (A.deeper (envOfC qual (C8.fnScope st) s.heap.objs.size f cdv)) → sp vs H Q E →
      ∃ t, PSs (defX P w K mg base N qual (C8.fnScope st) f cdv A outer s H E) (C8.fnBody st) t ∧ t { nx := fun _ H' => Q .non H', rt := Q } (L2.start N vs) H) : FnOk P w K mg base (L2.CX P w) (k + 1) f fd ps sp := by
  obtain ⟨oc, od, dV, kV, doc, pm, an, cdv, ct, osl, rfl, lk, hcd⟩ := F.ex
  exact fn_of lk hcd S len fun A outer s H vs Q E room hsp => walk cdv A outer s H vs Q E room hsp
structure CalX (P : Program) (w : World) (K : PySem.W.Frag) (mg : Str → Option Value) (base : Heap) (k : Nat) (x : Str) (sp : Sp) : Prop where
  ex : ∃ (f : Addr) (fd : FuncData) (ps : List Str), FnOk P w K mg base (L2.CX P w) k f fd ps sp ∧ mg x = some (.ref f) ∧ PySem.W.keepIn K (.ref f) = true ∧ Binds K fd ps []
structure MetX (P : Program) (w : World) (K : PySem.W.Frag) (mg : Str → Option Value) (base : Heap) (k : Nat) (C : Addr) (m : Str) (sp : Sp) : Prop where
  ex : ∃ (f : Addr) (fd : FuncData) (ps : List Str), Cls K C ∧ Meth K C m f ∧ FnOk P w K mg base (L2.CX P w) k f fd ps sp ∧ Binds K fd ps []
structure MakX (P : Program) (w : World) (K : PySem.W.Frag) (mg : Str → Option Value) (base : Heap) (k : Nat) (x : Str) (C : Addr) (sp : Sp) : Prop where
  ex : ∃ (f : Addr) (fd : FuncData) (ps : List Str), Mk K C f ∧ FnOk P w K mg base (L2.CX P w) k f fd ps sp ∧ mg x = some (.ref C) ∧ Binds K fd ps []
theorem MetX.mono {j k : Nat} {C : Addr} {m : Str} {sp : Sp} (c : MetX P w K mg base j C m sp) (h : j ≤ k) : MetX P w K mg base k C m sp := let ⟨f, fd, ps, hc, hm, F, b⟩ := c.ex; ⟨f, fd, ps, hc, hm, F.mono h, b⟩
theorem calX {x : Str} {st : Stmt} {f : Addr} {fd : FuncData} {N ps : List Str} {k : Nat} {sp : Sp} (F : C8.Def K mg x st f fd) (b : Binds K fd ps []) (S : FnScope N ps (C8.fnScope st)) (len : ∀ vs H Q E, sp vs H Q E → vs.length = ps.length)
    (walk : ∀ (cdv : Value) (A : Around) (outer : List Env) (s : Shared) (H : Hp) (vs : List V) (Q : VK) (E : XK), Room k (A.deeper (envOfC x (C8.fnScope st) s.heap.objs.size f cdv)) → sp vs H Q E →
      ∃ t, PSs (defX P w K mg base N x (C8.fnScope st) f cdv A outer s H E) (C8.fnBody st) t ∧ t { nx := fun _ H' => Q .non H', rt := Q } (L2.start N vs) H) : CalX P w K mg base (k + 1) x sp := ⟨f, fd, ps, fnX F.fn S len walk, F.mgf, F.kp, b⟩
theorem metX {m qual : Str} {C : Addr} {st : Stmt} {f : Addr} {fd : FuncData} {N ps : List Str} {k : Nat} {sp : Sp} (c : Cls K C) (me : Meth K C m f) (F : C8.Fun K m qual st f fd) (b : Binds K fd ps []) (S : FnScope N ps (C8.fnScope st)) (len : ∀ vs H Q E, sp vs H Q E → vs.length = ps.length)
    (walk : ∀ (cdv : Value) (A : Around) (outer : List Env) (s : Shared) (H : Hp) (vs : List V) (Q : VK) (E : XK), Room k (A.deeper (envOfC qual (C8.fnScope st) s.heap.objs.size f cdv)) → sp vs H Q E →
      ∃ t, PSs (defX P w K mg base N qual (C8.fnScope st) f cdv A outer s H E) (C8.fnBody st) t ∧ t { nx := fun _ H' => Q .non H', rt := Q } (L2.start N vs) H) : MetX P w K mg base (k + 1) C m sp := ⟨f, fd, ps, c, me, fnX F S len walk, b⟩
theorem makX {x qual : Str} {C : Addr} {st : Stmt} {f : Addr} {fd : FuncData} {N ps : List Str} {k : Nat} {sp : Sp} (M : Mk K C f) (hm : mg x = some (.ref C)) (F : C8.Fun K "__init__" qual st f fd) (b : Binds K fd ps []) (S : FnScope N ps (C8.fnScope st)) (len : ∀ vs H Q E, sp vs H Q E → vs.length = ps.length)
    (walk : ∀ (cdv : Value) (A : Around) (outer : List Env) (s : Shared) (H : Hp) (vs : List V) (Q : VK) (E : XK), Room k (A.deeper (envOfC qual (C8.fnScope st) s.heap.objs.size f cdv)) → sp vs H Q E →
      ∃ t, PSs (defX P w K mg base N qual (C8.fnScope st) f cdv A outer s H E) (C8.fnBody st) t ∧ t { nx := fun _ H' => Q .non H', rt := Q } (L2.start N vs) H) : MakX P w K mg base (k + 1) x C sp := ⟨f, fd, ps, M, fnX F S len walk, hm, b⟩
end
section
variable {X : Cx} {k j : Nat} {C : Addr} {x m : Str} {sp : Sp} {E : XK} {p pos apos : Pos} {e o : Expr} {es : List Expr} {ta : TE} {t : TA}
theorem pe_cX (c : CalX X.prog X.w X.K X.mg X.base k x sp) (hx : Passes (L2.CX X.prog X.w) X E) (hr : Room j X.A) (hk : k ≤ j) (hg : Gl X x) (ha : PA X (e :: es) t)
    (d1 : (x == ("__debug__" : Str)) = false := by decide) (d2 : starEach (e :: es) X.env = (false, eval e X.env) :: starEach es X.env := by rfl) (d3 : (backTo pos (starEach es X.env)).any (·.1) = false := by rfl) :
    PE X (.Call (.Name x p) (e :: es) [] pos) (tCall sp [] E t) := let ⟨_, _, _, F, hm, kp, b⟩ := c.ex; pe_call F (hr.mono hk) hg hm kp b .nil hx ha d1 d2 d3
theorem pe_mkX (c : MakX X.prog X.w X.K X.mg X.base k x C sp) (hx : Passes (L2.CX X.prog X.w) X E) (hr : Room j X.A) (hk : k + 1 ≤ j) (hg : Gl X x) (ha : PA X (e :: es) t)
    (d1 : (x == ("__debug__" : Str)) = false := by decide) (d2 : starEach (e :: es) X.env = (false, eval e X.env) :: starEach es X.env := by rfl) (d3 : (backTo pos (starEach es X.env)).any (·.1) = false := by rfl) :
    PE X (.Call (.Name x p) (e :: es) [] pos) (tMake C sp [] E t) := let ⟨_, _, _, M, F, hm, b⟩ := c.ex; pe_make M F (hr.mono hk) hg hm b .nil hx ha d1 d2 d3
theorem pe_mtX {pl : Sem Bool} (c : MetX X.prog X.w X.K X.mg X.base k C m sp) (hx : Passes (L2.CX X.prog X.w) X E) (hr : Room j X.A) (hk : k ≤ j) (he : PE X o ta) (ha : PA X (e :: es) t)
    (d2 : starEach (e :: es) X.env = (false, eval e X.env) :: starEach es X.env := by rfl) (d3 : (backTo pos (starEach es X.env)).any (·.1) = false := by rfl)
    (d4 : eval (.Call (.Attribute o m apos) (e :: es) [] pos) X.env = (do
      let obj ← eval o X.env
      standAt apos.atName
      let (f, first) ← holding [obj] (getMethod obj m pl)
      callWith pos f first (backTo pos (starEach (e :: es) X.env)) (backToKw pos (keywordEach [] X.env))) := by rfl) :
    PE X (.Call (.Attribute o m apos) (e :: es) [] pos) (tMeth C m sp [] E ta t) := let ⟨_, _, _, hc, hm, F, b⟩ := c.ex; pe_meth (pl := pl) he hc hm F (hr.mono hk) b .nil hx ha d2 d3 d4
end
section
variable {X : Cx} {CX : CXT} {k : Nat} {f : Addr} {fd : FuncData} {ps ks : List Str} {sp : Sp} {E : L2.St → XK} {x : Str} {p pos : Pos} {kws : List Keyword} {tk : TA} {g : List Value → List Value → List Value} {gV : List V → List V → List V}
def tCallKS (sp : Sp) (gV : List V → List V → List V) (E : L2.St → XK) (tk : TA) : TE := fun σ H Q => tk σ H fun zs H1 => sp (gV [] zs) H1 Q (E σ)
/-- f(k = v, ..), what is raised wished for at the caller's slots -/
theorem pe_callKS (F : FnOk X.prog X.w X.K X.mg X.base CX k f fd ps sp) (room : Room k X.A) (hg : Gl X x) (hm : X.mg x = some (.ref f)) (kp : PySem.W.keepIn X.K (.ref f) = true) (hb : KBinds X.K fd ps ks g gV) (hx : ∀ σ, PassesAt CX X σ (E σ)) (hkw : PK X kws tk)
    (h1 : (backToKw pos (keywordEach kws X.env)).all (·.1.isSome) = true := by rfl) (h2 : (backToKw pos (keywordEach kws X.env)).filterMap (·.1) = ks := by rfl) (h3 : (x == ("__debug__" : Str)) = false := by decide)
    (h4 : ((backTo pos (starEach [] X.env)).any (·.1) || (backToKw pos (keywordEach kws X.env)).any (·.1.isNone)) = false := by rfl) : PE X (.Call (.Name x p) [] kws pos) (tCallKS sp gV E tk) := by
  constructor
  intro pins sh σ H Q J hyp
  refine wpAny_Call_Name_kw (ld_glob J hg hm (PySem.W.callWith_KW0 (h₀ := X.base) J.ok.mod.kin kp h1 (thn (hkw.run pos pins sh σ H _ J hyp) ?_) h4) h3)
  rintro ws s2 ⟨zs, H2, J2, rz, q⟩
  refine ⟨J2.kIn, ?_⟩
  rw [h2]
  have rel := hb.rel (.nil : Vals [] []) rz
  have len : (g [] ws).length = ps.length := by rw [← rel.length]; exact F.len _ _ _ _ q
  refine wpAny_call (codeAny_mono (F.run X.A X.stack s2 H2 ⟨[], ks.zip ws⟩ (g [] ws) (gV [] zs) Q (E σ) room J2.env0 (hb.to s2 [] ws J2.kIn len) rel q) fun r s' got => ?_)
  match r, got with
  | .error e, got => exact hx σ pins H2 s2 e s' J2 got
  | .ok (.ret u), got => exact J2.after got
  | .ok .next, got => exact False.elim got
  | .ok .brk, got => exact False.elim got
  | .ok .cont, got => exact False.elim got
end
end UG


set_option Elab.async false
set_option linter.all false
set_option maxRecDepth 100000
set_option maxHeartbeats 4000000
/-! an own exception under own levels above ValueError whose __init__ is: super().__init__(text); self.attr = par -/
namespace UG
open PySem PySem.W PySem.Calls PySem.Spec PyProof.Rows L2

def supBody (attr par txt : Str) (n : Nat) (p0 p1 p2 p3 p4 p5 p6 p7 p8 p9 : Pos) : List Stmt :=
  [.Expr (.Call (.Attribute (.Call (.Name "super" p0) [] [] p1) "__init__" p2) [.Constant (.str txt) n p3] [] p4) p5, .Assign [.Attribute (.Name "self" p6) attr p7] (.Name par p8) p9]
def supSc (par : Str) : Scope := { kind := .function, names := [("self", .local), (par, .local), ("__class__", .free), ("super", .globalImplicit)], isGenerator := false, isCoroutine := false, more := [] }
/-- its promise -/
def spSup (C : Addr) (attr : Str) : Sp := fun vs H Q _ => ∃ (a : Addr) (v : V), vs = [.ref a, v] ∧ H a = some (exo a C none) ∧ ∀ d, H d = none → d ≠ a → Q .non (upd (upd H d (exd d [(attr, v)])) a (exo a C (some d)))
def supC (attr par : Str) (sc : Scope) : Bool :=
  decide (sc.kind = .function) && !sc.isCoroutine && !sc.isGenerator && decide (sc.names.lookup ("self" : Str) = some .local) && decide (sc.names.lookup par = some .local) && decide (sc.names.lookup ("super" : Str) = some .globalImplicit) && decide (sc.names.lookup ("__class__" : Str) = some .free) && sc.names.all (fun y => !decide (y.2 = .cell)) && !decide (par = ("self" : Str)) && !(par == ("__debug__" : Str))
theorem fn_sup {P : Program} {w : World} {K : Frag} {mg : Str → Option Value} {base : Heap} {CX : CXT} {k : Nat} {f C cda cc : Addr} {qual attr par txt : Str} {n : Nat} {p0 p1 p2 p3 p4 p5 p6 p7 p8 p9 : Pos} {params : Arguments} {dV kV doc pm ct oc ccl cl : Value} {an od cdd cld : Option Addr} {osl ccs csl : Array (Option Value)} {ar : Arg} {vs0 : Array Value} {file : Str} {tf : Tok} {cd : ClassData}
    (T : OexC K C) (lk : K.lookup f = some ⟨oc, od, .func (ksFn "__init__" qual params (supBody attr par txt n p0 p1 p2 p3 p4 p5 p6 p7 p8 p9) (supSc par) dV kV doc pm an (.ref cda) ct cc), osl⟩) (hcd : codeIn K (.ref cda) qual = true) (hs : supC attr par (supSc par) = true)
    (hp : (params.posonlyargs ++ params.args).head? = some ar) (har : ar.arg = "self") (hcode : K.lookup cda = some ⟨ccl, cdd, .fields vs0, ccs⟩) (hvs : vs0[2]? = some (.str file tf)) (hfile : ((P.main.file : Str) == file) = true)
    (hcell : K.lookup cc = some ⟨cl, cld, .cell (some (.ref C)), csl⟩) (hD : clsIn K C = some cd) (hsub : mroIn K C (.ref C) = some true) (hsuper : mg "super" = none) (htop : (P.main.scope.names.lookup ("super" : Str)).isSome = false)
    (hm : ks_superIn K C C "__init__" = some (some (.builtin "ValueError.__init__"))) (hB : subIn K (.ref C) (.type "ValueError") = some true) (hop : nsIn K cStatics "thirdparty.any" = some none) (hno : findIn K (.ref C) attr = some none)
    {pl : Addr → Sem Bool} (hev : ∀ L : Addr, eval (.Call (.Attribute (.Call (.Name "super" p0) [] [] p1) "__init__" p2) [.Constant (.str txt) n p3] [] p4) (ksEnv qual (supSc par) L f (.ref cda) cc) = (do
      let ov ← attributeBase (.Call (.Name "super" p0) [] [] p1) "__init__" (ksEnv qual (supSc par) L f (.ref cda) cc) (eval (.Call (.Name "super" p0) [] [] p1) (ksEnv qual (supSc par) L f (.ref cda) cc))
      standAt p2.atName
      let (f', first) ← holding [ov] (getMethod ov "__init__" (pl L))
      callWith p4 f' first (backTo p4 (starEach [.Constant (.str txt) n p3] (ksEnv qual (supSc par) L f (.ref cda) cc))) [])) :
    FnOk P w K mg base CX (k + 1) f (ksFn "__init__" qual params (supBody attr par txt n p0 p1 p2 p3 p4 p5 p6 p7 p8 p9) (supSc par) dV kV doc pm an (.ref cda) ct cc) ["self", par] (spSup C attr) := by
  refine ⟨fun vs H Q E => by rintro ⟨a, v, rfl, _⟩; rfl, fun A outer s H args us vs Q E hr e0 hb r hsp => ?_⟩
  obtain ⟨a, v, rfl, ha, q⟩ := hsp
  obtain ⟨u, ru, rfl⟩ : ∃ u, RelV v u ∧ us = [.ref a, u] := by
    cases r with
    | @cons _ u0 _ ur h1 h2 =>
      cases h2 with
      | @cons _ u1 _ _ h3 h4 =>
        cases h4
        obtain rfl : u0 = Value.ref a := h1
        exact ⟨_, h3, rfl⟩
  unfold supC at hs
  simp only [Bool.and_eq_true, Bool.not_eq_true', decide_eq_true_eq, List.all_eq_true, decide_eq_false_iff_not] at hs
  obtain ⟨⟨⟨⟨⟨⟨⟨⟨⟨hk, hco⟩, hgen⟩, hself⟩, hpar⟩, hks⟩, hkc⟩, hcells⟩, hne⟩, hdb⟩ := hs
  have KX : K.In s.heap := e0.mod.kin.keeps fun b o e => (e0.bs b o e).1
  have lim : s.heap.NoLimit := e0.mod.nolimit.keeps fun b o e => (e0.bs b o e).1
  have hloc : ∀ y ∈ (["self", par] : List Str).zip [Value.ref a, u], (supSc par).names.lookup y.1 = some .local := by
    intro y hy
    simp only [List.zip_cons_cons, List.zip_nil_right, List.mem_cons, List.not_mem_nil, or_false] at hy
    rcases hy with rfl | rfl
    · exact hself
    · exact hpar
  refine ks_codeAny_call_defAt (fd := ksFn "__init__" qual params (supBody attr par txt n p0 p1 p2 p3 p4 p5 p6 p7 p8 p9) (supSc par) dV kV doc pm an (.ref cda) ct cc) (body := supBody attr par txt n p0 p1 p2 p3 p4 p5 p6 p7 p8 p9) hr.depth (KX _ _ lk) rfl lim (codeRec_of KX hcd) rfl hb hcells hloc (fun h₁ hns hk₁ => ?_) hco hgen hk
  obtain ⟨nm, qn, N, bs, bm, sn, sub, ab, col, dd, k0, k1, k2, k3, k5, hC, hbm⟩ := T.cls
  have hcl : clsIn K C = some { name := nm, bases := bs, mro := .ref C :: bm, ns := N, qualname := qn, hasDict := true, slotNames := sn, subclasses := sub, abstract := ab, collection := col, hasDel := false } := by unfold clsIn; rw [hC] <;> rfl
  obtain ⟨t1, hao⟩ := exo_at e0.hok ha
  show _root_.PySem.wpAt (model P w) (A.deeper (ksEnv qual (supSc par) s.heap.objs.size f (.ref cda) cc)) (.func (supBody attr par txt n p0 p1 p2 p3 p4 p5 p6 p7 p8 p9) (ksEnv qual (supSc par) s.heap.objs.size f (.ref cda) cc)) (execs (supBody attr par txt n p0 p1 p2 p3 p4 p5 p6 p7 p8 p9) (ksEnv qual (supSc par) s.heap.objs.size f (.ref cda) cc)) _ _ _
  obtain ⟨hp0, g, d, t, os⟩ := s
  have hk1' : ∀ b o, hp0.get? b = some o → h₁.get? b = some o := hk₁
  have hns1 : h₁.Ns hp0.objs.size (fun x => ((["self", par] : List Str).zip [Value.ref a, u]).reverse.lookup x) := hns
  have sz1 : hp0.objs.size < h₁.objs.size := by obtain ⟨o, _, _, e1, _⟩ := hns1; exact Heap.lt_size e1
  have hloc1 : ∀ (m : Heap) (t' : Nat) {E' : Value → Shared → Prop} {Q' : Value → Shared → Prop} {x : Str} {y : Value}, (∀ b o, b ≠ a → h₁.get? b = some o → m.get? b = some o) → (supSc par).names.lookup x = some .local → ((["self", par] : List Str).zip [Value.ref a, u]).reverse.lookup x = some y → Q' y ⟨m, g, d, t', os⟩ →
      wpAny (model P w) (A.deeper (ksEnv qual (supSc par) hp0.objs.size f (.ref cda) cc)) (loadName (ksEnv qual (supSc par) hp0.objs.size f (.ref cda) cc) x) Q' E' ⟨m, g, d, t', os⟩ := by
    intro m t' E' Q' x y hm1 hl hy hq
    have hLa : hp0.objs.size ≠ a := Nat.ne_of_gt (Heap.lt_size hao)
    have hnsm : m.Ns hp0.objs.size (fun x => ((["self", par] : List Str).zip [Value.ref a, u]).reverse.lookup x) := by
      obtain ⟨o, es, ep, e1, e2⟩ := hns1
      exact ⟨o, es, ep, hm1 _ _ hLa e1, e2⟩
    exact wpAny_loadName_local (env := ksEnv qual (supSc par) hp0.objs.size f (.ref cda) cc) hk hl hnsm hy hq
  have lkS : ((["self", par] : List Str).zip [Value.ref a, u]).reverse.lookup ("self" : Str) = some (.ref a) := by
    show List.lookup ("self" : Str) [(par, u), ("self", .ref a)] = _
    have e : (("self" : Str) == par) = false := by simpa using Ne.symm hne
    simp [List.lookup, e]
  have lkP : ((["self", par] : List Str).zip [Value.ref a, u]).reverse.lookup par = some u := by
    show List.lookup par [(par, u), ("self", .ref a)] = _
    simp [List.lookup]
  have KX1 : K.In h₁ := KX.keeps hk1'
  have I1 : InstAt h₁ a { cls := .ref C, data := .fields #[.ref t1, .none, .none, .none, .bool false, .none] } C none := ⟨hk1' _ _ hao, rfl, rfl, trivial⟩
  unfold supBody
  refine ks_wpAt_execs_cons (ks_wpAt_Expr_any (ks_wpAt_MethodCall (pl := pl hp0.objs.size) ?_ (hev hp0.objs.size)))
  refine ks_wpAt_super_base (env := ksEnv qual (supSc par) hp0.objs.size f (.ref cda) cc) hks hkc (by decide) rfl (KX1 _ _ lk) rfl hp rfl (KX1 _ _ hcode) rfl hvs hfile htop ?_
  have bk : ∀ b o, base.get? b = some o → h₁.get? b = some o := fun b o e => hk1' b o (e0.bs b o e).1
  obtain ⟨mb, hmb, hmbb⟩ := e0.mod.blt
  refine ks_loadName_global hk hks (loadGlobal_builtin (env := ksEnv qual (supSc par) hp0.objs.size f (.ref cda) cc) (e0.mod.glob.keeps bk) hsuper (hmb.keeps bk) ((hmbb _ (by decide +kernel)).trans (show bootBuiltins "super" = some (.type "super") from by first | kernel_rfl | rfl)) ⟨rfl, ?_⟩)
  refine wpAny_loadName_free (env := ksEnv qual (supSc par) hp0.objs.size f (.ref cda) cc) hk hkc rfl ⟨_, KX1 _ _ hcell, rfl⟩ ?_
  rw [har]
  refine hloc1 h₁ _ (fun b o _ e => e) hself lkS ?_
  have hDo := KX1 _ _ hC
  refine ks_wpAny_isType_cls hDo rfl ⟨rfl, ?_⟩
  refine ks_wpAny_call_super hDo rfl I1.at_ I1.cls (fun c e => ?_) (looks_mroIn KX1 hsub) (fun h₂ e2 k2' => ?_)
  · cases e
  have sz2 : h₁.objs.size < h₂.objs.size := Heap.lt_size e2
  have KX2 : K.In h₂ := KX1.keeps k2'
  have I2 : InstAt h₂ a { cls := .ref C, data := .fields #[.ref t1, .none, .none, .none, .bool false, .none] } C none := ⟨k2' _ _ I1.at_, rfl, rfl, trivial⟩
  have hal : alongIn K "__init__" (((.ref C :: bm : List Value).dropWhile (· != .ref C)).drop 1) = some (some (.builtin "ValueError.__init__")) := by
    unfold ks_superIn at hm
    rw [hcl] at hm
    exact hm
  refine kxs_getMethod kxs_ValueError e2 (looks_opaque KX2 hop) (l₀ := .ref C :: bm) ((looks_clsIn KX2 hcl).andThen .now) rfl KX2 hal (I2.type.andThen (looks_subIn KX2 hB)) (ks_ne KX2 I2 hcl) (by decide) ?_
  have e3 : (h₂.push (kxs_mw "ValueError.__init__" a)).get? h₂.objs.size = some (kxs_mw "ValueError.__init__" a) := Heap.get?_push_size _ rfl
  have k3' : ∀ b o, h₂.get? b = some o → (h₂.push (kxs_mw "ValueError.__init__" a)).get? b = some o := fun b o e => Heap.get?_push_of_some _ e
  have sz3 : h₂.objs.size < (h₂.push (kxs_mw "ValueError.__init__" a)).objs.size := Heap.lt_size e3
  generalize hu3 : h₂.objs.size = u3 at e3 sz3 sz2
  generalize hp3 : h₂.push (kxs_mw "ValueError.__init__" a) = h₃ at e3 k3' sz3
  have KX3 : K.In h₃ := KX2.keeps k3'
  refine kxs_callWith (i := "ValueError.__init__") (x := a) rfl (evalArgs_plain ?_)
  show wpAny _ _ (spliced [(false, eval (.Constant (.str txt) n p3) (ksEnv qual (supSc par) hp0.objs.size f (.ref cda) cc))]) _ _ _
  refine Calls.spliced_cons (Calls.Constant_str (Calls.spliced_nil ⟨e3, ?_⟩))
  -- the call of ValueError.__init__
  refine wpAny_call (codeAny_of_tree ?_)
  show wpAny _ (Around.in1 _) (callAny (.ref u3) ⟨[.str txt _], []⟩) _ _ _
  simp only [callAny]
  refine wpAny_bind (wpAny_load e3 ?_)
  simp only [kxs_mw, show (Value.type "method-wrapper" == Value.type "method" || Value.type "method-wrapper" == Value.type "builtin_function_or_method" || Value.type "method-wrapper" == Value.type "method-wrapper") = true by decide, if_true]
  refine KFB.if_so (by decide) ?_
  have ka3 := k3' _ _ (k2' _ _ I1.at_)
  refine wpAny_bind (check_bound_init F.excBase_ValueError.toExcCallFacts (KX3 _ _ hC) ka3 rfl ?_)
  refine wpAny_bind (wpAny_pure (wpAny_pure ?_))
  refine ⟨plainId_quiet F.excBase_ValueError.init.plain _, codeAny_builtin F.excBase_ValueError.initEntry ?_⟩
  refine exc_init_tree (cls := .ref C) (t0 := t1) (dv := none) (c2 := .none) (c3 := .none) (b4 := .bool false) ka3 (by show 1 ≤ sizeLine; decide) (fun h₄ k4 e4 e5 => ?_)
  have sz4 : h₃.objs.size < h₄.objs.size := Heap.lt_size e5
  have k14 : ∀ b o, b ≠ a → h₁.get? b = some o → h₄.get? b = some o := fun b o hb e => k4 b o hb (k3' _ _ (k2' _ _ e))
  have hCa : ∀ b o, K.lookup b = some o → b ≠ a := fun b o e z => by
    have e' := e0.mod.kin _ _ e
    have := (e0.bs _ _ e').2
    rw [z, ha] at this
    cases this
  have KX4 : K.In h₄ := fun b o e => k14 b o (hCa b o e) (KX1 b o e)
  show _root_.PySem.wpAt (model P w) _ _ (execs [.Assign [.Attribute (.Name "self" p6) attr p7] (.Name par p8) p9] (ksEnv qual (supSc par) hp0.objs.size f (.ref cda) cc)) _ _ _
  refine wpAt_of_wpAny ?_
  refine wpAny_execs_cons (plainObj_wpAny_Assign_Attribute (wpAny_Name (hloc1 h₄ _ k14 hpar lkP (wpAny_Name (hloc1 h₄ _ k14 hself lkS ?_) (by decide))) hdb) (by rfl))
  have e4' : h₄.get? a = some ({ cls := .ref C, data := .fields #[.ref h₃.objs.size, .none, .none, .none, .bool false, .none] } : Obj) := e4
  refine set_plain KX4 (ox := { cls := .ref C, dict := none, data := .fields #[.ref h₃.objs.size, .none, .none, .none, .bool false, .none] }) (od := none) ⟨e4', rfl, rfl, trivial⟩ T.sa ?_
  refine PySem.HandSPX.exc_osa KX4 e4' hcl (show PySem.HandSPX.refsVE (.ref C :: bm) = true from hbm) rfl hno (fun h₅ tk' dx k5 dn dne hx hn => ?_)
  have kk : ∀ b o, b ≠ a → hp0.get? b = some o → h₅.get? b = some o := fun b o hb e => k5 b o hb (k14 b o hb (hk1' b o e))
  have dn0 : hp0.objs.size ≤ dx := Nat.le_trans (Nat.le_of_lt (Nat.lt_trans sz1 (Nat.lt_trans sz2 (Nat.lt_trans sz3 sz4)))) dn
  have hnd : H dx = none := e0.hok.fresh dn0
  have nd : ∀ {b : Addr} {o : Obj}, hp0.get? b = some o → b ≠ dx := fun {b o} z => Nat.ne_of_lt (Nat.lt_of_lt_of_le (Heap.lt_size z) dn0)
  have na : ∀ {b : Addr}, H b = none → b ≠ a := fun {b} n z => by
    rw [z, ha] at n
    cases n
  have hne' : dx ≠ a := dne
  have Un1 : Un (frs outer) [] H (upd (upd H dx (exd dx [(attr, v)])) a (exo a C (some dx))) hp0 h₅ := {
    keep := fun b o z n _ _ => kk b o (na n) z
    slot := fun b o z n _ _ => ⟨o.slots, kk b o (na n) z⟩
    free := fun b o z n _ => by rw [upd_ne (na n), upd_ne (nd z)]; exact n
    there := fun b o z _ => by
      by_cases hb : b = a
      · exact ⟨_, by rw [hb]; exact hx⟩
      · exact ⟨o, kk b o hb z⟩
    tups := fun b xs z => by rw [upd_ne (at_ne ha z exo_tup), upd_ne (ne_of_none z hnd)]; exact z
    frzs := fun b o v z => by rw [upd_ne (at_ne ha z exo_frz), upd_ne (ne_of_none z hnd)]; exact z
    tbls := fun b ps z => ⟨#[], by rw [upd_ne (at_ne ha z exo_tbl), upd_ne (ne_of_none z hnd), z]; simp⟩ }
  have hok5 : HOk P w (upd (upd H dx (exd dx [(attr, v)])) a (exo a C (some dx))) h₅ := fun b o z => by
    by_cases hb : b = a
    · subst hb
      rw [upd_same] at z
      cases z
      exact exo_ok hx
    · rw [upd_ne hb] at z
      by_cases hd : b = dx
      · subst hd
        rw [upd_same] at z
        cases z
        exact exd_ok hn (relO_put (fs := []) ru fun g => True.intro)
      · rw [upd_ne hd] at z
        exact (e0.hok b o z).stay (fun c v hc y => kk c v (by
            rcases hc with hc | hc
            · rw [hc]
              exact hb
            · exact at_ne ha hc exo_own) y)
          (fun c hc => by rw [upd_ne (at_ne ha hc exo_own), upd_ne (ne_of_none hc hnd)]; exact hc) (fun c xs hc => by rw [upd_ne (at_ne ha hc exo_tup), upd_ne (ne_of_none hc hnd)]; exact hc)
  refine wpAny_execs_nil ?_
  exact ⟨.non, _, rfl, e0.bare, Un1, hok5, rfl, q dx hnd hne'⟩
end UG


set_option Elab.async false
set_option linter.all false
set_option maxRecDepth 100000
set_option maxHeartbeats 4000000
/-! several except clauses, of which some name the error -/
namespace UG
open PySem PySem.Spec PyProof.Rows L2
/-- the ends of a suite whose name goes -/
def leave (i : Nat) (D : Ends) : Ends := { nx := fun σ H => D.nx (σ.set i none) H, rt := D.rt, bk := fun σ H => D.bk (σ.set i none) H, ct := fun σ H => D.ct (σ.set i none) H }
abbrev Clause := Option Nat × Value × (Addr → Value → Option Addr → TS)
/-- what a clause does with the error at a -/
def clauseDo (cl : Clause) (a : Addr) (cls : Value) (d : Option Addr) (D : Ends) (σ : L2.St) (H : Hp) : Prop := match cl.1 with
  | none => cl.2.2 a cls d D σ H
  | some i => cl.2.2 a cls d (leave i D) (σ.set i (some (.ref a))) H
/-- what the clauses wish of an error of the body -/
def wMix (K : PySem.W.Frag) (Wout : WX) (D : Ends) : List Clause → WX
  | [] => Wout
  | cl :: r => fun cls d σ H => ∃ b, PySem.W.exmOne K cls cl.2.1 = some b ∧ (b = true → ∀ a, H a = none → clauseDo cl a cls d D σ H) ∧ (b = false → wMix K Wout D r cls d σ H)
section
variable {X : Cx}
inductive Mix (X : Cx) : List ExceptHandler → List Clause → Prop
  | nil : Mix X [] []
  | plain {x : Str} {c : Value} {ts : Addr → Value → Option Addr → TS} {st : Stmt} {sts : List Stmt} {np pos : Pos} {hs : List ExceptHandler} {l : List Clause} (names : Names X x c)
      (suite : ∀ (a : Addr) (oe : Obj) (cls : Value) (d : Option Addr) (pn : List (Addr × Obj)), Zc cls d oe → (∃ vs, oe.data = .fields vs) → PSs (X.suite a ((a, oe) :: pn)) (st :: sts) (ts a cls d)) (more : Mix X hs l) :
      Mix X (.ExceptHandler (some (.Name x np)) none (st :: sts) pos :: hs) ((none, c, ts) :: l)
  | named {x n : Str} {i : Nat} {c : Value} {ts : Addr → Value → Option Addr → TS} {st : Stmt} {sts : List Stmt} {np pos : Pos} {hs : List ExceptHandler} {l : List Clause} (names : Names X x c) (slot : X.N[i]? = some n) (loc : X.env.kindOf n = some .local)
      (suite : ∀ (a : Addr) (oe : Obj) (cls : Value) (d : Option Addr) (pn : List (Addr × Obj)), Zc cls d oe → (∃ vs, oe.data = .fields vs) → PSs (X.suite a ((a, oe) :: pn)) (st :: sts) (ts a cls d)) (more : Mix X hs l) :
      Mix X (.ExceptHandler (some (.Name x np)) (some n) (st :: sts) pos :: hs) ((some i, c, ts) :: l)
/-- an error that has come down before the clauses -/
structure Down (X : Cx) (pins : List (Addr × Obj)) (a : Addr) (B : Heap) (cls : Value) (d : Option Addr) (σ : L2.St) (H : Hp) (sI s : Shared) : Prop where
  fl : HandSPX.FlyingZ B (X.env :: X.outer) a (Zc cls d) s.heap
  J : Inv X pins σ H sI
  nb : ∀ b o, sI.heap.get? b = some o → b ∉ frs X.stack → B.get? b = some o
  up : sI.heap.UpToSlots s.heap
  os : s.os = sI.os
  ag : AllBare s.gens
  na : H a = none
  nL : a ≠ X.env.locals
  nF : a ∉ X.fs
variable {pins : List (Addr × Obj)} {a : Addr} {B : Heap} {cls : Value} {d : Option Addr} {σ : L2.St} {H : Hp} {sI s : Shared}
theorem Down.inv (x : Down X pins a B cls d σ H sI s) : Inv X pins σ H s := x.J.landed x.nb x.fl.1 x.up x.os x.ag
theorem Down.again {h : Heap} (x : Down X pins a B cls d σ H sI s) (fl : HandSPX.FlyingZ B (X.env :: X.outer) a (Zc cls d) h) (up : s.heap.UpToSlots h) : Down X pins a B cls d σ H sI { s with heap := h } :=
  ⟨fl, x.J, x.nb, x.up.trans up, x.os, x.ag, x.na, x.nL, x.nF⟩
theorem Down.within (x : Down X pins a B cls d σ H sI s) : ∃ oe vs, Inv (X.suite a ((a, oe) :: (X.pn ++ pins))) [] σ H s ∧ s.heap.get? a = some oe ∧ Zc cls d oe ∧ oe.data = .fields vs := by
  obtain ⟨oe, vs, at_, kind, data⟩ := x.fl.there
  exact ⟨oe, vs, x.inv.suite at_ data x.na x.nL x.nF, at_, kind, data⟩
/-- the clause's class is looked up, and whether the error is of it -/
theorem Down.ask {x : Str} {np : Pos} {c : Value} {E : Value → Shared → Prop} (w : Down X pins a B cls d σ H sI s) (names : Names X x c) {P : Value → Shared → Prop} (q : P c s) : wpAny (model X.prog X.w) (X.A.mark (some (.ref a))) (eval (.Name x np) X.env) P E s := by
  obtain ⟨oe, vs, S, _⟩ := w.within
  obtain ⟨hg, hdb, hm | ⟨hm, hv, hn⟩⟩ := names
  · exact ld_glob (X := X.suite a ((a, oe) :: (X.pn ++ pins))) S hg hm q hdb
  · exact ld_blt (X := X.suite a ((a, oe) :: (X.pn ++ pins))) S hg hm hv q hn hdb
/-- the clauses, one after the other -/
theorem handle_mix {Wout : WX} {D : Ends} (stack : X.stack = X.env :: X.outer) (own : X.env.frame = some X.env.locals) (dup : X.N.Nodup) (ok : X.Ok) (tk : Takes X Wout) {hds : List ExceptHandler} {l : List Clause} (m : Mix X hds l) :
    ∀ {s : Shared}, Down X pins a B cls d σ H sI s → wMix X.K Wout D l cls d σ H → wpAny (model X.prog X.w) X.A (handleBy (.ref a) X.env hds) (SP X pins D) X.xe s := by
  induction m with
  | nil =>
    intro s w q
    refine wpAny_handleBy_nil ?_
    obtain ⟨_, _, _, oe, vs, tb, otb, ts, at_, _, data, one, _⟩ := id w.fl
    have on : wpAny (model X.prog X.w) X.A (setFlight (.ref a) X.env.frame) (fun _ s4 => wpAny (model X.prog X.w) X.A (throw (.ref a) : Sem Flow) (SP X pins D) X.xe s4) X.xe s := by
      rw [own]
      refine HandSPX.setFlight_upZ w.fl fun h held up => wpAny_throw (tk _ _ ?_)
      exact ⟨a, B, sI, pins, σ, H, cls, d, rfl, w.J, w.nb, w.up.trans up, .inr (.inr (by rw [stack]; exact held)), w.na, w.os, w.ag, q⟩
    unfold PySem.passOn
    refine wpAny_bind (wpAny_field at_ data one ?_)
    rw [if_neg (by simp)]
    first
      | exact wpAny_bind (wpAny_pure (wpAny_bind on))
      | exact wpAny_bind on
  | @plain x c ts st sts np pos hs l names suite more ih =>
    intro s w q
    obtain ⟨b, meets, yes, no⟩ := q
    refine wpAny_handleBy_cons (codeAny_handlers_test (w.ask names ?_)) (by intro z; cases z)
    obtain ⟨oe, vs, _, at_, kind, _⟩ := w.within
    have ty : PySem.W.Looks (model X.prog X.w) s.heap (typeOf (.ref a)) cls := fun _ _ _ _ keep back => wpAny_typeOf_ref (keep _ _ at_) (by rw [kind.1]; exact back)
    refine (PySem.W.exm_one (M := model X.prog X.w) w.inv.kIn ty meets).here ?_
    cases b with
    | false => exact ih w (no rfl)
    | true =>
      refine codeAny_handlers_suite (HandSPX.lands_againZ w.fl fun h fl up => ?_)
      have w2 := w.again fl up
      obtain ⟨oe2, vs2, S, _, kind2, data2⟩ := w2.within
      refine wpAny_mono ((suite a oe2 cls d (X.pn ++ pins) kind2 ⟨_, data2⟩).run [] _ _ H _ S (yes rfl a w.na)) (fun f s6 ended => ?_) (fun _ _ z => False.elim z)
      match f, ended with
      | .next, ⟨_, _, S6, q6⟩ => exact ⟨_, _, S6.unsuite ok, q6⟩
      | .brk, ⟨_, _, S6, q6⟩ => exact ⟨_, _, S6.unsuite ok, q6⟩
      | .cont, ⟨_, _, S6, q6⟩ => exact ⟨_, _, S6.unsuite ok, q6⟩
      | .ret _, ⟨_, _, _, S6, r6, q6⟩ => exact ⟨_, _, _, S6.unsuite ok, r6, q6⟩
  | @named x n i c ts st sts np pos hs l names slot loc suite more ih =>
    intro s w q
    obtain ⟨b, meets, yes, no⟩ := q
    refine wpAny_handleBy_cons (codeAny_handlers_test (w.ask names ?_)) (by intro z; cases z)
    obtain ⟨oe, vs, _, at_, kind, _⟩ := w.within
    have ty : PySem.W.Looks (model X.prog X.w) s.heap (typeOf (.ref a)) cls := fun _ _ _ _ keep back => wpAny_typeOf_ref (keep _ _ at_) (by rw [kind.1]; exact back)
    refine (PySem.W.exm_one (M := model X.prog X.w) w.inv.kIn ty meets).here ?_
    cases b with
    | false => exact ih w (no rfl)
    | true =>
      refine codeAny_handlers_suite_as (HandSPX.lands_againZ w.fl fun h fl up => ?_)
      have w2 := w.again fl up
      obtain ⟨oe2, vs2, S, _, kind2, data2⟩ := w2.within
      refine store_ok (X := X.suite a ((a, oe2) :: (X.pn ++ pins))) (v := .ref a) S dup slot (.inl loc) rfl (fun s5 S5 => ?_) (.inr loc)
      refine wpAny_mono ((suite a oe2 cls d (X.pn ++ pins) kind2 ⟨_, data2⟩).run [] s5 _ H _ S5 (yes rfl a w.na)) (fun f s6 ended => ?_) (fun _ _ z => False.elim z)
      match f, ended with
      | .next, ⟨_, _, S6, q6⟩ => exact gone_ok (S6.unsuite ok) dup slot loc fun _ J7 => ⟨_, _, J7, q6⟩
      | .brk, ⟨_, _, S6, q6⟩ => exact gone_ok (S6.unsuite ok) dup slot loc fun _ J7 => ⟨_, _, J7, q6⟩
      | .cont, ⟨_, _, S6, q6⟩ => exact gone_ok (S6.unsuite ok) dup slot loc fun _ J7 => ⟨_, _, J7, q6⟩
      | .ret _, ⟨_, _, _, S6, r6, q6⟩ => exact gone_ok (S6.unsuite ok) dup slot loc fun _ J7 => ⟨_, _, _, J7, r6, q6⟩
end
section
variable {X : Cx} {body : List Stmt} {h0 : ExceptHandler} {hds : List ExceptHandler} {l : List Clause} {pos : Pos} {tb : WX → TS} {Wout : WX}
theorem ps_try_mix (stack : X.stack = X.env :: X.outer) (own : X.env.frame = some X.env.locals) (dup : X.N.Nodup) (tk : Takes X Wout)
    (run : ∀ (W : WX) (pn : List (Addr × Obj)) (xe : Value → Shared → Prop), Takes (X.tr pn xe) W → PassesOwn (model X.prog X.w) X.A X.env xe → PSs (X.tr pn xe) body (tb W))
    (m : Mix X (h0 :: hds) l) : PS X (.Try body (h0 :: hds) [] [] pos) (fun D σ H => tb (wMix X.K Wout D l) D σ H) := by
  constructor
  intro pins s σ H D I want
  have ok := I.ok
  refine wpAny_Try_except (wpAny_mono ((run (wMix X.K Wout D l) (X.pn ++ pins) _ (fun u s1 air => ?_) PassesOwn.looking).run [] s σ H D (I.toTry _) want) (fun f s1 ended => ?_) (fun _ _ z => z))
  · obtain ⟨a, B, sI, pins', σ', H', cls, d, rfl, J', nb, up, sky, na, os, ag, q⟩ := air
    have frames : X.A.frames = some (X.env :: X.outer) := by rw [ok.frames, stack]
    refine Sky.land Zc.steady frames own (by rw [← stack]; exact sky) fun h fl up3 => ?_
    have far : ∀ b ∈ frs (X.env :: X.outer), a ≠ b := fun b hb z => by
      obtain ⟨oe, vs, at_, _, data⟩ := fl.there
      obtain ⟨_, o, e, nf⟩ := fl.2.2.1.mem hb
      rw [← z, at_] at e
      cases e
      exact nf _ data
    refine handle_mix stack own dup ok tk m ⟨fl, J'.ofTry ok, nb, up.trans up3, os, ag, na, ?_, fun hm => ?_⟩ q
    · exact far _ (List.mem_filterMap.mpr ⟨X.env, List.mem_cons_self, own⟩)
    · obtain ⟨e, he, z⟩ := List.mem_filterMap.mp hm
      exact far _ (List.mem_filterMap.mpr ⟨e, List.mem_cons_of_mem _ he, z⟩) rfl
  · match f, ended with
    | .next, ⟨_, _, J', q⟩ => exact wpAny_execs_nil ⟨_, _, J'.ofTry ok, q⟩
    | .brk, ⟨_, _, J', q⟩ => exact ⟨_, _, J'.ofTry ok, q⟩
    | .cont, ⟨_, _, J', q⟩ => exact ⟨_, _, J'.ofTry ok, q⟩
    | .ret _, ⟨_, _, _, J', r, q⟩ => exact ⟨_, _, _, J'.ofTry ok, r, q⟩
end
end UG


set_option Elab.async false
set_option linter.all false
set_option maxRecDepth 100000
set_option maxHeartbeats 4000000
/-! own errors: raised with any value; met by isinstance; handed to a def of one parameter -/
namespace UG
open PySem PySem.Spec PyProof.Rows L2
/-- X(e), X an own error without __init__ of its own -/
theorem pmk_ownV {X : Cx} {C : Addr} {bmB : List Value} {B newId initId : String} {x : Str} {p pos : Pos} {e : Expr} {te : TE} (F : ExcBaseFacts B newId initId bmB) (q : PySem.W.excIn X.K C bmB newId = true) (gC : X.mg x = some (.ref C)) (kC : PySem.W.keepIn X.K (.ref C) = true) (r : Raises X (.ref C)) (hg : Gl X x) (he : PE X e te)
    (hdb : (x == ("__debug__" : Str)) = false := by decide) (hst : starEach (e :: []) X.env = (false, eval e X.env) :: starEach [] X.env := by rfl) (hpl : (backTo pos (starEach [] X.env)).any (·.1) = false := by rfl) :
    PMk X (.Call (.Name x p) [e] [] pos) (fun σ H Q => te σ H fun v H1 => [v].length = 1 ∧ Q (.ref C) none H1) := by
  intro pins s σ H Q J want
  refine wpAny_Call_Name_kw (ld_glob J hg gC (PySem.W.callWith_K (h₀ := X.base) J.ok.mod.kin kC (thn ((pa_cons he pa_nil hst).run pos pins s σ H (fun vs H1 => vs.length = 1 ∧ Q (.ref C) none H1) J want) ?_) hst hpl) hdb)
  rintro us s1 ⟨vs, H1, J1, rel, one, go⟩
  refine ⟨J1.kIn, ?_⟩
  match vs, us, rel, one with
  | [_], [u], .cons _ .nil, _ =>
    show wpAny _ _ (call (.ref C) [u]) _ _ _
    obtain ⟨bm, N, nm, qn, bs, hdct, sn, sub, ab, col, dd, k0, k1, k2, k3, k5, mN, hC, hN, hni, T⟩ := exc_obj J1.kIn q
    exact wpAny_call_exc_subT F T hC hN hni (fun h' e hm => mk_of J1 hm r go (J1.hok.gone hm.new)) (by show 1 ≤ sizeLine; rw [sizeLine_eq]; omega)
/-! ### isinstance of an error that stands aside -/
structure IsC (K : PySem.W.Frag) (C : Addr) : Prop where
  cl : (PySem.W.clsIn K C).isSome = true
  ga : PySem.W.findIn K (.ref C) "__getattribute__" = some (some (.builtin "BaseException.__getattribute__"))
  gt : ∃ gt, PySem.W.findIn K (.ref C) "__getattr__" = some gt
  ex : PySem.W.subIn K (.ref C) (.type "BaseException") = some true
  ca : PySem.W.findIn K (.ref C) "__class__" = some (some (.builtin "object.__class__"))
  gs : PySem.W.specialIn K (.builtin "object.__class__") "__get__" = some (some (.builtin "getset_descriptor.__get__"))
  tk : PySem.W.takesIn K (.builtin "object.__class__") = some true
  ob : PySem.W.mroIn K C (.type "object") = some true
def rIsPin (K : PySem.W.Frag) (a C : Addr) (d : Option Addr) : List V → Hp → VK → Prop := fun xs H Q => ∃ (c : V) (u : Value) (b : Bool), xs = [.ref a, c] ∧ ClsV c u ∧ PySem.W.kitOne K (.ref C) u = some b ∧ (d = none ∨ ∃ dd fs, d = some dd ∧ H dd = some (.xd fs)) ∧ Q (.bl b) H
theorem call_isPin {X : Cx} {a C : Addr} {oe : Obj} {d : Option Addr} (mem : (a, oe) ∈ X.pn) (kind : Zc (.ref C) d oe) (data : ∃ vs, oe.data = .fields vs) (T : IsC X.K C) : CallR X (.builtin "isinstance") (rIsPin X.K a C d) := by
  intro pins s σ H xs us Q J rel want
  obtain ⟨c, u, b, rfl, cl, meets, dict, go⟩ := want
  obtain ⟨u1, u2, rfl, r1, r2⟩ := vals2 rel
  have e2 := cl.eq r2
  subst e2
  obtain rfl : u1 = Value.ref a := r1
  obtain ⟨at_, _⟩ := J.pin (a, oe) (List.mem_append_left _ mem)
  obtain ⟨vs, hd⟩ := data
  obtain ⟨gt, hgt⟩ := T.gt
  have inst : ∃ od, PySem.W.InstAt s.heap a oe C od := by
    rcases dict with z | ⟨dd, fs, z, hx⟩
    · exact ⟨none, at_, kind.1, by unfold PySem.W.notCls; rw [hd] <;> rfl, by rw [kind.2, z]; trivial⟩
    · have hx : ObjOk X.prog X.w H s.heap dd (.xd fs) := J.hok dd _ hx
      obtain ⟨mA, hns, _⟩ := hx
      obtain ⟨od, ho, _⟩ := lookIn_ns hns
      exact ⟨some od, at_, kind.1, by unfold PySem.W.notCls; rw [hd] <;> rfl, by rw [kind.2, z]; exact ho⟩
  obtain ⟨od, I⟩ := inst
  exact PySem.W.kia_one (PySem.W.kitx_exc T.cl T.ga hgt T.ex T.ca T.gs T.tk T.ob) J.kIn I meets (fun z => nomatch z) fun tk => ⟨.bl b, H, J.tok tk, rfl, go⟩
/-- .. where the error's class is told at the question -/
def rIsAny (K : PySem.W.Frag) (a : Addr) (cls : Value) (d : Option Addr) : List V → Hp → VK → Prop := fun xs H Q => ∃ (C : Addr), cls = .ref C ∧ IsC K C ∧ rIsPin K a C d xs H Q
theorem call_isAny {X : Cx} {a : Addr} {oe : Obj} {cls : Value} {d : Option Addr} (mem : (a, oe) ∈ X.pn) (kind : Zc cls d oe) (data : ∃ vs, oe.data = .fields vs) : CallR X (.builtin "isinstance") (rIsAny X.K a cls d) := by
  intro pins s σ H xs us Q J rel want
  obtain ⟨C, rfl, T, more⟩ := want
  exact call_isPin mem kind data T pins s σ H xs us Q J rel more
/-! ### a def of one parameter that is handed the error -/
structure FnE (P : Program) (w : World) (K : PySem.W.Frag) (mg : Str → Option Value) (base : Heap) (k : Nat) (f : Addr) (fd : FuncData) (p : Str) (sp : Value → Option Addr → Hp → VK → Prop) : Prop where
  run : ∀ (A : Around) (outer : List Env) (s : Shared) (H : Hp) (a : Addr) (oe : Obj) (cls : Value) (d : Option Addr) (Q : VK), L2H.RoomH k A → L2H.PinOk outer H s (a, oe) → Zc cls d oe → (∃ vs, oe.data = .fields vs) → Env0 P w K mg base A outer s H →
    BindsTo s fd ⟨[.ref a], []⟩ [(p, .ref a)] → sp cls d H Q → codeAny (model P w) A (.call (.ref f) ⟨[.ref a], []⟩) (CR C8.CX0 outer P w H s Q C8.E0) s
theorem fnE {P : Program} {w : World} {K : PySem.W.Frag} {mg : Str → Option Value} {base : Heap} {x : Str} {st : Stmt} {f : Addr} {fd : FuncData} {N : List Str} {p : Str} {k : Nat} {sp : Value → Option Addr → Hp → VK → Prop} (F : C8.Fun K x x st f fd) (S : FnScope N [p] (C8.fnScope st))
    (own : ∀ (cdv : Value) (A : Around) (outer : List Env) (s : Shared) (H : Hp) (a : Addr) (oe : Obj) (cls : Value) (d : Option Addr) (Q : VK), Zc cls d oe → (∃ vs, oe.data = .fields vs) → L2H.RoomH k (A.deeper (envOfC x (C8.fnScope st) s.heap.objs.size f cdv)) → sp cls d H Q →
      ∃ t, PSs (L2H.cxH C8.CX0 P w K mg base N x (C8.fnScope st) f cdv A outer s H C8.E0 (a, oe)) (C8.fnBody st) t ∧ t { nx := fun _ H' => Q .non H', rt := Q } (start N [.ref a]) H) : FnE P w K mg base (k + 1) f fd p sp := by
  obtain ⟨oc, od, dV, kV, doc, pm, an, cdv, ct, osl, rfl, look, code⟩ := F.ex
  refine ⟨fun A outer s H a oe cls d Q room pin kind data env0 bnd want => ?_⟩
  have inK : K.In s.heap := env0.mod.kin.keeps (fun b o e => (env0.bs b o e).1)
  have limit : s.heap.NoLimit := env0.mod.nolimit.keeps (fun b o e => (env0.bs b o e).1)
  refine codeAny_call_function room.depth (inK _ _ look) rfl S.co S.gen rfl (PySem.W.codeRec_of inK code) (bnd _ _ _ _ ?_)
  refine wpAny_newFunctionEnv_cells S.kind ?_ ?_
  · intro y hy
    cases List.mem_singleton.mp hy
    exact (S.par p (by simp)).imp id fun q => ⟨q, PySem.W.cellsFrom_some _ _ _ (.inl q)⟩
  intro env he s1 came
  subst he
  obtain ⟨t, ht, hq⟩ := own cdv A outer s H a oe cls d Q kind data (room.deeper _) want
  refine ⟨limit.keeps came.toInCall.keep, codeAny_func ?_⟩
  have I1 : Inv (L2H.cxH C8.CX0 P w K mg base N x (C8.fnScope st) f cdv A outer s H C8.E0 (a, oe)) [] (start N [.ref a]) H s1 := L2H.inv_startH (us := [.ref a]) S pin env0 rfl (.cons rfl .nil) came
  refine wpAny_mono (ht.run [] s1 (start N [.ref a]) H _ I1 hq) (fun fl s' ended => ?_) (fun e s' z => z)
  match fl, ended with
  | .ret _, ⟨v', σ', H', J, rv, q⟩ => exact ⟨v', H', J.os, J.bare, J.base, J.hok, rv, q⟩
  | .next, ⟨σ', H', J, q⟩ => exact ⟨.non, H', J.os, J.bare, J.base, J.hok, rfl, q⟩
  | .brk, ⟨_, _, _, q⟩ => exact q.elim
  | .cont, ⟨_, _, _, q⟩ => exact q.elim
structure CalE (P : Program) (w : World) (K : PySem.W.Frag) (mg : Str → Option Value) (base : Heap) (k : Nat) (x : Str) (sp : Value → Option Addr → Hp → VK → Prop) : Prop where
  ex : ∃ (f : Addr) (fd : FuncData) (p : Str), FnE P w K mg base k f fd p sp ∧ mg x = some (.ref f) ∧ PySem.W.keepIn K (.ref f) = true ∧ Binds K fd [p] []
theorem pe_cE {X : Cx} {k j : Nat} {x : Str} {sp : Value → Option Addr → Hp → VK → Prop} {p pos : Pos} {e : Expr} {te : TE} {a : Addr} {oe : Obj} {cls : Value} {d : Option Addr} (c : CalE X.prog X.w X.K X.mg X.base k x sp) (mem : (a, oe) ∈ X.pn) (kind : Zc cls d oe) (data : ∃ vs, oe.data = .fields vs) (hr : L2H.RoomH j X.A) (hk : k ≤ j) (hg : Gl X x) (he : PE X e te)
    (hdb : (x == ("__debug__" : Str)) = false := by decide) (hst : starEach (e :: []) X.env = (false, eval e X.env) :: starEach [] X.env := by rfl) (hpl : (backTo pos (starEach [] X.env)).any (·.1) = false := by rfl) :
    PE X (.Call (.Name x p) [e] [] pos) (fun σ H Q => te σ H fun v H1 => [v] = [V.ref a] ∧ sp cls d H1 Q) := by
  obtain ⟨f, fd, pn, F, hm, kp, hb⟩ := c.ex
  constructor
  intro pins s σ H Q J want
  refine wpAny_Call_Name_kw (ld_glob J hg hm (PySem.W.callWith_K (h₀ := X.base) J.ok.mod.kin kp (thn ((pa_cons he pa_nil hst).run pos pins s σ H (fun vs H1 => vs = [V.ref a] ∧ sp cls d H1 Q) J want) ?_) hst hpl) hdb)
  rintro us s1 ⟨vs, H1, J1, rel, rfl, q⟩
  refine ⟨J1.kIn, ?_⟩
  match us, rel with
  | [u], .cons ru .nil =>
    obtain rfl : u = Value.ref a := ru
    have P1 := J1.pin (a, oe) (List.mem_append_left _ mem)
    have pin : L2H.PinOk X.stack H1 s1 (a, oe) := ⟨P1.1, P1.2.1, fun hm => (List.mem_cons.mp (J1.stkSub a hm)).elim P1.2.2.1 P1.2.2.2.1, P1.2.2.2.2⟩
    refine wpAny_call (codeAny_mono (F.run X.A X.stack s1 H1 a oe cls d Q (hr.mono hk) pin kind data J1.env0 (by simpa using hb s1 [_] J1.kIn rfl) q) fun r s' hq => ?_)
    match r, hq with
    | .error _, hq => exact (show False from hq).elim
    | .ok (.ret _), hq => exact J1.after hq
    | .ok .next, hq => exact (show False from hq).elim
    | .ok .brk, hq => exact (show False from hq).elim
    | .ok .cont, hq => exact (show False from hq).elim
end UG


set_option Elab.async false
set_option linter.all false
set_option maxRecDepth 100000
set_option maxHeartbeats 8000000
namespace K04
open PySem PySem.Spec PyProof.Rows L2
theorem takes_noneX {X : Cx} : Takes X (fun _ _ _ _ => False) := fun _ _ x => by
  obtain ⟨a, B, sI, pins, σ, H, cls, d, h1, h2, h3, h4, h5, h6, h7, h8, z⟩ := x
  exact z.elim
section
variable {P : Program} {w : World} {K : PySem.W.Frag} {mg : Str → Option Value} {base : Heap}
/-- the class of errors for a program with a fault, and how it is raised -/
structure RsN (P : Program) (w : World) (K : PySem.W.Frag) (mg : Str → Option Value) (base : Heap) (NC : Addr) : Prop where
  g : mg "NotChecked" = some (.ref NC)
  T : OexC K NC
  i : ∃ (fI : Addr) (fd : FuncData), PySem.W.findIn K (.ref NC) "__init__" = some (some (.ref fI)) ∧ PySem.W.typeIn K (.ref fI) = some (.type "function") ∧ FnOk P w K mg base C8.CX0 1 fI fd ["self", "what"] (UG.spSup NC "what") ∧ Binds K fd ["self", "what"] []
/-- how the law's handlers meet it -/
structure ExN (K : PySem.W.Frag) (mg : Str → Option Value) (NC DE : Addr) : Prop where
  x : XfC K NC
  n : PySem.W.findIn K (.ref NC) "what" = some none
  d : mg "DeedError" = some (.ref DE)
  nn : PySem.W.exmOne K (.ref NC) (.ref NC) = some true
theorem sup_ok {C : Addr} {attr : Str} {v : V} {H1 : Hp} {Q : XK} (q : ∀ d2 H', Same H1 H' → H' d2 = some (.xd [(attr, v)]) → Q (.ref C) (some d2) H') : ∀ a2, H1 a2 = none → UG.spSup C attr [.ref a2, v] (upd H1 a2 (exo a2 C none))
    (fun v' H2 => v' = .non ∧ ∃ (d : Addr) (fs : List (Str × V)), H2 a2 = some (exo a2 C (some d)) ∧ H2 d = some (exd d fs) ∧ H1 d = none ∧ Q (.ref C) (some d) (upd (L2.del H2 a2) d (.xd fs))) (fun _ _ _ => False) := by
  intro a2 ha2
  refine ⟨a2, v, rfl, upd_same, fun d2 hd2 hne => ⟨rfl, d2, [(attr, v)], upd_same, by rw [upd_ne hne]; exact upd_same, ?_, ?_⟩⟩
  · have := hd2
    rw [upd_ne hne] at this
    exact this
  · have hd1 : H1 d2 = none := by
      have := hd2
      rw [upd_ne hne] at this
      exact this
    refine q _ _ (fun b o eb => ?_) upd_same
    have n1 : b ≠ a2 := fun z => by rw [z, ha2] at eb; cases eb
    have n2 : b ≠ d2 := fun z => by rw [z, hd1] at eb; cases eb
    rw [upd_ne n2, L2.del_ne n1, upd_ne n1, upd_ne n2, upd_ne n1]
    exact eb
theorem chk_kind (L : List Str) (Ps : List (Str × List St)) : chkD L Ps = .none ∨ ∃ x y, chkD L Ps = .tuple [.str x, .str y] := by
  unfold chkD
  cases firstD L with
  | some x => exact .inr ⟨_, _, rfl⟩
  | none =>
    cases firstD (Ps.map Prod.fst) with
    | some x => exact .inr ⟨_, _, rfl⟩
    | none =>
      cases Ps.findSome? (pfault L (Ps.map Prod.fst)) with
      | none => exact .inl rfl
      | some x => exact .inr ⟨_, _, rfl⟩
def spCd (K : PySem.W.Frag) (Ts : List Addr) (NC : Addr) : Sp := fun vs H Q E => ∃ v L Ps AL BN, vs = [v] ∧ Dp K H v (progD L Ps) ∧ Prog L Ps AL BN ∧ Tbs Ts H ∧ (chkD L Ps = .none → ∀ H', Go Ts H H' → Q .non H') ∧
  ∀ x y, chkD L Ps = .tuple [.str x, .str y] → ∀ p dd H', Go Ts H H' → SqT K H' p [.str x, .str y] → H' dd = some (.xd [("what", .ref p)]) → E (.ref NC) (some dd) H'
theorem sc_checked : FnScope ["program", "what"] ["program"] (C8.fnScope (topS 30)) := C8.fnScope_by (by decide +kernel)
theorem ok_checked {NC : Addr} {Ts : List Addr} {f : Addr} {fd : FuncData} (F : C8.Def K mg "checked" (topS 30) f fd) (B : Bl K mg) (R : RsN P w K mg base NC) (c_check : C8.Cal P w K mg base 17 "check" (spCheck K Ts) []) : FnOk P w K mg base (L2.CX P w) 18 f fd ["program"] (spCd K Ts NC) := by
  refine UG.fnX F.fn sc_checked ?len ?body
  case len => rintro vs H Q E ⟨v, L, Ps, AL, BN, rfl, _⟩; rfl
  case body =>
    rintro cdv A outer s H vs Q E hr ⟨v, L, Ps, AL, BN, rfl, hd, hP, hTb, q1, q2⟩
    obtain ⟨fI, fdI, iI, tI, FI, bI⟩ := R.i
    refine ⟨_, (pss_cons (ps_set (i := 1) sc_checked.nd rfl (Or.inl rfl) (C8.pe_c c_check hr (by decide) rfl (pa_cons (pv 0) pa_nil)))
      (pss_one (ps_if (pt_cmpR op_notN (pv 1) pe_non (nomark _)) (pss_one (ps_raise rfl UG.takes_def (pmk_oex R.T iI tI FI (hr.mono (by decide)) bI .nil C8.pass0 rfl R.g (pa_cons (pv 1) pa_nil)))) pss_nil))), ?_⟩
    refine ⟨_, rfl, v, L, Ps, AL, BN, rfl, hd, hP, hTb, fun H1 x g1 hx => ?_⟩
    rcases chk_kind L Ps with e1 | ⟨z, y, e1⟩
    · rw [e1] at hx
      cases hx
      refine ⟨_, rfl, rfl, _, rfl, ?_⟩
      exact iteF (q1 e1 H1 g1)
    · rw [e1] at hx
      obtain ⟨a, xs, rfl, hs, ha, hl⟩ := len_ok hx
      cases ha with
      | cons h1 ha =>
      cases h1
      cases ha with
      | cons h2 ha =>
      cases h2
      cases ha
      refine ⟨_, rfl, rfl, _, rfl, ?_⟩
      refine iteT ⟨_, rfl, (show 1 ≤ 1000 by decide), sup_ok fun d2 H2 s2 e2 => q2 z y e1 a d2 H2 (g1.trans (Go.of_same g1.1 s2)) ((Tk.same s2).sqt hs) e2⟩
/-- what _law_raised tells -/
def rzD (L : List Str) (Ps : List (Str × List St)) : PyData := match chkD L Ps with
  | .none => .none
  | d => .tuple [.str "not", d]
def spRz (K : PySem.W.Frag) (Ts : List Addr) : Sp := fun vs H Q _ => ∃ v b L Ps AL BN, vs = [v, .bl b] ∧ Dp K H v (progD L Ps) ∧ Prog L Ps AL BN ∧ Tbs Ts H ∧ ∀ x H', Go Ts H H' → Dp K H' x (rzD L Ps) → Q x H'
theorem sc__law_raised : FnScope ["plan", "named", "found", "e"] ["plan", "named"] (C8.fnScope (topS 45)) := C8.fnScope_by (by decide +kernel)
theorem ok__law_raised {NC DE : Addr} {Ts : List Addr} {f : Addr} {fd : FuncData} (F : C8.Def K mg "_law_raised" (topS 45) f fd) (b : Binds K fd ["plan", "named"] []) (B : Bl K mg) (R : RsN P w K mg base NC) (X : ExN K mg NC DE)
    {fD : Addr} {fdD : FuncData} (FD : FnOk P w K mg base (L2.CX P w) 18 fD fdD ["program"] (spCd K Ts NC)) (mD : mg "checked" = some (.ref fD)) (kD : PySem.W.keepIn K (.ref fD) = true) (bD : Binds K fdD ["program"] []) (kbD : KBinds K fdD ["program"] ["program"] (fun us ws => us ++ ws) (fun vs zs => vs ++ zs)) : C8.Cal P w K mg base 20 "_law_raised" (spRz K Ts) [] := by
  refine C8.cal0 F b .nil sc__law_raised ?len ?body
  case len => rintro vs H Q E ⟨v, named, L, Ps, AL, BN, rfl, _⟩; rfl
  case body =>
    rintro cdv A outer s H vs Q E hr ⟨v, named, L, Ps, AL, BN, rfl, hd, hP, hTb, q⟩
    refine ⟨_, (pss_cons (ps_set (i := 2) sc__law_raised.nd rfl (Or.inl rfl) pe_str)
      (pss_cons (UG.ps_try_mix rfl rfl sc__law_raised.nd takes_noneX
        (fun W pn xe tk _ => pss_one (ps_set (i := 2) sc__law_raised.nd rfl (Or.inl rfl) (pe_ifExp (pt_val (pv 1)) (UG.pe_callKS FD (hr.mono (by decide)) rfl mD kD kbD (fun σ => passAt tk σ) (pk_cons (pv 0) pk_nil)) (pe_callS FD (hr.mono (by decide)) rfl mD kD bD (fun σ => passAt tk σ) (pa_cons (pv 0) pa_nil)))))
        (.named (i := 3) ⟨rfl, by decide, .inl R.g⟩ rfl rfl (fun a oe cls d pn kind data => pss_one (ps_set (i := 2) sc__law_raised.nd rfl (Or.inl rfl) (pe_tup (pa_cons pe_str (pa_cons (pe_xf (a := a) (oe := oe) (pn := pn) X.x X.n kind data (pv 3)) pa_nil)))))
          (.plain ⟨rfl, by decide, .inl X.d⟩ (fun a oe cls d pn kind data => pss_one (ps_set (i := 2) sc__law_raised.nd rfl (Or.inl rfl) pe_str)) .nil)))
      (pss_one (ps_ret (pv 2))))), ?_⟩
    have good : chkD L Ps = .none → ∀ H', Go Ts H H' → Q .non H' := fun e H' g => q _ _ g (by unfold rzD; rw [e]; exact .non)
    have bad : ∀ x y, chkD L Ps = .tuple [.str x, .str y] → ∀ p pr H1, Go Ts H H1 → SqT K H1 p [.str x, .str y] → H1 pr = none → Q (.ref pr) (upd H1 pr (.tup [.str "not", .ref p])) := fun x y e p pr H1 g hp hpr => by
      refine q _ _ (g.trans (Go.of_same g.1 (same_new hpr _))) ?_
      unfold rzD
      rw [e]
      exact .tup (SqT.of upd_same) (.cons (.str _) (.cons (.tup ((Tk.same (same_new hpr _)).sqt hp) (.cons (.str _) (.cons (.str _) .nil))) .nil))
    refine nmI ?_
    refine ⟨_, rfl, named, rfl, ?_⟩
    cases named with
    | false =>
      refine iteF ⟨_, rfl, v, L, Ps, AL, BN, rfl, hd, hP, hTb, fun e H1 g1 => ⟨_, rfl, good e H1 g1⟩, fun x y e p dd H1 g1 hp e1 => ⟨true, X.nn, fun _ a ha => ?_, fun z => nomatch z⟩⟩
      refine ⟨_, rfl, rfl, rfl, dd, _, _, rfl, e1, rfl, (by show 2 ≤ sizeLine; decide), fun pr hpr => ?_⟩
      exact ⟨_, rfl, bad x y e p pr H1 g1 hp hpr⟩
    | true =>
      refine iteT ⟨_, rfl, v, L, Ps, AL, BN, rfl, hd, hP, hTb, fun e H1 g1 => ⟨_, rfl, good e H1 g1⟩, fun x y e p dd H1 g1 hp e1 => ⟨true, X.nn, fun _ a ha => ?_, fun z => nomatch z⟩⟩
      refine ⟨_, rfl, rfl, rfl, dd, _, _, rfl, e1, rfl, (by show 2 ≤ sizeLine; decide), fun pr hpr => ?_⟩
      exact ⟨_, rfl, bad x y e p pr H1 g1 hp hpr⟩
end
end K04


set_option Elab.async false
set_option linter.all false
set_option maxRecDepth 100000
set_option maxHeartbeats 4000000
/-! a def of one parameter that is called where no guard stands around -/
namespace UG
open PySem PySem.Spec PyProof.Rows L2
theorem room_un {k : Nat} {A : Around} (r : Room k A) : A.units + 200 < cLine := by have := r.un; omega
/-- the promise of such a def -/
structure FnG (P : Program) (w : World) (K : PySem.W.Frag) (mg : Str → Option Value) (base : Heap) (k : Nat) (f : Addr) (fd : FuncData) (p : Str) (sp : Sp) : Prop where
  run : ∀ (A : Around) (outer : List Env) (s : Shared) (H : Hp) (u : Value) (v : V) (Q : VK), A.guards = some [] → Room k A → Env0 P w K mg base A outer s H → BindsTo s fd ⟨[u], []⟩ [(p, u)] → RelV v u → sp [v] H Q C8.E0 →
    codeAny (model P w) A (.call (.ref f) ⟨[u], []⟩) (CR C8.CX0 outer P w H s Q C8.E0) s
theorem fnG {P : Program} {w : World} {K : PySem.W.Frag} {mg : Str → Option Value} {base : Heap} {x : Str} {st : Stmt} {f : Addr} {fd : FuncData} {N : List Str} {p : Str} {k : Nat} {sp : Sp} (F : C8.Fun K x x st f fd) (S : FnScope N [p] (C8.fnScope st))
    (own : ∀ (cdv : Value) (A : Around) (outer : List Env) (s : Shared) (H : Hp) (v : V) (Q : VK), (A.deeper (envOfC x (C8.fnScope st) s.heap.objs.size f cdv)).guards = some [] → Room k (A.deeper (envOfC x (C8.fnScope st) s.heap.objs.size f cdv)) → sp [v] H Q C8.E0 →
      ∃ t, PSs (cxOf C8.CX0 P w K mg base N x (C8.fnScope st) f cdv A outer s H C8.E0).nox (C8.fnBody st) t ∧ t { nx := fun _ H' => Q .non H', rt := Q } (start N [v]) H) : FnG P w K mg base (k + 1) f fd p sp := by
  obtain ⟨oc, od, dV, kV, doc, pm, an, cdv, ct, osl, rfl, look, code⟩ := F.ex
  refine ⟨fun A outer s H u v Q gd room env0 bnd rel want => ?_⟩
  have inK : K.In s.heap := env0.mod.kin.keeps (fun b o e => (env0.bs b o e).1)
  have free : s.heap.NoLimit := env0.mod.nolimit.keeps (fun b o e => (env0.bs b o e).1)
  refine codeAny_call_function room.depth (inK _ _ look) rfl S.co S.gen rfl (PySem.W.codeRec_of inK code) (bnd _ _ _ _ ?_)
  refine wpAny_newFunctionEnv_cells S.kind ?_ ?_
  · intro y hy
    cases List.mem_singleton.mp hy
    exact (S.par p (by simp)).imp id fun q => ⟨q, PySem.W.cellsFrom_some _ _ _ (.inl q)⟩
  intro env he s1 came
  subst he
  obtain ⟨t, ht, hq⟩ := own cdv A outer s H v Q gd (room.deeper _) want
  refine ⟨free.keeps came.toInCall.keep, codeAny_func ?_⟩
  have I1 : Inv (cxOf C8.CX0 P w K mg base N x (C8.fnScope st) f cdv A outer s H C8.E0) [] (start N [v]) H s1 := inv_start (us := [u]) S room.hd env0 rfl (.cons rel .nil) came
  refine wpAny_mono (ht.nox.run [] s1 (start N [v]) H _ I1 hq) (fun fl s' ended => ?_) (fun e s' z => z)
  match fl, ended with
  | .ret _, ⟨v', σ', H', J, rv, q⟩ => exact ⟨v', H', J.os, J.bare, J.base, J.hok, rv, q⟩
  | .next, ⟨σ', H', J, q⟩ => exact ⟨.non, H', J.os, J.bare, J.base, J.hok, rfl, q⟩
  | .brk, ⟨_, _, _, q⟩ => exact q.elim
  | .cont, ⟨_, _, _, q⟩ => exact q.elim
/-- such a def by its name -/
structure CalG (P : Program) (w : World) (K : PySem.W.Frag) (mg : Str → Option Value) (base : Heap) (k : Nat) (x : Str) (sp : Sp) : Prop where
  ex : ∃ (f : Addr) (fd : FuncData) (p : Str), FnG P w K mg base k f fd p sp ∧ mg x = some (.ref f) ∧ PySem.W.keepIn K (.ref f) = true ∧ Binds K fd [p] []
section
variable {X : Cx} {k j : Nat} {x : Str} {sp : Sp} {p pos : Pos} {e : Expr} {te : TE}
theorem pe_cG (c : CalG X.prog X.w X.K X.mg X.base k x sp) (gd : X.A.guards = some []) (hr : Room j X.A) (hk : k ≤ j) (hg : Gl X x) (he : PE X e te) (one : ∀ vs H Q, sp vs H Q C8.E0 → vs.length = 1)
    (hdb : (x == ("__debug__" : Str)) = false := by decide) (hst : starEach (e :: []) X.env = (false, eval e X.env) :: starEach [] X.env := by rfl) (hpl : (backTo pos (starEach [] X.env)).any (·.1) = false := by rfl) :
    PE X (.Call (.Name x p) [e] [] pos) (tCall sp [] C8.E0 (tCons te tNil)) := by
  obtain ⟨f, fd, pn, F, hm, kp, hb⟩ := c.ex
  constructor
  intro pins s σ H Q J want
  refine wpAny_Call_Name_kw (ld_glob J hg hm (PySem.W.callWith_K (h₀ := X.base) J.ok.mod.kin kp (thn ((pa_cons he pa_nil hst).run pos pins s σ H _ J want) ?_) hst hpl) hdb)
  rintro us s1 ⟨vs, H1, J1, rel, q⟩
  refine ⟨J1.kIn, ?_⟩
  have l1 := one _ _ _ q
  rw [List.append_nil] at q l1
  match vs, rel, l1 with
  | [v], .cons rv .nil, _ =>
    refine wpAny_call (codeAny_mono (F.run X.A X.stack s1 H1 _ v Q gd (hr.mono hk) J1.env0 (by simpa using hb s1 [_] J1.kIn rfl) rv q) fun r s' hq => ?_)
    match r, hq with
    | .error _, hq => exact (show False from hq).elim
    | .ok (.ret _), hq => exact J1.after hq
    | .ok .next, hq => exact (show False from hq).elim
    | .ok .brk, hq => exact (show False from hq).elim
    | .ok .cont, hq => exact (show False from hq).elim
end
end UG


set_option Elab.async false
set_option linter.all false
set_option maxRecDepth 100000
set_option maxHeartbeats 4000000
/-! .. of several parameters -/
namespace UG
open PySem PySem.Spec PyProof.Rows L2
structure FnGs (P : Program) (w : World) (K : PySem.W.Frag) (mg : Str → Option Value) (base : Heap) (k : Nat) (f : Addr) (fd : FuncData) (ps : List Str) (sp : Sp) : Prop where
  len : ∀ vs H Q, sp vs H Q C8.E0 → vs.length = ps.length
  run : ∀ (A : Around) (outer : List Env) (s : Shared) (H : Hp) (us : List Value) (vs : List V) (Q : VK), A.guards = some [] → Room k A → Env0 P w K mg base A outer s H → BindsTo s fd ⟨us, []⟩ (ps.zip us) → Vals vs us → sp vs H Q C8.E0 →
    codeAny (model P w) A (.call (.ref f) ⟨us, []⟩) (CR C8.CX0 outer P w H s Q C8.E0) s
theorem fnGs {P : Program} {w : World} {K : PySem.W.Frag} {mg : Str → Option Value} {base : Heap} {x : Str} {st : Stmt} {f : Addr} {fd : FuncData} {N ps : List Str} {k : Nat} {sp : Sp} (F : C8.Fun K x x st f fd) (S : FnScope N ps (C8.fnScope st)) (len : ∀ vs H Q, sp vs H Q C8.E0 → vs.length = ps.length)
    (own : ∀ (cdv : Value) (A : Around) (outer : List Env) (s : Shared) (H : Hp) (vs : List V) (Q : VK), (A.deeper (envOfC x (C8.fnScope st) s.heap.objs.size f cdv)).guards = some [] → Room k (A.deeper (envOfC x (C8.fnScope st) s.heap.objs.size f cdv)) → sp vs H Q C8.E0 →
      ∃ t, PSs (cxOf C8.CX0 P w K mg base N x (C8.fnScope st) f cdv A outer s H C8.E0).nox (C8.fnBody st) t ∧ t { nx := fun _ H' => Q .non H', rt := Q } (start N vs) H) : FnGs P w K mg base (k + 1) f fd ps sp := by
  obtain ⟨oc, od, dV, kV, doc, pm, an, cdv, ct, osl, rfl, look, code⟩ := F.ex
  refine ⟨len, fun A outer s H us vs Q gd room env0 bnd rel want => ?_⟩
  have inK : K.In s.heap := env0.mod.kin.keeps (fun b o e => (env0.bs b o e).1)
  have free : s.heap.NoLimit := env0.mod.nolimit.keeps (fun b o e => (env0.bs b o e).1)
  refine codeAny_call_function room.depth (inK _ _ look) rfl S.co S.gen rfl (PySem.W.codeRec_of inK code) (bnd _ _ _ _ ?_)
  refine wpAny_newFunctionEnv_cells S.kind ?_ ?_
  · rintro ⟨n, v⟩ hy
    exact (S.par n (List.of_mem_zip hy).1).imp id fun q => ⟨q, PySem.W.cellsFrom_some _ _ _ (.inl q)⟩
  intro env he s1 came
  subst he
  obtain ⟨t, ht, hq⟩ := own cdv A outer s H vs Q gd (room.deeper _) want
  refine ⟨free.keeps came.toInCall.keep, codeAny_func ?_⟩
  have I1 : Inv (cxOf C8.CX0 P w K mg base N x (C8.fnScope st) f cdv A outer s H C8.E0) [] (start N vs) H s1 := inv_start S room.hd env0 (len _ _ _ want) rel came
  refine wpAny_mono (ht.nox.run [] s1 (start N vs) H _ I1 hq) (fun fl s' ended => ?_) (fun e s' z => z)
  match fl, ended with
  | .ret _, ⟨v', σ', H', J, rv, q⟩ => exact ⟨v', H', J.os, J.bare, J.base, J.hok, rv, q⟩
  | .next, ⟨σ', H', J, q⟩ => exact ⟨.non, H', J.os, J.bare, J.base, J.hok, rfl, q⟩
  | .brk, ⟨_, _, _, q⟩ => exact q.elim
  | .cont, ⟨_, _, _, q⟩ => exact q.elim
structure CalGs (P : Program) (w : World) (K : PySem.W.Frag) (mg : Str → Option Value) (base : Heap) (k : Nat) (x : Str) (sp : Sp) : Prop where
  ex : ∃ (f : Addr) (fd : FuncData) (ps : List Str), FnGs P w K mg base k f fd ps sp ∧ mg x = some (.ref f) ∧ PySem.W.keepIn K (.ref f) = true ∧ Binds K fd ps []
section
variable {X : Cx} {k j : Nat} {x : Str} {sp : Sp} {p pos : Pos} {e : Expr} {es : List Expr} {t : TA}
theorem pe_cGs (c : CalGs X.prog X.w X.K X.mg X.base k x sp) (gd : X.A.guards = some []) (hr : Room j X.A) (hk : k ≤ j) (hg : Gl X x) (ha : PA X (e :: es) t)
    (hdb : (x == ("__debug__" : Str)) = false := by decide) (hst : starEach (e :: es) X.env = (false, eval e X.env) :: starEach es X.env := by rfl) (hpl : (backTo pos (starEach es X.env)).any (·.1) = false := by rfl) :
    PE X (.Call (.Name x p) (e :: es) [] pos) (tCall sp [] C8.E0 t) := by
  obtain ⟨f, fd, ps, F, hm, kp, hb⟩ := c.ex
  constructor
  intro pins s σ H Q J want
  refine wpAny_Call_Name_kw (ld_glob J hg hm (PySem.W.callWith_K (h₀ := X.base) J.ok.mod.kin kp (thn (ha.run pos pins s σ H _ J want) ?_) hst hpl) hdb)
  rintro us s1 ⟨vs, H1, J1, rel, q⟩
  refine ⟨J1.kIn, ?_⟩
  rw [List.append_nil] at q
  have bnd := hb s1 us J1.kIn (by rw [List.append_nil, ← rel.length]; exact F.len _ _ _ q)
  rw [List.append_nil] at bnd
  refine wpAny_call (codeAny_mono (F.run X.A X.stack s1 H1 us vs Q gd (hr.mono hk) J1.env0 bnd rel q) fun r s' hq => ?_)
  match r, hq with
  | .error _, hq => exact (show False from hq).elim
  | .ok (.ret _), hq => exact J1.after hq
  | .ok .next, hq => exact (show False from hq).elim
  | .ok .brk, hq => exact (show False from hq).elim
  | .ok .cont, hq => exact (show False from hq).elim
end
end UG


set_option Elab.async false
set_option linter.all false
set_option maxRecDepth 100000
set_option maxHeartbeats 8000000
namespace K04
open PySem PySem.Spec PyProof.Rows L2
def nmOk (x : Str) : Prop := x.length ≤ 10 ∧ ∀ c ∈ x.cps.toList, c < 16 ^ 8
theorem word_small : ∀ c ∈ wordS.cps.toList, c < 16 ^ 8 := by decide +kernel
theorem nmOk_of {x : Str} (h : nameB x = true) : nmOk x := by
  unfold nameB at h
  simp only [Bool.and_eq_true, decide_eq_true_eq, List.all_eq_true] at h
  exact ⟨h.1.1.1.2, fun c hc => word_small c (h.2 c hc)⟩
theorem nok_nm {L : List Str} (h : Nok L) : ∀ x ∈ L, nmOk x := fun x hx => nmOk_of (h x hx)
theorem leaf_str {x : Str} (h : nmOk x) : (PyData.str x).leavesShort 8 = true := by
  simp only [PyData.leavesShort, List.all_eq_true, decide_eq_true_eq]
  exact h.2
theorem bulk_str {x : Str} (h : nmOk x) : (PyData.str x).bulk ≤ 10 := by
  have e : x.length = x.cps.size := rfl
  simp only [PyData.bulk]
  have := h.1
  omega
/-- what the words of statements weigh -/
def wdOk (x : Str) : Prop := x.cps.size ≤ 6 ∧ ∀ c ∈ x.cps.toList, c < 16 ^ 8
theorem wd_do : wdOk "do" := ⟨by decide +kernel, by decide +kernel⟩
theorem wd_undo : wdOk "undo" := ⟨by decide +kernel, by decide +kernel⟩
theorem wd_call : wdOk "call" := ⟨by decide +kernel, by decide +kernel⟩
theorem wd_choose : wdOk "choose" := ⟨by decide +kernel, by decide +kernel⟩
theorem wd_loop : wdOk "loop" := ⟨by decide +kernel, by decide +kernel⟩
theorem wd_return : wdOk "return" := ⟨by decide +kernel, by decide +kernel⟩
theorem wd_ensure : wdOk "ensure" := ⟨by decide +kernel, by decide +kernel⟩
theorem leaf_wd {x : Str} (h : wdOk x) : (PyData.str x).leavesShort 8 = true := by
  simp only [PyData.leavesShort, List.all_eq_true, decide_eq_true_eq]
  exact h.2
theorem bulk_wd {x : Str} (h : wdOk x) : (PyData.str x).bulk ≤ 6 := by
  simp only [PyData.bulk]
  exact h.1
/-- all that is asked of what is shown -/
structure Sh (d : PyData) (n k : Nat) : Prop where
  fa : d.showable = true
  fb : d.hasDict = false
  fc : d.leavesShort 8 = true
  fd : d.bulk ≤ n
  fe : d.depth ≤ k
structure Shs (l : List PyData) (n k : Nat) : Prop where
  fa : PyData.showableAll l = true
  fb : PyData.hasDictAll l = false
  fc : PyData.leavesShortAll 8 l = true
  fd : PyData.bulkAll l ≤ n
  fe : PyData.depthAll l ≤ k
theorem Shs.nil {k : Nat} : Shs [] 0 k := ⟨rfl, rfl, rfl, by simp [PyData.bulkAll], by simp [PyData.depthAll]⟩
theorem Shs.cons {d : PyData} {l : List PyData} {n m k : Nat} (h : Sh d n k) (hl : Shs l m k) : Shs (d :: l) (n + 1 + m) k := by
  refine ⟨?_, ?_, ?_, ?_, ?_⟩
  · simp only [PyData.showableAll, h.fa, hl.fa, Bool.and_self]
  · simp only [PyData.hasDictAll, h.fb, hl.fb, Bool.or_self]
  · simp only [PyData.leavesShortAll, h.fc, hl.fc, Bool.and_self]
  · have := h.fd; have := hl.fd
    simp only [PyData.bulkAll]; omega
  · have := h.fe; have := hl.fe
    simp only [PyData.depthAll]; omega
theorem Sh.tup {l : List PyData} {n k : Nat} (h : Shs l n k) : Sh (.tuple l) n (k + 1) := by
  refine ⟨?_, ?_, ?_, ?_, ?_⟩
  · simp only [PyData.showable, h.fa]
  · simp only [PyData.hasDict, h.fb]
  · simp only [PyData.leavesShort, h.fc]
  · have := h.fd
    simp only [PyData.bulk]; omega
  · have := h.fe
    simp only [PyData.depth]; omega
theorem Sh.wd {x : Str} {k : Nat} (h : wdOk x) : Sh (.str x) 6 k := ⟨by simp only [PyData.showable], by simp only [PyData.hasDict], leaf_wd h, bulk_wd h, by simp [PyData.depth]⟩
theorem Sh.nm {x : Str} {k : Nat} (h : nmOk x) : Sh (.str x) 10 k := ⟨by simp only [PyData.showable], by simp only [PyData.hasDict], leaf_str h, bulk_str h, by simp [PyData.depth]⟩
theorem Sh.le {d : PyData} {n m k j : Nat} (h : Sh d n k) (h1 : n ≤ m) (h2 : k ≤ j) : Sh d m j := ⟨h.fa, h.fb, h.fc, by have := h.fd; omega, by have := h.fe; omega⟩
theorem Shs.le {d : List PyData} {n m k j : Nat} (h : Shs d n k) (h1 : n ≤ m) (h2 : k ≤ j) : Shs d m j := ⟨h.fa, h.fb, h.fc, by have := h.fd; omega, by have := h.fe; omega⟩
mutual
theorem sh_d {L N : List Str} (hL : ∀ x ∈ L, nmOk x) (hN : ∀ x ∈ N, nmOk x) : ∀ (s : St) (sec : Bool), s.ok L N sec → Sh s.d (40 * s.n - 1) (3 * s.k)
  | .dd x, _, h => (Sh.tup (k := 0) (.cons (.wd wd_do) (.cons (.nm (hL x h)) .nil))).le (by simp [St.n]) (by simp [St.k])
  | .ud x, _, h => (Sh.tup (k := 0) (.cons (.wd wd_undo) (.cons (.nm (hL x h)) .nil))).le (by simp [St.n]) (by simp [St.k])
  | .cl x, _, h => (Sh.tup (k := 0) (.cons (.wd wd_call) (.cons (.nm (hN x h)) .nil))).le (by simp [St.n]) (by simp [St.k])
  | .ch bs, sec, h => (Sh.tup (.cons (.wd wd_choose) (.cons (.tup (sh_dss hL hN bs sec h.2.2)) .nil))).le (by have := h.2.1; simp [St.n]; omega) (by simp [St.k]; omega)
  | .lp b, sec, h => (Sh.tup (.cons (.wd wd_loop) (.cons (.tup (sh_ds hL hN b sec h)) .nil))).le (by simp [St.n]; omega) (by simp [St.k]; omega)
  | .rt, _, _ => (Sh.tup (k := 0) (.cons (.wd wd_return) .nil)).le (by simp [St.n]) (by simp [St.k])
  | .en b c, sec, h => (Sh.tup (k := 3 * max (ks b) (ks c) + 1) (.cons (.wd wd_ensure) (.cons ((Sh.tup (sh_ds hL hN b sec h.1)).le (Nat.le_refl _) (by omega)) (.cons ((Sh.tup (sh_ds hL hN c true h.2)).le (Nat.le_refl _) (by omega)) .nil)))).le (by simp [St.n]; omega) (by simp [St.k]; omega)
theorem sh_ds {L N : List Str} (hL : ∀ x ∈ L, nmOk x) (hN : ∀ x ∈ N, nmOk x) : ∀ (b : List St) (sec : Bool), oks L N sec b → Shs (ds b) (40 * ns b) (3 * ks b)
  | [], _, _ => Shs.nil.le (Nat.zero_le _) (Nat.zero_le _)
  | s :: r, sec, h => by
    have h1 := sh_d hL hN s sec h.1
    have h2 := sh_ds hL hN r sec h.2
    have h3 : 1 ≤ s.n := by cases s <;> simp [St.n] <;> omega
    exact ((Shs.cons (h1.le (Nat.le_refl _) (show 3 * s.k ≤ 3 * ks (s :: r) by simp [ks]; omega)) (h2.le (Nat.le_refl _) (by simp [ks]; omega))).le (by simp [ns]; omega) (Nat.le_refl _))
theorem sh_dss {L N : List Str} (hL : ∀ x ∈ L, nmOk x) (hN : ∀ x ∈ N, nmOk x) : ∀ (b : List (List St)) (sec : Bool), okss L N sec b → Shs (dss b) (40 * nss b + b.length) (3 * kss b + 1)
  | [], _, _ => Shs.nil.le (Nat.zero_le _) (Nat.zero_le _)
  | s :: r, sec, h => by
    have h1 := sh_ds hL hN s sec h.1
    have h2 := sh_dss hL hN r sec h.2
    exact ((Shs.cons ((Sh.tup h1).le (Nat.le_refl _) (show 3 * ks s + 1 ≤ 3 * kss (s :: r) + 1 by simp [kss]; omega)) (h2.le (Nat.le_refl _) (by simp [kss]; omega))).le (by simp [nss]; omega) (Nat.le_refl _))
end
theorem sh_nms {k : Nat} : ∀ (L : List Str), (∀ x ∈ L, nmOk x) → Shs (L.map PyData.str) (11 * L.length) k
  | [], _ => Shs.nil.le (Nat.zero_le _) (Nat.le_refl _)
  | x :: r, h => ((Shs.cons (Sh.nm (h x (by simp))) (sh_nms r fun y hy => h y (by simp [hy]))).le (by simp; omega) (Nat.le_refl _))
theorem sh_procs {L N : List Str} (hL : ∀ x ∈ L, nmOk x) (hN : ∀ x ∈ N, nmOk x) : ∀ (Q : List (Str × List St)), (∀ p ∈ Q, nmOk p.1) → (∀ b ∈ nsP Q, oks L N false b) → Shs (Q.map procD) (40 * nss (nsP Q) + 20 * Q.length) (3 * kss (nsP Q) + 2)
  | [], _, _ => Shs.nil.le (Nat.zero_le _) (Nat.le_refl _)
  | p :: r, h, ho => by
    have h2 := sh_procs hL hN r (fun y hy => h y (by simp [hy])) (fun b hb => ho b (by simp [nsP] at hb ⊢; exact .inr hb))
    have h1 := sh_ds hL hN p.2 false (ho _ (by simp [nsP]))
    have hp : Sh (procD p) (10 + 1 + (40 * ns p.2 + 1 + 0)) (3 * ks p.2 + 1 + 1) := Sh.tup (.cons (.nm (h p (by simp))) (.cons (.tup h1) .nil))
    exact ((Shs.cons (hp.le (Nat.le_refl _) (show _ ≤ 3 * kss (nsP (p :: r)) + 2 by simp [nsP, kss]; omega)) (h2.le (Nat.le_refl _) (by simp [nsP, kss]; omega))).le (by simp [nsP, nss]; omega) (Nat.le_refl _))
theorem sh_prog {L A B : List Str} {Ps : List (Str × List St)} (h : Prog L Ps A B) : Sh (progD L Ps) 8402 40 := by
  have hA := nok_nm h.okA
  have hB := nok_nm h.okB
  have h1 : Shs (L.map PyData.str) (11 * L.length) 0 := sh_nms L fun x hx => hA x (h.inA x hx)
  have h2 := sh_procs hA hB Ps (fun p hp => hB p.1 (h.inB _ (List.mem_map.mpr ⟨p, hp, rfl⟩))) h.ok
  have := h.l2; have := h.p2; have := h.ks; have := h.n
  exact (Sh.tup (k := 39) (.cons ((Sh.tup h1).le (Nat.le_refl _) (by omega)) (.cons ((Sh.tup h2).le (Nat.le_refl _) (by omega)) .nil))).le (by omega) (Nat.le_refl _)
theorem Sh.fits {d : PyData} {n k : Nat} (h : Sh d n k) (hn : n ≤ 1000000) : d.shown.length ≤ sizeLine := PyData.shown_fits_bulk (B := 8) (by omega) (by omega) h.fc (by have := h.fd; omega)
section
variable {X : Cx}
def rReprL (K : PySem.W.Frag) : List V → Hp → VK → Prop := fun zs H Q => ∃ (a : Addr) (d : PyData), zs = [.ref a] ∧ L2.Dp K H (.ref a) d ∧ d.showable = true ∧ d.hasDict = false ∧ d.depth ≤ 60 ∧ d.shown.length ≤ sizeLine ∧ Q (.str d.shown) H
theorem call_reprL (hg : X.A.guards = some []) (hu : X.A.units + 200 < cLine) : CallR X (.builtin "repr") (rReprL X.K) := by
  intro pins sh σ H zs us Q J rz hyp
  obtain ⟨a, d, rfl, hd, h1, h2, h3, h4, fin⟩ := hyp
  obtain ⟨u, rfl, ru⟩ := vals1 rz
  obtain ⟨as, rd⟩ := L2.Dp.reads J d _ u hd ru
  have eu : u = Value.ref a := ru
  subst eu
  refine repr_of_reads' rd h1 (fun z => by rw [h2] at z; cases z) hg (by omega) (fun _ _ e => e) (fun hh t tk keep => ?_) h4
  exact ⟨.str d.shown, H, J.kept (t' := tk) keep, ⟨t, rfl⟩, fin⟩
end
end K04


set_option Elab.async false
set_option linter.all false
set_option maxRecDepth 100000
set_option maxHeartbeats 8000000
namespace K04
open PySem PySem.Spec PyProof.Rows L2
theorem kit_list : ∀ n ∈ ["NoneType", "bool", "int", "str", "list", "tuple", "dict"], kitB n "list" = some (isiN "list" n) := by decide +kernel
section
variable {X : Cx}
theorem call_isL : CallR X (.builtin "isinstance") (rIsD X.K "list") := by
  intro pins sh σ H xs us Q J r hyp
  obtain ⟨v, d, rfl, hd, q⟩ := hyp
  exact call_isi pins sh σ H _ us Q J r ⟨v, .ty "list", _, _, _, rfl, .ty "list", dp_ty hd, kit_ty (kit_list (tyN d) (by cases d <;> simp [tyN])), q⟩
theorem pe_isL {e : Expr} {te : TE} {p1 p2 p3 : Pos} (B : Bl X.K X.mg) (he : PE X e te) (hg : Gl X "isinstance") (hx : Gl X "list") (hm : X.mg "list" = none)
    (hs1 : starEach [e, .Name "list" p3] X.env = (false, eval e X.env) :: starEach [.Name "list" p3] X.env := by rfl)
    (hs2 : starEach [.Name "list" p3] X.env = (false, eval (.Name "list" p3) X.env) :: starEach [] X.env := by rfl) (hpl : (backTo p2 (starEach [.Name "list" p3] X.env)).any (·.1) = false := by rfl) :
    PE X (.Call (.Name "isinstance" p1) [e, .Name "list" p3] [] p2) (tCB (rIsD X.K "list") (tCons te (tCons (tC (.ty "list")) tNil))) :=
  pe_callB (pos := p2) (p := p1) call_isL hg B.isi (by decide +kernel) (pa_cons he (pa_cons (pe_bltn (v := .ty "list") (pos := p3) hx hm (by decide +kernel) rfl (by decide) (by decide)) pa_nil hs2) hs1) (by decide) (by decide) hs1 hpl
/-- x is True, x is False of what is no truth value -/
theorem op_isBO : OpR X (compareOp .Is) (fun x y H Q => ∃ c : Bool, y = .bl c ∧ (match x with | .int _ => True | .str _ => True | .ref _ => True | _ => False) ∧ Q (.bl false) H) := by
  intro pins sh σ H x y v u Q J rx ry hyp
  obtain ⟨c, rfl, hx, q⟩ := hyp
  have eu : u = Value.bool c := ry
  subst eu
  show wpAny _ _ ((isSame v (Value.bool c)) >>= fun z => pure (Value.bool z)) _ _ sh
  have go : ∀ {v : Value}, plainIs v (Value.bool c) = true → (v == Value.bool c) = false → wpAny (model X.prog X.w) X.A ((isSame v (Value.bool c)) >>= fun z => pure (Value.bool z)) (EP X pins σ Q) X.xe sh := fun h1 h2 =>
    wpAny_bind (wpAny_isSame_plain h1 (by rw [h2]; exact wpAny_pure (fin_bl J q rfl)))
  cases x with
  | int i => obtain ⟨t, rfl⟩ := rx; exact go rfl rfl
  | str z => obtain ⟨t, rfl⟩ := rx; exact go rfl rfl
  | ref a => cases rx; exact go rfl rfl
  | _ => exact hx.elim
end
theorem op_isBA {X : Cx} : OpR X (compareOp .Is) (fun x y H Q => ∃ c : Bool, y = .bl c ∧ ((∃ k : Bool, x = .bl k ∧ Q (.bl (decide (k = c))) H) ∨ ((match x with | .int _ => True | .str _ => True | .ref _ => True | _ => False) ∧ Q (.bl false) H))) := by
  intro pins sh σ H x y v u Q J rx ry hyp
  obtain ⟨c, rfl, h | h⟩ := hyp
  · obtain ⟨k, rfl, q⟩ := h
    exact op_isBl pins sh σ H _ _ _ _ Q J rx ry ⟨k, c, rfl, rfl, q⟩
  · exact op_isBO pins sh σ H _ _ _ _ Q J rx ry ⟨c, rfl, h.1, h.2⟩
/-- data that _law_same tells apart, n levels deep -/
def Sd : Nat → PyData → Prop
  | 0, _ => False
  | n + 1, d => d = .none ∨ d = .bool true ∨ (∃ i, d = .int i) ∨ (∃ s, d = .str s) ∨ (∃ ds, d = .tuple ds ∧ ds.length ≤ 5000 ∧ ∀ e ∈ ds, Sd n e) ∨ ∃ ds, d = .list ds ∧ ds.length ≤ 5000 ∧ ∀ e ∈ ds, Sd n e
theorem Sd.le {n m : Nat} {d : PyData} (h : n ≤ m) (s : Sd n d) : Sd m d := by
  induction n generalizing m d with
  | zero => exact s.elim
  | succ n ih =>
    cases m with
    | zero => omega
    | succ m =>
      rcases s with h1 | h1 | h1 | h1 | ⟨ds, h1, h2, h3⟩ | ⟨ds, h1, h2, h3⟩
      · exact .inl h1
      · exact .inr (.inl h1)
      · exact .inr (.inr (.inl h1))
      · exact .inr (.inr (.inr (.inl h1)))
      · exact .inr (.inr (.inr (.inr (.inl ⟨ds, h1, h2, fun e he => ih (by omega) (h3 e he)⟩))))
      · exact .inr (.inr (.inr (.inr (.inr ⟨ds, h1, h2, fun e he => ih (by omega) (h3 e he)⟩))))
theorem sd_str (n : Nat) (x : Str) : Sd (n + 1) (.str x) := .inr (.inr (.inr (.inl ⟨x, rfl⟩)))
theorem sd_tup {n : Nat} {ds : List PyData} (h : ds.length ≤ 5000) (a : ∀ e ∈ ds, Sd n e) : Sd (n + 1) (.tuple ds) := .inr (.inr (.inr (.inr (.inl ⟨ds, rfl, h, a⟩))))
mutual
theorem sd_st : ∀ (s : St) (A B : List Str) (sec : Bool), s.ok A B sec → s.wd → ∀ n, 3 * s.k ≤ n + 1 → Sd (n + 1) s.d
  | .dd x, _, _, _, _, _, n, hn | .ud x, _, _, _, _, _, n, hn | .cl x, _, _, _, _, _, n, hn => by
    have hn : 3 * 1 ≤ n + 1 := hn
    obtain ⟨n, rfl⟩ : ∃ n', n = n' + 1 := ⟨n - 1, by omega⟩
    exact sd_tup (by simp) (by intro e he; simp at he; rcases he with rfl | rfl <;> exact sd_str _ _)
  | .rt, _, _, _, _, _, n, hn => by
    have hn : 3 * 1 ≤ n + 1 := hn
    obtain ⟨n, rfl⟩ : ∃ n', n = n' + 1 := ⟨n - 1, by omega⟩
    exact sd_tup (by simp) (by intro e he; simp at he; rcases he with rfl; exact sd_str _ _)
  | .ch bs, A, B, sec, ho, hw, n, hn => by
    rw [St.k] at hn
    obtain ⟨n, rfl⟩ : ∃ n', n = n' + 2 := ⟨n - 2, by omega⟩
    refine sd_tup (by simp) fun e he => ?_
    simp only [List.mem_cons, List.not_mem_nil, or_false] at he
    rcases he with rfl | rfl
    · exact sd_str _ _
    · refine sd_tup (by rw [dss_len]; have := ho.2.1; omega) fun e he => ?_
      exact sd_dss bs A B sec ho.2.2 hw n (by omega) e he
  | .lp b, A, B, sec, ho, hw, n, hn => by
    rw [St.k] at hn
    obtain ⟨n, rfl⟩ : ∃ n', n = n' + 2 := ⟨n - 2, by omega⟩
    refine sd_tup (by simp) fun e he => ?_
    simp only [List.mem_cons, List.not_mem_nil, or_false] at he
    rcases he with rfl | rfl
    · exact sd_str _ _
    · exact sd_tup (by rw [ds_len]; have := hw.1; omega) fun e he => sd_ds b A B sec ho hw.2 n (by omega) e he
  | .en b c, A, B, sec, ho, hw, n, hn => by
    rw [St.k] at hn
    obtain ⟨n, rfl⟩ : ∃ n', n = n' + 2 := ⟨n - 2, by omega⟩
    refine sd_tup (by simp) fun e he => ?_
    simp only [List.mem_cons, List.not_mem_nil, or_false] at he
    rcases he with rfl | rfl | rfl
    · exact sd_str _ _
    · exact sd_tup (by rw [ds_len]; have := hw.1.1; omega) fun e he => sd_ds b A B sec ho.1 hw.1.2 n (by omega) e he
    · exact sd_tup (by rw [ds_len]; have := hw.2.1; omega) fun e he => sd_ds c A B true ho.2 hw.2.2 n (by omega) e he
theorem sd_ds : ∀ (b : List St) (A B : List Str) (sec : Bool), oks A B sec b → wdl b → ∀ n, 3 * ks b ≤ n + 1 → ∀ e ∈ ds b, Sd (n + 1) e
  | [], _, _, _, _, _, _, _, e, he => by simp [ds] at he
  | s :: r, A, B, sec, ho, hw, n, hn, e, he => by
    rw [ks] at hn
    rcases List.mem_cons.mp (show e ∈ s.d :: ds r from he) with rfl | he
    · exact sd_st s A B sec ho.1 hw.1 n (by omega)
    · exact sd_ds r A B sec ho.2 hw.2 n (by omega) e he
theorem sd_dss : ∀ (b : List (List St)) (A B : List Str) (sec : Bool), okss A B sec b → wdbs b → ∀ n, 3 * kss b ≤ n → ∀ e ∈ dss b, Sd (n + 1) e
  | [], _, _, _, _, _, _, _, e, he => by simp [dss] at he
  | s :: r, A, B, sec, ho, hw, n, hn, e, he => by
    rw [kss] at hn
    rcases List.mem_cons.mp (show e ∈ PyData.tuple (ds s) :: dss r from he) with rfl | he
    · refine sd_tup (by rw [ds_len]; have := hw.1.1; omega) fun e he => ?_
      cases n with
      | zero =>
        cases s with
        | nil => simp [ds] at he
        | cons x y => have := ks_pos (b := x :: y) (by simp); omega
      | succ n => exact sd_ds s A B sec ho.1 hw.1.2 n (by omega) e he
    · exact sd_dss r A B sec ho.2 hw.2 n (by omega) e he
end
section
variable {P : Program} {w : World} {K : PySem.W.Frag} {mg : Str → Option Value} {base : Heap}

def spSameT (K : PySem.W.Frag) (n : Nat) : Sp := fun vs H Q _ => ∃ v w d, vs = [v, w] ∧ Dp K H v d ∧ Dp K H w d ∧ Sd n d ∧ ∀ H', Same H H' → Q (.bl true) H'
theorem sc__law_same : FnScope ["found", "due", "k"] ["found", "due"] (C8.fnScope (topS 34)) := C8.fnScope_by (by decide +kernel)
theorem ok_same {n : Nat} {f : Addr} {fd : FuncData} (F : C8.Def K mg "_law_same" (topS 34) f fd) (b : Binds K fd ["found", "due"] []) (B : Bl K mg) (c__law_same : C8.Cal P w K mg base (n + 1) "_law_same" (spSameT K n) []) : C8.Cal P w K mg base (n + 2) "_law_same" (spSameT K (n + 1)) [] := by
  refine C8.cal0 F b .nil sc__law_same ?len ?body
  case len => rintro vs H Q E ⟨v, w, d, rfl, _⟩; rfl
  case body =>
    rintro cdv A outer s H vs Q E hr ⟨v, w', d, rfl, hv, hw, sd, q⟩
    refine ⟨_, (pss_cons (ps_if (pt_cmpR op_isN (pv 1) pe_non (nomark _)) (pss_one (ps_ret (pe_cmpR op_isN (pv 0) pe_non (nomark _)))) pss_nil)
    (pss_cons (ps_if (pt_cmpR op_isBA (pv 1) pe_bl (nomark _)) (pss_one (ps_ret (pe_cmpR op_isBA (pv 0) pe_bl (nomark _)))) pss_nil)
    (pss_cons (ps_if (pt_cmpR op_isBA (pv 1) pe_bl (nomark _)) (pss_one (ps_ret (pe_cmpR op_isBA (pv 0) pe_bl (nomark _)))) pss_nil)
    (pss_cons (ps_if (pt_val (pe_isD (c := "int") B (pv 1) rfl rfl B.int (by decide +kernel) (by decide))) (pss_one (ps_ret (pe_and (pe_isD (c := "int") B (pv 0) rfl rfl B.int (by decide +kernel) (by decide)) (pe_and (pe_not (pe_isD (c := "bool") B (pv 0) rfl rfl B.bool (by decide +kernel) (by decide))) (pe_one (pe_cmpR op_eq (pv 0) (pv 1) (nomark _))))))) pss_nil)
    (pss_cons (ps_if (pt_val (pe_isD (c := "str") B (pv 1) rfl rfl B.str (by decide +kernel) (by decide))) (pss_one (ps_ret (pe_and (pe_isD (c := "str") B (pv 0) rfl rfl B.str (by decide +kernel) (by decide)) (pe_one (pe_cmpR op_eq (pv 0) (pv 1) (nomark _)))))) pss_nil)
    (pss_cons (ps_if (PW.pt (pw_or (pt_cmpR op_ne (pe_isD (c := "tuple") B (pv 1) rfl rfl B.tuple (by decide +kernel) (by decide)) (pe_isD (c := "tuple") B (pv 0) rfl rfl B.tuple (by decide +kernel) (by decide)) (nomark _)) (pw_or1 (pt_cmpR op_ne (pe_isL B (pv 1) rfl rfl B.list) (pe_isL B (pv 0) rfl rfl B.list) (nomark _))))) (pss_one (ps_ret pe_bl)) pss_nil)
    (pss_cons (ps_if (pt_cmpR op_ne (pe_callB call_len_seq rfl B.len PySem.boot_len (pa_cons (pv 0) pa_nil)) (pe_callB call_len_seq rfl B.len PySem.boot_len (pa_cons (pv 1) pa_nil)) (nomark _)) (pss_one (ps_ret pe_bl)) pss_nil)
    (pss_one (ps_ret (pe_callB (cr_all rfl) rfl B.all (by decide +kernel) (pa_cons (pe_lc (own := [("k", 2)]) (g := gName 2) (te := tCall (spSameT K n) [] C8.E0 (tCons (tOp (rIx K) (tVar 0) (tVar 2)) (tCons (tOp (rIx K) (tVar 1) (tVar 2)) tNil))) (by rfl) sc__law_same.nd (pi_range1 rfl B.range (pa_cons (pe_callB call_len_seq rfl B.len PySem.boot_len (pa_cons (pv 1) pa_nil)) pa_nil)) (blkOk_by (own := [("k", 2)]) (N := ["found", "due", "k"]) (sc := (C8.fnScope (topS 34))) (by decide +kernel)) (fun _ _ _ _ _ => pg_name (i := 2) sc__law_same.nd rfl (Or.inl rfl)) (fun _ _ _ _ _ => pts_nil) (fun _ _ _ _ _ => by exact (C8.pe_c c__law_same hr (by omega) rfl (pa_cons (pe_ix ix_seq (pv 0) (pv 2) (fun _ _ => rfl)) (pa_cons (pe_ix ix_seq (pv 1) (pv 2) (fun _ _ => rfl)) pa_nil))))) pa_nil))))))))))), ?_⟩
    rcases sd with rfl | rfl | ⟨i, rfl⟩ | ⟨z, rfl⟩ | ⟨ds, rfl, hl, hds⟩ | ⟨ds, rfl, hl, hds⟩
    · cases hv
      cases hw
      refine ⟨_, rfl, rfl, _, rfl, ?_⟩
      refine iteT ⟨_, rfl, rfl, ?_⟩
      rw [decide_eq_true rfl]
      exact q H (Same.refl H)
    · cases hv
      cases hw
      refine ⟨_, rfl, rfl, _, rfl, ?_⟩
      refine iteF ?_
      refine ⟨_, rfl, true, rfl, .inl ⟨true, rfl, _, rfl, ?_⟩⟩
      refine ifT (by decide) ⟨_, rfl, true, rfl, .inl ⟨true, rfl, ?_⟩⟩
      exact q H (Same.refl H)
    · cases hv
      cases hw
      refine ⟨_, rfl, rfl, _, rfl, ?_⟩
      refine iteF ?_
      refine ⟨_, rfl, true, rfl, .inr ⟨trivial, _, rfl, iteF ?_⟩⟩
      refine ⟨_, rfl, false, rfl, .inr ⟨trivial, _, rfl, iteF ?_⟩⟩
      refine ⟨_, rfl, .int i, .int i, rfl, .int i, _, rfl, iteT ?_⟩
      refine ⟨_, rfl, .int i, .int i, rfl, .int i, _, rfl, iteT ?_⟩
      refine ⟨_, rfl, .int i, .int i, rfl, .int i, _, rfl, ?_⟩
      refine ⟨_, rfl, ?_⟩
      refine iteT ?_
      refine ⟨_, rfl, _, rfl, rfl, ?_⟩
      rw [decide_eq_true rfl]
      exact q H (Same.refl H)
    · cases hv
      cases hw
      refine ⟨_, rfl, rfl, _, rfl, ?_⟩
      refine iteF ?_
      refine ⟨_, rfl, true, rfl, .inr ⟨trivial, _, rfl, iteF ?_⟩⟩
      refine ⟨_, rfl, false, rfl, .inr ⟨trivial, _, rfl, iteF ?_⟩⟩
      refine ⟨_, rfl, .str z, .str z, rfl, .str z, _, rfl, iteF ?_⟩
      refine ⟨_, rfl, .str z, .str z, rfl, .str z, _, rfl, iteT ?_⟩
      refine ⟨_, rfl, .str z, .str z, rfl, .str z, _, rfl, iteT ?_⟩
      refine ⟨_, rfl, _, rfl, rfl, ?_⟩
      rw [decide_eq_true rfl]
      exact q H (Same.refl H)
    · cases hv with
      | @tup a xs _ hs ha =>
      cases hw with
      | @tup b ys _ ht hb =>
      refine ⟨_, rfl, rfl, _, rfl, ?_⟩
      refine iteF ?_
      refine ⟨_, rfl, true, rfl, .inr ⟨trivial, _, rfl, iteF ?_⟩⟩
      refine ⟨_, rfl, false, rfl, .inr ⟨trivial, _, rfl, iteF ?_⟩⟩
      refine ⟨_, rfl, .ref b, .tuple ds, rfl, .tup ht hb, _, rfl, iteF ?_⟩
      refine ⟨_, rfl, .ref b, .tuple ds, rfl, .tup ht hb, _, rfl, iteF ?_⟩
      have la := dps_len ha
      have lb := dps_len hb
      refine ⟨_, rfl, .ref b, .tuple ds, rfl, .tup ht hb, _, rfl, .ref a, .tuple ds, rfl, .tup hs ha, rfl, _, rfl, iteF ?_⟩
      refine ⟨_, rfl, .ref b, .tuple ds, rfl, .tup ht hb, _, rfl, .ref a, .tuple ds, rfl, .tup hs ha, rfl, _, rfl, iteF ?_⟩
      refine ⟨_, rfl, a, xs, rfl, .inr hs, _, rfl, b, ys, rfl, .inr ht, rfl, _, rfl, ?_⟩
      rw [show (!decide (V.int ((xs.length : Nat) : Int) = V.int ((ys.length : Nat) : Int))) = false by rw [la, lb, decide_eq_true rfl]; rfl]
      refine iteF ?_
      refine ⟨_, rfl, b, ys, rfl, .inr ht, _, rfl, by omega, by omega, fun D hD => ?_⟩
      rw [Int.toNat_natCast]
      refine lc_range (fun j H' => H' D = some (.lst (List.replicate j (V.bl true))) ∧ Same H H') ⟨upd_same, same_new hD _⟩ ?_ ?_
      · rintro j H1 hj ⟨hD1, s1⟩
        refine ⟨rfl, ?_⟩
        have ea : xs[j]? = some (xs[j]'(by omega)) := List.getElem?_eq_getElem (by omega)
        have eb : ys[j]? = some (ys[j]'(by omega)) := List.getElem?_eq_getElem (by omega)
        obtain ⟨d1, hd1, hp1⟩ := dps_get' ha ea
        obtain ⟨d2, hd2, hp2⟩ := dps_get' hb eb
        rw [hd1] at hd2
        cases hd2
        have i1 : atI xs (0 + (j : Int)) = some (xs[j]'(by omega)) := by
          rw [show (0 : Int) + (j : Int) = ((j : Nat) : Int) by omega]
          exact atI_nat ea
        have i2 : atI ys (0 + (j : Int)) = some (ys[j]'(by omega)) := by
          rw [show (0 : Int) + (j : Int) = ((j : Nat) : Int) by omega]
          exact atI_nat eb
        refine ⟨_, rfl, _, rfl, .inr (.inl ⟨a, xs, _, _, rfl, rfl, sqt_ext (same_ext s1) hs, i1, _, rfl, _, rfl, .inr (.inl ⟨b, ys, _, _, rfl, rfl, sqt_ext (same_ext s1) ht, i2, _, _, d1, rfl, dp_ext (same_ext s1) _ hp1, dp_ext (same_ext s1) _ hp2, hds d1 (List.mem_of_getElem? hd1), fun H2 s2 => ?_⟩)⟩)⟩
        refine ⟨_, s2 _ _ hD1, Nat.lt_of_le_of_lt (show _ ≤ 5000 by rw [List.length_replicate]; omega) (by decide), ?_, fun p o h => ?_⟩
        · rw [List.replicate_succ']
          exact upd_same
        · have : p ≠ D := fun z => by rw [z, hD] at h; cases h
          rw [upd_ne this]
          exact s2 _ _ (s1 _ _ h)
      · rintro H1 ⟨hD1, s1⟩
        refine ⟨D, List.replicate ys.length true, rfl, SqL.of (by rw [hD1, List.map_replicate]), ?_⟩
        rw [show (List.replicate ys.length true).all id = true by rw [List.all_eq_true]; intro z hz; rw [List.eq_of_mem_replicate hz]; rfl]
        exact q H1 s1
    · cases hv with
      | @lst a xs _ hs ha =>
      cases hw with
      | @lst b ys _ ht hb =>
      refine ⟨_, rfl, rfl, _, rfl, ?_⟩
      refine iteF ?_
      refine ⟨_, rfl, true, rfl, .inr ⟨trivial, _, rfl, iteF ?_⟩⟩
      refine ⟨_, rfl, false, rfl, .inr ⟨trivial, _, rfl, iteF ?_⟩⟩
      refine ⟨_, rfl, .ref b, .list ds, rfl, .lst ht hb, _, rfl, iteF ?_⟩
      refine ⟨_, rfl, .ref b, .list ds, rfl, .lst ht hb, _, rfl, iteF ?_⟩
      have la := dps_len ha
      have lb := dps_len hb
      refine ⟨_, rfl, .ref b, .list ds, rfl, .lst ht hb, _, rfl, .ref a, .list ds, rfl, .lst hs ha, rfl, _, rfl, iteF ?_⟩
      refine ⟨_, rfl, .ref b, .list ds, rfl, .lst ht hb, _, rfl, .ref a, .list ds, rfl, .lst hs ha, rfl, _, rfl, iteF ?_⟩
      refine ⟨_, rfl, a, xs, rfl, .inl hs, _, rfl, b, ys, rfl, .inl ht, rfl, _, rfl, ?_⟩
      rw [show (!decide (V.int ((xs.length : Nat) : Int) = V.int ((ys.length : Nat) : Int))) = false by rw [la, lb, decide_eq_true rfl]; rfl]
      refine iteF ?_
      refine ⟨_, rfl, b, ys, rfl, .inl ht, _, rfl, by omega, by omega, fun D hD => ?_⟩
      rw [Int.toNat_natCast]
      refine lc_range (fun j H' => H' D = some (.lst (List.replicate j (V.bl true))) ∧ Same H H') ⟨upd_same, same_new hD _⟩ ?_ ?_
      · rintro j H1 hj ⟨hD1, s1⟩
        refine ⟨rfl, ?_⟩
        have ea : xs[j]? = some (xs[j]'(by omega)) := List.getElem?_eq_getElem (by omega)
        have eb : ys[j]? = some (ys[j]'(by omega)) := List.getElem?_eq_getElem (by omega)
        obtain ⟨d1, hd1, hp1⟩ := dps_get' ha ea
        obtain ⟨d2, hd2, hp2⟩ := dps_get' hb eb
        rw [hd1] at hd2
        cases hd2
        have i1 : atI xs (0 + (j : Int)) = some (xs[j]'(by omega)) := by
          rw [show (0 : Int) + (j : Int) = ((j : Nat) : Int) by omega]
          exact atI_nat ea
        have i2 : atI ys (0 + (j : Int)) = some (ys[j]'(by omega)) := by
          rw [show (0 : Int) + (j : Int) = ((j : Nat) : Int) by omega]
          exact atI_nat eb
        refine ⟨_, rfl, _, rfl, .inl ⟨a, xs, _, _, rfl, rfl, sq_ext (same_ext s1) hs, i1, _, rfl, _, rfl, .inl ⟨b, ys, _, _, rfl, rfl, sq_ext (same_ext s1) ht, i2, _, _, d1, rfl, dp_ext (same_ext s1) _ hp1, dp_ext (same_ext s1) _ hp2, hds d1 (List.mem_of_getElem? hd1), fun H2 s2 => ?_⟩⟩⟩
        refine ⟨_, s2 _ _ hD1, Nat.lt_of_le_of_lt (show _ ≤ 5000 by rw [List.length_replicate]; omega) (by decide), ?_, fun p o h => ?_⟩
        · rw [List.replicate_succ']
          exact upd_same
        · have : p ≠ D := fun z => by rw [z, hD] at h; cases h
          rw [upd_ne this]
          exact s2 _ _ (s1 _ _ h)
      · rintro H1 ⟨hD1, s1⟩
        refine ⟨D, List.replicate ys.length true, rfl, SqL.of (by rw [hD1, List.map_replicate]), ?_⟩
        rw [show (List.replicate ys.length true).all id = true by rw [List.all_eq_true]; intro z hz; rw [List.eq_of_mem_replicate hz]; rfl]
        exact q H1 s1
theorem same_all {f : Addr} {fd : FuncData} (F : C8.Def K mg "_law_same" (topS 34) f fd) (b : Binds K fd ["found", "due"] []) (B : Bl K mg) : ∀ n : Nat, C8.Cal P w K mg base (n + 1) "_law_same" (spSameT K n) []
  | 0 => by
    refine C8.cal0 F b .nil sc__law_same ?len ?body
    case len => rintro vs H Q E ⟨_, _, _, _, _, _, sd, _⟩; exact sd.elim
    case body => rintro cdv A outer s H vs Q E hr ⟨_, _, _, _, _, _, sd, _⟩; exact sd.elim
  | n + 1 => ok_same F b B (same_all F b B n)
end
end K04


set_option Elab.async false
set_option linter.all false
set_option maxRecDepth 100000
set_option maxHeartbeats 8000000
namespace K04
open PySem PySem.Spec PyProof.Rows L2
section
variable {X : Cx} {CX : CXT} {k : Nat} {f : Addr} {fd : FuncData} {ps ks : List Str} {sp : Sp} {E : XK} {x : Str} {p pos : Pos} {kws : List Keyword} {tk : TA} {g : List Value → List Value → List Value} {gV : List V → List V → List V}
/-- f(k = v, ..): no argument by position -/
theorem pe_callK0 (F : FnOk X.prog X.w X.K X.mg X.base CX k f fd ps sp) (hr : Room k X.A) (hg : Gl X x) (hm : X.mg x = some (.ref f)) (hk : PySem.W.keepIn X.K (.ref f) = true) (hb : KBinds X.K fd ps ks g gV) (hx : Passes CX X E)
    (hkw : PK X kws tk) (hall : (backToKw pos (keywordEach kws X.env)).all (·.1.isSome) = true := by rfl) (hks : (backToKw pos (keywordEach kws X.env)).filterMap (·.1) = ks := by rfl)
    (hdb : (x == ("__debug__" : Str)) = false := by decide)
    (hpl : ((backTo pos (starEach [] X.env)).any (·.1) || (backToKw pos (keywordEach kws X.env)).any (·.1.isNone)) = false := by rfl) :
    PE X (.Call (.Name x p) [] kws pos) (tCallK sp gV E tNil tk) := by
  refine ⟨fun pins s σ H Q I h => ?_⟩
  refine wpAny_Call_Name_kw (ld_glob I hg hm ?_ hdb)
  refine PySem.W.callWith_KW0 (h₀ := X.base) I.ok.mod.kin hk hall ?_ hpl
  refine thn (hkw.run pos pins s σ H _ I h) fun ws s2 ⟨zs, H2, I2, rz, q2⟩ => ⟨I2.kIn, ?_⟩
  rw [hks]
  exact run_fnk (us := []) (vs := []) F hr hb hx I2 .nil rz q2
end
section
variable {P : Program} {w : World} {K : PySem.W.Frag} {mg : Str → Option Value} {base : Heap}
theorem tup_chk (L : List Str) (Ps : List (Str × List St)) : TupD (chkD L Ps) := by
  rcases chk_kind L Ps with e | ⟨x, y, e⟩ <;> rw [e]
  · trivial
  · exact ⟨trivial, trivial, trivial⟩
theorem tup_rz (L : List Str) (Ps : List (Str × List St)) : TupD (rzD L Ps) := by
  unfold rzD
  rcases chk_kind L Ps with e | ⟨x, y, e⟩ <;> rw [e]
  · trivial
  · exact ⟨trivial, ⟨trivial, trivial, trivial⟩, trivial⟩
theorem sd_chk (L : List Str) (Ps : List (Str × List St)) : Sd 3 (chkD L Ps) := by
  rcases chk_kind L Ps with e | ⟨x, y, e⟩ <;> rw [e]
  · exact .inl rfl
  · refine .inr (.inr (.inr (.inr (.inl ⟨_, rfl, by simp, fun d hd => ?_⟩))))
    simp only [List.mem_cons, List.not_mem_nil, or_false] at hd
    rcases hd with rfl | rfl <;> exact .inr (.inr (.inr (.inl ⟨_, rfl⟩)))
theorem sd_rz (L : List Str) (Ps : List (Str × List St)) : Sd 4 (rzD L Ps) := by
  unfold rzD
  rcases chk_kind L Ps with e | ⟨x, y, e⟩
  · rw [e]; exact .inl rfl
  · have h := sd_chk L Ps
    rw [e] at h ⊢
    refine .inr (.inr (.inr (.inr (.inl ⟨_, rfl, by simp, fun d hd => ?_⟩))))
    simp only [List.mem_cons, List.not_mem_nil, or_false] at hd
    rcases hd with rfl | rfl
    · exact .inr (.inr (.inr (.inl ⟨_, rfl⟩)))
    · exact h
theorem sd_list {k : Nat} {d : PyData} (h : Sd k d) (n : Nat) (hn : n ≤ 5000) : Sd (k + 1) (.list (List.replicate n d)) :=
  .inr (.inr (.inr (.inr (.inr ⟨_, rfl, by simpa using hn, fun e he => by rw [List.eq_of_mem_replicate he]; exact h⟩))))
theorem sc__law_plan_right : FnScope ["plan", "due", "copied", "raised"] ["plan"] (C8.fnScope (topS 46)) := C8.fnScope_by (by decide +kernel)
def spPR (K : PySem.W.Frag) (Ts : List Addr) : Sp := fun vs H Q _ => ∃ v L Ps AL BN, vs = [v] ∧ Dp K H v (progD L Ps) ∧ Prog L Ps AL BN ∧ Tbs Ts H ∧ ∀ H', Go Ts H H' → Q (.bl true) H'
theorem ok_plan_right {Ts : List Addr} {f : Addr} {fd : FuncData} (F : C8.Def K mg "_law_plan_right" (topS 46) f fd) (b : Binds K fd ["plan"] []) (B : Bl K mg) (c_due : C8.Cal P w K mg base 15 "_law_due_check" (spDue K) []) (c_same : C8.Cal P w K mg base 6 "_law_same" (spSameT K 5) []) (c_check : C8.Cal P w K mg base 17 "check" (spCheck K Ts) [])
    {fC : Addr} {fdC : FuncData} (FC : FnOk P w K mg base C8.CX0 17 fC fdC ["program"] (spCheck K Ts)) (mC : mg "check" = some (.ref fC)) (kC : PySem.W.keepIn K (.ref fC) = true) (kbC : KBinds K fdC ["program"] ["program"] (fun us ws => us ++ ws) (fun vs zs => vs ++ zs))
    (c_raised : C8.Cal P w K mg base 20 "_law_raised" (spRz K Ts) []) : UG.CalG P w K mg base 31 "_law_plan_right" (spPR K Ts) := by
  refine ⟨f, fd, "plan", UG.fnG F.fn sc__law_plan_right ?body, F.mgf, F.kp, b⟩
  rintro cdv A outer s H v Q gd hr ⟨v, L, Ps, AL, BN, e, hd, hP, hTb, q⟩
  cases e
  refine ⟨_, (pss_cons (ps_par (i := 1) (j := 2) rfl sc__law_plan_right.nd rfl rfl (by decide) rfl rfl (pa_cons (C8.pe_c c_due hr (by decide) rfl (pa_cons (pv 0) pa_nil)) (pa_cons (pe_callB (call_reprL gd (UG.room_un hr)) rfl B.repr (by decide +kernel) (pa_cons (pv 0) pa_nil)) pa_nil)) (by with_unfolding_all rfl))
    (pss_cons (ps_if (pt_not (pt_val (C8.pe_c c_same hr (by decide) rfl (pa_cons (pe_lst (pa_cons (C8.pe_c c_check hr (by decide) rfl (pa_cons (pv 0) pa_nil)) (pa_cons (pe_callK0 (E := C8.E0) FC (hr.mono (by decide)) rfl mC kC kbC C8.pass0 (pk_cons (pv 0) pk_nil)) (pa_cons (C8.pe_c c_check hr (by decide) rfl (pa_cons (pv 0) pa_nil)) pa_nil)))) (pa_cons (pe_lst (pa_cons (pv 1) (pa_cons (pv 1) (pa_cons (pv 1) pa_nil)))) pa_nil))))) (pss_one (ps_ret pe_bl)) pss_nil)
    (pss_cons (ps_set (i := 3) sc__law_plan_right.nd rfl (Or.inl rfl) (pe_ifExp (pt_cmpR op_isN (pv 1) pe_non (nomark _)) pe_non (pe_tup (pa_cons pe_str (pa_cons (pv 1) pa_nil)))))
    (pss_one (ps_ret (pe_and (C8.pe_c c_same hr (by decide) rfl (pa_cons (pe_lst (pa_cons (C8.pe_c c_raised hr (by decide) rfl (pa_cons (pv 0) (pa_cons pe_bl pa_nil))) (pa_cons (C8.pe_c c_raised hr (by decide) rfl (pa_cons (pv 0) (pa_cons pe_bl pa_nil))) pa_nil))) (pa_cons (pe_lst (pa_cons (pv 3) (pa_cons (pv 3) pa_nil))) pa_nil))) (pe_one (pe_cmpR op_eq (pe_callB (call_reprL gd (UG.room_un hr)) rfl B.repr (by decide +kernel) (pa_cons (pv 0) pa_nil)) (pv 2) (nomark _))))))))), ?_⟩
  obtain ⟨a, xs, rfl, _, _, _⟩ := len_ok hd
  have sh := sh_prog hP
  have tp := tup_prog L Ps
  have tc := tup_chk L Ps
  have tz := tup_rz L Ps
  refine ⟨_, rfl, .ref a, L, Ps, AL, BN, rfl, hd, hP, fun H1 due s1 hdue => ⟨_, rfl, a, _, rfl, (Tk.same s1).dp _ tp hd, sh.fa, sh.fb, by have := sh.fe; omega, sh.fits (by decide), ⟨_, _, rfl, ?_⟩⟩⟩
  have g1 := Go.of_same hTb s1
  have hd1 := (Tk.same s1).dp _ tp hd
  refine ⟨_, rfl, .ref a, L, Ps, AL, BN, rfl, hd1, hP, g1.1, fun H2 r1 g2 d2 => ?_⟩
  have k2 := Tk.go g1.1 g2
  have hd2 := k2.dp _ tp hd1
  refine ⟨_, rfl, .ref a, L, Ps, AL, BN, rfl, hd2, hP, g2.1, fun H3 r2 g3 d3 => ?_⟩
  have k3 := Tk.go g2.1 g3
  have hd3 := k3.dp _ tp hd2
  refine ⟨_, rfl, .ref a, L, Ps, AL, BN, rfl, hd3, hP, g3.1, fun H4 r3 g4 d4 => ?_⟩
  have k4 := Tk.go g3.1 g4
  have G4 := g1.trans (g2.trans (g3.trans g4))
  have k24 := k2.trans (k3.trans k4)
  have due4 := k24.dp _ tc hdue
  refine ⟨(by show 3 ≤ sizeLine; decide), fun l1 hl1 => ?_⟩
  have s5 := same_new hl1 (.lst [r1, r2, r3])
  have q5 : upd H4 l1 (.lst [r1, r2, r3]) l1 = some (.lst [r1, r2, r3]) := upd_same
  generalize upd H4 l1 (.lst [r1, r2, r3]) = H5 at s5 q5
  refine ⟨_, rfl, _, rfl, _, rfl, (by show 3 ≤ sizeLine; decide), fun l2 hl2 => ?_⟩
  have s6 := same_new hl2 (.lst [due, due, due])
  have q6 : upd H5 l2 (.lst [due, due, due]) l2 = some (.lst [due, due, due]) := upd_same
  generalize upd H5 l2 (.lst [due, due, due]) = H6 at s6 q6
  have t6 := Tk.same (s5.trans s6)
  have e1 := (t6.dp _ tc ((k3.trans k4).dp _ tc d2))
  have e2 := (t6.dp _ tc (k4.dp _ tc d3))
  have e3 := (t6.dp _ tc d4)
  have e4 := (t6.dp _ tc due4)
  refine ⟨.ref l1, .ref l2, .list (List.replicate 3 (chkD L Ps)), rfl, .lst (SqL.of (s6 _ _ q5)) (.cons e1 (.cons e2 (.cons e3 .nil))), .lst (SqL.of q6) (.cons e4 (.cons e4 (.cons e4 .nil))), Sd.le (by decide) (sd_list (sd_chk L Ps) 3 (by decide)), fun H7 s7 => ⟨_, rfl, iteF ?_⟩⟩
  have S47 := s5.trans (s6.trans s7)
  have G7 := G4.trans (Go.of_same G4.1 S47)
  have hd7 := (Tk.same S47).dp _ tp (k4.dp _ tp hd3)
  have due7 := (Tk.same s7).dp _ tc e4
  rcases chk_kind L Ps with ec | ⟨cx, cy, ec⟩
  · have ed : due = .non := by rw [ec] at due7; cases due7; rfl
    subst ed
    refine ⟨_, rfl, rfl, _, rfl, iteT ?_⟩
    have hz : Dp K H7 .non (rzD L Ps) := by unfold rzD; rw [ec]; exact .non
    have s8 := Same.refl H7
    refine nmI ?_
    have hd8 := (Tk.same s8).dp _ tp hd7
    have G8 := G7.trans (Go.of_same G7.1 s8)
    refine ⟨_, rfl, .ref a, false, L, Ps, AL, BN, rfl, hd8, hP, G8.1, fun x1 H9 g9 d9 => ?_⟩
    have k9 := Tk.go G8.1 g9
    refine ⟨_, rfl, .ref a, true, L, Ps, AL, BN, rfl, k9.dp _ tp hd8, hP, g9.1, fun x2 H10 g10 d10 => ?_⟩
    have k10 := Tk.go g9.1 g10
    have hd10 := k10.dp _ tp (k9.dp _ tp hd8)
    have z10 := (k9.trans k10).dp _ tz hz
    refine ⟨(by show 2 ≤ sizeLine; decide), fun m1 hm1 => ?_⟩
    have s11 := same_new hm1 (.lst [x1, x2])
    have q11 : upd H10 m1 (.lst [x1, x2]) m1 = some (.lst [x1, x2]) := upd_same
    generalize upd H10 m1 (.lst [x1, x2]) = H11 at s11 q11
    refine ⟨_, rfl, _, rfl, (by show 2 ≤ sizeLine; decide), fun m2 hm2 => ?_⟩
    have s12 := same_new hm2 (.lst [.non, .non])
    have q12 : upd H11 m2 (.lst [.non, .non]) m2 = some (.lst [.non, .non]) := upd_same
    generalize upd H11 m2 (.lst [.non, .non]) = H12 at s12 q12
    have t12 := Tk.same (s11.trans s12)
    have f1 := t12.dp _ tz (k10.dp _ tz d9)
    have f2 := t12.dp _ tz d10
    have f3 := t12.dp _ tz z10
    refine ⟨.ref m1, .ref m2, .list (List.replicate 2 (rzD L Ps)), rfl, .lst (SqL.of (s12 _ _ q11)) (.cons f1 (.cons f2 .nil)), .lst (SqL.of q12) (.cons f3 (.cons f3 .nil)), Sd.le (by decide) (sd_list (sd_rz L Ps) 2 (by decide)), fun H13 s13 => ⟨_, rfl, iteT ?_⟩⟩
    have S := s11.trans (s12.trans s13)
    refine ⟨_, rfl, a, _, rfl, (Tk.same S).dp _ tp hd10, sh.fa, sh.fb, by have := sh.fe; omega, sh.fits (by decide), _, rfl, rfl, ?_⟩
    rw [dec_str, decide_eq_true rfl]
    exact q _ (G8.trans (g9.trans (g10.trans (Go.of_same g10.1 S))))
  · obtain ⟨p, rfl, hp⟩ : ∃ p, due = .ref p ∧ Dp K H7 (.ref p) (chkD L Ps) := by
      have d := due7
      rw [ec] at d
      obtain ⟨p, _, rfl, _⟩ := len_ok d
      exact ⟨p, rfl, due7⟩
    refine ⟨_, rfl, rfl, _, rfl, iteF ⟨_, rfl, (by show 2 ≤ sizeLine; decide), fun pr hpr => ?_⟩⟩
    have s8 := same_new hpr (.tup [.str "not", .ref p])
    have hz : Dp K (upd H7 pr (.tup [.str "not", .ref p])) (.ref pr) (rzD L Ps) := by
      have d := (Tk.same s8).dp _ tc hp
      unfold rzD
      rw [ec] at d ⊢
      exact .tup (SqT.of upd_same) (.cons (.str _) (.cons d .nil))
    generalize upd H7 pr (.tup [.str "not", .ref p]) = H8 at s8 hz
    refine nmI ?_
    have hd8 := (Tk.same s8).dp _ tp hd7
    have G8 := G7.trans (Go.of_same G7.1 s8)
    refine ⟨_, rfl, .ref a, false, L, Ps, AL, BN, rfl, hd8, hP, G8.1, fun x1 H9 g9 d9 => ?_⟩
    have k9 := Tk.go G8.1 g9
    refine ⟨_, rfl, .ref a, true, L, Ps, AL, BN, rfl, k9.dp _ tp hd8, hP, g9.1, fun x2 H10 g10 d10 => ?_⟩
    have k10 := Tk.go g9.1 g10
    have hd10 := k10.dp _ tp (k9.dp _ tp hd8)
    have z10 := (k9.trans k10).dp _ tz hz
    refine ⟨(by show 2 ≤ sizeLine; decide), fun m1 hm1 => ?_⟩
    have s11 := same_new hm1 (.lst [x1, x2])
    have q11 : upd H10 m1 (.lst [x1, x2]) m1 = some (.lst [x1, x2]) := upd_same
    generalize upd H10 m1 (.lst [x1, x2]) = H11 at s11 q11
    refine ⟨_, rfl, _, rfl, (by show 2 ≤ sizeLine; decide), fun m2 hm2 => ?_⟩
    have s12 := same_new hm2 (.lst [.ref pr, .ref pr])
    have q12 : upd H11 m2 (.lst [.ref pr, .ref pr]) m2 = some (.lst [.ref pr, .ref pr]) := upd_same
    generalize upd H11 m2 (.lst [.ref pr, .ref pr]) = H12 at s12 q12
    have t12 := Tk.same (s11.trans s12)
    have f1 := t12.dp _ tz (k10.dp _ tz d9)
    have f2 := t12.dp _ tz d10
    have f3 := t12.dp _ tz z10
    refine ⟨.ref m1, .ref m2, .list (List.replicate 2 (rzD L Ps)), rfl, .lst (SqL.of (s12 _ _ q11)) (.cons f1 (.cons f2 .nil)), .lst (SqL.of q12) (.cons f3 (.cons f3 .nil)), Sd.le (by decide) (sd_list (sd_rz L Ps) 2 (by decide)), fun H13 s13 => ⟨_, rfl, iteT ?_⟩⟩
    have S := s11.trans (s12.trans s13)
    refine ⟨_, rfl, a, _, rfl, (Tk.same S).dp _ tp hd10, sh.fa, sh.fb, by have := sh.fe; omega, sh.fits (by decide), _, rfl, rfl, ?_⟩
    rw [dec_str, decide_eq_true rfl]
    exact q _ (G8.trans (g9.trans (g10.trans (Go.of_same g10.1 S))))
end
end K04


set_option Elab.async false
set_option linter.all false
set_option maxRecDepth 100000
set_option maxHeartbeats 8000000
namespace K04
open PySem PySem.Spec PyProof.Rows L2
section
variable {P : Program} {w : World} {K : PySem.W.Frag} {mg : Str → Option Value} {base : Heap}
theorem sc__law_shared : FnScope ["well", "names", "room", "name"] ["well"] (C8.fnScope (topS 47)) := C8.fnScope_by (by decide +kernel)
def spShared (K : PySem.W.Frag) : Sp := fun vs H Q _ => ∃ (w l : Addr) (c : Nat), vs = [.ref w] ∧ Wl H w l (c + CP) ∧ ∀ H' v L Ps, PD K H' v L Ps → Plan L Ps L L 0 → Wl H' w l c → Kp [w, l] H H' → Tk H H' → Q v H'
theorem ok__law_shared {f : Addr} {fd : FuncData} (F : C8.Def K mg "_law_shared" (topS 47) f fd) (b : Binds K fd ["well"] []) (B : Bl K mg) (c_draw : C8.Cal P w K mg base 1 "_law_draw" spDraw []) (c_names : C8.Cal P w K mg base 3 "_law_names" spNames9 []) (c_body : C8.Cal P w K mg base 19 "_law_body" (spDB9 K 8) []) : C8.Cal P w K mg base 20 "_law_shared" (spShared K) [] := by
  refine C8.cal0 F b .nil sc__law_shared ?len ?body
  case len => rintro vs H Q E ⟨w, l, c, rfl, _⟩; rfl
  case body =>
    rintro cdv A outer s H vs Q E hr ⟨w, l, c, rfl, hW, q⟩
    refine ⟨_, (pss_cons (ps_asg (pe_tup (pa_cons (C8.pe_c c_names hr (by decide) rfl (pa_cons (pv 0) (pa_cons (pe_op op_add pe_int (C8.pe_c c_draw hr (by decide) rfl (pa_cons (pv 0) (pa_cons pe_int pa_nil)))) pa_nil))) (pa_cons (pe_lst (pa_cons pe_int pa_nil)) pa_nil))) (pg_tup rfl (pgs_cons (pg_name (i := 1) sc__law_shared.nd rfl (Or.inr rfl)) (pgs_cons (pg_name (i := 2) sc__law_shared.nd rfl (Or.inr rfl)) pgs_nil))))
    (pss_one (ps_ret (pe_tup (pa_cons (pv 1) (pa_cons (pe_callTy call_tuple_of rfl B.tuple (by decide +kernel) (pa_cons (pe_lc (own := [("name", 3)]) (g := gName 3) (te := tTup (tCons (tVar 3) (tCons (tCall (spDB9 K 8) [] C8.E0 (tCons (tVar 0) (tCons (tC (.int 3)) (tCons (tTup (tCons (tVar 1) (tCons (tVar 1) tNil))) (tCons (tC (.bl false)) (tCons (tVar 2) tNil)))))) tNil))) (by rfl) sc__law_shared.nd (pi_tup (UG.pe_revT (pv 1))) (blkOk_by (own := [("name", 3)]) (N := ["well", "names", "room", "name"]) (sc := (C8.fnScope (topS 47))) (by decide +kernel)) (fun _ _ _ _ _ => pg_name (i := 3) sc__law_shared.nd rfl (Or.inl rfl)) (fun _ _ _ _ _ => pts_nil) (fun _ _ _ _ _ => by exact (pe_tup (pa_cons (pv 3) (pa_cons (C8.pe_c c_body hr (by decide) rfl (pa_cons (pv 0) (pa_cons pe_int (pa_cons (pe_tup (pa_cons (pv 1) (pa_cons (pv 1) pa_nil))) (pa_cons pe_bl (pa_cons (pv 2) pa_nil)))))) pa_nil))))) pa_nil)) pa_nil)))))), ?_⟩
    unfold CP at hW
    obtain ⟨X, hX⟩ : ∃ X, X = c + 8 * (1 + CB 8) := ⟨_, rfl⟩
    have hW1 : Wl H w l (X + 1300) := hW.le (by omega)
    refine ⟨_, rfl, ?_⟩
    refine ⟨_, rfl, w, l, X + 1299, 8, rfl, hW1.le (by omega), by decide, by decide, fun ra1 Hc1 ra01 ra11 hWc1 kc1 tc1 => ?_⟩
    refine ⟨_, _, rfl, rfl, w, l, X + 698, (1 + ra1).toNat, by rw [show (((1 + ra1).toNat : Nat) : Int) = 1 + ra1 by omega]; rfl, hWc1.le (by omega), by omega, fun H2 la L hL Ll Ln Ld hW2 kd1 td1 => ?_⟩
    have k3 : Kp [w, l] H H2 := kc1.trans kd1
    have t3 : Tk H H2 := tc1.trans td1
    refine ⟨(by show 1 ≤ sizeLine; decide), fun R hR => ?_⟩
    have sR := same_new hR (.lst [.int 40])
    refine ⟨(by show 2 ≤ sizeLine; decide), fun tp htp => ?_⟩
    have sT := same_new htp (.tup [.ref la, .ref R])
    have sA := sR.trans sT
    have nR := hW2.out hR
    have hRH : H R = none := k3.none nR hR
    refine ⟨tp, _, rfl, SqT.of upd_same, rfl, _, _, rfl, _, _, rfl, rfl, ?_⟩
    have hW6 : Wl (upd (upd H2 R (.lst [.int 40])) tp (.tup [.ref la, .ref R])) w l (c + (1 + CB 8) * (8 - 0)) := (hW2.same sA).le (by omega)
    have hL6 := hL.tk (Tk.same sA)
    have hR6 : upd (upd H2 R (.lst [.int 40])) tp (.tup [.ref la, .ref R]) R = some (.lst [.int ((40 : Nat) : Int)]) := sT _ _ upd_same
    have k6 := k3.trans (Kp.of_same sA)
    have t6 := t3.trans (Tk.same sA)
    generalize upd (upd H2 R (.lst [.int 40])) tp (.tup [.ref la, .ref R]) = H6 at hW6 hL6 hR6 k6 t6
    have hL8 : L.length ≤ 8 := by rw [Ll]; omega
    have hL1 : 1 ≤ L.length := by rw [Ll]; omega
    have hwl : w ∉ ([] : List Addr) := by simp
    refine ⟨_, rfl, _, rfl, la, _, rfl, hL6.sq, fun rv hrv => ?_⟩
    have sV := same_new hrv (.tup (L.map V.str).reverse)
    have hV7 : TupO (upd H6 rv (.tup (L.map V.str).reverse)) rv (L.map V.str).reverse ∨ True := .inr trivial
    have hrv7 : SqT K (upd H6 rv (.tup (L.map V.str).reverse)) rv (L.map V.str).reverse := SqT.of upd_same
    have hW7 := hW6.same sV
    have hL7 := hL6.tk (Tk.same sV)
    have hR7 := sV _ _ hR6
    have k7 := k6.trans (Kp.of_same sV)
    have t7 := t6.trans (Tk.same sV)
    clear hV7
    generalize upd H6 rv (.tup (L.map V.str).reverse) = H7 at sV hrv7 hW7 hL7 hR7 k7 t7
    refine ⟨rv, rfl, ⟨_, hrv7⟩, fun Dd hDd => ?_⟩
    have nD := hW7.out hDd
    have nDR : Dd ≠ R := fun z => by rw [← z, hDd] at hR7; cases hR7
    have hDH : H Dd = none := k7.none nD hDd
    have nD3 : Dd ∉ [w, l, R] := fun z => by
      rcases List.mem_cons.mp z with rfl | z
      · exact nD (by simp)
      · rcases List.mem_cons.mp z with rfl | z
        · exact nD (by simp)
        · exact nDR (List.mem_singleton.mp z)
    have sD := same_new hDd (.lst [])
    refine lc_tup (xs := (L.map V.str).reverse) (fun i H' => ∃ vs Ps m', Ps.map Prod.fst = L.reverse.take i ∧ H' Dd = some (.lst vs) ∧ DpAll K H' vs (Ps.map procD) ∧ (∀ x ∈ nsP Ps, (oks L L false x ∧ x.length ≤ 4 ∧ wms 4 7 x) ∧ ks x ≤ 8) ∧ nss (nsP Ps) + m' = 40 ∧ Wl H' w l (c + (1 + CB 8) * (8 - i)) ∧ H' R = some (.lst [.int (m' : Int)]) ∧ TupO H' la (L.map V.str) ∧ SqT K H' rv (L.map V.str).reverse ∧ Kp [w, l] H H' ∧ Tk H H') ⟨[], [], 40, by simp, upd_same, .nil, fun x hx => (List.not_mem_nil hx).elim, by simp [nsP, nss], hW7.same sD, sD _ _ hR7, hL7.tk (Tk.same sD), (Tk.same sD).sqt hrv7, k7.trans (Kp.of_same sD), t7.trans (Tk.same sD)⟩ ?_ ?_ ?_
    · rintro i H' _ ⟨_, _, _, _, _, _, _, _, _, _, _, h, _⟩
      exact h
    · rintro i x H8 hx ⟨vs, Ps, m', hfst, hv1, hv2, hoks, hns, hW8, hR8, hL8', hrv8, k8, t8⟩
      obtain ⟨nm, hnm, rfl⟩ : ∃ y, L.reverse[i]? = some y ∧ x = .str y := by
        rw [← List.map_reverse, List.getElem?_map] at hx
        cases e : L.reverse[i]? with
        | none => rw [e] at hx; cases hx
        | some s => rw [e] at hx; exact ⟨s, rfl, (Option.some.inj hx).symm⟩
      have hil := (List.getElem?_eq_some_iff.mp hnm).1
      rw [List.length_reverse] at hil
      have ec : (1 + CB 8) * (8 - i) = (1 + CB 8) * (8 - (i + 1)) + (1 + CB 8) := by
        rw [show 8 - i = (8 - (i + 1)) + 1 by omega]
        exact Nat.mul_succ _ _
      refine ⟨rfl, ?_⟩
      refine ⟨_, rfl, _, rfl, _, rfl, _, rfl, (by show 2 ≤ sizeLine; decide), fun hd hhd => ?_⟩
      have sp := same_new hhd (.tup [.ref la, .ref la])
      have kp8 := k8.trans (Kp.of_same sp)
      have tp8 := t8.trans (Tk.same sp)
      have Da : Drw9 K (upd H8 hd (.tup [.ref la, .ref la])) w l R hd la la L L m' (c + (1 + CB 8) * (8 - (i + 1)) + CB 8) := ⟨(hW8.same sp).le (by omega), sp _ _ hR8, SqT.of upd_same, hL8'.tk (Tk.same sp), hL8'.tk (Tk.same sp), nR⟩
      have hv1p := sp _ _ hv1
      have hv2p := (Tk.same sp).dps _ (tup_procs Ps) hv2
      have hrvp := (Tk.same sp).sqt hrv8
      generalize upd H8 hd (.tup [.ref la, .ref la]) = H9 at Da kp8 tp8 hv1p hv2p hrvp
      refine ⟨_, rfl, w, l, hd, la, la, R, 3, false, L, L, m', c + (1 + CB 8) * (8 - (i + 1)), rfl, Da, by omega, by omega, hL1, by omega, hL1, by omega, fun Hb v b m9 hv hvo hvn hvk hvl9 hvw hcb hrb kb tb => ?_⟩
      refine ⟨(by show 2 ≤ sizeLine; decide), fun z hz => ?_⟩
      have sz := same_new hz (.tup [.str nm, v])
      have Db := (Da.keep hcb hrb tb).same sz
      have hvb := sz _ _ (kb _ _ nD3 hv1p)
      have tAll := tb.trans (Tk.same sz)
      have hfl : Ps.length = i := by
        have := congrArg List.length hfst
        rw [List.length_map, List.length_take, List.length_reverse] at this
        omega
      have hvl := dps_len hv2
      rw [List.length_map] at hvl
      have tD := Tk.put hvb (.lst (vs ++ [.ref z]))
      have kab : Kp [w, l] H Hb := fun qq o n e => by
        have e2 := kp8 _ _ n e
        refine kb _ _ (fun h => ?_) e2
        rcases List.mem_cons.mp h with rfl | h
        · exact n (by simp)
        · rcases List.mem_cons.mp h with rfl | h
          · exact n (by simp)
          · rw [List.mem_singleton.mp h, hRH] at e; cases e
      have Dz := Db.keep (Db.wl.upd nD) (by rw [upd_ne (Ne.symm nDR)]; exact Db.room) tD
      refine ⟨vs, hvb, Nat.lt_of_le_of_lt (show vs.length ≤ 8 by omega) (by decide), vs ++ [.ref z], Ps ++ [(nm, b)], m9, ?_, upd_same, ?_, ?_, ?_, Dz.wl, Dz.room, Dz.hl, (tAll.trans tD).sqt hrvp, kp_new (kab.trans (Kp.of_same sz)) hDH, (tp8.trans tAll).trans tD⟩
      · rw [List.map_append, hfst, List.take_succ, hnm]
        rfl
      · rw [List.map_append]
        refine dps_app ((tAll.trans tD).dps _ (tup_procs Ps) hv2p) (.cons ?_ .nil)
        exact .tup (tD.sqt (SqT.of upd_same)) (.cons (.str _) (.cons (((Tk.same sz).trans tD).dp (.tuple (ds b)) (tup_ds b) hv) .nil))
      · intro x hx
        unfold nsP at hx
        rw [List.map_append] at hx
        rcases List.mem_append.mp hx with h | h
        · exact hoks x h
        · cases List.mem_singleton.mp h
          exact ⟨⟨hvo, hvl9, wms_le (Nat.le_refl _) _ (by omega) hvw⟩, (show ks b ≤ 8 by omega)⟩
      · unfold nsP at hns ⊢
        rw [List.map_append, nss_app]
        simp [nss]
        omega
    · rintro H8 ⟨vs, Ps, m', hfst, hv1, hv2, hoks, hns, hW8, hR8, hL8', hrv8, k8, t8⟩
      rw [List.length_reverse, List.length_map, ← List.length_reverse, List.take_length] at hfst
      refine ⟨Dd, _, rfl, .inl ⟨SqL.of hv1, fun pt hpt => ?_⟩⟩
      have s9 := same_new hpt (.tup vs)
      refine ⟨(by show 2 ≤ sizeLine; decide), fun ra hra => ?_⟩
      have sa := same_new hra (.tup [.ref la, .ref pt])
      have sAll := s9.trans sa
      have hlen : Ps.length = L.length := by rw [← List.length_map (f := Prod.fst), hfst, List.length_reverse]
      have PG : Plan L Ps L L 0 := ⟨by omega, by omega, by omega, by omega, Ln, Ln, fun _ h => h, fun x h => by rw [hfst] at h; exact List.mem_reverse.mp h, fun b hb => (hoks b hb).1.1, fun b hb => (hoks b hb).1.2, by omega, by omega, by omega⟩
      refine q _ _ L Ps (PD.make (SqT.of upd_same) (tupo_sq (hL8'.tk (Tk.same sAll))) (.tup (SqT.of (sa _ _ upd_same)) ((Tk.same sAll).dps _ (tup_procs Ps) hv2))) PG ((hW8.le (by omega)).same sAll) (k8.trans (Kp.of_same sAll)) (t8.trans (Tk.same sAll))
end
end K04


set_option Elab.async false
set_option linter.all false
set_option maxRecDepth 100000
set_option maxHeartbeats 8000000
namespace K04
open PySem PySem.Spec PyProof.Rows L2
theorem wl_go {Ts : List Addr} {H H' : Hp} {w l m : Nat} (h : Wl H w l m) (t : Tbs Ts H) (g : Go Ts H H') : Wl H' w l m := by
  obtain ⟨ns, a, n, h1, h2, _⟩ := id h
  refine h.kp g.2 (fun z => ?_) fun z => ?_
  · obtain ⟨ps, h3, _⟩ := t _ z
    rw [h1] at h3; cases h3
  · obtain ⟨ps, h3, _⟩ := t _ z
    rw [h2] at h3; cases h3
theorem tbs_wl {Ts : List Addr} {H H' : Hp} {w l m : Nat} (t : Tbs Ts H) (h : Wl H w l m) (k : Kp [w, l] H H') : Tbs Ts H' := fun T hT => by
  obtain ⟨ns, a, n, h1, h2, _⟩ := id h
  obtain ⟨ps, h3, h4⟩ := t T hT
  refine ⟨ps, k _ _ (fun z => ?_) h3, h4⟩
  rcases List.mem_cons.mp z with z | z
  · rw [z, h1] at h3; cases h3
  · rw [List.mem_singleton.mp z, h2] at h3; cases h3
theorem all_rep (n : Nat) : (List.replicate n true).all id = true := by
  rw [List.all_eq_true]
  intro x hx
  rw [List.eq_of_mem_replicate hx]
  rfl
theorem dps_rev {K : PySem.W.Frag} {H : Hp} : ∀ {vs : List V} {ds : List PyData}, DpAll K H vs ds → DpAll K H vs.reverse ds.reverse
  | _, _, .nil => .nil
  | _, _, .cons h r => by
    rw [List.reverse_cons, List.reverse_cons]
    exact dps_app (dps_rev r) (.cons h .nil)
theorem nss_rev : ∀ l : List (List St), nss l.reverse = nss l
  | [] => rfl
  | b :: r => by
    rw [List.reverse_cons, nss_app, nss_rev r]
    simp [nss]
    omega
/-- what the law asks of a program: it is right by its form -/
def Good (K : PySem.W.Frag) (H : Hp) (y : V) : Prop := ∃ L P A B, PD K H y L P ∧ Prog L P A B
theorem Good.tk {K : PySem.W.Frag} {H H' : Hp} {y : V} (h : Good K H y) (t : Tk H H') : Good K H' y := let ⟨L, P, A, B, h1, h2⟩ := h; ⟨L, P, A, B, h1.tk t, h2⟩
def Goods (K : PySem.W.Frag) (H : Hp) (vs : List V) : Prop := ∀ y ∈ vs, Good K H y
theorem Goods.tk {K : PySem.W.Frag} {H H' : Hp} {vs : List V} (h : Goods K H vs) (t : Tk H H') : Goods K H' vs := fun y hy => (h y hy).tk t
theorem goods_nil {K : PySem.W.Frag} {H : Hp} : Goods K H [] := fun y h => by cases h
theorem Goods.cons {K : PySem.W.Frag} {H : Hp} {y : V} {vs : List V} (h : Good K H y) (r : Goods K H vs) : Goods K H (y :: vs) := fun z hz => by
  rcases List.mem_cons.mp hz with e | e
  · rw [e]; exact h
  · exact r z e
theorem Goods.app {K : PySem.W.Frag} {H : Hp} {vs ws : List V} (h : Goods K H vs) (r : Goods K H ws) : Goods K H (vs ++ ws) := fun z hz => (List.mem_append.mp hz).elim (h z) (r z)
theorem nok_app {A B : List Str} (a : Nok A) (b : Nok B) : Nok (A ++ B) := fun x h => (List.mem_append.mp h).elim (a x) (b x)
theorem nok_one {x : Str} (h : nameB x = true) : Nok [x] := fun y hy => by rw [List.mem_singleton.mp hy]; exact h
theorem zz_ok : nameB "zz" = true := by decide +kernel
/-- other letters -/
theorem Prog.letters {L L' A A' B : List Str} {P : List (Str × List St)} (h : Prog L P A B) (l1 : 1 ≤ L'.length) (l2 : L'.length ≤ 20) (ok' : Nok A') (sub : ∀ x ∈ A, x ∈ A') (i : ∀ x ∈ L', x ∈ A') : Prog L' P A' B :=
  { h with l1 := l1, l2 := l2, okA := ok', inA := i, ok := fun b hb => oks_mono sub (fun _ h => h) false b false (h.ok b hb) }
theorem Plan.rev {L A B : List Str} {P : List (Str × List St)} (h : Plan L P A B 0) : Plan L P.reverse A B 0 := by
  have e : nsP P.reverse = (nsP P).reverse := by unfold nsP; rw [List.map_reverse]
  refine { h with p1 := by rw [List.length_reverse]; exact h.p1, p2 := by rw [List.length_reverse]; exact h.p2, inB := fun x hx => h.inB x (by rw [List.map_reverse] at hx; exact List.mem_reverse.mp hx), ok := fun b hb => h.ok b (by rw [e] at hb; exact List.mem_reverse.mp hb), wm := fun b hb => h.wm b (by rw [e] at hb; exact List.mem_reverse.mp hb), n := ?_ }
  rw [e, nss_rev]
  exact h.n
theorem Plan.last {L A B : List Str} {P : List (Str × List St)} {x : Str} (hx : nameB x = true) (h : Plan L P A B 0) : Plan L (P.drop 1 ++ [(x, [])]) A (B ++ [x]) 1 := by
  have hp1 := h.p1
  have hp2 := h.p2
  have e : nsP (P.drop 1 ++ [(x, [])]) = (nsP P).drop 1 ++ [[]] := by unfold nsP; rw [List.map_append, List.map_drop]; rfl
  have hin : ∀ b ∈ nsP (P.drop 1 ++ [(x, [])]), b ∈ nsP P ∨ b = [] := fun b hb => by
    rw [e] at hb
    rcases List.mem_append.mp hb with z | z
    · exact .inl (List.mem_of_mem_drop z)
    · exact .inr (List.mem_singleton.mp z)
  refine ⟨h.l1, h.l2, by rw [List.length_append]; simp, by rw [List.length_append, List.length_drop]; simp; omega, h.okA, nok_app h.okB (nok_one hx), h.inA, ?_, ?_, ?_, ?_, by have := h.lenA; omega, by have := h.lenB; rw [List.length_append]; simp; omega⟩
  · intro y hy
    rw [List.map_append] at hy
    rcases List.mem_append.mp hy with z | z
    · rw [List.map_drop] at z
      exact List.mem_append_left _ (h.inB y (List.mem_of_mem_drop z))
    · exact List.mem_append_right _ z
  · intro b hb
    rcases hin b hb with z | z
    · exact oks_mono (fun _ h => h) (fun _ h => List.mem_append_left _ h) false b false (h.ok b z)
    · rw [z]; trivial
  · intro b hb
    rcases hin b hb with z | z
    · exact ⟨Nat.le_trans (h.wm b z).1 (by omega), wms_le (by omega) _ (by omega) (h.wm b z).2⟩
    · rw [z]; exact ⟨Nat.zero_le _, trivial⟩
  · rw [e, nss_app]
    have hd : nss ((nsP P).drop 1) ≤ nss (nsP P) := by
      cases nsP P with
      | nil => exact Nat.le_refl _
      | cons b r => show nss r ≤ _; rw [nss]; omega
    have := h.n
    simp only [nss, ns]
    omega
section
variable {P : Program} {w : World} {K : PySem.W.Frag} {mg : Str → Option Value} {base : Heap}
theorem sc_law : FnScope ["script", "well", "turn", "plan", "plans", "shared", "k", "spoilt", "some"] ["script"] (C8.fnScope (topS 48)) := C8.fnScope_by (by decide +kernel)
theorem one_pr {Ts : List Addr} : ∀ vs H Q, spPR K Ts vs H Q C8.E0 → vs.length = 1 := by
  rintro vs H Q ⟨v, L, Ps, AL, BN, rfl, _⟩
  rfl
def XX : Nat := 2 * CP + 10000
def spLaw (K : PySem.W.Frag) (Ts : List Addr) : Sp := fun vs H Q _ => ∃ (x : Addr) (ns : List Int), vs = [.ref x] ∧ ns.length ≤ 1000 ∧ SqL K H x (ns.map V.int) ∧ Tbs Ts H ∧ ∀ H', Q (.bl true) H'
theorem ok_law {f : Addr} {fd : FuncData} (F : C8.Fun K "law" "law" (topS 48) f fd) (B : Bl K mg) {Ts : List Addr} (c_well : C8.Cal P w K mg base 1 "_law_well" (spWell K) []) (c_plan : C8.Cal P w K mg base 20 "_law_plan" (spPlan K) []) (c_sp : C8.Cal P w K mg base 26 "_law_spoilt" (spSpoil K) []) (c_sh : C8.Cal P w K mg base 20 "_law_shared" (spShared K) []) (c_pr : UG.CalG P w K mg base 31 "_law_plan_right" (spPR K Ts)) : UG.FnG P w K mg base 36 f fd "script" (spLaw K Ts) := by
  refine UG.fnG (k := 35) F sc_law ?body
  rintro cdv A outer s H v0 Q gd hr ⟨x, ns, e, hln, hx, hT, q⟩
  cases e
  refine ⟨_, (pss_cons (ps_set (i := 1) sc_law.nd rfl (Or.inl rfl) (C8.pe_c c_well hr (by decide) rfl (pa_cons (pv 0) pa_nil)))
    (pss_cons (ps_for PassesOwn.never rfl (pi_range1 rfl B.range (pa_cons pe_int pa_nil)) (pg_name (i := 2) sc_law.nd rfl (Or.inl rfl))
    (pss_cons (ps_set (i := 3) sc_law.nd rfl (Or.inl rfl) (C8.pe_c c_plan hr (by decide) rfl (pa_cons (pv 1) (pa_cons (pe_ix ix_list (pe_lst (pa_cons pe_int (pa_cons pe_int (pa_cons pe_int (pa_cons pe_int pa_nil))))) (pv 2) (fun _ _ => rfl)) pa_nil))))
    (pss_cons (ps_set (i := 4) sc_law.nd rfl (Or.inl rfl) (pe_lst (pa_cons (pv 3) (pa_cons (pe_tup (pa_cons (pe_op op_catA (pe_slice sl_tupA (pe_ix ix_tup (pe_ix ix_tup (pv 3) pe_int (fun _ _ => rfl)) pe_int (fun _ _ => rfl)) po_none (po_some pe_int)) (pe_slice sl_tupA (pe_ix ix_tup (pv 3) pe_int (fun _ _ => rfl)) (po_some pe_int) po_none)) (pa_cons (pe_ix ix_tup (pv 3) pe_int (fun _ _ => rfl)) pa_nil))) (pa_cons (pe_tup (pa_cons (pe_ix ix_tup (pv 3) pe_int (fun _ _ => rfl)) (pa_cons (UG.pe_revT (pe_ix ix_tup (pv 3) pe_int (fun _ _ => rfl))) pa_nil))) pa_nil)))))
    (pss_cons (ps_set (i := 4) sc_law.nd rfl (Or.inl rfl) (pe_op op_cat (pv 4) (pe_lst (pa_cons (pe_tup (pa_cons (pe_op op_catA (pe_slice sl_tupA (pe_ix ix_tup (pv 3) pe_int (fun _ _ => rfl)) (po_some pe_int) po_none) (pe_tup (pa_cons pe_str pa_nil))) (pa_cons (pe_ix ix_tup (pv 3) pe_int (fun _ _ => rfl)) pa_nil))) (pa_cons (pe_tup (pa_cons (pe_ix ix_tup (pv 3) pe_int (fun _ _ => rfl)) (pa_cons (pe_op op_catA (pe_slice sl_tupA (pe_ix ix_tup (pv 3) pe_int (fun _ _ => rfl)) (po_some pe_int) po_none) (pe_tup (pa_cons (pe_tup (pa_cons pe_str (pa_cons (pe_tup pa_nil) pa_nil))) pa_nil))) pa_nil))) pa_nil)))))
    (pss_cons (ps_set (i := 5) sc_law.nd rfl (Or.inl rfl) (C8.pe_c c_sh hr (by decide) rfl (pa_cons (pv 1) pa_nil)))
    (pss_cons (ps_set (i := 4) sc_law.nd rfl (Or.inl rfl) (pe_op op_cat (pv 4) (pe_lst (pa_cons (pv 5) (pa_cons (C8.pe_c c_sp hr (by decide) rfl (pa_cons (pv 1) (pa_cons (pv 5) pa_nil))) pa_nil)))))
    (pss_cons (ps_for PassesOwn.never rfl (pi_range1 rfl B.range (pa_cons pe_int pa_nil)) (pg_name (i := 6) sc_law.nd rfl (Or.inl rfl))
    (pss_cons (ps_set (i := 7) sc_law.nd rfl (Or.inl rfl) (C8.pe_c c_sp hr (by decide) rfl (pa_cons (pv 1) (pa_cons (pv 3) pa_nil))))
    (pss_one (ps_set (i := 4) sc_law.nd rfl (Or.inl rfl) (pe_op op_cat (pv 4) (pe_lst (pa_cons (pv 7) (pa_cons (C8.pe_c c_sp hr (by decide) rfl (pa_cons (pv 1) (pa_cons (pv 7) pa_nil))) pa_nil))))))))
    (pss_one (ps_if (pt_not (pt_val (pe_callB (cr_all rfl) rfl B.all (by decide +kernel) (pa_cons (pe_lc (own := [("some", 8)]) (g := gName 8) (by rfl) sc_law.nd (pi_list (pv 4)) (blkOk_by (own := [("some", 8)]) (N := ["script", "well", "turn", "plan", "plans", "shared", "k", "spoilt", "some"]) (sc := (C8.fnScope (topS 48))) (by decide +kernel)) (fun _ _ _ _ _ => pg_name (i := 8) sc_law.nd rfl (Or.inl rfl)) (fun _ _ _ _ _ => pts_nil) (fun _ _ _ _ _ => (UG.pe_cG c_pr gd hr (by decide) rfl (pv 8) one_pr))) pa_nil)))) (pss_one (ps_ret pe_bl)) pss_nil)))))))))
    (pss_one (ps_ret pe_bl)))), ?_⟩
  refine ⟨_, rfl, x, ns, rfl, hx, hln, fun H1 w l s1 hw0 hl0 hW1 => ?_⟩
  have hT1 := hT.same s1
  refine ⟨4, rfl, by decide, by decide, ?_⟩
  refine for_range (lo := 0) (n := 4) (fun i σ H' => (∃ b2 b3 b4 b5 b6 b7 b8, σ = [some (.ref x), some (.ref w), b2, b3, b4, b5, b6, b7, b8]) ∧ Wl H' w l ((4 - i) * XX) ∧ Tbs Ts H') ⟨⟨_, _, _, _, _, _, _, rfl⟩, hW1.le (by unfold XX CP; decide +kernel), hT1⟩ ?_ ?_
  · rintro i _ H2 hi ⟨⟨b2, b3, b4, b5, b6, b7, b8, rfl⟩, hW2, hT2⟩
    have hc : (4 - i) * XX = (4 - (i + 1)) * XX + XX := by
      rw [show 4 - i = (4 - (i + 1)) + 1 by omega]
      exact Nat.succ_mul _ _
    generalize hc0 : (4 - (i + 1)) * XX = c0 at hc
    rw [hc] at hW2
    unfold XX at hW2
    obtain ⟨size, hsz, hat⟩ : ∃ size : Nat, size ≤ 190 ∧ atI (([8, 30, 60, 190] : List Int).map V.int) ((0 : Int) + (i : Nat)) = some (.int (size : Int)) := by
      have : i = 0 ∨ i = 1 ∨ i = 2 ∨ i = 3 := by omega
      rcases this with rfl | rfl | rfl | rfl
      · exact ⟨8, by decide, rfl⟩
      · exact ⟨30, by decide, rfl⟩
      · exact ⟨60, by decide, rfl⟩
      · exact ⟨190, by decide, rfl⟩
    refine nmI ?_
    refine ⟨_, rfl, (by show 4 ≤ sizeLine; decide), fun dl hdl => ⟨_, rfl, dl, ([8, 30, 60, 190] : List Int).map V.int, _, .int (size : Int), rfl, rfl, SqL.of upd_same, hat, ?_⟩⟩
    have sd := same_new hdl (.lst [.int 8, .int 30, .int 60, .int 190])
    refine ⟨w, l, c0 + CP + 10000, size, rfl, (hW2.same sd).le (by omega), hsz, fun H3 v L Ps hpd hP hW3 k3 t3 => ?_⟩
    have hT3 := tbs_wl (hT2.same sd) (hW2.same sd) k3
    clear hdl sd k3 t3 hW2 hT2 hat
    refine nmI ?_
    have hP0 := hP.prog (by decide)
    obtain ⟨p0, Pr, rfl⟩ : ∃ p0 Pr, Ps = p0 :: Pr := by
      cases Ps with
      | nil => exact absurd hP.p1 (by simp)
      | cons a b => exact ⟨_, _, rfl⟩
    obtain ⟨l0, Lr, rfl⟩ : ∃ l0 Lr, L = l0 :: Lr := by
      cases L with
      | nil => exact absurd hP.l1 (by simp)
      | cons a b => exact ⟨_, _, rfl⟩
    have hL20 := hP.l2
    have hP8 := hP.p2
    rw [List.length_cons] at hL20 hP8
    have tL := tup_strs (l0 :: Lr)
    have tP := tup_procs (p0 :: Pr)
    have hpdD : Dp K H3 v (progD (l0 :: Lr) (p0 :: Pr)) := hpd
    obtain ⟨pa, pxs, rfl, hpa, hda, _⟩ := len_ok hpdD
    cases hda with
    | @cons vL _ _ _ hvL hda =>
    cases hda with
    | @cons vP _ _ _ hvP hda =>
    cases hda
    obtain ⟨ppa, ppx, rfl, hpp, hpda, _⟩ := len_ok hvP
    have hpda0 := hpda
    cases hpda with
    | @cons x0 xr _ _ hx0 hpda =>
    -- the first three
    refine ⟨_, rfl, ?_⟩
    refine ⟨_, rfl, _, _, _, _, rfl, rfl, hpa, at1 _ _ _, ppa, _, _, _, rfl, rfl, hpp, at0 _ _, 1, rfl, ?_⟩
    refine slTo (i := 1) (d := [.str p0.1, .tuple (ds p0.2)]) hx0 (tup_proc p0) (by simp) fun v1 H4 s4 hv1 => ?_
    refine ⟨_, rfl, _, _, _, _, rfl, rfl, (Tk.same s4).sqt hpa, at0 _ _, 1, rfl, ?_⟩
    dsimp only [tNoPart]
    refine slFrom (i := 1) ((Tk.same s4).dp (.tuple ((l0 :: Lr).map PyData.str)) tL hvL) tL (by simp) fun v2 H5 s5 hv2 => ?_
    refine catA_dp (d1 := [.str p0.1]) (d2 := Lr.map PyData.str) ((Tk.same s5).dp (.tuple [.str p0.1]) ⟨trivial, trivial⟩ hv1) hv2 (by rw [List.length_map]; simp; omega) ⟨trivial, trivial⟩ (tup_strs Lr) fun v3 H6 s6 hv3 => ?_
    have S36 := s4.trans (s5.trans s6)
    refine ⟨_, rfl, _, _, _, _, rfl, rfl, (Tk.same S36).sqt hpa, at1 _ _ _, (by show 2 ≤ sizeLine; decide), fun e2 he2 => ?_⟩
    have s7 := same_new he2 (.tup [v3, .ref ppa])
    have S37 := S36.trans s7
    have good2 : Good K (upd H6 e2 (.tup [v3, .ref ppa])) (.ref e2) := ⟨p0.1 :: Lr, p0 :: Pr, (p0 :: Pr).map Prod.fst ++ (l0 :: Lr), _, .tup (SqT.of upd_same) (.cons ((Tk.same s7).dp (.tuple ((p0.1 :: Lr).map PyData.str)) (tup_strs _) hv3) (.cons ((Tk.same S37).dp (.tuple ((p0 :: Pr).map procD)) tP hvP) .nil)), hP0.letters (by simp) (by rw [List.length_cons]; omega) (nok_app hP0.okB hP0.okA) (fun y hy => List.mem_append_right _ hy) (fun y hy => by
      rcases List.mem_cons.mp hy with z | z
      · rw [z]; simp
      · exact List.mem_append_right _ (List.mem_cons_of_mem _ z))⟩
    generalize upd H6 e2 (.tup [v3, .ref ppa]) = H7 at s7 S37 good2
    refine ⟨_, rfl, _, _, _, _, rfl, rfl, (Tk.same S37).sqt hpa, at0 _ _, _, rfl, _, _, _, _, rfl, rfl, (Tk.same S37).sqt hpa, at1 _ _ _, ppa, _, rfl, (Tk.same S37).sqt hpp, fun rp hrp => ?_⟩
    have s8 := same_new hrp (.tup (x0 :: xr).reverse)
    have S38 := S37.trans s8
    have drp : Dp K (upd H7 rp (.tup (x0 :: xr).reverse)) (.ref rp) (.tuple ((p0 :: Pr).reverse.map procD)) := by
      rw [List.map_reverse]
      exact .tup (SqT.of upd_same) (dps_rev ((Tk.same S38).dps _ tP hpda0))
    generalize upd H7 rp (.tup (x0 :: xr).reverse) = H8 at s8 S38 drp
    refine ⟨(by show 2 ≤ sizeLine; decide), fun e3 he3 => ?_⟩
    have s9 := same_new he3 (.tup [vL, .ref rp])
    have S39 := S38.trans s9
    have good3 : Good K (upd H8 e3 (.tup [vL, .ref rp])) (.ref e3) := ⟨l0 :: Lr, (p0 :: Pr).reverse, _, _, .tup (SqT.of upd_same) (.cons ((Tk.same S39).dp (.tuple ((l0 :: Lr).map PyData.str)) tL hvL) (.cons ((Tk.same s9).dp (.tuple ((p0 :: Pr).reverse.map procD)) (tup_procs _) drp) .nil)), hP.rev.prog (by decide)⟩
    generalize upd H8 e3 (.tup [vL, .ref rp]) = H9 at s9 S39 good3
    refine ⟨(by show 3 ≤ sizeLine; decide), fun D hD => ?_⟩
    have s10 := same_new hD (.lst [.ref pa, .ref e2, .ref e3])
    have S310 := S39.trans s10
    have nD3 : H3 D = none := by
      cases e : H3 D with
      | none => rfl
      | some o => rw [S39 _ _ e] at hD; cases hD
    have hDv : upd H9 D (.lst [.ref pa, .ref e2, .ref e3]) D = some (.lst [.ref pa, .ref e2, .ref e3]) := upd_same
    have G10 : Goods K (upd H9 D (.lst [.ref pa, .ref e2, .ref e3])) [.ref pa, .ref e2, .ref e3] :=
      Goods.cons ⟨_, _, _, _, hpd.tk (Tk.same S310), hP0⟩ (Goods.cons (good2.tk (Tk.same (s8.trans (s9.trans s10)))) (Goods.cons (good3.tk (Tk.same s10)) goods_nil))
    generalize upd H9 D (.lst [.ref pa, .ref e2, .ref e3]) = H10 at s10 S310 hDv G10
    generalize hvs : [V.ref pa, V.ref e2, V.ref e3] = vs3 at hDv G10
    have hvs3 : vs3.length = 3 := by rw [← hvs]; rfl
    refine nmI ?_
    -- two more
    have hpa10 := (Tk.same S310).sqt hpa
    have hvL10 := (Tk.same S310).dp (.tuple ((l0 :: Lr).map PyData.str)) tL hvL
    have hvP10 := (Tk.same S310).dp (.tuple ((p0 :: Pr).map procD)) tP hvP
    refine ⟨_, rfl, _, rfl, _, _, _, _, rfl, rfl, hpa10, at0 _ _, 1, rfl, ?_⟩
    dsimp only [tNoPart]
    refine slFrom (i := 1) hvL10 tL (by simp) fun v4 H11 s11 hv4 => ?_
    refine ⟨(by show 1 ≤ sizeLine; decide), fun z1 hz1 => ?_⟩
    have s12 := same_new hz1 (.tup [.str "zz"])
    have dz1 : Dp K (upd H11 z1 (.tup [.str "zz"])) (.ref z1) (.tuple [.str "zz"]) := .tup (SqT.of upd_same) (.cons (.str _) .nil)
    generalize upd H11 z1 (.tup [.str "zz"]) = H12 at s12 dz1
    refine catA_dp (d1 := Lr.map PyData.str) (d2 := [.str "zz"]) ((Tk.same s12).dp (.tuple (Lr.map PyData.str)) (tup_strs Lr) hv4) dz1 (by rw [List.length_map]; simp; omega) (tup_strs Lr) ⟨trivial, trivial⟩ fun v5 H13 s13 hv5 => ?_
    have S1013 := s11.trans (s12.trans s13)
    refine ⟨_, rfl, _, _, _, _, rfl, rfl, (Tk.same S1013).sqt hpa10, at1 _ _ _, (by show 2 ≤ sizeLine; decide), fun e4 he4 => ?_⟩
    have s14 := same_new he4 (.tup [v5, .ref ppa])
    have S1014 := S1013.trans s14
    have ez : Lr.map PyData.str ++ [.str "zz"] = (Lr ++ [("zz" : Str)]).map PyData.str := by rw [List.map_append]; rfl
    have good4 : Good K (upd H13 e4 (.tup [v5, .ref ppa])) (.ref e4) := ⟨Lr ++ [("zz" : Str)], p0 :: Pr, (l0 :: Lr) ++ [("zz" : Str)], _, .tup (SqT.of upd_same) (.cons ((Tk.same s14).dp (.tuple ((Lr ++ [("zz" : Str)]).map PyData.str)) (tup_strs _) (by rw [← ez]; exact hv5)) (.cons ((Tk.same S1014).dp (.tuple ((p0 :: Pr).map procD)) tP hvP10) .nil)), hP0.letters (by rw [List.length_append]; simp) (by rw [List.length_append]; simp; omega) (nok_app hP0.okA (nok_one zz_ok)) (fun y hy => List.mem_append_left _ hy) (fun y hy => by
      rcases List.mem_append.mp hy with z | z
      · exact List.mem_append_left _ (List.mem_cons_of_mem _ z)
      · exact List.mem_append_right _ z)⟩
    generalize upd H13 e4 (.tup [v5, .ref ppa]) = H14 at s14 S1014 good4
    have hpa14 := (Tk.same S1014).sqt hpa10
    refine ⟨_, rfl, _, _, _, _, rfl, rfl, hpa14, at0 _ _, _, rfl, _, _, _, _, rfl, rfl, hpa14, at1 _ _ _, 1, rfl, ?_⟩
    dsimp only [tNoPart]
    refine slFrom (i := 1) ((Tk.same S1014).dp (.tuple ((p0 :: Pr).map procD)) tP hvP10) tP (by simp) fun v6 H15 s15 hv6 => ?_
    refine ⟨(by show 0 ≤ sizeLine; decide), fun z2 hz2 => ?_⟩
    have s16 := same_new hz2 (.tup [])
    have dz2 : Dp K (upd H15 z2 (.tup [])) (.ref z2) (.tuple []) := .tup (SqT.of upd_same) .nil
    generalize upd H15 z2 (.tup []) = H16 at s16 dz2
    refine ⟨(by show 2 ≤ sizeLine; decide), fun z3 hz3 => ?_⟩
    have s17 := same_new hz3 (.tup [.str "zz", .ref z2])
    have dz3 : Dp K (upd H16 z3 (.tup [.str "zz", .ref z2])) (.ref z3) (procD ("zz", [])) := .tup (SqT.of upd_same) (.cons (.str _) (.cons ((Tk.same s17).dp (.tuple []) trivial dz2) .nil))
    generalize upd H16 z3 (.tup [.str "zz", .ref z2]) = H17 at s17 dz3
    refine ⟨(by show 1 ≤ sizeLine; decide), fun z4 hz4 => ?_⟩
    have s18 := same_new hz4 (.tup [.ref z3])
    have dz4 : Dp K (upd H17 z4 (.tup [.ref z3])) (.ref z4) (.tuple [procD ("zz", [])]) := .tup (SqT.of upd_same) (.cons ((Tk.same s18).dp _ (tup_proc ("zz", [])) dz3) .nil)
    generalize upd H17 z4 (.tup [.ref z3]) = H18 at s18 dz4
    refine catA_dp (d1 := Pr.map procD) (d2 := [procD ("zz", [])]) ((Tk.same (s16.trans (s17.trans s18))).dp (.tuple (Pr.map procD)) (tup_procs Pr) hv6) dz4 (by rw [List.length_map]; simp; omega) (tup_procs Pr) ⟨tup_proc ("zz", []), trivial⟩ fun v7 H19 s19 hv7 => ?_
    have S1419 := s15.trans (s16.trans (s17.trans (s18.trans s19)))
    refine ⟨(by show 2 ≤ sizeLine; decide), fun e5 he5 => ?_⟩
    have s20 := same_new he5 (.tup [vL, v7])
    have S1420 := S1419.trans s20
    have ep : Pr.map procD ++ [procD ("zz", [])] = ((p0 :: Pr).drop 1 ++ [(("zz" : Str), ([] : List St))]).map procD := by rw [List.map_append]; rfl
    have good5 : Good K (upd H19 e5 (.tup [vL, v7])) (.ref e5) := ⟨l0 :: Lr, (p0 :: Pr).drop 1 ++ [(("zz" : Str), ([] : List St))], _, _, .tup (SqT.of upd_same) (.cons ((Tk.same (S1014.trans S1420)).dp (.tuple ((l0 :: Lr).map PyData.str)) tL hvL10) (.cons ((Tk.same s20).dp (.tuple (((p0 :: Pr).drop 1 ++ [(("zz" : Str), ([] : List St))]).map procD)) (tup_procs _) (by rw [← ep]; exact hv7)) .nil)), (hP.last zz_ok).prog (by decide)⟩
    generalize upd H19 e5 (.tup [vL, v7]) = H20 at s20 S1420 good5
    refine ⟨(by show 2 ≤ sizeLine; decide), fun D2 hD2 => ?_⟩
    have s21 := same_new hD2 (.lst [.ref e4, .ref e5])
    have S1021 := S1014.trans (S1420.trans s21)
    refine ⟨D, D2, _, _, rfl, rfl, S1021 _ _ hDv, upd_same, ?bb, fun D3 hD3 => ?_⟩
    case bb => exact Nat.le_trans (show vs3.length + 2 ≤ 100 by omega) (by decide)
    have nDD : D3 ∉ [w, l] := (hW3.same (S310.trans S1021)).out hD3
    have s22 := same_new hD3 (.lst (vs3 ++ [.ref e4, .ref e5]))
    have S22 := S1021.trans s22
    have h22 : upd (upd H20 D2 (.lst [.ref e4, .ref e5])) D3 (.lst (vs3 ++ [.ref e4, .ref e5])) D3 = some (.lst (vs3 ++ [.ref e4, .ref e5])) := upd_same
    have G22 : Goods K (upd (upd H20 D2 (.lst [.ref e4, .ref e5])) D3 (.lst (vs3 ++ [.ref e4, .ref e5]))) (vs3 ++ [.ref e4, .ref e5]) :=
      (G10.tk (Tk.same S22)).app (Goods.cons (good4.tk (Tk.same (S1420.trans (s21.trans s22)))) (Goods.cons (good5.tk (Tk.same (s21.trans s22))) goods_nil))
    have W22 := hW3.same (S310.trans S22)
    have T22 := hT3.same (S310.trans S22)
    have pd22 := hpd.tk (Tk.same (S310.trans S22))
    generalize upd (upd H20 D2 (.lst [.ref e4, .ref e5])) D3 (.lst (vs3 ++ [.ref e4, .ref e5])) = H22 at h22 G22 W22 T22 pd22
    generalize hvs5 : vs3 ++ [V.ref e4, V.ref e5] = vs5 at h22 G22
    have n5 : vs5.length = 5 := by rw [← hvs5, List.length_append]; simp; omega
    clear S22 S1021 s22 s21 hD2 hD3 hD nD3 hDv G10 s10 S310 good5 good4 good3 good2 S1420 S1419 S1014 S1013 S39 S38 S37 S36 hpa10 hpa14 hvL10 hvP10 hv1 hv2 hv3 hv4 hv5 hv6 hv7 drp dz1 dz2 dz3 dz4 s4 s5 s6 s7 s8 s9 s11 s12 s13 s14 s15 s16 s17 s18 s19 s20
    refine nmI ?_
    refine ⟨_, rfl, w, l, c0 + 10000, rfl, W22.le (by omega), fun H23 vS LS PS hpdS hPS W23 k23 t23 => ?_⟩
    have T23 := tbs_wl T22 W22 k23
    have h23 := k23 _ _ nDD h22
    have G23 := G22.tk t23
    have pd23 := pd22.tk t23
    clear h22 G22 W22 T22 pd22 k23 t23
    refine nmI ?_
    refine ⟨_, rfl, _, rfl, _, rfl, _, rfl, w, l, vS, c0 + 9900, LS, PS, _, _, 0, rfl, W23.le (by omega), hpdS, hPS, by decide, fun H24 vT LT PT AT BT hpdT hPT W24 k24 t24 => ⟨(by show 2 ≤ sizeLine; decide), fun D4 hD4 => ?_⟩⟩
    have T24 := tbs_wl T23 W23 k24
    have s25 := same_new hD4 (.lst [vS, vT])
    refine ⟨D3, D4, _, _, rfl, rfl, s25 _ _ (k24 _ _ nDD h23), upd_same, ?cc, fun D5 hD5 => ?_⟩
    case cc => exact Nat.le_trans (show vs5.length + 2 ≤ 100 by omega) (by decide)
    have n5D : D5 ∉ [w, l] := (W24.same s25).out hD5
    have s26 := s25.trans (same_new hD5 (.lst (vs5 ++ [vS, vT])))
    have h26 : upd (upd H24 D4 (.lst [vS, vT])) D5 (.lst (vs5 ++ [vS, vT])) D5 = some (.lst (vs5 ++ [vS, vT])) := upd_same
    have G26 : Goods K (upd (upd H24 D4 (.lst [vS, vT])) D5 (.lst (vs5 ++ [vS, vT]))) (vs5 ++ [vS, vT]) :=
      (G23.tk (t24.trans (Tk.same s26))).app (Goods.cons ⟨_, _, _, _, hpdS.tk (t24.trans (Tk.same s26)), hPS.prog (by decide)⟩ (Goods.cons ⟨_, _, _, _, hpdT.tk (Tk.same s26), hPT.prog (by decide)⟩ goods_nil))
    have W26 := W24.same s26
    have T26 := T24.same s26
    have pd26 := pd23.tk (t24.trans (Tk.same s26))
    have n7 : (vs5 ++ [vS, vT]).length = 7 := by rw [List.length_append]; simp; omega
    generalize upd (upd H24 D4 (.lst [vS, vT])) D5 (.lst (vs5 ++ [vS, vT])) = H26 at h26 G26 W26 T26 pd26
    generalize vs5 ++ [vS, vT] = vs7 at h26 G26 n7
    clear h23 G23 T23 pd23 W23 hpdS hPS hpdT hPT W24 T24 k24 t24 s25 s26 hD4 hD5 n5
    refine nmI ?_
    refine ⟨8, rfl, by decide, by decide, ?_⟩
    refine for_range (lo := 0) (n := 8) (fun j σ H' => ∃ b6 b7 b8 Dk vs, σ = [some (.ref x), some (.ref w), some (.int ((0 : Int) + (i : Nat))), some (.ref pa), some (.ref Dk), some vS, b6, b7, b8] ∧ H' Dk = some (.lst vs) ∧ Goods K H' vs ∧ vs.length = 7 + 2 * j ∧ Dk ∉ [w, l] ∧ PD K H' (.ref pa) (l0 :: Lr) (p0 :: Pr) ∧ Wl H' w l (c0 + (8 - j) * 400) ∧ Tbs Ts H') ?_ ?_ ?_
    · exact ⟨_, _, _, D5, vs7, rfl, h26, G26, n7, n5D, pd26, W26.le (by omega), T26⟩
    · rintro j _ H27 hj ⟨b6, b7, b8, Dk, vs, rfl, hD, hG, hn, nd, pd, W27, T27⟩
      have hcc : (8 - j) * 400 = (8 - (j + 1)) * 400 + 400 := by omega
      rw [hcc] at W27
      refine nmI ?_
      refine ⟨_, rfl, _, rfl, w, l, .ref pa, c0 + (8 - (j + 1)) * 400 + 200, _, _, _, _, 0, rfl, W27.le (by omega), pd, hP, by decide, fun H28 v1 L1 P1 A1 B1 hpd1 hP1 W28 k28 t28 => ?_⟩
      have T28 := tbs_wl T27 W27 k28
      have hD28 := k28 _ _ nd hD
      refine nmI ?_
      refine ⟨_, rfl, _, rfl, _, rfl, _, rfl, w, l, v1, c0 + (8 - (j + 1)) * 400, L1, P1, A1, B1, 1, rfl, W28.le (by omega), hpd1, hP1, by decide, fun H29 v2 L2 P2 A2 B2 hpd2 hP2 W29 k29 t29 => ⟨(by show 2 ≤ sizeLine; decide), fun p hp => ?_⟩⟩
      have T29 := tbs_wl T28 W28 k29
      have sp := same_new hp (.lst [v1, v2])
      refine ⟨Dk, p, _, _, rfl, rfl, sp _ _ (k29 _ _ nd hD28), upd_same, ?dd, fun r hr => ?_⟩
      case dd => exact Nat.le_trans (show vs.length + 2 ≤ 100 by omega) (by decide)
      have sr := sp.trans (same_new hr (.lst (vs ++ [v1, v2])))
      have tr := Tk.same sr
      refine ⟨_, _, _, r, vs ++ [v1, v2], rfl, upd_same, ?_, by rw [List.length_append]; simp; omega, (W29.same sp).out hr, pd.tk (t28.trans (t29.trans tr)), (W29.same sr).le (by omega), T29.same sr⟩
      exact (hG.tk (t28.trans (t29.trans tr))).app (Goods.cons ⟨_, _, _, _, hpd1.tk (t29.trans tr), hP1.prog (by decide)⟩ (Goods.cons ⟨_, _, _, _, hpd2.tk tr, hP2.prog (by decide)⟩ goods_nil))
    · rintro σ H27 ⟨b6, b7, b8, Dk, vs, rfl, hD, hG, hn, nd, pd, W27, T27⟩
      have nD2 : Dk ∉ Ts := fun z => by
        obtain ⟨ps, h3, _⟩ := T27 _ z
        rw [hD] at h3; cases h3
      refine ⟨_, rfl, Dk, rfl, ⟨_, SqL.of hD⟩, fun Dd hDd => ?_⟩
      refine lc_list (xs := vs) (fun i H' => H' Dd = some (.lst ((List.replicate i true).map V.bl)) ∧ Tbs Ts H' ∧ Kp Ts H27 H') ?_ ?_ ?_ ?_
      · exact ⟨upd_same, tbs_new T27 hDd, Kp.new _ hDd⟩
      · rintro i H' _ ⟨_, _, k'⟩
        exact SqL.of (k' _ _ nD2 hD)
      · rintro i y H' hy ⟨hv, t', k'⟩
        have hil : i < vs.length := (List.getElem?_eq_some_iff.mp hy).1
        obtain ⟨L', P', A', B', pd', hP'⟩ := (hG y (List.mem_of_getElem? hy)).tk (Tk.go T27 ⟨t', k'⟩)
        have nDd : Dd ∉ Ts := fun z => by
          obtain ⟨ps, h3, _⟩ := t' _ z
          rw [hv] at h3; cases h3
        refine ⟨rfl, ?_⟩
        refine ⟨_, rfl, y, L', P', A', B', rfl, pd', hP', t', fun H'' g => ⟨_, g.2 _ _ nDd hv, ?_, ?_, tbs_upd g.1 (g.2 _ _ nDd hv) (fun ps z => by cases z), ?_⟩⟩
        · rw [List.length_map, List.length_replicate]
          exact Nat.lt_of_le_of_lt (show i ≤ 1000 by omega) (by decide)
        · rw [upd_same, List.replicate_succ']
          simp
        · intro b o nb e
          rw [upd_ne (fun z => by rw [z, hDd] at e; cases e)]
          exact (k'.trans g.2) b o nb e
      rintro H10 ⟨hv, t', k'⟩
      refine ⟨Dd, _, rfl, SqL.of hv, _, rfl, ?_⟩
      rw [all_rep]
      exact iteF ⟨⟨_, _, _, _, _, _, _, rfl⟩, (wl_go W27 T27 ⟨t', k'⟩).le (by omega), t'⟩
  · rintro σ H2 ⟨⟨b2, b3, b4, b5, b6, b7, b8, rfl⟩, hW2, hT2⟩
    exact q _
end
end K04


set_option Elab.async false
set_option linter.all false
set_option maxRecDepth 100000
set_option maxHeartbeats 8000000
namespace K04
open PySem PySem.Spec PyProof.Rows L2
def stN : Stmt := inClass (topS 3) 0
section
variable {P : Program} {w : World} {K : PySem.W.Frag} {mg : Str → Option Value} {base : Heap}
theorem fo_check {Ts : List Addr} {f : Addr} {fd : FuncData} (F : C8.Def K mg "check" (topS 26) f fd) (b : Binds K fd ["program"] []) (B : Bl K mg) (c_want_program : C8.Cal P w K mg base 9 "want_program" (spWant K Ts) []) (c_fdT : C8.Cal P w K mg base 1 "_first_double" (spFDT K) []) (c_fdL : C8.Cal P w K mg base 1 "_first_double" (spFDL K) []) (c__body_fault : C8.Cal P w K mg base 16 "_body_fault" (spBF K) []) : FnOk P w K mg base C8.CX0 17 f fd ["program"] (spCheck K Ts) := by
  refine C8.fn0 F.fn sc_check ?len ?body
  case len => rintro vs H Q E ⟨v, L, Ps, AL, BN, rfl, _⟩; rfl
  case body =>
    rintro cdv A outer s H vs Q E hr ⟨v, L, Ps, AL, BN, rfl, hd, hP, hTb, q⟩
    refine ⟨_, (pss_cons (ps_expr (C8.pe_c c_want_program hr (by decide) rfl (pa_cons (pv 0) pa_nil)))
    (pss_cons (ps_asg (pv 0) (pg_tup rfl (pgs_cons (pg_name (i := 1) sc_check.nd rfl (Or.inl rfl)) (pgs_cons (pg_name (i := 2) sc_check.nd rfl (Or.inl rfl)) pgs_nil))))
    (pss_cons (ps_setLc (i := 3) (te := tOp (rIxT K) (tVar 4) (tC (.int 0)))  (own := [("procedure", 4)]) (g := gName 4) (by rfl) sc_check.nd rfl rfl (sw_true rfl rfl rfl (by decide +kernel)) (pi_tup (pv 2)) (blkOk_by (own := [("procedure", 4)]) (N := ["program", "letters", "procedures", "names", "procedure", "double", "name", "body", "word"]) (sc := (C8.fnScope (topS 26))) (by decide +kernel)) (fun _ _ _ _ _ => pg_name (i := 4) sc_check.nd rfl (Or.inl rfl)) (fun _ _ _ _ _ => pts_nil) (fun _ _ _ _ _ => by exact (pe_ix ix_tup (pv 4) pe_int (fun _ _ => rfl))))
    (pss_cons (ps_set (i := 5) sc_check.nd rfl (Or.inl rfl) (C8.pe_c c_fdT hr (by decide) rfl (pa_cons (pv 1) pa_nil)))
    (pss_cons (ps_if (pt_cmpR op_notN (pv 5) pe_non (nomark _)) (pss_one (ps_ret (pe_tup (pa_cons pe_str (pa_cons (pv 5) pa_nil))))) pss_nil)
    (pss_cons (ps_set (i := 5) sc_check.nd rfl (Or.inl rfl) (C8.pe_c c_fdL hr (by decide) rfl (pa_cons (pv 3) pa_nil)))
    (pss_cons (ps_if (pt_cmpR op_notN (pv 5) pe_non (nomark _)) (pss_one (ps_ret (pe_tup (pa_cons pe_str (pa_cons (pv 5) pa_nil))))) pss_nil)
    (pss_cons (ps_for PassesOwn.never rfl (pi_tup (pv 2)) (pg_tup rfl (pgs_cons (pg_name (i := 6) sc_check.nd rfl (Or.inl rfl)) (pgs_cons (pg_name (i := 7) sc_check.nd rfl (Or.inl rfl)) pgs_nil)))
    (pss_cons (ps_set (i := 8) sc_check.nd rfl (Or.inl rfl) (C8.pe_c c__body_fault hr (by decide) rfl (pa_cons (pv 7) (pa_cons (pv 1) (pa_cons (pv 3) pa_nil)))))
    (pss_one (ps_if (pt_cmpR op_notN (pv 8) pe_non (nomark _)) (pss_one (ps_ret (pe_tup (pa_cons (pv 8) (pa_cons (pv 6) pa_nil))))) pss_nil))))
    (pss_one (ps_ret pe_non)))))))))), ?_⟩
    refine ⟨_, rfl, v, L, Ps, AL, BN, rfl, hd, hP, hTb, fun H1 g1 => ?_⟩
    have hd1 := (Tk.go hTb g1).dp _ (tup_prog L Ps) hd
    obtain ⟨a, xs, rfl, hs, ha, hl⟩ := len_ok hd1
    cases ha with
    | @cons vL _ _ _ hvL ha =>
    cases ha with
    | @cons vP _ _ _ hvP ha =>
    cases ha
    refine ⟨_, rfl, a, _, rfl, hs, rfl, _, _, rfl, _, _, rfl, rfl, ?_⟩
    obtain ⟨la, lxs, rfl, hls, hla, hll⟩ := len_ok hvL
    obtain ⟨pa, pxs, rfl, hps, hpa, hpl⟩ := len_ok hvP
    have elx : lxs = L.map V.str := strs_vals hla
    subst elx
    rw [List.length_map] at hpl
    refine ⟨_, rfl, pa, rfl, ⟨_, hps⟩, fun Dd hDd => ?_⟩
    refine lc_tup (xs := pxs) (fun i H' => H' Dd = some (.lst (((Ps.take i).map Prod.fst).map V.str)) ∧ Same H1 H') ?_ ?_ ?_ ?_
    · exact ⟨by simpa using upd_same, same_new hDd _⟩
    · rintro i H' _ ⟨_, s5⟩
      exact (Tk.same s5).sqt hps
    · rintro i x H5 hx ⟨hv1, s5⟩
      obtain ⟨d, hd, hdp⟩ := dps_get' hpa hx
      obtain ⟨p, hp, rfl⟩ := procs_get hd
      have hd5 := (Tk.same s5).dp _ (tup_proc p) hdp
      obtain ⟨qa, qxs, rfl, hqs, hqa, hql⟩ := len_ok hd5
      cases hqa with
      | @cons v0 _ _ _ h0 hqa =>
      cases h0
      refine ⟨rfl, ?_⟩
      refine ⟨_, rfl, _, _, _, _, rfl, rfl, hqs, at0 _ _, _, hv1, ?_, ?_, ?_⟩
      · have := hP.p2
        have h3 : (Ps.take i).length ≤ Ps.length := List.length_take_le' _ _
        exact Nat.lt_of_le_of_lt (show _ ≤ 8 by rw [List.length_map, List.length_map]; omega) (by decide)
      · rw [upd_same, List.take_succ, hp]
        simp
      · intro b o e
        rw [upd_ne (fun z => by rw [z, hDd] at e; cases e)]
        exact s5 _ _ e
    · rintro H5 ⟨hv1, s5⟩
      rw [hpl, List.take_length] at hv1
      have hls5 := (Tk.same s5).sqt hls
      refine ⟨_, rfl, la, L, rfl, hls5, fun H6 s6 => ?_⟩
      have ek : chkD L Ps = chkD L Ps := rfl
      conv at ek => rhs; unfold chkD
      have goS : ∀ {H' : Hp}, Same H1 H' → Go Ts H H' := fun s => g1.trans (Go.of_same g1.1 s)
      cases e1 : firstD L with
      | some x =>
        rw [e1] at ek
        refine ⟨_, rfl, rfl, _, rfl, ?_⟩
        refine iteT ⟨_, rfl, (by show 2 ≤ sizeLine; decide), fun p hp => ?_⟩
        exact q _ _ (goS ((s5.trans s6).trans (same_new hp _))) (by rw [ek]; exact dp_tup2 hp (.str _) (.str _))
      | none =>
      rw [e1] at ek
      refine ⟨_, rfl, rfl, _, rfl, ?_⟩
      refine iteF ?_
      have hv6 := s6 _ _ hv1
      refine ⟨_, rfl, Dd, Ps.map Prod.fst, rfl, SqL.of hv6, fun H7 s7 => ?_⟩
      cases e2 : firstD (Ps.map Prod.fst) with
      | some x =>
        rw [e2] at ek
        refine ⟨_, rfl, rfl, _, rfl, ?_⟩
        refine iteT ⟨_, rfl, (by show 2 ≤ sizeLine; decide), fun p hp => ?_⟩
        exact q _ _ (goS (((s5.trans s6).trans s7).trans (same_new hp _))) (by rw [ek]; exact dp_tup2 hp (.str _) (.str _))
      | none =>
      rw [e2] at ek
      refine ⟨_, rfl, rfl, _, rfl, ?_⟩
      refine iteF ?_
      have s17 : Same H1 H7 := s5.trans (s6.trans s7)
      have hv7 := s7 _ _ hv6
      refine ⟨_, rfl, pa, rfl, ⟨_, (Tk.same s17).sqt hps⟩, ?_⟩
      refine for_tup (xs := pxs) (fun i σ H' => ∃ b7 b8 b9, σ = [some (.ref a), some (.ref la), some (.ref pa), some (.ref Dd), none, some .non, b7, b8, b9] ∧ Same H7 H' ∧ Ps.findSome? (pfault L (Ps.map Prod.fst)) = (Ps.drop i).findSome? (pfault L (Ps.map Prod.fst))) ?_ ?_ ?_ ?_
      · exact ⟨none, none, none, rfl, Same.refl _, rfl⟩
      · rintro i σ H' _ ⟨_, _, _, _, s8, _⟩
        exact (Tk.same (s17.trans s8)).sqt hps
      · rintro i x _ H8 hx ⟨b7, b8, b9, rfl, s8, ei⟩
        obtain ⟨d, hd, hdp⟩ := dps_get' hpa hx
        obtain ⟨p, hp, rfl⟩ := procs_get hd
        have s18 := s17.trans s8
        have hd8 := (Tk.same s18).dp _ (tup_proc p) hdp
        obtain ⟨qa, qxs, rfl, hqs, hqa, hql⟩ := len_ok hd8
        cases hqa with
        | @cons v0 _ _ _ h0 hqa =>
        cases h0
        cases hqa with
        | @cons v1 _ _ _ h1 hqa =>
        cases hqa
        refine ⟨qa, _, rfl, hqs, rfl, _, _, rfl, _, _, rfl, rfl, ?_⟩
        have hpm : p.2 ∈ nsP Ps := List.mem_map.mpr ⟨p, List.mem_of_getElem? hp, rfl⟩
        have hk := kss_mem hpm
        have hn := nss_mem hpm
        have hk2 := hP.ks
        have hn2 := hP.n
        refine ⟨_, rfl, _, rfl, _, rfl, v1, la, Dd, p.2, L, Ps.map Prod.fst, rfl, h1, by omega, by omega, (Tk.same s18).sqt hls, SqL.of (s8 _ _ hv7), fun H9 s9 => ?_⟩
        have es := ei.trans (find_step hp)
        cases e3 : bfault L (Ps.map Prod.fst) p.2 with
        | some x =>
          rw [pfault, e3] at es
          rw [es] at ek
          refine ⟨_, rfl, rfl, _, rfl, ?_⟩
          refine iteT ⟨_, rfl, _, rfl, (by show 2 ≤ sizeLine; decide), fun p2 hp2 => ?_⟩
          exact q _ _ (goS ((s18.trans s9).trans (same_new hp2 _))) (by rw [ek]; exact dp_tup2 hp2 (.str _) (.str _))
        | none =>
          rw [pfault, e3] at es
          refine ⟨_, rfl, rfl, _, rfl, ?_⟩
          exact iteF ⟨_, _, _, rfl, s8.trans s9, es⟩
      · rintro σ H8 ⟨b7, b8, b9, rfl, s8, ei⟩
        rw [hpl, List.drop_length] at ei
        rw [ei] at ek
        exact q _ _ (goS (s17.trans s8)) (by rw [ek]; exact .non)
theorem exm_is {C E : Addr} {r : Bool} (b : PySem.W.subIn K (.ref E) (.type "BaseException") = some true) (i : PySem.W.isClsIn K E = true) (t : PySem.W.typeIn K (.ref E) = some (.type "type")) (s : PySem.W.subIn K (.ref C) (.ref E) = some r) : PySem.W.exmOne K (.ref C) (.ref E) = some r := by
  have h : (PySem.W.clsIn K E).isSome = true := by
    cases e : PySem.W.clsIn K E with
    | some _ => rfl
    | none => simp [PySem.W.isClsIn, e] at i
  unfold PySem.W.exmOne
  rw [b, if_pos (by decide)]
  unfold PySem.W.kitCls
  simp only [h, t]
  rw [if_pos (by decide)]
  exact s
theorem init_ok {f NC cda cc : Addr} {kV doc pm ct oc ccl cl : Value} {an od cdd cld : Option Addr} {osl ccs csl : Array (Option Value)} {vs0 : Array Value} {file : Str} {tf : Tok} {cd : ClassData} (T : OexC K NC)
    (lk : K.lookup f = some ⟨oc, od, .func (PySem.W.ksFn "__init__" "NotChecked.__init__" (C8.fnArgs stN) (C8.fnBody stN) (C8.fnScope stN) .none kV doc pm an (.ref cda) ct cc), osl⟩) (hcd : PySem.W.codeIn K (.ref cda) "NotChecked.__init__" = true)
    (hcode : K.lookup cda = some ⟨ccl, cdd, .fields vs0, ccs⟩) (hvs : vs0[2]? = some (.str file tf)) (hfile : ((P.main.file : Str) == file) = true)
    (hcell : K.lookup cc = some ⟨cl, cld, .cell (some (.ref NC)), csl⟩) (hD : PySem.W.clsIn K NC = some cd) (hsub : PySem.W.mroIn K NC (.ref NC) = some true) (hsuper : mg "super" = none) (htop : (P.main.scope.names.lookup ("super" : Str)).isSome = false)
    (hm : PySem.W.ks_superIn K NC NC "__init__" = some (some (.builtin "ValueError.__init__"))) (hB : PySem.W.subIn K (.ref NC) (.type "ValueError") = some true) (hop : PySem.W.nsIn K cStatics "thirdparty.any" = some none) (hno : PySem.W.findIn K (.ref NC) "what" = some none) :
    FnOk P w K mg base C8.CX0 1 f (PySem.W.ksFn "__init__" "NotChecked.__init__" (C8.fnArgs stN) (C8.fnBody stN) (C8.fnScope stN) .none kV doc pm an (.ref cda) ct cc) ["self", "what"] (UG.spSup NC "what") ∧
      Binds K (PySem.W.ksFn "__init__" "NotChecked.__init__" (C8.fnArgs stN) (C8.fnBody stN) (C8.fnScope stN) .none kV doc pm an (.ref cda) ct cc) ["self", "what"] [] :=
  ⟨UG.fn_sup (attr := "what") (par := "what") (txt := "the program has a fault") T lk hcd (by decide +kernel) rfl rfl hcode hvs hfile hcell hD hsub hsuper htop hm hB hop hno (fun L => rfl), .all fun us hl => match us, hl with | [_, _], _ => rfl⟩
end
end K04


set_option Elab.async false
set_option linter.all false
set_option maxRecDepth 100000
set_option maxHeartbeats 8000000
namespace K04
open PySem PySem.Spec PyProof.Rows L2
/-! ### the end, where the law's own body stands under no guard -/
section
variable {P : Program} {w : World} {K : PySem.W.Frag} {mg mb : Str → Option Value} {fa a : Addr} {cs : List (Addr × Addr)} {s₁ : Shared} {vs : List Value} {ns : List Int}
/-- what is tracked at the call: the script and the tables, or the tables alone -/
structure Few0 (P : Program) (w : World) (K : PySem.W.Frag) (a : Addr) (cs : List (Addr × Addr)) (ns : List Int) (h : Heap) (H : Hp) : Prop where
  tb : ∀ p ∈ cs, H p.2 = some (.tbl #[])
  sq : SqL K H a (ns.map V.int)
  hok : HOk P w H h
  only : ∀ b o, H b = some o → (b ∈ cs.map (·.2) ∧ o = .tbl #[]) ∨ (b = a ∧ b ∉ cs.map (·.2) ∧ ∃ u, o = .frz u (.lst (ns.map V.int)))
  noK : ∀ b, H b ≠ none → K.lookup b = none
theorem few_is (KX : K.In s₁.heap) (hT : ∀ p ∈ cs, s₁.heap.get? p.2 = some { cls := .none, data := .fields #[] }) (nT : ∀ p ∈ cs, K.lookup p.2 = none)
    (ha : s₁.heap.get? a = some { cls := .type "list", data := .seq vs.toArray }) (hi : IntsAre vs ns) (hl : ns.length ≤ sizeLine) : ∃ H : Hp, Few0 P w K a cs ns s₁.heap H := by
  have rv := vals_ints hi
  have tabAt : ∀ b, b ∈ cs.map (·.2) → s₁.heap.get? b = some { cls := .none, data := .fields #[] } := by
    intro b hb
    obtain ⟨p, hp, rfl⟩ := List.mem_map.mp hb
    exact hT p hp
  have apart : a ∉ cs.map (·.2) := by
    intro hb
    have two := (tabAt a hb).symm.trans ha
    cases two
  have memP : ∀ p ∈ cs, p.2 ∈ cs.map (·.2) := fun p hp => List.mem_map.mpr ⟨p, hp, rfl⟩
  let Tt : Hp := fun b => if b ∈ cs.map (·.2) then some (.tbl #[]) else none
  have ttIn : ∀ b, b ∈ cs.map (·.2) → Tt b = some (.tbl #[]) := fun b hb => if_pos hb
  have ttOut : ∀ b, b ∉ cs.map (·.2) → Tt b = none := fun b hb => if_neg hb
  cases hk : K.lookup a with
  | some o =>
    have ho := (KX a o hk).symm.trans ha
    cases ho
    refine ⟨Tt, fun p hp => ttIn _ (memP p hp), .inr ⟨_, vs.toArray, _, hk, rfl, rfl, rfl, ?_, by simpa using rv⟩, fun b u e => ?_, fun b u e => ?_, fun b nb => ?_⟩
    · rw [List.size_toArray, hi.length]
      exact hl
    all_goals by_cases hb : b ∈ cs.map (·.2)
    · rw [ttIn b hb] at e; cases e; exact tabAt b hb
    · rw [ttOut b hb] at e; cases e
    · rw [ttIn b hb] at e; cases e; exact .inl ⟨hb, rfl⟩
    · rw [ttOut b hb] at e; cases e
    · obtain ⟨p, hp, rfl⟩ := List.mem_map.mp hb
      exact nT p hp
    · exact absurd (ttOut b hb) nb
  | none =>
    let ob : Obj := { cls := .type "list", data := .seq vs.toArray }
    have hne : ∀ b, b ∈ cs.map (·.2) → b ≠ a := fun b hb z => apart (z ▸ hb)
    let Ht : Hp := fun b => if b = a then some (.frz ob (.lst (ns.map V.int))) else Tt b
    have atA : Ht a = some (.frz ob (.lst (ns.map V.int))) := if_pos rfl
    have off : ∀ b, b ≠ a → Ht b = Tt b := fun b hb => if_neg hb
    refine ⟨Ht, fun p hp => (off _ (hne _ (memP p hp))).trans (ttIn _ (memP p hp)), .inl (.inr ⟨ob, atA⟩), fun b u e => ?_, fun b u e => ?_, fun b nb => ?_⟩
    all_goals by_cases hba : b = a
    · subst hba
      rw [atA] at e; cases e
      exact ⟨ha, by rw [List.length_map]; exact hl, vs, _, rv, ha⟩
    · rw [off b hba] at e
      by_cases hb : b ∈ cs.map (·.2)
      · rw [ttIn b hb] at e; cases e; exact tabAt b hb
      · rw [ttOut b hb] at e; cases e
    · subst hba
      rw [atA] at e; cases e
      exact .inr ⟨rfl, apart, ob, rfl⟩
    · rw [off b hba] at e
      by_cases hb : b ∈ cs.map (·.2)
      · rw [ttIn b hb] at e; cases e; exact .inl ⟨hb, rfl⟩
      · rw [ttOut b hb] at e; cases e
    · subst hba; exact hk
    · rw [off b hba] at nb
      by_cases hb : b ∈ cs.map (·.2)
      · obtain ⟨p, hp, rfl⟩ := List.mem_map.mp hb
        exact nT p hp
      · exact absurd (ttOut b hb) nb
/-- what the call needs around it -/
theorem env_few {H : Hp} (X : Few0 P w K a cs ns s₁.heap H) (KX : K.In s₁.heap) (hns : s₁.heap.Ns mainGlobals mg) (hb : s₁.heap.Ns builtinsNs mb) (hbb : ∀ x : Str, x ≠ "__name__" → mb x = bootBuiltins x) (hlim : s₁.heap.NoLimit) (hg : s₁.gens = #[])
    (ha : s₁.heap.get? a = some { cls := .type "list", data := .seq vs.toArray }) (hT : ∀ p ∈ cs, s₁.heap.get? p.2 = some { cls := .none, data := .fields #[] }) (C : ∀ p ∈ cs, PySem.W.CodeHd s₁.heap p.1 p.2)
    (hbm : ∃ (bm : Addr) (ob : Obj), mg "__builtins__" = some (.ref bm) ∧ bm ≠ builtinsNs ∧ s₁.heap.get? bm = some ob ∧ ob.cls = .type "module" ∧ ob.dict = some builtinsNs ∧ ob.data = .plain) :
    K.In (hidT s₁.heap H) ∧ (hidT s₁.heap H).Ns mainGlobals mg ∧ (∀ p ∈ cs, LamX.TabB (hidT s₁.heap H) mg p.1 p.2) ∧ Env0 P w K mg (hidT s₁.heap H) callerA [] s₁ H := by
  have stays : ∀ {b : Addr} {o : Obj}, s₁.heap.get? b = some o → H b = none → (hidT s₁.heap H).get? b = some o := fun h n => hidT_get h n
  -- neither the script's kind nor a table's
  have free : ∀ {b : Addr} {o : Obj}, s₁.heap.get? b = some o → (∀ xs n, o.data ≠ .seq xs n) → o.data ≠ .fields #[] → H b = none := by
    intro b o h h1 h2
    cases e : H b with
    | none => rfl
    | some u =>
      exfalso
      rcases X.only b u e with ⟨hm, _⟩ | ⟨rfl, _, _⟩
      · obtain ⟨p, hp, rfl⟩ := List.mem_map.mp hm
        rw [hT p hp] at h; cases h
        exact h2 rfl
      · rw [ha] at h; cases h
        exact h1 _ _ rfl
  have nsKept : ∀ {b : Addr} {m : Str → Option Value}, s₁.heap.Ns b m → (hidT s₁.heap H).Ns b m := by
    rintro b m ⟨o, es, ep, h, hd, r⟩
    exact ⟨o, es, ep, stays h (free h (fun xs n z => by rw [hd] at z; cases z) (fun z => by rw [hd] at z; cases z)), hd, r⟩
  have hK : K.In (hidT s₁.heap H) := by
    intro b o h
    refine stays (KX b o h) ?_
    cases e : H b with
    | none => rfl
    | some u => exact absurd (X.noK b (by rw [e]; intro z; cases z)) (by rw [h]; intro z; cases z)
  obtain ⟨mc, l1, l2⟩ := hlim
  refine ⟨hK, nsKept hns, fun p hp => ⟨?_, ?_, fun z => ?_⟩, ⟨rfl, ⟨hK, nsKept hns, ⟨mb, nsKept hb, hbb⟩, mc, nsKept l1, l2⟩, fun b o h => of_hidT h, Nat.le_of_eq (hidT_size _ _), trivial, fun b hb => (List.not_mem_nil hb).elim, X.hok, .of_eq hg⟩⟩
  · obtain ⟨o, us, file, tf, flags, tg, inF, text, tt, h, c1, c2, c3, c4⟩ := C p hp
    refine ⟨o, us, file, tf, flags, tg, inF, text, tt, stays h (free h (fun xs n z => ?_) fun z => ?_), c1, c2, c3, c4⟩
    · rw [c2] at z; cases z
    · rw [c2] at z; cases z
      simp at c3
  · obtain ⟨bm, ob, b1, b2, b3, b4, b5, b6⟩ := hbm
    refine ⟨bm, ob, b1, b2, fun z => ?_, fun z => ?_, stays b3 (free b3 (fun xs n z => ?_) fun z => ?_), b4, b5, b6⟩
    · obtain ⟨o, es, ep, h, hd, _⟩ := hns
      rw [z, h] at b3; cases b3
      rw [hd] at b6; cases b6
    · rw [z, hT p hp] at b3; cases b3
      cases b6
    · rw [b6] at z; cases z
    · rw [b6] at z; cases z
  · obtain ⟨o, es, ep, h, hd, _⟩ := hns
    rw [z, hT p hp] at h; cases h
    cases hd
/-- the end of the call -/
theorem end_few {H : Hp} (X : Few0 P w K a cs ns s₁.heap H) (hT : ∀ p ∈ cs, s₁.heap.get? p.2 = some { cls := .none, data := .fields #[] }) (C : ∀ p ∈ cs, PySem.W.CodeHd s₁.heap p.1 p.2) {r : Result} {s' : Shared}
    (h : CR C8.CX0 [] P w H s₁ (fun v _ => v = .bl true) (fun _ _ _ => False) r s') : r = .ok (.ret (.bool true)) ∧ OldK s₁.heap s'.heap ∧ s'.os = s₁.os ∧ AllBare s'.gens := by
  match r, h with
  | .error _, h => exact h.elim
  | .ok .next, h => exact False.elim h
  | .ok .brk, h => exact False.elim h
  | .ok .cont, h => exact False.elim h
  | .ok (.ret u), h =>
    obtain ⟨v, H', os, bare, un, hok', ru, hv⟩ := h
    have hv' : v = .bl true := hv
    subst hv'
    have hu : u = Value.bool true := ru
    subst hu
    have same : ∀ b o, b ∉ cs.map (·.2) → s₁.heap.get? b = some o → s'.heap.get? b = some o := by
      intro b o nb h
      cases e : H b with
      | none => exact un.keep b o h e (fun z => (List.not_mem_nil z).elim) (fun z => (List.not_mem_nil z).elim)
      | some t =>
        rcases X.only b t e with ⟨z, _⟩ | ⟨_, _, ob, rfl⟩
        · exact absurd z nb
        · have before := (X.hok b _ e).1
          have after := (hok' b _ (un.frzs b ob _ e)).1
          rw [before] at h; cases h
          exact after
    have more : ∀ p ∈ cs, ∃ xs : Array Value, s'.heap.get? p.2 = some { cls := .none, data := .fields xs } := by
      intro p hp
      obtain ⟨xs, e⟩ := un.tbls p.2 #[] (X.tb p hp)
      exact ⟨_, hok' p.2 _ e⟩
    refine ⟨rfl, ⟨fun b o h => ?_, fun b o h => ?_⟩, os, bare⟩
    · by_cases hb : b ∈ cs.map (·.2)
      · obtain ⟨p, hp, rfl⟩ := List.mem_map.mp hb
        obtain ⟨xs, e⟩ := more p hp
        rw [hT p hp] at h; cases h
        exact .inr (.inl ⟨((C p hp).tab (hT p hp)).isCodeTable, rfl, #[], xs, rfl, by rw [Array.empty_append]; exact e⟩)
      · exact .inl (same b o hb h)
    · by_cases hb : b ∈ cs.map (·.2)
      · obtain ⟨p, hp, rfl⟩ := List.mem_map.mp hb
        obtain ⟨xs, e⟩ := more p hp
        exact ⟨_, e⟩
      · exact ⟨o, same b o hb h⟩
end
end K04


set_option Elab.async false
set_option linter.all false
set_option maxRecDepth 100000
set_option maxHeartbeats 8000000
namespace K04
open PySem PySem.Spec PyProof.Rows L2
theorem walk {l : PySem.W.OpenLaw} {n : Nat} {q : Program} {loose : List Str} {XP : (Str → Option Value) → Heap → Prop} {YP : World → Heap → Prop} {d : DefRec} {K : Params → PySem.W.Frag} {x : Str}
    (hn : l.most = some n) (hn2 : n ≤ 1000) (hdf : d.params.defaults = []) (hY : ∀ (w : World) (h : Heap), YP w h → (K w.params).In h)
    (F : ∀ (w : World) (lo : List Str) (mean : ExcName → Option Value) (mg mb : Str → Option Value) (fa : Addr) (h : Heap), Top q lo mean mg mb h → (K w.params).In h → mg d.name = some (.ref fa) →
      ∃ cs : List (Addr × Addr), (∀ p ∈ cs, h.get? p.2 = some { cls := .none, data := .fields #[] }) ∧ (∀ p ∈ cs, (K w.params).lookup p.2 = none) ∧ (∀ p ∈ cs, PySem.W.CodeHd h p.1 p.2) ∧
        ∀ (base : Heap) (s : Shared) (H : Hp) (a : Addr) (ns : List Int), (∀ p ∈ cs, LamX.TabB base mg p.1 p.2) → Env0 l.prog w (K w.params) mg base callerA [] s H → (∀ p ∈ cs, H p.2 = some (.tbl #[])) → SqL (K w.params) H a (ns.map V.int) → ns.length ≤ 1000 →
          codeAny (model l.prog w) callerA (.call (.ref fa) ⟨[.ref a], []⟩) (CR C8.CX0 [] l.prog w H s (fun v _ => v = .bl true) C8.E0) s) :
    PySem.W.WalkO q loose XP YP l.row.toRowW d [] (fun f vs => PySem.call f vs) := by
  refine Att.attach_callB hn hdf fun w s₀ s₁ mg mb fa o pm cd doc a vs ns G Y ho hd hcd hmg hobj hints hlen hbits hg => ?_
  have KX := hY w _ Y
  obtain ⟨cs, hT, nT, C, run⟩ := F w _ _ mg mb fa _ G.T KX hmg
  obtain ⟨H, X⟩ := few_is (P := l.prog) (w := w) KX hT nT hobj hints (Nat.le_trans (Nat.le_trans hlen hn2) (by decide))
  obtain ⟨_, _, tb, e0⟩ := env_few X KX G.T.g G.T.b G.T.builtins G.T.nolimit hg hobj hT C G.T.bmain
  exact codeAny_mono (run _ s₁ H a ns tb e0 X.tb X.sq (by omega)) fun r s' h => end_few X hT C h
theorem in_kit {K : PySem.W.Frag} {c T fa : Addr} {x : Str} {oc kV dc pm ct oct : Value} {od an odt : Option Addr} {sl slt : Array (Option Value)} {vst : Array Value} {st : Stmt} (a : PySem.W.nsIn K mainGlobals x = some (some (.ref fa)))
    (l : K.lookup fa = some ⟨oc, od, .func (PySem.W.fnOf x x (C8.fnArgs st) (C8.fnBody st) (C8.fnScope st) .none kV dc pm an (.ref c) ct), sl⟩) (t1 : K.lookup c = some ⟨oct, odt, .fields vst, slt⟩) (t2 : vst[11]? = some (.ref T)) : PySem.W.tabIn K x = some (c, T) := by
  unfold PySem.W.tabIn
  rw [a]
  simp only [l]
  show (match K.lookup c with | some ⟨_, _, .fields vs, _⟩ => (match (vs[11]? : Option Value) with | some (.ref P) => some (c, P) | _ => none) | _ => none) = some (c, T)
  rw [t1]
  simp only [t2]
theorem all_mk {l : PySem.W.OpenLaw} {w : World} {K : PySem.W.Frag} {h : Heap} {mg mb : Str → Option Value} {fa : Addr} {q : Program} {lo : List Str} {mean : ExcName → Option Value} (TT : Top q lo mean mg mb h) (X : K.In h) (hfa : mg "law" = some (.ref fa))
    {f5 : Addr} {oc5 kV5 dc5 pm5 ct5 : Value} {cd5 : Value} {od5 an5 : Option Addr} {sl5 : Array (Option Value)}
    {f11 : Addr} {oc11 kV11 dc11 pm11 ct11 : Value} {c11 : Addr} {od11 an11 : Option Addr} {sl11 : Array (Option Value)}
    {f20 : Addr} {oc20 kV20 dc20 pm20 ct20 : Value} {c20 : Addr} {od20 an20 : Option Addr} {sl20 : Array (Option Value)}
    {f21 : Addr} {oc21 kV21 dc21 pm21 ct21 : Value} {cd21 : Value} {od21 an21 : Option Addr} {sl21 : Array (Option Value)}
    {f22 : Addr} {oc22 kV22 dc22 pm22 ct22 : Value} {cd22 : Value} {od22 an22 : Option Addr} {sl22 : Array (Option Value)}
    {f23 : Addr} {oc23 kV23 dc23 pm23 ct23 : Value} {cd23 : Value} {od23 an23 : Option Addr} {sl23 : Array (Option Value)}
    {f24 : Addr} {oc24 kV24 dc24 pm24 ct24 : Value} {cd24 : Value} {od24 an24 : Option Addr} {sl24 : Array (Option Value)}
    {f26 : Addr} {oc26 kV26 dc26 pm26 ct26 : Value} {cd26 : Value} {od26 an26 : Option Addr} {sl26 : Array (Option Value)}
    {f27 : Addr} {oc27 kV27 dc27 pm27 ct27 : Value} {cd27 : Value} {od27 an27 : Option Addr} {sl27 : Array (Option Value)}
    {f28 : Addr} {oc28 kV28 dc28 pm28 ct28 : Value} {cd28 : Value} {od28 an28 : Option Addr} {sl28 : Array (Option Value)}
    {f29 : Addr} {oc29 kV29 dc29 pm29 ct29 : Value} {cd29 : Value} {od29 an29 : Option Addr} {sl29 : Array (Option Value)}
    {f30 : Addr} {oc30 kV30 dc30 pm30 ct30 : Value} {cd30 : Value} {od30 an30 : Option Addr} {sl30 : Array (Option Value)}
    {f32 : Addr} {oc32 kV32 dc32 pm32 ct32 : Value} {cd32 : Value} {od32 an32 : Option Addr} {sl32 : Array (Option Value)}
    {f33 : Addr} {oc33 kV33 dc33 pm33 ct33 : Value} {cd33 : Value} {od33 an33 : Option Addr} {sl33 : Array (Option Value)}
    {f34 : Addr} {oc34 kV34 dc34 pm34 ct34 : Value} {cd34 : Value} {od34 an34 : Option Addr} {sl34 : Array (Option Value)}
    {f35 : Addr} {oc35 kV35 dc35 pm35 ct35 : Value} {cd35 : Value} {od35 an35 : Option Addr} {sl35 : Array (Option Value)}
    {f36 : Addr} {oc36 kV36 dc36 pm36 ct36 : Value} {cd36 : Value} {od36 an36 : Option Addr} {sl36 : Array (Option Value)}
    {f37 : Addr} {oc37 kV37 dc37 pm37 ct37 : Value} {cd37 : Value} {od37 an37 : Option Addr} {sl37 : Array (Option Value)}
    {f38 : Addr} {oc38 kV38 dc38 pm38 ct38 : Value} {cd38 : Value} {od38 an38 : Option Addr} {sl38 : Array (Option Value)}
    {f39 : Addr} {oc39 kV39 dc39 pm39 ct39 : Value} {cd39 : Value} {od39 an39 : Option Addr} {sl39 : Array (Option Value)}
    {f40 : Addr} {oc40 kV40 dc40 pm40 ct40 : Value} {cd40 : Value} {od40 an40 : Option Addr} {sl40 : Array (Option Value)}
    {f41 : Addr} {oc41 kV41 dc41 pm41 ct41 : Value} {cd41 : Value} {od41 an41 : Option Addr} {sl41 : Array (Option Value)}
    {f42 : Addr} {oc42 kV42 dc42 pm42 ct42 : Value} {cd42 : Value} {od42 an42 : Option Addr} {sl42 : Array (Option Value)}
    {f43 : Addr} {oc43 kV43 dc43 pm43 ct43 : Value} {cd43 : Value} {od43 an43 : Option Addr} {sl43 : Array (Option Value)}
    {f44 : Addr} {oc44 kV44 dc44 pm44 ct44 : Value} {cd44 : Value} {od44 an44 : Option Addr} {sl44 : Array (Option Value)}
    {f45 : Addr} {oc45 kV45 dc45 pm45 ct45 : Value} {cd45 : Value} {od45 an45 : Option Addr} {sl45 : Array (Option Value)}
    {f46 : Addr} {oc46 kV46 dc46 pm46 ct46 : Value} {cd46 : Value} {od46 an46 : Option Addr} {sl46 : Array (Option Value)}
    {f47 : Addr} {oc47 kV47 dc47 pm47 ct47 : Value} {cd47 : Value} {od47 an47 : Option Addr} {sl47 : Array (Option Value)}
    {f48 : Addr} {oc48 kV48 dc48 pm48 ct48 : Value} {cd48 : Value} {od48 an48 : Option Addr} {sl48 : Array (Option Value)}
    {uMOST_SIGNS : Tok} {uMOST_LETTERS : Tok} {uMOST_PROCEDURES : Tok} {uLEAST_BODIES : Tok} {uMOST_BODIES : Tok} {uMOST_IN_BODY : Tok} {uMOST_STATEMENTS : Tok} {uLONGEST_CHAIN : Tok} {uS uW : Tok} {kw NC DE fI cda cc : Addr} {odkw : Option Addr} {itkw : Array Value} {nkw : Nat} {slkw : Array (Option Value)}
    {nmN : String} {qN : Str} {NN : Addr} {bsN bmN : List Value} {snN : List Str} {subN : List Value} {abN : Bool} {colN : Option Bool} {ddN : Option Addr} {kk0 kk1 kk2 kk3 kk5 : Option Value} {kVI dcI pmI ctI ocI ccl cl : Value} {anI odI cdd cld : Option Addr} {slI ccs csl : Array (Option Value)} {vs0 : Array Value} {file : Str} {tf : Tok} {cdN : ClassData}
    {T11 : Addr} {oct11 : Value} {odt11 : Option Addr} {vst11 : Array Value} {slt11 : Array (Option Value)} {d11 : DefRec} {T20 : Addr} {oct20 : Value} {odt20 : Option Addr} {vst20 : Array Value} {slt20 : Array (Option Value)} {d20 : DefRec} 
    (a5 : PySem.W.nsIn K mainGlobals "is_row" = some (some (.ref f5))) (l5 : K.lookup f5 = some ⟨oc5, od5, .func (PySem.W.fnOf "is_row" "is_row" (C8.fnArgs (topS 5)) (C8.fnBody (topS 5)) (C8.fnScope (topS 5)) .none kV5 dc5 pm5 an5 cd5 ct5), sl5⟩) (c5h : PySem.W.codeIn K cd5 "is_row" = true) (k5 : PySem.W.keepIn K (.ref f5) = true)
    (a11 : PySem.W.nsIn K mainGlobals "is_name" = some (some (.ref f11))) (l11 : K.lookup f11 = some ⟨oc11, od11, .func (PySem.W.fnOf "is_name" "is_name" (C8.fnArgs (topS 11)) (C8.fnBody (topS 11)) (C8.fnScope (topS 11)) .none kV11 dc11 pm11 an11 (.ref c11) ct11), sl11⟩) (c11h : PySem.W.codeIn K (.ref c11) "is_name" = true) (k11 : PySem.W.keepIn K (.ref f11) = true)
    (a20 : PySem.W.nsIn K mainGlobals "is_program" = some (some (.ref f20))) (l20 : K.lookup f20 = some ⟨oc20, od20, .func (PySem.W.fnOf "is_program" "is_program" (C8.fnArgs (topS 20)) (C8.fnBody (topS 20)) (C8.fnScope (topS 20)) .none kV20 dc20 pm20 an20 (.ref c20) ct20), sl20⟩) (c20h : PySem.W.codeIn K (.ref c20) "is_program" = true) (k20 : PySem.W.keepIn K (.ref f20) = true)
    (a21 : PySem.W.nsIn K mainGlobals "_are_bodies" = some (some (.ref f21))) (l21 : K.lookup f21 = some ⟨oc21, od21, .func (PySem.W.fnOf "_are_bodies" "_are_bodies" (C8.fnArgs (topS 21)) (C8.fnBody (topS 21)) (C8.fnScope (topS 21)) .none kV21 dc21 pm21 an21 cd21 ct21), sl21⟩) (c21h : PySem.W.codeIn K cd21 "_are_bodies" = true) (k21 : PySem.W.keepIn K (.ref f21) = true)
    (a22 : PySem.W.nsIn K mainGlobals "_is_statement" = some (some (.ref f22))) (l22 : K.lookup f22 = some ⟨oc22, od22, .func (PySem.W.fnOf "_is_statement" "_is_statement" (C8.fnArgs (topS 22)) (C8.fnBody (topS 22)) (C8.fnScope (topS 22)) .none kV22 dc22 pm22 an22 cd22 ct22), sl22⟩) (c22h : PySem.W.codeIn K cd22 "_is_statement" = true) (k22 : PySem.W.keepIn K (.ref f22) = true)
    (a23 : PySem.W.nsIn K mainGlobals "bodies_of" = some (some (.ref f23))) (l23 : K.lookup f23 = some ⟨oc23, od23, .func (PySem.W.fnOf "bodies_of" "bodies_of" (C8.fnArgs (topS 23)) (C8.fnBody (topS 23)) (C8.fnScope (topS 23)) .none kV23 dc23 pm23 an23 cd23 ct23), sl23⟩) (c23h : PySem.W.codeIn K cd23 "bodies_of" = true) (k23 : PySem.W.keepIn K (.ref f23) = true)
    (a24 : PySem.W.nsIn K mainGlobals "want_program" = some (some (.ref f24))) (l24 : K.lookup f24 = some ⟨oc24, od24, .func (PySem.W.fnOf "want_program" "want_program" (C8.fnArgs (topS 24)) (C8.fnBody (topS 24)) (C8.fnScope (topS 24)) .none kV24 dc24 pm24 an24 cd24 ct24), sl24⟩) (c24h : PySem.W.codeIn K cd24 "want_program" = true) (k24 : PySem.W.keepIn K (.ref f24) = true)
    (a26 : PySem.W.nsIn K mainGlobals "check" = some (some (.ref f26))) (l26 : K.lookup f26 = some ⟨oc26, od26, .func (PySem.W.fnOf "check" "check" (C8.fnArgs (topS 26)) (C8.fnBody (topS 26)) (C8.fnScope (topS 26)) .none kV26 dc26 pm26 an26 cd26 ct26), sl26⟩) (c26h : PySem.W.codeIn K cd26 "check" = true) (k26 : PySem.W.keepIn K (.ref f26) = true)
    (a27 : PySem.W.nsIn K mainGlobals "_first_double" = some (some (.ref f27))) (l27 : K.lookup f27 = some ⟨oc27, od27, .func (PySem.W.fnOf "_first_double" "_first_double" (C8.fnArgs (topS 27)) (C8.fnBody (topS 27)) (C8.fnScope (topS 27)) .none kV27 dc27 pm27 an27 cd27 ct27), sl27⟩) (c27h : PySem.W.codeIn K cd27 "_first_double" = true) (k27 : PySem.W.keepIn K (.ref f27) = true)
    (a28 : PySem.W.nsIn K mainGlobals "_body_fault" = some (some (.ref f28))) (l28 : K.lookup f28 = some ⟨oc28, od28, .func (PySem.W.fnOf "_body_fault" "_body_fault" (C8.fnArgs (topS 28)) (C8.fnBody (topS 28)) (C8.fnScope (topS 28)) .none kV28 dc28 pm28 an28 cd28 ct28), sl28⟩) (c28h : PySem.W.codeIn K cd28 "_body_fault" = true) (k28 : PySem.W.keepIn K (.ref f28) = true)
    (a29 : PySem.W.nsIn K mainGlobals "_find_statements" = some (some (.ref f29))) (l29 : K.lookup f29 = some ⟨oc29, od29, .func (PySem.W.fnOf "_find_statements" "_find_statements" (C8.fnArgs (topS 29)) (C8.fnBody (topS 29)) (C8.fnScope (topS 29)) .none kV29 dc29 pm29 an29 cd29 ct29), sl29⟩) (c29h : PySem.W.codeIn K cd29 "_find_statements" = true) (k29 : PySem.W.keepIn K (.ref f29) = true)
    (a30 : PySem.W.nsIn K mainGlobals "checked" = some (some (.ref f30))) (l30 : K.lookup f30 = some ⟨oc30, od30, .func (PySem.W.fnOf "checked" "checked" (C8.fnArgs (topS 30)) (C8.fnBody (topS 30)) (C8.fnScope (topS 30)) .none kV30 dc30 pm30 an30 cd30 ct30), sl30⟩) (c30h : PySem.W.codeIn K cd30 "checked" = true) (k30 : PySem.W.keepIn K (.ref f30) = true)
    (a32 : PySem.W.nsIn K mainGlobals "_law_well" = some (some (.ref f32))) (l32 : K.lookup f32 = some ⟨oc32, od32, .func (PySem.W.fnOf "_law_well" "_law_well" (C8.fnArgs (topS 32)) (C8.fnBody (topS 32)) (C8.fnScope (topS 32)) .none kV32 dc32 pm32 an32 cd32 ct32), sl32⟩) (c32h : PySem.W.codeIn K cd32 "_law_well" = true) (k32 : PySem.W.keepIn K (.ref f32) = true)
    (a33 : PySem.W.nsIn K mainGlobals "_law_draw" = some (some (.ref f33))) (l33 : K.lookup f33 = some ⟨oc33, od33, .func (PySem.W.fnOf "_law_draw" "_law_draw" (C8.fnArgs (topS 33)) (C8.fnBody (topS 33)) (C8.fnScope (topS 33)) .none kV33 dc33 pm33 an33 cd33 ct33), sl33⟩) (c33h : PySem.W.codeIn K cd33 "_law_draw" = true) (k33 : PySem.W.keepIn K (.ref f33) = true)
    (a34 : PySem.W.nsIn K mainGlobals "_law_same" = some (some (.ref f34))) (l34 : K.lookup f34 = some ⟨oc34, od34, .func (PySem.W.fnOf "_law_same" "_law_same" (C8.fnArgs (topS 34)) (C8.fnBody (topS 34)) (C8.fnScope (topS 34)) .none kV34 dc34 pm34 an34 cd34 ct34), sl34⟩) (c34h : PySem.W.codeIn K cd34 "_law_same" = true) (k34 : PySem.W.keepIn K (.ref f34) = true)
    (a35 : PySem.W.nsIn K mainGlobals "_law_name" = some (some (.ref f35))) (l35 : K.lookup f35 = some ⟨oc35, od35, .func (PySem.W.fnOf "_law_name" "_law_name" (C8.fnArgs (topS 35)) (C8.fnBody (topS 35)) (C8.fnScope (topS 35)) .none kV35 dc35 pm35 an35 cd35 ct35), sl35⟩) (c35h : PySem.W.codeIn K cd35 "_law_name" = true) (k35 : PySem.W.keepIn K (.ref f35) = true)
    (a36 : PySem.W.nsIn K mainGlobals "_law_names" = some (some (.ref f36))) (l36 : K.lookup f36 = some ⟨oc36, od36, .func (PySem.W.fnOf "_law_names" "_law_names" (C8.fnArgs (topS 36)) (C8.fnBody (topS 36)) (C8.fnScope (topS 36)) .none kV36 dc36 pm36 an36 cd36 ct36), sl36⟩) (c36h : PySem.W.codeIn K cd36 "_law_names" = true) (k36 : PySem.W.keepIn K (.ref f36) = true)
    (a37 : PySem.W.nsIn K mainGlobals "_law_body" = some (some (.ref f37))) (l37 : K.lookup f37 = some ⟨oc37, od37, .func (PySem.W.fnOf "_law_body" "_law_body" (C8.fnArgs (topS 37)) (C8.fnBody (topS 37)) (C8.fnScope (topS 37)) .none kV37 dc37 pm37 an37 cd37 ct37), sl37⟩) (c37h : PySem.W.codeIn K cd37 "_law_body" = true) (k37 : PySem.W.keepIn K (.ref f37) = true)
    (a38 : PySem.W.nsIn K mainGlobals "_law_statement" = some (some (.ref f38))) (l38 : K.lookup f38 = some ⟨oc38, od38, .func (PySem.W.fnOf "_law_statement" "_law_statement" (C8.fnArgs (topS 38)) (C8.fnBody (topS 38)) (C8.fnScope (topS 38)) .none kV38 dc38 pm38 an38 cd38 ct38), sl38⟩) (c38h : PySem.W.codeIn K cd38 "_law_statement" = true) (k38 : PySem.W.keepIn K (.ref f38) = true)
    (a39 : PySem.W.nsIn K mainGlobals "_law_plan" = some (some (.ref f39))) (l39 : K.lookup f39 = some ⟨oc39, od39, .func (PySem.W.fnOf "_law_plan" "_law_plan" (C8.fnArgs (topS 39)) (C8.fnBody (topS 39)) (C8.fnScope (topS 39)) .none kV39 dc39 pm39 an39 cd39 ct39), sl39⟩) (c39h : PySem.W.codeIn K cd39 "_law_plan" = true) (k39 : PySem.W.keepIn K (.ref f39) = true)
    (a40 : PySem.W.nsIn K mainGlobals "_law_put" = some (some (.ref f40))) (l40 : K.lookup f40 = some ⟨oc40, od40, .func (PySem.W.fnOf "_law_put" "_law_put" (C8.fnArgs (topS 40)) (C8.fnBody (topS 40)) (C8.fnScope (topS 40)) .none kV40 dc40 pm40 an40 cd40 ct40), sl40⟩) (c40h : PySem.W.codeIn K cd40 "_law_put" = true) (k40 : PySem.W.keepIn K (.ref f40) = true)
    (a41 : PySem.W.nsIn K mainGlobals "_law_put_in" = some (some (.ref f41))) (l41 : K.lookup f41 = some ⟨oc41, od41, .func (PySem.W.fnOf "_law_put_in" "_law_put_in" (C8.fnArgs (topS 41)) (C8.fnBody (topS 41)) (C8.fnScope (topS 41)) .none kV41 dc41 pm41 an41 cd41 ct41), sl41⟩) (c41h : PySem.W.codeIn K cd41 "_law_put_in" = true) (k41 : PySem.W.keepIn K (.ref f41) = true)
    (a42 : PySem.W.nsIn K mainGlobals "_law_spoilt" = some (some (.ref f42))) (l42 : K.lookup f42 = some ⟨oc42, od42, .func (PySem.W.fnOf "_law_spoilt" "_law_spoilt" (C8.fnArgs (topS 42)) (C8.fnBody (topS 42)) (C8.fnScope (topS 42)) .none kV42 dc42 pm42 an42 cd42 ct42), sl42⟩) (c42h : PySem.W.codeIn K cd42 "_law_spoilt" = true) (k42 : PySem.W.keepIn K (.ref f42) = true)
    (a43 : PySem.W.nsIn K mainGlobals "_law_wrongs" = some (some (.ref f43))) (l43 : K.lookup f43 = some ⟨oc43, od43, .func (PySem.W.fnOf "_law_wrongs" "_law_wrongs" (C8.fnArgs (topS 43)) (C8.fnBody (topS 43)) (C8.fnScope (topS 43)) .none kV43 dc43 pm43 an43 cd43 ct43), sl43⟩) (c43h : PySem.W.codeIn K cd43 "_law_wrongs" = true) (k43 : PySem.W.keepIn K (.ref f43) = true)
    (a44 : PySem.W.nsIn K mainGlobals "_law_due_check" = some (some (.ref f44))) (l44 : K.lookup f44 = some ⟨oc44, od44, .func (PySem.W.fnOf "_law_due_check" "_law_due_check" (C8.fnArgs (topS 44)) (C8.fnBody (topS 44)) (C8.fnScope (topS 44)) .none kV44 dc44 pm44 an44 cd44 ct44), sl44⟩) (c44h : PySem.W.codeIn K cd44 "_law_due_check" = true) (k44 : PySem.W.keepIn K (.ref f44) = true)
    (a45 : PySem.W.nsIn K mainGlobals "_law_raised" = some (some (.ref f45))) (l45 : K.lookup f45 = some ⟨oc45, od45, .func (PySem.W.fnOf "_law_raised" "_law_raised" (C8.fnArgs (topS 45)) (C8.fnBody (topS 45)) (C8.fnScope (topS 45)) .none kV45 dc45 pm45 an45 cd45 ct45), sl45⟩) (c45h : PySem.W.codeIn K cd45 "_law_raised" = true) (k45 : PySem.W.keepIn K (.ref f45) = true)
    (a46 : PySem.W.nsIn K mainGlobals "_law_plan_right" = some (some (.ref f46))) (l46 : K.lookup f46 = some ⟨oc46, od46, .func (PySem.W.fnOf "_law_plan_right" "_law_plan_right" (C8.fnArgs (topS 46)) (C8.fnBody (topS 46)) (C8.fnScope (topS 46)) .none kV46 dc46 pm46 an46 cd46 ct46), sl46⟩) (c46h : PySem.W.codeIn K cd46 "_law_plan_right" = true) (k46 : PySem.W.keepIn K (.ref f46) = true)
    (a47 : PySem.W.nsIn K mainGlobals "_law_shared" = some (some (.ref f47))) (l47 : K.lookup f47 = some ⟨oc47, od47, .func (PySem.W.fnOf "_law_shared" "_law_shared" (C8.fnArgs (topS 47)) (C8.fnBody (topS 47)) (C8.fnScope (topS 47)) .none kV47 dc47 pm47 an47 cd47 ct47), sl47⟩) (c47h : PySem.W.codeIn K cd47 "_law_shared" = true) (k47 : PySem.W.keepIn K (.ref f47) = true)
    (a48 : PySem.W.nsIn K mainGlobals "law" = some (some (.ref f48))) (l48 : K.lookup f48 = some ⟨oc48, od48, .func (PySem.W.fnOf "law" "law" (C8.fnArgs (topS 48)) (C8.fnBody (topS 48)) (C8.fnScope (topS 48)) .none kV48 dc48 pm48 an48 cd48 ct48), sl48⟩) (c48h : PySem.W.codeIn K cd48 "law" = true) (k48 : PySem.W.keepIn K (.ref f48) = true)
    (zisinstance : PySem.W.nsIn K mainGlobals "isinstance" = some none) (zint : PySem.W.nsIn K mainGlobals "int" = some none) (zbool : PySem.W.nsIn K mainGlobals "bool" = some none) (zstr : PySem.W.nsIn K mainGlobals "str" = some none) (ztuple : PySem.W.nsIn K mainGlobals "tuple" = some none) (zlen : PySem.W.nsIn K mainGlobals "len" = some none) (zall : PySem.W.nsIn K mainGlobals "all" = some none) (zrange : PySem.W.nsIn K mainGlobals "range" = some none) (zenumerate : PySem.W.nsIn K mainGlobals "enumerate" = some none) (zlist : PySem.W.nsIn K mainGlobals "list" = some none) (zset : PySem.W.nsIn K mainGlobals "set" = some none) (zrepr : PySem.W.nsIn K mainGlobals "repr" = some none) (zsuper : PySem.W.nsIn K mainGlobals "super" = some none) 
    (mMOST_SIGNS : PySem.W.nsIn K mainGlobals "MOST_SIGNS" = some (some (.int 10 uMOST_SIGNS))) (mMOST_LETTERS : PySem.W.nsIn K mainGlobals "MOST_LETTERS" = some (some (.int 20 uMOST_LETTERS))) (mMOST_PROCEDURES : PySem.W.nsIn K mainGlobals "MOST_PROCEDURES" = some (some (.int 8 uMOST_PROCEDURES))) (mLEAST_BODIES : PySem.W.nsIn K mainGlobals "LEAST_BODIES" = some (some (.int 2 uLEAST_BODIES))) (mMOST_BODIES : PySem.W.nsIn K mainGlobals "MOST_BODIES" = some (some (.int 6 uMOST_BODIES))) (mMOST_IN_BODY : PySem.W.nsIn K mainGlobals "MOST_IN_BODY" = some (some (.int 60 uMOST_IN_BODY))) (mMOST_STATEMENTS : PySem.W.nsIn K mainGlobals "MOST_STATEMENTS" = some (some (.int 200 uMOST_STATEMENTS))) (mLONGEST_CHAIN : PySem.W.nsIn K mainGlobals "LONGEST_CHAIN" = some (some (.int 12 uLONGEST_CHAIN))) 
    (mS : PySem.W.nsIn K mainGlobals "SMALL_LETTERS" = some (some (.str smallL uS))) (mW : PySem.W.nsIn K mainGlobals "WORD_SIGNS" = some (some (.str wordS uW)))
    (mK : PySem.W.nsIn K mainGlobals "KEPT_WORDS" = some (some (.ref kw))) (lK : K.lookup kw = some ⟨.type "tuple", odkw, .seq itkw nkw, slkw⟩)
    (gN : PySem.W.nsIn K mainGlobals "NotChecked" = some (some (.ref NC))) (gD : PySem.W.nsIn K mainGlobals "DeedError" = some (some (.ref DE)))
    (iN : PySem.W.isClsIn K NC = true) (sNN : PySem.W.subIn K (.ref NC) (.ref NC) = some true) (gaN : PySem.W.findIn K (.ref NC) "__getattribute__" = some (some (.builtin "BaseException.__getattribute__"))) (ggN : PySem.W.findIn K (.ref NC) "__getattr__" = some none) (hdN : PySem.W.hasDictIn K NC = true)
    (lN : K.lookup NC = some (excClassObj nmN qN NC NN bsN bmN true snN subN abN colN ddN kk0 kk1 kk2 kk3 kk5 "ValueError.__new__"))
    (saN : PySem.W.findIn K (.ref NC) "__setattr__" = some (some (.builtin "object.__setattr__"))) (bN : PySem.W.subIn K (.ref NC) (.type "BaseException") = some true) (tN : PySem.W.typeIn K (.ref NC) = some (.type "type")) (kN : PySem.W.keepIn K (.ref NC) = true)
    (fN : PySem.W.findIn K (.ref NC) "__init__" = some (some (.ref fI))) (tI : PySem.W.typeIn K (.ref fI) = some (.type "function"))
    (lI : K.lookup fI = some ⟨ocI, odI, .func (PySem.W.ksFn "__init__" "NotChecked.__init__" (C8.fnArgs stN) (C8.fnBody stN) (C8.fnScope stN) .none kVI dcI pmI anI (.ref cda) ctI cc), slI⟩) (cI : PySem.W.codeIn K (.ref cda) "NotChecked.__init__" = true)
    (hcode : K.lookup cda = some ⟨ccl, cdd, .fields vs0, ccs⟩) (hcell : K.lookup cc = some ⟨cl, cld, .cell (some (.ref NC)), csl⟩) (hcd : PySem.W.clsIn K NC = some cdN) (hsub : PySem.W.mroIn K NC (.ref NC) = some true)
    (hBV : PySem.W.subIn K (.ref NC) (.type "ValueError") = some true) (hop : PySem.W.nsIn K cStatics "thirdparty.any" = some none) (hno : PySem.W.findIn K (.ref NC) "what" = some none)
    (vK : Vals (keptW.map V.str) itkw.toList) (wK : itkw.size ≤ sizeLine)
    (rvN : PySem.HandSPX.refsVE bmN = true) (hvs : vs0[2]? = some (.str file tf)) (hfile : ((l.prog.main.file : Str) == file) = true) (htop : (l.prog.main.scope.names.lookup ("super" : Str)).isSome = false) (hm : PySem.W.ks_superIn K NC NC "__init__" = some (some (.builtin "ValueError.__init__")))
    (t111 : K.lookup c11 = some ⟨oct11, odt11, .fields vst11, slt11⟩) (t211 : vst11[11]? = some (.ref T11)) (t311 : K.lookup T11 = none) (t411 : (recsOf q).find? (fun e => e.name == ("is_name" : Str)) = some d11)
    (t120 : K.lookup c20 = some ⟨oct20, odt20, .fields vst20, slt20⟩) (t220 : vst20[11]? = some (.ref T20)) (t320 : K.lookup T20 = none) (t420 : (recsOf q).find? (fun e => e.name == ("is_program" : Str)) = some d20)
     : ∃ cs : List (Addr × Addr), (∀ p ∈ cs, h.get? p.2 = some { cls := .none, data := .fields #[] }) ∧ (∀ p ∈ cs, K.lookup p.2 = none) ∧ (∀ p ∈ cs, PySem.W.CodeHd h p.1 p.2) ∧
        ∀ (base : Heap) (s : Shared) (H : Hp) (a : Addr) (ns : List Int), (∀ p ∈ cs, LamX.TabB base mg p.1 p.2) → Env0 l.prog w K mg base callerA [] s H → (∀ p ∈ cs, H p.2 = some (.tbl #[])) → SqL K H a (ns.map V.int) → ns.length ≤ 1000 →
          codeAny (model l.prog w) callerA (.call (.ref fa) ⟨[.ref a], []⟩) (CR C8.CX0 [] l.prog w H s (fun v _ => v = .bl true) C8.E0) s := by
  have G := TT.g
  have e := hfa.symm.trans (PySem.W.mg_of X G a48)
  cases e
  have F5 : C8.Def K mg "is_row" (topS 5) _ _ := ⟨⟨_, _, _, _, _, _, _, _, _, _, rfl, l5, c5h⟩, PySem.W.mg_of X G a5, k5⟩
  have b5 := C8.Fun.binds F5.fn rfl (ps := ["thing", "low", "high"]) fun _ _ _ _ _ _ us hl => match us, hl with | [_, _, _], _ => rfl
  have F11 : C8.Def K mg "is_name" (topS 11) _ _ := ⟨⟨_, _, _, _, _, _, _, _, _, _, rfl, l11, c11h⟩, PySem.W.mg_of X G a11, k11⟩
  have b11 := C8.Fun.binds F11.fn rfl (ps := ["thing"]) fun _ _ _ _ _ _ us hl => match us, hl with | [_], _ => rfl
  have F20 : C8.Def K mg "is_program" (topS 20) _ _ := ⟨⟨_, _, _, _, _, _, _, _, _, _, rfl, l20, c20h⟩, PySem.W.mg_of X G a20, k20⟩
  have b20 := C8.Fun.binds F20.fn rfl (ps := ["thing"]) fun _ _ _ _ _ _ us hl => match us, hl with | [_], _ => rfl
  have F21 : C8.Def K mg "_are_bodies" (topS 21) _ _ := ⟨⟨_, _, _, _, _, _, _, _, _, _, rfl, l21, c21h⟩, PySem.W.mg_of X G a21, k21⟩
  have b21 := C8.Fun.binds F21.fn rfl (ps := ["bodies"]) fun _ _ _ _ _ _ us hl => match us, hl with | [_], _ => rfl
  have F22 : C8.Def K mg "_is_statement" (topS 22) _ _ := ⟨⟨_, _, _, _, _, _, _, _, _, _, rfl, l22, c22h⟩, PySem.W.mg_of X G a22, k22⟩
  have b22 := C8.Fun.binds F22.fn rfl (ps := ["thing"]) fun _ _ _ _ _ _ us hl => match us, hl with | [_], _ => rfl
  have F23 : C8.Def K mg "bodies_of" (topS 23) _ _ := ⟨⟨_, _, _, _, _, _, _, _, _, _, rfl, l23, c23h⟩, PySem.W.mg_of X G a23, k23⟩
  have b23 := C8.Fun.binds F23.fn rfl (ps := ["statement"]) fun _ _ _ _ _ _ us hl => match us, hl with | [_], _ => rfl
  have F24 : C8.Def K mg "want_program" (topS 24) _ _ := ⟨⟨_, _, _, _, _, _, _, _, _, _, rfl, l24, c24h⟩, PySem.W.mg_of X G a24, k24⟩
  have b24 := C8.Fun.binds F24.fn rfl (ps := ["program"]) fun _ _ _ _ _ _ us hl => match us, hl with | [_], _ => rfl
  have F26 : C8.Def K mg "check" (topS 26) _ _ := ⟨⟨_, _, _, _, _, _, _, _, _, _, rfl, l26, c26h⟩, PySem.W.mg_of X G a26, k26⟩
  have b26 := C8.Fun.binds F26.fn rfl (ps := ["program"]) fun _ _ _ _ _ _ us hl => match us, hl with | [_], _ => rfl
  have F27 : C8.Def K mg "_first_double" (topS 27) _ _ := ⟨⟨_, _, _, _, _, _, _, _, _, _, rfl, l27, c27h⟩, PySem.W.mg_of X G a27, k27⟩
  have b27 := C8.Fun.binds F27.fn rfl (ps := ["names"]) fun _ _ _ _ _ _ us hl => match us, hl with | [_], _ => rfl
  have F28 : C8.Def K mg "_body_fault" (topS 28) _ _ := ⟨⟨_, _, _, _, _, _, _, _, _, _, rfl, l28, c28h⟩, PySem.W.mg_of X G a28, k28⟩
  have b28 := C8.Fun.binds F28.fn rfl (ps := ["body", "letters", "names"]) fun _ _ _ _ _ _ us hl => match us, hl with | [_, _, _], _ => rfl
  have F29 : C8.Def K mg "_find_statements" (topS 29) _ _ := ⟨⟨_, _, _, _, _, _, _, _, _, _, rfl, l29, c29h⟩, PySem.W.mg_of X G a29, k29⟩
  have b29 := C8.Fun.binds F29.fn rfl (ps := ["body", "is_second", "found"]) fun _ _ _ _ _ _ us hl => match us, hl with | [_, _, _], _ => rfl
  have F30 : C8.Def K mg "checked" (topS 30) _ _ := ⟨⟨_, _, _, _, _, _, _, _, _, _, rfl, l30, c30h⟩, PySem.W.mg_of X G a30, k30⟩
  have b30 := C8.Fun.binds F30.fn rfl (ps := ["program"]) fun _ _ _ _ _ _ us hl => match us, hl with | [_], _ => rfl
  have F32 : C8.Def K mg "_law_well" (topS 32) _ _ := ⟨⟨_, _, _, _, _, _, _, _, _, _, rfl, l32, c32h⟩, PySem.W.mg_of X G a32, k32⟩
  have b32 := C8.Fun.binds F32.fn rfl (ps := ["script"]) fun _ _ _ _ _ _ us hl => match us, hl with | [_], _ => rfl
  have F33 : C8.Def K mg "_law_draw" (topS 33) _ _ := ⟨⟨_, _, _, _, _, _, _, _, _, _, rfl, l33, c33h⟩, PySem.W.mg_of X G a33, k33⟩
  have b33 := C8.Fun.binds F33.fn rfl (ps := ["well", "many"]) fun _ _ _ _ _ _ us hl => match us, hl with | [_, _], _ => rfl
  have F34 : C8.Def K mg "_law_same" (topS 34) _ _ := ⟨⟨_, _, _, _, _, _, _, _, _, _, rfl, l34, c34h⟩, PySem.W.mg_of X G a34, k34⟩
  have b34 := C8.Fun.binds F34.fn rfl (ps := ["found", "due"]) fun _ _ _ _ _ _ us hl => match us, hl with | [_, _], _ => rfl
  have F35 : C8.Def K mg "_law_name" (topS 35) _ _ := ⟨⟨_, _, _, _, _, _, _, _, _, _, rfl, l35, c35h⟩, PySem.W.mg_of X G a35, k35⟩
  have b35 := C8.Fun.binds F35.fn rfl (ps := ["well", "taken"]) fun _ _ _ _ _ _ us hl => match us, hl with | [_, _], _ => rfl
  have F36 : C8.Def K mg "_law_names" (topS 36) _ _ := ⟨⟨_, _, _, _, _, _, _, _, _, _, rfl, l36, c36h⟩, PySem.W.mg_of X G a36, k36⟩
  have b36 := C8.Fun.binds F36.fn rfl (ps := ["well", "many"]) fun _ _ _ _ _ _ us hl => match us, hl with | [_, _], _ => rfl
  have F37 : C8.Def K mg "_law_body" (topS 37) _ _ := ⟨⟨_, _, _, _, _, _, _, _, _, _, rfl, l37, c37h⟩, PySem.W.mg_of X G a37, k37⟩
  have b37 := C8.Fun.binds F37.fn rfl (ps := ["well", "deep", "heads", "is_second", "room"]) fun _ _ _ _ _ _ us hl => match us, hl with | [_, _, _, _, _], _ => rfl
  have F38 : C8.Def K mg "_law_statement" (topS 38) _ _ := ⟨⟨_, _, _, _, _, _, _, _, _, _, rfl, l38, c38h⟩, PySem.W.mg_of X G a38, k38⟩
  have b38 := C8.Fun.binds F38.fn rfl (ps := ["well", "deep", "heads", "is_second", "room"]) fun _ _ _ _ _ _ us hl => match us, hl with | [_, _, _, _, _], _ => rfl
  have F39 : C8.Def K mg "_law_plan" (topS 39) _ _ := ⟨⟨_, _, _, _, _, _, _, _, _, _, rfl, l39, c39h⟩, PySem.W.mg_of X G a39, k39⟩
  have b39 := C8.Fun.binds F39.fn rfl (ps := ["well", "size"]) fun _ _ _ _ _ _ us hl => match us, hl with | [_, _], _ => rfl
  have F40 : C8.Def K mg "_law_put" (topS 40) _ _ := ⟨⟨_, _, _, _, _, _, _, _, _, _, rfl, l40, c40h⟩, PySem.W.mg_of X G a40, k40⟩
  have b40 := C8.Fun.binds F40.fn rfl (ps := ["well", "body", "statement"]) fun _ _ _ _ _ _ us hl => match us, hl with | [_, _, _], _ => rfl
  have F41 : C8.Def K mg "_law_put_in" (topS 41) _ _ := ⟨⟨_, _, _, _, _, _, _, _, _, _, rfl, l41, c41h⟩, PySem.W.mg_of X G a41, k41⟩
  have b41 := C8.Fun.binds F41.fn rfl (ps := ["well", "outer", "statement"]) fun _ _ _ _ _ _ us hl => match us, hl with | [_, _, _], _ => rfl
  have F42 : C8.Def K mg "_law_spoilt" (topS 42) _ _ := ⟨⟨_, _, _, _, _, _, _, _, _, _, rfl, l42, c42h⟩, PySem.W.mg_of X G a42, k42⟩
  have b42 := C8.Fun.binds F42.fn rfl (ps := ["well", "plan"]) fun _ _ _ _ _ _ us hl => match us, hl with | [_, _], _ => rfl
  have F43 : C8.Def K mg "_law_wrongs" (topS 43) _ _ := ⟨⟨_, _, _, _, _, _, _, _, _, _, rfl, l43, c43h⟩, PySem.W.mg_of X G a43, k43⟩
  have b43 := C8.Fun.binds F43.fn rfl (ps := ["body", "is_second", "heads"]) fun _ _ _ _ _ _ us hl => match us, hl with | [_, _, _], _ => rfl
  have F44 : C8.Def K mg "_law_due_check" (topS 44) _ _ := ⟨⟨_, _, _, _, _, _, _, _, _, _, rfl, l44, c44h⟩, PySem.W.mg_of X G a44, k44⟩
  have b44 := C8.Fun.binds F44.fn rfl (ps := ["plan"]) fun _ _ _ _ _ _ us hl => match us, hl with | [_], _ => rfl
  have F45 : C8.Def K mg "_law_raised" (topS 45) _ _ := ⟨⟨_, _, _, _, _, _, _, _, _, _, rfl, l45, c45h⟩, PySem.W.mg_of X G a45, k45⟩
  have b45 := C8.Fun.binds F45.fn rfl (ps := ["plan", "named"]) fun _ _ _ _ _ _ us hl => match us, hl with | [_, _], _ => rfl
  have F46 : C8.Def K mg "_law_plan_right" (topS 46) _ _ := ⟨⟨_, _, _, _, _, _, _, _, _, _, rfl, l46, c46h⟩, PySem.W.mg_of X G a46, k46⟩
  have b46 := C8.Fun.binds F46.fn rfl (ps := ["plan"]) fun _ _ _ _ _ _ us hl => match us, hl with | [_], _ => rfl
  have F47 : C8.Def K mg "_law_shared" (topS 47) _ _ := ⟨⟨_, _, _, _, _, _, _, _, _, _, rfl, l47, c47h⟩, PySem.W.mg_of X G a47, k47⟩
  have b47 := C8.Fun.binds F47.fn rfl (ps := ["well"]) fun _ _ _ _ _ _ us hl => match us, hl with | [_], _ => rfl
  have F48 : C8.Def K mg "law" (topS 48) _ _ := ⟨⟨_, _, _, _, _, _, _, _, _, _, rfl, l48, c48h⟩, PySem.W.mg_of X G a48, k48⟩
  have b48 := C8.Fun.binds F48.fn rfl (ps := ["script"]) fun _ _ _ _ _ _ us hl => match us, hl with | [_], _ => rfl
  have B : Bl K mg := ⟨PySem.W.mg_none_of X G zisinstance, PySem.W.mg_none_of X G zint, PySem.W.mg_none_of X G zbool, PySem.W.mg_none_of X G zstr, PySem.W.mg_none_of X G ztuple, PySem.W.mg_none_of X G zlen, PySem.W.mg_none_of X G zall, PySem.W.mg_none_of X G zrange, PySem.W.mg_none_of X G zenumerate, PySem.W.mg_none_of X G zlist, PySem.W.mg_none_of X G zset, PySem.W.mg_none_of X G zrepr, ⟨_, PySem.W.mg_of X G mMOST_SIGNS⟩, ⟨_, PySem.W.mg_of X G mMOST_LETTERS⟩, ⟨_, PySem.W.mg_of X G mMOST_PROCEDURES⟩, ⟨_, PySem.W.mg_of X G mLEAST_BODIES⟩, ⟨_, PySem.W.mg_of X G mMOST_BODIES⟩, ⟨_, PySem.W.mg_of X G mMOST_IN_BODY⟩, ⟨_, PySem.W.mg_of X G mMOST_STATEMENTS⟩, ⟨_, PySem.W.mg_of X G mLONGEST_CHAIN⟩, ⟨_, PySem.W.mg_of X G mS⟩, ⟨_, PySem.W.mg_of X G mW⟩, ⟨kw, PySem.W.mg_of X G mK, fun H => .inr ⟨_, itkw, nkw, lK, rfl, rfl, wK, vK⟩⟩⟩
  have tb11 := PySem.W.tab_of TT X t411 (in_kit a11 l11 t111 t211)
  have tb20 := PySem.W.tab_of TT X t420 (in_kit a20 l20 t120 t220)
  refine ⟨[(c11, T11), (c20, T20)], ?hT, ?nT, ?hC, fun base s H a ns tabs e0 free sq hln => ?run⟩
  case hT =>
    intro p hp
    rcases List.mem_cons.mp hp with rfl | hp
    · exact tb11.2
    · cases List.mem_singleton.mp hp
      exact tb20.2
  case nT =>
    intro p hp
    rcases List.mem_cons.mp hp with rfl | hp
    · exact t311
    · cases List.mem_singleton.mp hp
      exact t320
  case hC =>
    intro p hp
    rcases List.mem_cons.mp hp with rfl | hp
    · exact tb11.1
    · cases List.mem_singleton.mp hp
      exact tb20.1
  case run =>
    have hTs : Tbs [T11, T20] H := fun T' hT' => by
      rcases List.mem_cons.mp hT' with rfl | hT'
      · exact ⟨#[], free (c11, _) (by simp), trivial⟩
      · cases List.mem_singleton.mp hT'
        exact ⟨#[], free (c20, _) (by simp), trivial⟩
    have TN : OexC K NC := ⟨⟨_, _, _, _, _, _, _, _, _, _, _, _, _, _, _, lN, rvN⟩, saN, bN, tN, kN⟩
    obtain ⟨FI, bI⟩ := init_ok (P := l.prog) (w := w) (mg := mg) (base := base) TN lI cI hcode hvs hfile hcell hcd hsub (PySem.W.mg_none_of X G zsuper) htop hm hBV hop hno
    have RN : RsN l.prog w K mg base NC := ⟨PySem.W.mg_of X G gN, TN, _, _, fN, tI, FI, bI⟩
    have XN : ExN K mg NC DE := ⟨⟨gaN, ggN, bN, hdN⟩, hno, PySem.W.mg_of X G gD, exm_is bN iN tN sNN⟩
    have c_row := ok_is_row (P := l.prog) (w := w) (base := base) F5 b5 B
    have f_name := ok_is_name (P := l.prog) (w := w) (Ts := [T11, T20]) (T := T11) l11 c11h (tabs (c11, T11) (by simp)) (by simp) B
    have c_name : C8.Cal l.prog w K mg base 4 "is_name" (spName K [T11, T20]) [] := ⟨_, _, _, _, f_name, F11.mgf, k11, b11, .nil⟩
    have c_bod := ok_bodies_of (P := l.prog) (w := w) (base := base) F23 b23 B
    have c_stm := ok__is_statement F22 b22 B c_row c_name
    have c_bods := ok__are_bodies F21 b21 B c_row c_stm c_bod
    have f_prog := ok_is_program (P := l.prog) (w := w) (Ts := [T11, T20]) (T := T20) l20 c20h (tabs (c20, T20) (by simp)) (by simp) B c_row c_name c_bods
    have c_prog : C8.Cal l.prog w K mg base 8 "is_program" (spProg K [T11, T20]) [] := ⟨_, _, _, _, f_prog, F20.mgf, k20, b20, .nil⟩
    have c_want := ok_want_program F24 b24 B c_prog
    have c_fdT := ok_fdT (P := l.prog) (w := w) (base := base) F27 b27 B
    have c_fdL := ok_fdL (P := l.prog) (w := w) (base := base) F27 b27 B
    have c_fs := fs_all F29 b29 B c_bod 13
    have c_bf := ok__body_fault F28 b28 B c_fs
    have f_check := fo_check F26 b26 B c_want c_fdT c_fdL c_bf
    have c_check : C8.Cal l.prog w K mg base 17 "check" (spCheck K [T11, T20]) [] := ⟨_, _, _, _, f_check, F26.mgf, k26, b26, .nil⟩
    have f_cd := ok_checked F30 B RN c_check
    have c_rz := ok__law_raised F45 b45 B RN XN f_cd F30.mgf k30 b30 ?kb1
    case kb1 =>
      refine ⟨fun s us ws _ hl => ?_, fun r rz => r.append rz⟩
      match us, ws, hl with
      | [], [_], _ => exact .of_eq rfl
      | [_], [], _ => exact .of_eq rfl
      | [], [], hl => cases hl
      | [_], _ :: _, hl => simp at hl
      | [], _ :: _ :: _, hl => simp at hl
      | _ :: _ :: _, _, hl => simp at hl
    have c_wr := wr_all (P := l.prog) (w := w) (base := base) F43 b43 B 13
    have c_due := ok__law_due_check F44 b44 B c_wr
    have c_same := same_all (P := l.prog) (w := w) (base := base) F34 b34 B 5
    have c_pr := ok_plan_right F46 b46 B c_due c_same c_check f_check F26.mgf k26 ?kb2 c_rz
    case kb2 =>
      refine ⟨fun s us ws _ hl => ?_, fun r rz => r.append rz⟩
      match us, ws, hl with
      | [], [_], _ => exact .of_eq rfl
      | [_], [], _ => exact .of_eq rfl
      | [], [], hl => cases hl
      | [_], _ :: _, hl => simp at hl
      | [], _ :: _ :: _, hl => simp at hl
      | _ :: _ :: _, _, hl => simp at hl
    have c_well := ok__law_well (P := l.prog) (w := w) (base := base) F32 b32 B
    have c_draw := ok__law_draw (P := l.prog) (w := w) (base := base) F33 b33 B
    have c_lname := ok__law_name F35 b35 B c_draw
    have c_names := ok__law_names F36 b36 B c_lname
    have c_body := drw9 F37 b37 F38 b38 B c_draw 8
    have c_plan := ok__law_plan F39 b39 B c_draw c_names c_body
    have c_put := put_all F40 b40 F41 b41 B c_draw 12
    have c_sp := ok__law_spoilt F42 b42 B c_draw c_lname c_put
    have c_sh := ok__law_shared F47 b47 B c_draw c_names c_body
    exact (ok_law F48.fn B c_well c_plan c_sp c_sh c_pr).run callerA [] s H (.ref a) (.ref a) (fun v _ => v = .bl true) rfl ⟨rfl, by decide +kernel, by decide +kernel⟩ e0 (.of_eq rfl) rfl ⟨a, ns, rfl, hln, sq, hTs, fun _ => rfl⟩
end K04


open PySem PySem.W PyProof.Rows
set_option maxRecDepth 100000 in
set_option maxHeartbeats 0 in
theorem PySem.Challenge.cw_undoneall_k04_whole_programs_checked_holds : PySem.Challenge.rw_undoneall_k04_whole_programs_checked.Holds := by
  w_on; o_law; k_head; (case hw => w_witness2)
  k_fill
  refine K04.walk (l := PySem.Challenge.rw_undoneall_k04_whole_programs_checked) (n := 63) (x := "script") rfl (by decide) rfl (fun w h Y => PySem.W.kIn_of Y) ?F
  case F =>
    intro w lo mean mg mb fa h TT KX hmg
    refine' K04.all_mk TT KX hmg ?a5 ?l5 ?c5h ?k5 ?a11 ?l11 ?c11h ?k11 ?a20 ?l20 ?c20h ?k20 ?a21 ?l21 ?c21h ?k21 ?a22 ?l22 ?c22h ?k22 ?a23 ?l23 ?c23h ?k23 ?a24 ?l24 ?c24h ?k24 ?a26 ?l26 ?c26h ?k26 ?a27 ?l27 ?c27h ?k27 ?a28 ?l28 ?c28h ?k28 ?a29 ?l29 ?c29h ?k29 ?a30 ?l30 ?c30h ?k30 ?a32 ?l32 ?c32h ?k32 ?a33 ?l33 ?c33h ?k33 ?a34 ?l34 ?c34h ?k34 ?a35 ?l35 ?c35h ?k35 ?a36 ?l36 ?c36h ?k36 ?a37 ?l37 ?c37h ?k37 ?a38 ?l38 ?c38h ?k38 ?a39 ?l39 ?c39h ?k39 ?a40 ?l40 ?c40h ?k40 ?a41 ?l41 ?c41h ?k41 ?a42 ?l42 ?c42h ?k42 ?a43 ?l43 ?c43h ?k43 ?a44 ?l44 ?c44h ?k44 ?a45 ?l45 ?c45h ?k45 ?a46 ?l46 ?c46h ?k46 ?a47 ?l47 ?c47h ?k47 ?a48 ?l48 ?c48h ?k48 ?zisinstance ?zint ?zbool ?zstr ?ztuple ?zlen ?zall ?zrange ?zenumerate ?zlist ?zset ?zrepr ?zsuper ?mMOST_SIGNS ?mMOST_LETTERS ?mMOST_PROCEDURES ?mLEAST_BODIES ?mMOST_BODIES ?mMOST_IN_BODY ?mMOST_STATEMENTS ?mLONGEST_CHAIN ?mS ?mW ?mK ?lK ?gN ?gD ?iN ?sNN ?gaN ?ggN ?hdN ?lN ?saN ?bN ?tN ?kN ?fN ?tI ?lI ?cI ?hcode ?hcell ?hcd ?hsub ?hBV ?hop ?hno ?vK ?wK ?rvN ?hvs ?hfile ?htop ?hm ?t111 ?t211 ?t311 ?t411 ?t120 ?t220 ?t320 ?t420
    (case gN => k_is)
    (case gD => k_is)
    (case a5 => k_is)
    (case l5 => k_is)
    (case c5h => k_is)
    (case k5 => k_is)
    (case a11 => k_is)
    (case l11 => k_is)
    (case c11h => k_is)
    (case k11 => k_is)
    (case a20 => k_is)
    (case l20 => k_is)
    (case c20h => k_is)
    (case k20 => k_is)
    (case a21 => k_is)
    (case l21 => k_is)
    (case c21h => k_is)
    (case k21 => k_is)
    (case a22 => k_is)
    (case l22 => k_is)
    (case c22h => k_is)
    (case k22 => k_is)
    (case a23 => k_is)
    (case l23 => k_is)
    (case c23h => k_is)
    (case k23 => k_is)
    (case a24 => k_is)
    (case l24 => k_is)
    (case c24h => k_is)
    (case k24 => k_is)
    (case a26 => k_is)
    (case l26 => k_is)
    (case c26h => k_is)
    (case k26 => k_is)
    (case a27 => k_is)
    (case l27 => k_is)
    (case c27h => k_is)
    (case k27 => k_is)
    (case a28 => k_is)
    (case l28 => k_is)
    (case c28h => k_is)
    (case k28 => k_is)
    (case a29 => k_is)
    (case l29 => k_is)
    (case c29h => k_is)
    (case k29 => k_is)
    (case a30 => k_is)
    (case l30 => k_is)
    (case c30h => k_is)
    (case k30 => k_is)
    (case a32 => k_is)
    (case l32 => k_is)
    (case c32h => k_is)
    (case k32 => k_is)
    (case a33 => k_is)
    (case l33 => k_is)
    (case c33h => k_is)
    (case k33 => k_is)
    (case a34 => k_is)
    (case l34 => k_is)
    (case c34h => k_is)
    (case k34 => k_is)
    (case a35 => k_is)
    (case l35 => k_is)
    (case c35h => k_is)
    (case k35 => k_is)
    (case a36 => k_is)
    (case l36 => k_is)
    (case c36h => k_is)
    (case k36 => k_is)
    (case a37 => k_is)
    (case l37 => k_is)
    (case c37h => k_is)
    (case k37 => k_is)
    (case a38 => k_is)
    (case l38 => k_is)
    (case c38h => k_is)
    (case k38 => k_is)
    (case a39 => k_is)
    (case l39 => k_is)
    (case c39h => k_is)
    (case k39 => k_is)
    (case a40 => k_is)
    (case l40 => k_is)
    (case c40h => k_is)
    (case k40 => k_is)
    (case a41 => k_is)
    (case l41 => k_is)
    (case c41h => k_is)
    (case k41 => k_is)
    (case a42 => k_is)
    (case l42 => k_is)
    (case c42h => k_is)
    (case k42 => k_is)
    (case a43 => k_is)
    (case l43 => k_is)
    (case c43h => k_is)
    (case k43 => k_is)
    (case a44 => k_is)
    (case l44 => k_is)
    (case c44h => k_is)
    (case k44 => k_is)
    (case a45 => k_is)
    (case l45 => k_is)
    (case c45h => k_is)
    (case k45 => k_is)
    (case a46 => k_is)
    (case l46 => k_is)
    (case c46h => k_is)
    (case k46 => k_is)
    (case a47 => k_is)
    (case l47 => k_is)
    (case c47h => k_is)
    (case k47 => k_is)
    (case a48 => k_is)
    (case l48 => k_is)
    (case c48h => k_is)
    (case k48 => k_is)
    (case zisinstance => k_is)
    (case zint => k_is)
    (case zbool => k_is)
    (case zstr => k_is)
    (case ztuple => k_is)
    (case zlen => k_is)
    (case zall => k_is)
    (case zrange => k_is)
    (case zenumerate => k_is)
    (case zlist => k_is)
    (case zset => k_is)
    (case zrepr => k_is)
    (case zsuper => k_is)
    (case mMOST_SIGNS => k_is)
    (case mMOST_LETTERS => k_is)
    (case mMOST_PROCEDURES => k_is)
    (case mLEAST_BODIES => k_is)
    (case mMOST_BODIES => k_is)
    (case mMOST_IN_BODY => k_is)
    (case mMOST_STATEMENTS => k_is)
    (case mLONGEST_CHAIN => k_is)
    (case mS => k_is)
    (case mW => k_is)
    (case mK => k_is)
    (case lK => k_is)
    (case iN => k_is)
    (case sNN => k_is)
    (case gaN => k_is)
    (case ggN => k_is)
    (case hdN => k_is)
    (case lN => k_is)
    (case saN => k_is)
    (case bN => k_is)
    (case tN => k_is)
    (case kN => k_is)
    (case fN => k_is)
    (case tI => k_is)
    (case lI => k_is)
    (case cI => k_is)
    (case hcode => k_is)
    (case hcell => k_is)
    (case hcd => k_is)
    (case hsub => k_is)
    (case hBV => k_is)
    (case hop => k_is)
    (case hno => k_is)
    (case t111 => k_is)
    (case t120 => k_is)
    (case vK => exact .cons ⟨_, rfl⟩ (.cons ⟨_, rfl⟩ (.cons ⟨_, rfl⟩ (.cons ⟨_, rfl⟩ (.cons ⟨_, rfl⟩ (.cons ⟨_, rfl⟩ (.cons ⟨_, rfl⟩ (.cons ⟨_, rfl⟩ (.cons ⟨_, rfl⟩ (.cons ⟨_, rfl⟩ (.cons ⟨_, rfl⟩ (.nil))))))))))))
    (case wK => show 11 ≤ _; decide)
    (case rvN => first | rfl | decide)
    (case hvs => rfl)
    (case hfile => first | rfl | decide +kernel)
    (case htop => first | rfl | decide +kernel)
    (case hm => ks_is)
    (case t211 => rfl)
    (case t311 => first | rfl | kernel_rfl | decide)
    (case t411 => rfl)
    (case t220 => rfl)
    (case t320 => first | rfl | kernel_rfl | decide)
    (case t420 => rfl)

