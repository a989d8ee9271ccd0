import PyProof.Rows.All
import Wide.All
import OpenK.AllK
import Wide.FinOn
import HandS.AnyAll
import HandS.GenOver
import PyProof.GenQ
import HandS.Lambda
import HandS.Iter
import HandS.TupMul
import KE.GoesMore
import KE.GoesEnum
import HandS.TupAny
import HandS.Style
import HandS.ForMost
import HandS.Codes
import HandS.IsInst
import HandS.Wide
import HandS.Conv
import HandS.EndTab
import HandS.RaiseMore
import PySem.Challenge.RW_undoneall_k34_straight_texts_judged
set_option Elab.async false
set_option linter.all false
set_option maxRecDepth 100000
set_option maxHeartbeats 4000000
/-! all(elt for target in iter), whatever PI walks: the element is judged in the generator's own frame -/
namespace UG
open PySem PySem.Spec PyProof.Rows L2

abbrev gcx (X : Cx) (A : Around) (N : List Str) (s : Shared) (H : Hp) (env : Env) (fp : List Addr) : Cx :=
  { X with
    A := A, N := N, s_0 := s, H_0 := H, env := env, outer := X.stack,
    stack := env :: X.stack, ex := fp, fn := fun _ => false,
    calm := true, pn := [], xe := fun _ _ => False }

structure GenSc (scope : Scope) : Prop where
  kind : scope.kind = .function
  co : scope.isCoroutine = false
  cell : ∀ y ∈ scope.names, y.2 ≠ .cell
  free : ∀ y ∈ scope.names, y.2 ≠ .free
  dot : scope.names.lookup (".0" : Str) = some NameKind.local

/-- the generator's environment -/
abbrev gev (X : Cx) (scope : Scope) (C : Addr) (code : Value) : Env :=
  genEnv scope (cloFrom X.env.cells scope.names []) C code builtinsNs X.env

section
variable {X : Cx} {pins : List (Addr × Obj)} {σ : L2.St} {H : Hp} {s : Shared} {scope : Scope}

theorem gev_cells (S : GenSc scope) {C : Addr} {code : Value} {x : Str} {c : Addr}
    (e : (gev X scope C code).cells.lookup x = some c) : False := by
  have m := PySem.mem_of_lookup e
  rcases cloFrom_mem (show (x, c) ∈ cloFrom X.env.cells scope.names [] from m) with z | ⟨z, _⟩
  · cases z
  · exact S.free _ z rfl

theorem gev_kind (S : GenSc scope) {C : Addr} {code : Value} {x : Str}
    (h : (gev X scope C code).kindOf x = some .cell ∨ (gev X scope C code).kindOf x = some .free) : False := by
  rcases h with h | h
  · exact S.cell _ (PySem.mem_of_lookup (show scope.names.lookup x = some NameKind.cell from h)) rfl
  · exact S.free _ (PySem.mem_of_lookup (show scope.names.lookup x = some NameKind.free from h)) rfl

theorem stk_lt (I : Inv X pins σ H s) {b : Addr} (hb : b ∈ frs X.stack) : b < s.heap.objs.size := by
  rcases List.mem_cons.mp (I.stkSub b hb) with e | z
  · rw [e]; exact I.lt
  · rcases Nat.lt_or_ge b s.heap.objs.size with h | h
    · exact h
    · exact absurd z (I.nofs h)

/-- the generator's frame, as it begins -/
theorem gen_begin (I : Inv X pins σ H s) (S : GenSc scope) {fp : List Addr} {N : List Str} {A' : Around} {code : Value} {s5 : Shared} {a : Addr} {go : Obj} {m : Str → Option Value}
    (hfp : ∀ b ∈ fp, FpOk X pins H b ∧ b < s.heap.objs.size) (hhd : A'.handled = none)
    (hfr : A'.frames = some (gev X scope s.heap.objs.size code :: X.stack))
    (kp : ∀ b o, s.heap.get? b = some o → s5.heap.get? b = some o) (hos : s5.os = s.os) (hb5 : AllBare s5.gens)
    (hns : s5.heap.Ns s.heap.objs.size m) (ha : s.heap.objs.size < a) (hgo : s5.heap.get? a = some go) (hdat : ∀ v, go.data ≠ .cell v) :
    Inv (gcx X A' N s H (gev X scope s.heap.objs.size code) fp) [(a, go)] (N.map fun _ => none) H s5 := by
  have okG : (gcx X A' N s H (gev X scope s.heap.objs.size code) fp).Ok := by
    refine ⟨I.ok.mod, S.kind, I.ok.glob, rfl, Nat.le_refl _, ?_, ?_, ?_, fun _ => hhd, hfr, .inr ⟨rfl, rfl⟩, ?_, I.bs, Nat.le_trans I.ok.bsz I.sz, ?_, ?_, I.stack, I.stkFree⟩
    · intro x y c e _
      exact (gev_cells S e).elim
    · intro x h
      exact (gev_kind S h).elim
    · intro x c h _
      cases h
    · intro b hb
      refine ⟨Nat.ne_of_lt (hfp b hb).2, ?_⟩
      intro x c e
      exact (gev_cells S e).elim
    · intro b o e hb
      rcases (hfp b hb).1.2.2.2.1 with z | z
      · exact I.ok.noex b o e z
      · have h1 := Heap.lt_size e
        have h2 := I.ok.bsz
        exact absurd (Nat.lt_of_lt_of_le h1 (Nat.le_trans h2 z)) (Nat.lt_irrefl _)
    · intro b hb z
      rcases List.mem_cons.mp (I.stkSub b z) with y | y
      · exact (hfp b hb).1.2.1 y
      · exact (hfp b hb).1.2.2.1 y
  refine ⟨okG, hos, hb5, Un.kept kp, ⟨m, hns, ?_⟩, ?_, I.hok.fresh (Nat.le_refl _), ?_, ?_, I.hok.kept kp, ?_⟩
  · intro i x v _ e _
    rw [List.getElem?_map] at e
    cases q : (gcx X A' N s H (gev X scope s.heap.objs.size code) fp).N[i]? with
    | none =>
      have q' : N[i]? = none := q
      rw [q'] at e; cases e
    | some y =>
      have q' : N[i]? = some y := q
      rw [q'] at e; cases e
  · intro x c e
    exact (gev_cells S e).elim
  · intro x c e
    exact (gev_cells S e).elim
  · intro p hp
    have e : p = (a, go) := by simpa using hp
    subst e
    refine ⟨hgo, I.hok.fresh (Nat.le_of_lt ha), Nat.ne_of_gt ha, ?_, hdat⟩
    intro z
    exact absurd (Nat.lt_trans ha (stk_lt I z)) (Nat.lt_irrefl _)
  · show (N.map _).length = N.length
    rw [List.length_map]

/-- what is held of the callers' frame when the generator's is left -/
theorem gen_back {fp : List Addr} {N : List Str} {A' : Around} {env : Env} {s' : Shared} {H' : Hp} {σ' : L2.St} {pg : List (Addr × Obj)}
    (I : Inv X pins σ H s) (hfp : ∀ b ∈ fp, FpOk X pins H b) (J : Inv (gcx X A' N s H env fp) pg σ' H' s') : Inv X pins σ H' s' :=
  I.call' (ch := fp) J.os J.base J.hok J.bare fun b hb => by
    obtain ⟨_, h1, _, h3, h4, h5⟩ := hfp b hb
    exact ⟨h3, h1, h4, h5⟩
end
end UG


set_option Elab.async false
set_option linter.all false
set_option maxRecDepth 100000
set_option maxHeartbeats 4000000
namespace UG
open PySem PySem.Spec PyProof.Rows L2

/-- the generator's loop code -/
abbrev geLoop (elt tg iter : Expr) (scope : Scope) (gpos : Pos) (it : Addr) (env : Env) : Code :=
  .compLoop (.GeneratorExp elt [⟨tg, iter, [], 0⟩] scope gpos) 0 (.ref it) .none env
abbrev geStart (elt tg iter : Expr) (scope : Scope) (gpos : Pos) (it : Addr) (env : Env) : Code :=
  .compStart (.GeneratorExp elt [⟨tg, iter, [], 0⟩] scope gpos) 0 (.ref it) .none env

theorem over_loopG {A : Around} {elt tg iter : Expr} {scope : Scope} {gpos : Pos} {it : Addr} {env : Env} :
    A.over (geLoop elt tg iter scope gpos it env) [] = A.deeper env := by
  obtain ⟨hd, d, fr, gs, u⟩ := A
  simp [Around.over, Around.deeper, marksOver, frameCount, unitsOf, envsOf, guardsOf, pushEnvs, pushGuards, Code.envs, Code.env?, Code.isFrame, Code.guards, Code.isGuard, Code.weight, Code.frames, Code.isCreation, Code.isCaller, Code.cUnits]
theorem over_startG {A : Around} {elt tg iter : Expr} {scope : Scope} {gpos : Pos} {it : Addr} {env : Env} :
    A.over (geStart elt tg iter scope gpos it env) [] = A.deeper env := by
  obtain ⟨hd, d, fr, gs, u⟩ := A
  simp [Around.over, Around.deeper, marksOver, frameCount, unitsOf, envsOf, guardsOf, pushEnvs, pushGuards, Code.envs, Code.env?, Code.isFrame, Code.guards, Code.isGuard, Code.weight, Code.frames, Code.isCreation, Code.isCaller, Code.cUnits]

/-- what the reading asks of the loop -/
structure Way (J : It) (g : TG) (te : TE) (σ0 : L2.St) (Q : VK) (top : Nat) (W : Nat → Hp → Prop) : Prop where
  turn : ∀ i H, W i H → (J.stop i H ∧ Q (.bl true) H) ∨ (i < top ∧ J.go i H ∧ ∀ x H', J.yld i H x H' → g x σ0 H' fun σ2 H2 => te σ2 H2 fun y H3 =>
    ∃ b : Bool, y = .bl b ∧ if b = true then W (i + 1) H3 else Q (.bl false) H3)

section
variable {X : Cx} {N : List Str} {s4 : Shared} {H4 : Hp} {env : Env} {fp : List Addr} {a : Addr} {go : Obj}
/-- the protocol: a truth comes out; behind a True one the walk goes on -/
def GY (X : Cx) (B : Around) (N : List Str) (s4 : Shared) (H4 : Hp) (env : Env) (fp : List Addr) (a : Addr) (go : Obj) (Q : VK) : Protocol := fun m s₀ v s kap =>
  ∃ (b : Bool) (H3 : Hp) (σ3 : L2.St), v = .bool b ∧ Inv (gcx X B N s4 H4 env fp) [(a, go)] σ3 H3 s ∧ (b = false → Q (.bl false) H3) ∧
    (b = true → ∀ s'' : Shared, s''.os = s.os → AllBare s''.gens → s''.heap = s.heap → kap (.send .none) s'')
def GP (X : Cx) (B : Around) (N : List Str) (s4 : Shared) (H4 : Hp) (env : Env) (fp : List Addr) (a : Addr) (go : Obj) (Q : VK) : Nat → Shared → Shared → Prop := fun _ _ s1 =>
  ∃ (H3 : Hp) (σ3 : L2.St), Inv (gcx X B N s4 H4 env fp) [(a, go)] σ3 H3 s1 ∧ Q (.bl true) H3

theorem inv_same {X' : Cx} {pins : List (Addr × Obj)} {σ : L2.St} {H : Hp} {s s'' : Shared} (I : Inv X' pins σ H s) (h1 : s''.os = s.os) (h2 : AllBare s''.gens) (h3 : s''.heap = s.heap) : Inv X' pins σ H s'' := by
  obtain ⟨hh, g, d, t, o⟩ := s''
  cases h1
  cases h3
  exact ⟨I.ok, I.os, h2, I.base, I.loc, I.cell, I.free, I.freeC, I.pin, I.hok, I.len⟩

theorem seg_walk {B : Around} {elt tg iter : Expr} {scope : Scope} {gpos : Pos} {it : Addr} {tn : Nat → Heap → Prop} {J : It} {g : TG} {te : TE} {Q : VK} {top : Nat} {W : Nat → Hp → Prop}
    (hco : env.scope.isCoroutine = false)
    (T : Turn X.prog X.w X.K tg J fp it tn) (hg : PG (gcx X (B.deeper env) N s4 H4 env fp) tg g) (he : PE (gcx X (B.deeper env) N s4 H4 env fp) elt te)
    (hfa : a ∉ fp) (way : Way J g te (N.map fun _ => none) Q top W) :
    ∀ (n i : Nat) (s₀ s : Shared) (H : Hp), top - i ≤ n → Inv (gcx X (B.deeper env) N s4 H4 env fp) [(a, go)] (N.map fun _ => none) H s → tn i s.heap → (∀ b ∈ fp, H b = none) → W i H →
      ∃ k, k ≤ n ∧ Seg (model X.prog X.w) B (fun n s₀ r s₁ => r = .ok .next ∧ GP X (B.deeper env) N s4 H4 env fp a go Q n s₀ s₁) (GY X (B.deeper env) N s4 H4 env fp a go Q) n s₀
        (geLoop elt tg iter scope gpos it env) ((model X.prog X.w).den (geLoop elt tg iter scope gpos it env)) [] s := by
  have stat : ∀ {pl : List (Addr × Obj)} {σ' : L2.St} {H' : Hp} {s' : Shared}, Inv (gcx X (B.deeper env) N s4 H4 env fp) pl σ' H' s' → (∀ b ∈ fp, H' b = none) → (∀ p ∈ pl, p.1 = a) → ∀ b ∈ fp, FpOk (gcx X (B.deeper env) N s4 H4 env fp) pl H' b := by
    intro pl σ' H' s' I' hn hpl b hb
    refine ⟨hn b hb, (I'.ok.exf b hb).1, I'.ok.exfs b hb, .inl hb, (I'.ok.exf b hb).2, ?_⟩
    intro p hp z
    have hp' : p ∈ pl := by simpa using hp
    rw [hpl p hp'] at z
    exact hfa (z ▸ hb)
  have one : ∀ p ∈ [(a, go)], p.1 = a := by
    intro p hp
    have e : p = (a, go) := by simpa using hp
    rw [e]
  intro n
  induction n with
  | zero =>
    intro i s₀ s H hi I st nf w
    refine ⟨0, Nat.le_refl _, ?_⟩
    rcases way.turn i H w with ⟨stop, q⟩ | ⟨lt, _⟩
    · show Seg _ B _ _ _ s₀ _ ((compTurn (.GeneratorExp elt [⟨tg, iter, [], 0⟩] scope gpos) 0 (.ref it) .none env).onRaise (leaving env)) [] s
      rw [compTurn_gen, Sem.onRaise_eq_wrap]
      refine seg_bind_wrap (wpAny_standAt ?_)
      refine seg_bind_wrap ?_
      rw [over_loopG]
      have td := T.done (gcx X (B.deeper env) N s4 H4 env fp) rfl rfl rfl rfl i [(a, go)] s _ H (fun _ _ => False) I (stat I nf one) st stop
      refine thnF td ?_
      rintro r s6 ⟨rfl, I6⟩
      exact seg_end (.ok .next) ⟨rfl, H, _, I6, q⟩
    · omega
  | succ n ih =>
    intro i s₀ s H hi I st nf w
    refine ⟨n + 1, Nat.le_refl _, ?_⟩
    show Seg _ B _ _ _ s₀ _ ((compTurn (.GeneratorExp elt [⟨tg, iter, [], 0⟩] scope gpos) 0 (.ref it) .none env).onRaise (leaving env)) [] s
    rw [compTurn_gen, Sem.onRaise_eq_wrap]
    refine seg_bind_wrap (wpAny_standAt ?_)
    refine seg_bind_wrap ?_
    rw [over_loopG]
    rcases way.turn i H w with ⟨stop, q⟩ | ⟨lt, jgo, step⟩
    · have td := T.done (gcx X (B.deeper env) N s4 H4 env fp) rfl rfl rfl rfl i [(a, go)] s _ H (fun _ _ => False) I (stat I nf one) st stop
      refine thnF td ?_
      rintro r s6 ⟨rfl, I6⟩
      exact seg_end (.ok .next) ⟨rfl, H, _, I6, q⟩
    · have ti := T.item (gcx X (B.deeper env) N s4 H4 env fp) rfl rfl rfl rfl i [(a, go)] s _ H (fun _ _ => False) I (stat I nf one) st jgo
      refine thnF ti ?_
      rintro r s6 ⟨u, rfl, h6⟩
      refine seg_bind_wrap ?_
      rw [over_loopG]
      refine thnF h6 ?_
      rintro _ s7 ⟨x, H7, I7, r7, y7, st7, n7⟩
      have I7' := I7.pinned (stat I7 n7 one) (T.obj _ _ st7)
      refine seg_bind_wrap ?_
      rw [over_loopG]
      refine thnF (hg.run _ s7 _ H7 x u _ I7' r7 (step x H7 y7)) ?_
      rintro _ s8 ⟨σ8, H8, I8, q8⟩
      simp only [List.forIn_nil]
      refine seg_bind_wrap (wpAny_pure ?_)
      simp only [if_true]
      have hy : ∀ v, yieldOut env v = yieldValue v := fun v => by simp only [yieldOut, hco, Bool.false_eq_true, if_false]
      simp only [hy]
      rw [Sem.bind_eq_wrap', Sem.bind_eq_wrap', Sem.wrap_wrap, Sem.wrap_wrap]
      refine seg_wrap ?_
      rw [over_loopG]
      refine thnF (he.run _ s8 σ8 H8 _ I8 q8) ?_
      rintro yv s9 ⟨y, H9, I9, r9, b, rfl, q9⟩
      have ey : yv = Value.bool b := r9
      subst ey
      -- the iterator's objects stand as they stood
      have pin' : ∀ c ∈ fp, ∀ o, s7.heap.get? c = some o → s9.heap.get? c = some o ∧ H9 c = none := fun c hc o e =>
        let z := I9.pin (c, o) (List.mem_append_right _ (List.mem_append_right _ (mem_pinsAt hc e)))
        ⟨z.1, z.2.1⟩
      have st9 : tn (i + 1) s9.heap := T.keep _ _ _ st7 fun c hc o e => (pin' c hc o e).1
      have n9 : ∀ c ∈ fp, H9 c = none := fun c hc => by
        obtain ⟨o, e, _⟩ := T.obj _ _ st7 c hc
        exact (pin' c hc o e).2
      have I9' : Inv (gcx X (B.deeper env) N s4 H4 env fp) [(a, go)] σ8 H9 s9 := I9.unpinned (pins := [(a, go)])
      refine seg_at (seg_yield rfl rfl rfl ⟨b, H9, σ8, rfl, I9', fun hb => ?_, fun hb s'' h1 h2 h3 => ?_⟩)
      · rw [hb] at q9
        simpa using q9
      · rw [hb] at q9
        have q9' : W (i + 1) H9 := by simpa using q9
        have Iw : Inv (gcx X (B.deeper env) N s4 H4 env fp) [(a, go)] (N.map fun _ => none) H9 s9 := I9'.weak (by rw [I9'.len, List.length_map]) fun j v e => by
          rw [List.getElem?_map] at e
          cases q : N[j]? with
          | none => rw [q] at e; cases e
          | some y => rw [q] at e; cases e
        obtain ⟨k, _, z⟩ := ih (i + 1) s'' s'' H9 (by omega) (inv_same Iw h1 h2 h3) (by rw [h3]; exact st9) n9 q9'
        refine seg_again rfl z
end
end UG


set_option Elab.async false
set_option linter.all false
set_option maxRecDepth 100000
set_option maxHeartbeats 4000000
namespace UG
open PySem PySem.Spec PyProof.Rows L2

section
variable {X : Cx} {N : List Str} {s4 : Shared} {H4 : Hp} {env : Env} {fp : List Addr} {a : Addr} {go : Obj}

theorem bare_set {s : Shared} {g : Nat} {x : GenState} (h : AllBare s.gens) (hx : x.bare = true) : AllBare (s.setGen g x).gens := by
  intro y hy
  have hy' : y ∈ s.gens.setIfInBounds g x := hy
  rcases Array.mem_or_eq_of_mem_setIfInBounds hy' with z | z
  · exact h y z
  · rw [z]; exact hx

theorem get_set {s : Shared} {g : Nat} {x : GenState} (h : g + 1 ≤ (s.setGen g x).gens.size) : (s.setGen g x).gens[g]? = some x := by
  have h1 : (s.setGen g x).gens.size = s.gens.size := GenW.setGen_size s g x
  have h2 : g < s.gens.size := by omega
  show (s.gens.setIfInBounds g x)[g]? = some x
  simp [h2]

/-- the consumer: all's own loop over the generator at a -/
theorem all_turns {A : Around} {g : Nat} {Q : VK} {R : Result → Shared → Prop} (hh : A.handled = none) (hroom : A.depth < recursionLimit)
    (hIG : ∀ (s : Shared), s.heap.get? a = some go → s.heap.IsGen a g)
    (hR : ∀ (b : Bool) (s : Shared) (H3 : Hp) (σ3 : L2.St), Inv (gcx X ((A.in1.in1).deeper env) N s4 H4 env fp) [(a, go)] σ3 H3 s → Q (.bl b) H3 → R (.ok (.ret (.bool b))) s) :
    ∀ (n : Nat) (s : Shared) (gs : GenState) (σ3 : L2.St) (H3 : Hp), s.gens[g]? = some gs → Inv (gcx X ((A.in1.in1).deeper env) N s4 H4 env fp) [(a, go)] σ3 H3 s →
      gs.Goes (model X.prog X.w) A.in1.in1 (fun n s₀ r s₁ => r = .ok .next ∧ GP X ((A.in1.in1).deeper env) N s4 H4 env fp a go Q n s₀ s₁) (GY X ((A.in1.in1).deeper env) N s4 H4 env fp a go Q) n (.send .none) (s.setGen g .running) →
      codeAny (model X.prog X.w) A (.builtin "all.loop" ⟨[.ref a], []⟩) R s := by
  intro n
  induction n with
  | zero =>
    intro s gs σ3 H3 hgs I hgo
    refine codeAny_builtin F.entry_all_loop ?_
    rw [Around.under_plainId F.plain_all_loop _]
    have hsz : g + 1 ≤ s.gens.size := by
      obtain ⟨h1, _⟩ := Array.getElem?_eq_some_iff.mp hgs
      exact h1
    have pa := (I.pin (a, go) (by simp)).1
    show wpAny _ A.in1 (pyNext (.ref a) >>= _) _ _ s
    refine wpAny_bind (GenW.wpAny_gsz hsz ?_)
    refine wpAny_pyNext_genexpQ (P := GP X ((A.in1.in1).deeper env) N s4 H4 env fp a go Q) hh I.nolimit hroom (hIG s pa) hgs hgo ?_ ?_
    · intro v s₁ gs' hb hY hsz1
      obtain ⟨b, H5, σ5, rfl, I5, q1, q2⟩ := hY
      cases b with
      | true => exact (q2 rfl s₁ rfl I5.bare rfl).elim
      | false =>
        refine wpAny_bind (wpAny_holding (wpAny_truthy_bool ?_))
        refine wpAny_bind (wpAny_letGo ?_)
        refine wpAny_bind (wpAny_rule (wpAny_pure ?_))
        exact hR false _ H5 σ5 (inv_same I5 rfl (bare_set I5.bare hb) rfl) (q1 rfl)
    · intro s₁ hp h' hk hsz1
      obtain ⟨H5, σ5, I5, q5⟩ := hp
      refine wpAny_bind (wpAny_rule (wpAny_pure ?_))
      refine hR true _ H5 σ5 ?_ q5
      have I6 := inv_same (s'' := s₁.setGen g .finished) I5 rfl (bare_set I5.bare rfl) rfl
      exact I6.kept (t' := s₁.toks) hk
  | succ n ih =>
    intro s gs σ3 H3 hgs I hgo
    refine codeAny_builtin F.entry_all_loop ?_
    rw [Around.under_plainId F.plain_all_loop _]
    have hsz : g + 1 ≤ s.gens.size := by
      obtain ⟨h1, _⟩ := Array.getElem?_eq_some_iff.mp hgs
      exact h1
    have pa := (I.pin (a, go) (by simp)).1
    show wpAny _ A.in1 (pyNext (.ref a) >>= _) _ _ s
    refine wpAny_bind (GenW.wpAny_gsz hsz ?_)
    refine wpAny_pyNext_genexpQ (P := GP X ((A.in1.in1).deeper env) N s4 H4 env fp a go Q) hh I.nolimit hroom (hIG s pa) hgs hgo ?_ ?_
    · intro v s₁ gs' hb hY hsz1
      obtain ⟨b, H5, σ5, rfl, I5, q1, q2⟩ := hY
      cases b with
      | true =>
        refine wpAny_bind (wpAny_holding (wpAny_truthy_bool ?_))
        refine wpAny_bind (wpAny_letGo ?_)
        simp only [if_true]
        refine wpAny_pure ⟨plainId_quiet F.plain_all_loop _, ?_⟩
        refine ih (s₁.setGen g gs') gs' σ5 H5 (get_set hsz1) (inv_same I5 rfl (bare_set I5.bare hb) rfl) ?_
        exact q2 rfl ((s₁.setGen g gs').setGen g .running) rfl (bare_set (bare_set I5.bare hb) rfl) rfl
      | false =>
        refine wpAny_bind (wpAny_holding (wpAny_truthy_bool ?_))
        refine wpAny_bind (wpAny_letGo ?_)
        refine wpAny_bind (wpAny_rule (wpAny_pure ?_))
        exact hR false _ H5 σ5 (inv_same I5 rfl (bare_set I5.bare hb) rfl) (q1 rfl)
    · intro s₁ hp h' hk hsz1
      obtain ⟨H5, σ5, I5, q5⟩ := hp
      refine wpAny_bind (wpAny_rule (wpAny_pure ?_))
      refine hR true _ H5 σ5 ?_ q5
      have I6 := inv_same (s'' := s₁.setGen g .finished) I5 rfl (bare_set I5.bare rfl) rfl
      exact I6.kept (t' := s₁.toks) hk
end
end UG


set_option Elab.async false
set_option linter.all false
set_option maxRecDepth 100000
set_option maxHeartbeats 4000000
namespace UG
open PySem PySem.Spec PyProof.Rows L2

def tAllG (P : Addr) (wi : TI) (g : TG) (te : TE) (σ0 : L2.St) : TE := fun σ H Q => wi σ H fun J H1 =>
  GxR.TabG H1 P ∧ ∃ (top : Nat) (W : Nat → Hp → Prop), Way J g te σ0 Q top W ∧ ∀ H2, GxR.Tabbed P H1 H2 → W 0 H2

section
variable {X : Cx}
theorem pe_allG {c P : Addr} {elt tg iter : Expr} {p pos gpos : Pos} {scope : Scope} {wi : TI} {g : TG} {te : TE} {N : List Str} {k : Nat}
    (hr : Room (k + 1) X.A) (hg : Gl X "all") (hm : X.mg "all" = none) (hb : bootBuiltins "all" = some (.builtin "all")) (TB : LamX.TabB X.base X.mg c P) (hcode : X.env.code = .ref c)
    (S : GenSc scope) (hi : PI X tg iter wi)
    (hgt : ∀ (A' : Around) (s : Shared) (H : Hp) (C : Addr) (code : Value) (fp : List Addr), Room k A' → PG (gcx X A' N s H (gev X scope C code) fp) tg g)
    (hel : ∀ (A' : Around) (s : Shared) (H : Hp) (C : Addr) (code : Value) (fp : List Addr), Room k A' → PE (gcx X A' N s H (gev X scope C code) fp) elt te)
    (hs : ∀ v, genFold iter X.env v = pure v := by intro _; rfl)
    (he : starEach [.GeneratorExp elt [⟨tg, iter, [], 0⟩] scope gpos] X.env = (false, eval (.GeneratorExp elt [⟨tg, iter, [], 0⟩] scope gpos) X.env) :: starEach [] X.env := by rfl) :
    PE X (.Call (.Name "all" p) [.GeneratorExp elt [⟨tg, iter, [], 0⟩] scope gpos] [] pos) (tAllG P wi g te (N.map fun _ => none)) := by
  refine ⟨fun pins s σ H Q I h => ?_⟩
  refine wpAny_Call_Name_kw (ld_blt I hg hm hb ?_)
  refine PyProof.Rows.callWith_builtin1 ?_ he (by rfl)
  rw [he]
  show wpAny _ _ (spliced ((false, eval (.GeneratorExp elt [⟨tg, iter, [], 0⟩] scope gpos) X.env) :: backTo pos (starEach [] X.env))) _ _ s
  refine Calls.spliced_cons ?_
  have hclos := closure_ok (scope := scope) (env := X.env) fun y hy e => (S.free y hy e).elim
  refine wpAny_GeneratorExp_make S.co hclos S.cell S.dot S.kind (by have := hr.dp; omega) ?_ hs
  refine thn (hi.run pins s σ H _ I h) fun xv s1 hx => thn hx fun itv s2 h2 => ?_
  obtain ⟨it, fp, tn, J, H2, e, I2, T, st2, f2, ⟨ps, hP, ht⟩, top, W, way, w0⟩ := h2
  subst e
  refine ⟨I2.nolimit, ?_⟩
  have hPs : s2.heap.get? P = some { cls := .none, data := .fields ps } := I2.hok P _ hP
  have hPlt : P < s2.heap.objs.size := Heap.lt_size hPs
  have cd : PySem.W.CodeHd s2.heap c P := TB.code.keeps I2.bk
  have szF : ∀ b ∈ fp, b < s2.heap.objs.size := fun b hbf => by
    obtain ⟨o, e, _⟩ := T.obj _ _ st2 b hbf
    exact Heap.lt_size e
  have nPf : ∀ b ∈ fp, b ≠ P := fun b hbf z => by
    have q := (f2 b hbf).1
    rw [z, hP] at q
    cases q
  -- behind the making of the code object
  have cont : ∀ (code : Value) (h3 : Heap) (tk : Nat) (more : Array Value), (∀ b o, b ≠ P → s2.heap.get? b = some o → h3.get? b = some o) → s2.heap.objs.size ≤ h3.objs.size →
      h3.get? P = some { cls := .none, data := .fields (ps ++ more) } → TriplesOk (ps ++ more).toList →
      wpAny (model X.prog X.w) X.A (builtinsFor X.env.globals X.env.builtins) (fun bi s₄ => ∀ h', h'.Ns s₄.heap.objs.size (fun y => if y = (".0" : Str) then some (.ref it) else none) →
        Heap.SameBut s₄.heap.objs.size (s₄.heap.push { cls := .type "frame", data := .dict #[] }) h' →
        wpAny (model X.prog X.w) X.A (spliced (backTo pos (starEach [] X.env))) (fun ws s5 => wpAny (model X.prog X.w) X.A (call (.builtin "all") (.ref h'.objs.size :: ws)) (EP X pins σ Q) X.xe s5) X.xe
          { s₄ with
            gens := s₄.gens.push (.fresh (.compStart (.GeneratorExp elt [⟨tg, iter, [], 0⟩] scope gpos) 0 (.ref it) .none (genEnv scope (cloFrom X.env.cells scope.names []) s₄.heap.objs.size code bi X.env))),
            toks := s₄.toks + 1 + 1 + 1,
            heap := h'.push { cls := .type "generator", data := .fields #[.int s₄.gens.size 0, .str "<genexpr>" (s₄.toks + 1), .str (X.env.qual ++ "<genexpr>") (s₄.toks + 1 + 1)] } }) X.xe { s2 with heap := h3, toks := tk } := by
    intro code h3 tk more k3 sz3 hP3 ht3
    obtain ⟨bm, ob, e1, e2, e3, e4, e5, e6, e7, e8⟩ := TB.bm
    have nsG : h3.Ns X.env.globals X.mg := by
      rw [I2.ok.glob]
      obtain ⟨o, es, ep, ho, r⟩ := I2.mod.glob.keeps I2.bk
      exact ⟨o, es, ep, k3 _ o TB.gP ho, r⟩
    refine wpAny_builtinsFor (m := X.mg) nsG e1 e2 (k3 _ _ e4 (I2.bk _ _ e5)) e6 e7 e8 ?_
    intro h' hn' hsb
    have I4 : Inv X pins σ (upd H2 P (.tbl (ps ++ more))) { s2 with heap := h3, toks := tk } :=
      GxR.inv_tab (g' := s2.gens) (d' := s2.drawn) I2 hP k3 hP3 I2.bare
    generalize hs4 : ({ s2 with heap := h3, toks := tk } : Shared) = s4 at I4 hn' hsb ⊢
    have h4 : s4.heap = h3 := by rw [← hs4]
    have st4 : tn 0 s4.heap := T.keep _ _ _ st2 fun b hbf o e => by rw [h4]; exact k3 b o (nPf b hbf) e
    have f4 : ∀ b ∈ fp, FpOk X pins (upd H2 P (.tbl (ps ++ more))) b ∧ b < s4.heap.objs.size := fun b hbf => by
      refine ⟨⟨by rw [upd_ne (nPf b hbf)]; exact (f2 b hbf).1, (f2 b hbf).2⟩, ?_⟩
      rw [h4]
      exact Nat.lt_of_lt_of_le (szF b hbf) sz3
    have szh : h'.objs.size = s4.heap.objs.size + 1 := by rw [hsb.1, Heap.size_push]
    have kp' : ∀ b o, s4.heap.get? b = some o → h'.get? b = some o := fun b o e => hsb.extBut b o (Nat.ne_of_lt (Heap.lt_size e)) (Heap.get?_push_of_some _ e)
    generalize hgo : ({ cls := .type "generator", data := .fields #[.int s4.gens.size 0, .str "<genexpr>" (s4.toks + 1), .str (X.env.qual ++ "<genexpr>") (s4.toks + 1 + 1)] } : Obj) = go
    generalize hs5 : ({ s4 with
            gens := s4.gens.push (.fresh (.compStart (.GeneratorExp elt [⟨tg, iter, [], 0⟩] scope gpos) 0 (.ref it) .none (genEnv scope (cloFrom X.env.cells scope.names []) s4.heap.objs.size code builtinsNs X.env))),
            toks := s4.toks + 1 + 1 + 1,
            heap := h'.push go } : Shared) = s5
    have h5 : s5.heap = h'.push go := by rw [← hs5]
    have kp5 : ∀ b o, s4.heap.get? b = some o → s5.heap.get? b = some o := fun b o e => by rw [h5]; exact Heap.get?_push_of_some _ (kp' b o e)
    have ga : s5.heap.get? h'.objs.size = some go := by rw [h5]; exact Heap.get?_push_size _ (by rw [← hgo] <;> rfl)
    have bare5 : AllBare s5.gens := by
      rw [← hs5]
      exact I4.bare.push rfl
    have g5 : s5.gens[s4.gens.size]? = some (.fresh (geStart elt tg iter scope gpos it (gev X scope s4.heap.objs.size code))) := by
      rw [← hs5]
      exact Array.getElem?_push_size ..
    have hA' : Room k ((X.A.in1.in1).deeper (gev X scope s4.heap.objs.size code)) := by
      refine ⟨hr.hd, ?_, ?_⟩
      · have := hr.dp
        show X.A.depth + 1 + 3 * k + 5 < _
        omega
      · have := hr.un
        show X.A.units + 1 + 1 + 3 + 16 * k + 200 < _
        omega
    have J5 := gen_begin (N := N) (fp := fp) (A' := (X.A.in1.in1).deeper (gev X scope s4.heap.objs.size code)) (s5 := s5) (a := h'.objs.size) (go := go) I4 S f4 hr.hd
      (Around.frames_deeper (A := X.A.in1.in1) I4.ok.frames) kp5 (by rw [← hs5]) bare5 (by rw [h5]; exact hn'.push _) (by rw [szh]; exact Nat.lt_succ_self _) ga (by rw [← hgo]; intro v z; cases z)
    refine Calls.spliced_nil ?_
    refine call_function_tree F.kind_all F.plain_all F.entry_all (F.args_all1 _) ?_
    unfold Builtin.«all»
    refine wpAny_bind (m := oneArg "all" _) (wpAny_pure ?_)
    have isG : s5.heap.IsGen h'.objs.size s4.gens.size := ⟨go, _, _, ga, by rw [← hgo], by rw [← hgo], by rw [← hgo]⟩
    refine wpAny_bind (wpAny_pyIter_gen isG ?_)
    refine wpAny_pure ⟨plainId_quiet F.plain_all_loop _, ?_⟩
    have w4 : W 0 (upd H2 P (.tbl (ps ++ more))) := w0 _ ⟨⟨_, upd_same, ht3⟩, fun b hbn => upd_ne hbn⟩
    refine all_turns (X := X) (N := N) (s4 := s4) (H4 := upd H2 P (.tbl (ps ++ more))) (env := gev X scope s4.heap.objs.size code) (fp := fp) (a := h'.objs.size) (go := go) (g := s4.gens.size) (Q := Q)
      hr.hd (by have := hr.dp; show X.A.depth < _; omega) (fun s6 h6 => ⟨go, _, _, h6, by rw [← hgo], by rw [← hgo], by rw [← hgo]⟩) ?_ top s5 _ _ _ g5 J5 ?_
    · intro b s6 H6 σ6 I6 q6
      exact ⟨.bl b, H6, gen_back I4 (fun b hbf => (f4 b hbf).1) I6, rfl, q6⟩
    · refine ⟨rfl, ?_⟩
      have J6 := inv_same (s'' := s5.setGen s4.gens.size .running) J5 rfl (bare_set J5.bare rfl) rfl
      have st5 : tn 0 s5.heap := T.keep _ _ _ st4 fun b _ o e => kp5 b o e
      have nf : ∀ b ∈ fp, upd H2 P (.tbl (ps ++ more)) b = none := fun b hbf => (f4 b hbf).1.1
      have faN : h'.objs.size ∉ fp := fun z => by
        have q := (f4 _ z).2
        rw [szh] at q
        exact Nat.lt_irrefl _ (Nat.lt_trans (Nat.lt_succ_self _) q)
      have loop : ∀ s₀, ∃ k, k ≤ top ∧ _ := fun s₀ => seg_walk (X := X) (B := X.A.in1.in1) (N := N) (s4 := s4) (H4 := upd H2 P (.tbl (ps ++ more))) (env := gev X scope s4.heap.objs.size code) (fp := fp) (a := h'.objs.size) (go := go)
        (gpos := gpos) (elt := elt) (iter := iter) (scope := scope) (Q := Q) (top := top) (W := W) S.co T (hgt _ _ _ _ _ _ hA') (hel _ _ _ _ _ _ hA') faN way top 0 s₀ (s5.setGen s4.gens.size .running) _ (Nat.sub_le _ _) J6 st5 nf w4
      obtain ⟨_, _, loop⟩ := loop (s5.setGen s4.gens.size .running)
      show Seg _ _ _ _ _ _ _ ((compStart (.GeneratorExp elt [⟨tg, iter, [], 0⟩] scope gpos) 0 (.ref it) .none (gev X scope s4.heap.objs.size code)).onRaise (leaving (gev X scope s4.heap.objs.size code))) [] _
      unfold compStart
      rw [Sem.onRaise_eq_wrap]
      show Seg _ _ _ _ _ _ _ ((ask >>= _).wrap _ _ _ _) [] _
      refine seg_bind_wrap (wpAny_askSetting ?_)
      split
      · exact seg_again rfl loop
      · refine seg_bind_wrap (wpAny_rule ?_)
        show Seg _ _ _ _ _ _ _ ((standAt iter.pos >>= _).wrap _ _ _ _) [] _
        refine seg_bind_wrap (wpAny_standAt ?_)
        refine seg_bind_wrap ?_
        exact T.self _ 0 _ _ _ st5 (seg_again rfl loop)
  cases hf : codeAmong gpos ps.toList with
  | none =>
    refine wpAny_genexprCodeX hcode (cd.code hPs ht) (cd.tab hPs) hf ?_
    intro c' h3 tk hx hge hlt hco' _ htab' _
    obtain ⟨o1, vs, f1, tf, fl, tg', inF, tx, tt, op, _, _, _, _, _, _, _, _, _, htr, _⟩ := hco'
    exact cont _ h3 tk _ (fun b o hbn e => hx b o hbn e) (Nat.le_trans hge (Nat.le_of_lt hlt)) htab'.2 htr
  | some cv =>
    refine wpAny_genexprCode_hit hcode (cd.code hPs ht) hf ?_
    have z := cont cv s2.heap s2.toks #[] (fun _ _ _ e => e) (Nat.le_refl _) (by rw [Array.append_empty]; exact hPs) (by rw [Array.append_empty]; exact ht)
    exact z
end
end UG


set_option Elab.async false
set_option linter.all false
set_option maxRecDepth 100000
set_option maxHeartbeats 4000000
/-! enumerate(t), t a tuple; t * n to some thousands -/
namespace UG
open PySem PySem.Spec PyProof.Rows L2

theorem enum_new1 {v : Value} {o : Obj} {H : Heap → Prop} (B : Begins v o H) :
    Meets (Builtin.«enumerate.__new__» ⟨[.type "enumerate", v], []⟩) (fun _ R s => H s.heap ∧
      R (.ok (.ret (.ref (s.heap.push o).objs.size))) { s with heap := (s.heap.push o).push { cls := .type "enumerate", data := .fields #[.none, .bool false, .ref s.heap.objs.size, rawInt 0, .none, .none] } }) :=
  .of_wp fun prog w A R s h => by
    obtain ⟨hp, g, d, tk, os⟩ := s
    obtain ⟨h1, h⟩ := h
    have hsub := sub_enumerate
    have goes : ∀ {A' : Around} {E : Value → Shared → Prop} {Q : Value → Shared → Prop}, Q (.ref hp.objs.size) ⟨hp.push o, g, d, tk, os⟩ → wpAny (model prog w) A' (pyIter v) Q E ⟨hp, g, d, tk, os⟩ :=
      fun q => B.iter prog w _ _ ⟨hp, g, d, tk, os⟩ _ h1 q
    wp_walk using goes
    refine wpAny_stack_any fun st => wpAny_pure ?_
    split
    · rename_i c _ _ _ _ _
      cases (c == Value.type "enumerate")
      all_goals (wp_walk using goes; exact ⟨_, rfl, h⟩)
    · wp_walk using goes
      exact ⟨_, rfl, h⟩

section
variable {prog : Program} {w : World} {A : Around} {E : Value → Shared → Prop} {s : Shared}
theorem enum_call1 {v : Value} {o : Obj} {H : Heap → Prop} {Q : Value → Shared → Prop} (B : Begins v o H) (h1 : H s.heap)
    (h : ∀ h', IsEnum h' (s.heap.objs.size + 1) s.heap.objs.size 0 .none → h'.get? s.heap.objs.size = some o →
      (∀ b o, s.heap.get? b = some o → h'.get? b = some o) → Q (.ref (s.heap.objs.size + 1)) { s with heap := h' }) :
    wpAny (model prog w) A (call (.type "enumerate") [v]) Q E s := by
  refine callType_new F.called_enumerate (by decide) (F.typeCall_enumerate_1 _) (F.newCall_enumerate_1 _)
    (fun obj => F.args_object_init_2 obj _) F.entry_enumerate_new (enum_new1 B) ⟨h1, ?_⟩
  have sz : (s.heap.push o).objs.size = s.heap.objs.size + 1 := Heap.size_push ..
  show _ ∧ _
  rw [sz]
  have atE := Heap.get?_push_size (s.heap.push o) (o := { cls := .type "enumerate", data := .fields #[.none, .bool false, .ref s.heap.objs.size, rawInt 0, .none, .none] }) rfl
  rw [sz] at atE
  refine ⟨⟨_, atE, rfl⟩, h _ atE (Heap.get?_push_of_some _ (Heap.get?_push_size _ B.free)) ?_⟩
  intro b o' e
  exact Heap.get?_push_of_some _ (Heap.get?_push_of_some _ e)
end

/-- the tuple at a, each item in a new pair -/
def Iet (K : PySem.W.Frag) (a : Addr) : It :=
  ⟨fun i H => ∃ (xs : List V) (x : V), SqT K H a xs ∧ xs[i]? = some x,
   fun i H v H' => ∃ T x, v = .ref T ∧ H T = none ∧ H' = upd H T (.tup [.int (i : Nat), x]) ∧ ∀ xs, SqT K H a xs → xs[i]? = some x,
   fun i H => ∃ xs : List V, SqT K H a xs ∧ xs.length ≤ i⟩

theorem turn_enumT {P : Program} {w : World} {K : PySem.W.Frag} {elts : List Expr} {kk : Nat} {tpos : Pos} (a e it : Addr) :
    Turn P w K (.Tuple elts kk tpos) (Iet K a) [e, it] e (fun i h => (∃ old, IsEnum h e it ((i : Nat) : Int) old) ∧ h.IsTupleIter it a i ∧ e ≠ it) where
  mem := by simp
  obj := by
    intro i h st b hb
    obtain ⟨⟨old, he⟩, ⟨o, ho, hc, hd⟩, _⟩ := st
    rcases (show b = e ∨ b = it by simpa using hb) with z | z
    · subst z
      exact ⟨_, he, fun v q => nomatch q⟩
    · subst z
      refine ⟨o, ho, ?_⟩
      intro v q
      rw [hd] at q
      cases q
  keep := by
    intro i h h' st k
    obtain ⟨⟨old, he⟩, hi, hne⟩ := st
    exact ⟨⟨old, k e (by simp) _ he⟩, hi.at fun o q => k it (by simp) o q, hne⟩
  item := by
    intro X hP hw hK hc i pins s σ H E I hf st hg
    subst hP hw hK
    obtain ⟨⟨old, he⟩, hit, hne⟩ := st
    obtain ⟨xs, x, hq, hx⟩ := hg
    obtain ⟨its, rv, p, hz⟩ := I.tuple hq
    obtain ⟨u, hu, ru⟩ := rv.get hx
    have hel : e < s.heap.objs.size := Heap.lt_size he
    have hil : it < s.heap.objs.size := by
      obtain ⟨_, q, _⟩ := hit
      exact Heap.lt_size q
    have pT : s.heap.IsTuple a its.toArray := p
    have nEa : e ≠ a := by
      intro z
      obtain ⟨o, ho, _, n, hd⟩ := pT
      have he' := he
      unfold IsEnum at he'
      rw [z, ho] at he'
      cases he'
      cases hd
    have nIa : a ≠ it := by
      intro z
      obtain ⟨o, ho, _, n, hd⟩ := pT
      obtain ⟨o2, ho2, _, hd2⟩ := hit
      rw [z, ho2] at ho
      cases ho
      rw [hd2] at hd
      cases hd
    have D := Draws.tuple (prog := X.prog) (w := X.w) (A := X.A.in1) (I.ok.hd hc) it a nIa its.toArray
    have hi : i < its.toArray.size := by
      have l1 := (List.getElem?_eq_some_iff.mp hx).1
      have l2 := rv.length
      simp
      omega
    refine wpAny_pyNext_enum_itemD D he ⟨hit, pT⟩ hi hne (by simp; exact ⟨hne, nEa⟩) fun y h' tk hy ho hst' hT hsz hk => ?_
    have ey : y = u := by
      have q : its.toArray[i]? = some y := hy
      rw [List.getElem?_toArray] at q
      exact Option.some.inj (q.symm.trans hu)
    subst ey
    refine ⟨_, rfl, wpAny_letOwnedTupleGo_enum (s := { s with heap := h', toks := tk + 1 }) ho fun h'' he' sb => ?_⟩
    have hT2 : h''.get? s.heap.objs.size = some { cls := .type "tuple", data := .seq #[.int i tk, y] } := (sb.2 _ (Nat.ne_of_gt hel)).trans hT
    have new : ObjOk X.prog X.w (upd H s.heap.objs.size (.tup [.int (i : Nat), x])) h'' s.heap.objs.size (.tup [.int (i : Nat), x]) :=
      ⟨by show 2 ≤ sizeLine; decide, [.int i tk, y], .cons ⟨_, rfl⟩ (.cons ru .nil), ⟨_, hT2, rfl, _, rfl⟩⟩
    have kk2 : ∀ b o, b ∉ [e, it] → s.heap.get? b = some o → h''.get? b = some o := by
      intro b o hb q
      have b1 : b ≠ e := fun z => hb (by simp [z])
      have b2 : b ≠ it := fun z => hb (by simp [z])
      exact (sb.2 b b1).trans (hk b o b1 b2 q)
    have I1 : Inv X pins σ (upd H s.heap.objs.size (.tup [.int (i : Nat), x])) { s with heap := h'', toks := tk + 1 } :=
      I.turnedNew (ch := [e, it]) kk2 hf (Nat.le_refl _) new
    refine ⟨.ref s.heap.objs.size, _, I1, rfl, ⟨_, x, rfl, I.hok.fresh (Nat.le_refl _), rfl, fun ys hy => by rw [I.tuple_inj hy hq]; exact hx⟩, ⟨⟨y, ?_⟩, hst'.1.at fun o q => (sb.2 it (Ne.symm hne)).trans q, hne⟩, ?_⟩
    · have e1 : ((i + 1 : Nat) : Int) = (i : Int) + 1 := by omega
      rw [e1]
      exact he'
    · intro b hb
      have hb' : b < s.heap.objs.size := by
        rcases (show b = e ∨ b = it by simpa using hb) with z | z
        · rw [z]; exact hel
        · rw [z]; exact hil
      rw [upd_ne (Nat.ne_of_lt hb')]
      exact (hf b hb).1
  done := by
    intro X hP hw hK hc i pins s σ H E I hf st hg
    subst hP hw hK
    obtain ⟨⟨old, he⟩, hit, hne⟩ := st
    obtain ⟨xs, hq, hx⟩ := hg
    obtain ⟨its, rv, p, hz⟩ := I.tuple hq
    have pT : s.heap.IsTuple a its.toArray := p
    have nIa : a ≠ it := by
      intro z
      obtain ⟨o, ho, _, n, hd⟩ := pT
      obtain ⟨o2, ho2, _, hd2⟩ := hit
      rw [z, ho2] at ho
      cases ho
      rw [hd2] at hd
      cases hd
    obtain ⟨f0, f1, f2, f3, f4, f5⟩ := hf it (by simp)
    have hl := rv.length
    have D : Draws X.prog X.w X.A.in1 it [it, a] i (fun _ _ => False) (fun j h => j = i ∧ h.IsTupleIter it a i ∧ h.IsTuple a its.toArray) :=
      { live := fun _ _ st => let ⟨o, ho, _⟩ := st.2.1; ⟨o, ho⟩
        frame := fun _ _ _ st hk => ⟨st.1, st.2.1.at fun o e => hk it (by simp) o e, st.2.2.at fun o e => hk a (by simp) o e⟩
        item := fun j s Q E hj st hQ => absurd st.1 (Nat.ne_of_lt hj)
        done := fun s Q E st hE => wpAny_nextOf_tuple_end (I.ok.hd hc) st.2.1 st.2.2 (by simp; omega) hE }
    exact wpAny_pyNext_enum_endD D he ⟨rfl, hit, pT⟩ fun h' eb => ⟨rfl, I.turned (t' := s.toks) (fun b o hb q => eb b o hb q) f0 f1 f3 f4 f5⟩
  self := by
    intro A i s Q E st h
    obtain ⟨⟨_, he⟩, _⟩ := st
    exact wpAny_pyIter_enum he h

def iEnumT (K : PySem.W.Frag) (ta : TA) : TI := fun σ H R => ta σ H fun vs H1 => ∃ a xs, vs = [.ref a] ∧ SqT K H1 a xs ∧ R (Iet K a) H1
theorem pi_enumT {X : Cx} {e : Expr} {ta : TA} {p pos tpos : Pos} {elts : List Expr} {kk : Nat} (hg : Gl X "enumerate") (hm : X.mg "enumerate" = none) (ha : PA X [e] ta)
    (hs : starEach [e] X.env = [(false, eval e X.env)] := by rfl) :
    PI X (.Tuple elts kk tpos) (.Call (.Name "enumerate" p) [e] [] pos) (iEnumT X.K ta) := by
  refine ⟨fun pins s σ H R I h => ?_⟩
  refine Call_ (ld_blt I hg hm boot_enumerate (PyProof.Rows.callWith_type1 (thn (ha.run pos pins s σ H _ I h) ?_) hs rfl))
  rintro us s1 ⟨vs, H1, I1, r1, a, xs, rfl, hq, q⟩
  obtain ⟨its, rv, p', hz⟩ := I1.tuple hq
  cases r1 with
  | cons r rr =>
    cases rr
    cases r
    have pT : s1.heap.IsTuple a its.toArray := p'
    refine enum_call1 (begins_tuple a its.toArray) pT fun h' he hit hk => wpAny_pyIter_enum he ?_
    have I2 : Inv X pins σ H1 { s1 with heap := h' } := I1.kept (t' := s1.toks) hk
    refine ⟨s1.heap.objs.size + 1, [s1.heap.objs.size + 1, s1.heap.objs.size], _, _, H1, rfl, I2, turn_enumT a (s1.heap.objs.size + 1) s1.heap.objs.size, ⟨⟨.none, he⟩, ⟨_, hit, rfl, rfl⟩, Nat.succ_ne_self _⟩, ?_, q⟩
    intro b hb
    have hle : s1.heap.objs.size ≤ b := by
      rcases (show b = s1.heap.objs.size + 1 ∨ b = s1.heap.objs.size by simpa using hb) with z | z
      · rw [z]; exact Nat.le_succ _
      · rw [z]; exact Nat.le_refl _
    exact I1.fpOk hle (I1.hok.fresh hle)
end UG


set_option Elab.async false
set_option linter.all false
set_option maxRecDepth 100000
set_option maxHeartbeats 4000000
namespace UG
open PySem PySem.Spec PyProof.Rows L2

/-! ### t[::-1], t a tuple -/
theorem fm_congr {α β : Type} {f g : α → Option β} : ∀ {l : List α}, (∀ x ∈ l, f x = g x) → l.filterMap f = l.filterMap g
  | [], _ => rfl
  | x :: r, h => by
    rw [List.filterMap_cons, List.filterMap_cons, h x List.mem_cons_self, fm_congr fun y hy => h y (List.mem_cons_of_mem _ hy)]
theorem adj_back (n : Nat) : Builtin.Slice.sliceAdjust none none (-1) (n : Int) = ((n : Int) - 1, -1) := rfl
theorem plc_back (n : Nat) : Builtin.Slice.slicePlaces ((n : Int) - 1) (-1) (-1) = n := by
  unfold Builtin.Slice.slicePlaces
  rw [if_neg (by decide)]
  by_cases h : (n : Int) - 1 > -1
  · rw [if_pos h]
    have e : ((n : Int) - 1 - -1 - 1) / (- -1) + 1 = (n : Int) := by
      rw [show (- -1 : Int) = 1 by decide, Int.ediv_one]
      omega
    rw [e]
    rfl
  · rw [if_neg h]
    have e : n = 0 := by omega
    subst e
    rfl
section
variable {prog : Program} {w : World} {A : Around} {E : Value → Shared → Prop} {s : Shared}
theorem applied_back {sl : Addr} {vl vu vs : Value} {n : Nat} {Q : Int × Int × Nat → Shared → Prop} (hs : s.heap.IsSliceOf sl vl vu vs) (pl : IsPart vl none) (pu : IsPart vu none) (ps : IsPart vs (some (-1)))
    (h : Q ((n : Int) - 1, -1, n) s) : wpAny (model prog w) A (Builtin.Slice.sliceApplied (.ref sl) (pure (n : Int))) Q E s := by
  obtain ⟨ob, hob, hc, hd⟩ := id hs
  unfold Builtin.Slice.sliceApplied Builtin.Slice.sliceFields
  refine wpAny_bind (wpAny_bind (wpAny_field hob hd (x := vl) rfl (wpAny_bind (wpAny_field hob hd (x := vu) rfl (wpAny_bind (wpAny_field hob hd (x := vs) rfl (wpAny_pure ?_)))))))
  refine wpAny_bind (HT.slicePart_ ps ?_)
  show wpAny _ _ (if ((-1 : Int) == 0) = true then _ else _) _ _ s
  rw [if_neg (by decide)]
  refine wpAny_bind (HT.slicePart_ pl (wpAny_bind (HT.slicePart_ pu (wpAny_bind (wpAny_pure ?_)))))
  show wpAny _ _ (match Builtin.Slice.sliceAdjust none none (-1) (n : Int) with | (lo, hi) => pure (lo, (-1 : Int), Builtin.Slice.slicePlaces lo hi (-1))) _ _ s
  rw [adj_back]
  show wpAny _ _ (pure ((n : Int) - 1, (-1 : Int), Builtin.Slice.slicePlaces ((n : Int) - 1) (-1) (-1))) _ _ s
  rw [plc_back]
  exact wpAny_pure h
theorem pick_back (xs : Array Value) : ((List.range xs.size).filterMap fun (m : Nat) => xs[((xs.size : Int) - 1 + (m : Int) * -1).toNat]?).toArray = xs.toList.reverse.toArray := by
  have e : ∀ m ∈ List.range xs.size, (fun (m : Nat) => xs[((xs.size : Int) - 1 + (m : Int) * -1).toNat]?) m = (fun m => xs[xs.size - 1 - m]?) m := by
    intro m hm
    have hm' := List.mem_range.mp hm
    have q : ((xs.size : Int) - 1 + (m : Int) * -1).toNat = xs.size - 1 - m := by omega
    show xs[((xs.size : Int) - 1 + (m : Int) * -1).toNat]? = _
    rw [q]
  have e2 : (List.range xs.size).filterMap (fun (m : Nat) => xs[((xs.size : Int) - 1 + (m : Int) * -1).toNat]?) = (List.range xs.size).filterMap (fun m => xs[xs.size - 1 - m]?) := fm_congr e
  rw [e2]
  have e3 : (List.range xs.size).filterMap (fun m => xs[xs.size - 1 - m]?) = ((List.range xs.size).map (fun k => xs.size - 1 - k)).filterMap (xs[·]?) := by
    rw [List.filterMap_map]
    rfl
  rw [e3, PySem.W.krv_range, List.filterMap_reverse, PySem.W.krv_all]
theorem getItem_tupBack {t sl : Addr} {items : Array Value} {vl vu vs : Value} {Q : Value → Shared → Prop} (ht : IsTup s.heap t items) (hs : s.heap.IsSliceOf sl vl vu vs) (pl : IsPart vl none) (pu : IsPart vu none) (ps : IsPart vs (some (-1)))
    (h : Q (.ref s.heap.objs.size) { s with heap := s.heap.push { cls := .type "tuple", data := .seq items.toList.reverse.toArray } })
    (hsz : items.size ≤ sizeLine) : wpAny (model prog w) A (getItem (.ref t) (.ref sl)) Q E s := by
  obtain ⟨os, hos, hcs, hds⟩ := id hs
  have tS : s.TypeIs (.ref sl) "slice" := ⟨os, hos, hcs⟩
  unfold getItem
  try with_reducible refine wpAny_holding ?_
  first | refine wpAny_bind (wpAny_pure ?_) | skip
  refine wpAny_bind (wpAny_sequenceKey ht.typeIs (by decide) ?_)
  refine wpAny_bind (wpAny_callSpecial?_slot (name := Str.ofString "__getitem__") ht.typeIs PyProof.Rows.slot_tuple_getitem (wpAny_call_entry PyProof.Rows.slot_tuple_getitem ht.typeIs entry_tuple_getitem ?_ (args_tuple_getitem _ _)))
  show wpAny _ _ (Builtin.Tuple.tupleItemsOf (.ref t) >>= _) _ _ s
  refine wpAny_bind (tupleItemsOf_ ht ?_)
  refine wpAny_bind (wpAny_typeOf tS ?_)
  rw [if_pos (by decide)]
  refine wpAny_bind (applied_back hs pl pu ps ?_)
  have no : ¬ ((((items.size : Int) - 1) == 0 && (-1 : Int) == 1 && items.size == items.size) = true) := by
    intro q
    rw [Bool.and_eq_true, Bool.and_eq_true] at q
    exact absurd q.1.2 (by decide)
  show wpAny _ _ (if (((items.size : Int) - 1) == 0 && (-1 : Int) == 1 && items.size == items.size) = true then _ else _) _ _ s
  rw [if_neg no]
  rw [pick_back]
  have fit : sizeOk (.seq items.toList.reverse.toArray) := by
    show items.toList.reverse.toArray.size ≤ sizeLine
    simpa using hsz
  exact wpAny_bind (m := Builtin.Tuple.tupleExact _) (wpAny_newObj_type (wpAny_pure ⟨_, rfl, wpAny_pure h⟩) fit)
end
section
variable {X : Cx}
def tRevT (K : PySem.W.Frag) (te : TE) : TE := fun σ H Q => te σ H fun x H1 => ∃ a xs, x = .ref a ∧ SqT K H1 a xs ∧ ∀ p, H1 p = none → Q (.ref p) (upd H1 p (.tup xs.reverse))
theorem pe_revT {e : Expr} {te : TE} {k : Nat} {p1 p2 p3 pos : Pos} (he : PE X e te) : PE X (.Subscript e (.Slice none none (some (.UnaryOp .USub (.Constant (.int 1) k p1) p2)) p3) pos) (tRevT X.K te) := by
  refine ⟨fun pins s σ H Q I h => ?_⟩
  refine Subscript_ (thn (he.run pins s σ H _ I h) ?_)
  rintro v s1 ⟨x, H1, I1, r1, a, xs, rfl, hx, q⟩
  cases r1
  have part : PO X (some (.UnaryOp .USub (.Constant (.int 1) k p1) p2)) (tPart (tUn (rU fun i => .int (-i)) (tC (.int 1)))) := po_some (pe_un un_neg pe_int)
  refine wpAny_Slice (thn (po_none.run pins s1 σ H1 (fun o H2 => o = none ∧ H2 = H1) I1 ⟨rfl, rfl⟩) ?_)
  rintro vl s2 ⟨l, H2, I2, pl, rfl, rfl⟩
  refine thn (po_none.run pins s2 σ H2 (fun o H3 => o = none ∧ H3 = H2) I2 ⟨rfl, rfl⟩) ?_
  rintro vu s3 ⟨u, H3, I3, pu, rfl, rfl⟩
  refine thn (part.run pins s3 σ H3 (fun o H4 => o = some (-1) ∧ H4 = H3) I3 ⟨1, rfl, -1, rfl, rfl, rfl⟩) ?_
  rintro vs s4 ⟨o, H4, I4, ps, rfl, rfl⟩
  have I5 : Inv X pins σ H4 { s4 with heap := s4.heap.push { cls := .type "slice", data := .fields #[vl, vu, vs] } } := I4.kept (t' := s4.toks) fun b ob e => Heap.get?_push_of_some _ e
  obtain ⟨its, r, ht, hz⟩ := I5.tuple hx
  have hl := r.length
  show wpAny _ X.A (subscriptTail e (.Slice none none (some (.UnaryOp .USub (.Constant (.int 1) k p1) p2)) p3) (.ref a) (.ref s4.heap.objs.size)) _ X.xe { s4 with heap := s4.heap.push { cls := .type "slice", data := .fields #[vl, vu, vs] } }
  refine tail_any (ops := [.ref a, .ref s4.heap.objs.size]) ht.typeIs PyProof.Rows.slot_tuple_getitem.lookup ?_ (by with_unfolding_all rfl)
  refine getItem_tupBack ht (Heap.IsSliceOf.new _ vl vu vs) pl pu ps ?_ (by rw [List.size_toArray]; omega)
  refine ⟨.ref _, _, I5.laid (t' := s4.toks) (o := .tup xs.reverse) (fun b ob e => Heap.get?_push_of_some _ e) (Nat.le_refl _) ?_, rfl, q _ (I5.hok.fresh (Nat.le_refl _))⟩
  exact ⟨by rw [List.length_reverse]; exact hz, _, r.reverse, IsTup.new _ _⟩

/-- t * n, some million items at most -/
def rRepB (K : PySem.W.Frag) : R2 := fun x y H Q => ∃ l k xs, x = .ref l ∧ y = .int k ∧ SqT K H l xs ∧ xs ≠ [] ∧ 2 ≤ k ∧ k ≤ 1000000 ∧ ((xs.length : Nat) : Int) * k ≤ 1000000 ∧
  ∀ p, H p = none → Q (.ref p) (upd H p (.tup (List.replicate k.toNat xs).flatten))
theorem op_repB : OpR X (binaryOp .Mult) (rRepB X.K) := by
  intro pins s σ H x y v u Q I rx ry h
  obtain ⟨l, k, xs, rfl, rfl, hT, hne, h1, h2, hz, q⟩ := h
  cases rx
  obtain ⟨t, rfl⟩ := ry
  obtain ⟨its, r, ⟨⟨cls, dd, data, sl⟩, ho, hc, n, hd⟩, hs⟩ := I.tuple hT
  simp only at hc hd
  subst hc hd
  have len : its.length = xs.length := r.length.symm
  have its0 : its ≠ [] := by
    rintro rfl
    exact hne (List.eq_nil_of_length_eq_zero len.symm)
  have emp : its.toArray.isEmpty = false := by
    cases its with
    | nil => exact absurd rfl its0
    | cons a b => rfl
  have sz : its.toArray.size = xs.length := by rw [List.size_toArray, len]
  have kk : ((k.toNat : Nat) : Int) = k := by omega
  have prod : k.toNat * xs.length ≤ 1000000 := by
    have q1 : ((k.toNat * xs.length : Nat) : Int) ≤ 1000000 := by
      rw [Int.natCast_mul, kk, Int.mul_comm]
      exact hz
    omega
  have bound : ((its.toArray.size : Nat) : Int) * k ≤ 1000000 := by rw [sz]; exact hz
  have flat : (List.replicate k.toNat its).flatten.length ≤ sizeLine := by
    rw [PyProof.Rows.lm_len_rep_flat, len, sizeLine_eq]
    omega
  have a0 : (decide (k < -(2 ^ 63)) || decide (k ≥ 2 ^ 63)) = false := by
    rw [decide_eq_false (by omega), decide_eq_false (by omega)] <;> rfl
  have a1 : (its.toArray.isEmpty || k == 1) = false := by
    rw [emp, Bool.false_or]
    exact beq_eq_false_iff_ne.mpr (by omega)
  have a2 : (decide (k ≤ 0) || its.toArray.isEmpty) = false := by
    rw [emp, Bool.or_false]
    exact decide_eq_false (by omega)
  have a4 : Builtin.Tuple.tupleTooMany (((its.toArray.size : Nat) : Int) * k) = false := by
    unfold Builtin.Tuple.tupleTooMany
    rw [sizeLine_eq]
    exact decide_eq_false (by omega)
  have mul := tuple_mulW l its.toArray n dd sl k t a0 a1 a2 (by omega) a4 (by rw [size_rep, List.size_toArray]; exact flat)
  have fin : EP X pins σ Q (Value.ref s.heap.objs.size) { s with heap := s.heap.push { cls := Value.type "tuple", data := Data.seq (List.foldl (fun x1 x2 => x1 ++ x2) #[] (List.replicate k.toNat its.toArray)) }, toks := s.toks } := by
    rw [size_rep]
    refine ⟨.ref s.heap.objs.size, _, I.laid (t' := s.toks) (o := .tup (List.replicate k.toNat xs).flatten) (fun b ob e => Heap.get?_push_of_some _ e) (Nat.le_refl _) ?_, rfl, q _ (I.hok.fresh (Nat.le_refl _))⟩
    refine ⟨?_, _, r.rep k.toNat, IsTup.new _ _⟩
    rw [PyProof.Rows.lm_len_rep_flat, sizeLine_eq]
    omega
  have tl : s.TypeIs (.ref l) "tuple" := ⟨_, ho, rfl⟩
  exact wpAny_binaryOp_repeat_ref (T := "tuple") (U := "int") (by decide) tl (fun s' => typeIs_int s' k t) noFill_tuple_mul F.fills_int_mul F.slot_int_rmul repeat_tuple F.slot_int_index.lookup
    (call_meets F.slot_int_rmul (typeIs_int s k t) F.entry_int_rmul (F.args_int_rmul_2 _ _) (int_rmul_tuple k t l its.toArray n dd sl) ⟨ho, rfl, tl, call_meets F.slot_tuple_mul tl F.entry_tuple_mul (F.args_tuple_mul_2 _ _) mul ⟨ho, fin⟩⟩)
end
end UG


set_option Elab.async false
set_option linter.all false
set_option maxRecDepth 100000
set_option maxHeartbeats 4000000
namespace K34
open PySem PySem.Spec PyProof.Rows L2

def topS (i : Nat) : Stmt := PySem.Challenge.pw_undoneall_k34_straight_texts_judged.main.body.getD i (.Pass ⟨0, 0, 0, 0⟩)

/-! ### data -/
def tyN : PyData → String
  | .none => "NoneType"
  | .bool _ => "bool"
  | .int _ => "int"
  | .str _ => "str"
  | .list _ => "list"
  | .tuple _ => "tuple"
  | .dict _ => "dict"
theorem dp_ty {K : PySem.W.Frag} {H : Hp} {v : V} {d : PyData} (h : Dp K H v d) : TyX K H v (.type (tyN d)) := by
  cases h with
  | non => exact .base .non
  | bl b => exact .base (.bl b)
  | int i => exact .base (.int i)
  | str x => exact .base (.str x)
  | lst hs _ =>
    rcases hs with (h | ⟨o, h⟩) | ⟨o, its, n, hk, hc, _⟩
    · exact .base (.lst h)
    · exact .base (.frz h)
    · exact .kList hk hc
  | tup hs _ =>
    rcases hs with (h | ⟨o, h⟩) | ⟨o, its, n, hk, hc, _⟩
    · exact .base (.tup h)
    · exact .fTuple h
    · exact .kTuple hk hc
/-- all but tables stay -/
theorem sq_ext {K : PySem.W.Frag} {H H' : Hp} {a : Addr} {xs : List V} (e : LamX.ExtN H H') (h : SqL K H a xs) : SqL K H' a xs := by
  rcases h with (h | ⟨o, h⟩) | h
  · exact .inl (.inl (e _ _ h (fun _ z => by cases z)))
  · exact .inl (.inr ⟨o, e _ _ h (fun _ z => by cases z)⟩)
  · exact .inr h
theorem sqt_ext {K : PySem.W.Frag} {H H' : Hp} {a : Addr} {xs : List V} (e : LamX.ExtN H H') (h : SqT K H a xs) : SqT K H' a xs := by
  rcases h with (h | ⟨o, h⟩) | h
  · exact .inl (.inl (e _ _ h (fun _ z => by cases z)))
  · exact .inl (.inr ⟨o, e _ _ h (fun _ z => by cases z)⟩)
  · exact .inr h
mutual
theorem dp_ext {K : PySem.W.Frag} {H H' : Hp} (e : LamX.ExtN H H') : ∀ (d : PyData) {v : V}, Dp K H v d → Dp K H' v d
  | .none, _, h => by cases h; exact .non
  | .bool _, _, h => by cases h; exact .bl _
  | .int _, _, h => by cases h; exact .int _
  | .str _, _, h => by cases h; exact .str _
  | .list ds, _, h => by
    cases h with
    | lst hs ha => exact .lst (sq_ext e hs) (dps_ext e ds ha)
  | .tuple ds, _, h => by
    cases h with
    | tup hs ha => exact .tup (sqt_ext e hs) (dps_ext e ds ha)
  | .dict _, _, h => by cases h
theorem dps_ext {K : PySem.W.Frag} {H H' : Hp} (e : LamX.ExtN H H') : ∀ (ds : List PyData) {vs : List V}, DpAll K H vs ds → DpAll K H' vs ds
  | [], _, h => by cases h; exact .nil
  | d :: ds, _, h => by
    cases h with
    | cons h1 h2 => exact .cons (dp_ext e d h1) (dps_ext e ds h2)
end
theorem same_ext {H H' : Hp} (h : Same H H') : LamX.ExtN H H' := fun b o e _ => h b o e
theorem dps_len {K : PySem.W.Frag} {H : Hp} : ∀ {vs : List V} {ds : List PyData}, DpAll K H vs ds → vs.length = ds.length
  | _, _, .nil => rfl
  | _, _, .cons _ t => congrArg Nat.succ (dps_len t)
theorem dps_get {K : PySem.W.Frag} {H : Hp} : ∀ {vs : List V} {ds : List PyData} {i : Nat} {d : PyData}, DpAll K H vs ds → ds[i]? = some d → ∃ v, vs[i]? = some v ∧ Dp K H v d
  | _, _, _, _, .nil, e => by simp at e
  | _, _, 0, _, .cons h t, e => by
    simp at e
    subst e
    exact ⟨_, rfl, h⟩
  | _, _, i + 1, _, .cons h t, e => by
    obtain ⟨v, h1, h2⟩ := dps_get (i := i) t (by simpa using e)
    exact ⟨v, by simpa using h1, h2⟩
theorem dps_get' {K : PySem.W.Frag} {H : Hp} {vs : List V} {ds : List PyData} {i : Nat} {v : V} (h : DpAll K H vs ds) (e : vs[i]? = some v) : ∃ d, ds[i]? = some d ∧ Dp K H v d := by
  have hl := dps_len h
  have hi := (List.getElem?_eq_some_iff.mp e).1
  have e2 : ds[i]? = some (ds[i]'(by omega)) := List.getElem?_eq_getElem (by omega)
  obtain ⟨v', h1, h2⟩ := dps_get h e2
  rw [e] at h1
  cases h1
  exact ⟨_, e2, h2⟩
theorem same_new {H : Hp} {p : Addr} (h : H p = none) (o : HO) : Same H (upd H p o) := fun b u q => by rw [upd_ne (ne_of_none q h)]; exact q

/-! ### what the judges tell -/
def intD : PyData → Bool
  | .int _ => true
  | _ => false
def withinD (d : PyData) (lo hi : Int) : Bool := match d with
  | .int i => decide (lo ≤ i) && decide (i ≤ hi)
  | _ => false
def rowD (d : PyData) (lo hi : Int) : Bool := match d with
  | .tuple ds => decide (lo ≤ (ds.length : Int)) && decide ((ds.length : Int) ≤ hi)
  | _ => false
def letterD (d : PyData) : Bool := match d with
  | .int i => decide (-20 ≤ i) && decide (i ≤ 20) && !decide (i = 0)
  | _ => false

/-! ### the module's facts -/
structure Bl (mg : Str → Option Value) : Prop where
  isi : mg "isinstance" = none
  int : mg "int" = none
  bool : mg "bool" = none
  str : mg "str" = none
  tuple : mg "tuple" = none
  list : mg "list" = none
  len : mg "len" = none
  abs : mg "abs" = none
  max : mg "max" = none
  all : mg "all" = none
  range : mg "range" = none
  enumerate : mg "enumerate" = none
  mostL : ∃ t, mg "MOST_LETTER" = some (.int 20 t)
  mostR : ∃ t, mg "MOST_RULES" = some (.int 4000 t)

def isiN (c n : String) : Bool := n == c || (c == "int" && n == "bool")
def isiD (c : String) (d : PyData) : Bool := isiN c (tyN d)
theorem kit_names : ∀ n ∈ ["NoneType", "bool", "int", "str", "list", "tuple", "dict"], ∀ c ∈ ["int", "bool", "str", "tuple"], kitB n c = some (isiN c n) := by decide +kernel
theorem kit_d {K : PySem.W.Frag} (d : PyData) {c : String} (hc : c ∈ ["int", "bool", "str", "tuple"]) : PySem.W.kitOne K (.type (tyN d)) (.type c) = some (isiD c d) :=
  kit_ty (kit_names (tyN d) (by cases d <;> simp [tyN]) c hc)
section
variable {X : Cx}
/-- isinstance(x, T) of data -/
def rIsD (K : PySem.W.Frag) (c : String) : List V → Hp → VK → Prop := fun xs H Q => ∃ v d, xs = [v, .ty c] ∧ Dp K H v d ∧ Q (.bl (isiD c d)) H
theorem call_isD (c : String) (hc : c ∈ ["int", "bool", "str", "tuple"]) : CallR X (.builtin "isinstance") (rIsD X.K c) := by
  intro pins s σ H xs us Q I r h
  obtain ⟨v, d, rfl, hd, q⟩ := h
  exact call_isi pins s σ H _ us Q I r ⟨v, .ty c, _, _, _, rfl, .ty c, dp_ty hd, kit_d d hc, q⟩
/-- isinstance(e, T) as a value -/
theorem pe_isD {e : Expr} {te : TE} {c : String} {x : Str} {p1 p2 p3 : Pos} (B : Bl X.mg) (he : PE X e te) (hg : Gl X "isinstance") (hx : Gl X x) (hm : X.mg x = none) (hb : bootBuiltins x = some (.type c)) (hc : c ∈ ["int", "bool", "str", "tuple"])
    (hn : x ≠ "__name__" := by decide) (hdb : (x == ("__debug__" : Str)) = false := by decide) (hs1 : starEach [e, .Name x p3] X.env = (false, eval e X.env) :: starEach [.Name x p3] X.env := by rfl)
    (hs2 : starEach [.Name x p3] X.env = (false, eval (.Name x p3) X.env) :: starEach [] X.env := by rfl) (hpl : (backTo p2 (starEach [.Name x p3] X.env)).any (·.1) = false := by rfl) :
    PE X (.Call (.Name "isinstance" p1) [e, .Name x p3] [] p2) (tCB (rIsD X.K c) (tCons te (tCons (tC (.ty c)) tNil))) :=
  pe_callB (pos := p2) (p := p1) (call_isD c hc) hg B.isi (by decide +kernel) (pa_cons he (pa_cons (pe_bltn (v := .ty c) (pos := p3) hx hm hb rfl hn hdb) pa_nil hs2) hs1) (by decide) (by decide) hs1 hpl
end
end K34


set_option Elab.async false
set_option linter.all false
set_option maxRecDepth 100000
set_option maxHeartbeats 4000000
namespace K34
open PySem PySem.Spec PyProof.Rows L2
section
variable {P : Program} {w : World} {K : PySem.W.Frag} {mg : Str → Option Value} {base : Heap}

def spIsInt (K : PySem.W.Frag) : Sp := fun vs H Q _ => ∃ v d, vs = [v] ∧ Dp K H v d ∧ Q (.bl (intD d)) H
theorem intD_eq (d : PyData) : (isiD "int" d && !isiD "bool" d) = intD d := by cases d <;> rfl
theorem int_of {d : PyData} (h : intD d = true) : ∃ i, d = .int i := by
  cases d with
  | int i => exact ⟨i, rfl⟩
  | _ => cases h
theorem sc_is_integer : FnScope ["thing"] ["thing"] (C8.fnScope (topS 1)) := C8.fnScope_by (by decide +kernel)
theorem ok_is_integer {f : Addr} {fd : FuncData} (F : C8.Def K mg "is_integer" (topS 1) f fd) (b : Binds K fd ["thing"] []) (B : Bl mg)  : C8.Cal P w K mg base 1 "is_integer" (spIsInt K) [] := by
  refine C8.cal0 F b .nil sc_is_integer ?len ?body
  case len => rintro vs H Q E ⟨v, d, rfl, _⟩; rfl
  case body =>
    rintro cdv A outer s H vs Q E hr ⟨v, d, rfl, hd, q⟩
    refine ⟨_, (pss_one (ps_ret (pe_and (pe_isD (c := "int") B (pv 0) rfl rfl B.int (by decide +kernel) (by decide)) (pe_one (pe_not (pe_isD (c := "bool") B (pv 0) rfl rfl B.bool (by decide +kernel) (by decide))))))), ?_⟩
    refine ⟨_, rfl, v, d, rfl, hd, _, rfl, ?_⟩
    have e := intD_eq d
    cases h : isiD "int" d with
    | true =>
      refine iteT ⟨_, rfl, v, d, rfl, hd, _, rfl, ?_⟩
      rw [h, Bool.true_and] at e
      rw [e]
      exact q
    | false =>
      refine iteF ?_
      rw [h, Bool.false_and] at e
      rw [e]
      exact q

def spWithin (K : PySem.W.Frag) : Sp := fun vs H Q _ => ∃ v d lo hi, vs = [v, .int lo, .int hi] ∧ Dp K H v d ∧ Q (.bl (withinD d lo hi)) H
theorem sc_is_within : FnScope ["thing", "low", "high"] ["thing", "low", "high"] (C8.fnScope (topS 2)) := C8.fnScope_by (by decide +kernel)
theorem ok_is_within {f : Addr} {fd : FuncData} (F : C8.Def K mg "is_within" (topS 2) f fd) (b : Binds K fd ["thing", "low", "high"] []) (B : Bl mg) (c_is_integer : C8.Cal P w K mg base 1 "is_integer" (spIsInt K) []) : C8.Cal P w K mg base 2 "is_within" (spWithin K) [] := by
  refine C8.cal0 F b .nil sc_is_within ?len ?body
  case len => rintro vs H Q E ⟨v, d, lo, hi, rfl, _⟩; rfl
  case body =>
    rintro cdv A outer s H vs Q E hr ⟨v, d, lo, hi, rfl, hd, q⟩
    refine ⟨_, (pss_one (ps_ret (pe_and (C8.pe_c c_is_integer hr (by decide) rfl (pa_cons (pv 0) pa_nil)) (pe_one (pe_chain op_le op_le (pv 1) (pv 0) (pv 2)))))), ?_⟩
    refine ⟨_, rfl, v, d, rfl, hd, _, rfl, ?_⟩
    cases h : intD d with
    | false =>
      refine iteF ?_
      have e : withinD d lo hi = false := by cases d <;> first | rfl | cases h
      rw [e] at q
      exact q
    | true =>
      obtain ⟨i, rfl⟩ := int_of h
      cases hd
      refine iteT ⟨_, rfl, _, rfl, _, _, rfl, rfl, _, rfl, ?_⟩
      have q' : Q (.bl (decide (lo ≤ i) && decide (i ≤ hi))) H := q
      cases h1 : decide (lo ≤ i) with
      | true =>
        rw [h1] at q'
        exact iteT ⟨_, rfl, _, _, rfl, rfl, q'⟩
      | false =>
        rw [h1] at q'
        exact iteF q'

def spRow (K : PySem.W.Frag) : Sp := fun vs H Q _ => ∃ v d lo hi, vs = [v, .int lo, .int hi] ∧ Dp K H v d ∧ Q (.bl (rowD d lo hi)) H
theorem tup_of {d : PyData} (h : isiD "tuple" d = true) : ∃ ds, d = .tuple ds := by
  cases d with
  | tuple ds => exact ⟨ds, rfl⟩
  | _ => exact absurd (show false = true from h) Bool.false_ne_true
theorem len_ok {K : PySem.W.Frag} {H : Hp} {v : V} {ds : List PyData} (h : Dp K H v (.tuple ds)) : ∃ a xs, v = .ref a ∧ SqT K H a xs ∧ DpAll K H xs ds ∧ xs.length = ds.length := by
  cases h with
  | tup hs ha => exact ⟨_, _, rfl, hs, ha, dps_len ha⟩
theorem sc_is_row : FnScope ["thing", "low", "high"] ["thing", "low", "high"] (C8.fnScope (topS 3)) := C8.fnScope_by (by decide +kernel)
theorem ok_is_row {f : Addr} {fd : FuncData} (F : C8.Def K mg "is_row" (topS 3) f fd) (b : Binds K fd ["thing", "low", "high"] []) (B : Bl mg)  : C8.Cal P w K mg base 1 "is_row" (spRow K) [] := by
  refine C8.cal0 F b .nil sc_is_row ?len ?body
  case len => rintro vs H Q E ⟨v, d, lo, hi, rfl, _⟩; rfl
  case body =>
    rintro cdv A outer s H vs Q E hr ⟨v, d, lo, hi, rfl, hd, q⟩
    refine ⟨_, (pss_one (ps_ret (pe_and (pe_isD (c := "tuple") B (pv 0) rfl rfl B.tuple (by decide +kernel) (by decide)) (pe_one (pe_chain op_le op_le (pv 1) (pe_callB call_len_seq rfl B.len PySem.boot_len (pa_cons (pv 0) pa_nil)) (pv 2)))))), ?_⟩
    refine ⟨_, rfl, v, d, rfl, hd, _, rfl, ?_⟩
    cases h : isiD "tuple" d with
    | false =>
      refine iteF ?_
      have e : rowD d lo hi = false := by
        cases d with
        | tuple ds => exact absurd (show true = false from h) (by decide)
        | _ => rfl
      rw [e] at q
      exact q
    | true =>
      obtain ⟨ds, rfl⟩ := tup_of h
      obtain ⟨a, xs, rfl, hs, ha, hl⟩ := len_ok hd
      refine iteT ⟨_, rfl, _, rfl, a, xs, rfl, .inr hs, _, _, rfl, rfl, _, rfl, ?_⟩
      rw [hl]
      have q' : Q (.bl (decide (lo ≤ (ds.length : Int)) && decide ((ds.length : Int) ≤ hi))) H := q
      cases h1 : decide (lo ≤ (ds.length : Int)) with
      | true =>
        rw [h1] at q'
        exact iteT ⟨_, rfl, _, _, rfl, rfl, q'⟩
      | false =>
        rw [h1] at q'
        exact iteF q'

def spLetter (K : PySem.W.Frag) : Sp := fun vs H Q _ => ∃ v d, vs = [v] ∧ Dp K H v d ∧ Q (.bl (letterD d)) H
theorem sc_is_letter : FnScope ["thing"] ["thing"] (C8.fnScope (topS 7)) := C8.fnScope_by (by decide +kernel)
theorem ok_is_letter {f : Addr} {fd : FuncData} (F : C8.Def K mg "is_letter" (topS 7) f fd) (b : Binds K fd ["thing"] []) (B : Bl mg) (c_is_within : C8.Cal P w K mg base 2 "is_within" (spWithin K) []) : C8.Cal P w K mg base 3 "is_letter" (spLetter K) [] := by
  refine C8.cal0 F b .nil sc_is_letter ?len ?body
  case len => rintro vs H Q E ⟨v, d, rfl, _⟩; rfl
  case body =>
    rintro cdv A outer s H vs Q E hr ⟨v, d, rfl, hd, q⟩
    obtain ⟨tML, hML⟩ := B.mostL
    refine ⟨_, (pss_one (ps_ret (pe_and (C8.pe_c c_is_within hr (by decide) rfl (pa_cons (pv 0) (pa_cons (pe_un un_neg (pe_glob (v := .int 20) rfl hML ⟨_, rfl⟩)) (pa_cons (pe_glob (v := .int 20) rfl hML ⟨_, rfl⟩) pa_nil)))) (pe_one (pe_cmpR op_ne (pv 0) pe_int (nomark _)))))), ?_⟩
    refine ⟨_, rfl, 20, rfl, v, d, -20, 20, rfl, hd, _, rfl, ?_⟩
    cases d with
    | int i =>
      cases hd
      have q' : Q (.bl (decide (-20 ≤ i) && decide (i ≤ 20) && !decide (i = 0))) H := q
      show if (decide (-20 ≤ i) && decide (i ≤ 20)) = true then _ else _
      cases h1 : decide (-20 ≤ i) && decide (i ≤ 20) with
      | true =>
        rw [h1] at q'
        refine iteT ⟨_, rfl, rfl, ?_⟩
        have e : decide (V.int i = V.int 0) = decide (i = 0) := by
          by_cases z : i = 0
          · subst z; simp
          · rw [decide_eq_false z, decide_eq_false (fun y => z (V.int.inj y))]
        rw [e]
        exact q'
      | false =>
        rw [h1] at q'
        exact iteF q'
    | none => exact iteF q
    | bool _ => exact iteF q
    | str _ => exact iteF q
    | list _ => exact iteF q
    | tuple _ => exact iteF q
    | dict _ => exact iteF q
end
end K34


set_option Elab.async false
set_option linter.all false
set_option maxRecDepth 100000
set_option maxHeartbeats 4000000
namespace K34
open PySem PySem.Spec PyProof.Rows L2
theorem at0 {α : Type} (x : α) (r : List α) : atI (x :: r) 0 = some x := atI_nat (j := 0) rfl
theorem at1 {α : Type} (x y : α) (r : List α) : atI (x :: y :: r) 1 = some y := atI_nat (j := 1) rfl
theorem at2 {α : Type} (x y z : α) (r : List α) : atI (x :: y :: z :: r) 2 = some z := atI_nat (j := 2) rfl
theorem dec_str (k z : Str) : decide (V.str k = V.str z) = decide (k = z) := by
  by_cases h : k = z
  · subst h; simp
  · rw [decide_eq_false h, decide_eq_false (fun y => h (V.str.inj y))]
theorem dec_int (k z : Int) : decide (V.int k = V.int z) = decide (k = z) := by
  by_cases h : k = z
  · subst h; simp
  · rw [decide_eq_false h, decide_eq_false (fun y => h (V.int.inj y))]
def geD (d : PyData) (m : Int) : Bool := match d with
  | .int i => decide (m ≤ i)
  | _ => false
def tailD (k : Str) (r : List PyData) (n : Int) : Bool :=
  if k = "none" then decide ((r.length : Int) + 1 = 1) else if k = "letter" then (match r with | [a] => letterD a | _ => false) else
    (match r with | [a, b] => withinD a 0 (n - 1) && (if k = "pair" then withinD b 0 (n - 1) else decide (k = "power") && (intD b && geD b 2)) | _ => false)
def ruleD (d : PyData) (n : Int) : Bool := match d with
  | .tuple (.str k :: r) => tailD k r n
  | _ => false
theorem str_of {d : PyData} (h : isiD "str" d = true) : ∃ k, d = .str k := by
  cases d with
  | str k => exact ⟨k, rfl⟩
  | _ => exact absurd (show false = true from h) Bool.false_ne_true
theorem long_no {k : Str} {r : List PyData} {n : Int} (h : 3 ≤ r.length) : tailD k r n = false := by
  unfold tailD
  split
  · exact decide_eq_false (by omega)
  · split
    · match r, h with
      | [], h => simp at h
      | [_], h => simp at h
      | _ :: _ :: _, _ => rfl
    · match r, h with
      | [], h => simp at h
      | [_], h => simp at h
      | [_, _], h => simp at h
      | _ :: _ :: _ :: _, _ => rfl
section
variable {P : Program} {w : World} {K : PySem.W.Frag} {mg : Str → Option Value} {base : Heap}
def spRule (K : PySem.W.Frag) : Sp := fun vs H Q _ => ∃ v d n, vs = [v, .int n] ∧ Dp K H v d ∧ Q (.bl (ruleD d n)) H
theorem sc__is_rule : FnScope ["thing", "at", "kind"] ["thing", "at"] (C8.fnScope (topS 9)) := C8.fnScope_by (by decide +kernel)
theorem ok__is_rule {f : Addr} {fd : FuncData} (F : C8.Def K mg "_is_rule" (topS 9) f fd) (b : Binds K fd ["thing", "at"] []) (B : Bl mg) (c_is_row : C8.Cal P w K mg base 1 "is_row" (spRow K) []) (c_is_letter : C8.Cal P w K mg base 3 "is_letter" (spLetter K) []) (c_is_within : C8.Cal P w K mg base 2 "is_within" (spWithin K) []) (c_is_integer : C8.Cal P w K mg base 1 "is_integer" (spIsInt K) []) : C8.Cal P w K mg base 4 "_is_rule" (spRule K) [] := by
  refine C8.cal0 F b .nil sc__is_rule ?len ?body
  case len => rintro vs H Q E ⟨v, d, n, rfl, _⟩; rfl
  case body =>
    rintro cdv A outer s H vs Q E hr ⟨v, d, n, rfl, hd, q⟩
    refine ⟨_, (pss_cons (ps_if (PW.pt (pw_or (pt_not (pt_val (C8.pe_c c_is_row hr (by decide) rfl (pa_cons (pv 0) (pa_cons pe_int (pa_cons pe_int pa_nil)))))) (pw_or1 (pt_not (pt_val (pe_isD (c := "str") B (pe_ix ix_tup (pv 0) pe_int (fun _ _ => rfl)) rfl rfl B.str (by decide +kernel) (by decide))))))) (pss_one (ps_ret pe_bl)) pss_nil)
    (pss_cons (ps_set (i := 2) sc__is_rule.nd rfl (Or.inl rfl) (pe_ix ix_tup (pv 0) pe_int (fun _ _ => rfl)))
    (pss_cons (ps_if (pt_cmpR op_eq (pv 2) pe_str (nomark _)) (pss_one (ps_ret (pe_cmpR op_eq (pe_callB call_len_seq rfl B.len PySem.boot_len (pa_cons (pv 0) pa_nil)) pe_int (nomark _)))) pss_nil)
    (pss_cons (ps_if (pt_cmpR op_eq (pv 2) pe_str (nomark _)) (pss_one (ps_ret (pe_and (pe_cmpR op_eq (pe_callB call_len_seq rfl B.len PySem.boot_len (pa_cons (pv 0) pa_nil)) pe_int (nomark _)) (pe_one (C8.pe_c c_is_letter hr (by decide) rfl (pa_cons (pe_ix ix_tup (pv 0) pe_int (fun _ _ => rfl)) pa_nil)))))) pss_nil)
    (pss_cons (ps_if (PW.pt (pw_or (pt_cmpR op_ne (pe_callB call_len_seq rfl B.len PySem.boot_len (pa_cons (pv 0) pa_nil)) pe_int (nomark _)) (pw_or1 (pt_not (pt_val (C8.pe_c c_is_within hr (by decide) rfl (pa_cons (pe_ix ix_tup (pv 0) pe_int (fun _ _ => rfl)) (pa_cons pe_int (pa_cons (pe_op op_sub (pv 1) pe_int) pa_nil))))))))) (pss_one (ps_ret pe_bl)) pss_nil)
    (pss_cons (ps_if (pt_cmpR op_eq (pv 2) pe_str (nomark _)) (pss_one (ps_ret (C8.pe_c c_is_within hr (by decide) rfl (pa_cons (pe_ix ix_tup (pv 0) pe_int (fun _ _ => rfl)) (pa_cons pe_int (pa_cons (pe_op op_sub (pv 1) pe_int) pa_nil)))))) pss_nil)
    (pss_one (ps_ret (pe_and (pe_cmpR op_eq (pv 2) pe_str (nomark _)) (pe_and (C8.pe_c c_is_integer hr (by decide) rfl (pa_cons (pe_ix ix_tup (pv 0) pe_int (fun _ _ => rfl)) pa_nil)) (pe_one (pe_cmpR op_ge (pe_ix ix_tup (pv 0) pe_int (fun _ _ => rfl)) pe_int (nomark _))))))))))))), ?_⟩
    refine ⟨_, rfl, v, d, 1, 3, rfl, hd, _, rfl, ?_⟩
    cases hrow : rowD d 1 3 with
    | false =>
      refine iteT (iteT ?_)
      have e : ruleD d n = false := by
        cases d with
        | tuple ds =>
          cases ds with
          | nil => rfl
          | cons d0 r =>
            cases d0 with
            | str k =>
              refine long_no ?_
              have z : (decide ((1 : Int) ≤ (((PyData.str k :: r).length : Nat) : Int)) && decide ((((PyData.str k :: r).length : Nat) : Int) ≤ 3)) = false := hrow
              rw [List.length_cons] at z
              rw [Bool.and_eq_false_iff, decide_eq_false_iff_not, decide_eq_false_iff_not] at z
              omega
            | _ => rfl
        | _ => rfl
      rw [e] at q
      exact q
    | true =>
      refine iteF ?_
      have htup : isiD "tuple" d = true := by
        cases d with
        | tuple ds => rfl
        | _ => cases hrow
      obtain ⟨ds, rfl⟩ := tup_of htup
      have z : (decide ((1 : Int) ≤ ((ds.length : Nat) : Int)) && decide (((ds.length : Nat) : Int) ≤ 3)) = true := hrow
      rw [Bool.and_eq_true, decide_eq_true_eq, decide_eq_true_eq] at z
      obtain ⟨a, xs, rfl, hs, ha, hl⟩ := len_ok hd
      cases ha with
      | nil => simp at z
      | @cons v0 vr d0 dr h0 hr' =>
        have hlr := dps_len hr'
        rw [List.length_cons] at z
        refine ⟨_, rfl, _, _, _, _, rfl, rfl, hs, at0 _ _, v0, d0, rfl, h0, _, rfl, ?_⟩
        cases hstr : isiD "str" d0 with
        | false =>
          refine iteT ?_
          have e : ruleD (.tuple (d0 :: dr)) n = false := by
            cases d0 with
            | str k => exact absurd (show true = false from hstr) (by decide)
            | _ => rfl
          rw [e] at q
          exact q
        | true =>
          obtain ⟨k, rfl⟩ := str_of hstr
          cases h0
          refine iteF ?_
          have q : Q (.bl (tailD k dr n)) H := q
          unfold tailD at q
          refine ⟨_, rfl, _, _, _, _, rfl, rfl, hs, at0 _ _, ?_⟩
          -- kind == 'none'
          refine ⟨_, rfl, rfl, _, rfl, ?_⟩
          rw [dec_str]
          refine ite2 (fun c => ?_) (fun c => ?_)
          · rw [if_pos (of_decide_eq_true c)] at q
            refine ⟨_, rfl, a, _, rfl, .inr hs, rfl, ?_⟩
            rw [dec_int, List.length_cons, hlr]
            exact q
          · rw [if_neg (of_decide_eq_false (Bool.eq_false_iff.mpr c))] at q
            -- kind == 'letter'
            refine ⟨_, rfl, rfl, _, rfl, ?_⟩
            rw [dec_str]
            refine ite2 (fun c2 => ?_) (fun c2 => ?_)
            · rw [if_pos (of_decide_eq_true c2)] at q
              refine ⟨_, rfl, a, _, rfl, .inr hs, rfl, _, rfl, ?_⟩
              rw [dec_int, List.length_cons]
              refine ite2 (fun c3 => ?_) (fun c3 => ?_)
              · have c3' := of_decide_eq_true c3
                match dr, vr, hr', hlr, q, hs with
                | [d1], [v1], hr', hlr, q, hs =>
                  cases hr' with
                  | cons h1 _ =>
                    exact ⟨_, rfl, _, _, _, _, rfl, rfl, hs, at1 _ _ _, v1, d1, rfl, h1, q⟩
                | [], [], _, _, _, _ => simp at c3'
                | _ :: _ :: _, _ :: _ :: _, _, _, _, _ => simp at c3'; omega
              · match dr, vr, hlr, q with
                | [d1], [v1], _, _ => exact absurd (show _ from decide_eq_true (by simp)) c3
                | [], _, _, q => exact q
                | _ :: _ :: _, _, _, q => exact q
            · rw [if_neg (of_decide_eq_false (Bool.eq_false_iff.mpr c2))] at q
              -- len(thing) != 3 or not is_within(thing[1], 0, at - 1)
              refine ⟨_, rfl, a, _, rfl, .inr hs, rfl, _, rfl, ?_⟩
              rw [dec_int, List.length_cons]
              by_cases c3 : (((vr.length + 1 : Nat) : Int)) = 3
              · rw [decide_eq_true c3]
                refine iteF ?_
                match dr, vr, hr', hlr, q, hs, c3 with
                | [d1, d2], [v1, v2], hr', hlr, q, hs, c3 =>
                  cases hr' with
                  | cons h1 hr2 =>
                    cases hr2 with
                    | cons h2 _ =>
                      refine ⟨_, rfl, _, _, _, _, rfl, rfl, hs, at1 _ _ _, _, rfl, _, _, rfl, rfl, v1, d1, 0, n - 1, rfl, h1, _, rfl, ?_⟩
                      cases hw : withinD d1 0 (n - 1) with
                      | false =>
                        refine iteT ?_
                        have q : Q (.bl (withinD d1 0 (n - 1) && _)) H := q
                        rw [hw, Bool.false_and] at q
                        exact q
                      | true =>
                        refine iteF ?_
                        have q : Q (.bl (withinD d1 0 (n - 1) && (if k = "pair" then withinD d2 0 (n - 1) else decide (k = "power") && (intD d2 && geD d2 2)))) H := q
                        rw [hw, Bool.true_and] at q
                        refine ⟨_, rfl, rfl, _, rfl, ?_⟩
                        rw [dec_str]
                        refine ite2 (fun c4 => ?_) (fun c4 => ?_)
                        · rw [if_pos (of_decide_eq_true c4)] at q
                          exact ⟨_, rfl, _, _, _, _, rfl, rfl, hs, at2 _ _ _ _, _, rfl, _, _, rfl, rfl, v2, d2, 0, n - 1, rfl, h2, q⟩
                        · rw [if_neg (of_decide_eq_false (Bool.eq_false_iff.mpr c4))] at q
                          refine ⟨_, rfl, rfl, _, rfl, ?_⟩
                          rw [dec_str]
                          refine ite2 (fun c5 => ?_) (fun c5 => ?_)
                          · rw [c5, Bool.true_and] at q
                            refine ⟨_, rfl, _, _, _, _, rfl, rfl, hs, at2 _ _ _ _, v2, d2, rfl, h2, _, rfl, ?_⟩
                            cases hi : intD d2 with
                            | false =>
                              rw [hi, Bool.false_and] at q
                              exact iteF q
                            | true =>
                              rw [hi, Bool.true_and] at q
                              obtain ⟨i, rfl⟩ := int_of hi
                              cases h2
                              refine iteT ⟨_, rfl, _, _, _, _, rfl, rfl, hs, at2 _ _ _ _, _, _, rfl, rfl, ?_⟩
                              exact q
                          · rw [Bool.eq_false_iff.mpr c5, Bool.false_and] at q
                            exact q
                | [], [], _, _, _, _, c3 => simp at c3
                | [_], [_], _, _, _, _, c3 => simp at c3
                | _ :: _ :: _ :: _, _ :: _ :: _ :: _, _, _, _, _, c3 => simp at c3; omega
              · rw [decide_eq_false c3]
                refine iteT (iteT ?_)
                match dr, vr, hlr, q, c3 with
                | [d1, d2], [v1, v2], _, _, c3 => exact absurd (by simp) c3
                | [], _, _, q, _ => exact q
                | [_], _, _, q, _ => exact q
                | _ :: _ :: _ :: _, _, _, q, _ => exact q
end
end K34


set_option Elab.async false
set_option linter.all false
set_option maxRecDepth 100000
set_option maxHeartbeats 4000000
namespace K34
open PySem PySem.Spec PyProof.Rows L2
def genC (sc : Scope) : Bool := decide (sc.kind = .function) && !sc.isCoroutine && sc.names.all (fun y => !decide (y.2 = .cell)) && sc.names.all (fun y => !decide (y.2 = .free)) && decide (sc.names.lookup (".0" : Str) = some NameKind.local)
theorem gensc_by {sc : Scope} (h : genC sc = true) : UG.GenSc sc := by
  unfold genC at h
  simp only [Bool.and_eq_true, Bool.not_eq_true', decide_eq_true_eq, List.all_eq_true, decide_eq_false_iff_not] at h
  obtain ⟨⟨⟨⟨h1, h2⟩, h3⟩, h4⟩, h5⟩ := h
  exact ⟨h1, h2, h3, h4, h5⟩
def allR : List PyData → Nat → Bool
  | [], _ => true
  | d :: r, n => ruleD d (n : Int) && allR r (n + 1)
theorem allR_true : ∀ {ds : List PyData} {n : Nat}, (∀ i d, ds[i]? = some d → ruleD d ((n + i : Nat) : Int) = true) → allR ds n = true
  | [], _, _ => rfl
  | d :: r, n, h => by
    unfold allR
    rw [Bool.and_eq_true]
    refine ⟨h 0 d rfl, allR_true fun i e he => ?_⟩
    have := h (i + 1) e (by simpa using he)
    rwa [show n + (i + 1) = n + 1 + i by omega] at this
theorem allR_false : ∀ {ds : List PyData} {n i : Nat} {d : PyData}, ds[i]? = some d → ruleD d ((n + i : Nat) : Int) = false → allR ds n = false
  | [], _, _, _, e, _ => by simp at e
  | d :: r, n, 0, _, e, h => by
    simp at e
    subst e
    unfold allR
    rw [show ruleD d (n : Int) = false from h, Bool.false_and]
  | d :: r, n, i + 1, e', e, h => by
    unfold allR
    rw [allR_false (ds := r) (n := n + 1) (i := i) (d := e') (by simpa using e) (by rw [show n + 1 + i = n + (i + 1) by omega]; exact h), Bool.and_false]
def straightD (d : PyData) : Bool := match d with
  | .tuple ds => rowD (.tuple ds) 1 4000 && allR ds 0
  | _ => false
def Keep (T : Addr) (H H' : Hp) : Prop := LamX.ExtN H H' ∧ GxR.TabG H' T
theorem keep_tabbed {T : Addr} {H H' : Hp} (h : GxR.TabG H T) (t : GxR.Tabbed T H H') : Keep T H H' := by
  refine ⟨fun b o e n => ?_, t.1⟩
  by_cases hb : b = T
  · obtain ⟨ps, hp, _⟩ := h
    rw [hb, hp] at e
    exact absurd (Option.some.inj e).symm (n ps)
  · rw [t.2 b hb]; exact e
theorem tabG_upd {T p : Addr} {H : Hp} {o : HO} (h : GxR.TabG H T) (hp : H p = none) : GxR.TabG (upd H p o) T := by
  obtain ⟨ps, h1, h2⟩ := h
  exact ⟨ps, by rw [upd_ne (ne_of_none h1 hp)]; exact h1, h2⟩
section
variable {P : Program} {w : World} {K : PySem.W.Frag} {mg : Str → Option Value} {base : Heap}
theorem nd2 : (["at", "rule"] : List Str).Nodup := by decide +kernel
def spStraight (K : PySem.W.Frag) (T : Addr) : Sp := fun vs H Q _ => ∃ v d, vs = [v] ∧ Dp K H v d ∧ GxR.TabG H T ∧ ∀ H', Keep T H H' → Q (.bl (straightD d)) H'
theorem sc_is_straight : FnScope ["thing"] ["thing"] (C8.fnScope (topS 8)) := C8.fnScope_by (by decide +kernel)
theorem ok_is_straight {f c T : Addr} {oc : Value} {od an : Option Addr} {kV doc pm ct : Value} {osl : Array (Option Value)}
    (lk : K.lookup f = some ⟨oc, od, .func (PySem.W.fnOf "is_straight" "is_straight" (C8.fnArgs (topS 8)) (C8.fnBody (topS 8)) (C8.fnScope (topS 8)) .none kV doc pm an (.ref c) ct), osl⟩) (hcd : PySem.W.codeIn K (.ref c) "is_straight" = true)
    (TB : LamX.TabB base mg c T) (B : Bl mg) (c_is_row : C8.Cal P w K mg base 1 "is_row" (spRow K) []) (c__is_rule : C8.Cal P w K mg base 4 "_is_rule" (spRule K) []) :
    FnOk P w K mg base C8.CX0 6 f (PySem.W.fnOf "is_straight" "is_straight" (C8.fnArgs (topS 8)) (C8.fnBody (topS 8)) (C8.fnScope (topS 8)) .none kV doc pm an (.ref c) ct) ["thing"] (spStraight K T) := by
  obtain ⟨tMR, hMR⟩ := B.mostR
  refine fn_of lk hcd sc_is_straight (by rintro vs H Q E ⟨v, d, rfl, _⟩; rfl) ?_
  intro A outer s H vs Q E hr hsp
  suffices h : ∃ t, PSs (cxOf C8.CX0 P w K mg base ["thing"] "is_straight" (C8.fnScope (topS 8)) f (.ref c) A outer s H E).nox (C8.fnBody (topS 8)) t ∧ t { nx := fun _ H' => Q .non H', rt := Q } (start ["thing"] vs) H by
    obtain ⟨t, h1, h2⟩ := h
    exact ⟨t, h1.nox, h2⟩
  obtain ⟨v, d, rfl, hd, hT, q⟩ := hsp
  refine ⟨_, pss_cons (ps_if (pt_not (pt_val (C8.pe_c c_is_row hr (by decide) rfl (pa_cons (pv 0) (pa_cons pe_int (pa_cons (pe_glob (v := .int 4000) rfl hMR ⟨_, rfl⟩) pa_nil)))))) (pss_one (ps_ret pe_bl)) pss_nil)
    (pss_one (ps_ret (UG.pe_allG (P := T) (N := ["at", "rule"]) (k := 4) (g := gTup K 2 (gCons (gName 0) (gCons (gName 1) gNil))) hr rfl B.all (by decide +kernel) TB rfl (gensc_by (by decide +kernel)) (UG.pi_enumT rfl B.enumerate (pa_cons (pv 0) pa_nil))
      (fun _ _ _ _ _ _ _ => by exact pg_tup rfl (pgs_cons (pg_name (i := 0) nd2 rfl (Or.inl rfl)) (pgs_cons (pg_name (i := 1) nd2 rfl (Or.inl rfl)) pgs_nil)))
      (fun _ _ _ _ _ _ hr' => by exact C8.pe_c c__is_rule hr' (by decide) rfl (pa_cons (pv 1) (pa_cons (pv 0) pa_nil)))))), ?_⟩
  refine ⟨_, rfl, v, d, 1, 4000, rfl, hd, _, rfl, ?_⟩
  cases hrow : rowD d 1 4000 with
  | false =>
    refine iteT ?_
    have e : straightD d = false := by
      cases d with
      | tuple ds =>
        show (rowD (.tuple ds) 1 4000 && allR ds 0) = false
        rw [hrow, Bool.false_and]
      | _ => rfl
    have := q H ⟨LamX.ExtN.refl H, hT⟩
    rw [e] at this
    exact this
  | true =>
    refine iteF ?_
    have htup : isiD "tuple" d = true := by
      cases d with
      | tuple ds => rfl
      | _ => cases hrow
    obtain ⟨ds, rfl⟩ := tup_of htup
    have es : straightD (.tuple ds) = allR ds 0 := by
      show (rowD (.tuple ds) 1 4000 && allR ds 0) = allR ds 0
      rw [hrow, Bool.true_and]
    rw [es] at q
    obtain ⟨a, xs, rfl, hs, ha, hl⟩ := len_ok hd
    refine ⟨_, rfl, a, xs, rfl, hs, hT, xs.length, fun i H' => i ≤ xs.length ∧ Keep T H H' ∧ ∀ j e, j < i → ds[j]? = some e → ruleD e ((j : Nat) : Int) = true, ⟨?_⟩, ?_⟩
    · rintro i H1 ⟨hi, hk, hall⟩
      by_cases hlt : i < xs.length
      · refine .inr ⟨hlt, ⟨xs, xs[i], sqt_ext hk.1 hs, List.getElem?_eq_getElem hlt⟩, ?_⟩
        rintro _ _ ⟨Tp, x, rfl, hTp, rfl, hx⟩
        have ex := hx xs (sqt_ext hk.1 hs)
        obtain ⟨e, he, hde⟩ := dps_get' ha ex
        have ext2 : LamX.ExtN H (upd H1 Tp (.tup [.int (i : Nat), x])) := hk.1.trans (same_ext (same_new hTp _))
        refine ⟨Tp, [.int (i : Nat), x], rfl, SqT.of upd_same, rfl, _, _, rfl, _, _, rfl, rfl, _, rfl, _, rfl, x, e, (i : Nat), rfl, dp_ext ext2 e hde, _, rfl, ?_⟩
        have kp : Keep T H (upd H1 Tp (.tup [.int (i : Nat), x])) := ⟨ext2, tabG_upd hk.2 hTp⟩
        cases hb : ruleD e ((i : Nat) : Int) with
        | true =>
          refine iteT ⟨hlt, kp, fun j e' hj he' => ?_⟩
          rcases Nat.lt_succ_iff_lt_or_eq.mp hj with h | h
          · exact hall j e' h he'
          · subst h
            rw [he] at he'
            cases he'
            exact hb
        | false =>
          refine iteF ?_
          have := q _ kp
          rw [allR_false (n := 0) he (by rw [Nat.zero_add]; exact hb)] at this
          exact this
      · have ei : i = xs.length := by omega
        refine .inl ⟨⟨xs, sqt_ext hk.1 hs, by omega⟩, ?_⟩
        have := q H1 hk
        rw [allR_true (n := 0) fun j e he => by rw [Nat.zero_add]; exact hall j e (by have := (List.getElem?_eq_some_iff.mp he).1; omega) he] at this
        exact this
    · intro H2 t2
      exact ⟨Nat.zero_le _, keep_tabbed hT t2, fun j e hj => absurd hj (Nat.not_lt_zero _)⟩
end
end K34


set_option Elab.async false
set_option linter.all false
set_option maxRecDepth 100000
set_option maxHeartbeats 4000000
namespace K34
open PySem PySem.Spec PyProof.Rows L2
/-! ### data of bounded depth -/
def OkN (n : Nat) (d : PyData) : Prop := PyData.canLay0 d = true ∧ PyData.depth d ≤ n
theorem oks_iff {n : Nat} : ∀ {ds : List PyData}, (PyData.canLayAll0 ds = true ∧ PyData.depthAll ds ≤ n) ↔ ∀ d ∈ ds, OkN n d
  | [] => by simp [PyData.canLayAll0, PyData.depthAll]
  | d :: r => by
    have ih := @oks_iff n r
    unfold PyData.canLayAll0 PyData.depthAll
    rw [Bool.and_eq_true, Nat.max_le]
    constructor
    · rintro ⟨⟨h1, h2⟩, h3, h4⟩ e he
      rcases List.mem_cons.mp he with rfl | he
      · exact ⟨h1, h3⟩
      · exact ih.mp ⟨h2, h4⟩ e he
    · intro h
      have h1 := h d List.mem_cons_self
      have h2 := ih.mpr fun e he => h e (List.mem_cons_of_mem _ he)
      exact ⟨⟨h1.1, h2.1⟩, h1.2, h2.2⟩
theorem ok_tup {n : Nat} {ds : List PyData} : OkN (n + 1) (.tuple ds) ↔ ∀ d ∈ ds, OkN n d := by
  rw [← oks_iff]
  unfold OkN
  rw [PyData.canLay0, PyData.depth]
  constructor
  · rintro ⟨a, b⟩; exact ⟨a, by omega⟩
  · rintro ⟨a, b⟩; exact ⟨a, by omega⟩
theorem ok_lst {n : Nat} {ds : List PyData} : OkN (n + 1) (.list ds) ↔ ∀ d ∈ ds, OkN n d := by
  rw [← oks_iff]
  unfold OkN
  rw [PyData.canLay0, PyData.depth]
  constructor
  · rintro ⟨a, b⟩; exact ⟨a, by omega⟩
  · rintro ⟨a, b⟩; exact ⟨a, by omega⟩
theorem OkN.mono {n m : Nat} {d : PyData} (h : OkN n d) (hm : n ≤ m) : OkN m d := ⟨h.1, Nat.le_trans h.2 hm⟩
theorem OkN.shaped {n : Nat} {d : PyData} (h : OkN n d) (hn : n ≤ 64) : SeqAt.shaped d = true := by
  unfold SeqAt.shaped
  rw [h.1, Bool.true_and]
  exact decide_eq_true (Nat.le_trans h.2 hn)
theorem eqv_nil (ds : List PyData) : PyData.eqv (.list ds) (.list []) = ds.isEmpty := by
  cases ds <;> simp [PyData.eqv, PyData.eqvAll]
theorem dps_filter {K : PySem.W.Frag} {H : Hp} : ∀ {vs : List V} {ds : List PyData}, DpAll K H vs ds → True := fun _ => trivial
theorem noint {k : Str} {r : List PyData} {n : Int} (hl : r.length ≤ 2) (h : (r.filter fun d => !intD d) ≠ []) : tailD k r n = false := by
  match r, hl with
  | [], _ => exact absurd rfl h
  | [a], _ =>
    have ha : intD a = false := by
      cases e : intD a with
      | false => rfl
      | true => simp [e] at h
    unfold tailD
    split
    · exact decide_eq_false (by simp)
    · split
      · cases a <;> first | rfl | cases ha
      · rfl
  | [a, b], _ =>
    unfold tailD
    split
    · exact decide_eq_false (by simp)
    · split
      · rfl
      · show (withinD a 0 (n - 1) && _) = false
        cases e : intD a with
        | false =>
          have : withinD a 0 (n - 1) = false := by cases a <;> first | rfl | cases e
          rw [this, Bool.false_and]
        | true =>
          have hb : intD b = false := by
            cases e2 : intD b with
            | false => rfl
            | true => simp [e, e2] at h
          have : withinD b 0 (n - 1) = false := by cases b <;> first | rfl | cases hb
          show (withinD a 0 (n - 1) && (if k = "pair" then withinD b 0 (n - 1) else decide (k = "power") && (intD b && geD b 2))) = false
          rw [hb, this]
          simp
  | _ :: _ :: _ :: _, hl => simp at hl
theorem allint {r : List PyData} (h : (r.filter fun d => !intD d) = []) : ∀ d ∈ r, ∃ i, d = .int i := by
  intro d hd
  apply int_of
  cases e : intD d with
  | true => rfl
  | false =>
    have : d ∈ r.filter fun d => !intD d := List.mem_filter.mpr ⟨hd, by rw [e]; rfl⟩
    rw [h] at this
    cases this
theorem inV_str (k : Str) : ∀ zs : List Str, inV (.str k) (zs.map V.str) = zs.any fun z => decide (k = z)
  | [] => rfl
  | z :: r => by
    have ih := inV_str k r
    show (eqV (.str z) (.str k) || inV (.str k) (r.map V.str)) = _
    rw [ih, List.any_cons]
    congr 1
    show (z == k) = decide (k = z)
    by_cases h : k = z
    · subst h; simp
    · rw [decide_eq_false h]; exact beq_eq_false_iff_ne.mpr (Ne.symm h)
section
variable {P : Program} {w : World} {K : PySem.W.Frag} {mg : Str → Option Value} {base : Heap}
def spSame (K : PySem.W.Frag) : Sp := fun vs H Q _ => ∃ x y : Bool, vs = [.bl x, .bl y] ∧ Q (.bl (x == y)) H
theorem sc__law_same : FnScope ["found", "due", "k"] ["found", "due"] (C8.fnScope (topS 13)) := C8.fnScope_by (by decide +kernel)
theorem ok__law_same {f : Addr} {fd : FuncData} (F : C8.Def K mg "_law_same" (topS 13) f fd) (b : Binds K fd ["found", "due"] []) (B : Bl mg)  : C8.Cal P w K mg base 1 "_law_same" (spSame K) [] := by
  refine C8.cal0 F b .nil sc__law_same ?len ?body
  case len => rintro vs H Q E ⟨x, y, rfl, _⟩; rfl
  case body =>
    rintro cdv A outer s H vs Q E hr ⟨x, y, rfl, q⟩
    refine ⟨_, (pss_cons (ps_if (pt_val (pe_isD (c := "tuple") B (pv 1) rfl rfl B.tuple (by decide +kernel) (by decide))) pss_never pss_nil)
    (pss_cons (ps_if (pt_cmpR op_isN (pv 1) pe_non (nomark _)) (pss_one (ps_ret (pe_cmpR op_isN (pv 0) pe_non (nomark _)))) pss_nil)
    (pss_cons (ps_if (pt_val (pe_isD (c := "bool") B (pv 1) rfl rfl B.bool (by decide +kernel) (by decide))) (pss_one (ps_ret (pe_and (pe_isD (c := "bool") B (pv 0) rfl rfl B.bool (by decide +kernel) (by decide)) (pe_one (pe_cmpR op_eq (pv 0) (pv 1) (nomark _)))))) pss_nil)
    pss_never))), ?_⟩
    refine ⟨_, rfl, .bl y, .bool y, rfl, .bl y, _, rfl, iteF ?_⟩
    refine ⟨_, rfl, rfl, _, rfl, ?_⟩
    refine iteF ?_
    refine ⟨_, rfl, .bl y, .bool y, rfl, .bl y, _, rfl, iteT ?_⟩
    refine ⟨_, rfl, .bl x, .bool x, rfl, .bl x, _, rfl, iteT ?_⟩
    refine ⟨_, rfl, _, rfl, rfl, ?_⟩
    have e : decide (V.bl x = V.bl y) = (x == y) := by cases x <;> cases y <;> decide
    rw [e]
    exact q
theorem sc__law_is_whole : FnScope ["found"] ["found"] (C8.fnScope (topS 14)) := C8.fnScope_by (by decide +kernel)
theorem ok__law_is_whole {f : Addr} {fd : FuncData} (F : C8.Def K mg "_law_is_whole" (topS 14) f fd) (b : Binds K fd ["found"] []) (B : Bl mg)  : C8.Cal P w K mg base 1 "_law_is_whole" (spIsInt K) [] := by
  refine C8.cal0 F b .nil sc__law_is_whole ?len ?body
  case len => rintro vs H Q E ⟨v, d, rfl, _⟩; rfl
  case body =>
    rintro cdv A outer s H vs Q E hr ⟨v, d, rfl, hd, q⟩
    refine ⟨_, (pss_one (ps_ret (pe_and (pe_isD (c := "int") B (pv 0) rfl rfl B.int (by decide +kernel) (by decide)) (pe_one (pe_not (pe_isD (c := "bool") B (pv 0) rfl rfl B.bool (by decide +kernel) (by decide))))))), ?_⟩
    refine ⟨_, rfl, v, d, rfl, hd, _, rfl, ?_⟩
    have e := intD_eq d
    cases h : isiD "int" d with
    | true =>
      refine iteT ⟨_, rfl, v, d, rfl, hd, _, rfl, ?_⟩
      rw [h, Bool.true_and] at e
      rw [e]
      exact q
    | false =>
      refine iteF ?_
      rw [h, Bool.false_and] at e
      rw [e]
      exact q
end
end K34


set_option Elab.async false
set_option linter.all false
set_option maxRecDepth 100000
set_option maxHeartbeats 8000000
namespace K34
open PySem PySem.Spec PyProof.Rows L2
theorem cut1 (x : V) (vs : List V) : cutV (x :: vs) (some 1) none = vs := by
  unfold cutV
  rw [show HT.sIx (x :: vs).length 0 (some 1) = 1 from by rw [show (1 : Int) = ((1 : Nat) : Int) from rfl, HT.sIx_nat]; simp, HT.sIx_none]
  simp
theorem whole1 (x : V) (vs : List V) : ¬ (HT.sIx (x :: vs).length 0 (some 1) = 0 ∧ HT.sIx (x :: vs).length (x :: vs).length none = (x :: vs).length) := by
  rw [show HT.sIx (x :: vs).length 0 (some 1) = 1 from by rw [show (1 : Int) = ((1 : Nat) : Int) from rfl, HT.sIx_nat]; simp]
  simp
theorem dps_snoc {K : PySem.W.Frag} {H : Hp} : ∀ {vs : List V} {ds : List PyData} {v : V} {d : PyData}, DpAll K H vs ds → Dp K H v d → DpAll K H (vs ++ [v]) (ds ++ [d])
  | _, _, _, _, .nil, h => .cons h .nil
  | _, _, _, _, .cons h t, h' => .cons h (dps_snoc t h')
theorem take_succ {α : Type} {l : List α} {i : Nat} {x : α} (h : l[i]? = some x) : l.take (i + 1) = l.take i ++ [x] := by
  rw [List.take_add_one, h]; rfl
theorem tail_pair (a b n : Int) : tailD "pair" [.int a, .int b] n = (decide (0 ≤ a) && decide (a ≤ n - 1) && (decide (0 ≤ b) && decide (b ≤ n - 1))) := by
  unfold tailD
  rw [if_neg (by decide), if_neg (by decide)]
  show (withinD (.int a) 0 (n - 1) && (if ("pair" : Str) = "pair" then withinD (.int b) 0 (n - 1) else _)) = _
  rw [if_pos rfl]
  rfl
theorem tail_power (a b n : Int) : tailD "power" [.int a, .int b] n = (decide (0 ≤ a) && decide (a ≤ n - 1) && decide (2 ≤ b)) := by
  unfold tailD
  rw [if_neg (by decide), if_neg (by decide)]
  show (withinD (.int a) 0 (n - 1) && (if ("power" : Str) = "pair" then withinD (.int b) 0 (n - 1) else decide (("power" : Str) = "power") && (intD (.int b) && geD (.int b) 2))) = _
  rw [if_neg (by decide), decide_eq_true (rfl : ("power" : Str) = "power")]
  rfl
theorem tail_short {k : Str} {r : List PyData} {n : Int} (hk : k = "pair" ∨ k = "power") (h : r.length < 2) : tailD k r n = false := by
  rcases hk with rfl | rfl
  all_goals
    unfold tailD
    rw [if_neg (by decide), if_neg (by decide)]
    match r, h with
    | [], _ => rfl
    | [_], _ => rfl
    | _ :: _ :: _, h => exact absurd h (by simp only [List.length_cons]; omega)
theorem tail_none (r : List PyData) (n : Int) : tailD "none" r n = decide ((r.length : Int) + 1 = 1) := by
  unfold tailD
  rw [if_pos rfl]
theorem tail_letter1 (d : PyData) (n : Int) : tailD "letter" [d] n = letterD d := by
  unfold tailD
  rw [if_neg (by decide), if_pos rfl]
theorem tail_letterN {r : List PyData} {n : Int} (h : r.length ≠ 1) : tailD "letter" r n = false := by
  unfold tailD
  rw [if_neg (by decide), if_pos rfl]
  match r, h with
  | [], _ => rfl
  | [_], h => simp at h
  | _ :: _ :: _, _ => rfl
theorem tail_other {k : Str} {r : List PyData} {n : Int} (h1 : k ≠ "none") (h2 : k ≠ "letter") (h3 : k ≠ "pair") (h4 : k ≠ "power") : tailD k r n = false := by
  unfold tailD
  rw [if_neg h1, if_neg h2]
  match r with
  | [] => rfl
  | [_] => rfl
  | [a, b] =>
    show (withinD a 0 (n - 1) && (if k = "pair" then withinD b 0 (n - 1) else decide (k = "power") && (intD b && geD b 2))) = false
    rw [if_neg h3, decide_eq_false h4, Bool.false_and, Bool.and_false]
  | _ :: _ :: _ :: _ => rfl
theorem len1 {α : Type} {l : List α} (h : l.length = 1) : ∃ a, l = [a] := by
  match l, h with
  | [a], _ => exact ⟨a, rfl⟩
theorem len2 {α : Type} {l : List α} (h : l.length = 2) : ∃ a b, l = [a, b] := by
  match l, h with
  | [a, b], _ => exact ⟨a, b, rfl⟩
section
variable {P : Program} {w : World} {K : PySem.W.Frag} {mg : Str → Option Value} {base : Heap}
def spLawStr (K : PySem.W.Frag) : Sp := fun vs H Q _ => ∃ v d, vs = [v] ∧ Dp K H v d ∧ OkN 40 d ∧ ∀ H', Same H H' → Q (.bl (straightD d)) H'
theorem straight_bad {ds : List PyData} {i : Nat} {d : PyData} (e : ds[i]? = some d) (h : ruleD d (i : Int) = false) : straightD (.tuple ds) = false := by
  show (rowD (.tuple ds) 1 4000 && allR ds 0) = false
  rw [allR_false (n := 0) e (by rw [Nat.zero_add]; exact h), Bool.and_false]
theorem sc__law_is_straight : FnScope ["found", "k", "rule", "one"] ["found"] (C8.fnScope (topS 17)) := C8.fnScope_by (by decide +kernel)
theorem ok__law_is_straight {f : Addr} {fd : FuncData} (F : C8.Def K mg "_law_is_straight" (topS 17) f fd) (b : Binds K fd ["found"] []) (B : Bl mg) (c__law_is_whole : C8.Cal P w K mg base 1 "_law_is_whole" (spIsInt K) []) : C8.Cal P w K mg base 2 "_law_is_straight" (spLawStr K) [] := by
  refine C8.cal0 F b .nil sc__law_is_straight ?len ?body
  case len => rintro vs H Q E ⟨v, d, rfl, _⟩; rfl
  case body =>
    rintro cdv A outer s H vs Q E hr ⟨v, d, rfl, hd, hok, q⟩
    refine ⟨_, (pss_cons (ps_if (PW.pt (pw_or (pt_not (pt_val (pe_isD (c := "tuple") B (pv 0) rfl rfl B.tuple (by decide +kernel) (by decide)))) (pw_or1 (pt_not (pt_chain op_lt op_lt pe_int (pe_callB call_len_seq rfl B.len PySem.boot_len (pa_cons (pv 0) pa_nil)) pe_int))))) (pss_one (ps_ret pe_bl)) pss_nil)
    (pss_cons (ps_for PassesOwn.never rfl (pi_range1 rfl B.range (pa_cons (pe_callB call_len_seq rfl B.len PySem.boot_len (pa_cons (pv 0) pa_nil)) pa_nil)) (pg_name (i := 1) sc__law_is_straight.nd rfl (Or.inl rfl))
    (pss_cons (ps_set (i := 2) sc__law_is_straight.nd rfl (Or.inl rfl) (pe_ix ix_tup (pv 0) (pv 1) (fun _ _ => rfl)))
    (pss_cons (ps_if (PW.pt (pw_or (pt_not (pt_val (pe_isD (c := "tuple") B (pv 2) rfl rfl B.tuple (by decide +kernel) (by decide)))) (pw_or (pt_cmpR op_eq (pe_callB call_len_seq rfl B.len PySem.boot_len (pa_cons (pv 2) pa_nil)) pe_int (nomark _)) (pw_or (pt_not (pt_val (pe_isD (c := "str") B (pe_ix ix_tup (pv 2) pe_int (fun _ _ => rfl)) rfl rfl B.str (by decide +kernel) (by decide)))) (pw_or1 (pt_cmpR op_gt (pe_callB call_len_seq rfl B.len PySem.boot_len (pa_cons (pv 2) pa_nil)) pe_int (nomark _))))))) (pss_one (ps_ret pe_bl)) pss_nil)
    (pss_cons (ps_if (pt_cmpR (op_neD (hr.units)) (pe_lc (own := [("one", 3)]) (g := gName 3) (by rfl) sc__law_is_straight.nd (pi_tup (pe_slice sl_tupA (pv 2) (po_some pe_int) po_none)) (blkOk_by (own := [("one", 3)]) (N := ["found", "k", "rule", "one"]) (sc := (C8.fnScope (topS 17))) (by decide +kernel)) (fun _ _ _ _ _ => pg_name (i := 3) sc__law_is_straight.nd rfl (Or.inl rfl)) (fun _ _ _ _ _ => (pts_one (pt_not (pt_val (C8.pe_c c__law_is_whole hr (by decide) rfl (pa_cons (pv 3) pa_nil)))))) (fun _ _ _ _ _ => (pv 3))) (pe_lst pa_nil) (nomark _)) (pss_one (ps_ret pe_bl)) pss_nil)
    (pss_cons (ps_if (PW.pt (pw_and (pt_cmpR op_in_seq (pe_ix ix_tup (pv 2) pe_int (fun _ _ => rfl)) (pe_tup (pa_cons pe_str (pa_cons pe_str pa_nil))) (by with_unfolding_all rfl)) (pw_and1 (PW.pt (pw_or (pt_cmpR op_lt (pe_callB call_len_seq rfl B.len PySem.boot_len (pa_cons (pv 2) pa_nil)) pe_int (nomark _)) (pw_or1 (pt_not (pt_chain op_le op_lt pe_int (pe_ix ix_tup (pv 2) pe_int (fun _ _ => rfl)) (pv 1))))))))) (pss_one (ps_ret pe_bl)) pss_nil)
    (pss_cons (ps_if (PW.pt (pw_or (PW.pt (pw_and (pt_cmpR op_eq (pe_ix ix_tup (pv 2) pe_int (fun _ _ => rfl)) pe_str (nomark _)) (pw_and1 (pt_not (pt_chain op_le op_lt pe_int (pe_ix ix_tup (pv 2) pe_int (fun _ _ => rfl)) (pv 1)))))) (pw_or1 (PW.pt (pw_and (pt_cmpR op_eq (pe_ix ix_tup (pv 2) pe_int (fun _ _ => rfl)) pe_str (nomark _)) (pw_and1 (pt_cmpR op_lt (pe_ix ix_tup (pv 2) pe_int (fun _ _ => rfl)) pe_int (nomark _)))))))) (pss_one (ps_ret pe_bl)) pss_nil)
    (pss_cons (ps_if (PW.pt (pw_or (PW.pt (pw_and (pt_cmpR op_eq (pe_ix ix_tup (pv 2) pe_int (fun _ _ => rfl)) pe_str (nomark _)) (pw_and1 (pt_cmpR op_gt (pe_callB call_len_seq rfl B.len PySem.boot_len (pa_cons (pv 2) pa_nil)) pe_int (nomark _))))) (pw_or1 (pt_cmpR op_notIn_seq (pe_ix ix_tup (pv 2) pe_int (fun _ _ => rfl)) (pe_tup (pa_cons pe_str (pa_cons pe_str (pa_cons pe_str (pa_cons pe_str pa_nil))))) (by with_unfolding_all rfl))))) (pss_one (ps_ret pe_bl)) pss_nil)
    (pss_one (ps_if (PW.pt (pw_and (pt_cmpR op_eq (pe_ix ix_tup (pv 2) pe_int (fun _ _ => rfl)) pe_str (nomark _)) (pw_and1 (PW.pt (pw_or (pt_cmpR op_ne (pe_callB call_len_seq rfl B.len PySem.boot_len (pa_cons (pv 2) pa_nil)) pe_int (nomark _)) (pw_or (pt_cmpR op_eq (pe_ix ix_tup (pv 2) pe_int (fun _ _ => rfl)) pe_int (nomark _)) (pw_or1 (pt_cmpR op_gt (pe_callB call_abs rfl B.abs (by decide +kernel) (pa_cons (pe_ix ix_tup (pv 2) pe_int (fun _ _ => rfl)) pa_nil)) pe_int (nomark _))))))))) (pss_one (ps_ret pe_bl)) pss_nil)))))))))
    (pss_one (ps_ret pe_bl)))), ?_⟩
    refine ⟨_, rfl, v, d, rfl, hd, _, rfl, ?_⟩
    cases htup : isiD "tuple" d with
    | false =>
      refine iteT (iteT ?_)
      have e : straightD d = false := by
        cases d with
        | tuple ds => exact absurd (show true = false from htup) (by decide)
        | _ => rfl
      have := q H (Same.refl H)
      rw [e] at this
      exact this
    | true =>
      refine iteF ?_
      obtain ⟨ds, rfl⟩ := tup_of htup
      obtain ⟨a, xs, rfl, hs, ha, hl⟩ := len_ok hd
      refine ⟨_, rfl, a, xs, rfl, .inr hs, _, _, rfl, rfl, _, rfl, ?_⟩
      have out : rowD (.tuple ds) 1 4000 = false → Q (.bl false) H := fun e => by
        have := q H (Same.refl H)
        rw [show straightD (.tuple ds) = (rowD (.tuple ds) 1 4000 && allR ds 0) from rfl, e, Bool.false_and] at this
        exact this
      refine ite2 (fun c1 => ?_) (fun c1 => ?_)
      · have c1' := of_decide_eq_true c1
        refine ⟨_, _, rfl, rfl, _, rfl, ?_⟩
        by_cases c2 : ((xs.length : Nat) : Int) < 4001
        · rw [decide_eq_true c2]
          refine iteF ?_
          have hrow : rowD (.tuple ds) 1 4000 = true := by
            show (decide ((1 : Int) ≤ ((ds.length : Nat) : Int)) && decide (((ds.length : Nat) : Int) ≤ 4000)) = true
            rw [Bool.and_eq_true, decide_eq_true_eq, decide_eq_true_eq]
            omega
          have es : straightD (.tuple ds) = allR ds 0 := by
            show (rowD (.tuple ds) 1 4000 && allR ds 0) = allR ds 0
            rw [hrow, Bool.true_and]
          -- the loop
          refine ⟨_, rfl, a, xs, rfl, .inr hs, _, rfl, by omega, by omega, ?_⟩
          rw [Int.toNat_natCast]
          have hsame : ∀ {H1 : Hp}, Same H H1 → SqT K H1 a xs := fun z => sqt_ext (same_ext z) hs
          refine for_range (lo := 0) (n := xs.length) (fun i σ H1 => (∃ s1 s2 s3, σ = [some (.ref a), s1, s2, s3]) ∧ Same H H1 ∧ ∀ j e, j < i → ds[j]? = some e → ruleD e ((j : Nat) : Int) = true) ⟨⟨_, _, _, rfl⟩, Same.refl H, fun j e hj => absurd hj (Nat.not_lt_zero _)⟩ ?_ ?_
          · rintro i σ H1 hi ⟨⟨s1, s2, s3, rfl⟩, sm, hall⟩
            have hx : xs[i]? = some xs[i] := List.getElem?_eq_getElem hi
            obtain ⟨e, he, hde⟩ := dps_get' ha hx
            generalize xs[i] = x at hx hde
            have hde1 := dp_ext (same_ext sm) e hde
            have bad : ∀ {H2 : Hp}, Same H1 H2 → ruleD e ((i : Nat) : Int) = false → Q (.bl false) H2 := fun {H2} z h => by
              have := q H2 (sm.trans z)
              rw [straight_bad he h] at this
              exact this
            have good : ∀ {H2 : Hp} {t1 t2 t3 : Option V}, Same H1 H2 → ruleD e ((i : Nat) : Int) = true → (∃ s1 s2 s3, ([some (.ref a), t1, t2, t3] : L2.St) = [some (.ref a), s1, s2, s3]) ∧ Same H H2 ∧ ∀ j e, j < i + 1 → ds[j]? = some e → ruleD e ((j : Nat) : Int) = true := fun {H2 t1 t2 t3} z h => by
              refine ⟨⟨_, _, _, rfl⟩, sm.trans z, fun j e' hj he' => ?_⟩
              rcases Nat.lt_succ_iff_lt_or_eq.mp hj with y | y
              · exact hall j e' y he'
              · subst y
                rw [he] at he'
                cases he'
                exact h
            have eok : OkN 39 e := by
              have := ok_tup.mp hok e (List.mem_of_getElem? he)
              exact this
            have hat : atI xs (0 + (i : Int)) = some x := by
              rw [show (0 : Int) + (i : Int) = ((i : Nat) : Int) by omega]
              exact atI_nat hx
            refine ⟨_, rfl, _, rfl, _, _, _, _, rfl, rfl, hsame sm, hat, ?_⟩
            -- the first test
            refine ⟨_, rfl, x, e, rfl, hde1, _, rfl, ?_⟩
            cases ht2 : isiD "tuple" e with
            | false =>
              refine iteT (iteT (bad (Same.refl _) ?_))
              cases e with
              | tuple _ => exact absurd (show true = false from ht2) (by decide)
              | _ => rfl
            | true =>
              refine iteF ?_
              obtain ⟨es2, rfl⟩ := tup_of ht2
              obtain ⟨b, ys, rfl, hsb, hab, hlb⟩ := len_ok hde1
              refine ⟨_, rfl, b, ys, rfl, .inr hsb, rfl, _, rfl, ?_⟩
              rw [dec_int]
              cases hab with
              | nil =>
                refine iteT (iteT (bad (Same.refl _) rfl))
              | @cons v0 vr d0 dr h0 hr0 =>
                have hlr := dps_len hr0
                rw [decide_eq_false (by rw [List.length_cons]; omega)]
                refine iteF ?_
                refine ⟨_, rfl, _, _, _, _, rfl, rfl, hsb, at0 _ _, v0, d0, rfl, h0, _, rfl, ?_⟩
                cases hstr : isiD "str" d0 with
                | false =>
                  refine iteT (iteT (bad (Same.refl _) ?_))
                  cases d0 with
                  | str _ => exact absurd (show true = false from hstr) (by decide)
                  | _ => rfl
                | true =>
                  obtain ⟨k, rfl⟩ := str_of hstr
                  cases h0
                  refine iteF ?_
                  refine ⟨_, rfl, b, _, rfl, .inr hsb, _, _, rfl, rfl, _, rfl, ?_⟩
                  have er : ruleD (.tuple (.str k :: dr)) ((i : Nat) : Int) = tailD k dr ((i : Nat) : Int) := rfl
                  by_cases c3 : (3 : Int) < (((V.str k :: vr).length : Nat) : Int)
                  · rw [decide_eq_true c3]
                    refine iteT (bad (Same.refl _) ?_)
                    rw [er]
                    refine long_no ?_
                    rw [List.length_cons] at c3
                    omega
                  · rw [decide_eq_false c3]
                    refine iteF ?_
                    have hl2 : dr.length ≤ 2 := by
                      rw [List.length_cons] at c3
                      omega
                    -- [one for one in rule[1:] if not _law_is_whole(one)] != []
                    refine ⟨_, rfl, 1, rfl, b, _, rfl, hsb, fun z => absurd z (whole1 _ _), fun _ p hp => ?_⟩
                    rw [cut1]
                    have sp : Same H1 (upd H1 p (.tup vr)) := same_new hp _
                    refine ⟨p, rfl, ⟨vr, SqT.of upd_same⟩, fun D hD => ?_⟩
                    have nDp : D ≠ p := fun z => by rw [z, upd_same] at hD; cases hD
                    refine lc_tup (K := K) (xs := vr) (fun j H2 => (∃ acc, H2 = upd (upd H1 p (.tup vr)) D (.lst acc) ∧ DpAll K H1 acc ((dr.take j).filter fun d => !intD d))) ⟨[], rfl, .nil⟩ ?_ ?_ ?_
                    · rintro j H2 hj ⟨acc, rfl, _⟩
                      exact SqT.of (by rw [upd_ne (Ne.symm nDp)]; exact upd_same)
                    · rintro j y H2 hy ⟨acc, rfl, hacc⟩
                      obtain ⟨dy, hdy, hyd⟩ := dps_get' hr0 hy
                      have sD : Same H1 (upd (upd H1 p (.tup vr)) D (.lst acc)) := sp.trans (same_new hD _)
                      refine ⟨rfl, _, rfl, y, dy, rfl, dp_ext (same_ext sD) dy hyd, _, rfl, ?_⟩
                      cases hb : intD dy with
                      | true =>
                        refine iteF ⟨acc, rfl, ?_⟩
                        rw [take_succ hdy, List.filter_append]
                        simpa [hb] using hacc
                      | false =>
                        refine iteT ⟨_, rfl, acc, upd_same, ?_, acc ++ [y], upd_upd, ?_⟩
                        · have l1 := dps_len hacc
                          have l2 := List.length_filter_le (fun d => !intD d) (dr.take j)
                          have l3 : (dr.take j).length ≤ dr.length := List.length_take_le' ..
                          exact small1000 (by omega)
                        · rw [take_succ hdy, List.filter_append]
                          have : ([dy].filter fun d => !intD d) = [dy] := by simp [hb]
                          rw [this]
                          exact dps_snoc hacc hyd
                    · rintro H2 ⟨acc, rfl, hacc⟩
                      rw [show dr.take vr.length = dr from by rw [hlr, List.take_length]] at hacc
                      generalize hfs : (dr.filter fun d => !intD d) = fs at hacc
                      have s2 : Same H1 (upd (upd H1 p (.tup vr)) D (.lst acc)) := sp.trans (same_new hD _)
                      refine ⟨(by show 0 ≤ sizeLine; decide), fun p2 hp2 => ?_⟩
                      have s3 : Same H1 (upd (upd (upd H1 p (.tup vr)) D (.lst acc)) p2 (.lst [])) := s2.trans (same_new hp2 _)
                      have nDp2 : D ≠ p2 := fun z => by rw [z, upd_same] at hp2; cases hp2
                      have fok : OkN 40 (.list fs) := by
                        refine ok_lst.mpr fun d hd => ?_
                        rw [← hfs] at hd
                        have hdm := (List.mem_filter.mp hd).1
                        exact (ok_tup (n := 38).mp eok d (List.mem_cons_of_mem _ hdm)).mono (by omega)
                      refine ⟨.list fs, .list [], .lst (SqL.of (by rw [upd_ne nDp2]; exact upd_same)) (dps_ext (same_ext s3) fs hacc), .lst (SqL.of upd_same) .nil, fok.shaped (by omega), by decide +kernel, _, rfl, ?_⟩
                      rw [eqv_nil]
                      cases hfe : fs with
                      | cons f0 fr =>
                        refine iteT (bad s3 ?_)
                        rw [er]
                        refine noint hl2 ?_
                        rw [hfs, hfe]
                        simp
                      | nil =>
                        refine iteF ?_
                        have aint := allint (hfs.trans hfe)
                        generalize upd (upd (upd H1 p (.tup vr)) D (.lst acc)) p2 (.lst []) = H3 at s3
                        have hsb3 : SqT K H3 b (V.str k :: vr) := sqt_ext (same_ext s3) hsb
                        rw [er] at bad good
                        -- rule[0] in ('pair', 'power')
                        refine ⟨_, rfl, _, _, _, _, rfl, rfl, hsb3, at0 _ _, by decide +kernel, fun p4 hp4 => ?_⟩
                        have s4 : Same H1 (upd H3 p4 (.tup [.str "pair", .str "power"])) := s3.trans (same_new hp4 _)
                        have hsb4 := sqt_ext (same_ext s4) hsb
                        refine ⟨p4, [.str "pair", .str "power"], rfl, .inr (SqT.of upd_same), rfl, rfl, _, rfl, ?_⟩
                        generalize upd H3 p4 (.tup [.str "pair", .str "power"]) = H4 at s4 hsb4
                        rw [show (if false = true then !inV (V.str k) [V.str "pair", V.str "power"] else inV (V.str k) [V.str "pair", V.str "power"]) = (decide (k = "pair") || decide (k = "power")) from by
                          rw [if_neg (by decide)]
                          have := inV_str k ["pair", "power"]
                          simp only [List.map_cons, List.map_nil, List.any_cons, List.any_nil, Bool.or_false] at this
                          exact this]
                        have four4 : ∀ z : Str, inV (V.str z) [V.str "none", V.str "letter", V.str "pair", V.str "power"] = (decide (z = "none") || (decide (z = "letter") || (decide (z = "pair") || decide (z = "power")))) := by
                          intro z
                          have := inV_str z ["none", "letter", "pair", "power"]
                          simp only [List.map_cons, List.map_nil, List.any_cons, List.any_nil, Bool.or_false] at this
                          exact this
                        cases hpp : (decide (k = "pair") || decide (k = "power")) with
                        | true =>
                          have hk : k = "pair" ∨ k = "power" := by
                            rw [Bool.or_eq_true, decide_eq_true_eq, decide_eq_true_eq] at hpp
                            exact hpp
                          refine iteT ⟨_, rfl, b, _, rfl, .inr hsb4, _, _, rfl, rfl, _, rfl, ?_⟩
                          by_cases c5 : (((V.str k :: vr).length : Nat) : Int) < 3
                          · rw [decide_eq_true c5]
                            refine iteT (iteT (bad s4 (tail_short hk ?_)))
                            rw [List.length_cons] at c5
                            omega
                          · rw [decide_eq_false c5]
                            refine iteF ?_
                            have hdl : dr.length = 2 := by
                              rw [List.length_cons] at c5
                              omega
                            obtain ⟨d1, d2, rfl⟩ := len2 hdl
                            obtain ⟨v1, v2, rfl⟩ := len2 (hlr.trans hdl)
                            have hd0 := hr0
                            obtain ⟨z1, rfl⟩ := aint d1 (by simp)
                            obtain ⟨z2, rfl⟩ := aint d2 (by simp)
                            cases hr0 with
                            | cons g1 g2 =>
                              cases g2 with
                              | cons g2 _ =>
                                cases g1
                                cases g2
                                -- 0 <= rule[1] < k
                                refine ⟨_, rfl, _, _, _, _, rfl, rfl, hsb4, at1 _ _ _, _, _, rfl, rfl, _, rfl, ?_⟩
                                by_cases c6 : (0 : Int) ≤ z1
                                · rw [decide_eq_true c6]
                                  refine iteT ⟨_, rfl, _, _, rfl, rfl, _, rfl, ?_⟩
                                  by_cases c7 : z1 < 0 + (i : Int)
                                  · rw [decide_eq_true c7]
                                    refine iteF ?_
                                    -- rule[0] == 'pair' and not 0 <= rule[2] < k
                                    refine ⟨_, rfl, _, _, _, _, rfl, rfl, hsb4, at0 _ _, rfl, _, rfl, ?_⟩
                                    rw [dec_str]
                                    rcases hk with rfl | rfl
                                    · rw [decide_eq_true (rfl : ("pair" : Str) = "pair")]
                                      refine iteT ⟨_, rfl, _, _, _, _, rfl, rfl, hsb4, at2 _ _ _ _, _, _, rfl, rfl, _, rfl, ?_⟩
                                      have out2 : ¬ (0 ≤ z2 ∧ z2 < 0 + (i : Int)) → tailD "pair" [.int z1, .int z2] ((i : Nat) : Int) = false := fun h => by
                                        rw [tail_pair]
                                        by_cases h1 : (0 : Int) ≤ z2
                                        · rw [decide_eq_false (show ¬ z2 ≤ ((i : Nat) : Int) - 1 by omega)]; simp
                                        · rw [decide_eq_false h1]; simp
                                      by_cases c8 : (0 : Int) ≤ z2
                                      · rw [decide_eq_true c8]
                                        refine iteT ⟨_, rfl, _, _, rfl, rfl, _, rfl, ?_⟩
                                        by_cases c9 : z2 < 0 + (i : Int)
                                        · rw [decide_eq_true c9]
                                          refine iteF ?_
                                          -- rule[0] == 'power'
                                          refine ⟨_, rfl, _, _, _, _, rfl, rfl, hsb4, at0 _ _, rfl, _, rfl, ?_⟩
                                          rw [dec_str, decide_eq_false (by decide)]
                                          refine iteF (iteF ?_)
                                          refine ⟨_, rfl, _, _, _, _, rfl, rfl, hsb4, at0 _ _, rfl, _, rfl, ?_⟩
                                          rw [dec_str, decide_eq_false (by decide)]
                                          refine iteF (iteF ?_)
                                          refine ⟨_, rfl, _, _, _, _, rfl, rfl, hsb4, at0 _ _, by decide +kernel, fun p5 hp5 => ?_⟩
                                          have s5 := s4.trans (same_new hp5 (.tup [.str "none", .str "letter", .str "pair", .str "power"]))
                                          refine ⟨p5, [.str "none", .str "letter", .str "pair", .str "power"], rfl, .inr (SqT.of upd_same), rfl, rfl, _, rfl, ?_⟩
                                          rw [if_pos rfl, four4]
                                          refine iteF ?_
                                          refine ⟨_, rfl, _, _, _, _, rfl, rfl, sqt_ext (same_ext (same_new hp5 _)) hsb4, at0 _ _, rfl, _, rfl, ?_⟩
                                          rw [dec_str, decide_eq_false (by decide)]
                                          refine iteF (iteF ?_)
                                          refine good s5 ?_
                                          rw [tail_pair, decide_eq_true c6, decide_eq_true c8, decide_eq_true (show z1 ≤ ((i : Nat) : Int) - 1 by omega), decide_eq_true (show z2 ≤ ((i : Nat) : Int) - 1 by omega)]
                                          rfl
                                        · rw [decide_eq_false c9]
                                          refine iteT ?_
                                          refine iteT ?_
                                          exact bad s4 (out2 fun h => c9 h.2)
                                      · rw [decide_eq_false c8]
                                        refine iteF ⟨_, rfl, ?_⟩
                                        refine iteT ?_
                                        refine iteT ?_
                                        exact bad s4 (out2 fun h => c8 h.1)
                                    · rw [decide_eq_false (by decide)]
                                      refine iteF (iteF ?_)
                                      refine ⟨_, rfl, _, _, _, _, rfl, rfl, hsb4, at0 _ _, rfl, _, rfl, ?_⟩
                                      rw [dec_str, decide_eq_true (rfl : ("power" : Str) = "power")]
                                      refine iteT ⟨_, rfl, _, _, _, _, rfl, rfl, hsb4, at2 _ _ _ _, _, _, rfl, rfl, _, rfl, ?_⟩
                                      by_cases c8 : z2 < 2
                                      · rw [decide_eq_true c8]
                                        refine iteT (bad s4 ?_)
                                        rw [tail_power, decide_eq_false (show ¬ (2 : Int) ≤ z2 by omega), Bool.and_false]
                                      · rw [decide_eq_false c8]
                                        refine iteF ?_
                                        refine ⟨_, rfl, _, _, _, _, rfl, rfl, hsb4, at0 _ _, rfl, _, rfl, ?_⟩
                                        rw [dec_str, decide_eq_false (by decide)]
                                        refine iteF (iteF ?_)
                                        refine ⟨_, rfl, _, _, _, _, rfl, rfl, hsb4, at0 _ _, by decide +kernel, fun p5 hp5 => ?_⟩
                                        have s5 := s4.trans (same_new hp5 (.tup [.str "none", .str "letter", .str "pair", .str "power"]))
                                        refine ⟨p5, [.str "none", .str "letter", .str "pair", .str "power"], rfl, .inr (SqT.of upd_same), rfl, rfl, _, rfl, ?_⟩
                                        rw [if_pos rfl, four4]
                                        refine iteF ?_
                                        refine ⟨_, rfl, _, _, _, _, rfl, rfl, sqt_ext (same_ext (same_new hp5 _)) hsb4, at0 _ _, rfl, _, rfl, ?_⟩
                                        rw [dec_str, decide_eq_false (by decide)]
                                        refine iteF (iteF ?_)
                                        refine good s5 ?_
                                        rw [tail_power, decide_eq_true c6, decide_eq_true (show z1 ≤ ((i : Nat) : Int) - 1 by omega), decide_eq_true (show (2 : Int) ≤ z2 by omega)]
                                        rfl
                                  · rw [decide_eq_false c7]
                                    refine iteT (bad s4 ?_)
                                    rcases hk with rfl | rfl
                                    · rw [tail_pair, decide_eq_false (show ¬ z1 ≤ ((i : Nat) : Int) - 1 by omega)]; simp
                                    · rw [tail_power, decide_eq_false (show ¬ z1 ≤ ((i : Nat) : Int) - 1 by omega)]; simp
                                · rw [decide_eq_false c6]
                                  refine iteF ⟨_, rfl, iteT (bad s4 ?_)⟩
                                  rcases hk with rfl | rfl
                                  · rw [tail_pair, decide_eq_false c6]; simp
                                  · rw [tail_power, decide_eq_false c6]; simp
                        | false =>
                          have hk : k ≠ "pair" ∧ k ≠ "power" := by
                            rw [Bool.or_eq_false_iff, decide_eq_false_iff_not, decide_eq_false_iff_not] at hpp
                            exact hpp
                          refine iteF (iteF ?_)
                          refine ⟨_, rfl, _, _, _, _, rfl, rfl, hsb4, at0 _ _, rfl, _, rfl, ?_⟩
                          rw [dec_str, decide_eq_false hk.1]
                          refine iteF (iteF ?_)
                          refine ⟨_, rfl, _, _, _, _, rfl, rfl, hsb4, at0 _ _, rfl, _, rfl, ?_⟩
                          rw [dec_str, decide_eq_false hk.2]
                          refine iteF (iteF ?_)
                          -- none
                          refine ⟨_, rfl, _, _, _, _, rfl, rfl, hsb4, at0 _ _, rfl, _, rfl, ?_⟩
                          rw [dec_str]
                          by_cases kn : k = "none"
                          · subst kn
                            rw [decide_eq_true (rfl : ("none" : Str) = "none")]
                            refine iteT ⟨_, rfl, b, _, rfl, .inr hsb4, _, _, rfl, rfl, _, rfl, ?_⟩
                            by_cases c5 : (1 : Int) < (((V.str "none" :: vr).length : Nat) : Int)
                            · rw [decide_eq_true c5]
                              refine iteT (iteT (bad s4 ?_))
                              rw [tail_none, decide_eq_false]
                              rw [List.length_cons] at c5
                              omega
                            · rw [decide_eq_false c5]
                              refine iteF ?_
                              refine ⟨_, rfl, _, _, _, _, rfl, rfl, hsb4, at0 _ _, by decide +kernel, fun p5 hp5 => ?_⟩
                              have s5 := s4.trans (same_new hp5 (.tup [.str "none", .str "letter", .str "pair", .str "power"]))
                              refine ⟨p5, [.str "none", .str "letter", .str "pair", .str "power"], rfl, .inr (SqT.of upd_same), rfl, rfl, _, rfl, ?_⟩
                              rw [if_pos rfl, four4]
                              refine iteF ?_
                              refine ⟨_, rfl, _, _, _, _, rfl, rfl, sqt_ext (same_ext (same_new hp5 _)) hsb4, at0 _ _, rfl, _, rfl, ?_⟩
                              rw [dec_str, decide_eq_false (by decide)]
                              refine iteF (iteF ?_)
                              refine good s5 ?_
                              rw [tail_none, decide_eq_true]
                              rw [List.length_cons] at c5
                              omega
                          · rw [decide_eq_false kn]
                            refine iteF ?_
                            refine ⟨_, rfl, _, _, _, _, rfl, rfl, hsb4, at0 _ _, by decide +kernel, fun p5 hp5 => ?_⟩
                            have s5 := s4.trans (same_new hp5 (.tup [.str "none", .str "letter", .str "pair", .str "power"]))
                            refine ⟨p5, [.str "none", .str "letter", .str "pair", .str "power"], rfl, .inr (SqT.of upd_same), rfl, rfl, _, rfl, ?_⟩
                            rw [if_pos rfl, four4, decide_eq_false kn, decide_eq_false hk.1, decide_eq_false hk.2]
                            by_cases kl : k = "letter"
                            · subst kl
                              rw [decide_eq_true (rfl : ("letter" : Str) = "letter")]
                              refine iteF ?_
                              have hsb5 := sqt_ext (same_ext (same_new hp5 (.tup [.str "none", .str "letter", .str "pair", .str "power"]))) hsb4
                              generalize upd H4 p5 (.tup [.str "none", .str "letter", .str "pair", .str "power"]) = H5 at s5 hsb5
                              refine ⟨_, rfl, _, _, _, _, rfl, rfl, hsb5, at0 _ _, rfl, _, rfl, ?_⟩
                              rw [dec_str, decide_eq_true (rfl : ("letter" : Str) = "letter")]
                              refine iteT ⟨_, rfl, b, _, rfl, .inr hsb5, rfl, _, rfl, ?_⟩
                              by_cases c5 : (((V.str "letter" :: vr).length : Nat) : Int) = 2
                              · have hdl : dr.length = 1 := by
                                  rw [List.length_cons] at c5
                                  omega
                                obtain ⟨d1, rfl⟩ := len1 hdl
                                obtain ⟨v1, rfl⟩ := len1 (hlr.trans hdl)
                                obtain ⟨z1, rfl⟩ := aint d1 (by simp)
                                cases hr0 with
                                | cons g1 _ =>
                                  cases g1
                                  rw [dec_int, decide_eq_true c5]
                                  refine iteF ⟨_, rfl, _, _, _, _, rfl, rfl, hsb5, at1 _ _ _, rfl, _, rfl, ?_⟩
                                  rw [dec_int]
                                  by_cases c6 : z1 = 0
                                  · rw [decide_eq_true c6]
                                    refine iteT ?_
                                    refine iteT ?_
                                    refine bad s5 ?_
                                    rw [tail_letter1]
                                    show (decide (-20 ≤ z1) && decide (z1 ≤ 20) && !decide (z1 = 0)) = false
                                    rw [decide_eq_true c6]; simp
                                  · rw [decide_eq_false c6]
                                    refine iteF ⟨_, rfl, _, _, _, _, rfl, rfl, hsb5, at1 _ _ _, ?_⟩
                                    refine ⟨z1, rfl, _, _, rfl, rfl, _, rfl, ?_⟩
                                    by_cases c7 : (20 : Int) < (if z1 < 0 then -z1 else z1)
                                    · rw [decide_eq_true c7]
                                      refine iteT (bad s5 ?_)
                                      rw [tail_letter1]
                                      show (decide (-20 ≤ z1) && decide (z1 ≤ 20) && !decide (z1 = 0)) = false
                                      by_cases y1 : -20 ≤ z1
                                      · rw [decide_eq_false (show ¬ z1 ≤ 20 by split at c7 <;> omega)]; simp
                                      · rw [decide_eq_false y1]; simp
                                    · rw [decide_eq_false c7]
                                      refine iteF (good s5 ?_)
                                      rw [tail_letter1]
                                      show (decide (-20 ≤ z1) && decide (z1 ≤ 20) && !decide (z1 = 0)) = true
                                      rw [decide_eq_true (show -20 ≤ z1 by split at c7 <;> omega), decide_eq_true (show z1 ≤ 20 by split at c7 <;> omega), decide_eq_false c6]
                                      rfl
                              · rw [dec_int, decide_eq_false c5]
                                refine iteT ?_
                                refine iteT ?_
                                refine bad s5 (tail_letterN ?_)
                                rw [List.length_cons] at c5
                                omega
                            · rw [decide_eq_false kl]
                              exact iteT (bad s5 (tail_other kn kl hk.1 hk.2))
          · rintro σ H1 ⟨_, sm, hall⟩
            have := q H1 sm
            rw [es, allR_true (n := 0) fun j e he => by rw [Nat.zero_add]; exact hall j e (by have := (List.getElem?_eq_some_iff.mp he).1; omega) he] at this
            exact this
        · rw [decide_eq_false c2]
          refine iteT (out ?_)
          show (decide ((1 : Int) ≤ ((ds.length : Nat) : Int)) && decide (((ds.length : Nat) : Int) ≤ 4000)) = false
          rw [Bool.and_eq_false_iff, decide_eq_false_iff_not, decide_eq_false_iff_not]
          omega
      · have c1' : ¬ (0 : Int) < ((xs.length : Nat) : Int) := of_decide_eq_false (Bool.eq_false_iff.mpr c1)
        refine ⟨_, rfl, iteT (out ?_)⟩
        show (decide ((1 : Int) ≤ ((ds.length : Nat) : Int)) && decide (((ds.length : Nat) : Int) ≤ 4000)) = false
        rw [Bool.and_eq_false_iff, decide_eq_false_iff_not, decide_eq_false_iff_not]
        omega
end
end K34


set_option Elab.async false
set_option linter.all false
set_option maxRecDepth 100000
set_option maxHeartbeats 8000000
namespace K34
open PySem PySem.Spec PyProof.Rows L2
/-! ### the cup -/
def Cup0 (H : Hp) (c l : Addr) (m : Nat) : Prop := ∃ (a b n : Int) (ns : List Int), H c = some (.lst [.int a, .int b, .int n, .ref l]) ∧ H l = some (.lst (ns.map V.int)) ∧ c ≠ l ∧ 0 ≤ a ∧ 0 ≤ b ∧ b < 2147483648 ∧ 0 ≤ n ∧ n + m ≤ 1000000
/-- .. and a list at e that no data shows -/
def Cup (H : Hp) (c l e : Addr) (m : Nat) : Prop := Cup0 H c l m ∧ ∃ es, H e = some (.lst es)
theorem Cup0.le {H : Hp} {c l : Addr} {m k : Nat} (h : Cup0 H c l m) (hk : k ≤ m) : Cup0 H c l k := by
  obtain ⟨a, b, n, ns, h1, h2, h3, h4, h5, h6, h7, h8⟩ := h
  exact ⟨a, b, n, ns, h1, h2, h3, h4, h5, h6, h7, by omega⟩
theorem Cup.le {H : Hp} {c l e : Addr} {m k : Nat} (h : Cup H c l e m) (hk : k ≤ m) : Cup H c l e k := ⟨h.1.le hk, h.2⟩
theorem Cup.same {H H' : Hp} {c l e : Addr} {m : Nat} (h : Cup H c l e m) (s : Same H H') : Cup H' c l e m := by
  obtain ⟨⟨a, b, n, ns, h1, h2, h3⟩, es, h4⟩ := h
  exact ⟨⟨a, b, n, ns, s _ _ h1, s _ _ h2, h3⟩, es, s _ _ h4⟩
/-- all but the cup stays -/
def Kp (c l : Addr) (H H' : Hp) : Prop := ∀ p o, p ≠ c → p ≠ l → H p = some o → H' p = some o
theorem Kp.refl {c l : Addr} (H : Hp) : Kp c l H H := fun _ _ _ _ h => h
theorem Kp.trans {c l : Addr} {H H' H2 : Hp} (a : Kp c l H H') (b : Kp c l H' H2) : Kp c l H H2 := fun p o x y h => b p o x y (a p o x y h)
theorem Kp.of_same {c l : Addr} {H H' : Hp} (s : Same H H') : Kp c l H H' := fun p o _ _ h => s p o h
theorem Kp.upd_c {c l : Addr} {H : Hp} (o : HO) : Kp c l H (upd H c o) := fun p o' x _ h => by rw [upd_ne x]; exact h
theorem Kp.upd_l {c l : Addr} {H : Hp} (o : HO) : Kp c l H (upd H l o) := fun p o' _ y h => by rw [upd_ne y]; exact h
theorem Cup.kp {H H' : Hp} {c l e : Addr} {m m' : Nat} (h : Cup H c l e m) (k : Kp c l H H') (C : Cup0 H' c l m') : Cup H' c l e m' := by
  refine ⟨C, ?_⟩
  obtain ⟨a, b, n, ns, h1, h2, h3⟩ := C
  obtain ⟨es, h4⟩ := h.2
  by_cases x : e = c
  · rw [x]; exact ⟨_, h1⟩
  · by_cases y : e = l
    · rw [y]; exact ⟨_, h2⟩
    · exact ⟨es, k _ _ x y h4⟩
/-- the heap without the cup and the list at e -/
def cut (c l e : Addr) (H : Hp) : Hp := fun p => if p = c ∨ p = l ∨ p = e then none else H p
theorem cut_ext {c l e : Addr} {H : Hp} : Same (cut c l e H) H := fun p o h => by
  unfold cut at h
  split at h
  · cases h
  · exact h
theorem cut_get {c l e p : Addr} {H : Hp} (n : p ≠ c ∧ p ≠ l ∧ p ≠ e) : cut c l e H p = H p := by
  unfold cut
  rw [if_neg (by rintro (h | h | h); exact n.1 h; exact n.2.1 h; exact n.2.2 h)]
theorem Kp.cut {c l e : Addr} {H H' : Hp} (h : Kp c l H H') : Same (K34.cut c l e H) (K34.cut c l e H') := fun p o x => by
  unfold K34.cut at x ⊢
  split at x
  · cases x
  · next n =>
    rw [if_neg n]
    exact h p o (fun z => n (.inl z)) (fun z => n (.inr (.inl z))) x
theorem Cup.new {H : Hp} {c l e p : Addr} {m : Nat} (h : Cup H c l e m) (hp : H p = none) : p ≠ c ∧ p ≠ l ∧ p ≠ e := by
  obtain ⟨⟨a, b, n, ns, h1, h2, h3⟩, es, h4⟩ := h
  refine ⟨?_, ?_, ?_⟩
  · rintro rfl; rw [h1] at hp; cases hp
  · rintro rfl; rw [h2] at hp; cases hp
  · rintro rfl; rw [h4] at hp; cases hp
theorem dp_ints {K : PySem.W.Frag} {H : Hp} : ∀ ns : List Int, DpAll K H (ns.map V.int) (ns.map PyData.int)
  | [] => .nil
  | n :: ns => .cons (.int n) (dp_ints ns)
theorem seq0 {α : Type} {x : α} (l : List α) : seqIndex? 0 (x :: l).length = some 0 := by
  unfold seqIndex?
  simp
theorem ok_int (n : Nat) (i : Int) : OkN (n + 1) (.int i) := ⟨rfl, by unfold PyData.depth; omega⟩
section
variable {P : Program} {w : World} {K : PySem.W.Frag} {mg : Str → Option Value} {base : Heap}
def spSip : Sp := fun vs H Q _ => ∃ (c l e : Addr) (m : Nat) (k : Int), vs = [.ref c, .int k] ∧ Cup H c l e (m + 1) ∧ 1 ≤ k ∧ k.natAbs.log2 < 9000 ∧ ∀ (r : Int) H', 0 ≤ r → r < k → Cup H' c l e m → Kp c l H H' → Q (.int r) H'
theorem sc__law_sip : FnScope ["cup", "many", "size", "drawn"] ["cup", "many"] (C8.fnScope (topS 12)) := C8.fnScope_by (by decide +kernel)
theorem ok__law_sip {f : Addr} {fd : FuncData} (F : C8.Def K mg "_law_sip" (topS 12) f fd) (b : Binds K fd ["cup", "many"] []) (B : Bl mg)  : C8.Cal P w K mg base 1 "_law_sip" spSip [] := by
  refine C8.cal0 F b .nil sc__law_sip ?len ?body
  case len => rintro vs H Q E ⟨c, l, e, m, k, rfl, _⟩; rfl
  case body =>
    rintro cdv A outer s H vs Q E hr ⟨c, l, e, m, k, rfl, CC, hk, hk2, q0⟩
    obtain ⟨a, b, n, ns, hc, hl, hcl, ha, hb, hb2, hn, hm⟩ := CC.1
    have q : ∀ (r : Int) H', 0 ≤ r → r < k → Cup0 H' c l m → Kp c l H H' → Q (.int r) H' := fun r H' h0 h1 C kp => q0 r H' h0 h1 (CC.kp kp C) kp
    refine ⟨_, (pss_cons (ps_if (PW.pt (pw_and (pt_cmpR op_eq (pe_ix ix_list (pv 0) pe_int (fun _ _ => rfl)) pe_int (nomark _)) (pw_and1 (pt_cmpR (op_neD (hr.units)) (pe_ix ix_list (pv 0) pe_int (fun _ _ => rfl)) (pe_lst pa_nil) (nomark _))))) (pss_cons (ps_set (i := 2) sc__law_sip.nd rfl (Or.inl rfl) (pe_callB call_abs rfl B.abs (by decide +kernel) (pa_cons (pe_callTy call_int1 rfl B.int (by decide +kernel) (pa_cons (pe_bm PySem.F.plainAttrs_list PySem.F.slot_list_pop PySem.F.type_list_pop mt_popAt (pe_ix ix_list (pv 0) pe_int (fun _ _ => rfl)) (pa_cons pe_int pa_nil)) pa_nil)) pa_nil)))
    (pss_one (ps_asg (pe_ifExp (pt_cmpR op_ge (pv 2) (pe_op op_pow pe_int pe_int) (nomark _)) (pv 2) (pe_op op_add (pe_op op_mul (pe_op op_fdiv (pe_op op_mul (pv 2) (pv 2)) pe_int) pe_int) (pv 2))) (pg_sub (pv 0) pe_int set_list)))) pss_nil)
    (pss_cons (ps_if (pt_cmpR op_gt (pe_ix ix_list (pv 0) pe_int (fun _ _ => rfl)) pe_int (nomark _)) (pss_cons (ps_set (i := 3) sc__law_sip.nd rfl (Or.inl rfl) (pe_op op_mod (pe_callTy call_int1 rfl B.int (by decide +kernel) (pa_cons (pe_ix ix_list (pv 0) pe_int (fun _ _ => rfl)) pa_nil)) (pv 1)))
    (pss_cons (ps_asg (pe_op op_fdivW (pe_ix ix_list (pv 0) pe_int (fun _ _ => rfl)) (pv 1)) (pg_sub (pv 0) pe_int set_list))
    (pss_one (ps_ret (pv 3))))) pss_nil)
    (pss_cons (ps_asg (pe_op op_add (pe_ix ix_list (pv 0) pe_int (fun _ _ => rfl)) pe_int) (pg_sub (pv 0) pe_int set_list))
    (pss_cons (ps_asg (pe_op op_mod (pe_callTy call_int1 rfl B.int (by decide +kernel) (pa_cons (pe_op op_add (pe_op op_add (pe_op op_mul (pe_ix ix_list (pv 0) pe_int (fun _ _ => rfl)) pe_int) (pe_op op_mul (pe_op op_mul (pe_ix ix_list (pv 0) pe_int (fun _ _ => rfl)) (pe_ix ix_list (pv 0) pe_int (fun _ _ => rfl))) pe_int)) pe_int) pa_nil)) pe_int) (pg_sub (pv 0) pe_int set_list))
    (pss_one (ps_ret (pe_op op_mod (pe_op op_fdiv (pe_op op_mod (pe_callTy call_int1 rfl B.int (by decide +kernel) (pa_cons (pe_op op_mul (pe_ix ix_list (pv 0) pe_int (fun _ _ => rfl)) (pe_op op_add (pe_op op_fdiv (pe_ix ix_list (pv 0) pe_int (fun _ _ => rfl)) pe_int) pe_int)) pa_nil)) pe_int) pe_int) (pv 1)))))))), ?_⟩
    refine ⟨_, rfl, _, _, _, _, rfl, rfl, SqL.of hc, rfl, rfl, _, rfl, ?_⟩
    rw [dec_int]
    have nc : ∀ {p : Addr}, H p = none → c ≠ p := fun hp z => by rw [← z, hc] at hp; cases hp
    have nl : ∀ {p : Addr}, H p = none → l ≠ p := fun hp z => by rw [← z, hl] at hp; cases hp
    by_cases h0 : a = 0
    · rw [decide_eq_true h0]
      refine iteT ⟨_, rfl, _, _, _, _, rfl, rfl, SqL.of hc, rfl, (by show 0 ≤ sizeLine; decide), fun p hp => ?_⟩
      have hc1 : upd H p (.lst []) c = some (.lst [.int a, .int b, .int n, .ref l]) := by rw [upd_ne (nc hp)]; exact hc
      have hl1 : upd H p (.lst []) l = some (.lst (ns.map V.int)) := by rw [upd_ne (nl hp)]; exact hl
      have kp1 : Kp c l H (upd H p (.lst [])) := Kp.of_same (same_new hp _)
      refine ⟨.list (ns.map PyData.int), .list [], .lst (SqL.of hl1) (dp_ints ns), .lst (SqL.of upd_same) .nil, OkN.shaped (n := 2) (ok_lst.mpr fun d hd => ?_) (by decide), by decide +kernel, _, rfl, ?_⟩
      · obtain ⟨i, _, rfl⟩ := List.mem_map.mp hd
        exact ok_int _ _
      rw [eqv_nil]
      generalize upd H p (.lst []) = H1 at hc1 hl1 kp1
      cases ns with
      | nil =>
        refine iteF ?_
        have ha1 := ha
        generalize a = a1 at hc1 ha1
        generalize ([] : List Int) = ns1 at hl1
        refine ⟨_, rfl, _, _, _, _, rfl, rfl, SqL.of hc1, rfl, _, _, rfl, rfl, _, rfl, ?_⟩
        by_cases g1 : (0 : Int) < a1
        · rw [decide_eq_true g1]
          refine iteT ⟨_, rfl, _, _, _, _, rfl, rfl, SqL.of hc1, rfl, .inl ⟨_, rfl, _, rfl, _, _, rfl, rfl, (show (0 : Int) < k by omega), ?_⟩⟩
          refine ⟨_, rfl, _, _, _, _, rfl, rfl, SqL.of hc1, rfl, _, rfl, _, _, rfl, rfl, ⟨(show (0 : Int) < k by omega), hk2⟩, _, rfl, c, _, 0, 0, rfl, rfl, hc1, rfl, ?_⟩
          refine ⟨_, rfl, q _ _ (Int.emod_nonneg _ (by omega)) (Int.emod_lt_of_pos _ (by omega)) ⟨a1 / k, b, n, ns1, upd_same, ?_, hcl, Int.ediv_nonneg ha1 (by omega), hb, hb2, hn, by omega⟩ (kp1.trans (Kp.upd_c _))⟩
          rw [upd_ne (Ne.symm hcl)]
          exact hl1
        · rw [decide_eq_false g1]
          refine iteF ?_
          refine ⟨_, rfl, _, _, _, _, rfl, rfl, SqL.of hc1, rfl, _, _, rfl, rfl, _, rfl, c, _, 2, 2, rfl, rfl, hc1, rfl, ?_⟩
          have hc2 : upd H1 c (.lst [.int a1, .int b, .int (n + 1), .ref l]) c = some (.lst [.int a1, .int b, .int (n + 1), .ref l]) := upd_same
          have hl2 : upd H1 c (.lst [.int a1, .int b, .int (n + 1), .ref l]) l = some (.lst (ns1.map V.int)) := by rw [upd_ne (Ne.symm hcl)]; exact hl1
          have kp2 : Kp c l H (upd H1 c (.lst [.int a1, .int b, .int (n + 1), .ref l])) := kp1.trans (Kp.upd_c _)
          show (fun H2 => _) (upd H1 c (.lst [.int a1, .int b, .int (n + 1), .ref l]))
          generalize upd H1 c (.lst [.int a1, .int b, .int (n + 1), .ref l]) = H2 at hc2 hl2 kp2
          refine ⟨_, rfl, _, _, _, _, rfl, rfl, SqL.of hc2, rfl, _, _, rfl, rfl, .inl ⟨by omega, by omega⟩, ?_⟩
          refine ⟨_, rfl, _, _, _, _, rfl, rfl, SqL.of hc2, rfl, ?_⟩
          refine ⟨_, rfl, _, _, _, _, rfl, rfl, SqL.of hc2, rfl, _, _, rfl, rfl, .inl ⟨by omega, by omega⟩, _, _, rfl, rfl, .inr ⟨by decide, by decide⟩, ?_⟩
          refine ⟨_, _, rfl, rfl, _, _, rfl, rfl, .inl ⟨_, rfl, _, _, rfl, rfl, (show (0 : Int) < 2147483647 by decide), _, rfl, c, _, 1, 1, rfl, rfl, hc2, rfl, ?_⟩⟩
          have p1 := Int.emod_nonneg (b * 16807 + (n + 1) * (n + 1) * 4099 + 77) (show (2147483647 : Int) ≠ 0 by decide)
          have p2 := Int.emod_lt_of_pos (b * 16807 + (n + 1) * (n + 1) * 4099 + 77) (show (0 : Int) < 2147483647 by decide)
          show (fun H2 => _) (upd H2 c (.lst [.int a1, .int ((b * 16807 + (n + 1) * (n + 1) * 4099 + 77) % 2147483647), .int (n + 1), .ref l]))
          generalize (b * 16807 + (n + 1) * (n + 1) * 4099 + 77) % 2147483647 = b2 at p1 p2
          have hc3 : upd H2 c (.lst [.int a1, .int b2, .int (n + 1), .ref l]) c = some (.lst [.int a1, .int b2, .int (n + 1), .ref l]) := upd_same
          have hl3 : upd H2 c (.lst [.int a1, .int b2, .int (n + 1), .ref l]) l = some (.lst (ns1.map V.int)) := by rw [upd_ne (Ne.symm hcl)]; exact hl2
          have kp3 : Kp c l H (upd H2 c (.lst [.int a1, .int b2, .int (n + 1), .ref l])) := kp2.trans (Kp.upd_c _)
          generalize upd H2 c (.lst [.int a1, .int b2, .int (n + 1), .ref l]) = H3 at hc3 hl3 kp3
          refine ⟨_, rfl, _, _, _, _, rfl, rfl, SqL.of hc3, rfl, ?_⟩
          refine ⟨_, rfl, _, _, _, _, rfl, rfl, SqL.of hc3, rfl, _, _, rfl, rfl, ⟨by decide, by decide⟩, _, _, rfl, rfl, _, _, rfl, rfl, .inl ⟨by omega, by omega⟩, ?_⟩
          refine .inl ⟨_, rfl, _, _, rfl, rfl, (show (0 : Int) < 2147483629 by decide), _, _, rfl, rfl, ⟨by decide, by decide⟩, _, rfl, _, _, rfl, rfl, (show (0 : Int) < k by omega), ?_⟩
          exact q _ _ (Int.emod_nonneg _ (by omega)) (Int.emod_lt_of_pos _ (by omega)) ⟨a1, b2, n + 1, ns1, hc3, hl3, hcl, ha1, p1, by omega, by omega, by omega⟩ kp3
      | cons n0 nr =>
        refine iteT ?_
        refine ⟨_, rfl, _, _, _, _, rfl, rfl, SqL.of hc1, rfl, .inl ⟨rfl, _, SqL.of hl1⟩, l, _, 0, 0, .int n0, rfl, rfl, hl1, by decide, by decide, seq0 _, rfl, .inl ⟨n0, rfl, n0, rfl, ?_⟩⟩
        refine ⟨_, rfl, _, _, rfl, rfl, ⟨by decide, by decide, by decide⟩, _, _, rfl, rfl, _, rfl, ?_⟩
        have hsz : (0 : Int) ≤ (if n0 < 0 then -n0 else n0) := by split <;> omega
        generalize (if n0 < 0 then -n0 else n0) = z at hsz
        have hc1' : upd H1 l (.lst (((n0 :: nr).map V.int).eraseIdx 0)) c = some (.lst [.int a, .int b, .int n, .ref l]) := by rw [upd_ne hcl]; exact hc1
        have hl1' : upd H1 l (.lst (((n0 :: nr).map V.int).eraseIdx 0)) l = some (.lst (nr.map V.int)) := upd_same
        have kp1' : Kp c l H (upd H1 l (.lst (((n0 :: nr).map V.int).eraseIdx 0))) := kp1.trans (Kp.upd_l _)
        show (fun H2 => _) (upd H1 l (.lst (((n0 :: nr).map V.int).eraseIdx 0)))
        generalize upd H1 l (.lst (((n0 :: nr).map V.int).eraseIdx 0)) = H1' at hc1' hl1' kp1'
        refine ite2 (fun _ => ?_) (fun g0 => ?_)
        · refine ⟨_, rfl, _, rfl, c, _, 0, 0, rfl, rfl, hc1', rfl, ?_⟩
          clear hc1 hl1 kp1
          have hc1 : upd H1' c (.lst [.int z, .int b, .int n, .ref l]) c = some (.lst [.int z, .int b, .int n, .ref l]) := upd_same
          have hl1 : upd H1' c (.lst [.int z, .int b, .int n, .ref l]) l = some (.lst (nr.map V.int)) := by rw [upd_ne (Ne.symm hcl)]; exact hl1'
          have kp1 : Kp c l H (upd H1' c (.lst [.int z, .int b, .int n, .ref l])) := kp1'.trans (Kp.upd_c _)
          have ha1 := hsz
          show (fun H2 => _) (upd H1' c (.lst [.int z, .int b, .int n, .ref l]))
          generalize upd H1' c (.lst [.int z, .int b, .int n, .ref l]) = H1 at hc1 hl1 kp1
          generalize z = a1 at hc1 ha1
          generalize nr = ns1 at hl1
          refine ⟨_, rfl, _, _, _, _, rfl, rfl, SqL.of hc1, rfl, _, _, rfl, rfl, _, rfl, ?_⟩
          by_cases g1 : (0 : Int) < a1
          · rw [decide_eq_true g1]
            refine iteT ⟨_, rfl, _, _, _, _, rfl, rfl, SqL.of hc1, rfl, .inl ⟨_, rfl, _, rfl, _, _, rfl, rfl, (show (0 : Int) < k by omega), ?_⟩⟩
            refine ⟨_, rfl, _, _, _, _, rfl, rfl, SqL.of hc1, rfl, _, rfl, _, _, rfl, rfl, ⟨(show (0 : Int) < k by omega), hk2⟩, _, rfl, c, _, 0, 0, rfl, rfl, hc1, rfl, ?_⟩
            refine ⟨_, rfl, q _ _ (Int.emod_nonneg _ (by omega)) (Int.emod_lt_of_pos _ (by omega)) ⟨a1 / k, b, n, ns1, upd_same, ?_, hcl, Int.ediv_nonneg ha1 (by omega), hb, hb2, hn, by omega⟩ (kp1.trans (Kp.upd_c _))⟩
            rw [upd_ne (Ne.symm hcl)]
            exact hl1
          · rw [decide_eq_false g1]
            refine iteF ?_
            refine ⟨_, rfl, _, _, _, _, rfl, rfl, SqL.of hc1, rfl, _, _, rfl, rfl, _, rfl, c, _, 2, 2, rfl, rfl, hc1, rfl, ?_⟩
            have hc2 : upd H1 c (.lst [.int a1, .int b, .int (n + 1), .ref l]) c = some (.lst [.int a1, .int b, .int (n + 1), .ref l]) := upd_same
            have hl2 : upd H1 c (.lst [.int a1, .int b, .int (n + 1), .ref l]) l = some (.lst (ns1.map V.int)) := by rw [upd_ne (Ne.symm hcl)]; exact hl1
            have kp2 : Kp c l H (upd H1 c (.lst [.int a1, .int b, .int (n + 1), .ref l])) := kp1.trans (Kp.upd_c _)
            show (fun H2 => _) (upd H1 c (.lst [.int a1, .int b, .int (n + 1), .ref l]))
            generalize upd H1 c (.lst [.int a1, .int b, .int (n + 1), .ref l]) = H2 at hc2 hl2 kp2
            refine ⟨_, rfl, _, _, _, _, rfl, rfl, SqL.of hc2, rfl, _, _, rfl, rfl, .inl ⟨by omega, by omega⟩, ?_⟩
            refine ⟨_, rfl, _, _, _, _, rfl, rfl, SqL.of hc2, rfl, ?_⟩
            refine ⟨_, rfl, _, _, _, _, rfl, rfl, SqL.of hc2, rfl, _, _, rfl, rfl, .inl ⟨by omega, by omega⟩, _, _, rfl, rfl, .inr ⟨by decide, by decide⟩, ?_⟩
            refine ⟨_, _, rfl, rfl, _, _, rfl, rfl, .inl ⟨_, rfl, _, _, rfl, rfl, (show (0 : Int) < 2147483647 by decide), _, rfl, c, _, 1, 1, rfl, rfl, hc2, rfl, ?_⟩⟩
            have p1 := Int.emod_nonneg (b * 16807 + (n + 1) * (n + 1) * 4099 + 77) (show (2147483647 : Int) ≠ 0 by decide)
            have p2 := Int.emod_lt_of_pos (b * 16807 + (n + 1) * (n + 1) * 4099 + 77) (show (0 : Int) < 2147483647 by decide)
            show (fun H2 => _) (upd H2 c (.lst [.int a1, .int ((b * 16807 + (n + 1) * (n + 1) * 4099 + 77) % 2147483647), .int (n + 1), .ref l]))
            generalize (b * 16807 + (n + 1) * (n + 1) * 4099 + 77) % 2147483647 = b2 at p1 p2
            have hc3 : upd H2 c (.lst [.int a1, .int b2, .int (n + 1), .ref l]) c = some (.lst [.int a1, .int b2, .int (n + 1), .ref l]) := upd_same
            have hl3 : upd H2 c (.lst [.int a1, .int b2, .int (n + 1), .ref l]) l = some (.lst (ns1.map V.int)) := by rw [upd_ne (Ne.symm hcl)]; exact hl2
            have kp3 : Kp c l H (upd H2 c (.lst [.int a1, .int b2, .int (n + 1), .ref l])) := kp2.trans (Kp.upd_c _)
            generalize upd H2 c (.lst [.int a1, .int b2, .int (n + 1), .ref l]) = H3 at hc3 hl3 kp3
            refine ⟨_, rfl, _, _, _, _, rfl, rfl, SqL.of hc3, rfl, ?_⟩
            refine ⟨_, rfl, _, _, _, _, rfl, rfl, SqL.of hc3, rfl, _, _, rfl, rfl, ⟨by decide, by decide⟩, _, _, rfl, rfl, _, _, rfl, rfl, .inl ⟨by omega, by omega⟩, ?_⟩
            refine .inl ⟨_, rfl, _, _, rfl, rfl, (show (0 : Int) < 2147483629 by decide), _, _, rfl, rfl, ⟨by decide, by decide⟩, _, rfl, _, _, rfl, rfl, (show (0 : Int) < k by omega), ?_⟩
            exact q _ _ (Int.emod_nonneg _ (by omega)) (Int.emod_lt_of_pos _ (by omega)) ⟨a1, b2, n + 1, ns1, hc3, hl3, hcl, ha1, p1, by omega, by omega, by omega⟩ kp3
        · refine ⟨_, rfl, _, rfl, _, _, rfl, rfl, .inl ⟨?_, ?_⟩, _, _, rfl, rfl, ⟨by decide, by decide⟩, _, _, rfl, rfl, .inr ⟨by decide, by decide⟩, _, rfl, _, _, rfl, rfl, _, rfl, c, _, 0, 0, rfl, rfl, hc1', rfl, ?_⟩
          · omega
          · have e : (10 : Int) ^ Int.toNat 18 = 1000000000000000000 := by decide
            rw [decide_eq_true_eq, e] at g0
            omega
          clear hc1 hl1 kp1
          have ha1 : (0 : Int) ≤ z * z / 97 * 48271 + z := by
            have := Int.ediv_nonneg (Int.mul_nonneg hsz hsz) (show (0 : Int) ≤ 97 by decide)
            omega
          show (fun H2 => _) (upd H1' c (.lst [.int (z * z / 97 * 48271 + z), .int b, .int n, .ref l]))
          generalize z * z / 97 * 48271 + z = a1 at ha1
          have hc1 : upd H1' c (.lst [.int a1, .int b, .int n, .ref l]) c = some (.lst [.int a1, .int b, .int n, .ref l]) := upd_same
          have hl1 : upd H1' c (.lst [.int a1, .int b, .int n, .ref l]) l = some (.lst (nr.map V.int)) := by rw [upd_ne (Ne.symm hcl)]; exact hl1'
          have kp1 : Kp c l H (upd H1' c (.lst [.int a1, .int b, .int n, .ref l])) := kp1'.trans (Kp.upd_c _)
          generalize upd H1' c (.lst [.int a1, .int b, .int n, .ref l]) = H1 at hc1 hl1 kp1
          generalize nr = ns1 at hl1
          refine ⟨_, rfl, _, _, _, _, rfl, rfl, SqL.of hc1, rfl, _, _, rfl, rfl, _, rfl, ?_⟩
          by_cases g1 : (0 : Int) < a1
          · rw [decide_eq_true g1]
            refine iteT ⟨_, rfl, _, _, _, _, rfl, rfl, SqL.of hc1, rfl, .inl ⟨_, rfl, _, rfl, _, _, rfl, rfl, (show (0 : Int) < k by omega), ?_⟩⟩
            refine ⟨_, rfl, _, _, _, _, rfl, rfl, SqL.of hc1, rfl, _, rfl, _, _, rfl, rfl, ⟨(show (0 : Int) < k by omega), hk2⟩, _, rfl, c, _, 0, 0, rfl, rfl, hc1, rfl, ?_⟩
            refine ⟨_, rfl, q _ _ (Int.emod_nonneg _ (by omega)) (Int.emod_lt_of_pos _ (by omega)) ⟨a1 / k, b, n, ns1, upd_same, ?_, hcl, Int.ediv_nonneg ha1 (by omega), hb, hb2, hn, by omega⟩ (kp1.trans (Kp.upd_c _))⟩
            rw [upd_ne (Ne.symm hcl)]
            exact hl1
          · rw [decide_eq_false g1]
            refine iteF ?_
            refine ⟨_, rfl, _, _, _, _, rfl, rfl, SqL.of hc1, rfl, _, _, rfl, rfl, _, rfl, c, _, 2, 2, rfl, rfl, hc1, rfl, ?_⟩
            have hc2 : upd H1 c (.lst [.int a1, .int b, .int (n + 1), .ref l]) c = some (.lst [.int a1, .int b, .int (n + 1), .ref l]) := upd_same
            have hl2 : upd H1 c (.lst [.int a1, .int b, .int (n + 1), .ref l]) l = some (.lst (ns1.map V.int)) := by rw [upd_ne (Ne.symm hcl)]; exact hl1
            have kp2 : Kp c l H (upd H1 c (.lst [.int a1, .int b, .int (n + 1), .ref l])) := kp1.trans (Kp.upd_c _)
            show (fun H2 => _) (upd H1 c (.lst [.int a1, .int b, .int (n + 1), .ref l]))
            generalize upd H1 c (.lst [.int a1, .int b, .int (n + 1), .ref l]) = H2 at hc2 hl2 kp2
            refine ⟨_, rfl, _, _, _, _, rfl, rfl, SqL.of hc2, rfl, _, _, rfl, rfl, .inl ⟨by omega, by omega⟩, ?_⟩
            refine ⟨_, rfl, _, _, _, _, rfl, rfl, SqL.of hc2, rfl, ?_⟩
            refine ⟨_, rfl, _, _, _, _, rfl, rfl, SqL.of hc2, rfl, _, _, rfl, rfl, .inl ⟨by omega, by omega⟩, _, _, rfl, rfl, .inr ⟨by decide, by decide⟩, ?_⟩
            refine ⟨_, _, rfl, rfl, _, _, rfl, rfl, .inl ⟨_, rfl, _, _, rfl, rfl, (show (0 : Int) < 2147483647 by decide), _, rfl, c, _, 1, 1, rfl, rfl, hc2, rfl, ?_⟩⟩
            have p1 := Int.emod_nonneg (b * 16807 + (n + 1) * (n + 1) * 4099 + 77) (show (2147483647 : Int) ≠ 0 by decide)
            have p2 := Int.emod_lt_of_pos (b * 16807 + (n + 1) * (n + 1) * 4099 + 77) (show (0 : Int) < 2147483647 by decide)
            show (fun H2 => _) (upd H2 c (.lst [.int a1, .int ((b * 16807 + (n + 1) * (n + 1) * 4099 + 77) % 2147483647), .int (n + 1), .ref l]))
            generalize (b * 16807 + (n + 1) * (n + 1) * 4099 + 77) % 2147483647 = b2 at p1 p2
            have hc3 : upd H2 c (.lst [.int a1, .int b2, .int (n + 1), .ref l]) c = some (.lst [.int a1, .int b2, .int (n + 1), .ref l]) := upd_same
            have hl3 : upd H2 c (.lst [.int a1, .int b2, .int (n + 1), .ref l]) l = some (.lst (ns1.map V.int)) := by rw [upd_ne (Ne.symm hcl)]; exact hl2
            have kp3 : Kp c l H (upd H2 c (.lst [.int a1, .int b2, .int (n + 1), .ref l])) := kp2.trans (Kp.upd_c _)
            generalize upd H2 c (.lst [.int a1, .int b2, .int (n + 1), .ref l]) = H3 at hc3 hl3 kp3
            refine ⟨_, rfl, _, _, _, _, rfl, rfl, SqL.of hc3, rfl, ?_⟩
            refine ⟨_, rfl, _, _, _, _, rfl, rfl, SqL.of hc3, rfl, _, _, rfl, rfl, ⟨by decide, by decide⟩, _, _, rfl, rfl, _, _, rfl, rfl, .inl ⟨by omega, by omega⟩, ?_⟩
            refine .inl ⟨_, rfl, _, _, rfl, rfl, (show (0 : Int) < 2147483629 by decide), _, _, rfl, rfl, ⟨by decide, by decide⟩, _, rfl, _, _, rfl, rfl, (show (0 : Int) < k by omega), ?_⟩
            exact q _ _ (Int.emod_nonneg _ (by omega)) (Int.emod_lt_of_pos _ (by omega)) ⟨a1, b2, n + 1, ns1, hc3, hl3, hcl, ha1, p1, by omega, by omega, by omega⟩ kp3
    · rw [decide_eq_false h0]
      refine iteF ?_
      have hc1 := hc
      have hl1 := hl
      have ha1 := ha
      generalize a = a1 at hc1 ha1
      generalize ns = ns1 at hl1
      generalize hH : H = H1 at hc1 hl1 ⊢
      have kp1 : Kp c l H H1 := by rw [hH]; exact Kp.refl _
      refine ⟨_, rfl, _, _, _, _, rfl, rfl, SqL.of hc1, rfl, _, _, rfl, rfl, _, rfl, ?_⟩
      by_cases g1 : (0 : Int) < a1
      · rw [decide_eq_true g1]
        refine iteT ⟨_, rfl, _, _, _, _, rfl, rfl, SqL.of hc1, rfl, .inl ⟨_, rfl, _, rfl, _, _, rfl, rfl, (show (0 : Int) < k by omega), ?_⟩⟩
        refine ⟨_, rfl, _, _, _, _, rfl, rfl, SqL.of hc1, rfl, _, rfl, _, _, rfl, rfl, ⟨(show (0 : Int) < k by omega), hk2⟩, _, rfl, c, _, 0, 0, rfl, rfl, hc1, rfl, ?_⟩
        refine ⟨_, rfl, q _ _ (Int.emod_nonneg _ (by omega)) (Int.emod_lt_of_pos _ (by omega)) ⟨a1 / k, b, n, ns1, upd_same, ?_, hcl, Int.ediv_nonneg ha1 (by omega), hb, hb2, hn, by omega⟩ (kp1.trans (Kp.upd_c _))⟩
        rw [upd_ne (Ne.symm hcl)]
        exact hl1
      · rw [decide_eq_false g1]
        refine iteF ?_
        refine ⟨_, rfl, _, _, _, _, rfl, rfl, SqL.of hc1, rfl, _, _, rfl, rfl, _, rfl, c, _, 2, 2, rfl, rfl, hc1, rfl, ?_⟩
        have hc2 : upd H1 c (.lst [.int a1, .int b, .int (n + 1), .ref l]) c = some (.lst [.int a1, .int b, .int (n + 1), .ref l]) := upd_same
        have hl2 : upd H1 c (.lst [.int a1, .int b, .int (n + 1), .ref l]) l = some (.lst (ns1.map V.int)) := by rw [upd_ne (Ne.symm hcl)]; exact hl1
        have kp2 : Kp c l H (upd H1 c (.lst [.int a1, .int b, .int (n + 1), .ref l])) := kp1.trans (Kp.upd_c _)
        show (fun H2 => _) (upd H1 c (.lst [.int a1, .int b, .int (n + 1), .ref l]))
        generalize upd H1 c (.lst [.int a1, .int b, .int (n + 1), .ref l]) = H2 at hc2 hl2 kp2
        refine ⟨_, rfl, _, _, _, _, rfl, rfl, SqL.of hc2, rfl, _, _, rfl, rfl, .inl ⟨by omega, by omega⟩, ?_⟩
        refine ⟨_, rfl, _, _, _, _, rfl, rfl, SqL.of hc2, rfl, ?_⟩
        refine ⟨_, rfl, _, _, _, _, rfl, rfl, SqL.of hc2, rfl, _, _, rfl, rfl, .inl ⟨by omega, by omega⟩, _, _, rfl, rfl, .inr ⟨by decide, by decide⟩, ?_⟩
        refine ⟨_, _, rfl, rfl, _, _, rfl, rfl, .inl ⟨_, rfl, _, _, rfl, rfl, (show (0 : Int) < 2147483647 by decide), _, rfl, c, _, 1, 1, rfl, rfl, hc2, rfl, ?_⟩⟩
        have p1 := Int.emod_nonneg (b * 16807 + (n + 1) * (n + 1) * 4099 + 77) (show (2147483647 : Int) ≠ 0 by decide)
        have p2 := Int.emod_lt_of_pos (b * 16807 + (n + 1) * (n + 1) * 4099 + 77) (show (0 : Int) < 2147483647 by decide)
        show (fun H2 => _) (upd H2 c (.lst [.int a1, .int ((b * 16807 + (n + 1) * (n + 1) * 4099 + 77) % 2147483647), .int (n + 1), .ref l]))
        generalize (b * 16807 + (n + 1) * (n + 1) * 4099 + 77) % 2147483647 = b2 at p1 p2
        have hc3 : upd H2 c (.lst [.int a1, .int b2, .int (n + 1), .ref l]) c = some (.lst [.int a1, .int b2, .int (n + 1), .ref l]) := upd_same
        have hl3 : upd H2 c (.lst [.int a1, .int b2, .int (n + 1), .ref l]) l = some (.lst (ns1.map V.int)) := by rw [upd_ne (Ne.symm hcl)]; exact hl2
        have kp3 : Kp c l H (upd H2 c (.lst [.int a1, .int b2, .int (n + 1), .ref l])) := kp2.trans (Kp.upd_c _)
        generalize upd H2 c (.lst [.int a1, .int b2, .int (n + 1), .ref l]) = H3 at hc3 hl3 kp3
        refine ⟨_, rfl, _, _, _, _, rfl, rfl, SqL.of hc3, rfl, ?_⟩
        refine ⟨_, rfl, _, _, _, _, rfl, rfl, SqL.of hc3, rfl, _, _, rfl, rfl, ⟨by decide, by decide⟩, _, _, rfl, rfl, _, _, rfl, rfl, .inl ⟨by omega, by omega⟩, ?_⟩
        refine .inl ⟨_, rfl, _, _, rfl, rfl, (show (0 : Int) < 2147483629 by decide), _, _, rfl, rfl, ⟨by decide, by decide⟩, _, rfl, _, _, rfl, rfl, (show (0 : Int) < k by omega), ?_⟩
        exact q _ _ (Int.emod_nonneg _ (by omega)) (Int.emod_lt_of_pos _ (by omega)) ⟨a1, b2, n + 1, ns1, hc3, hl3, hcl, ha1, p1, by omega, by omega, by omega⟩ kp3
def spCup (K : PySem.W.Frag) : Sp := fun vs H Q _ => ∃ (x : Addr) (ns : List Int), vs = [.ref x] ∧ SqL K H x (ns.map V.int) ∧ ∀ c l H', Cup0 H' c l 1000000 → Same H H' → Q (.ref c) H'
theorem sc__law_cup : FnScope ["script", "blend", "cell"] ["script"] (C8.fnScope (topS 11)) := C8.fnScope_by (by decide +kernel)
theorem ok__law_cup {f : Addr} {fd : FuncData} (F : C8.Def K mg "_law_cup" (topS 11) f fd) (b : Binds K fd ["script"] []) (B : Bl mg)  : C8.Cal P w K mg base 1 "_law_cup" (spCup K) [] := by
  refine C8.cal0 F b .nil sc__law_cup ?len ?body
  case len => rintro vs H Q E ⟨x, ns, rfl, _⟩; rfl
  case body =>
    rintro cdv A outer s H vs Q E hr ⟨x, ns, rfl, hx, q⟩
    refine ⟨_, (pss_cons (ps_set (i := 1) sc__law_cup.nd rfl (Or.inl rfl) pe_int)
    (pss_cons (ps_for PassesOwn.never rfl (pi_list (pv 0)) (pg_name (i := 2) sc__law_cup.nd rfl (Or.inl rfl))
    (pss_one (ps_set (i := 1) sc__law_cup.nd rfl (Or.inl rfl) (pe_op op_add (pe_op op_mod (pe_callTy call_int1 rfl B.int (by decide +kernel) (pa_cons (pe_op op_add (pe_op op_mul (pv 1) pe_int) (pv 2)) pa_nil)) pe_int) pe_int))))
    (pss_one (ps_ret (pe_lst (pa_cons pe_int (pa_cons (pv 1) (pa_cons pe_int (pa_cons (pe_callTy call_list_of rfl B.list (by decide +kernel) (pa_cons (pv 0) pa_nil)) pa_nil))))))))), ?_⟩
    refine ⟨_, rfl, x, rfl, ⟨_, hx⟩, ?_⟩
    refine for_list (xs := ns.map V.int) (fun i σ H1 => (∃ (b : Int) (s2 : Option V), σ = [some (.ref x), some (.int b), s2] ∧ 1 ≤ b ∧ b ≤ 2147483629) ∧ H1 = H) ⟨⟨1, _, rfl, by decide, by decide⟩, rfl⟩ ?_ ?_ ?_
    · rintro i σ H1 hi ⟨_, rfl⟩; exact hx
    · rintro i y σ H1 hy ⟨⟨b, s2, rfl, b1, b2⟩, rfl⟩
      obtain ⟨z, rfl⟩ : ∃ z, y = .int z := by
        rw [List.getElem?_map] at hy
        cases h : ns[i]? with
        | none => rw [h] at hy; cases hy
        | some z => rw [h] at hy; cases hy; exact ⟨z, rfl⟩
      refine ⟨_, rfl, _, _, rfl, rfl, .inl ⟨by omega, by omega⟩, _, rfl, _, _, rfl, rfl, .inl ⟨_, rfl, _, _, rfl, rfl, (show (0 : Int) < 2147483629 by decide), _, _, rfl, rfl, ?_⟩⟩
      have p1 := Int.emod_nonneg (b * 31 + z) (show (2147483629 : Int) ≠ 0 by decide)
      have p2 := Int.emod_lt_of_pos (b * 31 + z) (show (0 : Int) < 2147483629 by decide)
      exact ⟨⟨(b * 31 + z) % 2147483629 + 1, _, rfl, by omega, by omega⟩, rfl⟩
    · rintro σ H1 ⟨⟨b, s2, rfl, b1, b2⟩, rfl⟩
      refine ⟨_, rfl, _, rfl, x, _, rfl, .inl hx, fun l hl => ⟨(by show 4 ≤ sizeLine; decide), fun c hc => ?_⟩⟩
      have ncl : c ≠ l := fun z => by rw [z, upd_same] at hc; cases hc
      refine q c l _ ⟨0, b, 0, ns, upd_same, ?_, ncl, by omega, by omega, by omega, by omega, by omega⟩ ((same_new hl _).trans (same_new hc _))
      rw [upd_ne (Ne.symm ncl)]
      exact upd_same
end
end K34


set_option Elab.async false
set_option linter.all false
set_option maxRecDepth 100000
set_option maxHeartbeats 8000000
namespace K34
open PySem PySem.Spec PyProof.Rows L2
/-! ### readings that give any data, and let the cup stay -/
theorem same_cut {c l zz : Addr} {H H' : Hp} (s : Same H H') : Same (cut c l zz H) (cut c l zz H') := (Kp.of_same s).cut
theorem dpc {K : PySem.W.Frag} {c l zz : Addr} {H H' : Hp} {v : V} {d : PyData} (s : Same H H') (h : Dp K (cut c l zz H) v d) : Dp K (cut c l zz H') v d := dp_ext (same_ext (same_cut s)) d h
theorem dpsc {K : PySem.W.Frag} {c l zz : Addr} {H H' : Hp} {v : List V} {d : List PyData} (s : Same H H') (h : DpAll K (cut c l zz H) v d) : DpAll K (cut c l zz H') v d := dps_ext (same_ext (same_cut s)) d h
theorem sqc {K : PySem.W.Frag} {c l zz : Addr} {H H' : Hp} {a : Addr} {xs : List V} (s : Same H H') (h : SqT K (cut c l zz H) a xs) : SqT K (cut c l zz H') a xs := sqt_ext (same_ext (same_cut s)) h
theorem sq_cut {K : PySem.W.Frag} {c l zz : Addr} {H : Hp} {a : Addr} {xs : List V} (h : SqT K (cut c l zz H) a xs) : SqT K H a xs := sqt_ext (same_ext cut_ext) h
theorem dp_cut {K : PySem.W.Frag} {c l zz : Addr} {H : Hp} {v : V} {d : PyData} (h : Dp K (cut c l zz H) v d) : Dp K H v d := dp_ext (same_ext cut_ext) d h
theorem dps_app {K : PySem.W.Frag} {H : Hp} : ∀ {vs ws : List V} {ds es : List PyData}, DpAll K H vs ds → DpAll K H ws es → DpAll K H (vs ++ ws) (ds ++ es)
  | _, _, _, _, .nil, h => h
  | _, _, _, _, .cons h t, h' => .cons h (dps_app t h')
theorem dps_take {K : PySem.W.Frag} {H : Hp} : ∀ (n : Nat) {vs : List V} {ds : List PyData}, DpAll K H vs ds → DpAll K H (vs.take n) (ds.take n)
  | 0, _, _, _ => .nil
  | _ + 1, _, _, .nil => .nil
  | n + 1, _, _, .cons h t => .cons h (dps_take n t)
theorem dps_drop {K : PySem.W.Frag} {H : Hp} : ∀ (n : Nat) {vs : List V} {ds : List PyData}, DpAll K H vs ds → DpAll K H (vs.drop n) (ds.drop n)
  | 0, _, _, h => h
  | _ + 1, _, _, .nil => .nil
  | n + 1, _, _, .cons _ t => dps_drop n t
theorem dps_rev {K : PySem.W.Frag} {H : Hp} : ∀ {vs : List V} {ds : List PyData}, DpAll K H vs ds → DpAll K H vs.reverse ds.reverse
  | _, _, .nil => .nil
  | _, _, .cons h t => by
    rw [List.reverse_cons, List.reverse_cons]
    exact dps_snoc (dps_rev t) h
theorem dps_cutV {K : PySem.W.Frag} {H : Hp} {vs : List V} {ds : List PyData} (h : DpAll K H vs ds) (lo hi : Option Int) : ∃ es, DpAll K H (cutV vs lo hi) es ∧ (∀ d ∈ es, d ∈ ds) ∧ es.length ≤ ds.length := by
  refine ⟨_, dps_take _ (dps_drop _ h), fun d hd => List.mem_of_mem_drop (List.mem_of_mem_take hd), ?_⟩
  rw [List.length_take, List.length_drop]
  omega
theorem strOk_of (s : String) : PyData.strOk (Str.ofString s) = true := by
  rw [Str.ofString_eq_toList]
  unfold PyData.strOk
  simp only [List.all_toArray, Array.all_eq_true, List.all_eq_true, List.mem_map]
  rintro x ⟨ch, _, rfl⟩
  have := ch.valid
  have h : ch.toNat < 1114112 := by
    rcases this with h | ⟨_, h⟩
    · exact Nat.lt_trans h (by decide)
    · exact h
  exact decide_eq_true h
def SC (c l : Addr) (H H' : Hp) : Prop := Kp c l H H'
def Stb (F : Hp → Prop) : Prop := ∀ {h h' : Hp}, F h → Same h h' → F h'
theorem SC.refl {c l : Addr} (H : Hp) : SC c l H H := Kp.refl _
theorem SC.trans {c l : Addr} {H H' H2 : Hp} (a : SC c l H H') (b : SC c l H' H2) : SC c l H H2 := Kp.trans a b
theorem SC.same {c l : Addr} {H H' : Hp} (s : Same H H') : SC c l H H' := Kp.of_same s
theorem SC.cut {c l zz : Addr} {H H' : Hp} (s : SC c l H H') : Same (K34.cut c l zz H) (K34.cut c l zz H') := Kp.cut s
section
variable {K : PySem.W.Frag} {c l zz : Addr} {F : Hp → Prop} {σ : L2.St} {n k L : Nat} {p : Int → Prop}
variable (K c l zz F σ)
def An (n k : Nat) (t : TE) : Prop := ∀ (m : Nat) (H : Hp) (Q : VK), Cup H c l zz (m + k) → F (cut c l zz H) → (∀ v d H', Cup H' c l zz m → SC c l H H' → Dp K (cut c l zz H') v d → OkN n d → Q v H') → t σ H Q
def Ap (n k L : Nat) (t : TE) : Prop := ∀ (m : Nat) (H : Hp) (Q : VK), Cup H c l zz (m + k) → F (cut c l zz H) → (∀ a xs ds H', Cup H' c l zz m → SC c l H H' → SqT K (cut c l zz H') a xs → DpAll K (cut c l zz H') xs ds → (∀ d ∈ ds, OkN n d) → ds.length ≤ L → Q (.ref a) H') → t σ H Q
def Ai (p : Int → Prop) (k : Nat) (t : TE) : Prop := ∀ (m : Nat) (H : Hp) (Q : VK), Cup H c l zz (m + k) → F (cut c l zz H) → (∀ (i : Int) H', p i → Cup H' c l zz m → SC c l H H' → Q (.int i) H') → t σ H Q
def Ao (k : Nat) (t : TO) : Prop := ∀ (m : Nat) (H : Hp) (Q : Option Int → Hp → Prop), Cup H c l zz (m + k) → F (cut c l zz H) → (∀ o H', Cup H' c l zz m → SC c l H H' → Q o H') → t σ H Q
def Aa (n k j : Nat) (t : TA) : Prop := ∀ (m : Nat) (H : Hp) (Q : List V → Hp → Prop), Cup H c l zz (m + k) → F (cut c l zz H) → (∀ vs ds H', Cup H' c l zz m → SC c l H H' → DpAll K (cut c l zz H') vs ds → (∀ d ∈ ds, OkN n d) → vs.length = j → Q vs H') → t σ H Q
def Al (n k j : Nat) (t : TE) : Prop := ∀ (m : Nat) (H : Hp) (Q : VK), Cup H c l zz (m + k) → F (cut c l zz H) → (∀ a vs ds H', Cup H' c l zz m → SC c l H H' → cut c l zz H' a = some (.lst vs) → DpAll K (cut c l zz H') vs ds → (∀ d ∈ ds, OkN n d) → vs.length = j → Q (.ref a) H') → t σ H Q
def Az (p : Int → Prop) (k j : Nat) (t : TA) : Prop := ∀ (m : Nat) (H : Hp) (Q : List V → Hp → Prop), Cup H c l zz (m + k) → F (cut c l zz H) → (∀ (ns : List Int) H', Cup H' c l zz m → SC c l H H' → (∀ i ∈ ns, p i) → ns.length = j → Q (ns.map V.int) H') → t σ H Q
def Am (p : Int → Prop) (k j : Nat) (t : TE) : Prop := ∀ (m : Nat) (H : Hp) (Q : VK), Cup H c l zz (m + k) → F (cut c l zz H) → (∀ a (ns : List Int) H', Cup H' c l zz m → SC c l H H' → cut c l zz H' a = some (.lst (ns.map V.int)) → (∀ i ∈ ns, p i) → ns.length = j → Q (.ref a) H') → t σ H Q
variable {K c l zz F σ}
/-! leaves -/
theorem an_str (s : Str) (hs : PyData.strOk s = true) : An K c l zz F σ (n + 1) 0 (tC (.str s)) := fun m H Q C _ q => q _ (.str s) H C (SC.refl H) (.str s) ⟨by unfold PyData.canLay0; exact hs, by unfold PyData.depth; omega⟩
theorem an_non : An K c l zz F σ (n + 1) 0 (tC .non) := fun m H Q C _ q => q _ .none H C (SC.refl H) .non ⟨rfl, by unfold PyData.depth; omega⟩
theorem an_bl (b : Bool) : An K c l zz F σ (n + 1) 0 (tC (.bl b)) := fun m H Q C _ q => q _ (.bool b) H C (SC.refl H) (.bl b) ⟨rfl, by unfold PyData.depth; omega⟩
theorem an_int {t : TE} (h : Ai c l zz F σ p k t) : An K c l zz F σ (n + 1) k t := fun m H Q C f q => h m H _ C f fun z H' _ C' s => q _ (.int z) H' C' s (.int z) (ok_int _ _)
theorem an_P {t : TE} (h : Ap K c l zz F σ n k L t) : An K c l zz F σ (n + 1) k t := fun m H Q C f q => h m H _ C f fun a xs ds H' C' s ha hd ok _ => q _ (.tuple ds) H' C' s (.tup ha hd) (ok_tup.mpr ok)
theorem an_L {t : TE} {j : Nat} (h : Al K c l zz F σ n k j t) : An K c l zz F σ (n + 1) k t := fun m H Q C f q => h m H _ C f fun a vs ds H' C' s ha hd ok _ => q _ (.list ds) H' C' s (.lst (SqL.of ha) hd) (ok_lst.mpr ok)
theorem an_up {t : TE} {j : Nat} (h : An K c l zz F σ j k t) (hj : j ≤ n) : An K c l zz F σ n k t := fun m H Q C f q => h m H _ C f fun v d H' C' s hd ok => q v d H' C' s hd (ok.mono hj)
theorem an_var {j : Nat} {v : V} {d : PyData} (e : σ[j]? = some (some v)) (h : ∀ H, F H → Dp K H v d) (ok : OkN n d) : An K c l zz F σ n 0 (tVar j) := fun m H Q C f q => ⟨v, e, q v d H C (SC.refl H) (h _ f) ok⟩
theorem ap_var {j : Nat} {a : Addr} {xs : List V} {ds : List PyData} (e : σ[j]? = some (some (.ref a))) (h : ∀ H, F H → SqT K H a xs ∧ DpAll K H xs ds) (ok : ∀ d ∈ ds, OkN n d) (hl : ds.length ≤ L) : Ap K c l zz F σ n 0 L (tVar j) :=
  fun m H Q C f q => ⟨_, e, q a xs ds H C (SC.refl H) (h _ f).1 (h _ f).2 ok hl⟩
theorem al_var {j : Nat} {a : Addr} {vs : List V} {ds : List PyData} {i : Nat} (e : σ[j]? = some (some (.ref a))) (h : ∀ H, F H → H a = some (.lst vs) ∧ DpAll K H vs ds) (ok : ∀ d ∈ ds, OkN n d) (hl : vs.length = i) : Al K c l zz F σ n 0 i (tVar j) :=
  fun m H Q C f q => ⟨_, e, q a vs ds H C (SC.refl H) (h _ f).1 (h _ f).2 ok hl⟩
theorem ai_var {j : Nat} {z : Int} (e : σ[j]? = some (some (.int z))) (hp : p z) : Ai c l zz F σ p 0 (tVar j) := fun m H Q C f q => ⟨_, e, q z H hp C (SC.refl H)⟩
theorem ai_c {z : Int} (hp : p z) : Ai c l zz F σ p 0 (tC (.int z)) := fun m H Q C f q => q z H hp C (SC.refl H)
theorem ai_mono {t : TE} {p' : Int → Prop} (h : Ai c l zz F σ p' k t) (hp : ∀ z, p' z → p z) : Ai c l zz F σ p k t := fun m H Q C f q => h m H _ C f fun i H' pi => q i H' (hp i pi)
theorem ai_op {g : Int → Int → Int} {a b : TE} {pa pb : Int → Prop} {ka kb : Nat} (S : Stb F) (ha : Ai c l zz F σ pa ka a) (hb : Ai c l zz F σ pb kb b) (hk : ka + kb ≤ k) (hp : ∀ x y, pa x → pb y → p (g x y)) : Ai c l zz F σ p k (tOp (rI0 fun i j => .int (g i j)) a b) := fun m H Q C f q =>
  ha (m + kb) H _ (C.le (by omega)) f fun x H1 px C1 s1 => hb m H1 _ C1 (S f (SC.cut s1)) fun y H2 py C2 s2 => ⟨x, y, rfl, rfl, q _ H2 (hp x y px py) C2 (s1.trans s2)⟩
theorem ai_opI {r : Int → Int → Prop} {g : Int → Int → Int} {a b : TE} {pa pb : Int → Prop} {ka kb : Nat} (S : Stb F) (ha : Ai c l zz F σ pa ka a) (hb : Ai c l zz F σ pb kb b) (hk : ka + kb ≤ k) (hr : ∀ x y, pa x → pb y → r x y) (hp : ∀ x y, pa x → pb y → p (g x y)) :
    Ai c l zz F σ p k (tOp (rI r fun i j => .int (g i j)) a b) := fun m H Q C f q =>
  ha (m + kb) H _ (C.le (by omega)) f fun x H1 px C1 s1 => hb m H1 _ C1 (S f (SC.cut s1)) fun y H2 py C2 s2 => ⟨x, y, rfl, rfl, hr x y px py, q _ H2 (hp x y px py) C2 (s1.trans s2)⟩
theorem ai_neg {a : TE} {pa : Int → Prop} (ha : Ai c l zz F σ pa k a) (hp : ∀ x, pa x → p (-x)) : Ai c l zz F σ p k (tUn (rU fun i => .int (-i)) a) := fun m H Q C f q => ha m H _ C f fun x H1 px C1 s1 => ⟨x, rfl, q _ H1 (hp x px) C1 s1⟩
theorem ao_none : Ao c l zz F σ 0 tNoPart := fun m H Q C f q => q none H C (SC.refl H)
theorem ao_some {t : TE} (h : Ai c l zz F σ p k t) : Ao c l zz F σ k (tPart t) := fun m H Q C f q => h m H _ C f fun i H' _ C' s => ⟨i, rfl, q _ H' C' s⟩
/-! displays -/
theorem aa_nil : Aa K c l zz F σ n 0 0 tNil := fun m H Q C f q => q [] [] H C (SC.refl H) .nil (fun _ h => by cases h) rfl
theorem aa_cons {a : TE} {r : TA} {ka kr j : Nat} (S : Stb F) (ha : An K c l zz F σ n ka a) (hr : Aa K c l zz F σ n kr j r) : Aa K c l zz F σ n (ka + kr) (j + 1) (tCons a r) := fun m H Q C f q =>
  ha (m + kr) H _ (C.le (by omega)) f fun v d H1 C1 s1 hd ok => hr m H1 _ C1 (S f (SC.cut s1)) fun vs ds H2 C2 s2 hds oks hl => q (v :: vs) (d :: ds) H2 C2 (s1.trans s2) (.cons (dp_ext (same_ext (SC.cut s2)) d hd) hds) (fun e he => by
    rcases List.mem_cons.mp he with rfl | he
    · exact ok
    · exact oks e he) (by rw [List.length_cons, hl])
theorem az_nil : Az c l zz F σ p 0 0 tNil := fun m H Q C f q => q [] H C (SC.refl H) (fun _ h => by cases h) rfl
theorem az_cons {a : TE} {r : TA} {ka kr j : Nat} (S : Stb F) (ha : Ai c l zz F σ p ka a) (hr : Az c l zz F σ p kr j r) : Az c l zz F σ p (ka + kr) (j + 1) (tCons a r) := fun m H Q C f q =>
  ha (m + kr) H _ (C.le (by omega)) f fun x H1 px C1 s1 => hr m H1 _ C1 (S f (SC.cut s1)) fun ns H2 C2 s2 hns hl => q (x :: ns) H2 C2 (s1.trans s2) (fun e he => by
    rcases List.mem_cons.mp he with rfl | he
    · exact px
    · exact hns e he) (by rw [List.length_cons, hl])
theorem cut_upd {H : Hp} {a : Addr} {o : HO} (ne : a ≠ c ∧ a ≠ l ∧ a ≠ zz) : cut c l zz (upd H a o) a = some o := by rw [cut_get ne]; exact upd_same
theorem ap_tup {t : TA} {j : Nat} (h : Aa K c l zz F σ n k j t) (hj : j ≤ 1000) (hL : j ≤ L) : Ap K c l zz F σ n k L (tTup t) := fun m H Q C f q =>
  h m H _ C f fun vs ds H1 C1 s1 hds oks hl => ⟨Nat.le_of_lt (small1000 (by omega)), fun p hp => by
    have s2 : Same H1 (upd H1 p (.tup vs)) := same_new hp _
    exact q p vs ds _ (C1.same s2) (s1.trans (SC.same s2)) (SqT.of (cut_upd (C1.new hp))) (dpsc s2 hds) oks (by rw [← dps_len hds, hl]; exact hL)⟩
theorem al_lst {t : TA} {j : Nat} (h : Aa K c l zz F σ n k j t) (hj : j ≤ 1000) : Al K c l zz F σ n k j (tLst t) := fun m H Q C f q =>
  h m H _ C f fun vs ds H1 C1 s1 hds oks hl => ⟨Nat.le_of_lt (small1000 (by omega)), fun p hp => by
    have s2 : Same H1 (upd H1 p (.lst vs)) := same_new hp _
    exact q p vs ds _ (C1.same s2) (s1.trans (SC.same s2)) (cut_upd (C1.new hp)) (dpsc s2 hds) oks hl⟩
theorem am_lst {t : TA} {j : Nat} (h : Az c l zz F σ p k j t) (hj : j ≤ 1000) : Am c l zz F σ p k j (tLst t) := fun m H Q C f q =>
  h m H _ C f fun ns H1 C1 s1 hns hl => ⟨Nat.le_of_lt (small1000 (by rw [List.length_map]; omega)), fun p hp => by
    have s2 : Same H1 (upd H1 p (.lst (ns.map V.int))) := same_new hp _
    exact q p ns _ (C1.same s2) (s1.trans (SC.same s2)) (cut_upd (C1.new hp)) hns hl⟩
theorem al_cat {a b : TE} {ka kb i j : Nat} (S : Stb F) (ha : Al K c l zz F σ n ka i a) (hb : Al K c l zz F σ n kb j b) (hk : i + j ≤ 1000) : Al K c l zz F σ n (ka + kb) (i + j) (tOp rCat a b) := fun m H Q C f q =>
  ha (m + kb) H _ (C.le (by omega)) f fun p vs ds H1 C1 s1 hv hds oks hl => hb m H1 _ C1 (S f (SC.cut s1)) fun p2 vs2 ds2 H2 C2 s2 hv2 hds2 oks2 hl2 =>
    ⟨p, p2, vs, vs2, rfl, rfl, cut_ext _ _ (SC.cut s2 _ _ hv), cut_ext _ _ hv2, Nat.le_of_lt (small1000 (by omega)), fun r hr => by
      have s3 : Same H2 (upd H2 r (.lst (vs ++ vs2))) := same_new hr _
      exact q r (vs ++ vs2) (ds ++ ds2) _ (C2.same s3) (s1.trans (s2.trans (SC.same s3))) (cut_upd (C2.new hr)) (dpsc s3 (dps_app (dps_ext (same_ext (SC.cut s2)) _ hds) hds2)) (fun d hd => (List.mem_append.mp hd).elim (oks d) (oks2 d)) (by rw [List.length_append, hl, hl2])⟩
theorem ap_cat {a b : TE} {L1 L2 ka kb : Nat} (S : Stb F) (ha : Ap K c l zz F σ n ka L1 a) (hb : Ap K c l zz F σ n kb L2 b) (h1 : L1 + L2 ≤ 1000) (hL : L1 + L2 ≤ L) : Ap K c l zz F σ n (ka + kb) L (tOp (rCatA K) a b) := fun m H Q C f q =>
  ha (m + kb) H _ (C.le (by omega)) f fun a xs ds H1 C1 s1 hs hds oks hl => hb m H1 _ C1 (S f (SC.cut s1)) fun b ys es H2 C2 s2 hs2 hes oks2 hl2 => by
    have hx := dps_len hds
    have hy := dps_len hes
    have hs' := sqt_ext (same_ext (SC.cut s2)) hs
    have hds' := dps_ext (same_ext (SC.cut s2)) _ hds
    refine ⟨a, b, xs, ys, rfl, rfl, sq_cut hs', sq_cut hs2, Nat.le_of_lt (small1000 (by omega)), fun z => ?_, fun _ z => ?_, fun _ _ r hr => ?_⟩
    · exact q b ys es H2 C2 (s1.trans s2) hs2 hes oks2 (by omega)
    · exact q a xs ds H2 C2 (s1.trans s2) hs' hds' oks (by omega)
    · have s3 : Same H2 (upd H2 r (.tup (xs ++ ys))) := same_new hr _
      exact q r (xs ++ ys) (ds ++ es) _ (C2.same s3) (s1.trans (s2.trans (SC.same s3))) (SqT.of (cut_upd (C2.new hr))) (dpsc s3 (dps_app hds' hes)) (fun d hd => (List.mem_append.mp hd).elim (oks d) (oks2 d)) (by rw [List.length_append]; omega)
theorem ap_sl {a : TE} {tl th : TO} {ka kl kh : Nat} (S : Stb F) (ha : Ap K c l zz F σ n ka L a) (hl : Ao c l zz F σ kl tl) (hh : Ao c l zz F σ kh th) : Ap K c l zz F σ n (ka + kl + kh) L (tSl (rSlA K) a tl th) := fun m H Q C f q =>
  ha (m + kl + kh) H _ (C.le (by omega)) f fun a xs ds H1 C1 s1 hs hds oks hL => hl (m + kh) H1 _ (C1.le (by omega)) (S f (SC.cut s1)) fun lo H2 C2 s2 => hh m H2 _ C2 (S f (SC.cut (s1.trans s2))) fun hi H3 C3 s3 => by
    have s4 := s2.trans s3
    have hs' := sqt_ext (same_ext (SC.cut s4)) hs
    have hds' := dps_ext (same_ext (SC.cut s4)) _ hds
    refine ⟨a, xs, rfl, sq_cut hs', fun _ => ?_, fun _ r hr => ?_⟩
    · exact q a xs ds H3 C3 (s1.trans s4) hs' hds' oks hL
    · have s5 : Same H3 (upd H3 r (.tup (cutV xs lo hi))) := same_new hr _
      obtain ⟨es, h1, h2, h3⟩ := dps_cutV (dpsc (c := c) (l := l) (zz := zz) s5 hds') lo hi
      exact q r _ es _ (C3.same s5) (s1.trans (s4.trans (SC.same s5))) (SqT.of (cut_upd (C3.new hr))) h1 (fun d hd => oks d (h2 d hd)) (by omega)
theorem ap_rev {a : TE} (ha : Ap K c l zz F σ n k L a) : Ap K c l zz F σ n k L (UG.tRevT K a) := fun m H Q C f q =>
  ha m H _ C f fun a xs ds H1 C1 s1 hs hds oks hL => ⟨a, xs, rfl, sq_cut hs, fun r hr => by
    have s5 : Same H1 (upd H1 r (.tup xs.reverse)) := same_new hr _
    exact q r _ ds.reverse _ (C1.same s5) (s1.trans (SC.same s5)) (SqT.of (cut_upd (C1.new hr))) (dps_rev (dpsc s5 hds)) (fun d hd => oks d (List.mem_reverse.mp hd)) (by rw [List.length_reverse]; exact hL)⟩
theorem an_listof {a : TE} (ha : Ap K c l zz F σ n k L a) : An K c l zz F σ (n + 1) k (tCB (fun xs H Q => ∃ p ys, xs = [.ref p] ∧ (SqL K H p ys ∨ SqT K H p ys) ∧ ∀ l, H l = none → Q (.ref l) (upd H l (.lst ys))) (tCons a tNil)) := fun m H Q C f q =>
  ha m H _ C f fun a xs ds H1 C1 s1 hs hds oks hL => ⟨a, xs, rfl, .inr (sq_cut hs), fun r hr => by
    have s5 : Same H1 (upd H1 r (.lst xs)) := same_new hr _
    exact q _ (.list ds) _ (C1.same s5) (s1.trans (SC.same s5)) (.lst (SqL.of (cut_upd (C1.new hr))) (dpsc s5 hds)) (ok_lst.mpr oks)⟩
/-! calls of sip, and picks -/
theorem ai_sip {j : Nat} {hi : Int} {t : TE} (S : Stb F) (e : σ[j]? = some (some (.ref c))) (ht : Ai c l zz F σ (fun z => 1 ≤ z ∧ z.natAbs.log2 < 9000 ∧ z ≤ hi) k t) (hp : ∀ r, 0 ≤ r → r < hi → p r) : Ai c l zz F σ p (k + 1) (tCall spSip [] C8.E0 (tCons (tVar j) (tCons t tNil))) := fun m H Q C f q =>
  ⟨_, e, ht (m + 1) H _ (C.le (by omega)) f fun z H1 hz C1 s1 => ⟨c, l, zz, m, z, rfl, C1, hz.1, hz.2.1, fun r H2 h0 h1 C2 kp => q r H2 (hp r h0 (by omega)) C2 (s1.trans kp)⟩⟩
theorem ai_len {a : TE} (h : ∀ (m : Nat) (H : Hp) (Q : VK), Cup H c l zz (m + k) → F (cut c l zz H) → (∀ a xs H', Cup H' c l zz m → SC c l H H' → (SqL K (cut c l zz H') a xs ∨ SqT K (cut c l zz H') a xs) → p (xs.length : Int) → Q (.ref a) H') → a σ H Q) :
    Ai c l zz F σ p k (tCB (fun xs H Q => ∃ p ys, xs = [.ref p] ∧ (SqL K H p ys ∨ SqT K H p ys) ∧ Q (.int ys.length) H) (tCons a tNil)) := fun m H Q C f q =>
  h m H _ C f fun a xs H1 C1 s1 hs hp => ⟨a, xs, rfl, hs.elim (fun z => .inl (sq_ext (same_ext cut_ext) z)) (fun z => .inr (sq_cut z)), q _ H1 hp C1 s1⟩
theorem an_ix {a b : TE} {ka kb j : Nat} (S : Stb F) (ha : Al K c l zz F σ n ka j a) (hb : Ai c l zz F σ (fun z => 0 ≤ z ∧ z < j) kb b) : An K c l zz F σ n (ka + kb) (tOp (rIxL K) a b) := fun m H Q C f q =>
  ha (m + kb) H _ (C.le (by omega)) f fun p vs ds H1 C1 s1 hv hds oks hl => hb m H1 _ C1 (S f (SC.cut s1)) fun z H2 hz C2 s2 => by
    have hi : z.toNat < vs.length := by omega
    have e : vs[z.toNat]? = some vs[z.toNat] := List.getElem?_eq_getElem hi
    obtain ⟨d, hd, hdp⟩ := dps_get' hds e
    have e2 : atI vs z = some vs[z.toNat] := by
      have := atI_nat e
      rwa [show ((z.toNat : Nat) : Int) = z by omega] at this
    exact ⟨p, vs, z, _, rfl, rfl, SqL.of (cut_ext _ _ (SC.cut s2 _ _ hv)), e2, q _ d H2 C2 (s1.trans s2) (dp_ext (same_ext (SC.cut s2)) d hdp) (oks d (List.mem_of_getElem? hd))⟩
theorem ai_ix {a b : TE} {ka kb j : Nat} (S : Stb F) (ha : Am c l zz F σ p ka j a) (hb : Ai c l zz F σ (fun z => 0 ≤ z ∧ z < j) kb b) : Ai c l zz F σ p (ka + kb) (tOp (rIxL K) a b) := fun m H Q C f q =>
  ha (m + kb) H _ (C.le (by omega)) f fun a ns H1 C1 s1 hv hns hl => hb m H1 _ C1 (S f (SC.cut s1)) fun z H2 hz C2 s2 => by
    have hi : z.toNat < ns.length := by omega
    have e : (ns.map V.int)[z.toNat]? = some (.int ns[z.toNat]) := by rw [List.getElem?_map, List.getElem?_eq_getElem hi]; rfl
    have e2 : atI (ns.map V.int) z = some (.int ns[z.toNat]) := by
      have := atI_nat e
      rwa [show ((z.toNat : Nat) : Int) = z by omega] at this
    exact ⟨a, _, z, _, rfl, rfl, SqL.of (cut_ext _ _ (SC.cut s2 _ _ hv)), e2, q _ H2 (hns _ (List.getElem_mem hi)) C2 (s1.trans s2)⟩
end
end K34


set_option Elab.async false
set_option linter.all false
set_option maxRecDepth 100000
set_option maxHeartbeats 8000000
namespace K34
open PySem PySem.Spec PyProof.Rows L2
def Lf (d : PyData) : Prop := (∃ i : Int, d = .int i ∧ i.natAbs.log2 < 1920) ∨ ∃ s : Str, d = .str s ∧ PyData.strOk s = true
def Td : Nat → PyData → Prop
  | 0, d => Lf d
  | n + 1, d => Lf d ∨ ∃ ds, d = .tuple ds ∧ ds.length ≤ 40 ∧ ∀ e ∈ ds, Td n e
theorem lf_ok {d : PyData} (h : Lf d) (n : Nat) : OkN (n + 1) d := by
  rcases h with ⟨i, rfl, _⟩ | ⟨s, rfl, hs⟩
  · exact ok_int _ _
  · exact ⟨by unfold PyData.canLay0; exact hs, by unfold PyData.depth; omega⟩
theorem td_ok : ∀ {n : Nat} {d : PyData}, Td n d → OkN (n + 1) d
  | 0, _, h => lf_ok h 0
  | n + 1, _, h => by
    rcases h with h | ⟨ds, rfl, _, h⟩
    · exact lf_ok h _
    · exact ok_tup.mpr fun e he => td_ok (h e he)
theorem call_strD {X : Cx} : CallR X (.type "str") (fun xs H Q => (∃ i : Int, xs = [.int i] ∧ i.natAbs.log2 < 1920 ∧ Q (.str (Str.ofString (toString i))) H) ∨ ∃ a, xs = [.str a] ∧ Q (.str a) H) := by
  intro pins s σ H xs us Q I r h
  rcases h with h | h
  · exact call_str_int pins s σ H xs us Q I r h
  · exact SkE.call_str_str pins s σ H xs us Q I r h
theorem eqv_nilT (ds : List PyData) : PyData.eqv (.tuple ds) (.tuple []) = ds.isEmpty := by
  cases ds <;> simp [PyData.eqv, PyData.eqvAll]
theorem lg {z : Int} (h0 : 0 ≤ z) (h : z ≤ 1000000000000000000000) : z.natAbs.log2 < 9000 := Nat.lt_of_lt_of_le (PySem.Flt.log2_lt_of (k := 100) (by decide) (by omega)) (by decide)
theorem seq_asg {te : TE} {g : TG} {r : TS} {D : Ends} {σ : L2.St} {H : Hp} (h : te σ H fun x H1 => g x σ H1 fun σ' H' => r D σ' H') : tSeq (tAsg te g) r D σ H := h
theorem seq_set {te : TE} {i : Nat} {r : TS} {D : Ends} {σ : L2.St} {H : Hp} (h : te σ H fun x H1 => r D (σ.set i (some x)) H1) : tSeq (tAsg te (gName i)) r D σ H := h
theorem next_of {D : Ends} {σ : L2.St} {H : Hp} (h : D.nx σ H) : tNext D σ H := h
theorem name_of {i : Nat} {v : V} {D : Ends} {σ : L2.St} {H : Hp} (h : D.nx (σ.set i (some v)) H) : gName i v σ H D.nx := h
theorem ret_of {te : TE} {D : Ends} {σ : L2.St} {H : Hp} (h : te σ H D.rt) : tRet te D σ H := h
section
variable {P : Program} {w : World} {K : PySem.W.Frag} {mg : Str → Option Value} {base : Heap}
def spBent (K : PySem.W.Frag) (n : Nat) : Sp := fun vs H Q _ => ∃ (c l zz : Addr) (m : Nat) (v : V) (d : PyData), vs = [.ref c, v] ∧ Cup H c l zz (m + 4 * (n + 1)) ∧ Dp K (cut c l zz H) v d ∧ Td n d ∧
  ∀ v' d' H', Cup H' c l zz m → SC c l H H' → Dp K (cut c l zz H') v' d' → OkN (n + 5) d' → Q v' H'
def spB (K : PySem.W.Frag) : Nat → Sp
  | 0 => fun _ _ _ _ => False
  | n + 1 => spBent K n
theorem sc__law_bent : FnScope ["cup", "thing", "k", "j", "some"] ["cup", "thing"] (C8.fnScope (topS 15)) := C8.fnScope_by (by decide +kernel)
theorem ok__law_bent {f : Addr} {fd : FuncData} (F : C8.Def K mg "_law_bent" (topS 15) f fd) (b : Binds K fd ["cup", "thing"] []) (B : Bl mg) {n : Nat} (c__law_sip : C8.Cal P w K mg base 1 "_law_sip" spSip []) (c__law_bent : C8.Cal P w K mg base (n + 2) "_law_bent" (spB K n) []) (hn : n ≤ 30) : C8.Cal P w K mg base (n + 3) "_law_bent" (spB K (n + 1)) [] := by
  refine C8.cal0 F b .nil sc__law_bent ?len ?body
  case len => rintro vs H Q E ⟨c, l, zz, m, v, d, rfl, _⟩; rfl
  case body =>
    rintro cdv A outer s H vs Q E hr ⟨c, l, zz, m, v, d, rfl, C, hd, td, q⟩
    refine ⟨_, (C8.pss_cut (ps_if (PW.pt (pw_and (pt_val (pe_isD (c := "tuple") B (pv 1) rfl rfl B.tuple (by decide +kernel) (by decide))) (pw_and (pt_cmpR (op_neD (hr.units)) (pv 1) (pe_tup pa_nil) (nomark _)) (pw_and1 (pt_cmpR op_gt (C8.pe_c c__law_sip hr (by omega) rfl (pa_cons (pv 0) (pa_cons pe_int pa_nil))) pe_int (nomark _)))))) (pss_cons (ps_set (i := 2) sc__law_bent.nd rfl (Or.inl rfl) (C8.pe_c c__law_sip hr (by omega) rfl (pa_cons (pv 0) (pa_cons (pe_callB call_len_seq rfl B.len PySem.boot_len (pa_cons (pv 1) pa_nil)) pa_nil))))
    (pss_one (ps_ret (pe_op op_catA (pe_op op_catA (pe_slice sl_tupA (pv 1) po_none (po_some (pv 2))) (pe_tup (pa_cons (C8.pe_c c__law_bent hr (by omega) rfl (pa_cons (pv 0) (pa_cons (pe_ix ix_tup (pv 1) (pv 2) (fun _ _ => rfl)) pa_nil))) pa_nil))) (pe_slice sl_tupA (pv 1) (po_some (pe_op op_add (pv 2) pe_int)) po_none))))) pss_nil)
    (pss_cons (ps_if (pt_val (pe_isD (c := "tuple") B (pv 1) rfl rfl B.tuple (by decide +kernel) (by decide))) (pss_cons (ps_par (i := 2) (j := 3) rfl sc__law_bent.nd rfl rfl (by decide) rfl rfl (pa_cons (C8.pe_c c__law_sip hr (by omega) rfl (pa_cons (pv 0) (pa_cons (pe_op op_add (pe_callB call_len_seq rfl B.len PySem.boot_len (pa_cons (pv 1) pa_nil)) pe_int) pa_nil))) (pa_cons (C8.pe_c c__law_sip hr (by omega) rfl (pa_cons (pv 0) (pa_cons (pe_op op_add (pe_callB call_len_seq rfl B.len PySem.boot_len (pa_cons (pv 1) pa_nil)) pe_int) pa_nil))) pa_nil)) (by with_unfolding_all rfl))
    (pss_cons (ps_set (i := 4) sc__law_bent.nd rfl (Or.inl rfl) (pe_lst (pa_cons (pe_op op_catA (pe_slice sl_tupA (pv 1) po_none (po_some (pv 2))) (pe_slice sl_tupA (pv 1) (po_some (pe_op op_add (pv 2) pe_int)) po_none)) (pa_cons (pe_op op_catA (pe_op op_catA (pe_slice sl_tupA (pv 1) po_none (po_some (pv 2))) (pe_slice sl_tupA (pv 1) (po_some (pv 2)) (po_some (pe_op op_add (pv 2) pe_int)))) (pe_slice sl_tupA (pv 1) (po_some (pv 2)) po_none)) (pa_cons (UG.pe_revT (pv 1)) (pa_cons (pe_callTy call_list_of rfl B.list (by decide +kernel) (pa_cons (pv 1) pa_nil)) (pa_cons (pe_op op_catA (pv 1) (pe_tup (pa_cons pe_int pa_nil))) pa_nil)))))))
    (pss_cons (ps_set (i := 4) sc__law_bent.nd rfl (Or.inl rfl) (pe_op op_cat (pv 4) (pe_lst (pa_cons (pe_tup (pa_cons (pv 1) pa_nil)) (pa_cons (pe_op op_catA (pe_op op_catA (pe_slice sl_tupA (pv 1) po_none (po_some (pv 2))) (pe_slice sl_tupA (pv 1) (po_some (pv 3)) (po_some (pe_op op_add (pv 3) pe_int)))) (pe_slice sl_tupA (pv 1) (po_some (pe_op op_add (pv 2) pe_int)) po_none)) (pa_cons pe_non (pa_cons (pe_tup pa_nil) (pa_cons (pe_lst pa_nil) (pa_cons pe_str (pa_cons (pe_op op_catA (pv 1) (pe_tup (pa_cons (pe_tup (pa_cons pe_str pa_nil)) pa_nil))) (pa_cons (pe_op op_catA (pv 1) (pe_tup (pa_cons (pe_tup pa_nil) pa_nil))) pa_nil)))))))))))
    (pss_one (ps_ret (pe_ix ix_list (pv 4) (C8.pe_c c__law_sip hr (by omega) rfl (pa_cons (pv 0) (pa_cons pe_int pa_nil))) (fun _ _ => rfl))))))) pss_nil)
    (pss_cons (ps_set (i := 4) sc__law_bent.nd rfl (Or.inl rfl) (pe_lst (pa_cons pe_non (pa_cons pe_bl (pa_cons pe_bl (pa_cons (pe_callTy call_strD rfl B.str (by decide +kernel) (pa_cons (pv 1) pa_nil)) (pa_cons (pe_tup (pa_cons (pv 1) pa_nil)) (pa_cons (pe_lst (pa_cons (pv 1) pa_nil)) (pa_cons pe_str (pa_cons pe_str (pa_cons pe_str (pa_cons pe_str (pa_cons pe_str (pa_cons pe_int (pa_cons pe_int (pa_cons pe_int (pa_cons pe_int (pa_cons pe_int (pa_cons (pe_un un_neg pe_int) (pa_cons (pe_un un_neg pe_int) (pa_cons (pe_op op_pow pe_int pe_int) pa_nil)))))))))))))))))))))
    (pss_cons (ps_if (pt_val (pe_isD (c := "int") B (pv 1) rfl rfl B.int (by decide +kernel) (by decide))) (pss_one (ps_set (i := 4) sc__law_bent.nd rfl (Or.inl rfl) (pe_op op_cat (pv 4) (pe_lst (pa_cons (pe_op op_add (pv 1) pe_int) (pa_cons (pe_op op_sub (pv 1) pe_int) (pa_cons (pe_un un_neg (pv 1)) (pa_cons (pe_op op_mul (pv 1) pe_int) (pa_cons (pe_op op_add (pv 1) pe_int) (pa_cons (pe_op op_sub (pv 1) pe_int) (pa_cons (pe_op op_sub (pe_un un_neg (pv 1)) pe_int) pa_nil))))))))))) pss_nil)
    (pss_one (ps_ret (pe_ix ix_list (pv 4) (C8.pe_c c__law_sip hr (by omega) rfl (pa_cons (pv 0) (pa_cons (pe_callB call_len_seq rfl B.len PySem.boot_len (pa_cons (pv 4) pa_nil)) pa_nil))) (fun _ _ => rfl)))))))), ?_⟩
    have hd' := dp_cut hd
    cases htup : isiD "tuple" d with
    | true =>
      obtain ⟨ds, rfl⟩ := tup_of htup
      obtain ⟨n', rfl⟩ : ∃ n', n = n' + 1 := by
        cases n with
        | zero => rcases td with ⟨i, e, _⟩ | ⟨s, e, _⟩ <;> cases e
        | succ k => exact ⟨k, rfl⟩
      have td2 : ds.length ≤ 40 ∧ ∀ e ∈ ds, Td n' e := by
        rcases td with (⟨i, e, _⟩ | ⟨s, e, _⟩) | ⟨es, e, h1, h2⟩
        · cases e
        · cases e
        · cases e; exact ⟨h1, h2⟩
      cases hd with
      | @tup a xs _ hs ha =>
        have hl := dps_len ha
        have stF : Stb (fun h => SqT K h a xs ∧ DpAll K h xs ds) := fun h s => ⟨sqt_ext (same_ext s) h.1, dps_ext (same_ext s) _ h.2⟩
        have okE : ∀ d ∈ ds, OkN (n' + 5) d := fun d hd => (td_ok (td2.2 d hd)).mono (by omega)
        refine ⟨fun σ' H' => σ' = [some (.ref c), some (.ref a), none, none, none] ∧ Cup H' c l zz (m + 3) ∧ SC c l H H', ?_, ?_⟩
        · -- the first if
          refine ⟨_, rfl, _, _, rfl, hd', _, rfl, ?_⟩
          rw [htup]
          refine iteT ⟨_, rfl, (by show 0 ≤ sizeLine; decide), fun p hp => ?_⟩
          have s1 : Same H (upd H p (.tup [])) := same_new hp _
          have C1 := C.same s1
          refine ⟨.tuple ds, .tuple [], dp_ext (same_ext s1) _ hd', .tup (SqT.of upd_same) .nil, OkN.shaped (n := n' + 2) (td_ok td) (by omega), by decide +kernel, _, rfl, ?_⟩
          rw [eqv_nilT]
          have f1 : SqT K (cut c l zz (upd H p (.tup []))) a xs ∧ DpAll K (cut c l zz (upd H p (.tup []))) xs ds := stF ⟨hs, ha⟩ (same_cut s1)
          have s1' : SC c l H (upd H p (.tup [])) := SC.same s1
          generalize upd H p (.tup []) = H1 at C1 f1 s1'
          cases hds : ds with
          | nil => exact iteF (iteF ⟨rfl, C1.le (by omega), s1'⟩)
          | cons d0 dr =>
            refine iteT ⟨_, rfl, c, l, zz, m + 4 * n' + 7, 5, rfl, C1.le (by omega), by decide, by decide, fun r H2 r0 r1 C2 kp2 => ?_⟩
            refine ⟨_, _, rfl, rfl, _, rfl, ?_⟩
            by_cases g : (0 : Int) < r
            · rw [decide_eq_true g]
              have f2 := stF f1 kp2.cut
              have s2 := SC.trans s1' kp2
              have hne : 0 < xs.length := by rw [hl, hds, List.length_cons]; omega
              refine iteT ⟨_, rfl, _, rfl, a, xs, rfl, .inr (sq_cut f2.1), c, l, zz, m + 4 * n' + 6, _, rfl, C2.le (by omega), by omega, lg (by omega) (by omega), fun k H3 k0 k1 C3 kp3 => ?_⟩
              have f3 := stF f2 kp3.cut
              have s3 := SC.trans s2 kp3
              have hi : k.toNat < xs.length := by omega
              have ex : xs[k.toNat]? = some xs[k.toNat] := List.getElem?_eq_getElem hi
              have hat : atI xs k = some xs[k.toNat] := by
                have := atI_nat ex
                rwa [show ((k.toNat : Nat) : Int) = k by omega] at this
              have thK : ∀ {σ : L2.St}, σ[1]? = some (some (.ref a)) → Ap K c l zz (fun h => SqT K h a xs ∧ DpAll K h xs ds) σ (n' + 5) 0 40 (tVar 1) := fun e => ap_var e (fun _ h => h) okE td2.1
              refine ap_cat (K := K) (n := n' + 5) (L := 200) stF (ap_cat (L := 100) stF (ap_sl stF (thK rfl) ao_none (ao_some (ai_var (p := fun _ => True) (z := k) rfl trivial))) (ap_tup (j := 1) (L := 1) (aa_cons (ka := 4 * (n' + 1)) stF ?bent aa_nil) (by omega) (by omega)) (by omega) (by omega))
                (ap_sl stF (thK rfl) (ao_some (ai_op (p := fun _ => True) (k := 0) stF (ai_var (p := fun _ => True) (z := k) rfl trivial) (ai_c (p := fun _ => True) trivial) (by omega) (fun _ _ _ _ => trivial))) ao_none) (by omega) (by omega) m H3 _ (C3.le (by omega)) f3 ?fin
              case fin =>
                intro a' xs' es' H4 C4 s4 h4 h4' ok4 _
                exact q _ (.tuple es') H4 C4 (s3.trans s4) (.tup h4 h4') (ok_tup.mpr ok4)
              case bent =>
                intro m4 H4 Q4 C4 f4 q4
                obtain ⟨dx, hdx, hdp⟩ := dps_get' f4.2 ex
                exact ⟨_, rfl, _, rfl, _, rfl, _, _, _, _, rfl, rfl, sq_cut f4.1, hat, c, l, zz, m4, _, dx, rfl, C4, hdp, td2.2 dx (List.mem_of_getElem? hdx), fun v' d' H' C' s' h' ok' => q4 v' d' H' C' s' h' (ok'.mono (by omega))⟩
            · rw [decide_eq_false g]
              refine iteF ⟨rfl, C2.le (by omega), SC.trans s1' kp2⟩
        · rintro σ' H1 ⟨rfl, C1, s1⟩
          have f1 := stF ⟨hs, ha⟩ (SC.cut s1)
          refine ⟨_, rfl, _, _, rfl, .tup (sq_cut f1.1) (dps_ext (same_ext cut_ext) _ f1.2), _, rfl, ?_⟩
          rw [htup]
          refine iteT ?_
          refine ⟨_, rfl, _, rfl, a, xs, rfl, .inr (sq_cut f1.1), _, _, rfl, rfl, c, l, zz, m + 2, _, rfl, C1, by omega, lg (by omega) (by omega), fun k H2 k0 k1 C2 kp2 => ?_⟩
          have f2 := stF f1 kp2.cut
          refine ⟨_, rfl, _, rfl, a, xs, rfl, .inr (sq_cut f2.1), _, _, rfl, rfl, c, l, zz, m + 1, _, rfl, C2, by omega, lg (by omega) (by omega), fun j H3 j0 j1 C3 kp3 => ?_⟩
          have f3 := stF f2 kp3.cut
          have s3 := SC.trans s1 (SC.trans kp2 kp3)
          refine ⟨_, _, rfl, ?_⟩
          have T : ∀ {F : Hp → Prop} {σ : L2.St}, (∀ h, F h → SqT K h a xs ∧ DpAll K h xs ds) → σ[1]? = some (some (.ref a)) → Ap K c l zz F σ (n' + 5) 0 40 (tVar 1) := fun sub e => ap_var e sub okE td2.1
          have T2 : ∀ {F : Hp → Prop} {σ : L2.St}, (∀ h, F h → SqT K h a xs ∧ DpAll K h xs ds) → σ[1]? = some (some (.ref a)) → An K c l zz F σ (n' + 5) 0 (tVar 1) := fun sub e => an_var e (fun _ h => Dp.tup (sub _ h).1 (sub _ h).2) ((td_ok td).mono (by omega))
          have Kv : ∀ {F : Hp → Prop} {σ : L2.St}, σ[2]? = some (some (.int k)) → Ai c l zz F σ (fun _ => True) 0 (tVar 2) := fun e => ai_var e trivial
          have K1 : ∀ {F : Hp → Prop} {σ : L2.St}, Stb F → σ[2]? = some (some (.int k)) → Ai c l zz F σ (fun _ => True) 0 (tOp (rI0 fun i j => V.int (i + j)) (tVar 2) (tC (.int 1))) := fun S e => ai_op (k := 0) S (Kv e) (ai_c (p := fun _ => True) trivial) (by omega) (fun _ _ _ _ => trivial)
          have Jv : ∀ {F : Hp → Prop} {σ : L2.St}, σ[3]? = some (some (.int j)) → Ai c l zz F σ (fun _ => True) 0 (tVar 3) := fun e => ai_var e trivial
          have J1 : ∀ {F : Hp → Prop} {σ : L2.St}, Stb F → σ[3]? = some (some (.int j)) → Ai c l zz F σ (fun _ => True) 0 (tOp (rI0 fun i j => V.int (i + j)) (tVar 3) (tC (.int 1))) := fun S e => ai_op (k := 0) S (Jv e) (ai_c (p := fun _ => True) trivial) (by omega) (fun _ _ _ _ => trivial)
          have A : ∀ {F : Hp → Prop} {σ : L2.St}, Stb F → (∀ h, F h → SqT K h a xs ∧ DpAll K h xs ds) → σ[1]? = some (some (.ref a)) → σ[2]? = some (some (.int k)) → Ap K c l zz F σ (n' + 5) 0 40 (tSl (rSlA K) (tVar 1) tNoPart (tPart (tVar 2))) := fun S sub e e2 => ap_sl S (T sub e) ao_none (ao_some (Kv e2))
          have Z : ∀ {F : Hp → Prop} {σ : L2.St}, Stb F → (∀ h, F h → SqT K h a xs ∧ DpAll K h xs ds) → σ[1]? = some (some (.ref a)) → σ[2]? = some (some (.int k)) → Ap K c l zz F σ (n' + 5) 0 40 (tSl (rSlA K) (tVar 1) (tPart (tOp (rI0 fun i j => V.int (i + j)) (tVar 2) (tC (.int 1)))) tNoPart) := fun S sub e e2 => ap_sl S (T sub e) (ao_some (K1 S e2)) ao_none
          dsimp only
          refine seq_set ?_
          refine al_lst (K := K) (F := fun h => SqT K h a xs ∧ DpAll K h xs ds) (n := n' + 6) (j := 5) (k := 0) ?d1 (by omega) (m + 1) H3 _ C3 f3 ?k1
          case d1 =>
            refine aa_cons (ka := 0) (kr := 0) stF (an_P (ap_cat (ka := 0) (kb := 0) stF (A stF (fun _ h => h) rfl rfl) (Z stF (fun _ h => h) rfl rfl) (by omega) (Nat.le_refl _))) ?_
            refine aa_cons (ka := 0) (kr := 0) stF (an_P (ap_cat (ka := 0) (kb := 0) stF (ap_cat (ka := 0) (kb := 0) stF (A stF (fun _ h => h) rfl rfl) (ap_sl stF (T (fun _ h => h) rfl) (ao_some (Kv rfl)) (ao_some (K1 stF rfl))) (by omega) (Nat.le_refl _)) (ap_sl stF (T (fun _ h => h) rfl) (ao_some (Kv rfl)) ao_none) (by omega) (Nat.le_refl _))) ?_
            refine aa_cons (ka := 0) (kr := 0) stF (an_P (ap_rev (T (fun _ h => h) rfl))) ?_
            refine aa_cons (ka := 0) (kr := 0) stF (an_listof (T (fun _ h => h) rfl)) ?_
            exact aa_cons (ka := 0) (kr := 0) stF (an_P (ap_cat (ka := 0) (kb := 0) stF (T (fun _ h => h) rfl) (ap_tup (L := 1) (aa_cons (ka := 0) (kr := 0) stF (an_int (ai_c (p := fun _ => True) trivial)) aa_nil) (by omega) (by omega)) (by omega) (Nat.le_refl _))) aa_nil
          case k1 =>
            intro p1 vs1 es1 H4 C4 s4 hv4 hd4 ok4 hl4
            have stG : Stb (fun h => (SqT K h a xs ∧ DpAll K h xs ds) ∧ h p1 = some (.lst vs1) ∧ DpAll K h vs1 es1) := fun h s => ⟨stF h.1 s, s _ _ h.2.1, dps_ext (same_ext s) _ h.2.2⟩
            have f4 := stF f3 (SC.cut s4)
            skip
            refine seq_set ?_
            refine al_cat (K := K) (F := fun h => (SqT K h a xs ∧ DpAll K h xs ds) ∧ h p1 = some (.lst vs1) ∧ DpAll K h vs1 es1) (n := n' + 6) (i := 5) (j := 8) (ka := 0) (kb := 0) stG (al_var rfl (fun _ h => h.2) ok4 hl4) (al_lst (j := 8) (k := 0) ?d2 (by omega)) (by omega) (m + 1) H4 _ C4 ⟨f4, hv4, hd4⟩ ?k2
            case d2 =>
              refine aa_cons (ka := 0) (kr := 0) stG (an_P (ap_tup (L := 1) (aa_cons (ka := 0) (kr := 0) stG (T2 (fun _ h => h.1) rfl) aa_nil) (by omega) (by omega))) ?_
              refine aa_cons (ka := 0) (kr := 0) stG (an_P (ap_cat (ka := 0) (kb := 0) stG (ap_cat (ka := 0) (kb := 0) stG (A stG (fun _ h => h.1) rfl rfl) (ap_sl stG (T (fun _ h => h.1) rfl) (ao_some (Jv rfl)) (ao_some (J1 stG rfl))) (by omega) (Nat.le_refl _)) (Z stG (fun _ h => h.1) rfl rfl) (by omega) (Nat.le_refl _))) ?_
              refine aa_cons (ka := 0) (kr := 0) stG an_non ?_
              refine aa_cons (ka := 0) (kr := 0) stG (an_P (ap_tup (L := 0) aa_nil (by omega) (by omega))) ?_
              refine aa_cons (ka := 0) (kr := 0) stG (an_L (al_lst aa_nil (by omega))) ?_
              refine aa_cons (ka := 0) (kr := 0) stG (an_str _ (strOk_of _)) ?_
              refine aa_cons (ka := 0) (kr := 0) stG (an_P (ap_cat (ka := 0) (kb := 0) stG (T (fun _ h => h.1) rfl) (ap_tup (L := 1) (aa_cons (ka := 0) (kr := 0) stG (an_P (ap_tup (L := 1) (aa_cons (ka := 0) (kr := 0) stG (an_str _ (strOk_of _)) aa_nil) (by omega) (by omega))) aa_nil) (by omega) (by omega)) (by omega) (Nat.le_refl _))) ?_
              exact aa_cons (ka := 0) (kr := 0) stG (an_P (ap_cat (ka := 0) (kb := 0) stG (T (fun _ h => h.1) rfl) (ap_tup (L := 1) (aa_cons (ka := 0) (kr := 0) stG (an_P (ap_tup (L := 0) aa_nil (by omega) (by omega))) aa_nil) (by omega) (by omega)) (by omega) (Nat.le_refl _))) aa_nil
            case k2 =>
              intro p2 vs2 es2 H5 C5 s5 hv5 hd5 ok5 hl5
              skip
              refine ret_of ?_
              refine an_ix (K := K) (F := fun h => h p2 = some (.lst vs2) ∧ DpAll K h vs2 es2) (n := n' + 6) (j := 13) (ka := 0) (kb := 1) (fun h s => ⟨s _ _ h.1, dps_ext (same_ext s) _ h.2⟩) (al_var rfl (fun _ h => h) ok5 hl5)
                (ai_sip (hi := 13) (k := 0) (fun h s => ⟨s _ _ h.1, dps_ext (same_ext s) _ h.2⟩) rfl (ai_c ⟨by decide, by decide, by decide⟩) (fun r h0 h1 => ⟨h0, h1⟩)) m H5 _ C5 ⟨hv5, hd5⟩ fun v' d' H6 C6 s6 h6 ok6 => ?_
              exact q v' d' H6 C6 (SC.trans s3 (SC.trans s4 (SC.trans s5 s6))) h6 ok6
    | false =>
      have lf : Lf d := by
        cases n with
        | zero => exact td
        | succ k =>
          rcases td with h | ⟨ds, rfl, _⟩
          · exact h
          · cases htup
      have stT : Stb (fun _ => True) := fun _ _ => trivial
      refine ⟨fun σ' H' => σ' = [some (.ref c), some v, none, none, none] ∧ H' = H, ?_, ?_⟩
      · refine ⟨_, rfl, _, _, rfl, hd', _, rfl, ?_⟩
        rw [htup]
        exact iteF (iteF ⟨rfl, rfl⟩)
      · rintro σ' H1 ⟨rfl, rfl⟩
        refine ⟨_, rfl, _, _, rfl, hd', _, rfl, ?_⟩
        rw [htup]
        refine iteF ?_
        have dpv : ∀ h : Hp, Dp K h v d := fun h => by
          rcases lf with ⟨i, rfl, _⟩ | ⟨s, rfl, _⟩
          · cases hd'; exact .int _
          · cases hd'; exact .str _
        have eV : ∀ {σ : L2.St} {N : Nat}, σ[1]? = some (some v) → An K c l zz (fun _ => True) σ (N + 1) 0 (tVar 1) := fun e => an_var e (fun h _ => dpv h) (lf_ok lf _)
        have eStr : ∀ {σ : L2.St} {N : Nat}, σ[1]? = some (some v) → An K c l zz (fun _ => True) σ (N + 1) 0 (tCB (fun xs H Q => (∃ i : Int, xs = [.int i] ∧ i.natAbs.log2 < 1920 ∧ Q (.str (Str.ofString (toString i))) H) ∨ ∃ a, xs = [.str a] ∧ Q (.str a) H) (tCons (tVar 1) tNil)) := fun e m H Q C f q => by
          refine ⟨_, e, ?_⟩
          rcases lf with ⟨i, rfl, hi⟩ | ⟨s, rfl, hs⟩
          · cases hd'
            exact .inl ⟨i, rfl, hi, q _ (.str _) H C (SC.refl H) (.str _) ⟨by unfold PyData.canLay0; exact strOk_of _, by unfold PyData.depth; omega⟩⟩
          · cases hd'
            exact .inr ⟨s, rfl, q _ (.str _) H C (SC.refl H) (.str _) ⟨by unfold PyData.canLay0; exact hs, by unfold PyData.depth; omega⟩⟩
        refine next_of ?_
        dsimp only
        refine seq_set ?_
        refine al_lst (K := K) (F := fun _ => True) (n := n + 5) (j := 19) (k := 0) ?d1 (by omega) (m + 4 * (n + 1)) _ _ C trivial ?k1
        case d1 =>
          refine aa_cons (ka := 0) (kr := 0) stT (an_non) ?_
          refine aa_cons (ka := 0) (kr := 0) stT (an_bl _) ?_
          refine aa_cons (ka := 0) (kr := 0) stT (an_bl _) ?_
          refine aa_cons (ka := 0) (kr := 0) stT (eStr rfl) ?_
          refine aa_cons (ka := 0) (kr := 0) stT (an_P (ap_tup (L := 1) (aa_cons (ka := 0) (kr := 0) stT (eV rfl) aa_nil) (by omega) (by omega))) ?_
          refine aa_cons (ka := 0) (kr := 0) stT (an_L (al_lst (aa_cons (ka := 0) (kr := 0) stT (eV rfl) aa_nil) (by omega))) ?_
          refine aa_cons (ka := 0) (kr := 0) stT (an_str _ (strOk_of _)) ?_
          refine aa_cons (ka := 0) (kr := 0) stT (an_str _ (strOk_of _)) ?_
          refine aa_cons (ka := 0) (kr := 0) stT (an_str _ (strOk_of _)) ?_
          refine aa_cons (ka := 0) (kr := 0) stT (an_str _ (strOk_of _)) ?_
          refine aa_cons (ka := 0) (kr := 0) stT (an_str _ (strOk_of _)) ?_
          refine aa_cons (ka := 0) (kr := 0) stT (an_int (ai_c (p := fun _ => True) trivial)) ?_
          refine aa_cons (ka := 0) (kr := 0) stT (an_int (ai_c (p := fun _ => True) trivial)) ?_
          refine aa_cons (ka := 0) (kr := 0) stT (an_int (ai_c (p := fun _ => True) trivial)) ?_
          refine aa_cons (ka := 0) (kr := 0) stT (an_int (ai_c (p := fun _ => True) trivial)) ?_
          refine aa_cons (ka := 0) (kr := 0) stT (an_int (ai_c (p := fun _ => True) trivial)) ?_
          refine aa_cons (ka := 0) (kr := 0) stT (an_int (ai_neg (p := fun _ => True) (ai_c (p := fun _ => True) trivial) (fun _ _ => trivial))) ?_
          refine aa_cons (ka := 0) (kr := 0) stT (an_int (ai_neg (p := fun _ => True) (ai_c (p := fun _ => True) trivial) (fun _ _ => trivial))) ?_
          refine aa_cons (ka := 0) (kr := 0) stT (an_int (ai_opI (p := fun _ => True) (k := 0) stT (ai_c (p := fun z => z = 10) rfl) (ai_c (p := fun z => z = 30) rfl) (by omega) (fun x y hx hy => by subst hx; subst hy; exact ⟨by decide, by decide, by decide⟩) (fun _ _ _ _ => trivial))) ?_
          exact aa_nil
        case k1 =>
          intro p1 vs1 es1 H4 C4 s4 hv4 hd4 ok4 hl4
          skip
          have dpv4 : Dp K H4 v d := dpv _
          rcases lf with ⟨i, rfl, hi⟩ | ⟨s, rfl, hs⟩
          · cases hd'
            refine ⟨_, rfl, _, _, rfl, dpv4, _, rfl, ?_⟩
            refine iteT ?_
            have stG : Stb (fun h => h p1 = some (.lst vs1) ∧ DpAll K h vs1 es1) := fun h s => ⟨s _ _ h.1, dps_ext (same_ext s) _ h.2⟩
            refine al_cat (K := K) (F := fun h => h p1 = some (.lst vs1) ∧ DpAll K h vs1 es1) (n := n + 5) (i := 19) (j := 7) (ka := 0) (kb := 0) stG (al_var rfl (fun _ h => h) ok4 hl4) (al_lst (j := 7) (k := 0) ?d2 (by omega)) (by omega) (m + 4 * (n + 1)) H4 _ C4 ⟨hv4, hd4⟩ ?k2
            case d2 =>
              refine aa_cons (ka := 0) (kr := 0) stG (an_int (ai_op (p := fun _ => True) (k := 0) stG (ai_var (p := fun _ => True) (z := i) rfl trivial) (ai_c (p := fun _ => True) trivial) (by omega) (fun _ _ _ _ => trivial))) ?_
              refine aa_cons (ka := 0) (kr := 0) stG (an_int (ai_op (p := fun _ => True) (k := 0) stG (ai_var (p := fun _ => True) (z := i) rfl trivial) (ai_c (p := fun _ => True) trivial) (by omega) (fun _ _ _ _ => trivial))) ?_
              refine aa_cons (ka := 0) (kr := 0) stG (an_int (ai_neg (p := fun _ => True) (ai_var (p := fun _ => True) (z := i) rfl trivial) (fun _ _ => trivial))) ?_
              refine aa_cons (ka := 0) (kr := 0) stG (an_int (ai_opI (p := fun _ => True) (k := 0) stG (ai_var (p := fun _ => True) (z := i) rfl trivial) (ai_c (p := fun z => z = 2) rfl) (by omega) (fun x y _ hy => by subst hy; exact .inr ⟨by decide, by decide⟩) (fun _ _ _ _ => trivial))) ?_
              refine aa_cons (ka := 0) (kr := 0) stG (an_int (ai_op (p := fun _ => True) (k := 0) stG (ai_var (p := fun _ => True) (z := i) rfl trivial) (ai_c (p := fun _ => True) trivial) (by omega) (fun _ _ _ _ => trivial))) ?_
              refine aa_cons (ka := 0) (kr := 0) stG (an_int (ai_op (p := fun _ => True) (k := 0) stG (ai_var (p := fun _ => True) (z := i) rfl trivial) (ai_c (p := fun _ => True) trivial) (by omega) (fun _ _ _ _ => trivial))) ?_
              refine aa_cons (ka := 0) (kr := 0) stG (an_int (ai_op (p := fun _ => True) (k := 0) stG (ai_neg (p := fun _ => True) (ai_var (p := fun _ => True) (z := i) rfl trivial) (fun _ _ => trivial)) (ai_c (p := fun _ => True) trivial) (by omega) (fun _ _ _ _ => trivial))) ?_
              exact aa_nil
            case k2 =>
              intro p2 vs2 es2 H5 C5 s5 hv5 hd5 ok5 hl5
              refine name_of ?_
              dsimp only
              refine ret_of ?_
              refine an_ix (K := K) (F := fun h => h p2 = some (.lst vs2) ∧ DpAll K h vs2 es2) (n := n + 5) (j := 26) (ka := 0) (kb := 1) (fun h s => ⟨s _ _ h.1, dps_ext (same_ext s) _ h.2⟩) (al_var rfl (fun _ h => h) ok5 hl5)
                (ai_sip (hi := 26) (k := 0) (fun h s => ⟨s _ _ h.1, dps_ext (same_ext s) _ h.2⟩) rfl (ai_len fun m H Q C f q => ⟨_, rfl, q p2 vs2 H C (SC.refl _) (.inl (SqL.of f.1)) (by rw [hl5]; exact ⟨by decide, lg (by decide) (by decide), by decide⟩)⟩) (fun r h0 h1 => ⟨h0, h1⟩)) (m + 4 * n + 3) H5 _ (C5.le (by omega)) ⟨hv5, hd5⟩ fun v' d' H6 C6 s6 h6 ok6 => ?_
              exact q v' d' H6 (C6.le (by omega)) (SC.trans s4 (SC.trans s5 s6)) h6 ok6
          · cases hd'
            refine ⟨_, rfl, _, _, rfl, dpv4, _, rfl, ?_⟩
            refine iteF ?_
            refine next_of ?_
            dsimp only
            refine ret_of ?_
            refine an_ix (K := K) (F := fun h => h p1 = some (.lst vs1) ∧ DpAll K h vs1 es1) (n := n + 5) (j := 19) (ka := 0) (kb := 1) (fun h s => ⟨s _ _ h.1, dps_ext (same_ext s) _ h.2⟩) (al_var rfl (fun _ h => h) ok4 hl4)
              (ai_sip (hi := 19) (k := 0) (fun h s => ⟨s _ _ h.1, dps_ext (same_ext s) _ h.2⟩) rfl (ai_len fun m H Q C f q => ⟨_, rfl, q p1 vs1 H C (SC.refl _) (.inl (SqL.of f.1)) (by rw [hl4]; exact ⟨by decide, lg (by decide) (by decide), by decide⟩)⟩) (fun r h0 h1 => ⟨h0, h1⟩)) (m + 4 * n + 3) H4 _ (C4.le (by omega)) ⟨hv4, hd4⟩ fun v' d' H6 C6 s6 h6 ok6 => ?_
            exact q v' d' H6 (C6.le (by omega)) (SC.trans s4 s6) h6 ok6
end
end K34


set_option Elab.async false
set_option linter.all false
set_option maxRecDepth 100000
set_option maxHeartbeats 8000000
namespace K34
open PySem PySem.Spec PyProof.Rows L2
/-! ### flat tuples, that stay while lists change -/
inductive Lv : V → PyData → Prop
  | int (i : Int) (h : i.natAbs.log2 < 1920) : Lv (.int i) (.int i)
  | str (s : Str) (h : PyData.strOk s = true) : Lv (.str s) (.str s)
inductive Lvs : List V → List PyData → Prop
  | nil : Lvs [] []
  | cons {v : V} {d : PyData} {vs : List V} {ds : List PyData} : Lv v d → Lvs vs ds → Lvs (v :: vs) (d :: ds)
theorem lvs_dp {K : PySem.W.Frag} {H : Hp} : ∀ {vs : List V} {ds : List PyData}, Lvs vs ds → DpAll K H vs ds ∧ ∀ d ∈ ds, Lf d
  | _, _, .nil => ⟨.nil, fun _ h => by cases h⟩
  | _, _, .cons h t => by
    have q := lvs_dp (K := K) (H := H) t
    cases h with
    | int i hi => exact ⟨.cons (.int i) q.1, fun d hd => by
        rcases List.mem_cons.mp hd with rfl | hd
        · exact .inl ⟨i, rfl, hi⟩
        · exact q.2 d hd⟩
    | str s hs => exact ⟨.cons (.str s) q.1, fun d hd => by
        rcases List.mem_cons.mp hd with rfl | hd
        · exact .inr ⟨s, rfl, hs⟩
        · exact q.2 d hd⟩
def FT (K : PySem.W.Frag) (H : Hp) (v : V) (d : PyData) : Prop := ∃ (p : Addr) (ys : List V) (ds : List PyData), v = .ref p ∧ d = .tuple ds ∧ SqT K H p ys ∧ Lvs ys ds ∧ ds.length ≤ 40
inductive FTs (K : PySem.W.Frag) (H : Hp) : List V → List PyData → Prop
  | nil : FTs K H [] []
  | cons {v : V} {d : PyData} {vs : List V} {ds : List PyData} : FT K H v d → FTs K H vs ds → FTs K H (v :: vs) (d :: ds)
/-- all but lists stay -/
def TK (H H' : Hp) : Prop := ∀ p o, H p = some o → (∀ xs, o ≠ .lst xs) → H' p = some o
theorem TK.same {H H' : Hp} (s : Same H H') : TK H H' := fun p o h _ => s p o h
theorem TK.trans {H H' H2 : Hp} (a : TK H H') (b : TK H' H2) : TK H H2 := fun p o h n => b p o (a p o h n) n
theorem TK.sc {c l zz : Addr} {H H' : Hp} {m : Nat} (C : Cup H c l zz m) (s : SC c l H H') : TK H H' := fun p o h n => by
  obtain ⟨⟨a, b, k, ns, h1, h2, _⟩, _⟩ := C
  have hc : p ≠ c := fun z => by rw [z, h1] at h; cases h; exact n _ rfl
  have hl : p ≠ l := fun z => by rw [z, h2] at h; cases h; exact n _ rfl
  exact s p o hc hl h
theorem TK.upd {H : Hp} {p : Addr} {xs : List V} {o : HO} (h : H p = some (.lst xs)) : TK H (upd H p o) := fun q o' e n => by
  have : q ≠ p := fun z => by rw [z, h] at e; cases e; exact n _ rfl
  rw [upd_ne this]
  exact e
theorem FT.tk {K : PySem.W.Frag} {H H' : Hp} {v : V} {d : PyData} (h : FT K H v d) (s : TK H H') : FT K H' v d := by
  obtain ⟨p, ys, ds, rfl, rfl, hs, h2⟩ := h
  refine ⟨p, ys, ds, rfl, rfl, ?_, h2⟩
  rcases hs with (h | ⟨o, h⟩) | h
  · exact .inl (.inl (s _ _ h fun xs z => by cases z))
  · exact .inl (.inr ⟨o, s _ _ h fun xs z => by cases z⟩)
  · exact .inr h
theorem FTs.tk {K : PySem.W.Frag} {H H' : Hp} : ∀ {vs : List V} {ds : List PyData}, FTs K H vs ds → TK H H' → FTs K H' vs ds
  | _, _, .nil, _ => .nil
  | _, _, .cons h t, s => .cons (h.tk s) (t.tk s)
theorem FTs.snoc {K : PySem.W.Frag} {H : Hp} : ∀ {vs : List V} {ds : List PyData} {v : V} {d : PyData}, FTs K H vs ds → FT K H v d → FTs K H (vs ++ [v]) (ds ++ [d])
  | _, _, _, _, .nil, h => .cons h .nil
  | _, _, _, _, .cons h t, h' => .cons h (t.snoc h')
theorem FT.dp {K : PySem.W.Frag} {H : Hp} {v : V} {d : PyData} (h : FT K H v d) : Dp K H v d ∧ Td 1 d := by
  obtain ⟨p, ys, ds, rfl, rfl, hs, h2, h3⟩ := h
  have q := lvs_dp (K := K) (H := H) h2
  exact ⟨.tup hs q.1, .inr ⟨ds, rfl, h3, q.2⟩⟩
theorem FTs.dp {K : PySem.W.Frag} {H : Hp} : ∀ {vs : List V} {ds : List PyData}, FTs K H vs ds → DpAll K H vs ds ∧ ∀ d ∈ ds, Td 1 d
  | _, _, .nil => ⟨.nil, fun _ h => by cases h⟩
  | _, _, .cons h t => ⟨.cons h.dp.1 t.dp.1, fun d hd => by
    rcases List.mem_cons.mp hd with rfl | hd
    · exact h.dp.2
    · exact t.dp.2 d hd⟩
theorem TK.cut {c l zz : Addr} {H : Hp} {m : Nat} (C : Cup H c l zz m) : TK H (K34.cut c l zz H) := fun p o h n => by
  obtain ⟨⟨a, b, k, ns, h1, h2, _⟩, es, h4⟩ := C
  have hc : p ≠ c := fun z => by rw [z, h1] at h; cases h; exact n _ rfl
  have hl : p ≠ l := fun z => by rw [z, h2] at h; cases h; exact n _ rfl
  have he : p ≠ zz := fun z => by rw [z, h4] at h; cases h; exact n _ rfl
  rw [cut_get ⟨hc, hl, he⟩]; exact h
theorem ft_new {K : PySem.W.Frag} {H : Hp} {p : Addr} {ys : List V} {ds : List PyData} (h : Lvs ys ds) (hl : ds.length ≤ 40) : FT K (upd H p (.tup ys)) (.ref p) (.tuple ds) := ⟨p, ys, ds, rfl, rfl, SqT.of upd_same, h, hl⟩
section
variable {K : PySem.W.Frag} {c l zz : Addr} {F : Hp → Prop} {σ : L2.St} {k : Nat} {p : Int → Prop}
theorem ai_max {a b : TE} {pa pb : Int → Prop} {ka kb : Nat} (S : Stb F) (ha : Ai c l zz F σ pa ka a) (hb : Ai c l zz F σ pb kb b) (hp : ∀ x y, pa x → pb y → p (if y > x then y else x)) :
    Ai c l zz F σ p (ka + kb) (tCB (fun xs H Q => ∃ i j, xs = [.int i, .int j] ∧ Q (.int (if j > i then j else i)) H) (tCons a (tCons b tNil))) := fun m H Q C f q =>
  ha (m + kb) H _ (C.le (by omega)) f fun x H1 px C1 s1 => hb m H1 _ C1 (S f (SC.cut s1)) fun y H2 py C2 s2 => ⟨x, y, rfl, q _ H2 (hp x y px py) C2 (s1.trans s2)⟩
end
/-- the heap while a text is made -/
structure TH (K : PySem.W.Frag) (c l zz R S : Addr) (H0 : Hp) (xs : List V) (ds : List PyData) (ns : List Int) (m : Nat) (H : Hp) : Prop where
  C : Cup H c l zz m
  sc : SC c l H0 H
  r : H R = some (.lst xs)
  s : H S = some (.lst (ns.map V.int))
  rs : R ≠ S
  rn : R ≠ c ∧ R ≠ l ∧ R ≠ zz
  sn : S ≠ c ∧ S ≠ l ∧ S ≠ zz
  r0 : H0 R = none
  s0 : H0 S = none
  ft : FTs K H xs ds
  nb : ∀ n ∈ ns, (0 : Int) ≤ n ∧ n ≤ 10000000000000000000000000000000000000000
  len : ns.length = xs.length
theorem TH.step {K : PySem.W.Frag} {c l zz R S : Addr} {H0 : Hp} {xs : List V} {ds : List PyData} {ns : List Int} {m m' : Nat} {H H' : Hp} (h : TH K c l zz R S H0 xs ds ns m H) (C : Cup H' c l zz m') (s : SC c l H H') : TH K c l zz R S H0 xs ds ns m' H' := by
  have g : ∀ {p : Addr} {o : HO}, p ≠ c ∧ p ≠ l ∧ p ≠ zz → H p = some o → H' p = some o := fun n e => s _ _ n.1 n.2.1 e
  exact ⟨C, h.sc.trans s, g h.rn h.r, g h.sn h.s, h.rs, h.rn, h.sn, h.r0, h.s0, h.ft.tk (TK.sc h.C s), h.nb, h.len⟩
theorem TH.same {K : PySem.W.Frag} {c l zz R S : Addr} {H0 : Hp} {xs : List V} {ds : List PyData} {ns : List Int} {m : Nat} {H H' : Hp} (h : TH K c l zz R S H0 xs ds ns m H) (s : Same H H') : TH K c l zz R S H0 xs ds ns m H' := h.step (h.C.same s) (SC.same s)
theorem TH.le {K : PySem.W.Frag} {c l zz R S : Addr} {H0 : Hp} {xs : List V} {ds : List PyData} {ns : List Int} {m m' : Nat} {H : Hp} (h : TH K c l zz R S H0 xs ds ns m H) (hm : m' ≤ m) : TH K c l zz R S H0 xs ds ns m' H := h.step (h.C.le hm) (SC.refl _)
theorem lg2 {z : Int} (h0 : -1000000000000000000000 ≤ z) (h : z ≤ 1000000000000000000000) : z.natAbs.log2 < 1920 := Nat.lt_of_lt_of_le (PySem.Flt.log2_lt_of (k := 100) (by decide) (by omega)) (by decide)
theorem pick_n {ns : List Int} {z : Int} (h : 0 ≤ z ∧ z < (ns.length : Int)) : ∃ s, atI (ns.map V.int) z = some (.int s) ∧ s ∈ ns := by
  have hi : z.toNat < ns.length := by omega
  have e : (ns.map V.int)[z.toNat]? = some (.int ns[z.toNat]) := by rw [List.getElem?_map, List.getElem?_eq_getElem hi]; rfl
  have := atI_nat e
  rw [show ((z.toNat : Nat) : Int) = z by omega] at this
  exact ⟨_, this, List.getElem_mem hi⟩
theorem par3_of {i j k : Nat} {ta : TA} {D : Ends} {σ : L2.St} {H : Hp} (h : ta σ H fun vs H1 => ∃ u v w, vs = [u, v, w] ∧ D.nx (((σ.set i (some u)).set j (some v)).set k (some w)) H1) : tPar3 i j k ta D σ H := h
theorem par_of {i j : Nat} {ta : TA} {D : Ends} {σ : L2.St} {H : Hp} (h : ta σ H fun vs H1 => ∃ v w, vs = [v, w] ∧ D.nx ((σ.set i (some v)).set j (some w)) H1) : tPar i j ta D σ H := h
theorem seq_of {t u : TS} {D : Ends} {σ : L2.St} {H : Hp} (h : t { D with nx := u D } σ H) : tSeq t u D σ H := h
theorem cons_of {te : TE} {tr : TA} {σ : L2.St} {H : Hp} {Q : List V → Hp → Prop} (h : te σ H fun x H1 => tr σ H1 fun xs H2 => Q (x :: xs) H2) : tCons te tr σ H Q := h
theorem nil_of {σ : L2.St} {H : Hp} {Q : List V → Hp → Prop} (h : Q [] H) : tNil σ H Q := h
theorem tup_of' {t : TA} {σ : L2.St} {H : Hp} {Q : VK} (h : t σ H fun xs H1 => xs.length ≤ sizeLine ∧ ∀ p, H1 p = none → Q (.ref p) (upd H1 p (.tup xs))) : tTup t σ H Q := h
theorem c_of {v : V} {σ : L2.St} {H : Hp} {Q : VK} (h : Q v H) : tC v σ H Q := h
theorem name_of' {i : Nat} {v : V} {σ : L2.St} {H : Hp} {Q : L2.St → Hp → Prop} (h : Q (σ.set i (some v)) H) : gName i v σ H Q := h
theorem TH.push {K : PySem.W.Frag} {c l zz R S : Addr} {H0 : Hp} {xs : List V} {ds : List PyData} {ns : List Int} {m : Nat} {H : Hp} {v : V} {d : PyData} {z : Int} (h : TH K c l zz R S H0 xs ds ns m H) (hv : FT K H v d) (z0 : 0 ≤ z) (z1 : z ≤ 10000000000000000000000000000000000000000) :
    TH K c l zz R S H0 (xs ++ [v]) (ds ++ [d]) (ns ++ [z]) m (upd (upd H R (.lst (xs ++ [v]))) S (.lst (ns.map V.int ++ [.int z]))) := by
  obtain ⟨⟨a, b, k, ms, h1, h2, h3⟩, es, h4⟩ := h.C
  have tk1 : TK H (upd H R (.lst (xs ++ [v]))) := TK.upd h.r
  have hs : upd H R (.lst (xs ++ [v])) S = some (.lst (ns.map V.int)) := by rw [upd_ne (Ne.symm h.rs)]; exact h.s
  have tk : TK H (upd (upd H R (.lst (xs ++ [v]))) S (.lst (ns.map V.int ++ [.int z]))) := tk1.trans (TK.upd hs)
  have g : ∀ {q : Addr}, q ≠ R → q ≠ S → upd (upd H R (.lst (xs ++ [v]))) S (.lst (ns.map V.int ++ [.int z])) q = H q := fun n1 n2 => by rw [upd_ne n2, upd_ne n1]
  refine ⟨⟨⟨a, b, k, ms, ?_, ?_, h3⟩, es, ?_⟩, ?_, ?_, ?_, h.rs, h.rn, h.sn, h.r0, h.s0, (h.ft.tk tk).snoc (hv.tk tk), ?_, ?_⟩
  · rw [g (Ne.symm h.rn.1) (Ne.symm h.sn.1)]; exact h1
  · rw [g (Ne.symm h.rn.2.1) (Ne.symm h.sn.2.1)]; exact h2
  · rw [g (Ne.symm h.rn.2.2) (Ne.symm h.sn.2.2)]; exact h4
  · intro q o nc nl e
    have e2 := h.sc q o nc nl e
    have nR : q ≠ R := fun z => by rw [z, h.r0] at e; cases e
    have nS : q ≠ S := fun z => by rw [z, h.s0] at e; cases e
    rw [g nR nS]; exact e2
  · rw [upd_ne h.rs]; exact upd_same
  · rw [List.map_append]; exact upd_same
  · intro y hy
    rcases List.mem_append.mp hy with hy | hy
    · exact h.nb y hy
    · cases List.mem_singleton.mp hy; exact ⟨z0, z1⟩
  · rw [List.length_append, List.length_append, h.len]; rfl
section
variable {P : Program} {w : World} {K : PySem.W.Frag} {mg : Str → Option Value} {base : Heap}
def spText (K : PySem.W.Frag) : Sp := fun vs H Q _ => ∃ (c l zz : Addr) (m : Nat) (cap : Int), vs = [.ref c, .int 40, .int cap] ∧ 1 ≤ cap ∧ cap ≤ 10000000000000000000000000000000000000000 ∧ Cup H c l zz (m + 362) ∧
  ∀ a xs ds H', Cup H' c l zz m → SC c l H H' → SqT K (cut c l zz H') a xs → DpAll K (cut c l zz H') xs ds → 1 ≤ ds.length → ds.length ≤ 40 → (∀ d ∈ ds, Td 1 d) → Q (.ref a) H'
theorem sc__law_text : FnScope ["cup", "many", "cap", "kinds", "rules", "sizes", "turn", "way", "rule", "size", "back", "i", "j", "k"] ["cup", "many", "cap"] (C8.fnScope (topS 16)) := C8.fnScope_by (by decide +kernel)
theorem ok__law_text {f : Addr} {fd : FuncData} (F : C8.Def K mg "_law_text" (topS 16) f fd) (b : Binds K fd ["cup", "many", "cap"] []) (B : Bl mg) (c__law_sip : C8.Cal P w K mg base 1 "_law_sip" spSip []) : C8.Cal P w K mg base 2 "_law_text" (spText K) [] := by
  refine C8.cal0 F b .nil sc__law_text ?len ?body
  case len => rintro vs H Q E ⟨c, l, zz, m, cap, rfl, _⟩; rfl
  case body =>
    rintro cdv A outer s H vs Q E hr ⟨c, l, zz, m, cap, rfl, cap1, cap2, C, q⟩
    refine ⟨_, (pss_cons (ps_par3 (i := 3) (j := 4) (l := 5) rfl sc__law_text.nd rfl rfl rfl (by decide) (by decide) (by decide) rfl rfl rfl (pa_cons (pe_ix ix_list (pe_lst (pa_cons pe_int (pa_cons pe_int (pa_cons pe_int (pa_cons pe_int pa_nil))))) (C8.pe_c c__law_sip hr (by decide) rfl (pa_cons (pv 0) (pa_cons pe_int pa_nil))) (fun _ _ => rfl)) (pa_cons (pe_lst pa_nil) (pa_cons (pe_lst pa_nil) pa_nil))) (by with_unfolding_all rfl))
    (pss_cons (ps_for PassesOwn.never rfl (pi_range1 rfl B.range (pa_cons (pe_op op_add pe_int (C8.pe_c c__law_sip hr (by decide) rfl (pa_cons (pv 0) (pa_cons (pv 1) pa_nil)))) pa_nil)) (pg_name (i := 6) sc__law_text.nd rfl (Or.inl rfl))
    (pss_cons (ps_par3 (i := 7) (j := 8) (l := 9) rfl sc__law_text.nd rfl rfl rfl (by decide) (by decide) (by decide) rfl rfl rfl (pa_cons (C8.pe_c c__law_sip hr (by decide) rfl (pa_cons (pv 0) (pa_cons pe_int pa_nil))) (pa_cons (pe_tup (pa_cons pe_str (pa_cons (pe_op op_mul (pe_op op_add pe_int (C8.pe_c c__law_sip hr (by decide) rfl (pa_cons (pv 0) (pa_cons (pv 3) pa_nil)))) (pe_ix ix_list (pe_lst (pa_cons pe_int (pa_cons (pe_un un_neg pe_int) pa_nil))) (C8.pe_c c__law_sip hr (by decide) rfl (pa_cons (pv 0) (pa_cons pe_int pa_nil))) (fun _ _ => rfl))) pa_nil))) (pa_cons pe_int pa_nil))) (by with_unfolding_all rfl))
    (C8.pss_cut (ps_if (pt_cmpR op_eq (pv 7) pe_int (nomark _)) (pss_one (ps_asg (pe_tup (pa_cons (pe_tup (pa_cons pe_str pa_nil)) (pa_cons pe_int pa_nil))) (pg_tup rfl (pgs_cons (pg_name (i := 8) sc__law_text.nd rfl (Or.inl rfl)) (pgs_cons (pg_name (i := 9) sc__law_text.nd rfl (Or.inl rfl)) pgs_nil))))) pss_nil)
    (C8.pss_cut (ps_if (PW.pt (pw_and (pt_cmpR op_gt (pv 7) pe_int (nomark _)) (pw_and1 (pt_cmpR (op_neD (hr.units)) (pv 4) (pe_lst pa_nil) (nomark _))))) (pss_cons (ps_set (i := 10) sc__law_text.nd rfl (Or.inl rfl) (pe_ix ix_list (pe_lst (pa_cons pe_int (pa_cons pe_int (pa_cons pe_int (pa_cons pe_int pa_nil))))) (C8.pe_c c__law_sip hr (by decide) rfl (pa_cons (pv 0) (pa_cons pe_int pa_nil))) (fun _ _ => rfl)))
    (pss_cons (ps_par (i := 11) (j := 12) rfl sc__law_text.nd rfl rfl (by decide) rfl rfl (pa_cons (pe_callB (call_max2 rfl) rfl B.max (by decide +kernel) (pa_cons pe_int (pa_cons (pe_op op_sub (pe_op op_sub (pe_callB call_len_seq rfl B.len PySem.boot_len (pa_cons (pv 4) pa_nil)) pe_int) (C8.pe_c c__law_sip hr (by decide) rfl (pa_cons (pv 0) (pa_cons (pv 10) pa_nil)))) pa_nil))) (pa_cons (pe_callB (call_max2 rfl) rfl B.max (by decide +kernel) (pa_cons pe_int (pa_cons (pe_op op_sub (pe_op op_sub (pe_callB call_len_seq rfl B.len PySem.boot_len (pa_cons (pv 4) pa_nil)) pe_int) (C8.pe_c c__law_sip hr (by decide) rfl (pa_cons (pv 0) (pa_cons (pv 10) pa_nil)))) pa_nil))) pa_nil)) (by with_unfolding_all rfl))
    (pss_cons (ps_set (i := 13) sc__law_text.nd rfl (Or.inl rfl) (pe_ix ix_list (pe_lst (pa_cons pe_int (pa_cons pe_int (pa_cons (pe_op op_add pe_int (C8.pe_c c__law_sip hr (by decide) rfl (pa_cons (pv 0) (pa_cons pe_int pa_nil)))) (pa_cons (pe_op op_add pe_int (C8.pe_c c__law_sip hr (by decide) rfl (pa_cons (pv 0) (pa_cons (pe_op op_pow pe_int pe_int) pa_nil)))) pa_nil))))) (C8.pe_c c__law_sip hr (by decide) rfl (pa_cons (pv 0) (pa_cons pe_int pa_nil))) (fun _ _ => rfl)))
    (C8.pss_cut (ps_if (PW.pt (pw_and (pt_cmpR op_lt (pv 7) pe_int (nomark _)) (pw_and1 (pt_cmpR op_le (pe_op op_add (pe_ix ix_list (pv 5) (pv 11) (fun _ _ => rfl)) (pe_ix ix_list (pv 5) (pv 12) (fun _ _ => rfl))) (pv 2) (nomark _))))) (pss_one (ps_par (i := 8) (j := 9) rfl sc__law_text.nd rfl rfl (by decide) rfl rfl (pa_cons (pe_tup (pa_cons pe_str (pa_cons (pv 11) (pa_cons (pv 12) pa_nil)))) (pa_cons (pe_op op_add (pe_ix ix_list (pv 5) (pv 11) (fun _ _ => rfl)) (pe_ix ix_list (pv 5) (pv 12) (fun _ _ => rfl))) pa_nil)) (by with_unfolding_all rfl))) pss_nil)
    (pss_one (ps_if (PW.pt (pw_and (pt_cmpR op_gt (pv 7) pe_int (nomark _)) (pw_and1 (pt_cmpR op_le (pe_op op_mulW (pe_ix ix_list (pv 5) (pv 11) (fun _ _ => rfl)) (pv 13)) (pv 2) (nomark _))))) (pss_one (ps_par (i := 8) (j := 9) rfl sc__law_text.nd rfl rfl (by decide) rfl rfl (pa_cons (pe_tup (pa_cons pe_str (pa_cons (pv 11) (pa_cons (pv 13) pa_nil)))) (pa_cons (pe_op op_mulW (pe_ix ix_list (pv 5) (pv 11) (fun _ _ => rfl)) (pv 13)) pa_nil)) (by with_unfolding_all rfl))) pss_nil)))))) pss_nil)
    (pss_cons (ps_expr (pe_bm PySem.F.plainAttrs_list PySem.F.slot_list_append PySem.F.type_list_append mt_append (pv 4) (pa_cons (pv 8) pa_nil)))
    (pss_one (ps_expr (pe_bm PySem.F.plainAttrs_list PySem.F.slot_list_append PySem.F.type_list_append mt_append (pv 5) (pa_cons (pv 9) pa_nil)))))))))
    (pss_one (ps_ret (pe_callTy call_tuple_of rfl B.tuple (by decide +kernel) (pa_cons (pv 4) pa_nil)))))), ?_⟩
    have stT : Stb (fun _ => True) := fun _ _ => trivial
    refine seq_of (par3_of (cons_of ?_))
    refine ai_ix (K := K) (F := fun _ => True) (c := c) (l := l) (p := fun z => 1 ≤ z ∧ z ≤ 20) (j := 4) (ka := 0) (kb := 1) stT (am_lst (j := 4) (k := 0) ?_ (by omega)) (ai_sip (hi := 4) (k := 0) stT rfl (ai_c ⟨by decide, by decide, by decide⟩) (fun r h0 h1 => ⟨h0, h1⟩)) (m + 361) H _ (C.le (by omega)) trivial fun kinds H1 hk C1 s1 => ?_
    · exact az_cons (ka := 0) (kr := 0) stT (ai_c ⟨by decide, by decide⟩) (az_cons (ka := 0) (kr := 0) stT (ai_c ⟨by decide, by decide⟩) (az_cons (ka := 0) (kr := 0) stT (ai_c ⟨by decide, by decide⟩) (az_cons (ka := 0) (kr := 0) stT (ai_c ⟨by decide, by decide⟩) az_nil)))
    refine ⟨(by show 0 ≤ sizeLine; decide), fun R hR => ⟨(by show 0 ≤ sizeLine; decide), fun S hS => ⟨_, _, _, rfl, ?_⟩⟩⟩
    have T0 : TH K c l zz R S H [] [] [] (m + 361) (upd (upd H1 R (.lst [])) S (.lst [])) := by
      have sR : Same H1 (upd H1 R (.lst [])) := same_new hR _
      have sS : Same (upd H1 R (.lst [])) (upd (upd H1 R (.lst [])) S (.lst [])) := same_new hS _
      have nRS : R ≠ S := fun z => by rw [← z, upd_same] at hS; cases hS
      have nr := C1.new hR
      have ns := (C1.same sR).new hS
      have back : ∀ {q : Addr}, q ≠ c ∧ q ≠ l ∧ q ≠ zz → H1 q = none → H q = none := fun n e => by
        cases e2 : H _ with
        | none => rfl
        | some o =>
          have := s1 _ o n.1 n.2.1 e2
          rw [e] at this
          cases this
      exact ⟨(C1.same sR).same sS, s1.trans ((SC.same sR).trans (SC.same sS)), by rw [upd_ne nRS]; exact upd_same, upd_same, nRS, nr, ns, back nr hR, back ns (by rw [upd_ne (Ne.symm nRS)] at hS; exact hS), .nil, (fun _ h => by cases h), rfl⟩
    generalize upd (upd H1 R (.lst [])) S (.lst []) = H3 at T0
    dsimp only
    refine ⟨_, rfl, _, rfl, c, l, zz, m + 360, 40, rfl, T0.C, by decide, by decide, fun r H4 r0 r1 C4 kp4 => ?_⟩
    refine ⟨_, _, rfl, rfl, _, rfl, by omega, by omega, ?_⟩
    have T4 := T0.step C4 kp4
    clear T0
    have hN : ∃ N : Nat, (1 + r).toNat = N ∧ 1 ≤ N ∧ N ≤ 40 := ⟨_, rfl, by omega, by omega⟩
    obtain ⟨N, eN, N1, N2⟩ := hN
    rw [eN]
    refine for_range (lo := 0) (n := N) (fun i σ H1 => (∃ s6 s7 s8 s9 s10 s11 s12 s13, σ = [some (.ref c), some (.int 40), some (.int cap), some (.int kinds), some (.ref R), some (.ref S), s6, s7, s8, s9, s10, s11, s12, s13]) ∧ ∃ xs ds ns, TH K c l zz R S H xs ds ns (m + 9 * (N - i)) H1 ∧ xs.length = i) ⟨⟨_, _, _, _, _, _, _, _, rfl⟩, [], [], [], T4.le (by omega), rfl⟩ ?_ ?_
    · rintro i σ H5 hi ⟨⟨s6, s7, s8, s9, s10, s11, s12, s13, rfl⟩, xs, ds, ns, T5, hxl⟩
      obtain ⟨b, eb, eb2⟩ : ∃ b, m + 9 * (N - i) = b + 9 ∧ m + 9 * (N - (i + 1)) = b := ⟨m + 9 * (N - (i + 1)), by omega, rfl⟩
      rw [eb] at T5
      rw [eb2]
      refine name_of' ?_
      refine seq_of (par3_of (cons_of ?_))
      refine ⟨_, rfl, c, l, zz, b + 8, 12, rfl, T5.C, by decide, by decide, fun way H6 w0 w1 C6 kp6 => ?_⟩
      have T6 := T5.step C6 kp6
      refine cons_of (tup_of' (cons_of (c_of (cons_of ?_))))
      refine ai_opI (F := fun _ => True) (c := c) (l := l) (p := fun z => -20 ≤ z ∧ z ≤ 20) (k := 2) (ka := 1) (kb := 1) (pa := fun z => 1 ≤ z ∧ z ≤ 20) (pb := fun z => z = 1 ∨ z = -1) stT
        (ai_op (ka := 0) (kb := 1) (pa := fun z => z = 1) (pb := fun z => 0 ≤ z ∧ z < 20) stT (ai_c rfl) (ai_sip (hi := 20) (k := 0) stT rfl (ai_var rfl ⟨hk.1, lg (by omega) (by omega), hk.2⟩) (fun r h0 h1 => ⟨h0, h1⟩)) (by omega) (fun x y hx hy => by omega))
        (ai_ix (K := K) (j := 2) (ka := 0) (kb := 1) stT (am_lst (j := 2) (k := 0) (az_cons (ka := 0) (kr := 0) stT (ai_c (.inl rfl)) (az_cons (ka := 0) (kr := 0) stT (ai_neg (pa := fun z => z = 1) (ai_c rfl) (fun x hx => .inr (by omega))) az_nil)) (by omega)) (ai_sip (hi := 2) (k := 0) stT rfl (ai_c ⟨by decide, by decide, by decide⟩) (fun r h0 h1 => ⟨h0, h1⟩)))
        (by omega) (fun x y hx hy => .inl ⟨by omega, by omega⟩) (fun x y hx hy => by rcases hy with rfl | rfl <;> omega) (b + 6) H6 _ (T6.C.le (by omega)) trivial fun z H7 hz C7 s7' => ?_
      have T7 := T6.step C7 s7'
      refine ⟨(by show 2 ≤ sizeLine; decide), fun p hp => ⟨_, _, _, rfl, ?_⟩⟩
      have sp : Same H7 (upd H7 p (.tup [.str "letter", .int z])) := same_new hp _
      have T8 := T7.same sp
      have F8 : FT K (upd H7 p (.tup [.str "letter", .int z])) (.ref p) (.tuple [.str "letter", .int z]) := ft_new (.cons (.str _ (strOk_of _)) (.cons (.int z (lg2 (by omega) (by omega))) .nil)) (by show 2 ≤ 40; decide)
      dsimp only at T8 F8 ⊢
      generalize upd H7 p (.tup [.str "letter", .int z]) = H8 at T8 F8
      refine ⟨fun σ' H' => (∃ rv sz s10 s11 s12 s13, σ' = [some (.ref c), some (.int 40), some (.int cap), some (.int kinds), some (.ref R), some (.ref S), some (.int (0 + (i : Int))), some (.int way), some rv, some (.int sz), s10, s11, s12, s13] ∧ (∃ rd, FT K H' rv rd) ∧ 0 ≤ sz ∧ sz ≤ 10000000000000000000000000000000000000000) ∧ TH K c l zz R S H xs ds ns (b + 6) H', ?_, ?_⟩
      · -- if way == 0
        refine ⟨_, rfl, rfl, _, rfl, ?_⟩
        rw [dec_int]
        by_cases g : way = 0
        · rw [decide_eq_true g]
          refine iteT ⟨(by show 1 ≤ sizeLine; decide), fun p1 hp1 => ⟨(by show 2 ≤ sizeLine; decide), fun p2 hp2 => ⟨p2, _, rfl, SqT.of upd_same, rfl, _, _, rfl, _, _, rfl, rfl, ?_⟩⟩⟩
          have sA : Same H8 (upd H8 p1 (.tup [.str "none"])) := same_new hp1 _
          have sB : Same (upd H8 p1 (.tup [.str "none"])) (upd (upd H8 p1 (.tup [.str "none"])) p2 (.tup [.ref p1, .int 0])) := same_new hp2 _
          refine ⟨⟨_, _, _, _, _, _, rfl, ⟨_, (ft_new (.cons (.str _ (strOk_of _)) .nil) (by show 1 ≤ 40; decide)).tk (TK.same sB)⟩, by decide, by decide⟩, ((T8.same sA).same sB)⟩
        · rw [decide_eq_false g]
          exact iteF ⟨⟨_, _, _, _, _, _, rfl, ⟨_, F8⟩, by decide, by decide⟩, T8⟩
      · rintro σ' H9 ⟨⟨rv, sz, s10, s11, s12, s13, rfl, ⟨rd, F9⟩, z0, z1⟩, T9⟩
        clear T8 F8
        refine ⟨fun σ' H' => (∃ rv sz s10 s11 s12 s13, σ' = [some (.ref c), some (.int 40), some (.int cap), some (.int kinds), some (.ref R), some (.ref S), some (.int (0 + (i : Int))), some (.int way), some rv, some (.int sz), s10, s11, s12, s13] ∧ (∃ rd, FT K H' rv rd) ∧ 0 ≤ sz ∧ sz ≤ 10000000000000000000000000000000000000000) ∧ TH K c l zz R S H xs ds ns b H', ?_, ?_⟩
        · -- if way > 3 and rules != []
          refine ⟨_, rfl, _, _, rfl, rfl, _, rfl, ?_⟩
          refine ite2 (fun g => ?_) (fun g => ?_)
          · refine ⟨_, rfl, (by show 0 ≤ sizeLine; decide), fun p hp => ?_⟩
            have sp : Same H9 (upd H9 p (.lst [])) := same_new hp _
            have T10 := T9.same sp
            have F10 := F9.tk (TK.same sp)
            have dd := T10.ft.dp
            have hdl := dps_len dd.1
            refine ⟨.list ds, .list [], .lst (SqL.of T10.r) dd.1, .lst (SqL.of upd_same) .nil, OkN.shaped (n := 4) (ok_lst.mpr fun d hd => (td_ok (dd.2 d hd)).mono (by omega)) (by decide), by decide +kernel, _, rfl, ?_⟩
            rw [eqv_nil]
            generalize upd H9 p (.lst []) = H10 at T10 F10
            by_cases hds : ds = []
            · rw [show ds.isEmpty = true by rw [hds]; rfl]
              exact iteF ⟨⟨_, _, _, _, _, _, rfl, ⟨_, F10⟩, z0, z1⟩, T10.le (by omega)⟩
            · have hne : 1 ≤ xs.length := by
                rw [hdl]
                cases ds with
                | nil => exact absurd rfl hds
                | cons _ _ => rw [List.length_cons]; omega
              rw [show ds.isEmpty = false by
                cases ds with
                | nil => exact absurd rfl hds
                | cons _ _ => rfl]
              refine iteT ?_
              refine seq_asg ?_
              refine ai_ix (K := K) (F := fun _ => True) (c := c) (l := l) (p := fun z => 1 ≤ z ∧ z ≤ 60) (j := 4) (ka := 0) (kb := 1) stT (am_lst (j := 4) (k := 0) ?_ (by omega)) (ai_sip (hi := 4) (k := 0) stT rfl (ai_c ⟨by decide, by decide, by decide⟩) (fun r h0 h1 => ⟨h0, h1⟩)) (b + 5) H10 _ (T10.C.le (by omega)) trivial fun back H11 hb C11 s11' => ?_
              · exact az_cons (ka := 0) (kr := 0) stT (ai_c ⟨by decide, by decide⟩) (az_cons (ka := 0) (kr := 0) stT (ai_c ⟨by decide, by decide⟩) (az_cons (ka := 0) (kr := 0) stT (ai_c ⟨by decide, by decide⟩) (az_cons (ka := 0) (kr := 0) stT (ai_c ⟨by decide, by decide⟩) az_nil)))
              have T11 := T10.step C11 s11'
              have F11 := F10.tk (TK.sc T10.C s11')
              have stR : Stb (fun h => h R = some (.lst xs)) := fun h s => s _ _ h
              refine name_of' ?_
              refine seq_of (par_of (cons_of ?_))
              refine ai_max (F := fun h => h R = some (.lst xs)) (p := fun z => 0 ≤ z ∧ z < xs.length) (pa := fun z => z = 0) (pb := fun z => z ≤ (xs.length : Int) - 1) (ka := 0) (kb := 1) stR (ai_c rfl)
                (ai_op (k := 1) (ka := 0) (kb := 1) (pa := fun z => z = (xs.length : Int) - 1) (pb := fun z => 0 ≤ z ∧ z < 60) stR
                  (ai_op (k := 0) (ka := 0) (kb := 0) (pa := fun z => z = (xs.length : Int)) (pb := fun z => z = 1) stR (ai_len (K := K) (k := 0) (fun m H Q C f q => ⟨_, rfl, q R xs H C (SC.refl _) (.inl (SqL.of f)) rfl⟩)) (ai_c rfl) (by omega) (fun x y hx hy => by omega))
                  (ai_sip (hi := 60) (k := 0) stR rfl (ai_var rfl ⟨hb.1, lg (by omega) (by omega), hb.2⟩) (fun r h0 h1 => ⟨h0, h1⟩)) (by omega) (fun x y hx hy => by omega))
                (fun x y hx hy => by split <;> omega) (b + 4) H11 _ (T11.C.le (by omega)) ((cut_get T11.rn).trans T11.r) fun iv H12 hiv C12 s12' => ?_
              have T12 := T11.step C12 s12'
              have F12 := F11.tk (TK.sc T11.C s12')
              refine cons_of ?_
              refine ai_max (F := fun h => h R = some (.lst xs)) (p := fun z => 0 ≤ z ∧ z < xs.length) (pa := fun z => z = 0) (pb := fun z => z ≤ (xs.length : Int) - 1) (ka := 0) (kb := 1) stR (ai_c rfl)
                (ai_op (k := 1) (ka := 0) (kb := 1) (pa := fun z => z = (xs.length : Int) - 1) (pb := fun z => 0 ≤ z ∧ z < 60) stR
                  (ai_op (k := 0) (ka := 0) (kb := 0) (pa := fun z => z = (xs.length : Int)) (pb := fun z => z = 1) stR (ai_len (K := K) (k := 0) (fun m H Q C f q => ⟨_, rfl, q R xs H C (SC.refl _) (.inl (SqL.of f)) rfl⟩)) (ai_c rfl) (by omega) (fun x y hx hy => by omega))
                  (ai_sip (hi := 60) (k := 0) stR rfl (ai_var rfl ⟨hb.1, lg (by omega) (by omega), hb.2⟩) (fun r h0 h1 => ⟨h0, h1⟩)) (by omega) (fun x y hx hy => by omega))
                (fun x y hx hy => by split <;> omega) (b + 3) H12 _ (T12.C.le (by omega)) ((cut_get T12.rn).trans T12.r) fun jv H13 hjv C13 s13' => ?_
              have T13 := T12.step C13 s13'
              have F13 := F12.tk (TK.sc T12.C s13')
              refine nil_of ⟨_, _, rfl, ?_⟩
              dsimp only
              refine seq_asg ?_
              refine ai_ix (K := K) (F := fun _ => True) (c := c) (l := l) (p := fun z => 2 ≤ z ∧ z ≤ 100000000000000000002) (j := 4) (ka := 2) (kb := 1) stT (am_lst (j := 4) (k := 2) ?_ (by omega)) (ai_sip (hi := 4) (k := 0) stT rfl (ai_c ⟨by decide, by decide, by decide⟩) (fun r h0 h1 => ⟨h0, h1⟩)) b H13 _ (T13.C.le (by omega)) trivial fun kv H14 hkv C14 s14' => ?_
              · refine az_cons (ka := 0) (kr := 2) stT (ai_c ⟨by decide, by decide⟩) (az_cons (ka := 0) (kr := 2) stT (ai_c ⟨by decide, by decide⟩) (az_cons (ka := 1) (kr := 1) stT ?_ (az_cons (ka := 1) (kr := 0) stT ?_ az_nil)))
                · exact ai_op (k := 1) (ka := 0) (kb := 1) (pa := fun z => z = 2) (pb := fun z => 0 ≤ z ∧ z < 40) stT (ai_c rfl) (ai_sip (hi := 40) (k := 0) stT rfl (ai_c ⟨by decide, by decide, by decide⟩) (fun r h0 h1 => ⟨h0, h1⟩)) (by omega) (fun x y hx hy => by omega)
                · refine ai_op (k := 1) (ka := 0) (kb := 1) (pa := fun z => z = 2) (pb := fun z => 0 ≤ z ∧ z < 100000000000000000000) stT (ai_c rfl) (ai_sip (hi := 100000000000000000000) (k := 0) stT rfl ?_ (fun r h0 h1 => ⟨h0, h1⟩)) (by omega) (fun x y hx hy => by omega)
                  exact ai_opI (k := 0) (pa := fun z => z = 10) (pb := fun z => z = 20) stT (ai_c rfl) (ai_c rfl) (by omega) (fun x y hx hy => by subst hx; subst hy; exact ⟨by decide, by decide, by decide⟩) (fun x y hx hy => by subst hx; subst hy; exact ⟨by decide, lg (by decide) (by decide), by decide⟩)
              have T14 := T13.step C14 s14'
              have F14 := F13.tk (TK.sc T13.C s14')
              clear T9 T10 T11 T12 T13 F9 F10 F11 F12 F13
              refine name_of' ?_
              refine ⟨fun σ' H' => (∃ rv sz s10, σ' = [some (.ref c), some (.int 40), some (.int cap), some (.int kinds), some (.ref R), some (.ref S), some (.int (0 + (i : Int))), some (.int way), some rv, some (.int sz), s10, some (.int iv), some (.int jv), some (.int kv)] ∧ (∃ rd, FT K H' rv rd) ∧ 0 ≤ sz ∧ sz ≤ 10000000000000000000000000000000000000000) ∧ TH K c l zz R S H xs ds ns b H', ?_, ?_⟩
              · obtain ⟨si, hsi, si0⟩ := pick_n (ns := ns) (z := iv) (by rw [T14.len]; exact hiv)
                obtain ⟨sj, hsj, sj0⟩ := pick_n (ns := ns) (z := jv) (by rw [T14.len]; exact hjv)
                have bi := T14.nb _ si0
                have bj := T14.nb _ sj0
                refine ⟨_, rfl, _, _, rfl, rfl, _, rfl, ?_⟩
                refine ite2 (fun g => ?_) (fun g => ?_)
                · refine ⟨_, rfl, _, rfl, S, _, iv, _, rfl, rfl, SqL.of T14.s, hsi, ?_⟩
                  refine ⟨_, rfl, _, rfl, S, _, jv, _, rfl, rfl, SqL.of T14.s, hsj, _, _, rfl, rfl, _, rfl, _, _, rfl, rfl, _, rfl, ?_⟩
                  refine ite2 (fun g2 => ?_) (fun g2 => ?_)
                  · have g3 := of_decide_eq_true g2
                    refine ⟨_, rfl, _, rfl, (by show 3 ≤ sizeLine; decide), fun p hp => ?_⟩
                    have sp : Same H14 (upd H14 p (.tup [.str "pair", .int iv, .int jv])) := same_new hp _
                    have T15 := T14.same sp
                    refine ⟨_, rfl, _, rfl, S, _, iv, _, rfl, rfl, SqL.of T15.s, hsi, ?_⟩
                    refine ⟨_, rfl, _, rfl, S, _, jv, _, rfl, rfl, SqL.of T15.s, hsj, _, _, rfl, rfl, _, _, rfl, ?_⟩
                    exact ⟨⟨_, _, _, rfl, ⟨_, ft_new (.cons (.str _ (strOk_of _)) (.cons (.int iv (lg2 (by omega) (by omega))) (.cons (.int jv (lg2 (by omega) (by omega))) .nil))) (by show 3 ≤ 40; decide)⟩, by omega, by omega⟩, T15⟩
                  · exact ⟨⟨_, _, _, rfl, ⟨_, F14⟩, z0, z1⟩, T14⟩
                · exact iteF ⟨⟨_, _, _, rfl, ⟨_, F14⟩, z0, z1⟩, T14⟩
              · rintro σ' H15 ⟨⟨rv, sz, s10, rfl, ⟨rd, F15⟩, z0, z1⟩, T15⟩
                obtain ⟨si, hsi, si0⟩ := pick_n (ns := ns) (z := iv) (by rw [T15.len]; exact hiv)
                have bi := T15.nb _ si0
                have cm : CMulW si kv := wide_mul (a := 200) (b := 100) (Nat.lt_of_le_of_lt (show si.natAbs ≤ 10000000000000000000000000000000000000000 by omega) (by decide)) (Nat.lt_of_le_of_lt (show kv.natAbs ≤ 100000000000000000002 by omega) (by decide)) (by decide) (by decide) (by decide)
                refine ⟨_, rfl, _, _, rfl, rfl, _, rfl, ?_⟩
                refine ite2 (fun g => ?_) (fun g => ?_)
                · refine ⟨_, rfl, _, rfl, S, _, iv, _, rfl, rfl, SqL.of T15.s, hsi, _, rfl, _, _, rfl, rfl, cm, _, rfl, _, _, rfl, rfl, _, rfl, ?_⟩
                  refine ite2 (fun g2 => ?_) (fun g2 => ?_)
                  · have g3 := of_decide_eq_true g2
                    refine ⟨_, rfl, _, rfl, (by show 3 ≤ sizeLine; decide), fun p hp => ?_⟩
                    have sp : Same H15 (upd H15 p (.tup [.str "power", .int iv, .int kv])) := same_new hp _
                    have T16 := T15.same sp
                    refine ⟨_, rfl, _, rfl, S, _, iv, _, rfl, rfl, SqL.of T16.s, hsi, _, rfl, _, _, rfl, rfl, cm, _, _, rfl, ?_⟩
                    exact ⟨⟨_, _, _, _, _, _, rfl, ⟨_, ft_new (.cons (.str _ (strOk_of _)) (.cons (.int iv (lg2 (by omega) (by omega))) (.cons (.int kv (lg2 (by omega) (by omega))) .nil))) (by show 3 ≤ 40; decide)⟩, Int.mul_nonneg (by omega) (by omega), by omega⟩, T16⟩
                  · exact ⟨⟨_, _, _, _, _, _, rfl, ⟨_, F15⟩, z0, z1⟩, T15⟩
                · exact iteF ⟨⟨_, _, _, _, _, _, rfl, ⟨_, F15⟩, z0, z1⟩, T15⟩
          · exact iteF ⟨⟨_, _, _, _, _, _, rfl, ⟨_, F9⟩, z0, z1⟩, T9.le (by omega)⟩
        · rintro σ' H10 ⟨⟨rv, sz, s10, s11, s12, s13, rfl, ⟨rd, F10⟩, z0, z1⟩, T10⟩
          refine ⟨_, rfl, .inl ⟨rfl, _, SqL.of T10.r⟩, _, rfl, R, xs, rv, rfl, rfl, T10.r, small1000 (by omega), ?_⟩
          have hS : upd H10 R (.lst (xs ++ [rv])) S = some (.lst (ns.map V.int)) := by rw [upd_ne (Ne.symm T10.rs)]; exact T10.s
          refine ⟨_, rfl, .inl ⟨rfl, _, SqL.of hS⟩, _, rfl, S, _, _, rfl, rfl, hS, small1000 (by rw [List.length_map, T10.len]; omega), ?_⟩
          exact ⟨⟨_, _, _, _, _, _, _, _, rfl⟩, _, _, _, T10.push F10 z0 z1, by rw [List.length_append, hxl]; rfl⟩
    · rintro σ H5 ⟨⟨s6, s7, s8, s9, s10, s11, s12, s13, rfl⟩, xs, ds, ns, T5, hxl⟩
      refine ⟨_, rfl, R, xs, rfl, .inl ⟨SqL.of T5.r, fun p hp => ?_⟩⟩
      have sp : Same H5 (upd H5 p (.tup xs)) := same_new hp _
      have T6 := T5.same sp
      have ne := T5.C.new hp
      have dd := (T6.ft.tk (TK.cut T6.C)).dp
      have hl := dps_len dd.1
      exact q p xs ds _ (T6.C.le (by omega)) T6.sc (SqT.of (cut_upd ne)) dd.1 (by omega) (by omega) dd.2
end
end K34


set_option Elab.async false
set_option linter.all false
set_option maxRecDepth 100000
set_option maxHeartbeats 8000000
namespace K34
open PySem PySem.Spec PyProof.Rows L2
section
variable {P : Program} {w : World} {K : PySem.W.Frag} {mg : Str → Option Value} {base : Heap}
def spNear (K : PySem.W.Frag) : Sp := fun vs H Q _ => ∃ (c l zz : Addr) (m : Nat) (a : Addr) (xs : List V) (ds : List PyData), vs = [.ref c, .ref a] ∧ Cup H c l zz (m + 2) ∧ SqT K (cut c l zz H) a xs ∧ DpAll K (cut c l zz H) xs ds ∧ 1 ≤ ds.length ∧ ds.length ≤ 40 ∧ (∀ d ∈ ds, Td 1 d) ∧
  ∀ v' d' H', Cup H' c l zz m → SC c l H H' → Dp K (cut c l zz H') v' d' → OkN 7 d' → Q v' H'
theorem sc__law_near_one : FnScope ["cup", "rules", "k", "many", "some"] ["cup", "rules"] (C8.fnScope (topS 18)) := C8.fnScope_by (by decide +kernel)
theorem ok__law_near_one {f : Addr} {fd : FuncData} (F : C8.Def K mg "_law_near_one" (topS 18) f fd) (b : Binds K fd ["cup", "rules"] []) (B : Bl mg) (c__law_sip : C8.Cal P w K mg base 1 "_law_sip" spSip []) : C8.Cal P w K mg base 2 "_law_near_one" (spNear K) [] := by
  refine C8.cal0 F b .nil sc__law_near_one ?len ?body
  case len => rintro vs H Q E ⟨c, l, zz, m, a, xs, ds, rfl, _⟩; rfl
  case body =>
    rintro cdv A outer s H vs Q E hr ⟨c, l, zz, m, a, xs, ds, rfl, C, hs, ha, hl1, hl40, td, q⟩
    refine ⟨_, (pss_cons (ps_par (i := 2) (j := 3) rfl sc__law_near_one.nd rfl rfl (by decide) rfl rfl (pa_cons (C8.pe_c c__law_sip hr (by decide) rfl (pa_cons (pv 0) (pa_cons (pe_callB call_len_seq rfl B.len PySem.boot_len (pa_cons (pv 1) pa_nil)) pa_nil))) (pa_cons (pe_callB call_len_seq rfl B.len PySem.boot_len (pa_cons (pv 1) pa_nil)) pa_nil)) (by with_unfolding_all rfl))
    (pss_cons (ps_set (i := 4) sc__law_near_one.nd rfl (Or.inl rfl) (pe_lst (pa_cons (pe_tup (pa_cons pe_str (pa_cons (pv 2) (pa_cons pe_int pa_nil)))) (pa_cons (pe_tup (pa_cons pe_str (pa_cons pe_int (pa_cons (pv 2) pa_nil)))) (pa_cons (pe_tup (pa_cons pe_str (pa_cons (pe_un un_neg pe_int) (pa_cons pe_int pa_nil)))) (pa_cons (pe_tup (pa_cons pe_str (pa_cons pe_int (pa_cons (pe_un un_neg pe_int) pa_nil)))) (pa_cons (pe_tup (pa_cons pe_str (pa_cons (pv 2) (pa_cons pe_int pa_nil)))) (pa_cons (pe_tup (pa_cons pe_str (pa_cons pe_int (pa_cons pe_int pa_nil)))) (pa_cons (pe_tup (pa_cons pe_str (pa_cons pe_int (pa_cons pe_int pa_nil)))) pa_nil)))))))))
    (pss_cons (ps_set (i := 4) sc__law_near_one.nd rfl (Or.inl rfl) (pe_op op_cat (pv 4) (pe_lst (pa_cons (pe_tup (pa_cons pe_str (pa_cons (pe_un un_neg pe_int) (pa_cons pe_int pa_nil)))) (pa_cons (pe_tup (pa_cons pe_str (pa_cons pe_int (pa_cons pe_bl pa_nil)))) (pa_cons (pe_tup (pa_cons pe_str (pa_cons pe_int (pa_cons pe_bl pa_nil)))) (pa_cons (pe_tup (pa_cons pe_str (pa_cons pe_int pa_nil))) (pa_cons (pe_tup (pa_cons pe_str (pa_cons pe_int pa_nil))) (pa_cons (pe_tup (pa_cons pe_str (pa_cons (pe_un un_neg pe_int) pa_nil))) (pa_cons (pe_tup (pa_cons pe_str (pa_cons pe_bl pa_nil))) pa_nil))))))))))
    (pss_cons (ps_set (i := 4) sc__law_near_one.nd rfl (Or.inl rfl) (pe_op op_cat (pv 4) (pe_lst (pa_cons (pe_tup (pa_cons pe_str (pa_cons pe_int pa_nil))) (pa_cons (pe_tup (pa_cons pe_str pa_nil)) (pa_cons (pe_tup (pa_cons pe_str (pa_cons pe_int pa_nil))) (pa_cons (pe_tup (pa_cons pe_str (pa_cons (pe_un un_neg pe_int) pa_nil))) (pa_cons (pe_tup (pa_cons pe_str (pa_cons (pe_op op_sub (pv 2) pe_int) (pa_cons (pe_op op_sub (pv 2) pe_int) pa_nil)))) (pa_cons (pe_tup (pa_cons pe_str (pa_cons (pe_op op_sub (pv 2) pe_int) (pa_cons (pe_op op_pow pe_int pe_int) pa_nil)))) (pa_cons (pe_tup (pa_cons pe_str (pa_cons (pv 3) (pa_cons pe_int pa_nil)))) pa_nil))))))))))
    (pss_cons (ps_set (i := 4) sc__law_near_one.nd rfl (Or.inl rfl) (pe_op op_cat (pv 4) (pe_lst (pa_cons (pe_tup (pa_cons pe_str (pa_cons pe_int (pa_cons pe_int pa_nil)))) (pa_cons (pe_tup (pa_cons pe_str (pa_cons pe_int pa_nil))) (pa_cons (pe_tup (pa_cons pe_str (pa_cons pe_int pa_nil))) (pa_cons (pe_tup (pa_cons pe_str pa_nil)) (pa_cons (pe_tup pa_nil) (pa_cons (pe_tup (pa_cons pe_str (pa_cons pe_int (pa_cons pe_int pa_nil)))) (pa_cons pe_str (pa_cons (pe_lst (pa_cons pe_str pa_nil)) (pa_cons (pe_tup (pa_cons pe_str (pa_cons pe_int (pa_cons pe_int (pa_cons pe_int pa_nil))))) (pa_cons (pe_tup (pa_cons (pe_tup (pa_cons pe_str pa_nil)) pa_nil)) (pa_cons pe_int pa_nil))))))))))))))
    (pss_one (ps_ret (pe_op op_catA (pe_op op_catA (pe_slice sl_tupA (pv 1) po_none (po_some (pv 2))) (pe_tup (pa_cons (pe_ix ix_list (pv 4) (C8.pe_c c__law_sip hr (by decide) rfl (pa_cons (pv 0) (pa_cons pe_int pa_nil))) (fun _ _ => rfl)) pa_nil))) (pe_slice sl_tupA (pv 1) (po_some (pe_op op_add (pv 2) pe_int)) po_none))))))))), ?_⟩
    have hl := dps_len ha
    have stF : Stb (fun h => SqT K h a xs ∧ DpAll K h xs ds) := fun h s => ⟨sqt_ext (same_ext s) h.1, dps_ext (same_ext s) _ h.2⟩
    have okE : ∀ d ∈ ds, OkN 6 d := fun d hd => (td_ok (td d hd)).mono (by omega)
    refine ⟨_, rfl, _, rfl, a, xs, rfl, .inr (sq_cut hs), c, l, zz, m + 1, _, rfl, C, by omega, lg (by omega) (by omega), fun k H1 k0 k1 C1 kp1 => ?_⟩
    have f1 := stF ⟨hs, ha⟩ kp1.cut
    have s1 : SC c l H H1 := kp1
    refine ⟨_, rfl, a, xs, rfl, .inr (sq_cut f1.1), _, _, rfl, ?_⟩
    dsimp only
    refine seq_asg ?_
    refine al_lst (K := K) (F := fun h => SqT K h a xs ∧ DpAll K h xs ds) (n := 6) (j := 7) (k := 0) ?d0 (by omega) (m + 1) H1 _ C1 f1 ?k0
    case d0 => exact (aa_cons (ka := 0) (kr := 0) stF (an_P (ap_tup (L := 3) (aa_cons (ka := 0) (kr := 0) stF (an_str _ (strOk_of _)) (aa_cons (ka := 0) (kr := 0) stF (an_int (ai_var (p := fun _ => True) (z := k) rfl trivial)) (aa_cons (ka := 0) (kr := 0) stF (an_int (ai_c (p := fun _ => True) trivial)) aa_nil))) (by omega) (by omega))) (aa_cons (ka := 0) (kr := 0) stF (an_P (ap_tup (L := 3) (aa_cons (ka := 0) (kr := 0) stF (an_str _ (strOk_of _)) (aa_cons (ka := 0) (kr := 0) stF (an_int (ai_c (p := fun _ => True) trivial)) (aa_cons (ka := 0) (kr := 0) stF (an_int (ai_var (p := fun _ => True) (z := k) rfl trivial)) aa_nil))) (by omega) (by omega))) (aa_cons (ka := 0) (kr := 0) stF (an_P (ap_tup (L := 3) (aa_cons (ka := 0) (kr := 0) stF (an_str _ (strOk_of _)) (aa_cons (ka := 0) (kr := 0) stF (an_int (ai_neg (p := fun _ => True) (ai_c (p := fun _ => True) trivial) (fun _ _ => trivial))) (aa_cons (ka := 0) (kr := 0) stF (an_int (ai_c (p := fun _ => True) trivial)) aa_nil))) (by omega) (by omega))) (aa_cons (ka := 0) (kr := 0) stF (an_P (ap_tup (L := 3) (aa_cons (ka := 0) (kr := 0) stF (an_str _ (strOk_of _)) (aa_cons (ka := 0) (kr := 0) stF (an_int (ai_c (p := fun _ => True) trivial)) (aa_cons (ka := 0) (kr := 0) stF (an_int (ai_neg (p := fun _ => True) (ai_c (p := fun _ => True) trivial) (fun _ _ => trivial))) aa_nil))) (by omega) (by omega))) (aa_cons (ka := 0) (kr := 0) stF (an_P (ap_tup (L := 3) (aa_cons (ka := 0) (kr := 0) stF (an_str _ (strOk_of _)) (aa_cons (ka := 0) (kr := 0) stF (an_int (ai_var (p := fun _ => True) (z := k) rfl trivial)) (aa_cons (ka := 0) (kr := 0) stF (an_int (ai_c (p := fun _ => True) trivial)) aa_nil))) (by omega) (by omega))) (aa_cons (ka := 0) (kr := 0) stF (an_P (ap_tup (L := 3) (aa_cons (ka := 0) (kr := 0) stF (an_str _ (strOk_of _)) (aa_cons (ka := 0) (kr := 0) stF (an_int (ai_c (p := fun _ => True) trivial)) (aa_cons (ka := 0) (kr := 0) stF (an_int (ai_c (p := fun _ => True) trivial)) aa_nil))) (by omega) (by omega))) (aa_cons (ka := 0) (kr := 0) stF (an_P (ap_tup (L := 3) (aa_cons (ka := 0) (kr := 0) stF (an_str _ (strOk_of _)) (aa_cons (ka := 0) (kr := 0) stF (an_int (ai_c (p := fun _ => True) trivial)) (aa_cons (ka := 0) (kr := 0) stF (an_int (ai_c (p := fun _ => True) trivial)) aa_nil))) (by omega) (by omega))) aa_nil)))))))
    case k0 =>
    intro p1 vs1 es1 H2 C2 s2 hv1 hd1 ok1 hl1
    refine name_of' ?_
    have st1 : Stb (fun h => (SqT K h a xs ∧ DpAll K h xs ds) ∧ h p1 = some (.lst vs1) ∧ DpAll K h vs1 es1) := fun h s => ⟨stF h.1 s, s _ _ h.2.1, dps_ext (same_ext s) _ h.2.2⟩
    have f2 : (SqT K (cut c l zz H2) a xs ∧ DpAll K (cut c l zz H2) xs ds) ∧ cut c l zz H2 p1 = some (.lst vs1) ∧ DpAll K (cut c l zz H2) vs1 es1 := ⟨stF f1 (SC.cut s2), hv1, hd1⟩
    refine seq_asg ?_
    refine al_cat (K := K) (F := fun h => (SqT K h a xs ∧ DpAll K h xs ds) ∧ h p1 = some (.lst vs1) ∧ DpAll K h vs1 es1) (n := 6) (i := 7) (j := 7) (ka := 0) (kb := 0) st1 (al_var rfl (fun _ h => h.2) ok1 hl1) (al_lst (j := 7) (k := 0) ?d1 (by omega)) (by omega) (m + 1) H2 _ C2 f2 ?k1
    case d1 => exact (aa_cons (ka := 0) (kr := 0) st1 (an_P (ap_tup (L := 3) (aa_cons (ka := 0) (kr := 0) st1 (an_str _ (strOk_of _)) (aa_cons (ka := 0) (kr := 0) st1 (an_int (ai_neg (p := fun _ => True) (ai_c (p := fun _ => True) trivial) (fun _ _ => trivial))) (aa_cons (ka := 0) (kr := 0) st1 (an_int (ai_c (p := fun _ => True) trivial)) aa_nil))) (by omega) (by omega))) (aa_cons (ka := 0) (kr := 0) st1 (an_P (ap_tup (L := 3) (aa_cons (ka := 0) (kr := 0) st1 (an_str _ (strOk_of _)) (aa_cons (ka := 0) (kr := 0) st1 (an_int (ai_c (p := fun _ => True) trivial)) (aa_cons (ka := 0) (kr := 0) st1 (an_bl _) aa_nil))) (by omega) (by omega))) (aa_cons (ka := 0) (kr := 0) st1 (an_P (ap_tup (L := 3) (aa_cons (ka := 0) (kr := 0) st1 (an_str _ (strOk_of _)) (aa_cons (ka := 0) (kr := 0) st1 (an_int (ai_c (p := fun _ => True) trivial)) (aa_cons (ka := 0) (kr := 0) st1 (an_bl _) aa_nil))) (by omega) (by omega))) (aa_cons (ka := 0) (kr := 0) st1 (an_P (ap_tup (L := 2) (aa_cons (ka := 0) (kr := 0) st1 (an_str _ (strOk_of _)) (aa_cons (ka := 0) (kr := 0) st1 (an_int (ai_c (p := fun _ => True) trivial)) aa_nil)) (by omega) (by omega))) (aa_cons (ka := 0) (kr := 0) st1 (an_P (ap_tup (L := 2) (aa_cons (ka := 0) (kr := 0) st1 (an_str _ (strOk_of _)) (aa_cons (ka := 0) (kr := 0) st1 (an_int (ai_c (p := fun _ => True) trivial)) aa_nil)) (by omega) (by omega))) (aa_cons (ka := 0) (kr := 0) st1 (an_P (ap_tup (L := 2) (aa_cons (ka := 0) (kr := 0) st1 (an_str _ (strOk_of _)) (aa_cons (ka := 0) (kr := 0) st1 (an_int (ai_neg (p := fun _ => True) (ai_c (p := fun _ => True) trivial) (fun _ _ => trivial))) aa_nil)) (by omega) (by omega))) (aa_cons (ka := 0) (kr := 0) st1 (an_P (ap_tup (L := 2) (aa_cons (ka := 0) (kr := 0) st1 (an_str _ (strOk_of _)) (aa_cons (ka := 0) (kr := 0) st1 (an_bl _) aa_nil)) (by omega) (by omega))) aa_nil)))))))
    case k1 =>
    intro p2 vs2 es2 H3 C3 s3 hv2 hd2 ok2 hl2
    refine name_of' ?_
    have st2 : Stb (fun h => (SqT K h a xs ∧ DpAll K h xs ds) ∧ h p2 = some (.lst vs2) ∧ DpAll K h vs2 es2) := fun h s => ⟨stF h.1 s, s _ _ h.2.1, dps_ext (same_ext s) _ h.2.2⟩
    have f3 : (SqT K (cut c l zz H3) a xs ∧ DpAll K (cut c l zz H3) xs ds) ∧ cut c l zz H3 p2 = some (.lst vs2) ∧ DpAll K (cut c l zz H3) vs2 es2 := ⟨stF f2.1 (SC.cut s3), hv2, hd2⟩
    refine seq_asg ?_
    refine al_cat (K := K) (F := fun h => (SqT K h a xs ∧ DpAll K h xs ds) ∧ h p2 = some (.lst vs2) ∧ DpAll K h vs2 es2) (n := 6) (i := 14) (j := 7) (ka := 0) (kb := 0) st2 (al_var rfl (fun _ h => h.2) ok2 hl2) (al_lst (j := 7) (k := 0) ?d2 (by omega)) (by omega) (m + 1) H3 _ C3 f3 ?k2
    case d2 => exact (aa_cons (ka := 0) (kr := 0) st2 (an_P (ap_tup (L := 2) (aa_cons (ka := 0) (kr := 0) st2 (an_str _ (strOk_of _)) (aa_cons (ka := 0) (kr := 0) st2 (an_int (ai_c (p := fun _ => True) trivial)) aa_nil)) (by omega) (by omega))) (aa_cons (ka := 0) (kr := 0) st2 (an_P (ap_tup (L := 1) (aa_cons (ka := 0) (kr := 0) st2 (an_str _ (strOk_of _)) aa_nil) (by omega) (by omega))) (aa_cons (ka := 0) (kr := 0) st2 (an_P (ap_tup (L := 2) (aa_cons (ka := 0) (kr := 0) st2 (an_str _ (strOk_of _)) (aa_cons (ka := 0) (kr := 0) st2 (an_int (ai_c (p := fun _ => True) trivial)) aa_nil)) (by omega) (by omega))) (aa_cons (ka := 0) (kr := 0) st2 (an_P (ap_tup (L := 2) (aa_cons (ka := 0) (kr := 0) st2 (an_str _ (strOk_of _)) (aa_cons (ka := 0) (kr := 0) st2 (an_int (ai_neg (p := fun _ => True) (ai_c (p := fun _ => True) trivial) (fun _ _ => trivial))) aa_nil)) (by omega) (by omega))) (aa_cons (ka := 0) (kr := 0) st2 (an_P (ap_tup (L := 3) (aa_cons (ka := 0) (kr := 0) st2 (an_str _ (strOk_of _)) (aa_cons (ka := 0) (kr := 0) st2 (an_int (ai_op (p := fun _ => True) (k := 0) st2 (ai_var (p := fun _ => True) (z := k) rfl trivial) (ai_c (p := fun _ => True) trivial) (by omega) (fun _ _ _ _ => trivial))) (aa_cons (ka := 0) (kr := 0) st2 (an_int (ai_op (p := fun _ => True) (k := 0) st2 (ai_var (p := fun _ => True) (z := k) rfl trivial) (ai_c (p := fun _ => True) trivial) (by omega) (fun _ _ _ _ => trivial))) aa_nil))) (by omega) (by omega))) (aa_cons (ka := 0) (kr := 0) st2 (an_P (ap_tup (L := 3) (aa_cons (ka := 0) (kr := 0) st2 (an_str _ (strOk_of _)) (aa_cons (ka := 0) (kr := 0) st2 (an_int (ai_op (p := fun _ => True) (k := 0) st2 (ai_var (p := fun _ => True) (z := k) rfl trivial) (ai_c (p := fun _ => True) trivial) (by omega) (fun _ _ _ _ => trivial))) (aa_cons (ka := 0) (kr := 0) st2 (an_int (ai_opI (p := fun _ => True) (k := 0) st2 (ai_c (p := fun z => z = 10) rfl) (ai_c (p := fun z => z = 30) rfl) (by omega) (fun x y hx hy => by subst hx; subst hy; exact ⟨by decide, by decide, by decide⟩) (fun _ _ _ _ => trivial))) aa_nil))) (by omega) (by omega))) (aa_cons (ka := 0) (kr := 0) st2 (an_P (ap_tup (L := 3) (aa_cons (ka := 0) (kr := 0) st2 (an_str _ (strOk_of _)) (aa_cons (ka := 0) (kr := 0) st2 (an_int (ai_var (p := fun _ => True) (z := ((xs.length : Nat) : Int)) rfl trivial)) (aa_cons (ka := 0) (kr := 0) st2 (an_int (ai_c (p := fun _ => True) trivial)) aa_nil))) (by omega) (by omega))) aa_nil)))))))
    case k2 =>
    intro p3 vs3 es3 H4 C4 s4 hv3 hd3 ok3 hl3
    refine name_of' ?_
    have st3 : Stb (fun h => (SqT K h a xs ∧ DpAll K h xs ds) ∧ h p3 = some (.lst vs3) ∧ DpAll K h vs3 es3) := fun h s => ⟨stF h.1 s, s _ _ h.2.1, dps_ext (same_ext s) _ h.2.2⟩
    have f4 : (SqT K (cut c l zz H4) a xs ∧ DpAll K (cut c l zz H4) xs ds) ∧ cut c l zz H4 p3 = some (.lst vs3) ∧ DpAll K (cut c l zz H4) vs3 es3 := ⟨stF f3.1 (SC.cut s4), hv3, hd3⟩
    refine seq_asg ?_
    refine al_cat (K := K) (F := fun h => (SqT K h a xs ∧ DpAll K h xs ds) ∧ h p3 = some (.lst vs3) ∧ DpAll K h vs3 es3) (n := 6) (i := 21) (j := 11) (ka := 0) (kb := 0) st3 (al_var rfl (fun _ h => h.2) ok3 hl3) (al_lst (j := 11) (k := 0) ?d3 (by omega)) (by omega) (m + 1) H4 _ C4 f4 ?k3
    case d3 => exact (aa_cons (ka := 0) (kr := 0) st3 (an_P (ap_tup (L := 3) (aa_cons (ka := 0) (kr := 0) st3 (an_str _ (strOk_of _)) (aa_cons (ka := 0) (kr := 0) st3 (an_int (ai_c (p := fun _ => True) trivial)) (aa_cons (ka := 0) (kr := 0) st3 (an_int (ai_c (p := fun _ => True) trivial)) aa_nil))) (by omega) (by omega))) (aa_cons (ka := 0) (kr := 0) st3 (an_P (ap_tup (L := 2) (aa_cons (ka := 0) (kr := 0) st3 (an_str _ (strOk_of _)) (aa_cons (ka := 0) (kr := 0) st3 (an_int (ai_c (p := fun _ => True) trivial)) aa_nil)) (by omega) (by omega))) (aa_cons (ka := 0) (kr := 0) st3 (an_P (ap_tup (L := 2) (aa_cons (ka := 0) (kr := 0) st3 (an_str _ (strOk_of _)) (aa_cons (ka := 0) (kr := 0) st3 (an_int (ai_c (p := fun _ => True) trivial)) aa_nil)) (by omega) (by omega))) (aa_cons (ka := 0) (kr := 0) st3 (an_P (ap_tup (L := 1) (aa_cons (ka := 0) (kr := 0) st3 (an_str _ (strOk_of _)) aa_nil) (by omega) (by omega))) (aa_cons (ka := 0) (kr := 0) st3 (an_P (ap_tup (L := 0) aa_nil (by omega) (by omega))) (aa_cons (ka := 0) (kr := 0) st3 (an_P (ap_tup (L := 3) (aa_cons (ka := 0) (kr := 0) st3 (an_str _ (strOk_of _)) (aa_cons (ka := 0) (kr := 0) st3 (an_int (ai_c (p := fun _ => True) trivial)) (aa_cons (ka := 0) (kr := 0) st3 (an_int (ai_c (p := fun _ => True) trivial)) aa_nil))) (by omega) (by omega))) (aa_cons (ka := 0) (kr := 0) st3 (an_str _ (strOk_of _)) (aa_cons (ka := 0) (kr := 0) st3 (an_L (al_lst (aa_cons (ka := 0) (kr := 0) st3 (an_str _ (strOk_of _)) aa_nil) (by omega))) (aa_cons (ka := 0) (kr := 0) st3 (an_P (ap_tup (L := 4) (aa_cons (ka := 0) (kr := 0) st3 (an_str _ (strOk_of _)) (aa_cons (ka := 0) (kr := 0) st3 (an_int (ai_c (p := fun _ => True) trivial)) (aa_cons (ka := 0) (kr := 0) st3 (an_int (ai_c (p := fun _ => True) trivial)) (aa_cons (ka := 0) (kr := 0) st3 (an_int (ai_c (p := fun _ => True) trivial)) aa_nil)))) (by omega) (by omega))) (aa_cons (ka := 0) (kr := 0) st3 (an_P (ap_tup (L := 1) (aa_cons (ka := 0) (kr := 0) st3 (an_P (ap_tup (L := 1) (aa_cons (ka := 0) (kr := 0) st3 (an_str _ (strOk_of _)) aa_nil) (by omega) (by omega))) aa_nil) (by omega) (by omega))) (aa_cons (ka := 0) (kr := 0) st3 (an_int (ai_c (p := fun _ => True) trivial)) aa_nil)))))))))))
    case k3 =>
    intro p4 vs4 es4 H5 C5 s5 hv4 hd4 ok4 hl4
    refine name_of' ?_
    have st4 : Stb (fun h => (SqT K h a xs ∧ DpAll K h xs ds) ∧ h p4 = some (.lst vs4) ∧ DpAll K h vs4 es4) := fun h s => ⟨stF h.1 s, s _ _ h.2.1, dps_ext (same_ext s) _ h.2.2⟩
    have thR : ∀ {σ : L2.St}, σ[1]? = some (some (.ref a)) → Ap K c l zz (fun h => (SqT K h a xs ∧ DpAll K h xs ds) ∧ h p4 = some (.lst vs4) ∧ DpAll K h vs4 es4) σ 6 0 40 (tVar 1) := fun e => ap_var e (fun _ h => h.1) okE hl40
    refine ret_of ?_
    refine ap_cat (K := K) (n := 6) (L := 200) st4 (ap_cat (L := 100) st4 (ap_sl st4 (thR rfl) ao_none (ao_some (ai_var (p := fun _ => True) (z := k) rfl trivial))) (ap_tup (j := 1) (L := 1) (aa_cons (ka := 1) st4 (an_ix (j := 32) (ka := 0) (kb := 1) st4 (al_var rfl (fun _ h => h.2) ok4 hl4) (ai_sip (hi := 32) (k := 0) st4 rfl (ai_c ⟨by decide, by decide, by decide⟩) (fun r h0 h1 => ⟨h0, h1⟩))) aa_nil) (by omega) (by omega)) (by omega) (by omega))
      (ap_sl st4 (thR rfl) (ao_some (ai_op (p := fun _ => True) (k := 0) st4 (ai_var (p := fun _ => True) (z := k) rfl trivial) (ai_c (p := fun _ => True) trivial) (by omega) (fun _ _ _ _ => trivial))) ao_none) (by omega) (by omega) m H5 _ (C5.le (by omega)) ⟨stF f4.1 (SC.cut s5), hv4, hd4⟩ fun a' xs' es' H6 C6 s6 h6 h6' ok6 _ => ?_
    exact q _ (.tuple es') H6 C6 (SC.trans s1 (SC.trans s2 (SC.trans s3 (SC.trans s4 (SC.trans s5 s6))))) (.tup h6 h6') (ok_tup.mpr ok6)
end
end K34


set_option Elab.async false
set_option linter.all false
set_option maxRecDepth 100000
set_option maxHeartbeats 8000000
namespace K34
open PySem PySem.Spec PyProof.Rows L2
section
variable {X : Cx} {CX : CXT} {k : Nat} {f : Addr} {fd : FuncData} {ps ks : List Str} {sp : Sp} {E : XK} {x : Str} {p pos : Pos} {kws : List Keyword} {tk : TA} {g : List Value → List Value → List Value} {gV : List V → List V → List V}
/-- f(k = v, ..) -/
theorem pe_callK0 (F : FnOk X.prog X.w X.K X.mg X.base CX k f fd ps sp) (hr : Room k X.A) (hg : Gl X x) (hm : X.mg x = some (.ref f)) (hk : PySem.W.keepIn X.K (.ref f) = true) (hb : KBinds X.K fd ps ks g gV) (hx : Passes CX X E)
    (hkw : PK X kws tk) (hall : (backToKw pos (keywordEach kws X.env)).all (·.1.isSome) = true := by rfl) (hks : (backToKw pos (keywordEach kws X.env)).filterMap (·.1) = ks := by rfl)
    (hdb : (x == ("__debug__" : Str)) = false := by decide)
    (hpl : ((backTo pos (starEach [] X.env)).any (·.1) || (backToKw pos (keywordEach kws X.env)).any (·.1.isNone)) = false := by rfl) :
    PE X (.Call (.Name x p) [] kws pos) (tCallK sp gV E tNil tk) := by
  refine ⟨fun pins s σ H Q I h => ?_⟩
  refine wpAny_Call_Name_kw (ld_glob I hg hm ?_ hdb)
  refine PySem.W.callWith_KW0 (h₀ := X.base) I.ok.mod.kin hk hall ?_ hpl
  refine thn (hkw.run pos pins s σ H _ I h) fun ws s2 ⟨zs, H2, I2, rz, q2⟩ => ⟨I2.kIn, ?_⟩
  rw [hks]
  exact run_fnk (us := []) (vs := []) F hr hb hx I2 .nil rz q2
end
theorem cut_updD {c l D : Addr} {H : Hp} {o : HO} : cut c l D (upd H D o) = cut c l D H := by
  funext p
  unfold cut
  by_cases h : p = c ∨ p = l ∨ p = D
  · rw [if_pos h, if_pos h]
  · rw [if_neg h, if_neg h, upd_ne (fun z => h (.inr (.inr z)))]
theorem cup_updD {c l D : Addr} {H : Hp} {m : Nat} {ys : List V} (C : Cup H c l D m) (n : D ≠ c ∧ D ≠ l) : Cup (upd H D (.lst ys)) c l D m := by
  obtain ⟨⟨a, b, k, ns, h1, h2, h3⟩, _⟩ := C
  exact ⟨⟨a, b, k, ns, by rw [upd_ne (Ne.symm n.1)]; exact h1, by rw [upd_ne (Ne.symm n.2)]; exact h2, h3⟩, ys, upd_same⟩
theorem Cup.self {c l D : Addr} {H : Hp} {m : Nat} (C : Cup H c l D m) : Cup H c l c m := by
  obtain ⟨⟨a, b, k, ns, h1, h2, h3⟩, _⟩ := C
  exact ⟨⟨a, b, k, ns, h1, h2, h3⟩, _, h1⟩
theorem cut_less {c l D : Addr} {H : Hp} : Same (cut c l D H) (cut c l c H) := fun p o h => by
  unfold cut at h ⊢
  split at h
  · cases h
  · next n =>
    rw [if_neg (by rintro (z | z | z); exact n (.inl z); exact n (.inr (.inl z)); exact n (.inl z))]
    exact h
theorem al_comp {K : PySem.W.Frag} {c l : Addr} {F : Hp → Prop} {σ : L2.St} {n k N i : Nat} {te : TE} {vs : List Nat} (S : Stb F) (hN : N ≤ 500) (hw : ∀ x, wipe ((wipe σ vs).set i (some x)) vs = wipe σ vs)
    (hte : ∀ (D : Addr) (x : Int), An K c l D F ((wipe σ vs).set i (some (.int x))) n k te) : Al K c l c F σ n (k * N) N (tLc (iRng1 (tCons (tC (.int (N : Int))) tNil)) (gName i) tYes te vs) := by
  intro m H Q C f q
  refine ⟨_, rfl, by omega, by omega, fun D hD => ?_⟩
  have ne := C.new hD
  rw [Int.toNat_natCast]
  refine lc_range (fun j H' => Cup H' c l D (m + k * (N - j)) ∧ SC c l H H' ∧ F (cut c l D H') ∧ ∃ acc ds, H' D = some (.lst acc) ∧ DpAll K (cut c l D H') acc ds ∧ (∀ d ∈ ds, OkN n d) ∧ acc.length = j) ?_ ?_ ?_
  · have s0 : Same H (upd H D (.lst [])) := same_new hD _
    have C0 := C.same s0
    refine ⟨⟨C0.1, [], upd_same⟩, SC.same s0, S f ?_, [], [], upd_same, .nil, (fun _ h => by cases h), rfl⟩
    rw [cut_updD]
    intro p o h
    have nD : p ≠ D := fun z => by rw [z, cut_get ne, hD] at h; cases h
    unfold cut at h ⊢
    split at h
    · cases h
    · next nn =>
      rw [if_neg (by rintro (z | z | z); exact nn (.inl z); exact nn (.inr (.inl z)); exact nD z)]
      exact h
  · rintro j H1 hj ⟨C1, s1, f1, acc, ds, ha, hd, ok, hl⟩
    refine ⟨hw _, ?_⟩
    show te _ _ _
    obtain ⟨b, eb⟩ : ∃ b, N - j = b + 1 ∧ N - (j + 1) = b := ⟨N - (j + 1), by omega, rfl⟩
    rw [eb.2]
    rw [eb.1, Nat.mul_add, Nat.mul_one, ← Nat.add_assoc] at C1
    refine hte D _ (m + k * b) H1 _ C1 f1 fun v d H2 C2 s2 hv okv => ?_
    refine ⟨acc, s2 _ _ ne.1 ne.2.1 ha, Nat.lt_of_le_of_lt (show acc.length ≤ 500 by omega) (by decide), cup_updD C2 ⟨ne.1, ne.2.1⟩, ?_, ?_, acc ++ [v], ds ++ [d], upd_same, ?_, ?_, by rw [List.length_append, hl]; rfl⟩
    · intro p o h1 h2 e
      have nD : p ≠ D := fun z => by rw [z, hD] at e; cases e
      rw [upd_ne nD]
      exact s2 _ _ h1 h2 (s1 _ _ h1 h2 e)
    · rw [cut_updD]
      exact S f1 (SC.cut s2)
    · rw [cut_updD]
      exact dps_snoc (dps_ext (same_ext (SC.cut s2)) _ hd) hv
    · intro e he
      rcases List.mem_append.mp he with he | he
      · exact ok e he
      · cases List.mem_singleton.mp he; exact okv
  · rintro H1 ⟨C1, s1, f1, acc, ds, ha, hd, ok, hl⟩
    rw [Nat.sub_self, Nat.mul_zero, Nat.add_zero] at C1
    exact q D acc ds H1 C1.self s1 (by rw [cut_get ⟨ne.1, ne.2.1, ne.1⟩]; exact ha) (dps_ext (same_ext cut_less) _ hd) ok hl
theorem tab_sc {c l zz T : Addr} {H H' : Hp} {m : Nat} (C : Cup H c l zz m) (s : SC c l H H') (h : GxR.TabG H T) : GxR.TabG H' T := by
  obtain ⟨ps, h1, h2⟩ := h
  exact ⟨ps, TK.sc C s _ _ h1 (fun _ z => by cases z), h2⟩
theorem Cup.ext {c l zz : Addr} {H H' : Hp} {m : Nat} (C : Cup H c l zz m) (s : LamX.ExtN H H') : Cup H' c l zz m := by
  obtain ⟨⟨a, b, k, ns, h1, h2, h3⟩, es, h4⟩ := C
  exact ⟨⟨a, b, k, ns, s _ _ h1 (fun _ z => by cases z), s _ _ h2 (fun _ z => by cases z), h3⟩, es, s _ _ h4 (fun _ z => by cases z)⟩
end K34


set_option Elab.async false
set_option linter.all false
set_option maxRecDepth 100000
set_option maxHeartbeats 8000000
namespace K34
open PySem PySem.Spec PyProof.Rows L2
theorem dps_rep {K : PySem.W.Frag} {H : Hp} {v : V} {d : PyData} (h : Dp K H v d) : ∀ n : Nat, DpAll K H (List.replicate n v) (List.replicate n d)
  | 0 => .nil
  | n + 1 => by
    rw [List.replicate_succ, List.replicate_succ]
    exact .cons h (dps_rep h n)
theorem tab_same {T : Addr} {H H' : Hp} (s : Same H H') (h : GxR.TabG H T) : GxR.TabG H' T := by
  obtain ⟨ps, h1, h2⟩ := h
  exact ⟨ps, s _ _ h1, h2⟩
theorem allR_rep {d : PyData} (h : ∀ j : Nat, 1 ≤ j → ruleD d (j : Int) = true) : ∀ n m : Nat, 1 ≤ m → allR (List.replicate n d) m = true
  | 0, _, _ => rfl
  | n + 1, m, hm => by
    rw [List.replicate_succ]
    show (ruleD d (m : Int) && allR (List.replicate n d) (m + 1)) = true
    rw [h m hm, allR_rep h n (m + 1) (by omega)]
    rfl
theorem straight_last {d : PyData} (h : ∀ j : Nat, 1 ≤ j → ruleD d (j : Int) = true) {n : Nat} (hn : n = 3999 ∨ n = 4000) : straightD (.tuple (.tuple [.str "letter", .int 3] :: List.replicate n d)) = decide ((n : Int) = 3999) := by
  have e1 : rowD (.tuple (.tuple [.str "letter", .int 3] :: List.replicate n d)) 1 4000 = decide ((n : Int) = 3999) := by
    show (decide ((1 : Int) ≤ (((PyData.tuple [.str "letter", .int 3] :: List.replicate n d).length : Nat) : Int)) && decide ((((PyData.tuple [.str "letter", .int 3] :: List.replicate n d).length : Nat) : Int) ≤ 4000)) = _
    rw [List.length_cons, List.length_replicate]
    rcases hn with rfl | rfl <;> rfl
  have e2 : allR (.tuple [.str "letter", .int 3] :: List.replicate n d) 0 = true := by
    show (ruleD (.tuple [.str "letter", .int 3]) ((0 : Nat) : Int) && allR (List.replicate n d) (0 + 1)) = true
    rw [allR_rep h n 1 (by omega)]
    rfl
  show (rowD (.tuple (.tuple [.str "letter", .int 3] :: List.replicate n d)) 1 4000 && allR (.tuple [.str "letter", .int 3] :: List.replicate n d) 0) = _
  rw [e1, e2, Bool.and_true]
theorem cup_c {c l : Addr} {H : Hp} {m : Nat} (C : Cup0 H c l m) : Cup H c l c m := by
  obtain ⟨a, b, k, ns, h1, h2, h3⟩ := C
  exact ⟨⟨a, b, k, ns, h1, h2, h3⟩, _, h1⟩
section
variable {P : Program} {w : World} {K : PySem.W.Frag} {mg : Str → Option Value} {base : Heap}
def spLaw (K : PySem.W.Frag) (T : Addr) : Sp := fun vs H Q _ => ∃ (x : Addr) (ns : List Int), vs = [.ref x] ∧ SqL K H x (ns.map V.int) ∧ GxR.TabG H T ∧ ∀ H', Q (.bl true) H'
theorem sc_law : FnScope ["script", "cup", "turn", "rules", "k", "some", "step", "thing", "due", "rule", "many"] ["script"] (C8.fnScope (topS 19)) := C8.fnScope_by (by decide +kernel)
theorem ok_law {f : Addr} {fd : FuncData} (F : C8.Def K mg "law" (topS 19) f fd) (B : Bl mg) {T : Addr} (c__law_cup : C8.Cal P w K mg base 1 "_law_cup" (spCup K) []) (c__law_sip : C8.Cal P w K mg base 1 "_law_sip" spSip []) (c__law_text : C8.Cal P w K mg base 2 "_law_text" (spText K) []) (c__law_bent : C8.Cal P w K mg base 5 "_law_bent" (spB K 3) []) (c__law_near_one : C8.Cal P w K mg base 2 "_law_near_one" (spNear K) [])
    (c__law_is_straight : C8.Cal P w K mg base 2 "_law_is_straight" (spLawStr K) []) (c__law_same : C8.Cal P w K mg base 1 "_law_same" (spSame K) []) (c_is_straight : C8.Cal P w K mg base 6 "is_straight" (spStraight K T) [])
    {fS : Addr} {fdS : FuncData} (FS : FnOk P w K mg base C8.CX0 6 fS fdS ["thing"] (spStraight K T)) (mS : mg "is_straight" = some (.ref fS)) (kS : PySem.W.keepIn K (.ref fS) = true) (kbS : KBinds K fdS ["thing"] ["thing"] (fun us ws => us ++ ws) (fun vs zs => vs ++ zs)) : FnOk P w K mg base C8.CX0 8 f fd ["script"] (spLaw K T) := by
  refine C8.fn0 F.fn sc_law ?len ?body
  case len => rintro vs H Q E ⟨x, ns, rfl, _⟩; rfl
  case body =>
    rintro cdv A outer s H vs Q E hr ⟨x, ns, rfl, hx, tab, q⟩
    refine ⟨_, (pss_cons (ps_set (i := 1) sc_law.nd rfl (Or.inr rfl) (C8.pe_c c__law_cup hr (by decide) rfl (pa_cons (pv 0) pa_nil)))
    (pss_cons (ps_for PassesOwn.never rfl (pi_range1 rfl B.range (pa_cons pe_int pa_nil)) (pg_name (i := 2) sc_law.nd rfl (Or.inl rfl))
    (pss_cons (ps_set (i := 3) sc_law.nd rfl (Or.inr rfl) (C8.pe_c c__law_text hr (by decide) rfl (pa_cons (pv 1) (pa_cons pe_int (pa_cons (pe_op op_pow pe_int pe_int) pa_nil)))))
    (pss_cons (ps_set (i := 4) sc_law.nd rfl (Or.inl rfl) (C8.pe_c c__law_sip hr (by decide) rfl (pa_cons (pv 1) (pa_cons (pe_callB call_len_seq rfl B.len PySem.boot_len (pa_cons (pv 3) pa_nil)) pa_nil))))
    (pss_cons (ps_set (i := 5) sc_law.nd rfl (Or.inl rfl) (pe_lst (pa_cons (pv 3) (pa_cons (pe_slice sl_tupA (pv 3) po_none (po_some (pv 4))) (pa_cons (pe_slice sl_tupA (pv 3) (po_some (pv 4)) po_none) (pa_cons (UG.pe_revT (pv 3)) (pa_cons (pe_op op_catA (pe_op op_catA (pe_slice sl_tupA (pv 3) po_none (po_some (pv 4))) (pe_slice sl_tupA (pv 3) (po_some (pv 4)) (po_some (pe_op op_add (pv 4) pe_int)))) (pe_slice sl_tupA (pv 3) (po_some (pv 4)) po_none)) (pa_cons (pe_callTy call_list_of rfl B.list (by decide +kernel) (pa_cons (pv 3) pa_nil)) (pa_cons (pe_op op_catA (pv 3) (pv 3)) pa_nil)))))))))
    (pss_cons (ps_set (i := 5) sc_law.nd rfl (Or.inl rfl) (pe_op op_cat (pe_op op_cat (pv 5) (pe_lc (own := [("step", 6)]) (g := gName 6) (by rfl) sc_law.nd (pi_range1 rfl B.range (pa_cons pe_int pa_nil)) (blkOk_by (own := [("step", 6)]) (N := ["script", "cup", "turn", "rules", "k", "some", "step", "thing", "due", "rule", "many"]) (sc := (C8.fnScope (topS 19))) (by decide +kernel)) (fun _ _ _ _ _ => pg_name (i := 6) sc_law.nd rfl (Or.inl rfl)) (fun _ _ _ _ _ => pts_nil) (fun _ _ _ _ _ => (C8.pe_c c__law_bent hr (by decide) rfl (pa_cons (pv 1) (pa_cons (pv 3) pa_nil)))))) (pe_lc (own := [("step", 6)]) (g := gName 6) (by rfl) sc_law.nd (pi_range1 rfl B.range (pa_cons pe_int pa_nil)) (blkOk_by (own := [("step", 6)]) (N := ["script", "cup", "turn", "rules", "k", "some", "step", "thing", "due", "rule", "many"]) (sc := (C8.fnScope (topS 19))) (by decide +kernel)) (fun _ _ _ _ _ => pg_name (i := 6) sc_law.nd rfl (Or.inl rfl)) (fun _ _ _ _ _ => pts_nil) (fun _ _ _ _ _ => (C8.pe_c c__law_near_one hr (by decide) rfl (pa_cons (pv 1) (pa_cons (pv 3) pa_nil)))))))
    (pss_cons (ps_set (i := 5) sc_law.nd rfl (Or.inl rfl) (pe_op op_cat (pv 5) (pe_lst (pa_cons (pe_ix ix_list (pe_lst (pa_cons (pe_tup pa_nil) (pa_cons pe_non (pa_cons (pe_tup (pa_cons (pe_tup (pa_cons pe_str pa_nil)) pa_nil)) (pa_cons (pe_tup (pa_cons (pe_tup pa_nil) pa_nil)) (pa_cons pe_str (pa_cons (pe_tup (pa_cons pe_str pa_nil)) (pa_cons pe_int pa_nil)))))))) (C8.pe_c c__law_sip hr (by decide) rfl (pa_cons (pv 1) (pa_cons pe_int pa_nil))) (fun _ _ => rfl)) pa_nil))))
    (pss_one (ps_for PassesOwn.never rfl (pi_list (pv 5)) (pg_name (i := 7) sc_law.nd rfl (Or.inl rfl))
    (pss_cons (ps_set (i := 8) sc_law.nd rfl (Or.inl rfl) (C8.pe_c c__law_is_straight hr (by decide) rfl (pa_cons (pv 7) pa_nil)))
    (pss_one (ps_if (PW.pt (pw_or (pt_not (pt_val (C8.pe_c c__law_same hr (by decide) rfl (pa_cons (C8.pe_c c_is_straight hr (by decide) rfl (pa_cons (pv 7) pa_nil)) (pa_cons (pv 8) pa_nil))))) (pw_or1 (pt_not (pt_val (C8.pe_c c__law_same hr (by decide) rfl (pa_cons (pe_callK0 FS (hr.mono (by decide)) rfl mS kS kbS pass0 (pk_cons (pv 7) pk_nil)) (pa_cons (pv 8) pa_nil)))))))) (pss_one (ps_ret pe_bl)) pss_nil)))))))))))
    (pss_cons (ps_set (i := 9) sc_law.nd rfl (Or.inl rfl) (pe_ix ix_list (pe_lst (pa_cons (pe_tup (pa_cons pe_str pa_nil)) (pa_cons (pe_tup (pa_cons pe_str (pa_cons (pe_un un_neg pe_int) pa_nil))) (pa_cons (pe_tup (pa_cons pe_str (pa_cons pe_int (pa_cons pe_int pa_nil)))) (pa_cons (pe_tup (pa_cons pe_str (pa_cons pe_int (pa_cons pe_int pa_nil)))) pa_nil))))) (C8.pe_c c__law_sip hr (by decide) rfl (pa_cons (pv 1) (pa_cons pe_int pa_nil))) (fun _ _ => rfl)))
    (pss_cons (ps_for PassesOwn.never rfl (pi_tup (pe_tup (pa_cons pe_int (pa_cons pe_int pa_nil)))) (pg_name (i := 10) sc_law.nd rfl (Or.inl rfl))
    (pss_one (ps_if (pt_not (pt_val (C8.pe_c c__law_same hr (by decide) rfl (pa_cons (C8.pe_c c_is_straight hr (by decide) rfl (pa_cons (pe_op op_catA (pe_tup (pa_cons (pe_tup (pa_cons pe_str (pa_cons pe_int pa_nil))) pa_nil)) (pe_op UG.op_repB (pe_tup (pa_cons (pv 9) pa_nil)) (pv 10))) pa_nil)) (pa_cons (pe_cmpR op_eq (pv 10) pe_int (nomark _)) pa_nil))))) (pss_one (ps_ret pe_bl)) pss_nil)))
    (pss_one (ps_ret pe_bl)))))), ?_⟩
    refine ⟨_, rfl, x, ns, rfl, hx, fun c l H1 C1 s1 => ?_⟩
    have tab1 : GxR.TabG H1 T := by
      obtain ⟨ps, h1, h2⟩ := tab
      exact ⟨ps, s1 _ _ h1, h2⟩
    have C1' : Cup H1 c l c 1000000 := cup_c C1
    refine ⟨_, rfl, by decide, by decide, ?_⟩
    refine for_range (lo := 0) (n := 5) (fun i σ H' => (∃ s2 s3 s4 s5 s6 s7 s8 s9 s10, σ = [some (.ref x), some (.ref c), s2, s3, s4, s5, s6, s7, s8, s9, s10]) ∧ Cup H' c l c (448 * (5 - i) + 1) ∧ GxR.TabG H' T) ⟨⟨_, _, _, _, _, _, _, _, _, rfl⟩, C1'.le (by omega), tab1⟩ ?_ ?_
    · rintro i σ H2 hi ⟨⟨s2, s3, s4, s5, s6, s7, s8, s9, s10, rfl⟩, C2, tab2⟩
      obtain ⟨b, eb, eb2⟩ : ∃ b, 448 * (5 - i) + 1 = b + 448 ∧ 448 * (5 - (i + 1)) + 1 = b := ⟨448 * (5 - (i + 1)) + 1, by omega, rfl⟩
      rw [eb] at C2
      rw [eb2]
      refine name_of' ?_
      refine ⟨_, rfl, _, _, rfl, rfl, ⟨by decide, by decide, by decide⟩, c, l, c, b + 86, _, rfl, by decide, by decide, C2, fun a xs ds H3 C3 s3' hs3 hd3 l1 l40 td => ?_⟩
      have tab3 := tab_sc C2 s3' tab2
      have hl := dps_len hd3
      have stF : Stb (fun h => SqT K h a xs ∧ DpAll K h xs ds) := fun h s => ⟨sqt_ext (same_ext s) h.1, dps_ext (same_ext s) _ h.2⟩
      have okE : ∀ d ∈ ds, OkN 6 d := fun d hd => (td_ok (td d hd)).mono (by omega)
      have td2 : Td 2 (.tuple ds) := .inr ⟨ds, rfl, l40, td⟩
      refine ⟨_, rfl, _, rfl, a, xs, rfl, .inr (sq_cut hs3), c, l, c, b + 85, _, rfl, C3, by omega, lg (by omega) (by omega), fun k H4 k0 k1 C4 s4' => ?_⟩
      have tab4 := tab_sc C3 s4' tab3
      have f4 := stF ⟨hs3, hd3⟩ (SC.cut (zz := c) s4')
      refine name_of' ?_
      dsimp only
      refine seq_asg ?_
      have Tv : ∀ {σ : L2.St}, σ[3]? = some (some (.ref a)) → Ap K c l c (fun h => SqT K h a xs ∧ DpAll K h xs ds) σ 6 0 40 (tVar 3) := fun e => ap_var e (fun _ h => h) okE l40
      have Kv : ∀ {σ : L2.St}, σ[4]? = some (some (.int k)) → Ai c l c (fun h => SqT K h a xs ∧ DpAll K h xs ds) σ (fun _ => True) 0 (tVar 4) := fun e => ai_var e trivial
      have K1 : ∀ {σ : L2.St}, σ[4]? = some (some (.int k)) → Ai c l c (fun h => SqT K h a xs ∧ DpAll K h xs ds) σ (fun _ => True) 0 (tOp (rI0 fun i j => V.int (i + j)) (tVar 4) (tC (.int 1))) := fun e => ai_op (k := 0) stF (Kv e) (ai_c (p := fun _ => True) trivial) (by omega) (fun _ _ _ _ => trivial)
      refine al_lst (K := K) (F := fun h => SqT K h a xs ∧ DpAll K h xs ds) (n := 7) (j := 7) (k := 0) ?d1 (by omega) (b + 85) H4 _ C4 f4 ?k1
      case d1 =>
        refine aa_cons (ka := 0) (kr := 0) stF (an_P (Tv rfl)) ?_
        refine aa_cons (ka := 0) (kr := 0) stF (an_P (ap_sl stF (Tv rfl) ao_none (ao_some (Kv rfl)))) ?_
        refine aa_cons (ka := 0) (kr := 0) stF (an_P (ap_sl stF (Tv rfl) (ao_some (Kv rfl)) ao_none)) ?_
        refine aa_cons (ka := 0) (kr := 0) stF (an_P (ap_rev (Tv rfl))) ?_
        refine aa_cons (ka := 0) (kr := 0) stF (an_P (ap_cat (ka := 0) (kb := 0) stF (ap_cat (ka := 0) (kb := 0) stF (ap_sl stF (Tv rfl) ao_none (ao_some (Kv rfl))) (ap_sl stF (Tv rfl) (ao_some (Kv rfl)) (ao_some (K1 rfl))) (by omega) (Nat.le_refl _)) (ap_sl stF (Tv rfl) (ao_some (Kv rfl)) ao_none) (by omega) (Nat.le_refl _))) ?_
        refine aa_cons (ka := 0) (kr := 0) stF (an_listof (Tv rfl)) ?_
        exact aa_cons (ka := 0) (kr := 0) stF (an_P (ap_cat (ka := 0) (kb := 0) stF (Tv rfl) (Tv rfl) (by omega) (Nat.le_refl _))) aa_nil
      case k1 =>
        intro p1 vs1 es1 H5 C5 s5' hv5 hd5 ok5 hl5
        have tab5 := tab_sc C4 s5' tab4
        have f5 := stF f4 (SC.cut (zz := c) s5')
        have st1 : Stb (fun h => (SqT K h a xs ∧ DpAll K h xs ds) ∧ h p1 = some (.lst vs1) ∧ DpAll K h vs1 es1) := fun h s => ⟨stF h.1 s, s _ _ h.2.1, dps_ext (same_ext s) _ h.2.2⟩
        refine name_of' ?_
        refine seq_asg ?_
        refine al_cat (K := K) (F := fun h => (SqT K h a xs ∧ DpAll K h xs ds) ∧ h p1 = some (.lst vs1) ∧ DpAll K h vs1 es1) (n := 7) (i := 13) (j := 6) (ka := 72) (kb := 12) st1
          (al_cat (i := 7) (j := 6) (ka := 0) (kb := 72) st1 (al_var rfl (fun _ h => h.2) ok5 hl5) (al_comp (N := 6) (k := 12) st1 (by omega) (fun _ => rfl) ?bent) (by omega))
          (al_comp (N := 6) (k := 2) st1 (by omega) (fun _ => rfl) ?near) (by omega) (b + 1) H5 _ (C5.le (by omega)) ⟨f5, hv5, hd5⟩ ?k2
        case bent =>
          intro D z m H Q C f q
          exact ⟨_, rfl, _, rfl, c, l, D, m, _, _, rfl, C, .tup f.1.1 f.1.2, td2, fun v d H' C' s' h' ok' => q v d H' C' s' h' ok'⟩
        case near =>
          intro D z m H Q C f q
          exact ⟨_, rfl, _, rfl, c, l, D, m, a, xs, ds, rfl, C, f.1.1, f.1.2, l1, l40, td, q⟩
        case k2 =>
          intro p2 vs2 es2 H6 C6 s6' hv6 hd6 ok6 hl6
          have tab6 := tab_sc C5 s6' tab5
          have st2 : Stb (fun h => h p2 = some (.lst vs2) ∧ DpAll K h vs2 es2) := fun h s => ⟨s _ _ h.1, dps_ext (same_ext s) _ h.2⟩
          refine name_of' ?_
          refine seq_asg ?_
          refine al_cat (K := K) (F := fun h => h p2 = some (.lst vs2) ∧ DpAll K h vs2 es2) (n := 7) (i := 19) (j := 1) (ka := 0) (kb := 1) st2 (al_var rfl (fun _ h => h) ok6 hl6)
            (al_lst (j := 1) (k := 1) (aa_cons (ka := 1) (kr := 0) st2 (an_ix (j := 7) (ka := 0) (kb := 1) st2 (al_lst (j := 7) (k := 0) ?d7 (by omega)) (ai_sip (hi := 7) (k := 0) st2 rfl (ai_c ⟨by decide, by decide, by decide⟩) (fun r h0 h1 => ⟨h0, h1⟩))) aa_nil) (by omega)) (by omega) b H6 _ (C6.le (by omega)) ⟨hv6, hd6⟩ ?k3
          case d7 => exact (aa_cons (ka := 0) (kr := 0) st2 (an_P (ap_tup (L := 0) aa_nil (by omega) (by omega))) (aa_cons (ka := 0) (kr := 0) st2 an_non (aa_cons (ka := 0) (kr := 0) st2 (an_P (ap_tup (L := 1) (aa_cons (ka := 0) (kr := 0) st2 (an_P (ap_tup (L := 1) (aa_cons (ka := 0) (kr := 0) st2 (an_str _ (strOk_of _)) aa_nil) (by omega) (by omega))) aa_nil) (by omega) (by omega))) (aa_cons (ka := 0) (kr := 0) st2 (an_P (ap_tup (L := 1) (aa_cons (ka := 0) (kr := 0) st2 (an_P (ap_tup (L := 0) aa_nil (by omega) (by omega))) aa_nil) (by omega) (by omega))) (aa_cons (ka := 0) (kr := 0) st2 (an_str _ (strOk_of _)) (aa_cons (ka := 0) (kr := 0) st2 (an_P (ap_tup (L := 1) (aa_cons (ka := 0) (kr := 0) st2 (an_str _ (strOk_of _)) aa_nil) (by omega) (by omega))) (aa_cons (ka := 0) (kr := 0) st2 (an_int (ai_c (p := fun _ => True) trivial)) aa_nil)))))))
          case k3 =>
            intro p3 vs3 es3 H7 C7 s7' hv7 hd7 ok7 hl7
            have tab7 := tab_sc C6 s7' tab6
            refine name_of' ?_
            have hv := cut_ext _ _ hv7
            have hd := dps_ext (same_ext cut_ext) _ hd7
            refine ⟨_, rfl, p3, rfl, ⟨_, SqL.of hv⟩, ?_⟩
            refine for_list (xs := vs3) (fun j σ H' => (∃ t7 t8, σ = [some (.ref x), some (.ref c), some (.int (0 + (i : Int))), some (.ref a), some (.int k), some (.ref p3), s6, t7, t8, s9, s10]) ∧ LamX.ExtN H7 H' ∧ GxR.TabG H' T) ⟨⟨_, _, rfl⟩, LamX.ExtN.refl _, tab7⟩ ?_ ?_ ?_
            · rintro j σ H8 _ ⟨_, e8, _⟩
              exact sq_ext e8 (SqL.of hv)
            · rintro j y σ H8 hy ⟨⟨t7, t8, rfl⟩, e8, tab8⟩
              obtain ⟨d, hdj, hdy⟩ := dps_get' hd hy
              have hok := ok7 d (List.mem_of_getElem? hdj)
              have hd8 := dp_ext e8 d hdy
              refine name_of' ?_
              refine ⟨_, rfl, y, d, rfl, hd8, hok.mono (by omega), fun H9 s9' => ?_⟩
              have tab9 : GxR.TabG H9 T := by
                obtain ⟨ps, h1, h2⟩ := tab8
                exact ⟨ps, s9' _ _ h1, h2⟩
              have hd9 := dp_ext (same_ext s9') d hd8
              have e9 := e8.trans (same_ext s9')
              refine ⟨_, rfl, y, d, rfl, hd9, tab9, fun H10 k10 => ?_⟩
              refine ⟨_, rfl, _, _, rfl, _, rfl, ?_⟩
              rw [beq_self_eq_true]
              refine iteF ?_
              have hd10 := dp_ext k10.1 d hd9
              refine ⟨_, rfl, y, d, rfl, hd10, k10.2, fun H11 k11 => ?_⟩
              refine ⟨_, rfl, _, _, rfl, _, rfl, ?_⟩
              rw [beq_self_eq_true]
              refine iteF ?_
              exact ⟨⟨_, _, rfl⟩, e9.trans (k10.1.trans k11.1), k11.2⟩
            · rintro σ H8 ⟨⟨t7, t8, rfl⟩, e8, tab8⟩
              exact ⟨⟨_, _, _, _, _, _, _, _, _, rfl⟩, C7.ext e8, tab8⟩
    · rintro σ H2 ⟨⟨s2, s3, s4, s5, s6, s7, s8, s9, s10, rfl⟩, C2, tab2⟩
      refine ⟨(by show 1 ≤ sizeLine; decide), fun p1 h1 => ⟨7, rfl, (by show 2 ≤ sizeLine; decide), fun p2 h2 => ⟨(by show 3 ≤ sizeLine; decide), fun p3 h3 => ⟨(by show 3 ≤ sizeLine; decide), fun p4 h4 => ⟨(by show 4 ≤ sizeLine; decide), fun pl hpl => ?_⟩⟩⟩⟩⟩
      have F1 := ft_new (K := K) (H := H2) (p := p1) (.cons (.str _ (strOk_of "none")) .nil) (by show 1 ≤ 40; decide)
      have g1 := same_new h1 (.tup [.str "none"])
      have F2 := ft_new (K := K) (H := upd H2 p1 (.tup [.str "none"])) (p := p2) (.cons (.str _ (strOk_of "letter")) (.cons (.int (-7) (by decide)) .nil)) (by show 2 ≤ 40; decide)
      have g2 := same_new h2 (.tup [.str "letter", .int (-7)])
      have F3 := ft_new (K := K) (H := upd (upd H2 p1 (.tup [.str "none"])) p2 (.tup [.str "letter", .int (-7)])) (p := p3) (.cons (.str _ (strOk_of "pair")) (.cons (.int 0 (by decide)) (.cons (.int 0 (by decide)) .nil))) (by show 3 ≤ 40; decide)
      have g3 := same_new h3 (.tup [.str "pair", .int 0, .int 0])
      have F4 := ft_new (K := K) (H := upd (upd (upd H2 p1 (.tup [.str "none"])) p2 (.tup [.str "letter", .int (-7)])) p3 (.tup [.str "pair", .int 0, .int 0])) (p := p4) (.cons (.str _ (strOk_of "power")) (.cons (.int 0 (by decide)) (.cons (.int 2 (by decide)) .nil))) (by show 3 ≤ 40; decide)
      have g4 := same_new h4 (.tup [.str "power", .int 0, .int 2])
      have g5 := same_new hpl (.lst [.ref p1, .ref p2, .ref p3, .ref p4])
      have gall := g1.trans (g2.trans (g3.trans (g4.trans g5)))
      have C3 := C2.same gall
      have tab3 : GxR.TabG _ T := tab_sc C2 (SC.same gall) tab2
      have F1' := F1.tk (TK.same (g2.trans (g3.trans (g4.trans g5))))
      have F2' := F2.tk (TK.same (g3.trans (g4.trans g5)))
      have F3' := F3.tk (TK.same (g4.trans g5))
      have F4' := F4.tk (TK.same g5)
      have hpl' : ∀ {H : Hp}, upd H pl (.lst [.ref p1, .ref p2, .ref p3, .ref p4]) pl = some (.lst [.ref p1, .ref p2, .ref p3, .ref p4]) := upd_same
      have npl := (C2.same (g1.trans (g2.trans (g3.trans g4)))).new hpl
      have hplx : (upd (upd (upd (upd (upd H2 p1 (.tup [.str "none"])) p2 (.tup [.str "letter", .int (-7)])) p3 (.tup [.str "pair", .int 0, .int 0])) p4 (.tup [.str "power", .int 0, .int 2])) pl (.lst [.ref p1, .ref p2, .ref p3, .ref p4])) pl = some (.lst [.ref p1, .ref p2, .ref p3, .ref p4]) := upd_same
      refine ⟨_, rfl, c, l, c, 0, 4, rfl, C3.le (by omega), by decide, by decide, fun r H4 r0 r1 C4 kp4 => ?_⟩
      have tab4 := tab_sc C3 kp4 tab3
      have tk4 := TK.sc C3 kp4
      have hpl4 := kp4 _ _ npl.1 npl.2.1 hplx
      have hsel : ∃ v d, atI [.ref p1, .ref p2, .ref p3, .ref p4] r = some v ∧ FT K H4 v d ∧ ∀ j : Nat, 1 ≤ j → ruleD d (j : Int) = true := by
        have hr4 : r = 0 ∨ r = 1 ∨ r = 2 ∨ r = 3 := by omega
        rcases hr4 with rfl | rfl | rfl | rfl
        · exact ⟨_, _, at0 _ _, F1'.tk tk4, fun j _ => rfl⟩
        · exact ⟨_, _, at1 _ _ _, F2'.tk tk4, fun j _ => rfl⟩
        · refine ⟨_, _, at2 _ _ _ _, F3'.tk tk4, fun j hj => ?_⟩
          show tailD "pair" [.int 0, .int 0] (j : Int) = true
          rw [tail_pair, decide_eq_true (show (0 : Int) ≤ (j : Int) - 1 by omega)]
          rfl
        · refine ⟨_, _, atI_nat (j := 3) rfl, F4'.tk tk4, fun j hj => ?_⟩
          show tailD "power" [.int 0, .int 2] (j : Int) = true
          rw [tail_power, decide_eq_true (show (0 : Int) ≤ (j : Int) - 1 by omega)]
          rfl
      obtain ⟨v, d, hat, hft, hrule⟩ := hsel
      refine ⟨pl, _, r, v, rfl, rfl, SqL.of hpl4, hat, ?_⟩
      clear F1 F2 F3 F4 F1' F2' F3' F4' g1 g2 g3 g4 g5 gall C3 tab3
      refine ⟨(by show 2 ≤ sizeLine; decide), fun q0 hq0 => ⟨q0, rfl, ⟨_, SqT.of upd_same⟩, ?_⟩⟩
      have gq := same_new hq0 (.tup [.int 3999, .int 4000])
      have hft' := hft.tk (TK.same gq)
      have tab5 : GxR.TabG (upd H4 q0 (.tup [.int 3999, .int 4000])) T := tab_sc C4 (SC.same gq) tab4
      have hq0' : upd H4 q0 (.tup [.int 3999, .int 4000]) q0 = some (.tup [.int 3999, .int 4000]) := upd_same
      show (fun H => _) (upd H4 q0 (.tup [.int 3999, .int 4000]))
      generalize upd H4 q0 (.tup [.int 3999, .int 4000]) = H5 at hft' tab5 hq0'
      refine for_tup (xs := [.int 3999, .int 4000]) (fun j σ H' => (∃ t10, σ = [some (.ref x), some (.ref c), s2, s3, s4, s5, s6, s7, s8, some v, t10]) ∧ LamX.ExtN H5 H' ∧ GxR.TabG H' T) ⟨⟨_, rfl⟩, LamX.ExtN.refl _, tab5⟩ ?_ ?_ ?_
      · rintro j σ H6 _ ⟨_, e6, _⟩
        exact sqt_ext e6 (SqT.of hq0')
      · rintro j y σ H6 hy ⟨⟨t10, rfl⟩, e6, tab6⟩
        obtain ⟨n, rfl, hn⟩ : ∃ n : Nat, y = .int (n : Int) ∧ (n = 3999 ∨ n = 4000) := by
          match j, hy with
          | 0, hy => cases hy; exact ⟨3999, rfl, .inl rfl⟩
          | 1, hy => cases hy; exact ⟨4000, rfl, .inr rfl⟩
          | j + 2, hy => simp at hy
        have hft6 : FT K H6 v d := by
          obtain ⟨p, ys, ds, rfl, rfl, hs, h2, h3⟩ := hft'
          exact ⟨p, ys, ds, rfl, rfl, sqt_ext e6 hs, h2, h3⟩
        refine name_of' ?_
        refine ⟨(by show 2 ≤ sizeLine; decide), fun q1 g1 => ⟨(by show 1 ≤ sizeLine; decide), fun q2 g2 => ?_⟩⟩
        have sA := same_new g1 (.tup [.str "letter", .int 3])
        have sB := same_new g2 (.tup [.ref q1])
        refine ⟨_, rfl, (by show 1 ≤ sizeLine; decide), fun q3 g3 => ?_⟩
        have sC := same_new g3 (.tup [v])
        refine ⟨_, rfl, q3, (n : Int), [v], rfl, rfl, SqT.of upd_same, by simp, by omega, by omega, by simp only [List.length_singleton]; omega, fun q4 g4 => ?_⟩
        rw [Int.toNat_natCast, List.flatten_replicate_singleton]
        have sD := same_new g4 (.tup (List.replicate n v))
        refine ⟨q2, q4, [.ref q1], List.replicate n v, rfl, rfl, SqT.of (sD _ _ (sC _ _ upd_same)), SqT.of upd_same, ?_, fun z => absurd z (by simp), fun _ z => ?_, fun _ _ q5 g5 => ?_⟩
        · rw [List.length_replicate]
          exact Nat.le_trans (show [V.ref q1].length + n ≤ 4001 by simp only [List.length_singleton]; omega) (by decide)
        · exfalso
          have := congrArg List.length z
          rw [List.length_replicate] at this
          simp at this
          omega
        · have sE := same_new g5 (.tup ([.ref q1] ++ List.replicate n v))
          have s6' := sA.trans (sB.trans (sC.trans (sD.trans sE)))
          have hL : Dp K _ (.ref q1) (.tuple [.str "letter", .int 3]) := dp_ext (same_ext (sB.trans (sC.trans (sD.trans sE)))) _ (Dp.tup (SqT.of upd_same) (.cons (.str _) (.cons (.int 3) .nil)))
          have hv : Dp K _ v d := (hft6.tk (TK.same s6')).dp.1
          refine ⟨_, .tuple (.tuple [.str "letter", .int 3] :: List.replicate n d), rfl, .tup (SqT.of upd_same) (.cons hL (dps_rep hv n)), tab_same s6' tab6, fun H7 k7 => ?_⟩
          refine ⟨_, rfl, rfl, _, _, rfl, _, rfl, ?_⟩
          rw [straight_last hrule hn, dec_int, beq_self_eq_true]
          refine iteF ?_
          exact ⟨⟨_, rfl⟩, e6.trans ((same_ext s6').trans k7.1), k7.2⟩
      · rintro σ H6 ⟨⟨t10, rfl⟩, e6, tab6⟩
        exact q H6
end
end K34


set_option Elab.async false
set_option linter.all false
set_option maxRecDepth 100000
set_option maxHeartbeats 8000000
namespace K34
open PySem PySem.Spec PyProof.Rows L2
theorem walk {l : PySem.W.OpenLaw} {n k : Nat} {q : Program} {loose : List Str} {XP : (Str → Option Value) → Heap → Prop} {YP : World → Heap → Prop} {d : DefRec} {K : Params → PySem.W.Frag} {CX : World → CXT} {x : Str}
    (hn : l.most = some n) (hn2 : n ≤ sizeLine) (hdf : d.params.defaults = []) (hr : Room k callerA) (hY : ∀ (w : World) (h : Heap), YP w h → (K w.params).In h)
    (F : ∀ (w : World) (lo : List Str) (mean : ExcName → Option Value) (mg mb : Str → Option Value) (fa : Addr) (h : Heap), Top q lo mean mg mb h → (K w.params).In h → mg d.name = some (.ref fa) → LamX.LawAtS l w (K w.params) (CX w) k n x mg fa h)
    (hCX : ∀ (w : World) (H : Hp) (s : Shared) (e : Value) (s' : Shared), CX w [] H s (fun _ _ _ => False) e s' → False) :
    PySem.W.WalkO q loose XP YP l.row.toRowW d [] (fun f vs => PySem.call f vs) := by
  refine Att.attach_callB hn hdf fun w s₀ s₁ mg mb fa o pm cd doc a vs ns G Y ho hd hcd hmg hobj hints hlen hbits hg => ?_
  have KX := hY w _ Y
  obtain ⟨fd, cs, sp, hT, nT, C, hb, hsp, hF⟩ := F w _ _ mg mb fa _ G.T KX hmg
  exact LamX.law_callTs KX G.T.g G.T.b G.T.builtins G.T.nolimit hg hT nT C G.T.bmain hobj hints (Nat.le_trans hlen hn2) hr hF hb (fun H hH hS => hsp H a ns hlen hbits hH hS) fun H e s' => hCX w H s₁ e s'
theorem bent_all {P : Program} {w : World} {K : PySem.W.Frag} {mg : Str → Option Value} {base : Heap} {f : Addr} {fd : FuncData} (F : C8.Def K mg "_law_bent" (topS 15) f fd) (b : Binds K fd ["cup", "thing"] []) (B : Bl mg) (s : C8.Cal P w K mg base 1 "_law_sip" spSip []) :
    ∀ n : Nat, n ≤ 30 → C8.Cal P w K mg base (n + 2) "_law_bent" (spB K n) []
  | 0, _ => by
    refine C8.cal0 F b .nil sc__law_bent ?len ?body
    case len => intro vs H Q E h; exact h.elim
    case body => intro cdv A outer s H vs Q E hr h; exact h.elim
  | n + 1, hn => ok__law_bent F b B s (bent_all F b B s n (by omega)) (by omega)
theorem all_mk {l : PySem.W.OpenLaw} {w : World} {K : PySem.W.Frag} {h : Heap} {mg mb : Str → Option Value} {fa : Addr} {q : Program} {lo : List Str} {mean : ExcName → Option Value} (TT : Top q lo mean mg mb h) (X : K.In h) (hfa : mg "law" = some (.ref fa))
    {f1 : Addr} {oc1 kV1 dc1 pm1 ct1 : Value} {cd1 : Value} {od1 an1 : Option Addr} {sl1 : Array (Option Value)}
    {f2 : Addr} {oc2 kV2 dc2 pm2 ct2 : Value} {cd2 : Value} {od2 an2 : Option Addr} {sl2 : Array (Option Value)}
    {f3 : Addr} {oc3 kV3 dc3 pm3 ct3 : Value} {cd3 : Value} {od3 an3 : Option Addr} {sl3 : Array (Option Value)}
    {f7 : Addr} {oc7 kV7 dc7 pm7 ct7 : Value} {cd7 : Value} {od7 an7 : Option Addr} {sl7 : Array (Option Value)}
    {f8 : Addr} {oc8 kV8 dc8 pm8 ct8 : Value} {c8 : Addr} {od8 an8 : Option Addr} {sl8 : Array (Option Value)}
    {f9 : Addr} {oc9 kV9 dc9 pm9 ct9 : Value} {cd9 : Value} {od9 an9 : Option Addr} {sl9 : Array (Option Value)}
    {f11 : Addr} {oc11 kV11 dc11 pm11 ct11 : Value} {cd11 : Value} {od11 an11 : Option Addr} {sl11 : Array (Option Value)}
    {f12 : Addr} {oc12 kV12 dc12 pm12 ct12 : Value} {cd12 : Value} {od12 an12 : Option Addr} {sl12 : Array (Option Value)}
    {f13 : Addr} {oc13 kV13 dc13 pm13 ct13 : Value} {cd13 : Value} {od13 an13 : Option Addr} {sl13 : Array (Option Value)}
    {f14 : Addr} {oc14 kV14 dc14 pm14 ct14 : Value} {cd14 : Value} {od14 an14 : Option Addr} {sl14 : Array (Option Value)}
    {f15 : Addr} {oc15 kV15 dc15 pm15 ct15 : Value} {cd15 : Value} {od15 an15 : Option Addr} {sl15 : Array (Option Value)}
    {f16 : Addr} {oc16 kV16 dc16 pm16 ct16 : Value} {cd16 : Value} {od16 an16 : Option Addr} {sl16 : Array (Option Value)}
    {f17 : Addr} {oc17 kV17 dc17 pm17 ct17 : Value} {cd17 : Value} {od17 an17 : Option Addr} {sl17 : Array (Option Value)}
    {f18 : Addr} {oc18 kV18 dc18 pm18 ct18 : Value} {cd18 : Value} {od18 an18 : Option Addr} {sl18 : Array (Option Value)}
    {f19 : Addr} {oc19 kV19 dc19 pm19 ct19 : Value} {cd19 : Value} {od19 an19 : Option Addr} {sl19 : Array (Option Value)}
    {u1 u2 : Tok} {T : Addr} {oct : Value} {odt : Option Addr} {vst : Array Value} {slt : Array (Option Value)} {d8 : DefRec}
    (a1 : PySem.W.nsIn K mainGlobals "is_integer" = some (some (.ref f1))) (l1 : K.lookup f1 = some ⟨oc1, od1, .func (PySem.W.fnOf "is_integer" "is_integer" (C8.fnArgs (topS 1)) (C8.fnBody (topS 1)) (C8.fnScope (topS 1)) .none kV1 dc1 pm1 an1 cd1 ct1), sl1⟩) (c1h : PySem.W.codeIn K cd1 "is_integer" = true) (k1 : PySem.W.keepIn K (.ref f1) = true)
    (a2 : PySem.W.nsIn K mainGlobals "is_within" = some (some (.ref f2))) (l2 : K.lookup f2 = some ⟨oc2, od2, .func (PySem.W.fnOf "is_within" "is_within" (C8.fnArgs (topS 2)) (C8.fnBody (topS 2)) (C8.fnScope (topS 2)) .none kV2 dc2 pm2 an2 cd2 ct2), sl2⟩) (c2h : PySem.W.codeIn K cd2 "is_within" = true) (k2 : PySem.W.keepIn K (.ref f2) = true)
    (a3 : PySem.W.nsIn K mainGlobals "is_row" = some (some (.ref f3))) (l3 : K.lookup f3 = some ⟨oc3, od3, .func (PySem.W.fnOf "is_row" "is_row" (C8.fnArgs (topS 3)) (C8.fnBody (topS 3)) (C8.fnScope (topS 3)) .none kV3 dc3 pm3 an3 cd3 ct3), sl3⟩) (c3h : PySem.W.codeIn K cd3 "is_row" = true) (k3 : PySem.W.keepIn K (.ref f3) = true)
    (a7 : PySem.W.nsIn K mainGlobals "is_letter" = some (some (.ref f7))) (l7 : K.lookup f7 = some ⟨oc7, od7, .func (PySem.W.fnOf "is_letter" "is_letter" (C8.fnArgs (topS 7)) (C8.fnBody (topS 7)) (C8.fnScope (topS 7)) .none kV7 dc7 pm7 an7 cd7 ct7), sl7⟩) (c7h : PySem.W.codeIn K cd7 "is_letter" = true) (k7 : PySem.W.keepIn K (.ref f7) = true)
    (a8 : PySem.W.nsIn K mainGlobals "is_straight" = some (some (.ref f8))) (l8 : K.lookup f8 = some ⟨oc8, od8, .func (PySem.W.fnOf "is_straight" "is_straight" (C8.fnArgs (topS 8)) (C8.fnBody (topS 8)) (C8.fnScope (topS 8)) .none kV8 dc8 pm8 an8 (.ref c8) ct8), sl8⟩) (c8h : PySem.W.codeIn K (.ref c8) "is_straight" = true) (k8 : PySem.W.keepIn K (.ref f8) = true)
    (a9 : PySem.W.nsIn K mainGlobals "_is_rule" = some (some (.ref f9))) (l9 : K.lookup f9 = some ⟨oc9, od9, .func (PySem.W.fnOf "_is_rule" "_is_rule" (C8.fnArgs (topS 9)) (C8.fnBody (topS 9)) (C8.fnScope (topS 9)) .none kV9 dc9 pm9 an9 cd9 ct9), sl9⟩) (c9h : PySem.W.codeIn K cd9 "_is_rule" = true) (k9 : PySem.W.keepIn K (.ref f9) = true)
    (a11 : PySem.W.nsIn K mainGlobals "_law_cup" = some (some (.ref f11))) (l11 : K.lookup f11 = some ⟨oc11, od11, .func (PySem.W.fnOf "_law_cup" "_law_cup" (C8.fnArgs (topS 11)) (C8.fnBody (topS 11)) (C8.fnScope (topS 11)) .none kV11 dc11 pm11 an11 cd11 ct11), sl11⟩) (c11h : PySem.W.codeIn K cd11 "_law_cup" = true) (k11 : PySem.W.keepIn K (.ref f11) = true)
    (a12 : PySem.W.nsIn K mainGlobals "_law_sip" = some (some (.ref f12))) (l12 : K.lookup f12 = some ⟨oc12, od12, .func (PySem.W.fnOf "_law_sip" "_law_sip" (C8.fnArgs (topS 12)) (C8.fnBody (topS 12)) (C8.fnScope (topS 12)) .none kV12 dc12 pm12 an12 cd12 ct12), sl12⟩) (c12h : PySem.W.codeIn K cd12 "_law_sip" = true) (k12 : PySem.W.keepIn K (.ref f12) = true)
    (a13 : PySem.W.nsIn K mainGlobals "_law_same" = some (some (.ref f13))) (l13 : K.lookup f13 = some ⟨oc13, od13, .func (PySem.W.fnOf "_law_same" "_law_same" (C8.fnArgs (topS 13)) (C8.fnBody (topS 13)) (C8.fnScope (topS 13)) .none kV13 dc13 pm13 an13 cd13 ct13), sl13⟩) (c13h : PySem.W.codeIn K cd13 "_law_same" = true) (k13 : PySem.W.keepIn K (.ref f13) = true)
    (a14 : PySem.W.nsIn K mainGlobals "_law_is_whole" = some (some (.ref f14))) (l14 : K.lookup f14 = some ⟨oc14, od14, .func (PySem.W.fnOf "_law_is_whole" "_law_is_whole" (C8.fnArgs (topS 14)) (C8.fnBody (topS 14)) (C8.fnScope (topS 14)) .none kV14 dc14 pm14 an14 cd14 ct14), sl14⟩) (c14h : PySem.W.codeIn K cd14 "_law_is_whole" = true) (k14 : PySem.W.keepIn K (.ref f14) = true)
    (a15 : PySem.W.nsIn K mainGlobals "_law_bent" = some (some (.ref f15))) (l15 : K.lookup f15 = some ⟨oc15, od15, .func (PySem.W.fnOf "_law_bent" "_law_bent" (C8.fnArgs (topS 15)) (C8.fnBody (topS 15)) (C8.fnScope (topS 15)) .none kV15 dc15 pm15 an15 cd15 ct15), sl15⟩) (c15h : PySem.W.codeIn K cd15 "_law_bent" = true) (k15 : PySem.W.keepIn K (.ref f15) = true)
    (a16 : PySem.W.nsIn K mainGlobals "_law_text" = some (some (.ref f16))) (l16 : K.lookup f16 = some ⟨oc16, od16, .func (PySem.W.fnOf "_law_text" "_law_text" (C8.fnArgs (topS 16)) (C8.fnBody (topS 16)) (C8.fnScope (topS 16)) .none kV16 dc16 pm16 an16 cd16 ct16), sl16⟩) (c16h : PySem.W.codeIn K cd16 "_law_text" = true) (k16 : PySem.W.keepIn K (.ref f16) = true)
    (a17 : PySem.W.nsIn K mainGlobals "_law_is_straight" = some (some (.ref f17))) (l17 : K.lookup f17 = some ⟨oc17, od17, .func (PySem.W.fnOf "_law_is_straight" "_law_is_straight" (C8.fnArgs (topS 17)) (C8.fnBody (topS 17)) (C8.fnScope (topS 17)) .none kV17 dc17 pm17 an17 cd17 ct17), sl17⟩) (c17h : PySem.W.codeIn K cd17 "_law_is_straight" = true) (k17 : PySem.W.keepIn K (.ref f17) = true)
    (a18 : PySem.W.nsIn K mainGlobals "_law_near_one" = some (some (.ref f18))) (l18 : K.lookup f18 = some ⟨oc18, od18, .func (PySem.W.fnOf "_law_near_one" "_law_near_one" (C8.fnArgs (topS 18)) (C8.fnBody (topS 18)) (C8.fnScope (topS 18)) .none kV18 dc18 pm18 an18 cd18 ct18), sl18⟩) (c18h : PySem.W.codeIn K cd18 "_law_near_one" = true) (k18 : PySem.W.keepIn K (.ref f18) = true)
    (a19 : PySem.W.nsIn K mainGlobals "law" = some (some (.ref f19))) (l19 : K.lookup f19 = some ⟨oc19, od19, .func (PySem.W.fnOf "law" "law" (C8.fnArgs (topS 19)) (C8.fnBody (topS 19)) (C8.fnScope (topS 19)) .none kV19 dc19 pm19 an19 cd19 ct19), sl19⟩) (c19h : PySem.W.codeIn K cd19 "law" = true) (k19 : PySem.W.keepIn K (.ref f19) = true)
    (zisinstance : PySem.W.nsIn K mainGlobals "isinstance" = some none) (zint : PySem.W.nsIn K mainGlobals "int" = some none) (zbool : PySem.W.nsIn K mainGlobals "bool" = some none) (zstr : PySem.W.nsIn K mainGlobals "str" = some none) (ztuple : PySem.W.nsIn K mainGlobals "tuple" = some none) (zlist : PySem.W.nsIn K mainGlobals "list" = some none) (zlen : PySem.W.nsIn K mainGlobals "len" = some none) (zabs : PySem.W.nsIn K mainGlobals "abs" = some none) (zmax : PySem.W.nsIn K mainGlobals "max" = some none) (zall : PySem.W.nsIn K mainGlobals "all" = some none) (zrange : PySem.W.nsIn K mainGlobals "range" = some none) (zenumerate : PySem.W.nsIn K mainGlobals "enumerate" = some none) 
    (m1 : PySem.W.nsIn K mainGlobals "MOST_LETTER" = some (some (.int 20 u1))) (m2 : PySem.W.nsIn K mainGlobals "MOST_RULES" = some (some (.int 4000 u2)))
    (t1 : K.lookup c8 = some ⟨oct, odt, .fields vst, slt⟩) (t2 : vst[11]? = some (.ref T)) (t3 : K.lookup T = none) (t4 : (recsOf q).find? (fun e => e.name == ("is_straight" : Str)) = some d8) : LamX.LawAtS l w K C8.CX0 8 63 "script" mg fa h := by
  have G := TT.g
  have e := hfa.symm.trans (PySem.W.mg_of X G a19)
  cases e
  have F1 : C8.Def K mg "is_integer" (topS 1) _ _ := ⟨⟨_, _, _, _, _, _, _, _, _, _, rfl, l1, c1h⟩, PySem.W.mg_of X G a1, k1⟩
  have b1 := C8.Fun.binds F1.fn rfl (ps := ["thing"]) fun _ _ _ _ _ _ us hl => match us, hl with | [_], _ => rfl
  have F2 : C8.Def K mg "is_within" (topS 2) _ _ := ⟨⟨_, _, _, _, _, _, _, _, _, _, rfl, l2, c2h⟩, PySem.W.mg_of X G a2, k2⟩
  have b2 := C8.Fun.binds F2.fn rfl (ps := ["thing", "low", "high"]) fun _ _ _ _ _ _ us hl => match us, hl with | [_, _, _], _ => rfl
  have F3 : C8.Def K mg "is_row" (topS 3) _ _ := ⟨⟨_, _, _, _, _, _, _, _, _, _, rfl, l3, c3h⟩, PySem.W.mg_of X G a3, k3⟩
  have b3 := C8.Fun.binds F3.fn rfl (ps := ["thing", "low", "high"]) fun _ _ _ _ _ _ us hl => match us, hl with | [_, _, _], _ => rfl
  have F7 : C8.Def K mg "is_letter" (topS 7) _ _ := ⟨⟨_, _, _, _, _, _, _, _, _, _, rfl, l7, c7h⟩, PySem.W.mg_of X G a7, k7⟩
  have b7 := C8.Fun.binds F7.fn rfl (ps := ["thing"]) fun _ _ _ _ _ _ us hl => match us, hl with | [_], _ => rfl
  have F8 : C8.Def K mg "is_straight" (topS 8) _ _ := ⟨⟨_, _, _, _, _, _, _, _, _, _, rfl, l8, c8h⟩, PySem.W.mg_of X G a8, k8⟩
  have b8 := C8.Fun.binds F8.fn rfl (ps := ["thing"]) fun _ _ _ _ _ _ us hl => match us, hl with | [_], _ => rfl
  have F9 : C8.Def K mg "_is_rule" (topS 9) _ _ := ⟨⟨_, _, _, _, _, _, _, _, _, _, rfl, l9, c9h⟩, PySem.W.mg_of X G a9, k9⟩
  have b9 := C8.Fun.binds F9.fn rfl (ps := ["thing", "at"]) fun _ _ _ _ _ _ us hl => match us, hl with | [_, _], _ => rfl
  have F11 : C8.Def K mg "_law_cup" (topS 11) _ _ := ⟨⟨_, _, _, _, _, _, _, _, _, _, rfl, l11, c11h⟩, PySem.W.mg_of X G a11, k11⟩
  have b11 := C8.Fun.binds F11.fn rfl (ps := ["script"]) fun _ _ _ _ _ _ us hl => match us, hl with | [_], _ => rfl
  have F12 : C8.Def K mg "_law_sip" (topS 12) _ _ := ⟨⟨_, _, _, _, _, _, _, _, _, _, rfl, l12, c12h⟩, PySem.W.mg_of X G a12, k12⟩
  have b12 := C8.Fun.binds F12.fn rfl (ps := ["cup", "many"]) fun _ _ _ _ _ _ us hl => match us, hl with | [_, _], _ => rfl
  have F13 : C8.Def K mg "_law_same" (topS 13) _ _ := ⟨⟨_, _, _, _, _, _, _, _, _, _, rfl, l13, c13h⟩, PySem.W.mg_of X G a13, k13⟩
  have b13 := C8.Fun.binds F13.fn rfl (ps := ["found", "due"]) fun _ _ _ _ _ _ us hl => match us, hl with | [_, _], _ => rfl
  have F14 : C8.Def K mg "_law_is_whole" (topS 14) _ _ := ⟨⟨_, _, _, _, _, _, _, _, _, _, rfl, l14, c14h⟩, PySem.W.mg_of X G a14, k14⟩
  have b14 := C8.Fun.binds F14.fn rfl (ps := ["found"]) fun _ _ _ _ _ _ us hl => match us, hl with | [_], _ => rfl
  have F15 : C8.Def K mg "_law_bent" (topS 15) _ _ := ⟨⟨_, _, _, _, _, _, _, _, _, _, rfl, l15, c15h⟩, PySem.W.mg_of X G a15, k15⟩
  have b15 := C8.Fun.binds F15.fn rfl (ps := ["cup", "thing"]) fun _ _ _ _ _ _ us hl => match us, hl with | [_, _], _ => rfl
  have F16 : C8.Def K mg "_law_text" (topS 16) _ _ := ⟨⟨_, _, _, _, _, _, _, _, _, _, rfl, l16, c16h⟩, PySem.W.mg_of X G a16, k16⟩
  have b16 := C8.Fun.binds F16.fn rfl (ps := ["cup", "many", "cap"]) fun _ _ _ _ _ _ us hl => match us, hl with | [_, _, _], _ => rfl
  have F17 : C8.Def K mg "_law_is_straight" (topS 17) _ _ := ⟨⟨_, _, _, _, _, _, _, _, _, _, rfl, l17, c17h⟩, PySem.W.mg_of X G a17, k17⟩
  have b17 := C8.Fun.binds F17.fn rfl (ps := ["found"]) fun _ _ _ _ _ _ us hl => match us, hl with | [_], _ => rfl
  have F18 : C8.Def K mg "_law_near_one" (topS 18) _ _ := ⟨⟨_, _, _, _, _, _, _, _, _, _, rfl, l18, c18h⟩, PySem.W.mg_of X G a18, k18⟩
  have b18 := C8.Fun.binds F18.fn rfl (ps := ["cup", "rules"]) fun _ _ _ _ _ _ us hl => match us, hl with | [_, _], _ => rfl
  have F19 : C8.Def K mg "law" (topS 19) _ _ := ⟨⟨_, _, _, _, _, _, _, _, _, _, rfl, l19, c19h⟩, PySem.W.mg_of X G a19, k19⟩
  have b19 := C8.Fun.binds F19.fn rfl (ps := ["script"]) fun _ _ _ _ _ _ us hl => match us, hl with | [_], _ => rfl
  have B : Bl mg := ⟨PySem.W.mg_none_of X G zisinstance, PySem.W.mg_none_of X G zint, PySem.W.mg_none_of X G zbool, PySem.W.mg_none_of X G zstr, PySem.W.mg_none_of X G ztuple, PySem.W.mg_none_of X G zlist, PySem.W.mg_none_of X G zlen, PySem.W.mg_none_of X G zabs, PySem.W.mg_none_of X G zmax, PySem.W.mg_none_of X G zall, PySem.W.mg_none_of X G zrange, PySem.W.mg_none_of X G zenumerate, ⟨_, PySem.W.mg_of X G m1⟩, ⟨_, PySem.W.mg_of X G m2⟩⟩
  have ht : PySem.W.tabIn K "is_straight" = some (c8, T) := by
    unfold PySem.W.tabIn
    rw [a8]
    simp only [l8]
    show (match K.lookup c8 with | some ⟨_, _, .fields vs, _⟩ => (match (vs[11]? : Option Value) with | some (.ref P) => some (c8, P) | _ => none) | _ => none) = some (c8, T)
    rw [t1]
    simp only [t2]
  have tb := PySem.W.tab_of TT X t4 ht
  refine ⟨PySem.W.fnOf "law" "law" (C8.fnArgs (topS 19)) (C8.fnBody (topS 19)) (C8.fnScope (topS 19)) .none kV19 dc19 pm19 an19 cd19 ct19, [(c8, T)], spLaw K T, ?_, ?_, ?_, fun s v => .of_eq rfl, ?_, fun base _ _ hTB => ?_⟩
  rotate_left 3
  · intro H a ns _ _ hH hS
    exact ⟨a, ns, rfl, hS, ⟨#[], hH _ (List.mem_cons_self), trivial⟩, fun _ => rfl⟩
  · have c1 := ok_is_integer (P := l.prog) (w := w) (base := base) F1 b1 B
    have c2 := ok_is_within F2 b2 B c1
    have c3 := ok_is_row (P := l.prog) (w := w) (base := base) F3 b3 B
    have c7 := ok_is_letter F7 b7 B c2
    have c9 := ok__is_rule F9 b9 B c3 c7 c2 c1
    have FS := ok_is_straight (P := l.prog) (w := w) l8 c8h (hTB _ (List.mem_cons_self)) B c3 c9
    have mS := PySem.W.mg_of X G a8
    have CS : C8.Cal l.prog w K mg base 6 "is_straight" (spStraight K T) [] := ⟨_, _, _, _, FS, mS, k8, b8, .nil⟩
    have c11 := ok__law_cup (P := l.prog) (w := w) (base := base) F11 b11 B
    have c12 := ok__law_sip (P := l.prog) (w := w) (base := base) F12 b12 B
    have c13 := ok__law_same (P := l.prog) (w := w) (base := base) F13 b13 B
    have c14 := ok__law_is_whole (P := l.prog) (w := w) (base := base) F14 b14 B
    have c15 := bent_all (P := l.prog) (w := w) (base := base) F15 b15 B c12 3 (by omega)
    have c16 := ok__law_text F16 b16 B c12
    have c17 := ok__law_is_straight F17 b17 B c14
    have c18 := ok__law_near_one F18 b18 B c12
    refine ok_law F19 B c11 c12 c16 c15 c18 c17 c13 CS FS mS k8 ?_
    refine ⟨fun s us ws _ hl => ?_, fun r rz => r.append rz⟩
    match us, ws, hl with
    | [], [_], _ => exact .of_eq rfl
    | [_], [], _ => exact .of_eq rfl
    | [], [], hl => cases hl
    | [_], _ :: _, hl => simp at hl
    | [], _ :: _ :: _, hl => simp at hl
    | _ :: _ :: _, _, hl => simp at hl
  · intro p hp
    cases List.mem_singleton.mp hp
    exact tb.2
  · intro p hp
    cases List.mem_singleton.mp hp
    exact t3
  · intro p hp
    cases List.mem_singleton.mp hp
    exact tb.1
end K34


open PySem PySem.W PyProof.Rows
set_option maxRecDepth 100000 in
set_option maxHeartbeats 0 in
theorem PySem.Challenge.cw_undoneall_k34_straight_texts_judged_holds : PySem.Challenge.rw_undoneall_k34_straight_texts_judged.Holds := by
  w_on; o_law; k_head; (case hw => w_witness2)
  k_fill
  refine K34.walk (l := PySem.Challenge.rw_undoneall_k34_straight_texts_judged) (n := 63) (k := 8) (x := "script") (CX := fun _ => C8.CX0) rfl (by decide) rfl ⟨rfl, by decide, by decide⟩ (fun w h Y => PySem.W.kIn_of Y) ?F fun _ _ _ _ _ z => z
  case F =>
    intro w lo mean mg mb fa h TT KX hmg
    refine' K34.all_mk TT KX hmg ?a1 ?l1 ?c1h ?k1 ?a2 ?l2 ?c2h ?k2 ?a3 ?l3 ?c3h ?k3 ?a7 ?l7 ?c7h ?k7 ?a8 ?l8 ?c8h ?k8 ?a9 ?l9 ?c9h ?k9 ?a11 ?l11 ?c11h ?k11 ?a12 ?l12 ?c12h ?k12 ?a13 ?l13 ?c13h ?k13 ?a14 ?l14 ?c14h ?k14 ?a15 ?l15 ?c15h ?k15 ?a16 ?l16 ?c16h ?k16 ?a17 ?l17 ?c17h ?k17 ?a18 ?l18 ?c18h ?k18 ?a19 ?l19 ?c19h ?k19 ?zisinstance ?zint ?zbool ?zstr ?ztuple ?zlist ?zlen ?zabs ?zmax ?zall ?zrange ?zenumerate ?m1 ?m2 ?t1 ?t2 ?t3 ?t4
    (case a1 => k_is)
    (case l1 => k_is)
    (case c1h => k_is)
    (case k1 => k_is)
    (case a2 => k_is)
    (case l2 => k_is)
    (case c2h => k_is)
    (case k2 => k_is)
    (case a3 => k_is)
    (case l3 => k_is)
    (case c3h => k_is)
    (case k3 => k_is)
    (case a7 => k_is)
    (case l7 => k_is)
    (case c7h => k_is)
    (case k7 => k_is)
    (case a8 => k_is)
    (case l8 => k_is)
    (case c8h => k_is)
    (case k8 => k_is)
    (case a9 => k_is)
    (case l9 => k_is)
    (case c9h => k_is)
    (case k9 => k_is)
    (case a11 => k_is)
    (case l11 => k_is)
    (case c11h => k_is)
    (case k11 => k_is)
    (case a12 => k_is)
    (case l12 => k_is)
    (case c12h => k_is)
    (case k12 => k_is)
    (case a13 => k_is)
    (case l13 => k_is)
    (case c13h => k_is)
    (case k13 => k_is)
    (case a14 => k_is)
    (case l14 => k_is)
    (case c14h => k_is)
    (case k14 => k_is)
    (case a15 => k_is)
    (case l15 => k_is)
    (case c15h => k_is)
    (case k15 => k_is)
    (case a16 => k_is)
    (case l16 => k_is)
    (case c16h => k_is)
    (case k16 => k_is)
    (case a17 => k_is)
    (case l17 => k_is)
    (case c17h => k_is)
    (case k17 => k_is)
    (case a18 => k_is)
    (case l18 => k_is)
    (case c18h => k_is)
    (case k18 => k_is)
    (case a19 => k_is)
    (case l19 => k_is)
    (case c19h => k_is)
    (case k19 => k_is)
    (case zisinstance => k_is)
    (case zint => k_is)
    (case zbool => k_is)
    (case zstr => k_is)
    (case ztuple => k_is)
    (case zlist => k_is)
    (case zlen => k_is)
    (case zabs => k_is)
    (case zmax => k_is)
    (case zall => k_is)
    (case zrange => k_is)
    (case zenumerate => k_is)
    (case m1 => k_is)
    (case m2 => k_is)
    (case t1 => k_is)
    (case t2 => rfl)
    (case t3 => first | rfl | kernel_rfl | decide)
    (case t4 => rfl)

