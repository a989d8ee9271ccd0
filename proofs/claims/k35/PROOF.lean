import PyProof.Rows.All
import Wide.All
import OpenK.AllK
import Wide.FinOn
import HandS.AnyAll
import HandS.GenOver
import PyProof.GenQ
import HandS.Lambda
import HandS.Iter
import HandS.TupMul
import KE.GoesMore
import KE.GoesEnum
import HandS.TupAny
import HandS.Style
import HandS.ForMost
import HandS.Codes
import HandS.IsInst
import HandS.Wide
import HandS.Conv
import HandS.EndTab
import HandS.RaiseMore
import HandS.RevRange
import HandS.More
import PySem.Challenge.RW_undoneall_k35_whole_lengths_letters_bala
set_option Elab.async false
set_option linter.all false
set_option maxRecDepth 100000
set_option maxHeartbeats 4000000
/-! all(elt for target in iter), whatever PI walks: the element is judged in the generator's own frame -/
namespace UG
open PySem PySem.Spec PyProof.Rows L2

abbrev gcx (X : Cx) (A : Around) (N : List Str) (s : Shared) (H : Hp) (env : Env) (fp : List Addr) : Cx :=
  { X with
    A := A, N := N, s_0 := s, H_0 := H, env := env, outer := X.stack,
    stack := env :: X.stack, ex := fp, fn := fun _ => false,
    calm := true, pn := [], xe := fun _ _ => False }

structure GenSc (scope : Scope) : Prop where
  kind : scope.kind = .function
  co : scope.isCoroutine = false
  cell : ∀ y ∈ scope.names, y.2 ≠ .cell
  free : ∀ y ∈ scope.names, y.2 ≠ .free
  dot : scope.names.lookup (".0" : Str) = some NameKind.local

/-- the generator's environment -/
abbrev gev (X : Cx) (scope : Scope) (C : Addr) (code : Value) : Env :=
  genEnv scope (cloFrom X.env.cells scope.names []) C code builtinsNs X.env

section
variable {X : Cx} {pins : List (Addr × Obj)} {σ : L2.St} {H : Hp} {s : Shared} {scope : Scope}

theorem gev_cells (S : GenSc scope) {C : Addr} {code : Value} {x : Str} {c : Addr}
    (e : (gev X scope C code).cells.lookup x = some c) : False := by
  have m := PySem.mem_of_lookup e
  rcases cloFrom_mem (show (x, c) ∈ cloFrom X.env.cells scope.names [] from m) with z | ⟨z, _⟩
  · cases z
  · exact S.free _ z rfl

theorem gev_kind (S : GenSc scope) {C : Addr} {code : Value} {x : Str}
    (h : (gev X scope C code).kindOf x = some .cell ∨ (gev X scope C code).kindOf x = some .free) : False := by
  rcases h with h | h
  · exact S.cell _ (PySem.mem_of_lookup (show scope.names.lookup x = some NameKind.cell from h)) rfl
  · exact S.free _ (PySem.mem_of_lookup (show scope.names.lookup x = some NameKind.free from h)) rfl

theorem stk_lt (I : Inv X pins σ H s) {b : Addr} (hb : b ∈ frs X.stack) : b < s.heap.objs.size := by
  rcases List.mem_cons.mp (I.stkSub b hb) with e | z
  · rw [e]; exact I.lt
  · rcases Nat.lt_or_ge b s.heap.objs.size with h | h
    · exact h
    · exact absurd z (I.nofs h)

/-- the generator's frame, as it begins -/
theorem gen_begin (I : Inv X pins σ H s) (S : GenSc scope) {fp : List Addr} {N : List Str} {A' : Around} {code : Value} {s5 : Shared} {a : Addr} {go : Obj} {m : Str → Option Value}
    (hfp : ∀ b ∈ fp, FpOk X pins H b ∧ b < s.heap.objs.size) (hhd : A'.handled = none)
    (hfr : A'.frames = some (gev X scope s.heap.objs.size code :: X.stack))
    (kp : ∀ b o, s.heap.get? b = some o → s5.heap.get? b = some o) (hos : s5.os = s.os) (hb5 : AllBare s5.gens)
    (hns : s5.heap.Ns s.heap.objs.size m) (ha : s.heap.objs.size < a) (hgo : s5.heap.get? a = some go) (hdat : ∀ v, go.data ≠ .cell v) :
    Inv (gcx X A' N s H (gev X scope s.heap.objs.size code) fp) [(a, go)] (N.map fun _ => none) H s5 := by
  have okG : (gcx X A' N s H (gev X scope s.heap.objs.size code) fp).Ok := by
    refine ⟨I.ok.mod, S.kind, I.ok.glob, rfl, Nat.le_refl _, ?_, ?_, ?_, fun _ => hhd, hfr, .inr ⟨rfl, rfl⟩, ?_, I.bs, Nat.le_trans I.ok.bsz I.sz, ?_, ?_, I.stack, I.stkFree⟩
    · intro x y c e _
      exact (gev_cells S e).elim
    · intro x h
      exact (gev_kind S h).elim
    · intro x c h _
      cases h
    · intro b hb
      refine ⟨Nat.ne_of_lt (hfp b hb).2, ?_⟩
      intro x c e
      exact (gev_cells S e).elim
    · intro b o e hb
      rcases (hfp b hb).1.2.2.2.1 with z | z
      · exact I.ok.noex b o e z
      · have h1 := Heap.lt_size e
        have h2 := I.ok.bsz
        exact absurd (Nat.lt_of_lt_of_le h1 (Nat.le_trans h2 z)) (Nat.lt_irrefl _)
    · intro b hb z
      rcases List.mem_cons.mp (I.stkSub b z) with y | y
      · exact (hfp b hb).1.2.1 y
      · exact (hfp b hb).1.2.2.1 y
  refine ⟨okG, hos, hb5, Un.kept kp, ⟨m, hns, ?_⟩, ?_, I.hok.fresh (Nat.le_refl _), ?_, ?_, I.hok.kept kp, ?_⟩
  · intro i x v _ e _
    rw [List.getElem?_map] at e
    cases q : (gcx X A' N s H (gev X scope s.heap.objs.size code) fp).N[i]? with
    | none =>
      have q' : N[i]? = none := q
      rw [q'] at e; cases e
    | some y =>
      have q' : N[i]? = some y := q
      rw [q'] at e; cases e
  · intro x c e
    exact (gev_cells S e).elim
  · intro x c e
    exact (gev_cells S e).elim
  · intro p hp
    have e : p = (a, go) := by simpa using hp
    subst e
    refine ⟨hgo, I.hok.fresh (Nat.le_of_lt ha), Nat.ne_of_gt ha, ?_, hdat⟩
    intro z
    exact absurd (Nat.lt_trans ha (stk_lt I z)) (Nat.lt_irrefl _)
  · show (N.map _).length = N.length
    rw [List.length_map]

/-- what is held of the callers' frame when the generator's is left -/
theorem gen_back {fp : List Addr} {N : List Str} {A' : Around} {env : Env} {s' : Shared} {H' : Hp} {σ' : L2.St} {pg : List (Addr × Obj)}
    (I : Inv X pins σ H s) (hfp : ∀ b ∈ fp, FpOk X pins H b) (J : Inv (gcx X A' N s H env fp) pg σ' H' s') : Inv X pins σ H' s' :=
  I.call' (ch := fp) J.os J.base J.hok J.bare fun b hb => by
    obtain ⟨_, h1, _, h3, h4, h5⟩ := hfp b hb
    exact ⟨h3, h1, h4, h5⟩
end
end UG


set_option Elab.async false
set_option linter.all false
set_option maxRecDepth 100000
set_option maxHeartbeats 4000000
namespace UG
open PySem PySem.Spec PyProof.Rows L2

/-- the generator's loop code -/
abbrev geLoop (elt tg iter : Expr) (scope : Scope) (gpos : Pos) (it : Addr) (env : Env) : Code :=
  .compLoop (.GeneratorExp elt [⟨tg, iter, [], 0⟩] scope gpos) 0 (.ref it) .none env
abbrev geStart (elt tg iter : Expr) (scope : Scope) (gpos : Pos) (it : Addr) (env : Env) : Code :=
  .compStart (.GeneratorExp elt [⟨tg, iter, [], 0⟩] scope gpos) 0 (.ref it) .none env

theorem over_loopG {A : Around} {elt tg iter : Expr} {scope : Scope} {gpos : Pos} {it : Addr} {env : Env} :
    A.over (geLoop elt tg iter scope gpos it env) [] = A.deeper env := by
  obtain ⟨hd, d, fr, gs, u⟩ := A
  simp [Around.over, Around.deeper, marksOver, frameCount, unitsOf, envsOf, guardsOf, pushEnvs, pushGuards, Code.envs, Code.env?, Code.isFrame, Code.guards, Code.isGuard, Code.weight, Code.frames, Code.isCreation, Code.isCaller, Code.cUnits]
theorem over_startG {A : Around} {elt tg iter : Expr} {scope : Scope} {gpos : Pos} {it : Addr} {env : Env} :
    A.over (geStart elt tg iter scope gpos it env) [] = A.deeper env := by
  obtain ⟨hd, d, fr, gs, u⟩ := A
  simp [Around.over, Around.deeper, marksOver, frameCount, unitsOf, envsOf, guardsOf, pushEnvs, pushGuards, Code.envs, Code.env?, Code.isFrame, Code.guards, Code.isGuard, Code.weight, Code.frames, Code.isCreation, Code.isCaller, Code.cUnits]

/-- what the reading asks of the loop -/
structure Way (J : It) (g : TG) (te : TE) (σ0 : L2.St) (Q : VK) (top : Nat) (W : Nat → Hp → Prop) : Prop where
  turn : ∀ i H, W i H → (J.stop i H ∧ Q (.bl true) H) ∨ (i < top ∧ J.go i H ∧ ∀ x H', J.yld i H x H' → g x σ0 H' fun σ2 H2 => te σ2 H2 fun y H3 =>
    ∃ b : Bool, y = .bl b ∧ if b = true then W (i + 1) H3 else Q (.bl false) H3)

section
variable {X : Cx} {N : List Str} {s4 : Shared} {H4 : Hp} {env : Env} {fp : List Addr} {a : Addr} {go : Obj}
/-- the protocol: a truth comes out; behind a True one the walk goes on -/
def GY (X : Cx) (B : Around) (N : List Str) (s4 : Shared) (H4 : Hp) (env : Env) (fp : List Addr) (a : Addr) (go : Obj) (Q : VK) : Protocol := fun m s₀ v s kap =>
  ∃ (b : Bool) (H3 : Hp) (σ3 : L2.St), v = .bool b ∧ Inv (gcx X B N s4 H4 env fp) [(a, go)] σ3 H3 s ∧ (b = false → Q (.bl false) H3) ∧
    (b = true → ∀ s'' : Shared, s''.os = s.os → AllBare s''.gens → s''.heap = s.heap → kap (.send .none) s'')
def GP (X : Cx) (B : Around) (N : List Str) (s4 : Shared) (H4 : Hp) (env : Env) (fp : List Addr) (a : Addr) (go : Obj) (Q : VK) : Nat → Shared → Shared → Prop := fun _ _ s1 =>
  ∃ (H3 : Hp) (σ3 : L2.St), Inv (gcx X B N s4 H4 env fp) [(a, go)] σ3 H3 s1 ∧ Q (.bl true) H3

theorem inv_same {X' : Cx} {pins : List (Addr × Obj)} {σ : L2.St} {H : Hp} {s s'' : Shared} (I : Inv X' pins σ H s) (h1 : s''.os = s.os) (h2 : AllBare s''.gens) (h3 : s''.heap = s.heap) : Inv X' pins σ H s'' := by
  obtain ⟨hh, g, d, t, o⟩ := s''
  cases h1
  cases h3
  exact ⟨I.ok, I.os, h2, I.base, I.loc, I.cell, I.free, I.freeC, I.pin, I.hok, I.len⟩

theorem seg_walk {B : Around} {elt tg iter : Expr} {scope : Scope} {gpos : Pos} {it : Addr} {tn : Nat → Heap → Prop} {J : It} {g : TG} {te : TE} {Q : VK} {top : Nat} {W : Nat → Hp → Prop}
    (hco : env.scope.isCoroutine = false)
    (T : Turn X.prog X.w X.K tg J fp it tn) (hg : PG (gcx X (B.deeper env) N s4 H4 env fp) tg g) (he : PE (gcx X (B.deeper env) N s4 H4 env fp) elt te)
    (hfa : a ∉ fp) (way : Way J g te (N.map fun _ => none) Q top W) :
    ∀ (n i : Nat) (s₀ s : Shared) (H : Hp), top - i ≤ n → Inv (gcx X (B.deeper env) N s4 H4 env fp) [(a, go)] (N.map fun _ => none) H s → tn i s.heap → (∀ b ∈ fp, H b = none) → W i H →
      ∃ k, k ≤ n ∧ Seg (model X.prog X.w) B (fun n s₀ r s₁ => r = .ok .next ∧ GP X (B.deeper env) N s4 H4 env fp a go Q n s₀ s₁) (GY X (B.deeper env) N s4 H4 env fp a go Q) n s₀
        (geLoop elt tg iter scope gpos it env) ((model X.prog X.w).den (geLoop elt tg iter scope gpos it env)) [] s := by
  have stat : ∀ {pl : List (Addr × Obj)} {σ' : L2.St} {H' : Hp} {s' : Shared}, Inv (gcx X (B.deeper env) N s4 H4 env fp) pl σ' H' s' → (∀ b ∈ fp, H' b = none) → (∀ p ∈ pl, p.1 = a) → ∀ b ∈ fp, FpOk (gcx X (B.deeper env) N s4 H4 env fp) pl H' b := by
    intro pl σ' H' s' I' hn hpl b hb
    refine ⟨hn b hb, (I'.ok.exf b hb).1, I'.ok.exfs b hb, .inl hb, (I'.ok.exf b hb).2, ?_⟩
    intro p hp z
    have hp' : p ∈ pl := by simpa using hp
    rw [hpl p hp'] at z
    exact hfa (z ▸ hb)
  have one : ∀ p ∈ [(a, go)], p.1 = a := by
    intro p hp
    have e : p = (a, go) := by simpa using hp
    rw [e]
  intro n
  induction n with
  | zero =>
    intro i s₀ s H hi I st nf w
    refine ⟨0, Nat.le_refl _, ?_⟩
    rcases way.turn i H w with ⟨stop, q⟩ | ⟨lt, _⟩
    · show Seg _ B _ _ _ s₀ _ ((compTurn (.GeneratorExp elt [⟨tg, iter, [], 0⟩] scope gpos) 0 (.ref it) .none env).onRaise (leaving env)) [] s
      rw [compTurn_gen, Sem.onRaise_eq_wrap]
      refine seg_bind_wrap (wpAny_standAt ?_)
      refine seg_bind_wrap ?_
      rw [over_loopG]
      have td := T.done (gcx X (B.deeper env) N s4 H4 env fp) rfl rfl rfl rfl i [(a, go)] s _ H (fun _ _ => False) I (stat I nf one) st stop
      refine thnF td ?_
      rintro r s6 ⟨rfl, I6⟩
      exact seg_end (.ok .next) ⟨rfl, H, _, I6, q⟩
    · omega
  | succ n ih =>
    intro i s₀ s H hi I st nf w
    refine ⟨n + 1, Nat.le_refl _, ?_⟩
    show Seg _ B _ _ _ s₀ _ ((compTurn (.GeneratorExp elt [⟨tg, iter, [], 0⟩] scope gpos) 0 (.ref it) .none env).onRaise (leaving env)) [] s
    rw [compTurn_gen, Sem.onRaise_eq_wrap]
    refine seg_bind_wrap (wpAny_standAt ?_)
    refine seg_bind_wrap ?_
    rw [over_loopG]
    rcases way.turn i H w with ⟨stop, q⟩ | ⟨lt, jgo, step⟩
    · have td := T.done (gcx X (B.deeper env) N s4 H4 env fp) rfl rfl rfl rfl i [(a, go)] s _ H (fun _ _ => False) I (stat I nf one) st stop
      refine thnF td ?_
      rintro r s6 ⟨rfl, I6⟩
      exact seg_end (.ok .next) ⟨rfl, H, _, I6, q⟩
    · have ti := T.item (gcx X (B.deeper env) N s4 H4 env fp) rfl rfl rfl rfl i [(a, go)] s _ H (fun _ _ => False) I (stat I nf one) st jgo
      refine thnF ti ?_
      rintro r s6 ⟨u, rfl, h6⟩
      refine seg_bind_wrap ?_
      rw [over_loopG]
      refine thnF h6 ?_
      rintro _ s7 ⟨x, H7, I7, r7, y7, st7, n7⟩
      have I7' := I7.pinned (stat I7 n7 one) (T.obj _ _ st7)
      refine seg_bind_wrap ?_
      rw [over_loopG]
      refine thnF (hg.run _ s7 _ H7 x u _ I7' r7 (step x H7 y7)) ?_
      rintro _ s8 ⟨σ8, H8, I8, q8⟩
      simp only [List.forIn_nil]
      refine seg_bind_wrap (wpAny_pure ?_)
      simp only [if_true]
      have hy : ∀ v, yieldOut env v = yieldValue v := fun v => by simp only [yieldOut, hco, Bool.false_eq_true, if_false]
      simp only [hy]
      rw [Sem.bind_eq_wrap', Sem.bind_eq_wrap', Sem.wrap_wrap, Sem.wrap_wrap]
      refine seg_wrap ?_
      rw [over_loopG]
      refine thnF (he.run _ s8 σ8 H8 _ I8 q8) ?_
      rintro yv s9 ⟨y, H9, I9, r9, b, rfl, q9⟩
      have ey : yv = Value.bool b := r9
      subst ey
      -- the iterator's objects stand as they stood
      have pin' : ∀ c ∈ fp, ∀ o, s7.heap.get? c = some o → s9.heap.get? c = some o ∧ H9 c = none := fun c hc o e =>
        let z := I9.pin (c, o) (List.mem_append_right _ (List.mem_append_right _ (mem_pinsAt hc e)))
        ⟨z.1, z.2.1⟩
      have st9 : tn (i + 1) s9.heap := T.keep _ _ _ st7 fun c hc o e => (pin' c hc o e).1
      have n9 : ∀ c ∈ fp, H9 c = none := fun c hc => by
        obtain ⟨o, e, _⟩ := T.obj _ _ st7 c hc
        exact (pin' c hc o e).2
      have I9' : Inv (gcx X (B.deeper env) N s4 H4 env fp) [(a, go)] σ8 H9 s9 := I9.unpinned (pins := [(a, go)])
      refine seg_at (seg_yield rfl rfl rfl ⟨b, H9, σ8, rfl, I9', fun hb => ?_, fun hb s'' h1 h2 h3 => ?_⟩)
      · rw [hb] at q9
        simpa using q9
      · rw [hb] at q9
        have q9' : W (i + 1) H9 := by simpa using q9
        have Iw : Inv (gcx X (B.deeper env) N s4 H4 env fp) [(a, go)] (N.map fun _ => none) H9 s9 := I9'.weak (by rw [I9'.len, List.length_map]) fun j v e => by
          rw [List.getElem?_map] at e
          cases q : N[j]? with
          | none => rw [q] at e; cases e
          | some y => rw [q] at e; cases e
        obtain ⟨k, _, z⟩ := ih (i + 1) s'' s'' H9 (by omega) (inv_same Iw h1 h2 h3) (by rw [h3]; exact st9) n9 q9'
        refine seg_again rfl z
end
end UG


set_option Elab.async false
set_option linter.all false
set_option maxRecDepth 100000
set_option maxHeartbeats 4000000
namespace UG
open PySem PySem.Spec PyProof.Rows L2

section
variable {X : Cx} {N : List Str} {s4 : Shared} {H4 : Hp} {env : Env} {fp : List Addr} {a : Addr} {go : Obj}

theorem bare_set {s : Shared} {g : Nat} {x : GenState} (h : AllBare s.gens) (hx : x.bare = true) : AllBare (s.setGen g x).gens := by
  intro y hy
  have hy' : y ∈ s.gens.setIfInBounds g x := hy
  rcases Array.mem_or_eq_of_mem_setIfInBounds hy' with z | z
  · exact h y z
  · rw [z]; exact hx

theorem get_set {s : Shared} {g : Nat} {x : GenState} (h : g + 1 ≤ (s.setGen g x).gens.size) : (s.setGen g x).gens[g]? = some x := by
  have h1 : (s.setGen g x).gens.size = s.gens.size := GenW.setGen_size s g x
  have h2 : g < s.gens.size := by omega
  show (s.gens.setIfInBounds g x)[g]? = some x
  simp [h2]

/-- the consumer: all's own loop over the generator at a -/
theorem all_turns {A : Around} {g : Nat} {Q : VK} {R : Result → Shared → Prop} (hh : A.handled = none) (hroom : A.depth < recursionLimit)
    (hIG : ∀ (s : Shared), s.heap.get? a = some go → s.heap.IsGen a g)
    (hR : ∀ (b : Bool) (s : Shared) (H3 : Hp) (σ3 : L2.St), Inv (gcx X ((A.in1.in1).deeper env) N s4 H4 env fp) [(a, go)] σ3 H3 s → Q (.bl b) H3 → R (.ok (.ret (.bool b))) s) :
    ∀ (n : Nat) (s : Shared) (gs : GenState) (σ3 : L2.St) (H3 : Hp), s.gens[g]? = some gs → Inv (gcx X ((A.in1.in1).deeper env) N s4 H4 env fp) [(a, go)] σ3 H3 s →
      gs.Goes (model X.prog X.w) A.in1.in1 (fun n s₀ r s₁ => r = .ok .next ∧ GP X ((A.in1.in1).deeper env) N s4 H4 env fp a go Q n s₀ s₁) (GY X ((A.in1.in1).deeper env) N s4 H4 env fp a go Q) n (.send .none) (s.setGen g .running) →
      codeAny (model X.prog X.w) A (.builtin "all.loop" ⟨[.ref a], []⟩) R s := by
  intro n
  induction n with
  | zero =>
    intro s gs σ3 H3 hgs I hgo
    refine codeAny_builtin F.entry_all_loop ?_
    rw [Around.under_plainId F.plain_all_loop _]
    have hsz : g + 1 ≤ s.gens.size := by
      obtain ⟨h1, _⟩ := Array.getElem?_eq_some_iff.mp hgs
      exact h1
    have pa := (I.pin (a, go) (by simp)).1
    show wpAny _ A.in1 (pyNext (.ref a) >>= _) _ _ s
    refine wpAny_bind (GenW.wpAny_gsz hsz ?_)
    refine wpAny_pyNext_genexpQ (P := GP X ((A.in1.in1).deeper env) N s4 H4 env fp a go Q) hh I.nolimit hroom (hIG s pa) hgs hgo ?_ ?_
    · intro v s₁ gs' hb hY hsz1
      obtain ⟨b, H5, σ5, rfl, I5, q1, q2⟩ := hY
      cases b with
      | true => exact (q2 rfl s₁ rfl I5.bare rfl).elim
      | false =>
        refine wpAny_bind (wpAny_holding (wpAny_truthy_bool ?_))
        refine wpAny_bind (wpAny_letGo ?_)
        refine wpAny_bind (wpAny_rule (wpAny_pure ?_))
        exact hR false _ H5 σ5 (inv_same I5 rfl (bare_set I5.bare hb) rfl) (q1 rfl)
    · intro s₁ hp h' hk hsz1
      obtain ⟨H5, σ5, I5, q5⟩ := hp
      refine wpAny_bind (wpAny_rule (wpAny_pure ?_))
      refine hR true _ H5 σ5 ?_ q5
      have I6 := inv_same (s'' := s₁.setGen g .finished) I5 rfl (bare_set I5.bare rfl) rfl
      exact I6.kept (t' := s₁.toks) hk
  | succ n ih =>
    intro s gs σ3 H3 hgs I hgo
    refine codeAny_builtin F.entry_all_loop ?_
    rw [Around.under_plainId F.plain_all_loop _]
    have hsz : g + 1 ≤ s.gens.size := by
      obtain ⟨h1, _⟩ := Array.getElem?_eq_some_iff.mp hgs
      exact h1
    have pa := (I.pin (a, go) (by simp)).1
    show wpAny _ A.in1 (pyNext (.ref a) >>= _) _ _ s
    refine wpAny_bind (GenW.wpAny_gsz hsz ?_)
    refine wpAny_pyNext_genexpQ (P := GP X ((A.in1.in1).deeper env) N s4 H4 env fp a go Q) hh I.nolimit hroom (hIG s pa) hgs hgo ?_ ?_
    · intro v s₁ gs' hb hY hsz1
      obtain ⟨b, H5, σ5, rfl, I5, q1, q2⟩ := hY
      cases b with
      | true =>
        refine wpAny_bind (wpAny_holding (wpAny_truthy_bool ?_))
        refine wpAny_bind (wpAny_letGo ?_)
        simp only [if_true]
        refine wpAny_pure ⟨plainId_quiet F.plain_all_loop _, ?_⟩
        refine ih (s₁.setGen g gs') gs' σ5 H5 (get_set hsz1) (inv_same I5 rfl (bare_set I5.bare hb) rfl) ?_
        exact q2 rfl ((s₁.setGen g gs').setGen g .running) rfl (bare_set (bare_set I5.bare hb) rfl) rfl
      | false =>
        refine wpAny_bind (wpAny_holding (wpAny_truthy_bool ?_))
        refine wpAny_bind (wpAny_letGo ?_)
        refine wpAny_bind (wpAny_rule (wpAny_pure ?_))
        exact hR false _ H5 σ5 (inv_same I5 rfl (bare_set I5.bare hb) rfl) (q1 rfl)
    · intro s₁ hp h' hk hsz1
      obtain ⟨H5, σ5, I5, q5⟩ := hp
      refine wpAny_bind (wpAny_rule (wpAny_pure ?_))
      refine hR true _ H5 σ5 ?_ q5
      have I6 := inv_same (s'' := s₁.setGen g .finished) I5 rfl (bare_set I5.bare rfl) rfl
      exact I6.kept (t' := s₁.toks) hk
end
end UG


set_option Elab.async false
set_option linter.all false
set_option maxRecDepth 100000
set_option maxHeartbeats 4000000
namespace UG
open PySem PySem.Spec PyProof.Rows L2

def tAllG (P : Addr) (wi : TI) (g : TG) (te : TE) (σ0 : L2.St) : TE := fun σ H Q => wi σ H fun J H1 =>
  GxR.TabG H1 P ∧ ∃ (top : Nat) (W : Nat → Hp → Prop), Way J g te σ0 Q top W ∧ ∀ H2, GxR.Tabbed P H1 H2 → W 0 H2

section
variable {X : Cx}
theorem pe_allG {c P : Addr} {elt tg iter : Expr} {p pos gpos : Pos} {scope : Scope} {wi : TI} {g : TG} {te : TE} {N : List Str} {k : Nat}
    (hr : Room (k + 1) X.A) (hg : Gl X "all") (hm : X.mg "all" = none) (hb : bootBuiltins "all" = some (.builtin "all")) (TB : LamX.TabB X.base X.mg c P) (hcode : X.env.code = .ref c)
    (S : GenSc scope) (hi : PI X tg iter wi)
    (hgt : ∀ (A' : Around) (s : Shared) (H : Hp) (C : Addr) (code : Value) (fp : List Addr), Room k A' → PG (gcx X A' N s H (gev X scope C code) fp) tg g)
    (hel : ∀ (A' : Around) (s : Shared) (H : Hp) (C : Addr) (code : Value) (fp : List Addr), Room k A' → PE (gcx X A' N s H (gev X scope C code) fp) elt te)
    (hs : ∀ v, genFold iter X.env v = pure v := by intro _; rfl)
    (he : starEach [.GeneratorExp elt [⟨tg, iter, [], 0⟩] scope gpos] X.env = (false, eval (.GeneratorExp elt [⟨tg, iter, [], 0⟩] scope gpos) X.env) :: starEach [] X.env := by rfl) :
    PE X (.Call (.Name "all" p) [.GeneratorExp elt [⟨tg, iter, [], 0⟩] scope gpos] [] pos) (tAllG P wi g te (N.map fun _ => none)) := by
  refine ⟨fun pins s σ H Q I h => ?_⟩
  refine wpAny_Call_Name_kw (ld_blt I hg hm hb ?_)
  refine PyProof.Rows.callWith_builtin1 ?_ he (by rfl)
  rw [he]
  show wpAny _ _ (spliced ((false, eval (.GeneratorExp elt [⟨tg, iter, [], 0⟩] scope gpos) X.env) :: backTo pos (starEach [] X.env))) _ _ s
  refine Calls.spliced_cons ?_
  have hclos := closure_ok (scope := scope) (env := X.env) fun y hy e => (S.free y hy e).elim
  refine wpAny_GeneratorExp_make S.co hclos S.cell S.dot S.kind (by have := hr.dp; omega) ?_ hs
  refine thn (hi.run pins s σ H _ I h) fun xv s1 hx => thn hx fun itv s2 h2 => ?_
  obtain ⟨it, fp, tn, J, H2, e, I2, T, st2, f2, ⟨ps, hP, ht⟩, top, W, way, w0⟩ := h2
  subst e
  refine ⟨I2.nolimit, ?_⟩
  have hPs : s2.heap.get? P = some { cls := .none, data := .fields ps } := I2.hok P _ hP
  have hPlt : P < s2.heap.objs.size := Heap.lt_size hPs
  have cd : PySem.W.CodeHd s2.heap c P := TB.code.keeps I2.bk
  have szF : ∀ b ∈ fp, b < s2.heap.objs.size := fun b hbf => by
    obtain ⟨o, e, _⟩ := T.obj _ _ st2 b hbf
    exact Heap.lt_size e
  have nPf : ∀ b ∈ fp, b ≠ P := fun b hbf z => by
    have q := (f2 b hbf).1
    rw [z, hP] at q
    cases q
  -- behind the making of the code object
  have cont : ∀ (code : Value) (h3 : Heap) (tk : Nat) (more : Array Value), (∀ b o, b ≠ P → s2.heap.get? b = some o → h3.get? b = some o) → s2.heap.objs.size ≤ h3.objs.size →
      h3.get? P = some { cls := .none, data := .fields (ps ++ more) } → TriplesOk (ps ++ more).toList →
      wpAny (model X.prog X.w) X.A (builtinsFor X.env.globals X.env.builtins) (fun bi s₄ => ∀ h', h'.Ns s₄.heap.objs.size (fun y => if y = (".0" : Str) then some (.ref it) else none) →
        Heap.SameBut s₄.heap.objs.size (s₄.heap.push { cls := .type "frame", data := .dict #[] }) h' →
        wpAny (model X.prog X.w) X.A (spliced (backTo pos (starEach [] X.env))) (fun ws s5 => wpAny (model X.prog X.w) X.A (call (.builtin "all") (.ref h'.objs.size :: ws)) (EP X pins σ Q) X.xe s5) X.xe
          { s₄ with
            gens := s₄.gens.push (.fresh (.compStart (.GeneratorExp elt [⟨tg, iter, [], 0⟩] scope gpos) 0 (.ref it) .none (genEnv scope (cloFrom X.env.cells scope.names []) s₄.heap.objs.size code bi X.env))),
            toks := s₄.toks + 1 + 1 + 1,
            heap := h'.push { cls := .type "generator", data := .fields #[.int s₄.gens.size 0, .str "<genexpr>" (s₄.toks + 1), .str (X.env.qual ++ "<genexpr>") (s₄.toks + 1 + 1)] } }) X.xe { s2 with heap := h3, toks := tk } := by
    intro code h3 tk more k3 sz3 hP3 ht3
    obtain ⟨bm, ob, e1, e2, e3, e4, e5, e6, e7, e8⟩ := TB.bm
    have nsG : h3.Ns X.env.globals X.mg := by
      rw [I2.ok.glob]
      obtain ⟨o, es, ep, ho, r⟩ := I2.mod.glob.keeps I2.bk
      exact ⟨o, es, ep, k3 _ o TB.gP ho, r⟩
    refine wpAny_builtinsFor (m := X.mg) nsG e1 e2 (k3 _ _ e4 (I2.bk _ _ e5)) e6 e7 e8 ?_
    intro h' hn' hsb
    have I4 : Inv X pins σ (upd H2 P (.tbl (ps ++ more))) { s2 with heap := h3, toks := tk } :=
      GxR.inv_tab (g' := s2.gens) (d' := s2.drawn) I2 hP k3 hP3 I2.bare
    generalize hs4 : ({ s2 with heap := h3, toks := tk } : Shared) = s4 at I4 hn' hsb ⊢
    have h4 : s4.heap = h3 := by rw [← hs4]
    have st4 : tn 0 s4.heap := T.keep _ _ _ st2 fun b hbf o e => by rw [h4]; exact k3 b o (nPf b hbf) e
    have f4 : ∀ b ∈ fp, FpOk X pins (upd H2 P (.tbl (ps ++ more))) b ∧ b < s4.heap.objs.size := fun b hbf => by
      refine ⟨⟨by rw [upd_ne (nPf b hbf)]; exact (f2 b hbf).1, (f2 b hbf).2⟩, ?_⟩
      rw [h4]
      exact Nat.lt_of_lt_of_le (szF b hbf) sz3
    have szh : h'.objs.size = s4.heap.objs.size + 1 := by rw [hsb.1, Heap.size_push]
    have kp' : ∀ b o, s4.heap.get? b = some o → h'.get? b = some o := fun b o e => hsb.extBut b o (Nat.ne_of_lt (Heap.lt_size e)) (Heap.get?_push_of_some _ e)
    generalize hgo : ({ cls := .type "generator", data := .fields #[.int s4.gens.size 0, .str "<genexpr>" (s4.toks + 1), .str (X.env.qual ++ "<genexpr>") (s4.toks + 1 + 1)] } : Obj) = go
    generalize hs5 : ({ s4 with
            gens := s4.gens.push (.fresh (.compStart (.GeneratorExp elt [⟨tg, iter, [], 0⟩] scope gpos) 0 (.ref it) .none (genEnv scope (cloFrom X.env.cells scope.names []) s4.heap.objs.size code builtinsNs X.env))),
            toks := s4.toks + 1 + 1 + 1,
            heap := h'.push go } : Shared) = s5
    have h5 : s5.heap = h'.push go := by rw [← hs5]
    have kp5 : ∀ b o, s4.heap.get? b = some o → s5.heap.get? b = some o := fun b o e => by rw [h5]; exact Heap.get?_push_of_some _ (kp' b o e)
    have ga : s5.heap.get? h'.objs.size = some go := by rw [h5]; exact Heap.get?_push_size _ (by rw [← hgo] <;> rfl)
    have bare5 : AllBare s5.gens := by
      rw [← hs5]
      exact I4.bare.push rfl
    have g5 : s5.gens[s4.gens.size]? = some (.fresh (geStart elt tg iter scope gpos it (gev X scope s4.heap.objs.size code))) := by
      rw [← hs5]
      exact Array.getElem?_push_size ..
    have hA' : Room k ((X.A.in1.in1).deeper (gev X scope s4.heap.objs.size code)) := by
      refine ⟨hr.hd, ?_, ?_⟩
      · have := hr.dp
        show X.A.depth + 1 + 3 * k + 5 < _
        omega
      · have := hr.un
        show X.A.units + 1 + 1 + 3 + 16 * k + 200 < _
        omega
    have J5 := gen_begin (N := N) (fp := fp) (A' := (X.A.in1.in1).deeper (gev X scope s4.heap.objs.size code)) (s5 := s5) (a := h'.objs.size) (go := go) I4 S f4 hr.hd
      (Around.frames_deeper (A := X.A.in1.in1) I4.ok.frames) kp5 (by rw [← hs5]) bare5 (by rw [h5]; exact hn'.push _) (by rw [szh]; exact Nat.lt_succ_self _) ga (by rw [← hgo]; intro v z; cases z)
    refine Calls.spliced_nil ?_
    refine call_function_tree F.kind_all F.plain_all F.entry_all (F.args_all1 _) ?_
    unfold Builtin.«all»
    refine wpAny_bind (m := oneArg "all" _) (wpAny_pure ?_)
    have isG : s5.heap.IsGen h'.objs.size s4.gens.size := ⟨go, _, _, ga, by rw [← hgo], by rw [← hgo], by rw [← hgo]⟩
    refine wpAny_bind (wpAny_pyIter_gen isG ?_)
    refine wpAny_pure ⟨plainId_quiet F.plain_all_loop _, ?_⟩
    have w4 : W 0 (upd H2 P (.tbl (ps ++ more))) := w0 _ ⟨⟨_, upd_same, ht3⟩, fun b hbn => upd_ne hbn⟩
    refine all_turns (X := X) (N := N) (s4 := s4) (H4 := upd H2 P (.tbl (ps ++ more))) (env := gev X scope s4.heap.objs.size code) (fp := fp) (a := h'.objs.size) (go := go) (g := s4.gens.size) (Q := Q)
      hr.hd (by have := hr.dp; show X.A.depth < _; omega) (fun s6 h6 => ⟨go, _, _, h6, by rw [← hgo], by rw [← hgo], by rw [← hgo]⟩) ?_ top s5 _ _ _ g5 J5 ?_
    · intro b s6 H6 σ6 I6 q6
      exact ⟨.bl b, H6, gen_back I4 (fun b hbf => (f4 b hbf).1) I6, rfl, q6⟩
    · refine ⟨rfl, ?_⟩
      have J6 := inv_same (s'' := s5.setGen s4.gens.size .running) J5 rfl (bare_set J5.bare rfl) rfl
      have st5 : tn 0 s5.heap := T.keep _ _ _ st4 fun b _ o e => kp5 b o e
      have nf : ∀ b ∈ fp, upd H2 P (.tbl (ps ++ more)) b = none := fun b hbf => (f4 b hbf).1.1
      have faN : h'.objs.size ∉ fp := fun z => by
        have q := (f4 _ z).2
        rw [szh] at q
        exact Nat.lt_irrefl _ (Nat.lt_trans (Nat.lt_succ_self _) q)
      have loop : ∀ s₀, ∃ k, k ≤ top ∧ _ := fun s₀ => seg_walk (X := X) (B := X.A.in1.in1) (N := N) (s4 := s4) (H4 := upd H2 P (.tbl (ps ++ more))) (env := gev X scope s4.heap.objs.size code) (fp := fp) (a := h'.objs.size) (go := go)
        (gpos := gpos) (elt := elt) (iter := iter) (scope := scope) (Q := Q) (top := top) (W := W) S.co T (hgt _ _ _ _ _ _ hA') (hel _ _ _ _ _ _ hA') faN way top 0 s₀ (s5.setGen s4.gens.size .running) _ (Nat.sub_le _ _) J6 st5 nf w4
      obtain ⟨_, _, loop⟩ := loop (s5.setGen s4.gens.size .running)
      show Seg _ _ _ _ _ _ _ ((compStart (.GeneratorExp elt [⟨tg, iter, [], 0⟩] scope gpos) 0 (.ref it) .none (gev X scope s4.heap.objs.size code)).onRaise (leaving (gev X scope s4.heap.objs.size code))) [] _
      unfold compStart
      rw [Sem.onRaise_eq_wrap]
      show Seg _ _ _ _ _ _ _ ((ask >>= _).wrap _ _ _ _) [] _
      refine seg_bind_wrap (wpAny_askSetting ?_)
      split
      · exact seg_again rfl loop
      · refine seg_bind_wrap (wpAny_rule ?_)
        show Seg _ _ _ _ _ _ _ ((standAt iter.pos >>= _).wrap _ _ _ _) [] _
        refine seg_bind_wrap (wpAny_standAt ?_)
        refine seg_bind_wrap ?_
        exact T.self _ 0 _ _ _ st5 (seg_again rfl loop)
  cases hf : codeAmong gpos ps.toList with
  | none =>
    refine wpAny_genexprCodeX hcode (cd.code hPs ht) (cd.tab hPs) hf ?_
    intro c' h3 tk hx hge hlt hco' _ htab' _
    obtain ⟨o1, vs, f1, tf, fl, tg', inF, tx, tt, op, _, _, _, _, _, _, _, _, _, htr, _⟩ := hco'
    exact cont _ h3 tk _ (fun b o hbn e => hx b o hbn e) (Nat.le_trans hge (Nat.le_of_lt hlt)) htab'.2 htr
  | some cv =>
    refine wpAny_genexprCode_hit hcode (cd.code hPs ht) hf ?_
    have z := cont cv s2.heap s2.toks #[] (fun _ _ _ e => e) (Nat.le_refl _) (by rw [Array.append_empty]; exact hPs) (by rw [Array.append_empty]; exact ht)
    exact z
end
end UG


set_option Elab.async false
set_option linter.all false
set_option maxRecDepth 100000
set_option maxHeartbeats 4000000
/-! enumerate(t), t a tuple; t * n to some thousands -/
namespace UG
open PySem PySem.Spec PyProof.Rows L2

theorem enum_new1 {v : Value} {o : Obj} {H : Heap → Prop} (B : Begins v o H) :
    Meets (Builtin.«enumerate.__new__» ⟨[.type "enumerate", v], []⟩) (fun _ R s => H s.heap ∧
      R (.ok (.ret (.ref (s.heap.push o).objs.size))) { s with heap := (s.heap.push o).push { cls := .type "enumerate", data := .fields #[.none, .bool false, .ref s.heap.objs.size, rawInt 0, .none, .none] } }) :=
  .of_wp fun prog w A R s h => by
    obtain ⟨hp, g, d, tk, os⟩ := s
    obtain ⟨h1, h⟩ := h
    have hsub := sub_enumerate
    have goes : ∀ {A' : Around} {E : Value → Shared → Prop} {Q : Value → Shared → Prop}, Q (.ref hp.objs.size) ⟨hp.push o, g, d, tk, os⟩ → wpAny (model prog w) A' (pyIter v) Q E ⟨hp, g, d, tk, os⟩ :=
      fun q => B.iter prog w _ _ ⟨hp, g, d, tk, os⟩ _ h1 q
    wp_walk using goes
    refine wpAny_stack_any fun st => wpAny_pure ?_
    split
    · rename_i c _ _ _ _ _
      cases (c == Value.type "enumerate")
      all_goals (wp_walk using goes; exact ⟨_, rfl, h⟩)
    · wp_walk using goes
      exact ⟨_, rfl, h⟩

section
variable {prog : Program} {w : World} {A : Around} {E : Value → Shared → Prop} {s : Shared}
theorem enum_call1 {v : Value} {o : Obj} {H : Heap → Prop} {Q : Value → Shared → Prop} (B : Begins v o H) (h1 : H s.heap)
    (h : ∀ h', IsEnum h' (s.heap.objs.size + 1) s.heap.objs.size 0 .none → h'.get? s.heap.objs.size = some o →
      (∀ b o, s.heap.get? b = some o → h'.get? b = some o) → Q (.ref (s.heap.objs.size + 1)) { s with heap := h' }) :
    wpAny (model prog w) A (call (.type "enumerate") [v]) Q E s := by
  refine callType_new F.called_enumerate (by decide) (F.typeCall_enumerate_1 _) (F.newCall_enumerate_1 _)
    (fun obj => F.args_object_init_2 obj _) F.entry_enumerate_new (enum_new1 B) ⟨h1, ?_⟩
  have sz : (s.heap.push o).objs.size = s.heap.objs.size + 1 := Heap.size_push ..
  show _ ∧ _
  rw [sz]
  have atE := Heap.get?_push_size (s.heap.push o) (o := { cls := .type "enumerate", data := .fields #[.none, .bool false, .ref s.heap.objs.size, rawInt 0, .none, .none] }) rfl
  rw [sz] at atE
  refine ⟨⟨_, atE, rfl⟩, h _ atE (Heap.get?_push_of_some _ (Heap.get?_push_size _ B.free)) ?_⟩
  intro b o' e
  exact Heap.get?_push_of_some _ (Heap.get?_push_of_some _ e)
end

/-- the tuple at a, each item in a new pair -/
def Iet (K : PySem.W.Frag) (a : Addr) : It :=
  ⟨fun i H => ∃ (xs : List V) (x : V), SqT K H a xs ∧ xs[i]? = some x,
   fun i H v H' => ∃ T x, v = .ref T ∧ H T = none ∧ H' = upd H T (.tup [.int (i : Nat), x]) ∧ ∀ xs, SqT K H a xs → xs[i]? = some x,
   fun i H => ∃ xs : List V, SqT K H a xs ∧ xs.length ≤ i⟩

theorem turn_enumT {P : Program} {w : World} {K : PySem.W.Frag} {elts : List Expr} {kk : Nat} {tpos : Pos} (a e it : Addr) :
    Turn P w K (.Tuple elts kk tpos) (Iet K a) [e, it] e (fun i h => (∃ old, IsEnum h e it ((i : Nat) : Int) old) ∧ h.IsTupleIter it a i ∧ e ≠ it) where
  mem := by simp
  obj := by
    intro i h st b hb
    obtain ⟨⟨old, he⟩, ⟨o, ho, hc, hd⟩, _⟩ := st
    rcases (show b = e ∨ b = it by simpa using hb) with z | z
    · subst z
      exact ⟨_, he, fun v q => nomatch q⟩
    · subst z
      refine ⟨o, ho, ?_⟩
      intro v q
      rw [hd] at q
      cases q
  keep := by
    intro i h h' st k
    obtain ⟨⟨old, he⟩, hi, hne⟩ := st
    exact ⟨⟨old, k e (by simp) _ he⟩, hi.at fun o q => k it (by simp) o q, hne⟩
  item := by
    intro X hP hw hK hc i pins s σ H E I hf st hg
    subst hP hw hK
    obtain ⟨⟨old, he⟩, hit, hne⟩ := st
    obtain ⟨xs, x, hq, hx⟩ := hg
    obtain ⟨its, rv, p, hz⟩ := I.tuple hq
    obtain ⟨u, hu, ru⟩ := rv.get hx
    have hel : e < s.heap.objs.size := Heap.lt_size he
    have hil : it < s.heap.objs.size := by
      obtain ⟨_, q, _⟩ := hit
      exact Heap.lt_size q
    have pT : s.heap.IsTuple a its.toArray := p
    have nEa : e ≠ a := by
      intro z
      obtain ⟨o, ho, _, n, hd⟩ := pT
      have he' := he
      unfold IsEnum at he'
      rw [z, ho] at he'
      cases he'
      cases hd
    have nIa : a ≠ it := by
      intro z
      obtain ⟨o, ho, _, n, hd⟩ := pT
      obtain ⟨o2, ho2, _, hd2⟩ := hit
      rw [z, ho2] at ho
      cases ho
      rw [hd2] at hd
      cases hd
    have D := Draws.tuple (prog := X.prog) (w := X.w) (A := X.A.in1) (I.ok.hd hc) it a nIa its.toArray
    have hi : i < its.toArray.size := by
      have l1 := (List.getElem?_eq_some_iff.mp hx).1
      have l2 := rv.length
      simp
      omega
    refine wpAny_pyNext_enum_itemD D he ⟨hit, pT⟩ hi hne (by simp; exact ⟨hne, nEa⟩) fun y h' tk hy ho hst' hT hsz hk => ?_
    have ey : y = u := by
      have q : its.toArray[i]? = some y := hy
      rw [List.getElem?_toArray] at q
      exact Option.some.inj (q.symm.trans hu)
    subst ey
    refine ⟨_, rfl, wpAny_letOwnedTupleGo_enum (s := { s with heap := h', toks := tk + 1 }) ho fun h'' he' sb => ?_⟩
    have hT2 : h''.get? s.heap.objs.size = some { cls := .type "tuple", data := .seq #[.int i tk, y] } := (sb.2 _ (Nat.ne_of_gt hel)).trans hT
    have new : ObjOk X.prog X.w (upd H s.heap.objs.size (.tup [.int (i : Nat), x])) h'' s.heap.objs.size (.tup [.int (i : Nat), x]) :=
      ⟨by show 2 ≤ sizeLine; decide, [.int i tk, y], .cons ⟨_, rfl⟩ (.cons ru .nil), ⟨_, hT2, rfl, _, rfl⟩⟩
    have kk2 : ∀ b o, b ∉ [e, it] → s.heap.get? b = some o → h''.get? b = some o := by
      intro b o hb q
      have b1 : b ≠ e := fun z => hb (by simp [z])
      have b2 : b ≠ it := fun z => hb (by simp [z])
      exact (sb.2 b b1).trans (hk b o b1 b2 q)
    have I1 : Inv X pins σ (upd H s.heap.objs.size (.tup [.int (i : Nat), x])) { s with heap := h'', toks := tk + 1 } :=
      I.turnedNew (ch := [e, it]) kk2 hf (Nat.le_refl _) new
    refine ⟨.ref s.heap.objs.size, _, I1, rfl, ⟨_, x, rfl, I.hok.fresh (Nat.le_refl _), rfl, fun ys hy => by rw [I.tuple_inj hy hq]; exact hx⟩, ⟨⟨y, ?_⟩, hst'.1.at fun o q => (sb.2 it (Ne.symm hne)).trans q, hne⟩, ?_⟩
    · have e1 : ((i + 1 : Nat) : Int) = (i : Int) + 1 := by omega
      rw [e1]
      exact he'
    · intro b hb
      have hb' : b < s.heap.objs.size := by
        rcases (show b = e ∨ b = it by simpa using hb) with z | z
        · rw [z]; exact hel
        · rw [z]; exact hil
      rw [upd_ne (Nat.ne_of_lt hb')]
      exact (hf b hb).1
  done := by
    intro X hP hw hK hc i pins s σ H E I hf st hg
    subst hP hw hK
    obtain ⟨⟨old, he⟩, hit, hne⟩ := st
    obtain ⟨xs, hq, hx⟩ := hg
    obtain ⟨its, rv, p, hz⟩ := I.tuple hq
    have pT : s.heap.IsTuple a its.toArray := p
    have nIa : a ≠ it := by
      intro z
      obtain ⟨o, ho, _, n, hd⟩ := pT
      obtain ⟨o2, ho2, _, hd2⟩ := hit
      rw [z, ho2] at ho
      cases ho
      rw [hd2] at hd
      cases hd
    obtain ⟨f0, f1, f2, f3, f4, f5⟩ := hf it (by simp)
    have hl := rv.length
    have D : Draws X.prog X.w X.A.in1 it [it, a] i (fun _ _ => False) (fun j h => j = i ∧ h.IsTupleIter it a i ∧ h.IsTuple a its.toArray) :=
      { live := fun _ _ st => let ⟨o, ho, _⟩ := st.2.1; ⟨o, ho⟩
        frame := fun _ _ _ st hk => ⟨st.1, st.2.1.at fun o e => hk it (by simp) o e, st.2.2.at fun o e => hk a (by simp) o e⟩
        item := fun j s Q E hj st hQ => absurd st.1 (Nat.ne_of_lt hj)
        done := fun s Q E st hE => wpAny_nextOf_tuple_end (I.ok.hd hc) st.2.1 st.2.2 (by simp; omega) hE }
    exact wpAny_pyNext_enum_endD D he ⟨rfl, hit, pT⟩ fun h' eb => ⟨rfl, I.turned (t' := s.toks) (fun b o hb q => eb b o hb q) f0 f1 f3 f4 f5⟩
  self := by
    intro A i s Q E st h
    obtain ⟨⟨_, he⟩, _⟩ := st
    exact wpAny_pyIter_enum he h

def iEnumT (K : PySem.W.Frag) (ta : TA) : TI := fun σ H R => ta σ H fun vs H1 => ∃ a xs, vs = [.ref a] ∧ SqT K H1 a xs ∧ R (Iet K a) H1
theorem pi_enumT {X : Cx} {e : Expr} {ta : TA} {p pos tpos : Pos} {elts : List Expr} {kk : Nat} (hg : Gl X "enumerate") (hm : X.mg "enumerate" = none) (ha : PA X [e] ta)
    (hs : starEach [e] X.env = [(false, eval e X.env)] := by rfl) :
    PI X (.Tuple elts kk tpos) (.Call (.Name "enumerate" p) [e] [] pos) (iEnumT X.K ta) := by
  refine ⟨fun pins s σ H R I h => ?_⟩
  refine Call_ (ld_blt I hg hm boot_enumerate (PyProof.Rows.callWith_type1 (thn (ha.run pos pins s σ H _ I h) ?_) hs rfl))
  rintro us s1 ⟨vs, H1, I1, r1, a, xs, rfl, hq, q⟩
  obtain ⟨its, rv, p', hz⟩ := I1.tuple hq
  cases r1 with
  | cons r rr =>
    cases rr
    cases r
    have pT : s1.heap.IsTuple a its.toArray := p'
    refine enum_call1 (begins_tuple a its.toArray) pT fun h' he hit hk => wpAny_pyIter_enum he ?_
    have I2 : Inv X pins σ H1 { s1 with heap := h' } := I1.kept (t' := s1.toks) hk
    refine ⟨s1.heap.objs.size + 1, [s1.heap.objs.size + 1, s1.heap.objs.size], _, _, H1, rfl, I2, turn_enumT a (s1.heap.objs.size + 1) s1.heap.objs.size, ⟨⟨.none, he⟩, ⟨_, hit, rfl, rfl⟩, Nat.succ_ne_self _⟩, ?_, q⟩
    intro b hb
    have hle : s1.heap.objs.size ≤ b := by
      rcases (show b = s1.heap.objs.size + 1 ∨ b = s1.heap.objs.size by simpa using hb) with z | z
      · rw [z]; exact Nat.le_succ _
      · rw [z]; exact Nat.le_refl _
    exact I1.fpOk hle (I1.hok.fresh hle)
end UG


set_option Elab.async false
set_option linter.all false
set_option maxRecDepth 100000
set_option maxHeartbeats 4000000
namespace UG
open PySem PySem.Spec PyProof.Rows L2

/-! ### t[::-1], t a tuple -/
theorem fm_congr {α β : Type} {f g : α → Option β} : ∀ {l : List α}, (∀ x ∈ l, f x = g x) → l.filterMap f = l.filterMap g
  | [], _ => rfl
  | x :: r, h => by
    rw [List.filterMap_cons, List.filterMap_cons, h x List.mem_cons_self, fm_congr fun y hy => h y (List.mem_cons_of_mem _ hy)]
theorem adj_back (n : Nat) : Builtin.Slice.sliceAdjust none none (-1) (n : Int) = ((n : Int) - 1, -1) := rfl
theorem plc_back (n : Nat) : Builtin.Slice.slicePlaces ((n : Int) - 1) (-1) (-1) = n := by
  unfold Builtin.Slice.slicePlaces
  rw [if_neg (by decide)]
  by_cases h : (n : Int) - 1 > -1
  · rw [if_pos h]
    have e : ((n : Int) - 1 - -1 - 1) / (- -1) + 1 = (n : Int) := by
      rw [show (- -1 : Int) = 1 by decide, Int.ediv_one]
      omega
    rw [e]
    rfl
  · rw [if_neg h]
    have e : n = 0 := by omega
    subst e
    rfl
section
variable {prog : Program} {w : World} {A : Around} {E : Value → Shared → Prop} {s : Shared}
theorem applied_back {sl : Addr} {vl vu vs : Value} {n : Nat} {Q : Int × Int × Nat → Shared → Prop} (hs : s.heap.IsSliceOf sl vl vu vs) (pl : IsPart vl none) (pu : IsPart vu none) (ps : IsPart vs (some (-1)))
    (h : Q ((n : Int) - 1, -1, n) s) : wpAny (model prog w) A (Builtin.Slice.sliceApplied (.ref sl) (pure (n : Int))) Q E s := by
  obtain ⟨ob, hob, hc, hd⟩ := id hs
  unfold Builtin.Slice.sliceApplied Builtin.Slice.sliceFields
  refine wpAny_bind (wpAny_bind (wpAny_field hob hd (x := vl) rfl (wpAny_bind (wpAny_field hob hd (x := vu) rfl (wpAny_bind (wpAny_field hob hd (x := vs) rfl (wpAny_pure ?_)))))))
  refine wpAny_bind (HT.slicePart_ ps ?_)
  show wpAny _ _ (if ((-1 : Int) == 0) = true then _ else _) _ _ s
  rw [if_neg (by decide)]
  refine wpAny_bind (HT.slicePart_ pl (wpAny_bind (HT.slicePart_ pu (wpAny_bind (wpAny_pure ?_)))))
  show wpAny _ _ (match Builtin.Slice.sliceAdjust none none (-1) (n : Int) with | (lo, hi) => pure (lo, (-1 : Int), Builtin.Slice.slicePlaces lo hi (-1))) _ _ s
  rw [adj_back]
  show wpAny _ _ (pure ((n : Int) - 1, (-1 : Int), Builtin.Slice.slicePlaces ((n : Int) - 1) (-1) (-1))) _ _ s
  rw [plc_back]
  exact wpAny_pure h
theorem pick_back (xs : Array Value) : ((List.range xs.size).filterMap fun (m : Nat) => xs[((xs.size : Int) - 1 + (m : Int) * -1).toNat]?).toArray = xs.toList.reverse.toArray := by
  have e : ∀ m ∈ List.range xs.size, (fun (m : Nat) => xs[((xs.size : Int) - 1 + (m : Int) * -1).toNat]?) m = (fun m => xs[xs.size - 1 - m]?) m := by
    intro m hm
    have hm' := List.mem_range.mp hm
    have q : ((xs.size : Int) - 1 + (m : Int) * -1).toNat = xs.size - 1 - m := by omega
    show xs[((xs.size : Int) - 1 + (m : Int) * -1).toNat]? = _
    rw [q]
  have e2 : (List.range xs.size).filterMap (fun (m : Nat) => xs[((xs.size : Int) - 1 + (m : Int) * -1).toNat]?) = (List.range xs.size).filterMap (fun m => xs[xs.size - 1 - m]?) := fm_congr e
  rw [e2]
  have e3 : (List.range xs.size).filterMap (fun m => xs[xs.size - 1 - m]?) = ((List.range xs.size).map (fun k => xs.size - 1 - k)).filterMap (xs[·]?) := by
    rw [List.filterMap_map]
    rfl
  rw [e3, PySem.W.krv_range, List.filterMap_reverse, PySem.W.krv_all]
theorem getItem_tupBack {t sl : Addr} {items : Array Value} {vl vu vs : Value} {Q : Value → Shared → Prop} (ht : IsTup s.heap t items) (hs : s.heap.IsSliceOf sl vl vu vs) (pl : IsPart vl none) (pu : IsPart vu none) (ps : IsPart vs (some (-1)))
    (h : Q (.ref s.heap.objs.size) { s with heap := s.heap.push { cls := .type "tuple", data := .seq items.toList.reverse.toArray } })
    (hsz : items.size ≤ sizeLine) : wpAny (model prog w) A (getItem (.ref t) (.ref sl)) Q E s := by
  obtain ⟨os, hos, hcs, hds⟩ := id hs
  have tS : s.TypeIs (.ref sl) "slice" := ⟨os, hos, hcs⟩
  unfold getItem
  try with_reducible refine wpAny_holding ?_
  first | refine wpAny_bind (wpAny_pure ?_) | skip
  refine wpAny_bind (wpAny_sequenceKey ht.typeIs (by decide) ?_)
  refine wpAny_bind (wpAny_callSpecial?_slot (name := Str.ofString "__getitem__") ht.typeIs PyProof.Rows.slot_tuple_getitem (wpAny_call_entry PyProof.Rows.slot_tuple_getitem ht.typeIs entry_tuple_getitem ?_ (args_tuple_getitem _ _)))
  show wpAny _ _ (Builtin.Tuple.tupleItemsOf (.ref t) >>= _) _ _ s
  refine wpAny_bind (tupleItemsOf_ ht ?_)
  refine wpAny_bind (wpAny_typeOf tS ?_)
  rw [if_pos (by decide)]
  refine wpAny_bind (applied_back hs pl pu ps ?_)
  have no : ¬ ((((items.size : Int) - 1) == 0 && (-1 : Int) == 1 && items.size == items.size) = true) := by
    intro q
    rw [Bool.and_eq_true, Bool.and_eq_true] at q
    exact absurd q.1.2 (by decide)
  show wpAny _ _ (if (((items.size : Int) - 1) == 0 && (-1 : Int) == 1 && items.size == items.size) = true then _ else _) _ _ s
  rw [if_neg no]
  rw [pick_back]
  have fit : sizeOk (.seq items.toList.reverse.toArray) := by
    show items.toList.reverse.toArray.size ≤ sizeLine
    simpa using hsz
  exact wpAny_bind (m := Builtin.Tuple.tupleExact _) (wpAny_newObj_type (wpAny_pure ⟨_, rfl, wpAny_pure h⟩) fit)
end
section
variable {X : Cx}
def tRevT (K : PySem.W.Frag) (te : TE) : TE := fun σ H Q => te σ H fun x H1 => ∃ a xs, x = .ref a ∧ SqT K H1 a xs ∧ ∀ p, H1 p = none → Q (.ref p) (upd H1 p (.tup xs.reverse))
theorem pe_revT {e : Expr} {te : TE} {k : Nat} {p1 p2 p3 pos : Pos} (he : PE X e te) : PE X (.Subscript e (.Slice none none (some (.UnaryOp .USub (.Constant (.int 1) k p1) p2)) p3) pos) (tRevT X.K te) := by
  refine ⟨fun pins s σ H Q I h => ?_⟩
  refine Subscript_ (thn (he.run pins s σ H _ I h) ?_)
  rintro v s1 ⟨x, H1, I1, r1, a, xs, rfl, hx, q⟩
  cases r1
  have part : PO X (some (.UnaryOp .USub (.Constant (.int 1) k p1) p2)) (tPart (tUn (rU fun i => .int (-i)) (tC (.int 1)))) := po_some (pe_un un_neg pe_int)
  refine wpAny_Slice (thn (po_none.run pins s1 σ H1 (fun o H2 => o = none ∧ H2 = H1) I1 ⟨rfl, rfl⟩) ?_)
  rintro vl s2 ⟨l, H2, I2, pl, rfl, rfl⟩
  refine thn (po_none.run pins s2 σ H2 (fun o H3 => o = none ∧ H3 = H2) I2 ⟨rfl, rfl⟩) ?_
  rintro vu s3 ⟨u, H3, I3, pu, rfl, rfl⟩
  refine thn (part.run pins s3 σ H3 (fun o H4 => o = some (-1) ∧ H4 = H3) I3 ⟨1, rfl, -1, rfl, rfl, rfl⟩) ?_
  rintro vs s4 ⟨o, H4, I4, ps, rfl, rfl⟩
  have I5 : Inv X pins σ H4 { s4 with heap := s4.heap.push { cls := .type "slice", data := .fields #[vl, vu, vs] } } := I4.kept (t' := s4.toks) fun b ob e => Heap.get?_push_of_some _ e
  obtain ⟨its, r, ht, hz⟩ := I5.tuple hx
  have hl := r.length
  show wpAny _ X.A (subscriptTail e (.Slice none none (some (.UnaryOp .USub (.Constant (.int 1) k p1) p2)) p3) (.ref a) (.ref s4.heap.objs.size)) _ X.xe { s4 with heap := s4.heap.push { cls := .type "slice", data := .fields #[vl, vu, vs] } }
  refine tail_any (ops := [.ref a, .ref s4.heap.objs.size]) ht.typeIs PyProof.Rows.slot_tuple_getitem.lookup ?_ (by with_unfolding_all rfl)
  refine getItem_tupBack ht (Heap.IsSliceOf.new _ vl vu vs) pl pu ps ?_ (by rw [List.size_toArray]; omega)
  refine ⟨.ref _, _, I5.laid (t' := s4.toks) (o := .tup xs.reverse) (fun b ob e => Heap.get?_push_of_some _ e) (Nat.le_refl _) ?_, rfl, q _ (I5.hok.fresh (Nat.le_refl _))⟩
  exact ⟨by rw [List.length_reverse]; exact hz, _, r.reverse, IsTup.new _ _⟩

/-- t * n, some million items at most -/
def rRepB (K : PySem.W.Frag) : R2 := fun x y H Q => ∃ l k xs, x = .ref l ∧ y = .int k ∧ SqT K H l xs ∧ xs ≠ [] ∧ 2 ≤ k ∧ k ≤ 1000000 ∧ ((xs.length : Nat) : Int) * k ≤ 1000000 ∧
  ∀ p, H p = none → Q (.ref p) (upd H p (.tup (List.replicate k.toNat xs).flatten))
theorem op_repB : OpR X (binaryOp .Mult) (rRepB X.K) := by
  intro pins s σ H x y v u Q I rx ry h
  obtain ⟨l, k, xs, rfl, rfl, hT, hne, h1, h2, hz, q⟩ := h
  cases rx
  obtain ⟨t, rfl⟩ := ry
  obtain ⟨its, r, ⟨⟨cls, dd, data, sl⟩, ho, hc, n, hd⟩, hs⟩ := I.tuple hT
  simp only at hc hd
  subst hc hd
  have len : its.length = xs.length := r.length.symm
  have its0 : its ≠ [] := by
    rintro rfl
    exact hne (List.eq_nil_of_length_eq_zero len.symm)
  have emp : its.toArray.isEmpty = false := by
    cases its with
    | nil => exact absurd rfl its0
    | cons a b => rfl
  have sz : its.toArray.size = xs.length := by rw [List.size_toArray, len]
  have kk : ((k.toNat : Nat) : Int) = k := by omega
  have prod : k.toNat * xs.length ≤ 1000000 := by
    have q1 : ((k.toNat * xs.length : Nat) : Int) ≤ 1000000 := by
      rw [Int.natCast_mul, kk, Int.mul_comm]
      exact hz
    omega
  have bound : ((its.toArray.size : Nat) : Int) * k ≤ 1000000 := by rw [sz]; exact hz
  have flat : (List.replicate k.toNat its).flatten.length ≤ sizeLine := by
    rw [PyProof.Rows.lm_len_rep_flat, len, sizeLine_eq]
    omega
  have a0 : (decide (k < -(2 ^ 63)) || decide (k ≥ 2 ^ 63)) = false := by
    rw [decide_eq_false (by omega), decide_eq_false (by omega)] <;> rfl
  have a1 : (its.toArray.isEmpty || k == 1) = false := by
    rw [emp, Bool.false_or]
    exact beq_eq_false_iff_ne.mpr (by omega)
  have a2 : (decide (k ≤ 0) || its.toArray.isEmpty) = false := by
    rw [emp, Bool.or_false]
    exact decide_eq_false (by omega)
  have a4 : Builtin.Tuple.tupleTooMany (((its.toArray.size : Nat) : Int) * k) = false := by
    unfold Builtin.Tuple.tupleTooMany
    rw [sizeLine_eq]
    exact decide_eq_false (by omega)
  have mul := tuple_mulW l its.toArray n dd sl k t a0 a1 a2 (by omega) a4 (by rw [size_rep, List.size_toArray]; exact flat)
  have fin : EP X pins σ Q (Value.ref s.heap.objs.size) { s with heap := s.heap.push { cls := Value.type "tuple", data := Data.seq (List.foldl (fun x1 x2 => x1 ++ x2) #[] (List.replicate k.toNat its.toArray)) }, toks := s.toks } := by
    rw [size_rep]
    refine ⟨.ref s.heap.objs.size, _, I.laid (t' := s.toks) (o := .tup (List.replicate k.toNat xs).flatten) (fun b ob e => Heap.get?_push_of_some _ e) (Nat.le_refl _) ?_, rfl, q _ (I.hok.fresh (Nat.le_refl _))⟩
    refine ⟨?_, _, r.rep k.toNat, IsTup.new _ _⟩
    rw [PyProof.Rows.lm_len_rep_flat, sizeLine_eq]
    omega
  have tl : s.TypeIs (.ref l) "tuple" := ⟨_, ho, rfl⟩
  exact wpAny_binaryOp_repeat_ref (T := "tuple") (U := "int") (by decide) tl (fun s' => typeIs_int s' k t) noFill_tuple_mul F.fills_int_mul F.slot_int_rmul repeat_tuple F.slot_int_index.lookup
    (call_meets F.slot_int_rmul (typeIs_int s k t) F.entry_int_rmul (F.args_int_rmul_2 _ _) (int_rmul_tuple k t l its.toArray n dd sl) ⟨ho, rfl, tl, call_meets F.slot_tuple_mul tl F.entry_tuple_mul (F.args_tuple_mul_2 _ _) mul ⟨ho, fin⟩⟩)
end
end UG


set_option Elab.async false
set_option linter.all false
set_option maxRecDepth 100000
set_option maxHeartbeats 4000000
namespace K35
open PySem PySem.Spec PyProof.Rows L2

def topS (i : Nat) : Stmt := PySem.Challenge.pw_undoneall_k35_whole_lengths_letters_bala.main.body.getD i (.Pass ⟨0, 0, 0, 0⟩)

/-! ### data -/
def tyN : PyData → String
  | .none => "NoneType"
  | .bool _ => "bool"
  | .int _ => "int"
  | .str _ => "str"
  | .list _ => "list"
  | .tuple _ => "tuple"
  | .dict _ => "dict"
theorem dp_ty {K : PySem.W.Frag} {H : Hp} {v : V} {d : PyData} (h : Dp K H v d) : TyX K H v (.type (tyN d)) := by
  cases h with
  | non => exact .base .non
  | bl b => exact .base (.bl b)
  | int i => exact .base (.int i)
  | str x => exact .base (.str x)
  | lst hs _ =>
    rcases hs with (h | ⟨o, h⟩) | ⟨o, its, n, hk, hc, _⟩
    · exact .base (.lst h)
    · exact .base (.frz h)
    · exact .kList hk hc
  | tup hs _ =>
    rcases hs with (h | ⟨o, h⟩) | ⟨o, its, n, hk, hc, _⟩
    · exact .base (.tup h)
    · exact .fTuple h
    · exact .kTuple hk hc
/-- all but tables stay -/
theorem sq_ext {K : PySem.W.Frag} {H H' : Hp} {a : Addr} {xs : List V} (e : LamX.ExtN H H') (h : SqL K H a xs) : SqL K H' a xs := by
  rcases h with (h | ⟨o, h⟩) | h
  · exact .inl (.inl (e _ _ h (fun _ z => by cases z)))
  · exact .inl (.inr ⟨o, e _ _ h (fun _ z => by cases z)⟩)
  · exact .inr h
theorem sqt_ext {K : PySem.W.Frag} {H H' : Hp} {a : Addr} {xs : List V} (e : LamX.ExtN H H') (h : SqT K H a xs) : SqT K H' a xs := by
  rcases h with (h | ⟨o, h⟩) | h
  · exact .inl (.inl (e _ _ h (fun _ z => by cases z)))
  · exact .inl (.inr ⟨o, e _ _ h (fun _ z => by cases z)⟩)
  · exact .inr h
mutual
theorem dp_ext {K : PySem.W.Frag} {H H' : Hp} (e : LamX.ExtN H H') : ∀ (d : PyData) {v : V}, Dp K H v d → Dp K H' v d
  | .none, _, h => by cases h; exact .non
  | .bool _, _, h => by cases h; exact .bl _
  | .int _, _, h => by cases h; exact .int _
  | .str _, _, h => by cases h; exact .str _
  | .list ds, _, h => by
    cases h with
    | lst hs ha => exact .lst (sq_ext e hs) (dps_ext e ds ha)
  | .tuple ds, _, h => by
    cases h with
    | tup hs ha => exact .tup (sqt_ext e hs) (dps_ext e ds ha)
  | .dict _, _, h => by cases h
theorem dps_ext {K : PySem.W.Frag} {H H' : Hp} (e : LamX.ExtN H H') : ∀ (ds : List PyData) {vs : List V}, DpAll K H vs ds → DpAll K H' vs ds
  | [], _, h => by cases h; exact .nil
  | d :: ds, _, h => by
    cases h with
    | cons h1 h2 => exact .cons (dp_ext e d h1) (dps_ext e ds h2)
end
theorem same_ext {H H' : Hp} (h : Same H H') : LamX.ExtN H H' := fun b o e _ => h b o e
theorem dps_len {K : PySem.W.Frag} {H : Hp} : ∀ {vs : List V} {ds : List PyData}, DpAll K H vs ds → vs.length = ds.length
  | _, _, .nil => rfl
  | _, _, .cons _ t => congrArg Nat.succ (dps_len t)
theorem dps_get {K : PySem.W.Frag} {H : Hp} : ∀ {vs : List V} {ds : List PyData} {i : Nat} {d : PyData}, DpAll K H vs ds → ds[i]? = some d → ∃ v, vs[i]? = some v ∧ Dp K H v d
  | _, _, _, _, .nil, e => by simp at e
  | _, _, 0, _, .cons h t, e => by
    simp at e
    subst e
    exact ⟨_, rfl, h⟩
  | _, _, i + 1, _, .cons h t, e => by
    obtain ⟨v, h1, h2⟩ := dps_get (i := i) t (by simpa using e)
    exact ⟨v, by simpa using h1, h2⟩
theorem dps_get' {K : PySem.W.Frag} {H : Hp} {vs : List V} {ds : List PyData} {i : Nat} {v : V} (h : DpAll K H vs ds) (e : vs[i]? = some v) : ∃ d, ds[i]? = some d ∧ Dp K H v d := by
  have hl := dps_len h
  have hi := (List.getElem?_eq_some_iff.mp e).1
  have e2 : ds[i]? = some (ds[i]'(by omega)) := List.getElem?_eq_getElem (by omega)
  obtain ⟨v', h1, h2⟩ := dps_get h e2
  rw [e] at h1
  cases h1
  exact ⟨_, e2, h2⟩
theorem same_new {H : Hp} {p : Addr} (h : H p = none) (o : HO) : Same H (upd H p o) := fun b u q => by rw [upd_ne (ne_of_none q h)]; exact q

/-! ### what the judges tell -/
def intD : PyData → Bool
  | .int _ => true
  | _ => false
def withinD (d : PyData) (lo hi : Int) : Bool := match d with
  | .int i => decide (lo ≤ i) && decide (i ≤ hi)
  | _ => false
def rowD (d : PyData) (lo hi : Int) : Bool := match d with
  | .tuple ds => decide (lo ≤ (ds.length : Int)) && decide ((ds.length : Int) ≤ hi)
  | _ => false
def letterD (d : PyData) : Bool := match d with
  | .int i => decide (-20 ≤ i) && decide (i ≤ 20) && !decide (i = 0)
  | _ => false

/-! ### the module's facts -/
structure Bl (mg : Str → Option Value) : Prop where
  isi : mg "isinstance" = none
  int : mg "int" = none
  bool : mg "bool" = none
  str : mg "str" = none
  tuple : mg "tuple" = none
  list : mg "list" = none
  len : mg "len" = none
  abs : mg "abs" = none
  max : mg "max" = none
  all : mg "all" = none
  range : mg "range" = none
  enumerate : mg "enumerate" = none
  mostL : ∃ t, mg "MOST_LETTER" = some (.int 20 t)
  mostR : ∃ t, mg "MOST_RULES" = some (.int 4000 t)

def isiN (c n : String) : Bool := n == c || (c == "int" && n == "bool")
def isiD (c : String) (d : PyData) : Bool := isiN c (tyN d)
theorem kit_names : ∀ n ∈ ["NoneType", "bool", "int", "str", "list", "tuple", "dict"], ∀ c ∈ ["int", "bool", "str", "tuple"], kitB n c = some (isiN c n) := by decide +kernel
theorem kit_d {K : PySem.W.Frag} (d : PyData) {c : String} (hc : c ∈ ["int", "bool", "str", "tuple"]) : PySem.W.kitOne K (.type (tyN d)) (.type c) = some (isiD c d) :=
  kit_ty (kit_names (tyN d) (by cases d <;> simp [tyN]) c hc)
section
variable {X : Cx}
/-- isinstance(x, T) of data -/
def rIsD (K : PySem.W.Frag) (c : String) : List V → Hp → VK → Prop := fun xs H Q => ∃ v d, xs = [v, .ty c] ∧ Dp K H v d ∧ Q (.bl (isiD c d)) H
theorem call_isD (c : String) (hc : c ∈ ["int", "bool", "str", "tuple"]) : CallR X (.builtin "isinstance") (rIsD X.K c) := by
  intro pins s σ H xs us Q I r h
  obtain ⟨v, d, rfl, hd, q⟩ := h
  exact call_isi pins s σ H _ us Q I r ⟨v, .ty c, _, _, _, rfl, .ty c, dp_ty hd, kit_d d hc, q⟩
/-- isinstance(e, T) as a value -/
theorem pe_isD {e : Expr} {te : TE} {c : String} {x : Str} {p1 p2 p3 : Pos} (B : Bl X.mg) (he : PE X e te) (hg : Gl X "isinstance") (hx : Gl X x) (hm : X.mg x = none) (hb : bootBuiltins x = some (.type c)) (hc : c ∈ ["int", "bool", "str", "tuple"])
    (hn : x ≠ "__name__" := by decide) (hdb : (x == ("__debug__" : Str)) = false := by decide) (hs1 : starEach [e, .Name x p3] X.env = (false, eval e X.env) :: starEach [.Name x p3] X.env := by rfl)
    (hs2 : starEach [.Name x p3] X.env = (false, eval (.Name x p3) X.env) :: starEach [] X.env := by rfl) (hpl : (backTo p2 (starEach [.Name x p3] X.env)).any (·.1) = false := by rfl) :
    PE X (.Call (.Name "isinstance" p1) [e, .Name x p3] [] p2) (tCB (rIsD X.K c) (tCons te (tCons (tC (.ty c)) tNil))) :=
  pe_callB (pos := p2) (p := p1) (call_isD c hc) hg B.isi (by decide +kernel) (pa_cons he (pa_cons (pe_bltn (v := .ty c) (pos := p3) hx hm hb rfl hn hdb) pa_nil hs2) hs1) (by decide) (by decide) hs1 hpl
end
end K35


set_option Elab.async false
set_option linter.all false
set_option maxRecDepth 100000
set_option maxHeartbeats 4000000
namespace K35
open PySem PySem.Spec PyProof.Rows L2
section
variable {P : Program} {w : World} {K : PySem.W.Frag} {mg : Str → Option Value} {base : Heap}

def spIsInt (K : PySem.W.Frag) : Sp := fun vs H Q _ => ∃ v d, vs = [v] ∧ Dp K H v d ∧ Q (.bl (intD d)) H
theorem intD_eq (d : PyData) : (isiD "int" d && !isiD "bool" d) = intD d := by cases d <;> rfl
theorem int_of {d : PyData} (h : intD d = true) : ∃ i, d = .int i := by
  cases d with
  | int i => exact ⟨i, rfl⟩
  | _ => cases h
theorem sc_is_integer : FnScope ["thing"] ["thing"] (C8.fnScope (topS 5)) := C8.fnScope_by (by decide +kernel)
theorem ok_is_integer {f : Addr} {fd : FuncData} (F : C8.Def K mg "is_integer" (topS 5) f fd) (b : Binds K fd ["thing"] []) (B : Bl mg)  : C8.Cal P w K mg base 1 "is_integer" (spIsInt K) [] := by
  refine C8.cal0 F b .nil sc_is_integer ?len ?body
  case len => rintro vs H Q E ⟨v, d, rfl, _⟩; rfl
  case body =>
    rintro cdv A outer s H vs Q E hr ⟨v, d, rfl, hd, q⟩
    refine ⟨_, (pss_one (ps_ret (pe_and (pe_isD (c := "int") B (pv 0) rfl rfl B.int (by decide +kernel) (by decide)) (pe_one (pe_not (pe_isD (c := "bool") B (pv 0) rfl rfl B.bool (by decide +kernel) (by decide))))))), ?_⟩
    refine ⟨_, rfl, v, d, rfl, hd, _, rfl, ?_⟩
    have e := intD_eq d
    cases h : isiD "int" d with
    | true =>
      refine iteT ⟨_, rfl, v, d, rfl, hd, _, rfl, ?_⟩
      rw [h, Bool.true_and] at e
      rw [e]
      exact q
    | false =>
      refine iteF ?_
      rw [h, Bool.false_and] at e
      rw [e]
      exact q

def spWithin (K : PySem.W.Frag) : Sp := fun vs H Q _ => ∃ v d lo hi, vs = [v, .int lo, .int hi] ∧ Dp K H v d ∧ Q (.bl (withinD d lo hi)) H
theorem sc_is_within : FnScope ["thing", "low", "high"] ["thing", "low", "high"] (C8.fnScope (topS 6)) := C8.fnScope_by (by decide +kernel)
theorem ok_is_within {f : Addr} {fd : FuncData} (F : C8.Def K mg "is_within" (topS 6) f fd) (b : Binds K fd ["thing", "low", "high"] []) (B : Bl mg) (c_is_integer : C8.Cal P w K mg base 1 "is_integer" (spIsInt K) []) : C8.Cal P w K mg base 2 "is_within" (spWithin K) [] := by
  refine C8.cal0 F b .nil sc_is_within ?len ?body
  case len => rintro vs H Q E ⟨v, d, lo, hi, rfl, _⟩; rfl
  case body =>
    rintro cdv A outer s H vs Q E hr ⟨v, d, lo, hi, rfl, hd, q⟩
    refine ⟨_, (pss_one (ps_ret (pe_and (C8.pe_c c_is_integer hr (by decide) rfl (pa_cons (pv 0) pa_nil)) (pe_one (pe_chain op_le op_le (pv 1) (pv 0) (pv 2)))))), ?_⟩
    refine ⟨_, rfl, v, d, rfl, hd, _, rfl, ?_⟩
    cases h : intD d with
    | false =>
      refine iteF ?_
      have e : withinD d lo hi = false := by cases d <;> first | rfl | cases h
      rw [e] at q
      exact q
    | true =>
      obtain ⟨i, rfl⟩ := int_of h
      cases hd
      refine iteT ⟨_, rfl, _, rfl, _, _, rfl, rfl, _, rfl, ?_⟩
      have q' : Q (.bl (decide (lo ≤ i) && decide (i ≤ hi))) H := q
      cases h1 : decide (lo ≤ i) with
      | true =>
        rw [h1] at q'
        exact iteT ⟨_, rfl, _, _, rfl, rfl, q'⟩
      | false =>
        rw [h1] at q'
        exact iteF q'

def spRow (K : PySem.W.Frag) : Sp := fun vs H Q _ => ∃ v d lo hi, vs = [v, .int lo, .int hi] ∧ Dp K H v d ∧ Q (.bl (rowD d lo hi)) H
theorem tup_of {d : PyData} (h : isiD "tuple" d = true) : ∃ ds, d = .tuple ds := by
  cases d with
  | tuple ds => exact ⟨ds, rfl⟩
  | _ => exact absurd (show false = true from h) Bool.false_ne_true
theorem len_ok {K : PySem.W.Frag} {H : Hp} {v : V} {ds : List PyData} (h : Dp K H v (.tuple ds)) : ∃ a xs, v = .ref a ∧ SqT K H a xs ∧ DpAll K H xs ds ∧ xs.length = ds.length := by
  cases h with
  | tup hs ha => exact ⟨_, _, rfl, hs, ha, dps_len ha⟩
theorem sc_is_row : FnScope ["thing", "low", "high"] ["thing", "low", "high"] (C8.fnScope (topS 7)) := C8.fnScope_by (by decide +kernel)
theorem ok_is_row {f : Addr} {fd : FuncData} (F : C8.Def K mg "is_row" (topS 7) f fd) (b : Binds K fd ["thing", "low", "high"] []) (B : Bl mg)  : C8.Cal P w K mg base 1 "is_row" (spRow K) [] := by
  refine C8.cal0 F b .nil sc_is_row ?len ?body
  case len => rintro vs H Q E ⟨v, d, lo, hi, rfl, _⟩; rfl
  case body =>
    rintro cdv A outer s H vs Q E hr ⟨v, d, lo, hi, rfl, hd, q⟩
    refine ⟨_, (pss_one (ps_ret (pe_and (pe_isD (c := "tuple") B (pv 0) rfl rfl B.tuple (by decide +kernel) (by decide)) (pe_one (pe_chain op_le op_le (pv 1) (pe_callB call_len_seq rfl B.len PySem.boot_len (pa_cons (pv 0) pa_nil)) (pv 2)))))), ?_⟩
    refine ⟨_, rfl, v, d, rfl, hd, _, rfl, ?_⟩
    cases h : isiD "tuple" d with
    | false =>
      refine iteF ?_
      have e : rowD d lo hi = false := by
        cases d with
        | tuple ds => exact absurd (show true = false from h) (by decide)
        | _ => rfl
      rw [e] at q
      exact q
    | true =>
      obtain ⟨ds, rfl⟩ := tup_of h
      obtain ⟨a, xs, rfl, hs, ha, hl⟩ := len_ok hd
      refine iteT ⟨_, rfl, _, rfl, a, xs, rfl, .inr hs, _, _, rfl, rfl, _, rfl, ?_⟩
      rw [hl]
      have q' : Q (.bl (decide (lo ≤ (ds.length : Int)) && decide ((ds.length : Int) ≤ hi))) H := q
      cases h1 : decide (lo ≤ (ds.length : Int)) with
      | true =>
        rw [h1] at q'
        exact iteT ⟨_, rfl, _, _, rfl, rfl, q'⟩
      | false =>
        rw [h1] at q'
        exact iteF q'

def spLetter (K : PySem.W.Frag) : Sp := fun vs H Q _ => ∃ v d, vs = [v] ∧ Dp K H v d ∧ Q (.bl (letterD d)) H
theorem sc_is_letter : FnScope ["thing"] ["thing"] (C8.fnScope (topS 12)) := C8.fnScope_by (by decide +kernel)
theorem ok_is_letter {f : Addr} {fd : FuncData} (F : C8.Def K mg "is_letter" (topS 12) f fd) (b : Binds K fd ["thing"] []) (B : Bl mg) (c_is_within : C8.Cal P w K mg base 2 "is_within" (spWithin K) []) : C8.Cal P w K mg base 3 "is_letter" (spLetter K) [] := by
  refine C8.cal0 F b .nil sc_is_letter ?len ?body
  case len => rintro vs H Q E ⟨v, d, rfl, _⟩; rfl
  case body =>
    rintro cdv A outer s H vs Q E hr ⟨v, d, rfl, hd, q⟩
    obtain ⟨tML, hML⟩ := B.mostL
    refine ⟨_, (pss_one (ps_ret (pe_and (C8.pe_c c_is_within hr (by decide) rfl (pa_cons (pv 0) (pa_cons (pe_un un_neg (pe_glob (v := .int 20) rfl hML ⟨_, rfl⟩)) (pa_cons (pe_glob (v := .int 20) rfl hML ⟨_, rfl⟩) pa_nil)))) (pe_one (pe_cmpR op_ne (pv 0) pe_int (nomark _)))))), ?_⟩
    refine ⟨_, rfl, 20, rfl, v, d, -20, 20, rfl, hd, _, rfl, ?_⟩
    cases d with
    | int i =>
      cases hd
      have q' : Q (.bl (decide (-20 ≤ i) && decide (i ≤ 20) && !decide (i = 0))) H := q
      show if (decide (-20 ≤ i) && decide (i ≤ 20)) = true then _ else _
      cases h1 : decide (-20 ≤ i) && decide (i ≤ 20) with
      | true =>
        rw [h1] at q'
        refine iteT ⟨_, rfl, rfl, ?_⟩
        have e : decide (V.int i = V.int 0) = decide (i = 0) := by
          by_cases z : i = 0
          · subst z; simp
          · rw [decide_eq_false z, decide_eq_false (fun y => z (V.int.inj y))]
        rw [e]
        exact q'
      | false =>
        rw [h1] at q'
        exact iteF q'
    | none => exact iteF q
    | bool _ => exact iteF q
    | str _ => exact iteF q
    | list _ => exact iteF q
    | tuple _ => exact iteF q
    | dict _ => exact iteF q
end
end K35


set_option Elab.async false
set_option linter.all false
set_option maxRecDepth 100000
set_option maxHeartbeats 4000000
namespace K35
open PySem PySem.Spec PyProof.Rows L2
theorem at0 {α : Type} (x : α) (r : List α) : atI (x :: r) 0 = some x := atI_nat (j := 0) rfl
theorem at1 {α : Type} (x y : α) (r : List α) : atI (x :: y :: r) 1 = some y := atI_nat (j := 1) rfl
theorem at2 {α : Type} (x y z : α) (r : List α) : atI (x :: y :: z :: r) 2 = some z := atI_nat (j := 2) rfl
theorem dec_str (k z : Str) : decide (V.str k = V.str z) = decide (k = z) := by
  by_cases h : k = z
  · subst h; simp
  · rw [decide_eq_false h, decide_eq_false (fun y => h (V.str.inj y))]
theorem dec_int (k z : Int) : decide (V.int k = V.int z) = decide (k = z) := by
  by_cases h : k = z
  · subst h; simp
  · rw [decide_eq_false h, decide_eq_false (fun y => h (V.int.inj y))]
def geD (d : PyData) (m : Int) : Bool := match d with
  | .int i => decide (m ≤ i)
  | _ => false
def tailD (k : Str) (r : List PyData) (n : Int) : Bool :=
  if k = "none" then decide ((r.length : Int) + 1 = 1) else if k = "letter" then (match r with | [a] => letterD a | _ => false) else
    (match r with | [a, b] => withinD a 0 (n - 1) && (if k = "pair" then withinD b 0 (n - 1) else decide (k = "power") && (intD b && geD b 2)) | _ => false)
def ruleD (d : PyData) (n : Int) : Bool := match d with
  | .tuple (.str k :: r) => tailD k r n
  | _ => false
theorem str_of {d : PyData} (h : isiD "str" d = true) : ∃ k, d = .str k := by
  cases d with
  | str k => exact ⟨k, rfl⟩
  | _ => exact absurd (show false = true from h) Bool.false_ne_true
theorem long_no {k : Str} {r : List PyData} {n : Int} (h : 3 ≤ r.length) : tailD k r n = false := by
  unfold tailD
  split
  · exact decide_eq_false (by omega)
  · split
    · match r, h with
      | [], h => simp at h
      | [_], h => simp at h
      | _ :: _ :: _, _ => rfl
    · match r, h with
      | [], h => simp at h
      | [_], h => simp at h
      | [_, _], h => simp at h
      | _ :: _ :: _ :: _, _ => rfl
section
variable {P : Program} {w : World} {K : PySem.W.Frag} {mg : Str → Option Value} {base : Heap}
def spRule (K : PySem.W.Frag) : Sp := fun vs H Q _ => ∃ v d n, vs = [v, .int n] ∧ Dp K H v d ∧ Q (.bl (ruleD d n)) H
theorem sc__is_rule : FnScope ["thing", "at", "kind"] ["thing", "at"] (C8.fnScope (topS 14)) := C8.fnScope_by (by decide +kernel)
theorem ok__is_rule {f : Addr} {fd : FuncData} (F : C8.Def K mg "_is_rule" (topS 14) f fd) (b : Binds K fd ["thing", "at"] []) (B : Bl mg) (c_is_row : C8.Cal P w K mg base 1 "is_row" (spRow K) []) (c_is_letter : C8.Cal P w K mg base 3 "is_letter" (spLetter K) []) (c_is_within : C8.Cal P w K mg base 2 "is_within" (spWithin K) []) (c_is_integer : C8.Cal P w K mg base 1 "is_integer" (spIsInt K) []) : C8.Cal P w K mg base 4 "_is_rule" (spRule K) [] := by
  refine C8.cal0 F b .nil sc__is_rule ?len ?body
  case len => rintro vs H Q E ⟨v, d, n, rfl, _⟩; rfl
  case body =>
    rintro cdv A outer s H vs Q E hr ⟨v, d, n, rfl, hd, q⟩
    refine ⟨_, (pss_cons (ps_if (PW.pt (pw_or (pt_not (pt_val (C8.pe_c c_is_row hr (by decide) rfl (pa_cons (pv 0) (pa_cons pe_int (pa_cons pe_int pa_nil)))))) (pw_or1 (pt_not (pt_val (pe_isD (c := "str") B (pe_ix ix_tup (pv 0) pe_int (fun _ _ => rfl)) rfl rfl B.str (by decide +kernel) (by decide))))))) (pss_one (ps_ret pe_bl)) pss_nil)
    (pss_cons (ps_set (i := 2) sc__is_rule.nd rfl (Or.inl rfl) (pe_ix ix_tup (pv 0) pe_int (fun _ _ => rfl)))
    (pss_cons (ps_if (pt_cmpR op_eq (pv 2) pe_str (nomark _)) (pss_one (ps_ret (pe_cmpR op_eq (pe_callB call_len_seq rfl B.len PySem.boot_len (pa_cons (pv 0) pa_nil)) pe_int (nomark _)))) pss_nil)
    (pss_cons (ps_if (pt_cmpR op_eq (pv 2) pe_str (nomark _)) (pss_one (ps_ret (pe_and (pe_cmpR op_eq (pe_callB call_len_seq rfl B.len PySem.boot_len (pa_cons (pv 0) pa_nil)) pe_int (nomark _)) (pe_one (C8.pe_c c_is_letter hr (by decide) rfl (pa_cons (pe_ix ix_tup (pv 0) pe_int (fun _ _ => rfl)) pa_nil)))))) pss_nil)
    (pss_cons (ps_if (PW.pt (pw_or (pt_cmpR op_ne (pe_callB call_len_seq rfl B.len PySem.boot_len (pa_cons (pv 0) pa_nil)) pe_int (nomark _)) (pw_or1 (pt_not (pt_val (C8.pe_c c_is_within hr (by decide) rfl (pa_cons (pe_ix ix_tup (pv 0) pe_int (fun _ _ => rfl)) (pa_cons pe_int (pa_cons (pe_op op_sub (pv 1) pe_int) pa_nil))))))))) (pss_one (ps_ret pe_bl)) pss_nil)
    (pss_cons (ps_if (pt_cmpR op_eq (pv 2) pe_str (nomark _)) (pss_one (ps_ret (C8.pe_c c_is_within hr (by decide) rfl (pa_cons (pe_ix ix_tup (pv 0) pe_int (fun _ _ => rfl)) (pa_cons pe_int (pa_cons (pe_op op_sub (pv 1) pe_int) pa_nil)))))) pss_nil)
    (pss_one (ps_ret (pe_and (pe_cmpR op_eq (pv 2) pe_str (nomark _)) (pe_and (C8.pe_c c_is_integer hr (by decide) rfl (pa_cons (pe_ix ix_tup (pv 0) pe_int (fun _ _ => rfl)) pa_nil)) (pe_one (pe_cmpR op_ge (pe_ix ix_tup (pv 0) pe_int (fun _ _ => rfl)) pe_int (nomark _))))))))))))), ?_⟩
    refine ⟨_, rfl, v, d, 1, 3, rfl, hd, _, rfl, ?_⟩
    cases hrow : rowD d 1 3 with
    | false =>
      refine iteT (iteT ?_)
      have e : ruleD d n = false := by
        cases d with
        | tuple ds =>
          cases ds with
          | nil => rfl
          | cons d0 r =>
            cases d0 with
            | str k =>
              refine long_no ?_
              have z : (decide ((1 : Int) ≤ (((PyData.str k :: r).length : Nat) : Int)) && decide ((((PyData.str k :: r).length : Nat) : Int) ≤ 3)) = false := hrow
              rw [List.length_cons] at z
              rw [Bool.and_eq_false_iff, decide_eq_false_iff_not, decide_eq_false_iff_not] at z
              omega
            | _ => rfl
        | _ => rfl
      rw [e] at q
      exact q
    | true =>
      refine iteF ?_
      have htup : isiD "tuple" d = true := by
        cases d with
        | tuple ds => rfl
        | _ => cases hrow
      obtain ⟨ds, rfl⟩ := tup_of htup
      have z : (decide ((1 : Int) ≤ ((ds.length : Nat) : Int)) && decide (((ds.length : Nat) : Int) ≤ 3)) = true := hrow
      rw [Bool.and_eq_true, decide_eq_true_eq, decide_eq_true_eq] at z
      obtain ⟨a, xs, rfl, hs, ha, hl⟩ := len_ok hd
      cases ha with
      | nil => simp at z
      | @cons v0 vr d0 dr h0 hr' =>
        have hlr := dps_len hr'
        rw [List.length_cons] at z
        refine ⟨_, rfl, _, _, _, _, rfl, rfl, hs, at0 _ _, v0, d0, rfl, h0, _, rfl, ?_⟩
        cases hstr : isiD "str" d0 with
        | false =>
          refine iteT ?_
          have e : ruleD (.tuple (d0 :: dr)) n = false := by
            cases d0 with
            | str k => exact absurd (show true = false from hstr) (by decide)
            | _ => rfl
          rw [e] at q
          exact q
        | true =>
          obtain ⟨k, rfl⟩ := str_of hstr
          cases h0
          refine iteF ?_
          have q : Q (.bl (tailD k dr n)) H := q
          unfold tailD at q
          refine ⟨_, rfl, _, _, _, _, rfl, rfl, hs, at0 _ _, ?_⟩
          -- kind == 'none'
          refine ⟨_, rfl, rfl, _, rfl, ?_⟩
          rw [dec_str]
          refine ite2 (fun c => ?_) (fun c => ?_)
          · rw [if_pos (of_decide_eq_true c)] at q
            refine ⟨_, rfl, a, _, rfl, .inr hs, rfl, ?_⟩
            rw [dec_int, List.length_cons, hlr]
            exact q
          · rw [if_neg (of_decide_eq_false (Bool.eq_false_iff.mpr c))] at q
            -- kind == 'letter'
            refine ⟨_, rfl, rfl, _, rfl, ?_⟩
            rw [dec_str]
            refine ite2 (fun c2 => ?_) (fun c2 => ?_)
            · rw [if_pos (of_decide_eq_true c2)] at q
              refine ⟨_, rfl, a, _, rfl, .inr hs, rfl, _, rfl, ?_⟩
              rw [dec_int, List.length_cons]
              refine ite2 (fun c3 => ?_) (fun c3 => ?_)
              · have c3' := of_decide_eq_true c3
                match dr, vr, hr', hlr, q, hs with
                | [d1], [v1], hr', hlr, q, hs =>
                  cases hr' with
                  | cons h1 _ =>
                    exact ⟨_, rfl, _, _, _, _, rfl, rfl, hs, at1 _ _ _, v1, d1, rfl, h1, q⟩
                | [], [], _, _, _, _ => simp at c3'
                | _ :: _ :: _, _ :: _ :: _, _, _, _, _ => simp at c3'; omega
              · match dr, vr, hlr, q with
                | [d1], [v1], _, _ => exact absurd (show _ from decide_eq_true (by simp)) c3
                | [], _, _, q => exact q
                | _ :: _ :: _, _, _, q => exact q
            · rw [if_neg (of_decide_eq_false (Bool.eq_false_iff.mpr c2))] at q
              -- len(thing) != 3 or not is_within(thing[1], 0, at - 1)
              refine ⟨_, rfl, a, _, rfl, .inr hs, rfl, _, rfl, ?_⟩
              rw [dec_int, List.length_cons]
              by_cases c3 : (((vr.length + 1 : Nat) : Int)) = 3
              · rw [decide_eq_true c3]
                refine iteF ?_
                match dr, vr, hr', hlr, q, hs, c3 with
                | [d1, d2], [v1, v2], hr', hlr, q, hs, c3 =>
                  cases hr' with
                  | cons h1 hr2 =>
                    cases hr2 with
                    | cons h2 _ =>
                      refine ⟨_, rfl, _, _, _, _, rfl, rfl, hs, at1 _ _ _, _, rfl, _, _, rfl, rfl, v1, d1, 0, n - 1, rfl, h1, _, rfl, ?_⟩
                      cases hw : withinD d1 0 (n - 1) with
                      | false =>
                        refine iteT ?_
                        have q : Q (.bl (withinD d1 0 (n - 1) && _)) H := q
                        rw [hw, Bool.false_and] at q
                        exact q
                      | true =>
                        refine iteF ?_
                        have q : Q (.bl (withinD d1 0 (n - 1) && (if k = "pair" then withinD d2 0 (n - 1) else decide (k = "power") && (intD d2 && geD d2 2)))) H := q
                        rw [hw, Bool.true_and] at q
                        refine ⟨_, rfl, rfl, _, rfl, ?_⟩
                        rw [dec_str]
                        refine ite2 (fun c4 => ?_) (fun c4 => ?_)
                        · rw [if_pos (of_decide_eq_true c4)] at q
                          exact ⟨_, rfl, _, _, _, _, rfl, rfl, hs, at2 _ _ _ _, _, rfl, _, _, rfl, rfl, v2, d2, 0, n - 1, rfl, h2, q⟩
                        · rw [if_neg (of_decide_eq_false (Bool.eq_false_iff.mpr c4))] at q
                          refine ⟨_, rfl, rfl, _, rfl, ?_⟩
                          rw [dec_str]
                          refine ite2 (fun c5 => ?_) (fun c5 => ?_)
                          · rw [c5, Bool.true_and] at q
                            refine ⟨_, rfl, _, _, _, _, rfl, rfl, hs, at2 _ _ _ _, v2, d2, rfl, h2, _, rfl, ?_⟩
                            cases hi : intD d2 with
                            | false =>
                              rw [hi, Bool.false_and] at q
                              exact iteF q
                            | true =>
                              rw [hi, Bool.true_and] at q
                              obtain ⟨i, rfl⟩ := int_of hi
                              cases h2
                              refine iteT ⟨_, rfl, _, _, _, _, rfl, rfl, hs, at2 _ _ _ _, _, _, rfl, rfl, ?_⟩
                              exact q
                          · rw [Bool.eq_false_iff.mpr c5, Bool.false_and] at q
                            exact q
                | [], [], _, _, _, _, c3 => simp at c3
                | [_], [_], _, _, _, _, c3 => simp at c3
                | _ :: _ :: _ :: _, _ :: _ :: _ :: _, _, _, _, _, c3 => simp at c3; omega
              · rw [decide_eq_false c3]
                refine iteT (iteT ?_)
                match dr, vr, hlr, q, c3 with
                | [d1, d2], [v1, v2], _, _, c3 => exact absurd (by simp) c3
                | [], _, _, q, _ => exact q
                | [_], _, _, q, _ => exact q
                | _ :: _ :: _ :: _, _, _, q, _ => exact q
end
end K35


set_option Elab.async false
set_option linter.all false
set_option maxRecDepth 100000
set_option maxHeartbeats 4000000
namespace K35
open PySem PySem.Spec PyProof.Rows L2
def genC (sc : Scope) : Bool := decide (sc.kind = .function) && !sc.isCoroutine && sc.names.all (fun y => !decide (y.2 = .cell)) && sc.names.all (fun y => !decide (y.2 = .free)) && decide (sc.names.lookup (".0" : Str) = some NameKind.local)
theorem gensc_by {sc : Scope} (h : genC sc = true) : UG.GenSc sc := by
  unfold genC at h
  simp only [Bool.and_eq_true, Bool.not_eq_true', decide_eq_true_eq, List.all_eq_true, decide_eq_false_iff_not] at h
  obtain ⟨⟨⟨⟨h1, h2⟩, h3⟩, h4⟩, h5⟩ := h
  exact ⟨h1, h2, h3, h4, h5⟩
def allR : List PyData → Nat → Bool
  | [], _ => true
  | d :: r, n => ruleD d (n : Int) && allR r (n + 1)
theorem allR_true : ∀ {ds : List PyData} {n : Nat}, (∀ i d, ds[i]? = some d → ruleD d ((n + i : Nat) : Int) = true) → allR ds n = true
  | [], _, _ => rfl
  | d :: r, n, h => by
    unfold allR
    rw [Bool.and_eq_true]
    refine ⟨h 0 d rfl, allR_true fun i e he => ?_⟩
    have := h (i + 1) e (by simpa using he)
    rwa [show n + (i + 1) = n + 1 + i by omega] at this
theorem allR_false : ∀ {ds : List PyData} {n i : Nat} {d : PyData}, ds[i]? = some d → ruleD d ((n + i : Nat) : Int) = false → allR ds n = false
  | [], _, _, _, e, _ => by simp at e
  | d :: r, n, 0, _, e, h => by
    simp at e
    subst e
    unfold allR
    rw [show ruleD d (n : Int) = false from h, Bool.false_and]
  | d :: r, n, i + 1, e', e, h => by
    unfold allR
    rw [allR_false (ds := r) (n := n + 1) (i := i) (d := e') (by simpa using e) (by rw [show n + 1 + i = n + (i + 1) by omega]; exact h), Bool.and_false]
def straightD (d : PyData) : Bool := match d with
  | .tuple ds => rowD (.tuple ds) 1 4000 && allR ds 0
  | _ => false
def Keep (T : Addr) (H H' : Hp) : Prop := LamX.ExtN H H' ∧ GxR.TabG H' T
theorem keep_tabbed {T : Addr} {H H' : Hp} (h : GxR.TabG H T) (t : GxR.Tabbed T H H') : Keep T H H' := by
  refine ⟨fun b o e n => ?_, t.1⟩
  by_cases hb : b = T
  · obtain ⟨ps, hp, _⟩ := h
    rw [hb, hp] at e
    exact absurd (Option.some.inj e).symm (n ps)
  · rw [t.2 b hb]; exact e
theorem tabG_upd {T p : Addr} {H : Hp} {o : HO} (h : GxR.TabG H T) (hp : H p = none) : GxR.TabG (upd H p o) T := by
  obtain ⟨ps, h1, h2⟩ := h
  exact ⟨ps, by rw [upd_ne (ne_of_none h1 hp)]; exact h1, h2⟩
section
variable {P : Program} {w : World} {K : PySem.W.Frag} {mg : Str → Option Value} {base : Heap}
theorem nd2 : (["at", "rule"] : List Str).Nodup := by decide +kernel
def spStraight (K : PySem.W.Frag) (T : Addr) : Sp := fun vs H Q _ => ∃ v d, vs = [v] ∧ Dp K H v d ∧ GxR.TabG H T ∧ ∀ H', Keep T H H' → Q (.bl (straightD d)) H'
theorem sc_is_straight : FnScope ["thing"] ["thing"] (C8.fnScope (topS 13)) := C8.fnScope_by (by decide +kernel)
theorem ok_is_straight {f c T : Addr} {oc : Value} {od an : Option Addr} {kV doc pm ct : Value} {osl : Array (Option Value)}
    (lk : K.lookup f = some ⟨oc, od, .func (PySem.W.fnOf "is_straight" "is_straight" (C8.fnArgs (topS 13)) (C8.fnBody (topS 13)) (C8.fnScope (topS 13)) .none kV doc pm an (.ref c) ct), osl⟩) (hcd : PySem.W.codeIn K (.ref c) "is_straight" = true)
    (TB : LamX.TabB base mg c T) (B : Bl mg) (c_is_row : C8.Cal P w K mg base 1 "is_row" (spRow K) []) (c__is_rule : C8.Cal P w K mg base 4 "_is_rule" (spRule K) []) :
    FnOk P w K mg base C8.CX0 6 f (PySem.W.fnOf "is_straight" "is_straight" (C8.fnArgs (topS 13)) (C8.fnBody (topS 13)) (C8.fnScope (topS 13)) .none kV doc pm an (.ref c) ct) ["thing"] (spStraight K T) := by
  obtain ⟨tMR, hMR⟩ := B.mostR
  refine fn_of lk hcd sc_is_straight (by rintro vs H Q E ⟨v, d, rfl, _⟩; rfl) ?_
  intro A outer s H vs Q E hr hsp
  suffices h : ∃ t, PSs (cxOf C8.CX0 P w K mg base ["thing"] "is_straight" (C8.fnScope (topS 13)) f (.ref c) A outer s H E).nox (C8.fnBody (topS 13)) t ∧ t { nx := fun _ H' => Q .non H', rt := Q } (start ["thing"] vs) H by
    obtain ⟨t, h1, h2⟩ := h
    exact ⟨t, h1.nox, h2⟩
  obtain ⟨v, d, rfl, hd, hT, q⟩ := hsp
  refine ⟨_, pss_cons (ps_if (pt_not (pt_val (C8.pe_c c_is_row hr (by decide) rfl (pa_cons (pv 0) (pa_cons pe_int (pa_cons (pe_glob (v := .int 4000) rfl hMR ⟨_, rfl⟩) pa_nil)))))) (pss_one (ps_ret pe_bl)) pss_nil)
    (pss_one (ps_ret (UG.pe_allG (P := T) (N := ["at", "rule"]) (k := 4) (g := gTup K 2 (gCons (gName 0) (gCons (gName 1) gNil))) hr rfl B.all (by decide +kernel) TB rfl (gensc_by (by decide +kernel)) (UG.pi_enumT rfl B.enumerate (pa_cons (pv 0) pa_nil))
      (fun _ _ _ _ _ _ _ => by exact pg_tup rfl (pgs_cons (pg_name (i := 0) nd2 rfl (Or.inl rfl)) (pgs_cons (pg_name (i := 1) nd2 rfl (Or.inl rfl)) pgs_nil)))
      (fun _ _ _ _ _ _ hr' => by exact C8.pe_c c__is_rule hr' (by decide) rfl (pa_cons (pv 1) (pa_cons (pv 0) pa_nil)))))), ?_⟩
  refine ⟨_, rfl, v, d, 1, 4000, rfl, hd, _, rfl, ?_⟩
  cases hrow : rowD d 1 4000 with
  | false =>
    refine iteT ?_
    have e : straightD d = false := by
      cases d with
      | tuple ds =>
        show (rowD (.tuple ds) 1 4000 && allR ds 0) = false
        rw [hrow, Bool.false_and]
      | _ => rfl
    have := q H ⟨LamX.ExtN.refl H, hT⟩
    rw [e] at this
    exact this
  | true =>
    refine iteF ?_
    have htup : isiD "tuple" d = true := by
      cases d with
      | tuple ds => rfl
      | _ => cases hrow
    obtain ⟨ds, rfl⟩ := tup_of htup
    have es : straightD (.tuple ds) = allR ds 0 := by
      show (rowD (.tuple ds) 1 4000 && allR ds 0) = allR ds 0
      rw [hrow, Bool.true_and]
    rw [es] at q
    obtain ⟨a, xs, rfl, hs, ha, hl⟩ := len_ok hd
    refine ⟨_, rfl, a, xs, rfl, hs, hT, xs.length, fun i H' => i ≤ xs.length ∧ Keep T H H' ∧ ∀ j e, j < i → ds[j]? = some e → ruleD e ((j : Nat) : Int) = true, ⟨?_⟩, ?_⟩
    · rintro i H1 ⟨hi, hk, hall⟩
      by_cases hlt : i < xs.length
      · refine .inr ⟨hlt, ⟨xs, xs[i], sqt_ext hk.1 hs, List.getElem?_eq_getElem hlt⟩, ?_⟩
        rintro _ _ ⟨Tp, x, rfl, hTp, rfl, hx⟩
        have ex := hx xs (sqt_ext hk.1 hs)
        obtain ⟨e, he, hde⟩ := dps_get' ha ex
        have ext2 : LamX.ExtN H (upd H1 Tp (.tup [.int (i : Nat), x])) := hk.1.trans (same_ext (same_new hTp _))
        refine ⟨Tp, [.int (i : Nat), x], rfl, SqT.of upd_same, rfl, _, _, rfl, _, _, rfl, rfl, _, rfl, _, rfl, x, e, (i : Nat), rfl, dp_ext ext2 e hde, _, rfl, ?_⟩
        have kp : Keep T H (upd H1 Tp (.tup [.int (i : Nat), x])) := ⟨ext2, tabG_upd hk.2 hTp⟩
        cases hb : ruleD e ((i : Nat) : Int) with
        | true =>
          refine iteT ⟨hlt, kp, fun j e' hj he' => ?_⟩
          rcases Nat.lt_succ_iff_lt_or_eq.mp hj with h | h
          · exact hall j e' h he'
          · subst h
            rw [he] at he'
            cases he'
            exact hb
        | false =>
          refine iteF ?_
          have := q _ kp
          rw [allR_false (n := 0) he (by rw [Nat.zero_add]; exact hb)] at this
          exact this
      · have ei : i = xs.length := by omega
        refine .inl ⟨⟨xs, sqt_ext hk.1 hs, by omega⟩, ?_⟩
        have := q H1 hk
        rw [allR_true (n := 0) fun j e he => by rw [Nat.zero_add]; exact hall j e (by have := (List.getElem?_eq_some_iff.mp he).1; omega) he] at this
        exact this
    · intro H2 t2
      exact ⟨Nat.zero_le _, keep_tabbed hT t2, fun j e hj => absurd hj (Nat.not_lt_zero _)⟩
end
end K35


set_option Elab.async false
set_option linter.all false
set_option maxRecDepth 100000
set_option maxHeartbeats 4000000
namespace K35
open PySem PySem.Spec PyProof.Rows L2
/-! ### data of bounded depth -/
def OkN (n : Nat) (d : PyData) : Prop := PyData.canLay0 d = true ∧ PyData.depth d ≤ n
theorem oks_iff {n : Nat} : ∀ {ds : List PyData}, (PyData.canLayAll0 ds = true ∧ PyData.depthAll ds ≤ n) ↔ ∀ d ∈ ds, OkN n d
  | [] => by simp [PyData.canLayAll0, PyData.depthAll]
  | d :: r => by
    have ih := @oks_iff n r
    unfold PyData.canLayAll0 PyData.depthAll
    rw [Bool.and_eq_true, Nat.max_le]
    constructor
    · rintro ⟨⟨h1, h2⟩, h3, h4⟩ e he
      rcases List.mem_cons.mp he with rfl | he
      · exact ⟨h1, h3⟩
      · exact ih.mp ⟨h2, h4⟩ e he
    · intro h
      have h1 := h d List.mem_cons_self
      have h2 := ih.mpr fun e he => h e (List.mem_cons_of_mem _ he)
      exact ⟨⟨h1.1, h2.1⟩, h1.2, h2.2⟩
theorem ok_tup {n : Nat} {ds : List PyData} : OkN (n + 1) (.tuple ds) ↔ ∀ d ∈ ds, OkN n d := by
  rw [← oks_iff]
  unfold OkN
  rw [PyData.canLay0, PyData.depth]
  constructor
  · rintro ⟨a, b⟩; exact ⟨a, by omega⟩
  · rintro ⟨a, b⟩; exact ⟨a, by omega⟩
theorem ok_lst {n : Nat} {ds : List PyData} : OkN (n + 1) (.list ds) ↔ ∀ d ∈ ds, OkN n d := by
  rw [← oks_iff]
  unfold OkN
  rw [PyData.canLay0, PyData.depth]
  constructor
  · rintro ⟨a, b⟩; exact ⟨a, by omega⟩
  · rintro ⟨a, b⟩; exact ⟨a, by omega⟩
theorem OkN.mono {n m : Nat} {d : PyData} (h : OkN n d) (hm : n ≤ m) : OkN m d := ⟨h.1, Nat.le_trans h.2 hm⟩
theorem OkN.shaped {n : Nat} {d : PyData} (h : OkN n d) (hn : n ≤ 64) : SeqAt.shaped d = true := by
  unfold SeqAt.shaped
  rw [h.1, Bool.true_and]
  exact decide_eq_true (Nat.le_trans h.2 hn)
theorem eqv_nil (ds : List PyData) : PyData.eqv (.list ds) (.list []) = ds.isEmpty := by
  cases ds <;> simp [PyData.eqv, PyData.eqvAll]
theorem dps_filter {K : PySem.W.Frag} {H : Hp} : ∀ {vs : List V} {ds : List PyData}, DpAll K H vs ds → True := fun _ => trivial
theorem noint {k : Str} {r : List PyData} {n : Int} (hl : r.length ≤ 2) (h : (r.filter fun d => !intD d) ≠ []) : tailD k r n = false := by
  match r, hl with
  | [], _ => exact absurd rfl h
  | [a], _ =>
    have ha : intD a = false := by
      cases e : intD a with
      | false => rfl
      | true => simp [e] at h
    unfold tailD
    split
    · exact decide_eq_false (by simp)
    · split
      · cases a <;> first | rfl | cases ha
      · rfl
  | [a, b], _ =>
    unfold tailD
    split
    · exact decide_eq_false (by simp)
    · split
      · rfl
      · show (withinD a 0 (n - 1) && _) = false
        cases e : intD a with
        | false =>
          have : withinD a 0 (n - 1) = false := by cases a <;> first | rfl | cases e
          rw [this, Bool.false_and]
        | true =>
          have hb : intD b = false := by
            cases e2 : intD b with
            | false => rfl
            | true => simp [e, e2] at h
          have : withinD b 0 (n - 1) = false := by cases b <;> first | rfl | cases hb
          show (withinD a 0 (n - 1) && (if k = "pair" then withinD b 0 (n - 1) else decide (k = "power") && (intD b && geD b 2))) = false
          rw [hb, this]
          simp
  | _ :: _ :: _ :: _, hl => simp at hl
theorem allint {r : List PyData} (h : (r.filter fun d => !intD d) = []) : ∀ d ∈ r, ∃ i, d = .int i := by
  intro d hd
  apply int_of
  cases e : intD d with
  | true => rfl
  | false =>
    have : d ∈ r.filter fun d => !intD d := List.mem_filter.mpr ⟨hd, by rw [e]; rfl⟩
    rw [h] at this
    cases this
theorem inV_str (k : Str) : ∀ zs : List Str, inV (.str k) (zs.map V.str) = zs.any fun z => decide (k = z)
  | [] => rfl
  | z :: r => by
    have ih := inV_str k r
    show (eqV (.str z) (.str k) || inV (.str k) (r.map V.str)) = _
    rw [ih, List.any_cons]
    congr 1
    show (z == k) = decide (k = z)
    by_cases h : k = z
    · subst h; simp
    · rw [decide_eq_false h]; exact beq_eq_false_iff_ne.mpr (Ne.symm h)
section
variable {P : Program} {w : World} {K : PySem.W.Frag} {mg : Str → Option Value} {base : Heap}
def spSame (K : PySem.W.Frag) : Sp := fun vs H Q _ => ∃ x y : Bool, vs = [.bl x, .bl y] ∧ Q (.bl (x == y)) H
theorem sc__law_same : FnScope ["found", "due", "k"] ["found", "due"] (C8.fnScope (topS 26)) := C8.fnScope_by (by decide +kernel)
theorem ok__law_same {f : Addr} {fd : FuncData} (F : C8.Def K mg "_law_same" (topS 26) f fd) (b : Binds K fd ["found", "due"] []) (B : Bl mg)  : C8.Cal P w K mg base 1 "_law_same" (spSame K) [] := by
  refine C8.cal0 F b .nil sc__law_same ?len ?body
  case len => rintro vs H Q E ⟨x, y, rfl, _⟩; rfl
  case body =>
    rintro cdv A outer s H vs Q E hr ⟨x, y, rfl, q⟩
    refine ⟨_, (pss_cons (ps_if (pt_val (pe_isD (c := "tuple") B (pv 1) rfl rfl B.tuple (by decide +kernel) (by decide))) pss_never pss_nil)
    (pss_cons (ps_if (pt_cmpR op_isN (pv 1) pe_non (nomark _)) (pss_one (ps_ret (pe_cmpR op_isN (pv 0) pe_non (nomark _)))) pss_nil)
    (pss_cons (ps_if (pt_val (pe_isD (c := "bool") B (pv 1) rfl rfl B.bool (by decide +kernel) (by decide))) (pss_one (ps_ret (pe_and (pe_isD (c := "bool") B (pv 0) rfl rfl B.bool (by decide +kernel) (by decide)) (pe_one (pe_cmpR op_eq (pv 0) (pv 1) (nomark _)))))) pss_nil)
    pss_never))), ?_⟩
    refine ⟨_, rfl, .bl y, .bool y, rfl, .bl y, _, rfl, iteF ?_⟩
    refine ⟨_, rfl, rfl, _, rfl, ?_⟩
    refine iteF ?_
    refine ⟨_, rfl, .bl y, .bool y, rfl, .bl y, _, rfl, iteT ?_⟩
    refine ⟨_, rfl, .bl x, .bool x, rfl, .bl x, _, rfl, iteT ?_⟩
    refine ⟨_, rfl, _, rfl, rfl, ?_⟩
    have e : decide (V.bl x = V.bl y) = (x == y) := by cases x <;> cases y <;> decide
    rw [e]
    exact q
end
end K35


set_option Elab.async false
set_option linter.all false
set_option maxRecDepth 100000
set_option maxHeartbeats 8000000
namespace K35
open PySem PySem.Spec PyProof.Rows L2
theorem cut1 (x : V) (vs : List V) : cutV (x :: vs) (some 1) none = vs := by
  unfold cutV
  rw [show HT.sIx (x :: vs).length 0 (some 1) = 1 from by rw [show (1 : Int) = ((1 : Nat) : Int) from rfl, HT.sIx_nat]; simp, HT.sIx_none]
  simp
theorem whole1 (x : V) (vs : List V) : ¬ (HT.sIx (x :: vs).length 0 (some 1) = 0 ∧ HT.sIx (x :: vs).length (x :: vs).length none = (x :: vs).length) := by
  rw [show HT.sIx (x :: vs).length 0 (some 1) = 1 from by rw [show (1 : Int) = ((1 : Nat) : Int) from rfl, HT.sIx_nat]; simp]
  simp
theorem dps_snoc {K : PySem.W.Frag} {H : Hp} : ∀ {vs : List V} {ds : List PyData} {v : V} {d : PyData}, DpAll K H vs ds → Dp K H v d → DpAll K H (vs ++ [v]) (ds ++ [d])
  | _, _, _, _, .nil, h => .cons h .nil
  | _, _, _, _, .cons h t, h' => .cons h (dps_snoc t h')
theorem take_succ {α : Type} {l : List α} {i : Nat} {x : α} (h : l[i]? = some x) : l.take (i + 1) = l.take i ++ [x] := by
  rw [List.take_add_one, h]; rfl
theorem tail_pair (a b n : Int) : tailD "pair" [.int a, .int b] n = (decide (0 ≤ a) && decide (a ≤ n - 1) && (decide (0 ≤ b) && decide (b ≤ n - 1))) := by
  unfold tailD
  rw [if_neg (by decide), if_neg (by decide)]
  show (withinD (.int a) 0 (n - 1) && (if ("pair" : Str) = "pair" then withinD (.int b) 0 (n - 1) else _)) = _
  rw [if_pos rfl]
  rfl
theorem tail_power (a b n : Int) : tailD "power" [.int a, .int b] n = (decide (0 ≤ a) && decide (a ≤ n - 1) && decide (2 ≤ b)) := by
  unfold tailD
  rw [if_neg (by decide), if_neg (by decide)]
  show (withinD (.int a) 0 (n - 1) && (if ("power" : Str) = "pair" then withinD (.int b) 0 (n - 1) else decide (("power" : Str) = "power") && (intD (.int b) && geD (.int b) 2))) = _
  rw [if_neg (by decide), decide_eq_true (rfl : ("power" : Str) = "power")]
  rfl
theorem tail_short {k : Str} {r : List PyData} {n : Int} (hk : k = "pair" ∨ k = "power") (h : r.length < 2) : tailD k r n = false := by
  rcases hk with rfl | rfl
  all_goals
    unfold tailD
    rw [if_neg (by decide), if_neg (by decide)]
    match r, h with
    | [], _ => rfl
    | [_], _ => rfl
    | _ :: _ :: _, h => exact absurd h (by simp only [List.length_cons]; omega)
theorem tail_none (r : List PyData) (n : Int) : tailD "none" r n = decide ((r.length : Int) + 1 = 1) := by
  unfold tailD
  rw [if_pos rfl]
theorem tail_letter1 (d : PyData) (n : Int) : tailD "letter" [d] n = letterD d := by
  unfold tailD
  rw [if_neg (by decide), if_pos rfl]
theorem tail_letterN {r : List PyData} {n : Int} (h : r.length ≠ 1) : tailD "letter" r n = false := by
  unfold tailD
  rw [if_neg (by decide), if_pos rfl]
  match r, h with
  | [], _ => rfl
  | [_], h => simp at h
  | _ :: _ :: _, _ => rfl
theorem tail_other {k : Str} {r : List PyData} {n : Int} (h1 : k ≠ "none") (h2 : k ≠ "letter") (h3 : k ≠ "pair") (h4 : k ≠ "power") : tailD k r n = false := by
  unfold tailD
  rw [if_neg h1, if_neg h2]
  match r with
  | [] => rfl
  | [_] => rfl
  | [a, b] =>
    show (withinD a 0 (n - 1) && (if k = "pair" then withinD b 0 (n - 1) else decide (k = "power") && (intD b && geD b 2))) = false
    rw [if_neg h3, decide_eq_false h4, Bool.false_and, Bool.and_false]
  | _ :: _ :: _ :: _ => rfl
theorem len1 {α : Type} {l : List α} (h : l.length = 1) : ∃ a, l = [a] := by
  match l, h with
  | [a], _ => exact ⟨a, rfl⟩
theorem len2 {α : Type} {l : List α} (h : l.length = 2) : ∃ a b, l = [a, b] := by
  match l, h with
  | [a, b], _ => exact ⟨a, b, rfl⟩
end K35


set_option Elab.async false
set_option linter.all false
set_option maxRecDepth 100000
set_option maxHeartbeats 8000000
namespace K35
open PySem PySem.Spec PyProof.Rows L2
/-! ### the cup -/
def Cup0 (H : Hp) (c l : Addr) (m : Nat) : Prop := ∃ (a b n : Int) (ns : List Int), H c = some (.lst [.int a, .int b, .int n, .ref l]) ∧ H l = some (.lst (ns.map V.int)) ∧ c ≠ l ∧ 0 ≤ a ∧ 0 ≤ b ∧ b < 2147483648 ∧ 0 ≤ n ∧ n + m ≤ 1000000
/-- .. and a list at e that no data shows -/
def Cup (H : Hp) (c l e : Addr) (m : Nat) : Prop := Cup0 H c l m ∧ ∃ es, H e = some (.lst es)
theorem Cup0.le {H : Hp} {c l : Addr} {m k : Nat} (h : Cup0 H c l m) (hk : k ≤ m) : Cup0 H c l k := by
  obtain ⟨a, b, n, ns, h1, h2, h3, h4, h5, h6, h7, h8⟩ := h
  exact ⟨a, b, n, ns, h1, h2, h3, h4, h5, h6, h7, by omega⟩
theorem Cup.le {H : Hp} {c l e : Addr} {m k : Nat} (h : Cup H c l e m) (hk : k ≤ m) : Cup H c l e k := ⟨h.1.le hk, h.2⟩
theorem Cup.same {H H' : Hp} {c l e : Addr} {m : Nat} (h : Cup H c l e m) (s : Same H H') : Cup H' c l e m := by
  obtain ⟨⟨a, b, n, ns, h1, h2, h3⟩, es, h4⟩ := h
  exact ⟨⟨a, b, n, ns, s _ _ h1, s _ _ h2, h3⟩, es, s _ _ h4⟩
/-- all but the cup stays -/
def Kp (c l : Addr) (H H' : Hp) : Prop := ∀ p o, p ≠ c → p ≠ l → H p = some o → H' p = some o
theorem Kp.refl {c l : Addr} (H : Hp) : Kp c l H H := fun _ _ _ _ h => h
theorem Kp.trans {c l : Addr} {H H' H2 : Hp} (a : Kp c l H H') (b : Kp c l H' H2) : Kp c l H H2 := fun p o x y h => b p o x y (a p o x y h)
theorem Kp.of_same {c l : Addr} {H H' : Hp} (s : Same H H') : Kp c l H H' := fun p o _ _ h => s p o h
theorem Kp.upd_c {c l : Addr} {H : Hp} (o : HO) : Kp c l H (upd H c o) := fun p o' x _ h => by rw [upd_ne x]; exact h
theorem Kp.upd_l {c l : Addr} {H : Hp} (o : HO) : Kp c l H (upd H l o) := fun p o' _ y h => by rw [upd_ne y]; exact h
theorem Cup.kp {H H' : Hp} {c l e : Addr} {m m' : Nat} (h : Cup H c l e m) (k : Kp c l H H') (C : Cup0 H' c l m') : Cup H' c l e m' := by
  refine ⟨C, ?_⟩
  obtain ⟨a, b, n, ns, h1, h2, h3⟩ := C
  obtain ⟨es, h4⟩ := h.2
  by_cases x : e = c
  · rw [x]; exact ⟨_, h1⟩
  · by_cases y : e = l
    · rw [y]; exact ⟨_, h2⟩
    · exact ⟨es, k _ _ x y h4⟩
/-- the heap without the cup and the list at e -/
def cut (c l e : Addr) (H : Hp) : Hp := fun p => if p = c ∨ p = l ∨ p = e then none else H p
theorem cut_ext {c l e : Addr} {H : Hp} : Same (cut c l e H) H := fun p o h => by
  unfold cut at h
  split at h
  · cases h
  · exact h
theorem cut_get {c l e p : Addr} {H : Hp} (n : p ≠ c ∧ p ≠ l ∧ p ≠ e) : cut c l e H p = H p := by
  unfold cut
  rw [if_neg (by rintro (h | h | h); exact n.1 h; exact n.2.1 h; exact n.2.2 h)]
theorem Kp.cut {c l e : Addr} {H H' : Hp} (h : Kp c l H H') : Same (K35.cut c l e H) (K35.cut c l e H') := fun p o x => by
  unfold K35.cut at x ⊢
  split at x
  · cases x
  · next n =>
    rw [if_neg n]
    exact h p o (fun z => n (.inl z)) (fun z => n (.inr (.inl z))) x
theorem Cup.new {H : Hp} {c l e p : Addr} {m : Nat} (h : Cup H c l e m) (hp : H p = none) : p ≠ c ∧ p ≠ l ∧ p ≠ e := by
  obtain ⟨⟨a, b, n, ns, h1, h2, h3⟩, es, h4⟩ := h
  refine ⟨?_, ?_, ?_⟩
  · rintro rfl; rw [h1] at hp; cases hp
  · rintro rfl; rw [h2] at hp; cases hp
  · rintro rfl; rw [h4] at hp; cases hp
theorem dp_ints {K : PySem.W.Frag} {H : Hp} : ∀ ns : List Int, DpAll K H (ns.map V.int) (ns.map PyData.int)
  | [] => .nil
  | n :: ns => .cons (.int n) (dp_ints ns)
theorem seq0 {α : Type} {x : α} (l : List α) : seqIndex? 0 (x :: l).length = some 0 := by
  unfold seqIndex?
  simp
theorem ok_int (n : Nat) (i : Int) : OkN (n + 1) (.int i) := ⟨rfl, by unfold PyData.depth; omega⟩
section
variable {P : Program} {w : World} {K : PySem.W.Frag} {mg : Str → Option Value} {base : Heap}
def spSip : Sp := fun vs H Q _ => ∃ (c l e : Addr) (m : Nat) (k : Int), vs = [.ref c, .int k] ∧ Cup H c l e (m + 1) ∧ 1 ≤ k ∧ k.natAbs.log2 < 9000 ∧ ∀ (r : Int) H', 0 ≤ r → r < k → Cup H' c l e m → Kp c l H H' → Q (.int r) H'
theorem sc__law_sip : FnScope ["cup", "many", "size", "drawn"] ["cup", "many"] (C8.fnScope (topS 25)) := C8.fnScope_by (by decide +kernel)
theorem ok__law_sip {f : Addr} {fd : FuncData} (F : C8.Def K mg "_law_sip" (topS 25) f fd) (b : Binds K fd ["cup", "many"] []) (B : Bl mg)  : C8.Cal P w K mg base 1 "_law_sip" spSip [] := by
  refine C8.cal0 F b .nil sc__law_sip ?len ?body
  case len => rintro vs H Q E ⟨c, l, e, m, k, rfl, _⟩; rfl
  case body =>
    rintro cdv A outer s H vs Q E hr ⟨c, l, e, m, k, rfl, CC, hk, hk2, q0⟩
    obtain ⟨a, b, n, ns, hc, hl, hcl, ha, hb, hb2, hn, hm⟩ := CC.1
    have q : ∀ (r : Int) H', 0 ≤ r → r < k → Cup0 H' c l m → Kp c l H H' → Q (.int r) H' := fun r H' h0 h1 C kp => q0 r H' h0 h1 (CC.kp kp C) kp
    refine ⟨_, (pss_cons (ps_if (PW.pt (pw_and (pt_cmpR op_eq (pe_ix ix_list (pv 0) pe_int (fun _ _ => rfl)) pe_int (nomark _)) (pw_and1 (pt_cmpR (op_neD (hr.units)) (pe_ix ix_list (pv 0) pe_int (fun _ _ => rfl)) (pe_lst pa_nil) (nomark _))))) (pss_cons (ps_set (i := 2) sc__law_sip.nd rfl (Or.inl rfl) (pe_callB call_abs rfl B.abs (by decide +kernel) (pa_cons (pe_callTy call_int1 rfl B.int (by decide +kernel) (pa_cons (pe_bm PySem.F.plainAttrs_list PySem.F.slot_list_pop PySem.F.type_list_pop mt_popAt (pe_ix ix_list (pv 0) pe_int (fun _ _ => rfl)) (pa_cons pe_int pa_nil)) pa_nil)) pa_nil)))
    (pss_one (ps_asg (pe_ifExp (pt_cmpR op_ge (pv 2) (pe_op op_pow pe_int pe_int) (nomark _)) (pv 2) (pe_op op_add (pe_op op_mul (pe_op op_fdiv (pe_op op_mul (pv 2) (pv 2)) pe_int) pe_int) (pv 2))) (pg_sub (pv 0) pe_int set_list)))) pss_nil)
    (pss_cons (ps_if (pt_cmpR op_gt (pe_ix ix_list (pv 0) pe_int (fun _ _ => rfl)) pe_int (nomark _)) (pss_cons (ps_set (i := 3) sc__law_sip.nd rfl (Or.inl rfl) (pe_op op_mod (pe_callTy call_int1 rfl B.int (by decide +kernel) (pa_cons (pe_ix ix_list (pv 0) pe_int (fun _ _ => rfl)) pa_nil)) (pv 1)))
    (pss_cons (ps_asg (pe_op op_fdivW (pe_ix ix_list (pv 0) pe_int (fun _ _ => rfl)) (pv 1)) (pg_sub (pv 0) pe_int set_list))
    (pss_one (ps_ret (pv 3))))) pss_nil)
    (pss_cons (ps_asg (pe_op op_add (pe_ix ix_list (pv 0) pe_int (fun _ _ => rfl)) pe_int) (pg_sub (pv 0) pe_int set_list))
    (pss_cons (ps_asg (pe_op op_mod (pe_callTy call_int1 rfl B.int (by decide +kernel) (pa_cons (pe_op op_add (pe_op op_add (pe_op op_mul (pe_ix ix_list (pv 0) pe_int (fun _ _ => rfl)) pe_int) (pe_op op_mul (pe_op op_mul (pe_ix ix_list (pv 0) pe_int (fun _ _ => rfl)) (pe_ix ix_list (pv 0) pe_int (fun _ _ => rfl))) pe_int)) pe_int) pa_nil)) pe_int) (pg_sub (pv 0) pe_int set_list))
    (pss_one (ps_ret (pe_op op_mod (pe_op op_fdiv (pe_op op_mod (pe_callTy call_int1 rfl B.int (by decide +kernel) (pa_cons (pe_op op_mul (pe_ix ix_list (pv 0) pe_int (fun _ _ => rfl)) (pe_op op_add (pe_op op_fdiv (pe_ix ix_list (pv 0) pe_int (fun _ _ => rfl)) pe_int) pe_int)) pa_nil)) pe_int) pe_int) (pv 1)))))))), ?_⟩
    refine ⟨_, rfl, _, _, _, _, rfl, rfl, SqL.of hc, rfl, rfl, _, rfl, ?_⟩
    rw [dec_int]
    have nc : ∀ {p : Addr}, H p = none → c ≠ p := fun hp z => by rw [← z, hc] at hp; cases hp
    have nl : ∀ {p : Addr}, H p = none → l ≠ p := fun hp z => by rw [← z, hl] at hp; cases hp
    by_cases h0 : a = 0
    · rw [decide_eq_true h0]
      refine iteT ⟨_, rfl, _, _, _, _, rfl, rfl, SqL.of hc, rfl, (by show 0 ≤ sizeLine; decide), fun p hp => ?_⟩
      have hc1 : upd H p (.lst []) c = some (.lst [.int a, .int b, .int n, .ref l]) := by rw [upd_ne (nc hp)]; exact hc
      have hl1 : upd H p (.lst []) l = some (.lst (ns.map V.int)) := by rw [upd_ne (nl hp)]; exact hl
      have kp1 : Kp c l H (upd H p (.lst [])) := Kp.of_same (same_new hp _)
      refine ⟨.list (ns.map PyData.int), .list [], .lst (SqL.of hl1) (dp_ints ns), .lst (SqL.of upd_same) .nil, OkN.shaped (n := 2) (ok_lst.mpr fun d hd => ?_) (by decide), by decide +kernel, _, rfl, ?_⟩
      · obtain ⟨i, _, rfl⟩ := List.mem_map.mp hd
        exact ok_int _ _
      rw [eqv_nil]
      generalize upd H p (.lst []) = H1 at hc1 hl1 kp1
      cases ns with
      | nil =>
        refine iteF ?_
        have ha1 := ha
        generalize a = a1 at hc1 ha1
        generalize ([] : List Int) = ns1 at hl1
        refine ⟨_, rfl, _, _, _, _, rfl, rfl, SqL.of hc1, rfl, _, _, rfl, rfl, _, rfl, ?_⟩
        by_cases g1 : (0 : Int) < a1
        · rw [decide_eq_true g1]
          refine iteT ⟨_, rfl, _, _, _, _, rfl, rfl, SqL.of hc1, rfl, .inl ⟨_, rfl, _, rfl, _, _, rfl, rfl, (show (0 : Int) < k by omega), ?_⟩⟩
          refine ⟨_, rfl, _, _, _, _, rfl, rfl, SqL.of hc1, rfl, _, rfl, _, _, rfl, rfl, ⟨(show (0 : Int) < k by omega), hk2⟩, _, rfl, c, _, 0, 0, rfl, rfl, hc1, rfl, ?_⟩
          refine ⟨_, rfl, q _ _ (Int.emod_nonneg _ (by omega)) (Int.emod_lt_of_pos _ (by omega)) ⟨a1 / k, b, n, ns1, upd_same, ?_, hcl, Int.ediv_nonneg ha1 (by omega), hb, hb2, hn, by omega⟩ (kp1.trans (Kp.upd_c _))⟩
          rw [upd_ne (Ne.symm hcl)]
          exact hl1
        · rw [decide_eq_false g1]
          refine iteF ?_
          refine ⟨_, rfl, _, _, _, _, rfl, rfl, SqL.of hc1, rfl, _, _, rfl, rfl, _, rfl, c, _, 2, 2, rfl, rfl, hc1, rfl, ?_⟩
          have hc2 : upd H1 c (.lst [.int a1, .int b, .int (n + 1), .ref l]) c = some (.lst [.int a1, .int b, .int (n + 1), .ref l]) := upd_same
          have hl2 : upd H1 c (.lst [.int a1, .int b, .int (n + 1), .ref l]) l = some (.lst (ns1.map V.int)) := by rw [upd_ne (Ne.symm hcl)]; exact hl1
          have kp2 : Kp c l H (upd H1 c (.lst [.int a1, .int b, .int (n + 1), .ref l])) := kp1.trans (Kp.upd_c _)
          show (fun H2 => _) (upd H1 c (.lst [.int a1, .int b, .int (n + 1), .ref l]))
          generalize upd H1 c (.lst [.int a1, .int b, .int (n + 1), .ref l]) = H2 at hc2 hl2 kp2
          refine ⟨_, rfl, _, _, _, _, rfl, rfl, SqL.of hc2, rfl, _, _, rfl, rfl, .inl ⟨by omega, by omega⟩, ?_⟩
          refine ⟨_, rfl, _, _, _, _, rfl, rfl, SqL.of hc2, rfl, ?_⟩
          refine ⟨_, rfl, _, _, _, _, rfl, rfl, SqL.of hc2, rfl, _, _, rfl, rfl, .inl ⟨by omega, by omega⟩, _, _, rfl, rfl, .inr ⟨by decide, by decide⟩, ?_⟩
          refine ⟨_, _, rfl, rfl, _, _, rfl, rfl, .inl ⟨_, rfl, _, _, rfl, rfl, (show (0 : Int) < 2147483647 by decide), _, rfl, c, _, 1, 1, rfl, rfl, hc2, rfl, ?_⟩⟩
          have p1 := Int.emod_nonneg (b * 16807 + (n + 1) * (n + 1) * 4099 + 77) (show (2147483647 : Int) ≠ 0 by decide)
          have p2 := Int.emod_lt_of_pos (b * 16807 + (n + 1) * (n + 1) * 4099 + 77) (show (0 : Int) < 2147483647 by decide)
          show (fun H2 => _) (upd H2 c (.lst [.int a1, .int ((b * 16807 + (n + 1) * (n + 1) * 4099 + 77) % 2147483647), .int (n + 1), .ref l]))
          generalize (b * 16807 + (n + 1) * (n + 1) * 4099 + 77) % 2147483647 = b2 at p1 p2
          have hc3 : upd H2 c (.lst [.int a1, .int b2, .int (n + 1), .ref l]) c = some (.lst [.int a1, .int b2, .int (n + 1), .ref l]) := upd_same
          have hl3 : upd H2 c (.lst [.int a1, .int b2, .int (n + 1), .ref l]) l = some (.lst (ns1.map V.int)) := by rw [upd_ne (Ne.symm hcl)]; exact hl2
          have kp3 : Kp c l H (upd H2 c (.lst [.int a1, .int b2, .int (n + 1), .ref l])) := kp2.trans (Kp.upd_c _)
          generalize upd H2 c (.lst [.int a1, .int b2, .int (n + 1), .ref l]) = H3 at hc3 hl3 kp3
          refine ⟨_, rfl, _, _, _, _, rfl, rfl, SqL.of hc3, rfl, ?_⟩
          refine ⟨_, rfl, _, _, _, _, rfl, rfl, SqL.of hc3, rfl, _, _, rfl, rfl, ⟨by decide, by decide⟩, _, _, rfl, rfl, _, _, rfl, rfl, .inl ⟨by omega, by omega⟩, ?_⟩
          refine .inl ⟨_, rfl, _, _, rfl, rfl, (show (0 : Int) < 2147483629 by decide), _, _, rfl, rfl, ⟨by decide, by decide⟩, _, rfl, _, _, rfl, rfl, (show (0 : Int) < k by omega), ?_⟩
          exact q _ _ (Int.emod_nonneg _ (by omega)) (Int.emod_lt_of_pos _ (by omega)) ⟨a1, b2, n + 1, ns1, hc3, hl3, hcl, ha1, p1, by omega, by omega, by omega⟩ kp3
      | cons n0 nr =>
        refine iteT ?_
        refine ⟨_, rfl, _, _, _, _, rfl, rfl, SqL.of hc1, rfl, .inl ⟨rfl, _, SqL.of hl1⟩, l, _, 0, 0, .int n0, rfl, rfl, hl1, by decide, by decide, seq0 _, rfl, .inl ⟨n0, rfl, n0, rfl, ?_⟩⟩
        refine ⟨_, rfl, _, _, rfl, rfl, ⟨by decide, by decide, by decide⟩, _, _, rfl, rfl, _, rfl, ?_⟩
        have hsz : (0 : Int) ≤ (if n0 < 0 then -n0 else n0) := by split <;> omega
        generalize (if n0 < 0 then -n0 else n0) = z at hsz
        have hc1' : upd H1 l (.lst (((n0 :: nr).map V.int).eraseIdx 0)) c = some (.lst [.int a, .int b, .int n, .ref l]) := by rw [upd_ne hcl]; exact hc1
        have hl1' : upd H1 l (.lst (((n0 :: nr).map V.int).eraseIdx 0)) l = some (.lst (nr.map V.int)) := upd_same
        have kp1' : Kp c l H (upd H1 l (.lst (((n0 :: nr).map V.int).eraseIdx 0))) := kp1.trans (Kp.upd_l _)
        show (fun H2 => _) (upd H1 l (.lst (((n0 :: nr).map V.int).eraseIdx 0)))
        generalize upd H1 l (.lst (((n0 :: nr).map V.int).eraseIdx 0)) = H1' at hc1' hl1' kp1'
        refine ite2 (fun _ => ?_) (fun g0 => ?_)
        · refine ⟨_, rfl, _, rfl, c, _, 0, 0, rfl, rfl, hc1', rfl, ?_⟩
          clear hc1 hl1 kp1
          have hc1 : upd H1' c (.lst [.int z, .int b, .int n, .ref l]) c = some (.lst [.int z, .int b, .int n, .ref l]) := upd_same
          have hl1 : upd H1' c (.lst [.int z, .int b, .int n, .ref l]) l = some (.lst (nr.map V.int)) := by rw [upd_ne (Ne.symm hcl)]; exact hl1'
          have kp1 : Kp c l H (upd H1' c (.lst [.int z, .int b, .int n, .ref l])) := kp1'.trans (Kp.upd_c _)
          have ha1 := hsz
          show (fun H2 => _) (upd H1' c (.lst [.int z, .int b, .int n, .ref l]))
          generalize upd H1' c (.lst [.int z, .int b, .int n, .ref l]) = H1 at hc1 hl1 kp1
          generalize z = a1 at hc1 ha1
          generalize nr = ns1 at hl1
          refine ⟨_, rfl, _, _, _, _, rfl, rfl, SqL.of hc1, rfl, _, _, rfl, rfl, _, rfl, ?_⟩
          by_cases g1 : (0 : Int) < a1
          · rw [decide_eq_true g1]
            refine iteT ⟨_, rfl, _, _, _, _, rfl, rfl, SqL.of hc1, rfl, .inl ⟨_, rfl, _, rfl, _, _, rfl, rfl, (show (0 : Int) < k by omega), ?_⟩⟩
            refine ⟨_, rfl, _, _, _, _, rfl, rfl, SqL.of hc1, rfl, _, rfl, _, _, rfl, rfl, ⟨(show (0 : Int) < k by omega), hk2⟩, _, rfl, c, _, 0, 0, rfl, rfl, hc1, rfl, ?_⟩
            refine ⟨_, rfl, q _ _ (Int.emod_nonneg _ (by omega)) (Int.emod_lt_of_pos _ (by omega)) ⟨a1 / k, b, n, ns1, upd_same, ?_, hcl, Int.ediv_nonneg ha1 (by omega), hb, hb2, hn, by omega⟩ (kp1.trans (Kp.upd_c _))⟩
            rw [upd_ne (Ne.symm hcl)]
            exact hl1
          · rw [decide_eq_false g1]
            refine iteF ?_
            refine ⟨_, rfl, _, _, _, _, rfl, rfl, SqL.of hc1, rfl, _, _, rfl, rfl, _, rfl, c, _, 2, 2, rfl, rfl, hc1, rfl, ?_⟩
            have hc2 : upd H1 c (.lst [.int a1, .int b, .int (n + 1), .ref l]) c = some (.lst [.int a1, .int b, .int (n + 1), .ref l]) := upd_same
            have hl2 : upd H1 c (.lst [.int a1, .int b, .int (n + 1), .ref l]) l = some (.lst (ns1.map V.int)) := by rw [upd_ne (Ne.symm hcl)]; exact hl1
            have kp2 : Kp c l H (upd H1 c (.lst [.int a1, .int b, .int (n + 1), .ref l])) := kp1.trans (Kp.upd_c _)
            show (fun H2 => _) (upd H1 c (.lst [.int a1, .int b, .int (n + 1), .ref l]))
            generalize upd H1 c (.lst [.int a1, .int b, .int (n + 1), .ref l]) = H2 at hc2 hl2 kp2
            refine ⟨_, rfl, _, _, _, _, rfl, rfl, SqL.of hc2, rfl, _, _, rfl, rfl, .inl ⟨by omega, by omega⟩, ?_⟩
            refine ⟨_, rfl, _, _, _, _, rfl, rfl, SqL.of hc2, rfl, ?_⟩
            refine ⟨_, rfl, _, _, _, _, rfl, rfl, SqL.of hc2, rfl, _, _, rfl, rfl, .inl ⟨by omega, by omega⟩, _, _, rfl, rfl, .inr ⟨by decide, by decide⟩, ?_⟩
            refine ⟨_, _, rfl, rfl, _, _, rfl, rfl, .inl ⟨_, rfl, _, _, rfl, rfl, (show (0 : Int) < 2147483647 by decide), _, rfl, c, _, 1, 1, rfl, rfl, hc2, rfl, ?_⟩⟩
            have p1 := Int.emod_nonneg (b * 16807 + (n + 1) * (n + 1) * 4099 + 77) (show (2147483647 : Int) ≠ 0 by decide)
            have p2 := Int.emod_lt_of_pos (b * 16807 + (n + 1) * (n + 1) * 4099 + 77) (show (0 : Int) < 2147483647 by decide)
            show (fun H2 => _) (upd H2 c (.lst [.int a1, .int ((b * 16807 + (n + 1) * (n + 1) * 4099 + 77) % 2147483647), .int (n + 1), .ref l]))
            generalize (b * 16807 + (n + 1) * (n + 1) * 4099 + 77) % 2147483647 = b2 at p1 p2
            have hc3 : upd H2 c (.lst [.int a1, .int b2, .int (n + 1), .ref l]) c = some (.lst [.int a1, .int b2, .int (n + 1), .ref l]) := upd_same
            have hl3 : upd H2 c (.lst [.int a1, .int b2, .int (n + 1), .ref l]) l = some (.lst (ns1.map V.int)) := by rw [upd_ne (Ne.symm hcl)]; exact hl2
            have kp3 : Kp c l H (upd H2 c (.lst [.int a1, .int b2, .int (n + 1), .ref l])) := kp2.trans (Kp.upd_c _)
            generalize upd H2 c (.lst [.int a1, .int b2, .int (n + 1), .ref l]) = H3 at hc3 hl3 kp3
            refine ⟨_, rfl, _, _, _, _, rfl, rfl, SqL.of hc3, rfl, ?_⟩
            refine ⟨_, rfl, _, _, _, _, rfl, rfl, SqL.of hc3, rfl, _, _, rfl, rfl, ⟨by decide, by decide⟩, _, _, rfl, rfl, _, _, rfl, rfl, .inl ⟨by omega, by omega⟩, ?_⟩
            refine .inl ⟨_, rfl, _, _, rfl, rfl, (show (0 : Int) < 2147483629 by decide), _, _, rfl, rfl, ⟨by decide, by decide⟩, _, rfl, _, _, rfl, rfl, (show (0 : Int) < k by omega), ?_⟩
            exact q _ _ (Int.emod_nonneg _ (by omega)) (Int.emod_lt_of_pos _ (by omega)) ⟨a1, b2, n + 1, ns1, hc3, hl3, hcl, ha1, p1, by omega, by omega, by omega⟩ kp3
        · refine ⟨_, rfl, _, rfl, _, _, rfl, rfl, .inl ⟨?_, ?_⟩, _, _, rfl, rfl, ⟨by decide, by decide⟩, _, _, rfl, rfl, .inr ⟨by decide, by decide⟩, _, rfl, _, _, rfl, rfl, _, rfl, c, _, 0, 0, rfl, rfl, hc1', rfl, ?_⟩
          · omega
          · have e : (10 : Int) ^ Int.toNat 18 = 1000000000000000000 := by decide
            rw [decide_eq_true_eq, e] at g0
            omega
          clear hc1 hl1 kp1
          have ha1 : (0 : Int) ≤ z * z / 97 * 48271 + z := by
            have := Int.ediv_nonneg (Int.mul_nonneg hsz hsz) (show (0 : Int) ≤ 97 by decide)
            omega
          show (fun H2 => _) (upd H1' c (.lst [.int (z * z / 97 * 48271 + z), .int b, .int n, .ref l]))
          generalize z * z / 97 * 48271 + z = a1 at ha1
          have hc1 : upd H1' c (.lst [.int a1, .int b, .int n, .ref l]) c = some (.lst [.int a1, .int b, .int n, .ref l]) := upd_same
          have hl1 : upd H1' c (.lst [.int a1, .int b, .int n, .ref l]) l = some (.lst (nr.map V.int)) := by rw [upd_ne (Ne.symm hcl)]; exact hl1'
          have kp1 : Kp c l H (upd H1' c (.lst [.int a1, .int b, .int n, .ref l])) := kp1'.trans (Kp.upd_c _)
          generalize upd H1' c (.lst [.int a1, .int b, .int n, .ref l]) = H1 at hc1 hl1 kp1
          generalize nr = ns1 at hl1
          refine ⟨_, rfl, _, _, _, _, rfl, rfl, SqL.of hc1, rfl, _, _, rfl, rfl, _, rfl, ?_⟩
          by_cases g1 : (0 : Int) < a1
          · rw [decide_eq_true g1]
            refine iteT ⟨_, rfl, _, _, _, _, rfl, rfl, SqL.of hc1, rfl, .inl ⟨_, rfl, _, rfl, _, _, rfl, rfl, (show (0 : Int) < k by omega), ?_⟩⟩
            refine ⟨_, rfl, _, _, _, _, rfl, rfl, SqL.of hc1, rfl, _, rfl, _, _, rfl, rfl, ⟨(show (0 : Int) < k by omega), hk2⟩, _, rfl, c, _, 0, 0, rfl, rfl, hc1, rfl, ?_⟩
            refine ⟨_, rfl, q _ _ (Int.emod_nonneg _ (by omega)) (Int.emod_lt_of_pos _ (by omega)) ⟨a1 / k, b, n, ns1, upd_same, ?_, hcl, Int.ediv_nonneg ha1 (by omega), hb, hb2, hn, by omega⟩ (kp1.trans (Kp.upd_c _))⟩
            rw [upd_ne (Ne.symm hcl)]
            exact hl1
          · rw [decide_eq_false g1]
            refine iteF ?_
            refine ⟨_, rfl, _, _, _, _, rfl, rfl, SqL.of hc1, rfl, _, _, rfl, rfl, _, rfl, c, _, 2, 2, rfl, rfl, hc1, rfl, ?_⟩
            have hc2 : upd H1 c (.lst [.int a1, .int b, .int (n + 1), .ref l]) c = some (.lst [.int a1, .int b, .int (n + 1), .ref l]) := upd_same
            have hl2 : upd H1 c (.lst [.int a1, .int b, .int (n + 1), .ref l]) l = some (.lst (ns1.map V.int)) := by rw [upd_ne (Ne.symm hcl)]; exact hl1
            have kp2 : Kp c l H (upd H1 c (.lst [.int a1, .int b, .int (n + 1), .ref l])) := kp1.trans (Kp.upd_c _)
            show (fun H2 => _) (upd H1 c (.lst [.int a1, .int b, .int (n + 1), .ref l]))
            generalize upd H1 c (.lst [.int a1, .int b, .int (n + 1), .ref l]) = H2 at hc2 hl2 kp2
            refine ⟨_, rfl, _, _, _, _, rfl, rfl, SqL.of hc2, rfl, _, _, rfl, rfl, .inl ⟨by omega, by omega⟩, ?_⟩
            refine ⟨_, rfl, _, _, _, _, rfl, rfl, SqL.of hc2, rfl, ?_⟩
            refine ⟨_, rfl, _, _, _, _, rfl, rfl, SqL.of hc2, rfl, _, _, rfl, rfl, .inl ⟨by omega, by omega⟩, _, _, rfl, rfl, .inr ⟨by decide, by decide⟩, ?_⟩
            refine ⟨_, _, rfl, rfl, _, _, rfl, rfl, .inl ⟨_, rfl, _, _, rfl, rfl, (show (0 : Int) < 2147483647 by decide), _, rfl, c, _, 1, 1, rfl, rfl, hc2, rfl, ?_⟩⟩
            have p1 := Int.emod_nonneg (b * 16807 + (n + 1) * (n + 1) * 4099 + 77) (show (2147483647 : Int) ≠ 0 by decide)
            have p2 := Int.emod_lt_of_pos (b * 16807 + (n + 1) * (n + 1) * 4099 + 77) (show (0 : Int) < 2147483647 by decide)
            show (fun H2 => _) (upd H2 c (.lst [.int a1, .int ((b * 16807 + (n + 1) * (n + 1) * 4099 + 77) % 2147483647), .int (n + 1), .ref l]))
            generalize (b * 16807 + (n + 1) * (n + 1) * 4099 + 77) % 2147483647 = b2 at p1 p2
            have hc3 : upd H2 c (.lst [.int a1, .int b2, .int (n + 1), .ref l]) c = some (.lst [.int a1, .int b2, .int (n + 1), .ref l]) := upd_same
            have hl3 : upd H2 c (.lst [.int a1, .int b2, .int (n + 1), .ref l]) l = some (.lst (ns1.map V.int)) := by rw [upd_ne (Ne.symm hcl)]; exact hl2
            have kp3 : Kp c l H (upd H2 c (.lst [.int a1, .int b2, .int (n + 1), .ref l])) := kp2.trans (Kp.upd_c _)
            generalize upd H2 c (.lst [.int a1, .int b2, .int (n + 1), .ref l]) = H3 at hc3 hl3 kp3
            refine ⟨_, rfl, _, _, _, _, rfl, rfl, SqL.of hc3, rfl, ?_⟩
            refine ⟨_, rfl, _, _, _, _, rfl, rfl, SqL.of hc3, rfl, _, _, rfl, rfl, ⟨by decide, by decide⟩, _, _, rfl, rfl, _, _, rfl, rfl, .inl ⟨by omega, by omega⟩, ?_⟩
            refine .inl ⟨_, rfl, _, _, rfl, rfl, (show (0 : Int) < 2147483629 by decide), _, _, rfl, rfl, ⟨by decide, by decide⟩, _, rfl, _, _, rfl, rfl, (show (0 : Int) < k by omega), ?_⟩
            exact q _ _ (Int.emod_nonneg _ (by omega)) (Int.emod_lt_of_pos _ (by omega)) ⟨a1, b2, n + 1, ns1, hc3, hl3, hcl, ha1, p1, by omega, by omega, by omega⟩ kp3
    · rw [decide_eq_false h0]
      refine iteF ?_
      have hc1 := hc
      have hl1 := hl
      have ha1 := ha
      generalize a = a1 at hc1 ha1
      generalize ns = ns1 at hl1
      generalize hH : H = H1 at hc1 hl1 ⊢
      have kp1 : Kp c l H H1 := by rw [hH]; exact Kp.refl _
      refine ⟨_, rfl, _, _, _, _, rfl, rfl, SqL.of hc1, rfl, _, _, rfl, rfl, _, rfl, ?_⟩
      by_cases g1 : (0 : Int) < a1
      · rw [decide_eq_true g1]
        refine iteT ⟨_, rfl, _, _, _, _, rfl, rfl, SqL.of hc1, rfl, .inl ⟨_, rfl, _, rfl, _, _, rfl, rfl, (show (0 : Int) < k by omega), ?_⟩⟩
        refine ⟨_, rfl, _, _, _, _, rfl, rfl, SqL.of hc1, rfl, _, rfl, _, _, rfl, rfl, ⟨(show (0 : Int) < k by omega), hk2⟩, _, rfl, c, _, 0, 0, rfl, rfl, hc1, rfl, ?_⟩
        refine ⟨_, rfl, q _ _ (Int.emod_nonneg _ (by omega)) (Int.emod_lt_of_pos _ (by omega)) ⟨a1 / k, b, n, ns1, upd_same, ?_, hcl, Int.ediv_nonneg ha1 (by omega), hb, hb2, hn, by omega⟩ (kp1.trans (Kp.upd_c _))⟩
        rw [upd_ne (Ne.symm hcl)]
        exact hl1
      · rw [decide_eq_false g1]
        refine iteF ?_
        refine ⟨_, rfl, _, _, _, _, rfl, rfl, SqL.of hc1, rfl, _, _, rfl, rfl, _, rfl, c, _, 2, 2, rfl, rfl, hc1, rfl, ?_⟩
        have hc2 : upd H1 c (.lst [.int a1, .int b, .int (n + 1), .ref l]) c = some (.lst [.int a1, .int b, .int (n + 1), .ref l]) := upd_same
        have hl2 : upd H1 c (.lst [.int a1, .int b, .int (n + 1), .ref l]) l = some (.lst (ns1.map V.int)) := by rw [upd_ne (Ne.symm hcl)]; exact hl1
        have kp2 : Kp c l H (upd H1 c (.lst [.int a1, .int b, .int (n + 1), .ref l])) := kp1.trans (Kp.upd_c _)
        show (fun H2 => _) (upd H1 c (.lst [.int a1, .int b, .int (n + 1), .ref l]))
        generalize upd H1 c (.lst [.int a1, .int b, .int (n + 1), .ref l]) = H2 at hc2 hl2 kp2
        refine ⟨_, rfl, _, _, _, _, rfl, rfl, SqL.of hc2, rfl, _, _, rfl, rfl, .inl ⟨by omega, by omega⟩, ?_⟩
        refine ⟨_, rfl, _, _, _, _, rfl, rfl, SqL.of hc2, rfl, ?_⟩
        refine ⟨_, rfl, _, _, _, _, rfl, rfl, SqL.of hc2, rfl, _, _, rfl, rfl, .inl ⟨by omega, by omega⟩, _, _, rfl, rfl, .inr ⟨by decide, by decide⟩, ?_⟩
        refine ⟨_, _, rfl, rfl, _, _, rfl, rfl, .inl ⟨_, rfl, _, _, rfl, rfl, (show (0 : Int) < 2147483647 by decide), _, rfl, c, _, 1, 1, rfl, rfl, hc2, rfl, ?_⟩⟩
        have p1 := Int.emod_nonneg (b * 16807 + (n + 1) * (n + 1) * 4099 + 77) (show (2147483647 : Int) ≠ 0 by decide)
        have p2 := Int.emod_lt_of_pos (b * 16807 + (n + 1) * (n + 1) * 4099 + 77) (show (0 : Int) < 2147483647 by decide)
        show (fun H2 => _) (upd H2 c (.lst [.int a1, .int ((b * 16807 + (n + 1) * (n + 1) * 4099 + 77) % 2147483647), .int (n + 1), .ref l]))
        generalize (b * 16807 + (n + 1) * (n + 1) * 4099 + 77) % 2147483647 = b2 at p1 p2
        have hc3 : upd H2 c (.lst [.int a1, .int b2, .int (n + 1), .ref l]) c = some (.lst [.int a1, .int b2, .int (n + 1), .ref l]) := upd_same
        have hl3 : upd H2 c (.lst [.int a1, .int b2, .int (n + 1), .ref l]) l = some (.lst (ns1.map V.int)) := by rw [upd_ne (Ne.symm hcl)]; exact hl2
        have kp3 : Kp c l H (upd H2 c (.lst [.int a1, .int b2, .int (n + 1), .ref l])) := kp2.trans (Kp.upd_c _)
        generalize upd H2 c (.lst [.int a1, .int b2, .int (n + 1), .ref l]) = H3 at hc3 hl3 kp3
        refine ⟨_, rfl, _, _, _, _, rfl, rfl, SqL.of hc3, rfl, ?_⟩
        refine ⟨_, rfl, _, _, _, _, rfl, rfl, SqL.of hc3, rfl, _, _, rfl, rfl, ⟨by decide, by decide⟩, _, _, rfl, rfl, _, _, rfl, rfl, .inl ⟨by omega, by omega⟩, ?_⟩
        refine .inl ⟨_, rfl, _, _, rfl, rfl, (show (0 : Int) < 2147483629 by decide), _, _, rfl, rfl, ⟨by decide, by decide⟩, _, rfl, _, _, rfl, rfl, (show (0 : Int) < k by omega), ?_⟩
        exact q _ _ (Int.emod_nonneg _ (by omega)) (Int.emod_lt_of_pos _ (by omega)) ⟨a1, b2, n + 1, ns1, hc3, hl3, hcl, ha1, p1, by omega, by omega, by omega⟩ kp3
def spCup (K : PySem.W.Frag) : Sp := fun vs H Q _ => ∃ (x : Addr) (ns : List Int), vs = [.ref x] ∧ SqL K H x (ns.map V.int) ∧ ∀ c l H', Cup0 H' c l 1000000 → Same H H' → Q (.ref c) H'
theorem sc__law_cup : FnScope ["script", "blend", "cell"] ["script"] (C8.fnScope (topS 24)) := C8.fnScope_by (by decide +kernel)
theorem ok__law_cup {f : Addr} {fd : FuncData} (F : C8.Def K mg "_law_cup" (topS 24) f fd) (b : Binds K fd ["script"] []) (B : Bl mg)  : C8.Cal P w K mg base 1 "_law_cup" (spCup K) [] := by
  refine C8.cal0 F b .nil sc__law_cup ?len ?body
  case len => rintro vs H Q E ⟨x, ns, rfl, _⟩; rfl
  case body =>
    rintro cdv A outer s H vs Q E hr ⟨x, ns, rfl, hx, q⟩
    refine ⟨_, (pss_cons (ps_set (i := 1) sc__law_cup.nd rfl (Or.inl rfl) pe_int)
    (pss_cons (ps_for PassesOwn.never rfl (pi_list (pv 0)) (pg_name (i := 2) sc__law_cup.nd rfl (Or.inl rfl))
    (pss_one (ps_set (i := 1) sc__law_cup.nd rfl (Or.inl rfl) (pe_op op_add (pe_op op_mod (pe_callTy call_int1 rfl B.int (by decide +kernel) (pa_cons (pe_op op_add (pe_op op_mul (pv 1) pe_int) (pv 2)) pa_nil)) pe_int) pe_int))))
    (pss_one (ps_ret (pe_lst (pa_cons pe_int (pa_cons (pv 1) (pa_cons pe_int (pa_cons (pe_callTy call_list_of rfl B.list (by decide +kernel) (pa_cons (pv 0) pa_nil)) pa_nil))))))))), ?_⟩
    refine ⟨_, rfl, x, rfl, ⟨_, hx⟩, ?_⟩
    refine for_list (xs := ns.map V.int) (fun i σ H1 => (∃ (b : Int) (s2 : Option V), σ = [some (.ref x), some (.int b), s2] ∧ 1 ≤ b ∧ b ≤ 2147483629) ∧ H1 = H) ⟨⟨1, _, rfl, by decide, by decide⟩, rfl⟩ ?_ ?_ ?_
    · rintro i σ H1 hi ⟨_, rfl⟩; exact hx
    · rintro i y σ H1 hy ⟨⟨b, s2, rfl, b1, b2⟩, rfl⟩
      obtain ⟨z, rfl⟩ : ∃ z, y = .int z := by
        rw [List.getElem?_map] at hy
        cases h : ns[i]? with
        | none => rw [h] at hy; cases hy
        | some z => rw [h] at hy; cases hy; exact ⟨z, rfl⟩
      refine ⟨_, rfl, _, _, rfl, rfl, .inl ⟨by omega, by omega⟩, _, rfl, _, _, rfl, rfl, .inl ⟨_, rfl, _, _, rfl, rfl, (show (0 : Int) < 2147483629 by decide), _, _, rfl, rfl, ?_⟩⟩
      have p1 := Int.emod_nonneg (b * 31 + z) (show (2147483629 : Int) ≠ 0 by decide)
      have p2 := Int.emod_lt_of_pos (b * 31 + z) (show (0 : Int) < 2147483629 by decide)
      exact ⟨⟨(b * 31 + z) % 2147483629 + 1, _, rfl, by omega, by omega⟩, rfl⟩
    · rintro σ H1 ⟨⟨b, s2, rfl, b1, b2⟩, rfl⟩
      refine ⟨_, rfl, _, rfl, x, _, rfl, .inl hx, fun l hl => ⟨(by show 4 ≤ sizeLine; decide), fun c hc => ?_⟩⟩
      have ncl : c ≠ l := fun z => by rw [z, upd_same] at hc; cases hc
      refine q c l _ ⟨0, b, 0, ns, upd_same, ?_, ncl, by omega, by omega, by omega, by omega, by omega⟩ ((same_new hl _).trans (same_new hc _))
      rw [upd_ne (Ne.symm ncl)]
      exact upd_same
end
end K35


set_option Elab.async false
set_option linter.all false
set_option maxRecDepth 100000
set_option maxHeartbeats 8000000
namespace K35
open PySem PySem.Spec PyProof.Rows L2
/-! ### readings that give any data, and let the cup stay -/
theorem same_cut {c l zz : Addr} {H H' : Hp} (s : Same H H') : Same (cut c l zz H) (cut c l zz H') := (Kp.of_same s).cut
theorem dpc {K : PySem.W.Frag} {c l zz : Addr} {H H' : Hp} {v : V} {d : PyData} (s : Same H H') (h : Dp K (cut c l zz H) v d) : Dp K (cut c l zz H') v d := dp_ext (same_ext (same_cut s)) d h
theorem dpsc {K : PySem.W.Frag} {c l zz : Addr} {H H' : Hp} {v : List V} {d : List PyData} (s : Same H H') (h : DpAll K (cut c l zz H) v d) : DpAll K (cut c l zz H') v d := dps_ext (same_ext (same_cut s)) d h
theorem sqc {K : PySem.W.Frag} {c l zz : Addr} {H H' : Hp} {a : Addr} {xs : List V} (s : Same H H') (h : SqT K (cut c l zz H) a xs) : SqT K (cut c l zz H') a xs := sqt_ext (same_ext (same_cut s)) h
theorem sq_cut {K : PySem.W.Frag} {c l zz : Addr} {H : Hp} {a : Addr} {xs : List V} (h : SqT K (cut c l zz H) a xs) : SqT K H a xs := sqt_ext (same_ext cut_ext) h
theorem dp_cut {K : PySem.W.Frag} {c l zz : Addr} {H : Hp} {v : V} {d : PyData} (h : Dp K (cut c l zz H) v d) : Dp K H v d := dp_ext (same_ext cut_ext) d h
theorem dps_app {K : PySem.W.Frag} {H : Hp} : ∀ {vs ws : List V} {ds es : List PyData}, DpAll K H vs ds → DpAll K H ws es → DpAll K H (vs ++ ws) (ds ++ es)
  | _, _, _, _, .nil, h => h
  | _, _, _, _, .cons h t, h' => .cons h (dps_app t h')
theorem dps_take {K : PySem.W.Frag} {H : Hp} : ∀ (n : Nat) {vs : List V} {ds : List PyData}, DpAll K H vs ds → DpAll K H (vs.take n) (ds.take n)
  | 0, _, _, _ => .nil
  | _ + 1, _, _, .nil => .nil
  | n + 1, _, _, .cons h t => .cons h (dps_take n t)
theorem dps_drop {K : PySem.W.Frag} {H : Hp} : ∀ (n : Nat) {vs : List V} {ds : List PyData}, DpAll K H vs ds → DpAll K H (vs.drop n) (ds.drop n)
  | 0, _, _, h => h
  | _ + 1, _, _, .nil => .nil
  | n + 1, _, _, .cons _ t => dps_drop n t
theorem dps_rev {K : PySem.W.Frag} {H : Hp} : ∀ {vs : List V} {ds : List PyData}, DpAll K H vs ds → DpAll K H vs.reverse ds.reverse
  | _, _, .nil => .nil
  | _, _, .cons h t => by
    rw [List.reverse_cons, List.reverse_cons]
    exact dps_snoc (dps_rev t) h
theorem dps_cutV {K : PySem.W.Frag} {H : Hp} {vs : List V} {ds : List PyData} (h : DpAll K H vs ds) (lo hi : Option Int) : ∃ es, DpAll K H (cutV vs lo hi) es ∧ (∀ d ∈ es, d ∈ ds) ∧ es.length ≤ ds.length := by
  refine ⟨_, dps_take _ (dps_drop _ h), fun d hd => List.mem_of_mem_drop (List.mem_of_mem_take hd), ?_⟩
  rw [List.length_take, List.length_drop]
  omega
theorem strOk_of (s : String) : PyData.strOk (Str.ofString s) = true := by
  rw [Str.ofString_eq_toList]
  unfold PyData.strOk
  simp only [List.all_toArray, Array.all_eq_true, List.all_eq_true, List.mem_map]
  rintro x ⟨ch, _, rfl⟩
  have := ch.valid
  have h : ch.toNat < 1114112 := by
    rcases this with h | ⟨_, h⟩
    · exact Nat.lt_trans h (by decide)
    · exact h
  exact decide_eq_true h
def SC (c l : Addr) (H H' : Hp) : Prop := Kp c l H H'
def Stb (F : Hp → Prop) : Prop := ∀ {h h' : Hp}, F h → Same h h' → F h'
theorem SC.refl {c l : Addr} (H : Hp) : SC c l H H := Kp.refl _
theorem SC.trans {c l : Addr} {H H' H2 : Hp} (a : SC c l H H') (b : SC c l H' H2) : SC c l H H2 := Kp.trans a b
theorem SC.same {c l : Addr} {H H' : Hp} (s : Same H H') : SC c l H H' := Kp.of_same s
theorem SC.cut {c l zz : Addr} {H H' : Hp} (s : SC c l H H') : Same (K35.cut c l zz H) (K35.cut c l zz H') := Kp.cut s
section
variable {K : PySem.W.Frag} {c l zz : Addr} {F : Hp → Prop} {σ : L2.St} {n k L : Nat} {p : Int → Prop}
variable (K c l zz F σ)
def An (n k : Nat) (t : TE) : Prop := ∀ (m : Nat) (H : Hp) (Q : VK), Cup H c l zz (m + k) → F (cut c l zz H) → (∀ v d H', Cup H' c l zz m → SC c l H H' → Dp K (cut c l zz H') v d → OkN n d → Q v H') → t σ H Q
def Ap (n k L : Nat) (t : TE) : Prop := ∀ (m : Nat) (H : Hp) (Q : VK), Cup H c l zz (m + k) → F (cut c l zz H) → (∀ a xs ds H', Cup H' c l zz m → SC c l H H' → SqT K (cut c l zz H') a xs → DpAll K (cut c l zz H') xs ds → (∀ d ∈ ds, OkN n d) → ds.length ≤ L → Q (.ref a) H') → t σ H Q
def Ai (p : Int → Prop) (k : Nat) (t : TE) : Prop := ∀ (m : Nat) (H : Hp) (Q : VK), Cup H c l zz (m + k) → F (cut c l zz H) → (∀ (i : Int) H', p i → Cup H' c l zz m → SC c l H H' → Q (.int i) H') → t σ H Q
def Ao (k : Nat) (t : TO) : Prop := ∀ (m : Nat) (H : Hp) (Q : Option Int → Hp → Prop), Cup H c l zz (m + k) → F (cut c l zz H) → (∀ o H', Cup H' c l zz m → SC c l H H' → Q o H') → t σ H Q
def Aa (n k j : Nat) (t : TA) : Prop := ∀ (m : Nat) (H : Hp) (Q : List V → Hp → Prop), Cup H c l zz (m + k) → F (cut c l zz H) → (∀ vs ds H', Cup H' c l zz m → SC c l H H' → DpAll K (cut c l zz H') vs ds → (∀ d ∈ ds, OkN n d) → vs.length = j → Q vs H') → t σ H Q
def Al (n k j : Nat) (t : TE) : Prop := ∀ (m : Nat) (H : Hp) (Q : VK), Cup H c l zz (m + k) → F (cut c l zz H) → (∀ a vs ds H', Cup H' c l zz m → SC c l H H' → cut c l zz H' a = some (.lst vs) → DpAll K (cut c l zz H') vs ds → (∀ d ∈ ds, OkN n d) → vs.length = j → Q (.ref a) H') → t σ H Q
def Az (p : Int → Prop) (k j : Nat) (t : TA) : Prop := ∀ (m : Nat) (H : Hp) (Q : List V → Hp → Prop), Cup H c l zz (m + k) → F (cut c l zz H) → (∀ (ns : List Int) H', Cup H' c l zz m → SC c l H H' → (∀ i ∈ ns, p i) → ns.length = j → Q (ns.map V.int) H') → t σ H Q
def Am (p : Int → Prop) (k j : Nat) (t : TE) : Prop := ∀ (m : Nat) (H : Hp) (Q : VK), Cup H c l zz (m + k) → F (cut c l zz H) → (∀ a (ns : List Int) H', Cup H' c l zz m → SC c l H H' → cut c l zz H' a = some (.lst (ns.map V.int)) → (∀ i ∈ ns, p i) → ns.length = j → Q (.ref a) H') → t σ H Q
variable {K c l zz F σ}
/-! leaves -/
theorem an_str (s : Str) (hs : PyData.strOk s = true) : An K c l zz F σ (n + 1) 0 (tC (.str s)) := fun m H Q C _ q => q _ (.str s) H C (SC.refl H) (.str s) ⟨by unfold PyData.canLay0; exact hs, by unfold PyData.depth; omega⟩
theorem an_non : An K c l zz F σ (n + 1) 0 (tC .non) := fun m H Q C _ q => q _ .none H C (SC.refl H) .non ⟨rfl, by unfold PyData.depth; omega⟩
theorem an_bl (b : Bool) : An K c l zz F σ (n + 1) 0 (tC (.bl b)) := fun m H Q C _ q => q _ (.bool b) H C (SC.refl H) (.bl b) ⟨rfl, by unfold PyData.depth; omega⟩
theorem an_int {t : TE} (h : Ai c l zz F σ p k t) : An K c l zz F σ (n + 1) k t := fun m H Q C f q => h m H _ C f fun z H' _ C' s => q _ (.int z) H' C' s (.int z) (ok_int _ _)
theorem an_P {t : TE} (h : Ap K c l zz F σ n k L t) : An K c l zz F σ (n + 1) k t := fun m H Q C f q => h m H _ C f fun a xs ds H' C' s ha hd ok _ => q _ (.tuple ds) H' C' s (.tup ha hd) (ok_tup.mpr ok)
theorem an_L {t : TE} {j : Nat} (h : Al K c l zz F σ n k j t) : An K c l zz F σ (n + 1) k t := fun m H Q C f q => h m H _ C f fun a vs ds H' C' s ha hd ok _ => q _ (.list ds) H' C' s (.lst (SqL.of ha) hd) (ok_lst.mpr ok)
theorem an_up {t : TE} {j : Nat} (h : An K c l zz F σ j k t) (hj : j ≤ n) : An K c l zz F σ n k t := fun m H Q C f q => h m H _ C f fun v d H' C' s hd ok => q v d H' C' s hd (ok.mono hj)
theorem an_var {j : Nat} {v : V} {d : PyData} (e : σ[j]? = some (some v)) (h : ∀ H, F H → Dp K H v d) (ok : OkN n d) : An K c l zz F σ n 0 (tVar j) := fun m H Q C f q => ⟨v, e, q v d H C (SC.refl H) (h _ f) ok⟩
theorem ap_var {j : Nat} {a : Addr} {xs : List V} {ds : List PyData} (e : σ[j]? = some (some (.ref a))) (h : ∀ H, F H → SqT K H a xs ∧ DpAll K H xs ds) (ok : ∀ d ∈ ds, OkN n d) (hl : ds.length ≤ L) : Ap K c l zz F σ n 0 L (tVar j) :=
  fun m H Q C f q => ⟨_, e, q a xs ds H C (SC.refl H) (h _ f).1 (h _ f).2 ok hl⟩
theorem al_var {j : Nat} {a : Addr} {vs : List V} {ds : List PyData} {i : Nat} (e : σ[j]? = some (some (.ref a))) (h : ∀ H, F H → H a = some (.lst vs) ∧ DpAll K H vs ds) (ok : ∀ d ∈ ds, OkN n d) (hl : vs.length = i) : Al K c l zz F σ n 0 i (tVar j) :=
  fun m H Q C f q => ⟨_, e, q a vs ds H C (SC.refl H) (h _ f).1 (h _ f).2 ok hl⟩
theorem ai_var {j : Nat} {z : Int} (e : σ[j]? = some (some (.int z))) (hp : p z) : Ai c l zz F σ p 0 (tVar j) := fun m H Q C f q => ⟨_, e, q z H hp C (SC.refl H)⟩
theorem ai_c {z : Int} (hp : p z) : Ai c l zz F σ p 0 (tC (.int z)) := fun m H Q C f q => q z H hp C (SC.refl H)
theorem ai_mono {t : TE} {p' : Int → Prop} (h : Ai c l zz F σ p' k t) (hp : ∀ z, p' z → p z) : Ai c l zz F σ p k t := fun m H Q C f q => h m H _ C f fun i H' pi => q i H' (hp i pi)
theorem ai_op {g : Int → Int → Int} {a b : TE} {pa pb : Int → Prop} {ka kb : Nat} (S : Stb F) (ha : Ai c l zz F σ pa ka a) (hb : Ai c l zz F σ pb kb b) (hk : ka + kb ≤ k) (hp : ∀ x y, pa x → pb y → p (g x y)) : Ai c l zz F σ p k (tOp (rI0 fun i j => .int (g i j)) a b) := fun m H Q C f q =>
  ha (m + kb) H _ (C.le (by omega)) f fun x H1 px C1 s1 => hb m H1 _ C1 (S f (SC.cut s1)) fun y H2 py C2 s2 => ⟨x, y, rfl, rfl, q _ H2 (hp x y px py) C2 (s1.trans s2)⟩
theorem ai_opI {r : Int → Int → Prop} {g : Int → Int → Int} {a b : TE} {pa pb : Int → Prop} {ka kb : Nat} (S : Stb F) (ha : Ai c l zz F σ pa ka a) (hb : Ai c l zz F σ pb kb b) (hk : ka + kb ≤ k) (hr : ∀ x y, pa x → pb y → r x y) (hp : ∀ x y, pa x → pb y → p (g x y)) :
    Ai c l zz F σ p k (tOp (rI r fun i j => .int (g i j)) a b) := fun m H Q C f q =>
  ha (m + kb) H _ (C.le (by omega)) f fun x H1 px C1 s1 => hb m H1 _ C1 (S f (SC.cut s1)) fun y H2 py C2 s2 => ⟨x, y, rfl, rfl, hr x y px py, q _ H2 (hp x y px py) C2 (s1.trans s2)⟩
theorem ai_neg {a : TE} {pa : Int → Prop} (ha : Ai c l zz F σ pa k a) (hp : ∀ x, pa x → p (-x)) : Ai c l zz F σ p k (tUn (rU fun i => .int (-i)) a) := fun m H Q C f q => ha m H _ C f fun x H1 px C1 s1 => ⟨x, rfl, q _ H1 (hp x px) C1 s1⟩
theorem ao_none : Ao c l zz F σ 0 tNoPart := fun m H Q C f q => q none H C (SC.refl H)
theorem ao_some {t : TE} (h : Ai c l zz F σ p k t) : Ao c l zz F σ k (tPart t) := fun m H Q C f q => h m H _ C f fun i H' _ C' s => ⟨i, rfl, q _ H' C' s⟩
/-! displays -/
theorem aa_nil : Aa K c l zz F σ n 0 0 tNil := fun m H Q C f q => q [] [] H C (SC.refl H) .nil (fun _ h => by cases h) rfl
theorem aa_cons {a : TE} {r : TA} {ka kr j : Nat} (S : Stb F) (ha : An K c l zz F σ n ka a) (hr : Aa K c l zz F σ n kr j r) : Aa K c l zz F σ n (ka + kr) (j + 1) (tCons a r) := fun m H Q C f q =>
  ha (m + kr) H _ (C.le (by omega)) f fun v d H1 C1 s1 hd ok => hr m H1 _ C1 (S f (SC.cut s1)) fun vs ds H2 C2 s2 hds oks hl => q (v :: vs) (d :: ds) H2 C2 (s1.trans s2) (.cons (dp_ext (same_ext (SC.cut s2)) d hd) hds) (fun e he => by
    rcases List.mem_cons.mp he with rfl | he
    · exact ok
    · exact oks e he) (by rw [List.length_cons, hl])
theorem az_nil : Az c l zz F σ p 0 0 tNil := fun m H Q C f q => q [] H C (SC.refl H) (fun _ h => by cases h) rfl
theorem az_cons {a : TE} {r : TA} {ka kr j : Nat} (S : Stb F) (ha : Ai c l zz F σ p ka a) (hr : Az c l zz F σ p kr j r) : Az c l zz F σ p (ka + kr) (j + 1) (tCons a r) := fun m H Q C f q =>
  ha (m + kr) H _ (C.le (by omega)) f fun x H1 px C1 s1 => hr m H1 _ C1 (S f (SC.cut s1)) fun ns H2 C2 s2 hns hl => q (x :: ns) H2 C2 (s1.trans s2) (fun e he => by
    rcases List.mem_cons.mp he with rfl | he
    · exact px
    · exact hns e he) (by rw [List.length_cons, hl])
theorem cut_upd {H : Hp} {a : Addr} {o : HO} (ne : a ≠ c ∧ a ≠ l ∧ a ≠ zz) : cut c l zz (upd H a o) a = some o := by rw [cut_get ne]; exact upd_same
theorem ap_tup {t : TA} {j : Nat} (h : Aa K c l zz F σ n k j t) (hj : j ≤ 1000) (hL : j ≤ L) : Ap K c l zz F σ n k L (tTup t) := fun m H Q C f q =>
  h m H _ C f fun vs ds H1 C1 s1 hds oks hl => ⟨Nat.le_of_lt (small1000 (by omega)), fun p hp => by
    have s2 : Same H1 (upd H1 p (.tup vs)) := same_new hp _
    exact q p vs ds _ (C1.same s2) (s1.trans (SC.same s2)) (SqT.of (cut_upd (C1.new hp))) (dpsc s2 hds) oks (by rw [← dps_len hds, hl]; exact hL)⟩
theorem al_lst {t : TA} {j : Nat} (h : Aa K c l zz F σ n k j t) (hj : j ≤ 1000) : Al K c l zz F σ n k j (tLst t) := fun m H Q C f q =>
  h m H _ C f fun vs ds H1 C1 s1 hds oks hl => ⟨Nat.le_of_lt (small1000 (by omega)), fun p hp => by
    have s2 : Same H1 (upd H1 p (.lst vs)) := same_new hp _
    exact q p vs ds _ (C1.same s2) (s1.trans (SC.same s2)) (cut_upd (C1.new hp)) (dpsc s2 hds) oks hl⟩
theorem am_lst {t : TA} {j : Nat} (h : Az c l zz F σ p k j t) (hj : j ≤ 1000) : Am c l zz F σ p k j (tLst t) := fun m H Q C f q =>
  h m H _ C f fun ns H1 C1 s1 hns hl => ⟨Nat.le_of_lt (small1000 (by rw [List.length_map]; omega)), fun p hp => by
    have s2 : Same H1 (upd H1 p (.lst (ns.map V.int))) := same_new hp _
    exact q p ns _ (C1.same s2) (s1.trans (SC.same s2)) (cut_upd (C1.new hp)) hns hl⟩
theorem al_cat {a b : TE} {ka kb i j : Nat} (S : Stb F) (ha : Al K c l zz F σ n ka i a) (hb : Al K c l zz F σ n kb j b) (hk : i + j ≤ 1000) : Al K c l zz F σ n (ka + kb) (i + j) (tOp rCat a b) := fun m H Q C f q =>
  ha (m + kb) H _ (C.le (by omega)) f fun p vs ds H1 C1 s1 hv hds oks hl => hb m H1 _ C1 (S f (SC.cut s1)) fun p2 vs2 ds2 H2 C2 s2 hv2 hds2 oks2 hl2 =>
    ⟨p, p2, vs, vs2, rfl, rfl, cut_ext _ _ (SC.cut s2 _ _ hv), cut_ext _ _ hv2, Nat.le_of_lt (small1000 (by omega)), fun r hr => by
      have s3 : Same H2 (upd H2 r (.lst (vs ++ vs2))) := same_new hr _
      exact q r (vs ++ vs2) (ds ++ ds2) _ (C2.same s3) (s1.trans (s2.trans (SC.same s3))) (cut_upd (C2.new hr)) (dpsc s3 (dps_app (dps_ext (same_ext (SC.cut s2)) _ hds) hds2)) (fun d hd => (List.mem_append.mp hd).elim (oks d) (oks2 d)) (by rw [List.length_append, hl, hl2])⟩
theorem ap_cat {a b : TE} {L1 L2 ka kb : Nat} (S : Stb F) (ha : Ap K c l zz F σ n ka L1 a) (hb : Ap K c l zz F σ n kb L2 b) (h1 : L1 + L2 ≤ 1000) (hL : L1 + L2 ≤ L) : Ap K c l zz F σ n (ka + kb) L (tOp (rCatA K) a b) := fun m H Q C f q =>
  ha (m + kb) H _ (C.le (by omega)) f fun a xs ds H1 C1 s1 hs hds oks hl => hb m H1 _ C1 (S f (SC.cut s1)) fun b ys es H2 C2 s2 hs2 hes oks2 hl2 => by
    have hx := dps_len hds
    have hy := dps_len hes
    have hs' := sqt_ext (same_ext (SC.cut s2)) hs
    have hds' := dps_ext (same_ext (SC.cut s2)) _ hds
    refine ⟨a, b, xs, ys, rfl, rfl, sq_cut hs', sq_cut hs2, Nat.le_of_lt (small1000 (by omega)), fun z => ?_, fun _ z => ?_, fun _ _ r hr => ?_⟩
    · exact q b ys es H2 C2 (s1.trans s2) hs2 hes oks2 (by omega)
    · exact q a xs ds H2 C2 (s1.trans s2) hs' hds' oks (by omega)
    · have s3 : Same H2 (upd H2 r (.tup (xs ++ ys))) := same_new hr _
      exact q r (xs ++ ys) (ds ++ es) _ (C2.same s3) (s1.trans (s2.trans (SC.same s3))) (SqT.of (cut_upd (C2.new hr))) (dpsc s3 (dps_app hds' hes)) (fun d hd => (List.mem_append.mp hd).elim (oks d) (oks2 d)) (by rw [List.length_append]; omega)
theorem ap_sl {a : TE} {tl th : TO} {ka kl kh : Nat} (S : Stb F) (ha : Ap K c l zz F σ n ka L a) (hl : Ao c l zz F σ kl tl) (hh : Ao c l zz F σ kh th) : Ap K c l zz F σ n (ka + kl + kh) L (tSl (rSlA K) a tl th) := fun m H Q C f q =>
  ha (m + kl + kh) H _ (C.le (by omega)) f fun a xs ds H1 C1 s1 hs hds oks hL => hl (m + kh) H1 _ (C1.le (by omega)) (S f (SC.cut s1)) fun lo H2 C2 s2 => hh m H2 _ C2 (S f (SC.cut (s1.trans s2))) fun hi H3 C3 s3 => by
    have s4 := s2.trans s3
    have hs' := sqt_ext (same_ext (SC.cut s4)) hs
    have hds' := dps_ext (same_ext (SC.cut s4)) _ hds
    refine ⟨a, xs, rfl, sq_cut hs', fun _ => ?_, fun _ r hr => ?_⟩
    · exact q a xs ds H3 C3 (s1.trans s4) hs' hds' oks hL
    · have s5 : Same H3 (upd H3 r (.tup (cutV xs lo hi))) := same_new hr _
      obtain ⟨es, h1, h2, h3⟩ := dps_cutV (dpsc (c := c) (l := l) (zz := zz) s5 hds') lo hi
      exact q r _ es _ (C3.same s5) (s1.trans (s4.trans (SC.same s5))) (SqT.of (cut_upd (C3.new hr))) h1 (fun d hd => oks d (h2 d hd)) (by omega)
theorem ap_rev {a : TE} (ha : Ap K c l zz F σ n k L a) : Ap K c l zz F σ n k L (UG.tRevT K a) := fun m H Q C f q =>
  ha m H _ C f fun a xs ds H1 C1 s1 hs hds oks hL => ⟨a, xs, rfl, sq_cut hs, fun r hr => by
    have s5 : Same H1 (upd H1 r (.tup xs.reverse)) := same_new hr _
    exact q r _ ds.reverse _ (C1.same s5) (s1.trans (SC.same s5)) (SqT.of (cut_upd (C1.new hr))) (dps_rev (dpsc s5 hds)) (fun d hd => oks d (List.mem_reverse.mp hd)) (by rw [List.length_reverse]; exact hL)⟩
theorem an_listof {a : TE} (ha : Ap K c l zz F σ n k L a) : An K c l zz F σ (n + 1) k (tCB (fun xs H Q => ∃ p ys, xs = [.ref p] ∧ (SqL K H p ys ∨ SqT K H p ys) ∧ ∀ l, H l = none → Q (.ref l) (upd H l (.lst ys))) (tCons a tNil)) := fun m H Q C f q =>
  ha m H _ C f fun a xs ds H1 C1 s1 hs hds oks hL => ⟨a, xs, rfl, .inr (sq_cut hs), fun r hr => by
    have s5 : Same H1 (upd H1 r (.lst xs)) := same_new hr _
    exact q _ (.list ds) _ (C1.same s5) (s1.trans (SC.same s5)) (.lst (SqL.of (cut_upd (C1.new hr))) (dpsc s5 hds)) (ok_lst.mpr oks)⟩
/-! calls of sip, and picks -/
theorem ai_sip {j : Nat} {hi : Int} {t : TE} (S : Stb F) (e : σ[j]? = some (some (.ref c))) (ht : Ai c l zz F σ (fun z => 1 ≤ z ∧ z.natAbs.log2 < 9000 ∧ z ≤ hi) k t) (hp : ∀ r, 0 ≤ r → r < hi → p r) : Ai c l zz F σ p (k + 1) (tCall spSip [] C8.E0 (tCons (tVar j) (tCons t tNil))) := fun m H Q C f q =>
  ⟨_, e, ht (m + 1) H _ (C.le (by omega)) f fun z H1 hz C1 s1 => ⟨c, l, zz, m, z, rfl, C1, hz.1, hz.2.1, fun r H2 h0 h1 C2 kp => q r H2 (hp r h0 (by omega)) C2 (s1.trans kp)⟩⟩
theorem ai_len {a : TE} (h : ∀ (m : Nat) (H : Hp) (Q : VK), Cup H c l zz (m + k) → F (cut c l zz H) → (∀ a xs H', Cup H' c l zz m → SC c l H H' → (SqL K (cut c l zz H') a xs ∨ SqT K (cut c l zz H') a xs) → p (xs.length : Int) → Q (.ref a) H') → a σ H Q) :
    Ai c l zz F σ p k (tCB (fun xs H Q => ∃ p ys, xs = [.ref p] ∧ (SqL K H p ys ∨ SqT K H p ys) ∧ Q (.int ys.length) H) (tCons a tNil)) := fun m H Q C f q =>
  h m H _ C f fun a xs H1 C1 s1 hs hp => ⟨a, xs, rfl, hs.elim (fun z => .inl (sq_ext (same_ext cut_ext) z)) (fun z => .inr (sq_cut z)), q _ H1 hp C1 s1⟩
theorem an_ix {a b : TE} {ka kb j : Nat} (S : Stb F) (ha : Al K c l zz F σ n ka j a) (hb : Ai c l zz F σ (fun z => 0 ≤ z ∧ z < j) kb b) : An K c l zz F σ n (ka + kb) (tOp (rIxL K) a b) := fun m H Q C f q =>
  ha (m + kb) H _ (C.le (by omega)) f fun p vs ds H1 C1 s1 hv hds oks hl => hb m H1 _ C1 (S f (SC.cut s1)) fun z H2 hz C2 s2 => by
    have hi : z.toNat < vs.length := by omega
    have e : vs[z.toNat]? = some vs[z.toNat] := List.getElem?_eq_getElem hi
    obtain ⟨d, hd, hdp⟩ := dps_get' hds e
    have e2 : atI vs z = some vs[z.toNat] := by
      have := atI_nat e
      rwa [show ((z.toNat : Nat) : Int) = z by omega] at this
    exact ⟨p, vs, z, _, rfl, rfl, SqL.of (cut_ext _ _ (SC.cut s2 _ _ hv)), e2, q _ d H2 C2 (s1.trans s2) (dp_ext (same_ext (SC.cut s2)) d hdp) (oks d (List.mem_of_getElem? hd))⟩
theorem ai_ix {a b : TE} {ka kb j : Nat} (S : Stb F) (ha : Am c l zz F σ p ka j a) (hb : Ai c l zz F σ (fun z => 0 ≤ z ∧ z < j) kb b) : Ai c l zz F σ p (ka + kb) (tOp (rIxL K) a b) := fun m H Q C f q =>
  ha (m + kb) H _ (C.le (by omega)) f fun a ns H1 C1 s1 hv hns hl => hb m H1 _ C1 (S f (SC.cut s1)) fun z H2 hz C2 s2 => by
    have hi : z.toNat < ns.length := by omega
    have e : (ns.map V.int)[z.toNat]? = some (.int ns[z.toNat]) := by rw [List.getElem?_map, List.getElem?_eq_getElem hi]; rfl
    have e2 : atI (ns.map V.int) z = some (.int ns[z.toNat]) := by
      have := atI_nat e
      rwa [show ((z.toNat : Nat) : Int) = z by omega] at this
    exact ⟨a, _, z, _, rfl, rfl, SqL.of (cut_ext _ _ (SC.cut s2 _ _ hv)), e2, q _ H2 (hns _ (List.getElem_mem hi)) C2 (s1.trans s2)⟩
end
end K35


set_option Elab.async false
set_option linter.all false
set_option maxRecDepth 100000
set_option maxHeartbeats 8000000
namespace K35
open PySem PySem.Spec PyProof.Rows L2
def Lf (d : PyData) : Prop := (∃ i : Int, d = .int i ∧ i.natAbs.log2 < 1920) ∨ ∃ s : Str, d = .str s ∧ PyData.strOk s = true
def Td : Nat → PyData → Prop
  | 0, d => Lf d
  | n + 1, d => Lf d ∨ ∃ ds, d = .tuple ds ∧ ds.length ≤ 40 ∧ ∀ e ∈ ds, Td n e
theorem lf_ok {d : PyData} (h : Lf d) (n : Nat) : OkN (n + 1) d := by
  rcases h with ⟨i, rfl, _⟩ | ⟨s, rfl, hs⟩
  · exact ok_int _ _
  · exact ⟨by unfold PyData.canLay0; exact hs, by unfold PyData.depth; omega⟩
theorem td_ok : ∀ {n : Nat} {d : PyData}, Td n d → OkN (n + 1) d
  | 0, _, h => lf_ok h 0
  | n + 1, _, h => by
    rcases h with h | ⟨ds, rfl, _, h⟩
    · exact lf_ok h _
    · exact ok_tup.mpr fun e he => td_ok (h e he)
theorem call_strD {X : Cx} : CallR X (.type "str") (fun xs H Q => (∃ i : Int, xs = [.int i] ∧ i.natAbs.log2 < 1920 ∧ Q (.str (Str.ofString (toString i))) H) ∨ ∃ a, xs = [.str a] ∧ Q (.str a) H) := by
  intro pins s σ H xs us Q I r h
  rcases h with h | h
  · exact call_str_int pins s σ H xs us Q I r h
  · exact SkE.call_str_str pins s σ H xs us Q I r h
theorem eqv_nilT (ds : List PyData) : PyData.eqv (.tuple ds) (.tuple []) = ds.isEmpty := by
  cases ds <;> simp [PyData.eqv, PyData.eqvAll]
theorem lg {z : Int} (h0 : 0 ≤ z) (h : z ≤ 1000000000000000000000) : z.natAbs.log2 < 9000 := Nat.lt_of_lt_of_le (PySem.Flt.log2_lt_of (k := 100) (by decide) (by omega)) (by decide)
theorem seq_asg {te : TE} {g : TG} {r : TS} {D : Ends} {σ : L2.St} {H : Hp} (h : te σ H fun x H1 => g x σ H1 fun σ' H' => r D σ' H') : tSeq (tAsg te g) r D σ H := h
theorem seq_set {te : TE} {i : Nat} {r : TS} {D : Ends} {σ : L2.St} {H : Hp} (h : te σ H fun x H1 => r D (σ.set i (some x)) H1) : tSeq (tAsg te (gName i)) r D σ H := h
theorem next_of {D : Ends} {σ : L2.St} {H : Hp} (h : D.nx σ H) : tNext D σ H := h
theorem name_of {i : Nat} {v : V} {D : Ends} {σ : L2.St} {H : Hp} (h : D.nx (σ.set i (some v)) H) : gName i v σ H D.nx := h
theorem ret_of {te : TE} {D : Ends} {σ : L2.St} {H : Hp} (h : te σ H D.rt) : tRet te D σ H := h
end K35


set_option Elab.async false
set_option linter.all false
set_option maxRecDepth 100000
set_option maxHeartbeats 8000000
namespace K35
open PySem PySem.Spec PyProof.Rows L2
/-! ### rules -/
inductive Rl where
  | none
  | letter (x : Int)
  | pair (i j : Nat)
  | power (i : Nat) (k : Int)
def Rl.d : Rl → PyData
  | .none => .tuple [.str "none"]
  | .letter x => .tuple [.str "letter", .int x]
  | .pair i j => .tuple [.str "pair", .int (i : Int), .int (j : Int)]
  | .power i k => .tuple [.str "power", .int (i : Int), .int k]
def ValidAt (n : Nat) : Rl → Prop
  | .none => True
  | .letter x => -20 ≤ x ∧ x ≤ 20 ∧ x ≠ 0
  | .pair i j => i < n ∧ j < n
  | .power i k => i < n ∧ 2 ≤ k ∧ k ≤ 1000000000000000000000
def szOf (ns : List Int) : Rl → Int
  | .none => 0
  | .letter _ => 1
  | .pair i j => ns.getD i 0 + ns.getD j 0
  | .power i k => ns.getD i 0 * k
def szs (rs : List Rl) : List Int := rs.foldl (fun acc r => acc ++ [szOf acc r]) []
def Valid (rs : List Rl) : Prop := ∀ n r, rs[n]? = some r → ValidAt n r
theorem szs_snoc (rs : List Rl) (r : Rl) : szs (rs ++ [r]) = szs rs ++ [szOf (szs rs) r] := by
  unfold szs
  rw [List.foldl_append]
  rfl
theorem szs_len_aux : ∀ (rs : List Rl) (acc : List Int), (rs.foldl (fun acc r => acc ++ [szOf acc r]) acc).length = acc.length + rs.length
  | [], acc => rfl
  | r :: rs, acc => by
    rw [List.foldl_cons, szs_len_aux rs, List.length_append, List.length_cons]
    simp only [List.length_cons, List.length_nil]
    omega
theorem szs_len (rs : List Rl) : (szs rs).length = rs.length := by
  unfold szs
  rw [szs_len_aux]
  simp
theorem Valid.nil : Valid [] := fun n r h => by simp at h
theorem Valid.snoc {rs : List Rl} {r : Rl} (h : Valid rs) (hr : ValidAt rs.length r) : Valid (rs ++ [r]) := by
  intro n q e
  by_cases hn : n < rs.length
  · rw [List.getElem?_append_left hn] at e
    exact h n q e
  · rw [List.getElem?_append_right (by omega)] at e
    have : n - rs.length = 0 := by
      by_cases z : n - rs.length = 0
      · exact z
      · obtain ⟨k, hk⟩ := Nat.exists_eq_succ_of_ne_zero z
        rw [hk] at e
        simp at e
    rw [this] at e
    cases e
    rw [show n = rs.length by omega]
    exact hr
def RlOk (ns : List Int) (r : Rl) (z : Int) : Prop := ValidAt ns.length r ∧ szOf ns r = z
/-- what is known of the lists -/
def Sem (rs : List Rl) (ds : List PyData) (ns : List Int) : Prop := ds = rs.map Rl.d ∧ ns = szs rs ∧ Valid rs
theorem Sem.snoc {rs : List Rl} {ds : List PyData} {ns : List Int} {r : Rl} {z : Int} (h : Sem rs ds ns) (hr : RlOk ns r z) : Sem (rs ++ [r]) (ds ++ [r.d]) (ns ++ [z]) := by
  obtain ⟨rfl, rfl, hv⟩ := h
  refine ⟨by rw [List.map_append]; rfl, by rw [szs_snoc, hr.2], hv.snoc ?_⟩
  have := hr.1
  rwa [szs_len] at this
/-! ### flat tuples, that stay while lists change -/
inductive Lv : V → PyData → Prop
  | int (i : Int) (h : i.natAbs.log2 < 1920) : Lv (.int i) (.int i)
  | str (s : Str) (h : PyData.strOk s = true) : Lv (.str s) (.str s)
inductive Lvs : List V → List PyData → Prop
  | nil : Lvs [] []
  | cons {v : V} {d : PyData} {vs : List V} {ds : List PyData} : Lv v d → Lvs vs ds → Lvs (v :: vs) (d :: ds)
theorem lvs_dp {K : PySem.W.Frag} {H : Hp} : ∀ {vs : List V} {ds : List PyData}, Lvs vs ds → DpAll K H vs ds ∧ ∀ d ∈ ds, Lf d
  | _, _, .nil => ⟨.nil, fun _ h => by cases h⟩
  | _, _, .cons h t => by
    have q := lvs_dp (K := K) (H := H) t
    cases h with
    | int i hi => exact ⟨.cons (.int i) q.1, fun d hd => by
        rcases List.mem_cons.mp hd with rfl | hd
        · exact .inl ⟨i, rfl, hi⟩
        · exact q.2 d hd⟩
    | str s hs => exact ⟨.cons (.str s) q.1, fun d hd => by
        rcases List.mem_cons.mp hd with rfl | hd
        · exact .inr ⟨s, rfl, hs⟩
        · exact q.2 d hd⟩
def FT (K : PySem.W.Frag) (H : Hp) (v : V) (d : PyData) : Prop := ∃ (p : Addr) (ys : List V) (ds : List PyData), v = .ref p ∧ d = .tuple ds ∧ SqT K H p ys ∧ Lvs ys ds ∧ ds.length ≤ 40
inductive FTs (K : PySem.W.Frag) (H : Hp) : List V → List PyData → Prop
  | nil : FTs K H [] []
  | cons {v : V} {d : PyData} {vs : List V} {ds : List PyData} : FT K H v d → FTs K H vs ds → FTs K H (v :: vs) (d :: ds)
/-- all but lists stay -/
def TK (H H' : Hp) : Prop := ∀ p o, H p = some o → (∀ xs, o ≠ .lst xs) → H' p = some o
theorem TK.same {H H' : Hp} (s : Same H H') : TK H H' := fun p o h _ => s p o h
theorem TK.trans {H H' H2 : Hp} (a : TK H H') (b : TK H' H2) : TK H H2 := fun p o h n => b p o (a p o h n) n
theorem TK.sc {c l zz : Addr} {H H' : Hp} {m : Nat} (C : Cup H c l zz m) (s : SC c l H H') : TK H H' := fun p o h n => by
  obtain ⟨⟨a, b, k, ns, h1, h2, _⟩, _⟩ := C
  have hc : p ≠ c := fun z => by rw [z, h1] at h; cases h; exact n _ rfl
  have hl : p ≠ l := fun z => by rw [z, h2] at h; cases h; exact n _ rfl
  exact s p o hc hl h
theorem TK.upd {H : Hp} {p : Addr} {xs : List V} {o : HO} (h : H p = some (.lst xs)) : TK H (upd H p o) := fun q o' e n => by
  have : q ≠ p := fun z => by rw [z, h] at e; cases e; exact n _ rfl
  rw [upd_ne this]
  exact e
theorem FT.tk {K : PySem.W.Frag} {H H' : Hp} {v : V} {d : PyData} (h : FT K H v d) (s : TK H H') : FT K H' v d := by
  obtain ⟨p, ys, ds, rfl, rfl, hs, h2⟩ := h
  refine ⟨p, ys, ds, rfl, rfl, ?_, h2⟩
  rcases hs with (h | ⟨o, h⟩) | h
  · exact .inl (.inl (s _ _ h fun xs z => by cases z))
  · exact .inl (.inr ⟨o, s _ _ h fun xs z => by cases z⟩)
  · exact .inr h
theorem FTs.tk {K : PySem.W.Frag} {H H' : Hp} : ∀ {vs : List V} {ds : List PyData}, FTs K H vs ds → TK H H' → FTs K H' vs ds
  | _, _, .nil, _ => .nil
  | _, _, .cons h t, s => .cons (h.tk s) (t.tk s)
theorem FTs.snoc {K : PySem.W.Frag} {H : Hp} : ∀ {vs : List V} {ds : List PyData} {v : V} {d : PyData}, FTs K H vs ds → FT K H v d → FTs K H (vs ++ [v]) (ds ++ [d])
  | _, _, _, _, .nil, h => .cons h .nil
  | _, _, _, _, .cons h t, h' => .cons h (t.snoc h')
theorem FT.dp {K : PySem.W.Frag} {H : Hp} {v : V} {d : PyData} (h : FT K H v d) : Dp K H v d ∧ Td 1 d := by
  obtain ⟨p, ys, ds, rfl, rfl, hs, h2, h3⟩ := h
  have q := lvs_dp (K := K) (H := H) h2
  exact ⟨.tup hs q.1, .inr ⟨ds, rfl, h3, q.2⟩⟩
theorem FTs.dp {K : PySem.W.Frag} {H : Hp} : ∀ {vs : List V} {ds : List PyData}, FTs K H vs ds → DpAll K H vs ds ∧ ∀ d ∈ ds, Td 1 d
  | _, _, .nil => ⟨.nil, fun _ h => by cases h⟩
  | _, _, .cons h t => ⟨.cons h.dp.1 t.dp.1, fun d hd => by
    rcases List.mem_cons.mp hd with rfl | hd
    · exact h.dp.2
    · exact t.dp.2 d hd⟩
theorem TK.cut {c l zz : Addr} {H : Hp} {m : Nat} (C : Cup H c l zz m) : TK H (K35.cut c l zz H) := fun p o h n => by
  obtain ⟨⟨a, b, k, ns, h1, h2, _⟩, es, h4⟩ := C
  have hc : p ≠ c := fun z => by rw [z, h1] at h; cases h; exact n _ rfl
  have hl : p ≠ l := fun z => by rw [z, h2] at h; cases h; exact n _ rfl
  have he : p ≠ zz := fun z => by rw [z, h4] at h; cases h; exact n _ rfl
  rw [cut_get ⟨hc, hl, he⟩]; exact h
theorem ft_new {K : PySem.W.Frag} {H : Hp} {p : Addr} {ys : List V} {ds : List PyData} (h : Lvs ys ds) (hl : ds.length ≤ 40) : FT K (upd H p (.tup ys)) (.ref p) (.tuple ds) := ⟨p, ys, ds, rfl, rfl, SqT.of upd_same, h, hl⟩
section
variable {K : PySem.W.Frag} {c l zz : Addr} {F : Hp → Prop} {σ : L2.St} {k : Nat} {p : Int → Prop}
theorem ai_max {a b : TE} {pa pb : Int → Prop} {ka kb : Nat} (S : Stb F) (ha : Ai c l zz F σ pa ka a) (hb : Ai c l zz F σ pb kb b) (hp : ∀ x y, pa x → pb y → p (if y > x then y else x)) :
    Ai c l zz F σ p (ka + kb) (tCB (fun xs H Q => ∃ i j, xs = [.int i, .int j] ∧ Q (.int (if j > i then j else i)) H) (tCons a (tCons b tNil))) := fun m H Q C f q =>
  ha (m + kb) H _ (C.le (by omega)) f fun x H1 px C1 s1 => hb m H1 _ C1 (S f (SC.cut s1)) fun y H2 py C2 s2 => ⟨x, y, rfl, q _ H2 (hp x y px py) C2 (s1.trans s2)⟩
end
/-- the heap while a text is made -/
structure TH (K : PySem.W.Frag) (c l zz R S : Addr) (B : Int) (H0 : Hp) (xs : List V) (ds : List PyData) (ns : List Int) (m : Nat) (H : Hp) : Prop where
  C : Cup H c l zz m
  sc : SC c l H0 H
  r : H R = some (.lst xs)
  s : H S = some (.lst (ns.map V.int))
  rs : R ≠ S
  rn : R ≠ c ∧ R ≠ l ∧ R ≠ zz
  sn : S ≠ c ∧ S ≠ l ∧ S ≠ zz
  r0 : H0 R = none
  s0 : H0 S = none
  ft : FTs K H xs ds
  nb : ∀ n ∈ ns, (0 : Int) ≤ n ∧ n ≤ B
  len : ns.length = xs.length
theorem TH.step {K : PySem.W.Frag} {c l zz R S : Addr} {B : Int} {H0 : Hp} {xs : List V} {ds : List PyData} {ns : List Int} {m m' : Nat} {H H' : Hp} (h : TH K c l zz R S B H0 xs ds ns m H) (C : Cup H' c l zz m') (s : SC c l H H') : TH K c l zz R S B H0 xs ds ns m' H' := by
  have g : ∀ {p : Addr} {o : HO}, p ≠ c ∧ p ≠ l ∧ p ≠ zz → H p = some o → H' p = some o := fun n e => s _ _ n.1 n.2.1 e
  exact ⟨C, h.sc.trans s, g h.rn h.r, g h.sn h.s, h.rs, h.rn, h.sn, h.r0, h.s0, h.ft.tk (TK.sc h.C s), h.nb, h.len⟩
theorem TH.same {K : PySem.W.Frag} {c l zz R S : Addr} {B : Int} {H0 : Hp} {xs : List V} {ds : List PyData} {ns : List Int} {m : Nat} {H H' : Hp} (h : TH K c l zz R S B H0 xs ds ns m H) (s : Same H H') : TH K c l zz R S B H0 xs ds ns m H' := h.step (h.C.same s) (SC.same s)
theorem TH.le {K : PySem.W.Frag} {c l zz R S : Addr} {B : Int} {H0 : Hp} {xs : List V} {ds : List PyData} {ns : List Int} {m m' : Nat} {H : Hp} (h : TH K c l zz R S B H0 xs ds ns m H) (hm : m' ≤ m) : TH K c l zz R S B H0 xs ds ns m' H := h.step (h.C.le hm) (SC.refl _)
theorem lg2 {z : Int} (h0 : -1000000000000000000000 ≤ z) (h : z ≤ 1000000000000000000000) : z.natAbs.log2 < 1920 := Nat.lt_of_lt_of_le (PySem.Flt.log2_lt_of (k := 100) (by decide) (by omega)) (by decide)
theorem pick_n {ns : List Int} {z : Int} (h : 0 ≤ z ∧ z < (ns.length : Int)) : ∃ s, atI (ns.map V.int) z = some (.int s) ∧ s ∈ ns ∧ ns.getD z.toNat 0 = s := by
  have hi : z.toNat < ns.length := by omega
  have e : (ns.map V.int)[z.toNat]? = some (.int ns[z.toNat]) := by rw [List.getElem?_map, List.getElem?_eq_getElem hi]; rfl
  have := atI_nat e
  rw [show ((z.toNat : Nat) : Int) = z by omega] at this
  exact ⟨_, this, List.getElem_mem hi, by rw [List.getD_eq_getElem?_getD, List.getElem?_eq_getElem hi]; rfl⟩
theorem par3_of {i j k : Nat} {ta : TA} {D : Ends} {σ : L2.St} {H : Hp} (h : ta σ H fun vs H1 => ∃ u v w, vs = [u, v, w] ∧ D.nx (((σ.set i (some u)).set j (some v)).set k (some w)) H1) : tPar3 i j k ta D σ H := h
theorem par_of {i j : Nat} {ta : TA} {D : Ends} {σ : L2.St} {H : Hp} (h : ta σ H fun vs H1 => ∃ v w, vs = [v, w] ∧ D.nx ((σ.set i (some v)).set j (some w)) H1) : tPar i j ta D σ H := h
theorem seq_of {t u : TS} {D : Ends} {σ : L2.St} {H : Hp} (h : t { D with nx := u D } σ H) : tSeq t u D σ H := h
theorem cons_of {te : TE} {tr : TA} {σ : L2.St} {H : Hp} {Q : List V → Hp → Prop} (h : te σ H fun x H1 => tr σ H1 fun xs H2 => Q (x :: xs) H2) : tCons te tr σ H Q := h
theorem nil_of {σ : L2.St} {H : Hp} {Q : List V → Hp → Prop} (h : Q [] H) : tNil σ H Q := h
theorem tup_of' {t : TA} {σ : L2.St} {H : Hp} {Q : VK} (h : t σ H fun xs H1 => xs.length ≤ sizeLine ∧ ∀ p, H1 p = none → Q (.ref p) (upd H1 p (.tup xs))) : tTup t σ H Q := h
theorem c_of {v : V} {σ : L2.St} {H : Hp} {Q : VK} (h : Q v H) : tC v σ H Q := h
theorem name_of' {i : Nat} {v : V} {σ : L2.St} {H : Hp} {Q : L2.St → Hp → Prop} (h : Q (σ.set i (some v)) H) : gName i v σ H Q := h
theorem TH.push {K : PySem.W.Frag} {c l zz R S : Addr} {B : Int} {H0 : Hp} {xs : List V} {ds : List PyData} {ns : List Int} {m : Nat} {H : Hp} {v : V} {d : PyData} {z : Int} (h : TH K c l zz R S B H0 xs ds ns m H) (hv : FT K H v d) (z0 : 0 ≤ z) (z1 : z ≤ B) :
    TH K c l zz R S B H0 (xs ++ [v]) (ds ++ [d]) (ns ++ [z]) m (upd (upd H R (.lst (xs ++ [v]))) S (.lst (ns.map V.int ++ [.int z]))) := by
  obtain ⟨⟨a, b, k, ms, h1, h2, h3⟩, es, h4⟩ := h.C
  have tk1 : TK H (upd H R (.lst (xs ++ [v]))) := TK.upd h.r
  have hs : upd H R (.lst (xs ++ [v])) S = some (.lst (ns.map V.int)) := by rw [upd_ne (Ne.symm h.rs)]; exact h.s
  have tk : TK H (upd (upd H R (.lst (xs ++ [v]))) S (.lst (ns.map V.int ++ [.int z]))) := tk1.trans (TK.upd hs)
  have g : ∀ {q : Addr}, q ≠ R → q ≠ S → upd (upd H R (.lst (xs ++ [v]))) S (.lst (ns.map V.int ++ [.int z])) q = H q := fun n1 n2 => by rw [upd_ne n2, upd_ne n1]
  refine ⟨⟨⟨a, b, k, ms, ?_, ?_, h3⟩, es, ?_⟩, ?_, ?_, ?_, h.rs, h.rn, h.sn, h.r0, h.s0, (h.ft.tk tk).snoc (hv.tk tk), ?_, ?_⟩
  · rw [g (Ne.symm h.rn.1) (Ne.symm h.sn.1)]; exact h1
  · rw [g (Ne.symm h.rn.2.1) (Ne.symm h.sn.2.1)]; exact h2
  · rw [g (Ne.symm h.rn.2.2) (Ne.symm h.sn.2.2)]; exact h4
  · intro q o nc nl e
    have e2 := h.sc q o nc nl e
    have nR : q ≠ R := fun z => by rw [z, h.r0] at e; cases e
    have nS : q ≠ S := fun z => by rw [z, h.s0] at e; cases e
    rw [g nR nS]; exact e2
  · rw [upd_ne h.rs]; exact upd_same
  · rw [List.map_append]; exact upd_same
  · intro y hy
    rcases List.mem_append.mp hy with hy | hy
    · exact h.nb y hy
    · cases List.mem_singleton.mp hy; exact ⟨z0, z1⟩
  · rw [List.length_append, List.length_append, h.len]; rfl
section
variable {P : Program} {w : World} {K : PySem.W.Frag} {mg : Str → Option Value} {base : Heap}
def spText (K : PySem.W.Frag) : Sp := fun vs H Q _ => ∃ (c l zz : Addr) (m : Nat) (many cap : Int), vs = [.ref c, .int many, .int cap] ∧ 1 ≤ many ∧ many ≤ 60 ∧ 1 ≤ cap ∧ cap ≤ 10000000000000000000000000000000000000000 ∧ Cup H c l zz (m + 542) ∧
  ∀ a xs rs H', Cup H' c l zz m → SC c l H H' → SqT K (cut c l zz H') a xs → FTs K (cut c l zz H') xs (rs.map Rl.d) → Valid rs → 1 ≤ rs.length → rs.length ≤ 60 → (∀ z ∈ szs rs, (0 : Int) ≤ z ∧ z ≤ cap) → Q (.ref a) H'
theorem sc__law_text : FnScope ["cup", "many", "cap", "kinds", "rules", "sizes", "turn", "way", "rule", "size", "back", "i", "j", "k"] ["cup", "many", "cap"] (C8.fnScope (topS 27)) := C8.fnScope_by (by decide +kernel)
theorem ok__law_text {f : Addr} {fd : FuncData} (F : C8.Def K mg "_law_text" (topS 27) f fd) (b : Binds K fd ["cup", "many", "cap"] []) (B : Bl mg) (c__law_sip : C8.Cal P w K mg base 1 "_law_sip" spSip []) : C8.Cal P w K mg base 2 "_law_text" (spText K) [] := by
  refine C8.cal0 F b .nil sc__law_text ?len ?body
  case len => rintro vs H Q E ⟨c, l, zz, m, many, cap, rfl, _⟩; rfl
  case body =>
    rintro cdv A outer s H vs Q E hr ⟨c, l, zz, m, many, cap, rfl, many1, many2, cap1, cap2, C, q⟩
    refine ⟨_, (pss_cons (ps_par3 (i := 3) (j := 4) (l := 5) rfl sc__law_text.nd rfl rfl rfl (by decide) (by decide) (by decide) rfl rfl rfl (pa_cons (pe_ix ix_list (pe_lst (pa_cons pe_int (pa_cons pe_int (pa_cons pe_int (pa_cons pe_int pa_nil))))) (C8.pe_c c__law_sip hr (by decide) rfl (pa_cons (pv 0) (pa_cons pe_int pa_nil))) (fun _ _ => rfl)) (pa_cons (pe_lst pa_nil) (pa_cons (pe_lst pa_nil) pa_nil))) (by with_unfolding_all rfl))
    (pss_cons (ps_for PassesOwn.never rfl (pi_range1 rfl B.range (pa_cons (pe_op op_add pe_int (C8.pe_c c__law_sip hr (by decide) rfl (pa_cons (pv 0) (pa_cons (pv 1) pa_nil)))) pa_nil)) (pg_name (i := 6) sc__law_text.nd rfl (Or.inl rfl))
    (pss_cons (ps_par3 (i := 7) (j := 8) (l := 9) rfl sc__law_text.nd rfl rfl rfl (by decide) (by decide) (by decide) rfl rfl rfl (pa_cons (C8.pe_c c__law_sip hr (by decide) rfl (pa_cons (pv 0) (pa_cons pe_int pa_nil))) (pa_cons (pe_tup (pa_cons pe_str (pa_cons (pe_op op_mul (pe_op op_add pe_int (C8.pe_c c__law_sip hr (by decide) rfl (pa_cons (pv 0) (pa_cons (pv 3) pa_nil)))) (pe_ix ix_list (pe_lst (pa_cons pe_int (pa_cons (pe_un un_neg pe_int) pa_nil))) (C8.pe_c c__law_sip hr (by decide) rfl (pa_cons (pv 0) (pa_cons pe_int pa_nil))) (fun _ _ => rfl))) pa_nil))) (pa_cons pe_int pa_nil))) (by with_unfolding_all rfl))
    (C8.pss_cut (ps_if (pt_cmpR op_eq (pv 7) pe_int (nomark _)) (pss_one (ps_asg (pe_tup (pa_cons (pe_tup (pa_cons pe_str pa_nil)) (pa_cons pe_int pa_nil))) (pg_tup rfl (pgs_cons (pg_name (i := 8) sc__law_text.nd rfl (Or.inl rfl)) (pgs_cons (pg_name (i := 9) sc__law_text.nd rfl (Or.inl rfl)) pgs_nil))))) pss_nil)
    (C8.pss_cut (ps_if (PW.pt (pw_and (pt_cmpR op_gt (pv 7) pe_int (nomark _)) (pw_and1 (pt_cmpR (op_neD (hr.units)) (pv 4) (pe_lst pa_nil) (nomark _))))) (pss_cons (ps_set (i := 10) sc__law_text.nd rfl (Or.inl rfl) (pe_ix ix_list (pe_lst (pa_cons pe_int (pa_cons pe_int (pa_cons pe_int (pa_cons pe_int pa_nil))))) (C8.pe_c c__law_sip hr (by decide) rfl (pa_cons (pv 0) (pa_cons pe_int pa_nil))) (fun _ _ => rfl)))
    (pss_cons (ps_par (i := 11) (j := 12) rfl sc__law_text.nd rfl rfl (by decide) rfl rfl (pa_cons (pe_callB (call_max2 rfl) rfl B.max (by decide +kernel) (pa_cons pe_int (pa_cons (pe_op op_sub (pe_op op_sub (pe_callB call_len_seq rfl B.len PySem.boot_len (pa_cons (pv 4) pa_nil)) pe_int) (C8.pe_c c__law_sip hr (by decide) rfl (pa_cons (pv 0) (pa_cons (pv 10) pa_nil)))) pa_nil))) (pa_cons (pe_callB (call_max2 rfl) rfl B.max (by decide +kernel) (pa_cons pe_int (pa_cons (pe_op op_sub (pe_op op_sub (pe_callB call_len_seq rfl B.len PySem.boot_len (pa_cons (pv 4) pa_nil)) pe_int) (C8.pe_c c__law_sip hr (by decide) rfl (pa_cons (pv 0) (pa_cons (pv 10) pa_nil)))) pa_nil))) pa_nil)) (by with_unfolding_all rfl))
    (pss_cons (ps_set (i := 13) sc__law_text.nd rfl (Or.inl rfl) (pe_ix ix_list (pe_lst (pa_cons pe_int (pa_cons pe_int (pa_cons (pe_op op_add pe_int (C8.pe_c c__law_sip hr (by decide) rfl (pa_cons (pv 0) (pa_cons pe_int pa_nil)))) (pa_cons (pe_op op_add pe_int (C8.pe_c c__law_sip hr (by decide) rfl (pa_cons (pv 0) (pa_cons (pe_op op_pow pe_int pe_int) pa_nil)))) pa_nil))))) (C8.pe_c c__law_sip hr (by decide) rfl (pa_cons (pv 0) (pa_cons pe_int pa_nil))) (fun _ _ => rfl)))
    (C8.pss_cut (ps_if (PW.pt (pw_and (pt_cmpR op_lt (pv 7) pe_int (nomark _)) (pw_and1 (pt_cmpR op_le (pe_op op_add (pe_ix ix_list (pv 5) (pv 11) (fun _ _ => rfl)) (pe_ix ix_list (pv 5) (pv 12) (fun _ _ => rfl))) (pv 2) (nomark _))))) (pss_one (ps_par (i := 8) (j := 9) rfl sc__law_text.nd rfl rfl (by decide) rfl rfl (pa_cons (pe_tup (pa_cons pe_str (pa_cons (pv 11) (pa_cons (pv 12) pa_nil)))) (pa_cons (pe_op op_add (pe_ix ix_list (pv 5) (pv 11) (fun _ _ => rfl)) (pe_ix ix_list (pv 5) (pv 12) (fun _ _ => rfl))) pa_nil)) (by with_unfolding_all rfl))) pss_nil)
    (pss_one (ps_if (PW.pt (pw_and (pt_cmpR op_gt (pv 7) pe_int (nomark _)) (pw_and1 (pt_cmpR op_le (pe_op op_mulW (pe_ix ix_list (pv 5) (pv 11) (fun _ _ => rfl)) (pv 13)) (pv 2) (nomark _))))) (pss_one (ps_par (i := 8) (j := 9) rfl sc__law_text.nd rfl rfl (by decide) rfl rfl (pa_cons (pe_tup (pa_cons pe_str (pa_cons (pv 11) (pa_cons (pv 13) pa_nil)))) (pa_cons (pe_op op_mulW (pe_ix ix_list (pv 5) (pv 11) (fun _ _ => rfl)) (pv 13)) pa_nil)) (by with_unfolding_all rfl))) pss_nil)))))) pss_nil)
    (pss_cons (ps_expr (pe_bm PySem.F.plainAttrs_list PySem.F.slot_list_append PySem.F.type_list_append mt_append (pv 4) (pa_cons (pv 8) pa_nil)))
    (pss_one (ps_expr (pe_bm PySem.F.plainAttrs_list PySem.F.slot_list_append PySem.F.type_list_append mt_append (pv 5) (pa_cons (pv 9) pa_nil)))))))))
    (pss_one (ps_ret (pe_callTy call_tuple_of rfl B.tuple (by decide +kernel) (pa_cons (pv 4) pa_nil)))))), ?_⟩
    have stT : Stb (fun _ => True) := fun _ _ => trivial
    refine seq_of (par3_of (cons_of ?_))
    refine ai_ix (K := K) (F := fun _ => True) (c := c) (l := l) (p := fun z => 1 ≤ z ∧ z ≤ 20) (j := 4) (ka := 0) (kb := 1) stT (am_lst (j := 4) (k := 0) ?_ (by omega)) (ai_sip (hi := 4) (k := 0) stT rfl (ai_c ⟨by decide, by decide, by decide⟩) (fun r h0 h1 => ⟨h0, h1⟩)) (m + 541) H _ (C.le (by omega)) trivial fun kinds H1 hk C1 s1 => ?_
    · exact az_cons (ka := 0) (kr := 0) stT (ai_c ⟨by decide, by decide⟩) (az_cons (ka := 0) (kr := 0) stT (ai_c ⟨by decide, by decide⟩) (az_cons (ka := 0) (kr := 0) stT (ai_c ⟨by decide, by decide⟩) (az_cons (ka := 0) (kr := 0) stT (ai_c ⟨by decide, by decide⟩) az_nil)))
    refine ⟨(by show 0 ≤ sizeLine; decide), fun R hR => ⟨(by show 0 ≤ sizeLine; decide), fun S hS => ⟨_, _, _, rfl, ?_⟩⟩⟩
    have T0 : TH K c l zz R S cap H [] [] [] (m + 541) (upd (upd H1 R (.lst [])) S (.lst [])) := by
      have sR : Same H1 (upd H1 R (.lst [])) := same_new hR _
      have sS : Same (upd H1 R (.lst [])) (upd (upd H1 R (.lst [])) S (.lst [])) := same_new hS _
      have nRS : R ≠ S := fun z => by rw [← z, upd_same] at hS; cases hS
      have nr := C1.new hR
      have ns := (C1.same sR).new hS
      have back : ∀ {q : Addr}, q ≠ c ∧ q ≠ l ∧ q ≠ zz → H1 q = none → H q = none := fun n e => by
        cases e2 : H _ with
        | none => rfl
        | some o =>
          have := s1 _ o n.1 n.2.1 e2
          rw [e] at this
          cases this
      exact ⟨(C1.same sR).same sS, s1.trans ((SC.same sR).trans (SC.same sS)), by rw [upd_ne nRS]; exact upd_same, upd_same, nRS, nr, ns, back nr hR, back ns (by rw [upd_ne (Ne.symm nRS)] at hS; exact hS), .nil, (fun _ h => by cases h), rfl⟩
    generalize upd (upd H1 R (.lst [])) S (.lst []) = H3 at T0
    dsimp only
    refine ⟨_, rfl, _, rfl, c, l, zz, m + 540, many, rfl, T0.C, many1, lg (by omega) (by omega), fun r H4 r0 r1 C4 kp4 => ?_⟩
    refine ⟨_, _, rfl, rfl, _, rfl, by omega, by omega, ?_⟩
    have T4 := T0.step C4 kp4
    clear T0
    have hN : ∃ N : Nat, (1 + r).toNat = N ∧ 1 ≤ N ∧ N ≤ 60 := ⟨_, rfl, by omega, by omega⟩
    obtain ⟨N, eN, N1, N2⟩ := hN
    rw [eN]
    refine for_range (lo := 0) (n := N) (fun i σ H1 => (∃ s6 s7 s8 s9 s10 s11 s12 s13, σ = [some (.ref c), some (.int many), some (.int cap), some (.int kinds), some (.ref R), some (.ref S), s6, s7, s8, s9, s10, s11, s12, s13]) ∧ ∃ xs ds ns, TH K c l zz R S cap H xs ds ns (m + 9 * (N - i)) H1 ∧ xs.length = i ∧ ∃ rs, Sem rs ds ns) ⟨⟨_, _, _, _, _, _, _, _, rfl⟩, [], [], [], T4.le (by omega), rfl, [], rfl, rfl, Valid.nil⟩ ?_ ?_
    · rintro i σ H5 hi ⟨⟨s6, s7, s8, s9, s10, s11, s12, s13, rfl⟩, xs, ds, ns, T5, hxl, rs, sem⟩
      obtain ⟨b, eb, eb2⟩ : ∃ b, m + 9 * (N - i) = b + 9 ∧ m + 9 * (N - (i + 1)) = b := ⟨m + 9 * (N - (i + 1)), by omega, rfl⟩
      rw [eb] at T5
      rw [eb2]
      refine name_of' ?_
      refine seq_of (par3_of (cons_of ?_))
      refine ⟨_, rfl, c, l, zz, b + 8, 12, rfl, T5.C, by decide, by decide, fun way H6 w0 w1 C6 kp6 => ?_⟩
      have T6 := T5.step C6 kp6
      refine cons_of (tup_of' (cons_of (c_of (cons_of ?_))))
      refine ai_opI (F := fun _ => True) (c := c) (l := l) (p := fun z => -20 ≤ z ∧ z ≤ 20 ∧ z ≠ 0) (k := 2) (ka := 1) (kb := 1) (pa := fun z => 1 ≤ z ∧ z ≤ 20) (pb := fun z => z = 1 ∨ z = -1) stT
        (ai_op (ka := 0) (kb := 1) (pa := fun z => z = 1) (pb := fun z => 0 ≤ z ∧ z < 20) stT (ai_c rfl) (ai_sip (hi := 20) (k := 0) stT rfl (ai_var rfl ⟨hk.1, lg (by omega) (by omega), hk.2⟩) (fun r h0 h1 => ⟨h0, h1⟩)) (by omega) (fun x y hx hy => by omega))
        (ai_ix (K := K) (j := 2) (ka := 0) (kb := 1) stT (am_lst (j := 2) (k := 0) (az_cons (ka := 0) (kr := 0) stT (ai_c (.inl rfl)) (az_cons (ka := 0) (kr := 0) stT (ai_neg (pa := fun z => z = 1) (ai_c rfl) (fun x hx => .inr (by omega))) az_nil)) (by omega)) (ai_sip (hi := 2) (k := 0) stT rfl (ai_c ⟨by decide, by decide, by decide⟩) (fun r h0 h1 => ⟨h0, h1⟩)))
        (by omega) (fun x y hx hy => .inl ⟨by omega, by omega⟩) (fun x y hx hy => by rcases hy with rfl | rfl <;> refine ⟨?_, ?_, ?_⟩ <;> omega) (b + 6) H6 _ (T6.C.le (by omega)) trivial fun z H7 hz C7 s7' => ?_
      have T7 := T6.step C7 s7'
      refine ⟨(by show 2 ≤ sizeLine; decide), fun p hp => ⟨_, _, _, rfl, ?_⟩⟩
      have sp : Same H7 (upd H7 p (.tup [.str "letter", .int z])) := same_new hp _
      have T8 := T7.same sp
      have F8 : FT K (upd H7 p (.tup [.str "letter", .int z])) (.ref p) (.tuple [.str "letter", .int z]) := ft_new (.cons (.str _ (strOk_of _)) (.cons (.int z (lg2 (by omega) (by omega))) .nil)) (by show 2 ≤ 40; decide)
      dsimp only at T8 F8 ⊢
      generalize upd H7 p (.tup [.str "letter", .int z]) = H8 at T8 F8
      refine ⟨fun σ' H' => (∃ rv sz s10 s11 s12 s13, σ' = [some (.ref c), some (.int many), some (.int cap), some (.int kinds), some (.ref R), some (.ref S), some (.int (0 + (i : Int))), some (.int way), some rv, some (.int sz), s10, s11, s12, s13] ∧ (∃ rl : Rl, FT K H' rv rl.d ∧ RlOk ns rl sz) ∧ 0 ≤ sz ∧ sz ≤ cap) ∧ TH K c l zz R S cap H xs ds ns (b + 6) H', ?_, ?_⟩
      · -- if way == 0
        refine ⟨_, rfl, rfl, _, rfl, ?_⟩
        rw [dec_int]
        by_cases g : way = 0
        · rw [decide_eq_true g]
          refine iteT ⟨(by show 1 ≤ sizeLine; decide), fun p1 hp1 => ⟨(by show 2 ≤ sizeLine; decide), fun p2 hp2 => ⟨p2, _, rfl, SqT.of upd_same, rfl, _, _, rfl, _, _, rfl, rfl, ?_⟩⟩⟩
          have sA : Same H8 (upd H8 p1 (.tup [.str "none"])) := same_new hp1 _
          have sB : Same (upd H8 p1 (.tup [.str "none"])) (upd (upd H8 p1 (.tup [.str "none"])) p2 (.tup [.ref p1, .int 0])) := same_new hp2 _
          refine ⟨⟨_, _, _, _, _, _, rfl, ⟨.none, (ft_new (.cons (.str _ (strOk_of _)) .nil) (by show 1 ≤ 40; decide)).tk (TK.same sB), trivial, rfl⟩, by omega, by omega⟩, ((T8.same sA).same sB)⟩
        · rw [decide_eq_false g]
          exact iteF ⟨⟨_, _, _, _, _, _, rfl, ⟨.letter z, F8, hz, rfl⟩, by omega, by omega⟩, T8⟩
      · rintro σ' H9 ⟨⟨rv, sz, s10, s11, s12, s13, rfl, ⟨rl, F9, ok9⟩, z0, z1⟩, T9⟩
        clear T8 F8
        refine ⟨fun σ' H' => (∃ rv sz s10 s11 s12 s13, σ' = [some (.ref c), some (.int many), some (.int cap), some (.int kinds), some (.ref R), some (.ref S), some (.int (0 + (i : Int))), some (.int way), some rv, some (.int sz), s10, s11, s12, s13] ∧ (∃ rl : Rl, FT K H' rv rl.d ∧ RlOk ns rl sz) ∧ 0 ≤ sz ∧ sz ≤ cap) ∧ TH K c l zz R S cap H xs ds ns b H', ?_, ?_⟩
        · -- if way > 3 and rules != []
          refine ⟨_, rfl, _, _, rfl, rfl, _, rfl, ?_⟩
          refine ite2 (fun g => ?_) (fun g => ?_)
          · refine ⟨_, rfl, (by show 0 ≤ sizeLine; decide), fun p hp => ?_⟩
            have sp : Same H9 (upd H9 p (.lst [])) := same_new hp _
            have T10 := T9.same sp
            have F10 := F9.tk (TK.same sp)
            have dd := T10.ft.dp
            have hdl := dps_len dd.1
            refine ⟨.list ds, .list [], .lst (SqL.of T10.r) dd.1, .lst (SqL.of upd_same) .nil, OkN.shaped (n := 4) (ok_lst.mpr fun d hd => (td_ok (dd.2 d hd)).mono (by omega)) (by decide), by decide +kernel, _, rfl, ?_⟩
            rw [eqv_nil]
            generalize upd H9 p (.lst []) = H10 at T10 F10
            by_cases hds : ds = []
            · rw [show ds.isEmpty = true by rw [hds]; rfl]
              exact iteF ⟨⟨_, _, _, _, _, _, rfl, ⟨rl, F10, ok9⟩, z0, z1⟩, T10.le (by omega)⟩
            · have hne : 1 ≤ xs.length := by
                rw [hdl]
                cases ds with
                | nil => exact absurd rfl hds
                | cons _ _ => rw [List.length_cons]; omega
              rw [show ds.isEmpty = false by
                cases ds with
                | nil => exact absurd rfl hds
                | cons _ _ => rfl]
              refine iteT ?_
              refine seq_asg ?_
              refine ai_ix (K := K) (F := fun _ => True) (c := c) (l := l) (p := fun z => 1 ≤ z ∧ z ≤ 60) (j := 4) (ka := 0) (kb := 1) stT (am_lst (j := 4) (k := 0) ?_ (by omega)) (ai_sip (hi := 4) (k := 0) stT rfl (ai_c ⟨by decide, by decide, by decide⟩) (fun r h0 h1 => ⟨h0, h1⟩)) (b + 5) H10 _ (T10.C.le (by omega)) trivial fun back H11 hb C11 s11' => ?_
              · exact az_cons (ka := 0) (kr := 0) stT (ai_c ⟨by decide, by decide⟩) (az_cons (ka := 0) (kr := 0) stT (ai_c ⟨by decide, by decide⟩) (az_cons (ka := 0) (kr := 0) stT (ai_c ⟨by decide, by decide⟩) (az_cons (ka := 0) (kr := 0) stT (ai_c ⟨by decide, by decide⟩) az_nil)))
              have T11 := T10.step C11 s11'
              have F11 := F10.tk (TK.sc T10.C s11')
              have stR : Stb (fun h => h R = some (.lst xs)) := fun h s => s _ _ h
              refine name_of' ?_
              refine seq_of (par_of (cons_of ?_))
              refine ai_max (F := fun h => h R = some (.lst xs)) (p := fun z => 0 ≤ z ∧ z < xs.length) (pa := fun z => z = 0) (pb := fun z => z ≤ (xs.length : Int) - 1) (ka := 0) (kb := 1) stR (ai_c rfl)
                (ai_op (k := 1) (ka := 0) (kb := 1) (pa := fun z => z = (xs.length : Int) - 1) (pb := fun z => 0 ≤ z ∧ z < 60) stR
                  (ai_op (k := 0) (ka := 0) (kb := 0) (pa := fun z => z = (xs.length : Int)) (pb := fun z => z = 1) stR (ai_len (K := K) (k := 0) (fun m H Q C f q => ⟨_, rfl, q R xs H C (SC.refl _) (.inl (SqL.of f)) rfl⟩)) (ai_c rfl) (by omega) (fun x y hx hy => by omega))
                  (ai_sip (hi := 60) (k := 0) stR rfl (ai_var rfl ⟨hb.1, lg (by omega) (by omega), hb.2⟩) (fun r h0 h1 => ⟨h0, h1⟩)) (by omega) (fun x y hx hy => by omega))
                (fun x y hx hy => by split <;> omega) (b + 4) H11 _ (T11.C.le (by omega)) ((cut_get T11.rn).trans T11.r) fun iv H12 hiv C12 s12' => ?_
              obtain ⟨iN, rfl⟩ := Int.eq_ofNat_of_zero_le hiv.1
              have T12 := T11.step C12 s12'
              have F12 := F11.tk (TK.sc T11.C s12')
              refine cons_of ?_
              refine ai_max (F := fun h => h R = some (.lst xs)) (p := fun z => 0 ≤ z ∧ z < xs.length) (pa := fun z => z = 0) (pb := fun z => z ≤ (xs.length : Int) - 1) (ka := 0) (kb := 1) stR (ai_c rfl)
                (ai_op (k := 1) (ka := 0) (kb := 1) (pa := fun z => z = (xs.length : Int) - 1) (pb := fun z => 0 ≤ z ∧ z < 60) stR
                  (ai_op (k := 0) (ka := 0) (kb := 0) (pa := fun z => z = (xs.length : Int)) (pb := fun z => z = 1) stR (ai_len (K := K) (k := 0) (fun m H Q C f q => ⟨_, rfl, q R xs H C (SC.refl _) (.inl (SqL.of f)) rfl⟩)) (ai_c rfl) (by omega) (fun x y hx hy => by omega))
                  (ai_sip (hi := 60) (k := 0) stR rfl (ai_var rfl ⟨hb.1, lg (by omega) (by omega), hb.2⟩) (fun r h0 h1 => ⟨h0, h1⟩)) (by omega) (fun x y hx hy => by omega))
                (fun x y hx hy => by split <;> omega) (b + 3) H12 _ (T12.C.le (by omega)) ((cut_get T12.rn).trans T12.r) fun jv H13 hjv C13 s13' => ?_
              obtain ⟨jN, rfl⟩ := Int.eq_ofNat_of_zero_le hjv.1
              have T13 := T12.step C13 s13'
              have F13 := F12.tk (TK.sc T12.C s13')
              refine nil_of ⟨_, _, rfl, ?_⟩
              dsimp only
              refine seq_asg ?_
              refine ai_ix (K := K) (F := fun _ => True) (c := c) (l := l) (p := fun z => 2 ≤ z ∧ z ≤ 100000000000000000002) (j := 4) (ka := 2) (kb := 1) stT (am_lst (j := 4) (k := 2) ?_ (by omega)) (ai_sip (hi := 4) (k := 0) stT rfl (ai_c ⟨by decide, by decide, by decide⟩) (fun r h0 h1 => ⟨h0, h1⟩)) b H13 _ (T13.C.le (by omega)) trivial fun kv H14 hkv C14 s14' => ?_
              · refine az_cons (ka := 0) (kr := 2) stT (ai_c ⟨by decide, by decide⟩) (az_cons (ka := 0) (kr := 2) stT (ai_c ⟨by decide, by decide⟩) (az_cons (ka := 1) (kr := 1) stT ?_ (az_cons (ka := 1) (kr := 0) stT ?_ az_nil)))
                · exact ai_op (k := 1) (ka := 0) (kb := 1) (pa := fun z => z = 2) (pb := fun z => 0 ≤ z ∧ z < 40) stT (ai_c rfl) (ai_sip (hi := 40) (k := 0) stT rfl (ai_c ⟨by decide, by decide, by decide⟩) (fun r h0 h1 => ⟨h0, h1⟩)) (by omega) (fun x y hx hy => by omega)
                · refine ai_op (k := 1) (ka := 0) (kb := 1) (pa := fun z => z = 2) (pb := fun z => 0 ≤ z ∧ z < 100000000000000000000) stT (ai_c rfl) (ai_sip (hi := 100000000000000000000) (k := 0) stT rfl ?_ (fun r h0 h1 => ⟨h0, h1⟩)) (by omega) (fun x y hx hy => by omega)
                  exact ai_opI (k := 0) (pa := fun z => z = 10) (pb := fun z => z = 20) stT (ai_c rfl) (ai_c rfl) (by omega) (fun x y hx hy => by subst hx; subst hy; exact ⟨by decide, by decide, by decide⟩) (fun x y hx hy => by subst hx; subst hy; exact ⟨by decide, lg (by decide) (by decide), by decide⟩)
              have T14 := T13.step C14 s14'
              have F14 := F13.tk (TK.sc T13.C s14')
              clear T9 T10 T11 T12 T13 F9 F10 F11 F12 F13
              refine name_of' ?_
              refine ⟨fun σ' H' => (∃ rv sz s10, σ' = [some (.ref c), some (.int many), some (.int cap), some (.int kinds), some (.ref R), some (.ref S), some (.int (0 + (i : Int))), some (.int way), some rv, some (.int sz), s10, some (.int (iN : Int)), some (.int (jN : Int)), some (.int kv)] ∧ (∃ rl : Rl, FT K H' rv rl.d ∧ RlOk ns rl sz) ∧ 0 ≤ sz ∧ sz ≤ cap) ∧ TH K c l zz R S cap H xs ds ns b H', ?_, ?_⟩
              · obtain ⟨si, hsi, si0, si1⟩ := pick_n (ns := ns) (z := (iN : Int)) (by rw [T14.len]; exact hiv)
                obtain ⟨sj, hsj, sj0, sj1⟩ := pick_n (ns := ns) (z := (jN : Int)) (by rw [T14.len]; exact hjv)
                have bi := T14.nb _ si0
                have bj := T14.nb _ sj0
                refine ⟨_, rfl, _, _, rfl, rfl, _, rfl, ?_⟩
                refine ite2 (fun g => ?_) (fun g => ?_)
                · refine ⟨_, rfl, _, rfl, S, _, (iN : Int), _, rfl, rfl, SqL.of T14.s, hsi, ?_⟩
                  refine ⟨_, rfl, _, rfl, S, _, (jN : Int), _, rfl, rfl, SqL.of T14.s, hsj, _, _, rfl, rfl, _, rfl, _, _, rfl, rfl, _, rfl, ?_⟩
                  refine ite2 (fun g2 => ?_) (fun g2 => ?_)
                  · have g3 := of_decide_eq_true g2
                    refine ⟨_, rfl, _, rfl, (by show 3 ≤ sizeLine; decide), fun p hp => ?_⟩
                    have sp : Same H14 (upd H14 p (.tup [.str "pair", .int (iN : Int), .int (jN : Int)])) := same_new hp _
                    have T15 := T14.same sp
                    refine ⟨_, rfl, _, rfl, S, _, (iN : Int), _, rfl, rfl, SqL.of T15.s, hsi, ?_⟩
                    refine ⟨_, rfl, _, rfl, S, _, (jN : Int), _, rfl, rfl, SqL.of T15.s, hsj, _, _, rfl, rfl, _, _, rfl, ?_⟩
                    exact ⟨⟨_, _, _, rfl, ⟨.pair iN jN, ft_new (.cons (.str _ (strOk_of _)) (.cons (.int _ (lg2 (by omega) (by omega))) (.cons (.int _ (lg2 (by omega) (by omega))) .nil))) (by show 3 ≤ 40; decide), ⟨by rw [T14.len]; omega, by rw [T14.len]; omega⟩, by show ns.getD iN 0 + ns.getD jN 0 = si + sj; rw [← si1, ← sj1]; rfl⟩, by omega, by omega⟩, T15⟩
                  · exact ⟨⟨_, _, _, rfl, ⟨rl, F14, ok9⟩, z0, z1⟩, T14⟩
                · exact iteF ⟨⟨_, _, _, rfl, ⟨rl, F14, ok9⟩, z0, z1⟩, T14⟩
              · rintro σ' H15 ⟨⟨rv, sz, s10, rfl, ⟨rl, F15, ok15⟩, z0, z1⟩, T15⟩
                obtain ⟨si, hsi, si0, si1⟩ := pick_n (ns := ns) (z := (iN : Int)) (by rw [T15.len]; exact hiv)
                have bi := T15.nb _ si0
                have cm : CMulW si kv := wide_mul (a := 200) (b := 100) (Nat.lt_of_le_of_lt (show si.natAbs ≤ 10000000000000000000000000000000000000000 by omega) (by decide)) (Nat.lt_of_le_of_lt (show kv.natAbs ≤ 100000000000000000002 by omega) (by decide)) (by decide) (by decide) (by decide)
                refine ⟨_, rfl, _, _, rfl, rfl, _, rfl, ?_⟩
                refine ite2 (fun g => ?_) (fun g => ?_)
                · refine ⟨_, rfl, _, rfl, S, _, (iN : Int), _, rfl, rfl, SqL.of T15.s, hsi, _, rfl, _, _, rfl, rfl, cm, _, rfl, _, _, rfl, rfl, _, rfl, ?_⟩
                  refine ite2 (fun g2 => ?_) (fun g2 => ?_)
                  · have g3 := of_decide_eq_true g2
                    refine ⟨_, rfl, _, rfl, (by show 3 ≤ sizeLine; decide), fun p hp => ?_⟩
                    have sp : Same H15 (upd H15 p (.tup [.str "power", .int (iN : Int), .int kv])) := same_new hp _
                    have T16 := T15.same sp
                    refine ⟨_, rfl, _, rfl, S, _, (iN : Int), _, rfl, rfl, SqL.of T16.s, hsi, _, rfl, _, _, rfl, rfl, cm, _, _, rfl, ?_⟩
                    exact ⟨⟨_, _, _, _, _, _, rfl, ⟨.power iN kv, ft_new (.cons (.str _ (strOk_of _)) (.cons (.int _ (lg2 (by omega) (by omega))) (.cons (.int kv (lg2 (by omega) (by omega))) .nil))) (by show 3 ≤ 40; decide), ⟨by rw [T15.len]; omega, hkv.1, by omega⟩, by show ns.getD iN 0 * kv = si * kv; rw [← si1]; rfl⟩, Int.mul_nonneg (by omega) (by omega), by omega⟩, T16⟩
                  · exact ⟨⟨_, _, _, _, _, _, rfl, ⟨rl, F15, ok15⟩, z0, z1⟩, T15⟩
                · exact iteF ⟨⟨_, _, _, _, _, _, rfl, ⟨rl, F15, ok15⟩, z0, z1⟩, T15⟩
          · exact iteF ⟨⟨_, _, _, _, _, _, rfl, ⟨rl, F9, ok9⟩, z0, z1⟩, T9.le (by omega)⟩
        · rintro σ' H10 ⟨⟨rv, sz, s10, s11, s12, s13, rfl, ⟨rl, F10, ok10⟩, z0, z1⟩, T10⟩
          refine ⟨_, rfl, .inl ⟨rfl, _, SqL.of T10.r⟩, _, rfl, R, xs, rv, rfl, rfl, T10.r, small1000 (by omega), ?_⟩
          have hS : upd H10 R (.lst (xs ++ [rv])) S = some (.lst (ns.map V.int)) := by rw [upd_ne (Ne.symm T10.rs)]; exact T10.s
          refine ⟨_, rfl, .inl ⟨rfl, _, SqL.of hS⟩, _, rfl, S, _, _, rfl, rfl, hS, small1000 (by rw [List.length_map, T10.len]; omega), ?_⟩
          exact ⟨⟨_, _, _, _, _, _, _, _, rfl⟩, _, _, _, T10.push F10 z0 z1, by rw [List.length_append, hxl]; rfl, _, sem.snoc ok10⟩
    · rintro σ H5 ⟨⟨s6, s7, s8, s9, s10, s11, s12, s13, rfl⟩, xs, ds, ns, T5, hxl, rs, sem⟩
      refine ⟨_, rfl, R, xs, rfl, .inl ⟨SqL.of T5.r, fun p hp => ?_⟩⟩
      have sp : Same H5 (upd H5 p (.tup xs)) := same_new hp _
      have T6 := T5.same sp
      have ne := T5.C.new hp
      have hft := T6.ft.tk (TK.cut T6.C)
      obtain ⟨rfl, rfl, hv⟩ := sem
      have hl := T5.len
      rw [szs_len] at hl
      exact q p xs rs _ (T6.C.le (by omega)) T6.sc (SqT.of (cut_upd ne)) hft hv (by omega) (by omega) T5.nb
end
end K35


set_option Elab.async false
set_option linter.all false
set_option maxRecDepth 100000
set_option maxHeartbeats 8000000
namespace K35
open PySem PySem.Spec PyProof.Rows L2
/-! ### rules in the heap -/
def Rl.v : Rl → List V
  | .none => [.str "none"]
  | .letter x => [.str "letter", .int x]
  | .pair i j => [.str "pair", .int (i : Int), .int (j : Int)]
  | .power i k => [.str "power", .int (i : Int), .int k]
theorem lvs0 {ys : List V} (h : Lvs ys []) : ys = [] := by cases h; rfl
theorem lvsS {ys : List V} {s : Str} {ds : List PyData} (h : Lvs ys (.str s :: ds)) : ∃ r, ys = .str s :: r ∧ Lvs r ds := by
  cases h with
  | cons h t => cases h; exact ⟨_, rfl, t⟩
theorem lvsI {ys : List V} {i : Int} {ds : List PyData} (h : Lvs ys (.int i :: ds)) : ∃ r, ys = .int i :: r ∧ Lvs r ds := by
  cases h with
  | cons h t => cases h; exact ⟨_, rfl, t⟩
theorem ft_v {K : PySem.W.Frag} {H : Hp} {v : V} {r : Rl} (h : FT K H v r.d) : ∃ p, v = .ref p ∧ SqT K H p r.v := by
  obtain ⟨p, ys, ds, rfl, e, hs, hl, _⟩ := h
  refine ⟨p, rfl, ?_⟩
  cases r with
  | none =>
    cases (show PyData.tuple [.str "none"] = .tuple ds from e)
    obtain ⟨r1, rfl, h1⟩ := lvsS hl
    cases lvs0 h1
    exact hs
  | letter x =>
    cases (show PyData.tuple [.str "letter", .int x] = .tuple ds from e)
    obtain ⟨r1, rfl, h1⟩ := lvsS hl
    obtain ⟨r2, rfl, h2⟩ := lvsI h1
    cases lvs0 h2
    exact hs
  | pair i j =>
    cases (show PyData.tuple [.str "pair", .int (i : Int), .int (j : Int)] = .tuple ds from e)
    obtain ⟨r1, rfl, h1⟩ := lvsS hl
    obtain ⟨r2, rfl, h2⟩ := lvsI h1
    obtain ⟨r3, rfl, h3⟩ := lvsI h2
    cases lvs0 h3
    exact hs
  | power i k =>
    cases (show PyData.tuple [.str "power", .int (i : Int), .int k] = .tuple ds from e)
    obtain ⟨r1, rfl, h1⟩ := lvsS hl
    obtain ⟨r2, rfl, h2⟩ := lvsI h1
    obtain ⟨r3, rfl, h3⟩ := lvsI h2
    cases lvs0 h3
    exact hs
theorem fts_get {K : PySem.W.Frag} {H : Hp} : ∀ {xs : List V} {rs : List Rl} {i : Nat} {r : Rl}, FTs K H xs (rs.map Rl.d) → rs[i]? = some r → ∃ p, xs[i]? = some (.ref p) ∧ SqT K H p r.v
  | _, [], _, _, _, e => by simp at e
  | xs, r0 :: rs, 0, _, h, e => by
    cases h with
    | cons h t =>
      simp at e
      subst e
      obtain ⟨p, rfl, hs⟩ := ft_v h
      exact ⟨p, rfl, hs⟩
  | xs, r0 :: rs, i + 1, r, h, e => by
    cases h with
    | cons h t =>
      obtain ⟨p, h1, h2⟩ := fts_get (i := i) t (by simpa using e)
      exact ⟨p, by simpa using h1, h2⟩
theorem fts_len {K : PySem.W.Frag} {H : Hp} : ∀ {xs : List V} {ds : List PyData}, FTs K H xs ds → xs.length = ds.length
  | _, _, .nil => rfl
  | _, _, .cons _ t => congrArg Nat.succ (fts_len t)
theorem FTs.ext {K : PySem.W.Frag} {H H' : Hp} (e : LamX.ExtN H H') : ∀ {xs : List V} {ds : List PyData}, FTs K H xs ds → FTs K H' xs ds
  | _, _, .nil => .nil
  | _, _, .cons h t => .cons (by
      obtain ⟨p, ys, ds, rfl, rfl, hs, h2⟩ := h
      exact ⟨p, ys, ds, rfl, rfl, sqt_ext e hs, h2⟩) (FTs.ext e t)
/-- a text in the heap -/
structure TX (K : PySem.W.Frag) (H : Hp) (a : Addr) (rs : List Rl) : Prop where
  ex : ∃ xs, SqT K H a xs ∧ FTs K H xs (rs.map Rl.d)
theorem TX.ext {K : PySem.W.Frag} {H H' : Hp} {a : Addr} {rs : List Rl} (h : TX K H a rs) (e : LamX.ExtN H H') : TX K H' a rs := by
  obtain ⟨xs, h1, h2⟩ := h.ex
  exact ⟨xs, sqt_ext e h1, h2.ext e⟩
theorem TX.same {K : PySem.W.Frag} {H H' : Hp} {a : Addr} {rs : List Rl} (h : TX K H a rs) (s : Same H H') : TX K H' a rs := h.ext (same_ext s)
theorem TX.dp {K : PySem.W.Frag} {H : Hp} {a : Addr} {rs : List Rl} (h : TX K H a rs) : Dp K H (.ref a) (.tuple (rs.map Rl.d)) := by
  obtain ⟨xs, h1, h2⟩ := h.ex
  exact .tup h1 h2.dp.1
theorem rule_ok {n : Nat} {r : Rl} (h : ValidAt n r) : ruleD r.d (n : Int) = true := by
  cases r with
  | none => rfl
  | letter x =>
    obtain ⟨h1, h2, h3⟩ := h
    show tailD "letter" [.int x] (n : Int) = true
    rw [tail_letter1]
    show (decide (-20 ≤ x) && decide (x ≤ 20) && !decide (x = 0)) = true
    rw [decide_eq_true h1, decide_eq_true h2, decide_eq_false h3]
    rfl
  | pair i j =>
    obtain ⟨h1, h2⟩ := h
    show tailD "pair" [.int (i : Int), .int (j : Int)] (n : Int) = true
    rw [tail_pair, decide_eq_true (by omega), decide_eq_true (by omega), decide_eq_true (by omega), decide_eq_true (by omega)]
    rfl
  | power i k =>
    obtain ⟨h1, h2, _⟩ := h
    show tailD "power" [.int (i : Int), .int k] (n : Int) = true
    rw [tail_power, decide_eq_true (by omega), decide_eq_true (by omega), decide_eq_true (by omega)]
    rfl
theorem straight_ok {rs : List Rl} (h : Valid rs) (h1 : 1 ≤ rs.length) (h2 : rs.length ≤ 4000) : straightD (.tuple (rs.map Rl.d)) = true := by
  show (rowD (.tuple (rs.map Rl.d)) 1 4000 && allR (rs.map Rl.d) 0) = true
  rw [allR_true (n := 0) fun i d e => ?_, Bool.and_true]
  · show (decide ((1 : Int) ≤ (((rs.map Rl.d).length : Nat) : Int)) && decide ((((rs.map Rl.d).length : Nat) : Int) ≤ 4000)) = true
    rw [List.length_map, decide_eq_true (by omega), decide_eq_true (by omega)]
    rfl
  · rw [List.getElem?_map] at e
    cases q : rs[i]? with
    | none => rw [q] at e; cases e
    | some r =>
      rw [q] at e
      cases e
      rw [Nat.zero_add]
      exact rule_ok (h i r q)
/-! ### sizes -/
theorem szs_more : ∀ (ts : List Rl) (acc : List Int), ∃ more, ts.foldl (fun acc r => acc ++ [szOf acc r]) acc = acc ++ more
  | [], acc => ⟨[], by simp⟩
  | t :: ts, acc => by
    obtain ⟨more, e⟩ := szs_more ts (acc ++ [szOf acc t])
    exact ⟨[szOf acc t] ++ more, by rw [List.foldl_cons, e, List.append_assoc]⟩
theorem szs_pre (rs ts : List Rl) : ∃ more, szs (rs ++ ts) = szs rs ++ more := by
  unfold szs
  rw [List.foldl_append]
  exact szs_more _ _
theorem szs_take (rs : List Rl) (i : Nat) : szs (rs.take i) = (szs rs).take i := by
  obtain ⟨more, e⟩ := szs_pre (rs.take i) (rs.drop i)
  rw [List.take_append_drop] at e
  have hl : (szs (rs.take i)).length = min i rs.length := by rw [szs_len, List.length_take]
  by_cases h : i ≤ rs.length
  · rw [e, List.take_append_of_le_length (by omega)]
    exact (List.take_of_length_le (by omega)).symm
  · have hm : more = [] := by
      have := congrArg List.length e
      rw [szs_len, List.length_append, hl] at this
      exact List.eq_nil_of_length_eq_zero (by omega)
    rw [hm, List.append_nil] at e
    rw [e]
    exact (List.take_of_length_le (by omega)).symm
theorem szs_step {rs : List Rl} {i : Nat} {r : Rl} (h : rs[i]? = some r) : szs (rs.take (i + 1)) = szs (rs.take i) ++ [szOf (szs (rs.take i)) r] := by
  rw [take_succ h, szs_snoc]
theorem szs_at {rs : List Rl} {i : Nat} {r : Rl} (h : rs[i]? = some r) : (szs rs)[i]? = some (szOf (szs (rs.take i)) r) := by
  have hi := (List.getElem?_eq_some_iff.mp h).1
  have e := szs_take rs (i + 1)
  rw [szs_step h] at e
  have : (szs rs).take (i + 1) = (szs rs).take i ++ [szOf (szs (rs.take i)) r] := by rw [← e, szs_take]
  have h2 := congrArg (fun l => l[i]?) this
  simp only [List.getElem?_take_of_lt (Nat.lt_succ_self i)] at h2
  rw [h2, List.getElem?_append_right (by rw [List.length_take, szs_len]; omega), List.length_take, szs_len, Nat.min_eq_left (by omega), Nat.sub_self]
  rfl
theorem atI_getD {ns : List Int} {i : Nat} (h : i < ns.length) : atI (ns.map V.int) ((i : Nat) : Int) = some (.int (ns.getD i 0)) := by
  apply atI_nat
  rw [List.getElem?_map, List.getElem?_eq_getElem h, List.getD_eq_getElem?_getD, List.getElem?_eq_getElem h]
  rfl
def SzB (rs : List Rl) : Prop := ∀ z ∈ szs rs, (0 : Int) ≤ z ∧ z ≤ 10000000000000000000000000000000000000000
theorem getD_b {rs : List Rl} (h : SzB rs) (n i : Nat) : (0 : Int) ≤ (szs (rs.take n)).getD i 0 ∧ (szs (rs.take n)).getD i 0 ≤ 10000000000000000000000000000000000000000 := by
  rw [List.getD_eq_getElem?_getD]
  cases e : (szs (rs.take n))[i]? with
  | none => exact ⟨by decide, by decide⟩
  | some z =>
    have := List.mem_of_getElem? e
    rw [szs_take] at this
    exact h z (List.mem_of_mem_take this)
theorem mulw {a k : Int} (h0 : 0 ≤ a) (h1 : a ≤ 10000000000000000000000000000000000000000) (h2 : 0 ≤ k) (h3 : k ≤ 1000000000000000000000) : CMulW a k :=
  wide_mul (a := 200) (b := 100) (Nat.lt_of_le_of_lt (show a.natAbs ≤ 10000000000000000000000000000000000000000 by omega) (by decide)) (Nat.lt_of_le_of_lt (show k.natAbs ≤ 1000000000000000000000 by omega) (by decide)) (by decide) (by decide) (by decide)
section
variable {P : Program} {w : World} {K : PySem.W.Frag} {mg : Str → Option Value} {base : Heap}
def spWant (K : PySem.W.Frag) (T : Addr) : Sp := fun vs H Q _ => ∃ v d, vs = [v] ∧ Dp K H v d ∧ straightD d = true ∧ GxR.TabG H T ∧ ∀ H', Keep T H H' → Q .non H'
theorem sc_want_straight : FnScope ["text"] ["text"] (C8.fnScope (topS 15)) := C8.fnScope_by (by decide +kernel)
theorem ok_want_straight {f : Addr} {fd : FuncData} (F : C8.Def K mg "want_straight" (topS 15) f fd) (b : Binds K fd ["text"] []) (B : Bl mg) {T : Addr} (c_is_straight : C8.Cal P w K mg base 6 "is_straight" (spStraight K T) []) : C8.Cal P w K mg base 7 "want_straight" (spWant K T) [] := by
  refine C8.cal0 F b .nil sc_want_straight ?len ?body
  case len => rintro vs H Q E ⟨v, d, rfl, _⟩; rfl
  case body =>
    rintro cdv A outer s H vs Q E hr ⟨v, d, rfl, hd, hs, hT, q⟩
    refine ⟨_, (pss_one (ps_if (pt_not (pt_val (C8.pe_c c_is_straight hr (by decide) rfl (pa_cons (pv 0) pa_nil)))) pss_never pss_nil)), ?_⟩
    refine ⟨_, rfl, v, d, rfl, hd, hT, fun H' k => ?_⟩
    refine ⟨_, rfl, ?_⟩
    rw [hs]
    exact iteF (q H' k)
def spSizes (K : PySem.W.Frag) : Sp := fun vs H Q _ => ∃ (a : Addr) (rs : List Rl), vs = [.ref a] ∧ TX K H a rs ∧ Valid rs ∧ rs.length ≤ 4000 ∧ SzB rs ∧ ∀ l H', Same H H' → H l = none → H' l = some (.lst ((szs rs).map V.int)) → Q (.ref l) H'
theorem sc_rule_sizes : FnScope ["text", "sizes", "rule"] ["text"] (C8.fnScope (topS 17)) := C8.fnScope_by (by decide +kernel)
theorem ok_rule_sizes {f : Addr} {fd : FuncData} (F : C8.Def K mg "rule_sizes" (topS 17) f fd) (b : Binds K fd ["text"] []) (B : Bl mg)  : C8.Cal P w K mg base 1 "rule_sizes" (spSizes K) [] := by
  refine C8.cal0 F b .nil sc_rule_sizes ?len ?body
  case len => rintro vs H Q E ⟨a, rs, rfl, _⟩; rfl
  case body =>
    rintro cdv A outer s H vs Q E hr ⟨a, rs, rfl, ⟨xs, hs, hf⟩, hv, hlen, hb, q⟩
    refine ⟨_, (pss_cons (ps_set (i := 1) sc_rule_sizes.nd rfl (Or.inl rfl) (pe_lst pa_nil))
    (pss_cons (ps_for PassesOwn.never rfl (pi_tup (pv 0)) (pg_name (i := 2) sc_rule_sizes.nd rfl (Or.inl rfl))
    (pss_one (ps_if (pt_cmpR op_eq (pe_ix ix_tup (pv 2) pe_int (fun _ _ => rfl)) pe_str (nomark _)) (pss_one (ps_expr (pe_bm PySem.F.plainAttrs_list PySem.F.slot_list_append PySem.F.type_list_append mt_append (pv 1) (pa_cons pe_int pa_nil)))) (pss_one (ps_if (pt_cmpR op_eq (pe_ix ix_tup (pv 2) pe_int (fun _ _ => rfl)) pe_str (nomark _)) (pss_one (ps_expr (pe_bm PySem.F.plainAttrs_list PySem.F.slot_list_append PySem.F.type_list_append mt_append (pv 1) (pa_cons pe_int pa_nil)))) (pss_one (ps_if (pt_cmpR op_eq (pe_ix ix_tup (pv 2) pe_int (fun _ _ => rfl)) pe_str (nomark _)) (pss_one (ps_expr (pe_bm PySem.F.plainAttrs_list PySem.F.slot_list_append PySem.F.type_list_append mt_append (pv 1) (pa_cons (pe_op op_add (pe_ix ix_list (pv 1) (pe_ix ix_tup (pv 2) pe_int (fun _ _ => rfl)) (fun _ _ => rfl)) (pe_ix ix_list (pv 1) (pe_ix ix_tup (pv 2) pe_int (fun _ _ => rfl)) (fun _ _ => rfl))) pa_nil)))) (pss_one (ps_expr (pe_bm PySem.F.plainAttrs_list PySem.F.slot_list_append PySem.F.type_list_append mt_append (pv 1) (pa_cons (pe_op op_mulW (pe_ix ix_list (pv 1) (pe_ix ix_tup (pv 2) pe_int (fun _ _ => rfl)) (fun _ _ => rfl)) (pe_ix ix_tup (pv 2) pe_int (fun _ _ => rfl))) pa_nil)))))))))))
    (pss_one (ps_ret (pv 1))))), ?_⟩
    have hxl : xs.length = rs.length := by rw [fts_len hf, List.length_map]
    refine ⟨(by show 0 ≤ sizeLine; decide), fun S hS => ?_⟩
    have s0 := same_new hS (.lst [])
    refine ⟨_, rfl, a, rfl, ⟨xs, sqt_ext (same_ext s0) hs⟩, ?_⟩
    refine for_tup (xs := xs) (fun i σ H' => (∃ t2, σ = [some (.ref a), some (.ref S), t2]) ∧ Same H H' ∧ H' S = some (.lst ((szs (rs.take i)).map V.int))) ⟨⟨_, rfl⟩, s0, upd_same⟩ ?_ ?_ ?_
    · rintro i σ H1 _ ⟨_, s1, _⟩
      exact sqt_ext (same_ext s1) hs
    · rintro i x σ H1 hx ⟨⟨t2, rfl⟩, s1, hS1⟩
      have hi : i < rs.length := by rw [← hxl]; exact (List.getElem?_eq_some_iff.mp hx).1
      have er : rs[i]? = some rs[i] := List.getElem?_eq_getElem hi
      have vr := hv i _ er
      have st := szs_step er
      obtain ⟨p, ep, hp⟩ := fts_get hf er
      rw [hx] at ep
      cases ep
      have hp1 := sqt_ext (same_ext s1) hp
      have hl1 : (szs (rs.take i)).length = i := by rw [szs_len, List.length_take]; omega
      have done : ∀ {t2 : Option V} (z : Int), z = szOf (szs (rs.take i)) rs[i] → (∃ t2', ([some (.ref a), some (.ref S), t2] : L2.St) = [some (.ref a), some (.ref S), t2']) ∧ Same H (upd H1 S (.lst ((szs (rs.take i)).map V.int ++ [.int z]))) ∧ upd H1 S (.lst ((szs (rs.take i)).map V.int ++ [.int z])) S = some (.lst ((szs (rs.take (i + 1))).map V.int)) := fun {t2} z ez => by
        refine ⟨⟨_, rfl⟩, fun p o h => ?_, ?_⟩
        · have : p ≠ S := fun z => by rw [z, hS] at h; cases h
          rw [upd_ne this]
          exact s1 p o h
        · rw [st, List.map_append, ez]
          exact upd_same
      have sm : (List.map V.int (szs (rs.take i))).length < sizeLine := Nat.lt_of_le_of_lt (show _ ≤ 4000 by rw [List.length_map, hl1]; omega) (by decide)
      refine name_of' ?_
      generalize hr' : rs[i] = r at hp1 vr done
      cases r with
      | none =>
        refine ⟨_, rfl, _, _, _, _, rfl, rfl, hp1, at0 _ _, rfl, _, rfl, ?_⟩
        rw [dec_str, decide_eq_true rfl]
        refine iteT ⟨_, rfl, .inl ⟨rfl, _, SqL.of hS1⟩, S, _, _, rfl, rfl, hS1, sm, done 0 rfl⟩
      | letter y =>
        refine ⟨_, rfl, _, _, _, _, rfl, rfl, hp1, at0 _ _, rfl, _, rfl, ?_⟩
        rw [dec_str, decide_eq_false (by decide)]
        refine iteF ⟨_, rfl, _, _, _, _, rfl, rfl, hp1, at0 _ _, rfl, _, rfl, ?_⟩
        rw [dec_str, decide_eq_true rfl]
        refine iteT ⟨_, rfl, .inl ⟨rfl, _, SqL.of hS1⟩, S, _, _, rfl, rfl, hS1, sm, done 1 rfl⟩
      | pair y z =>
        refine ⟨_, rfl, _, _, _, _, rfl, rfl, hp1, at0 _ _, rfl, _, rfl, ?_⟩
        rw [dec_str, decide_eq_false (by decide)]
        refine iteF ⟨_, rfl, _, _, _, _, rfl, rfl, hp1, at0 _ _, rfl, _, rfl, ?_⟩
        rw [dec_str, decide_eq_false (by decide)]
        refine iteF ⟨_, rfl, _, _, _, _, rfl, rfl, hp1, at0 _ _, rfl, _, rfl, ?_⟩
        rw [dec_str, decide_eq_true rfl]
        refine iteT ⟨_, rfl, .inl ⟨rfl, _, SqL.of hS1⟩, ?_⟩
        refine ⟨_, rfl, _, rfl, _, _, _, _, rfl, rfl, hp1, at1 _ _ _, S, _, _, _, rfl, rfl, SqL.of hS1, atI_getD (by rw [hl1]; exact vr.1), ?_⟩
        refine ⟨_, rfl, _, rfl, _, _, _, _, rfl, rfl, hp1, at2 _ _ _ _, S, _, _, _, rfl, rfl, SqL.of hS1, atI_getD (by rw [hl1]; exact vr.2), _, _, rfl, rfl, ?_⟩
        exact ⟨S, _, _, rfl, rfl, hS1, sm, done _ rfl⟩
      | power y z =>
        refine ⟨_, rfl, _, _, _, _, rfl, rfl, hp1, at0 _ _, rfl, _, rfl, ?_⟩
        rw [dec_str, decide_eq_false (by decide)]
        refine iteF ⟨_, rfl, _, _, _, _, rfl, rfl, hp1, at0 _ _, rfl, _, rfl, ?_⟩
        rw [dec_str, decide_eq_false (by decide)]
        refine iteF ⟨_, rfl, _, _, _, _, rfl, rfl, hp1, at0 _ _, rfl, _, rfl, ?_⟩
        rw [dec_str, decide_eq_false (by decide)]
        refine iteF ⟨_, rfl, .inl ⟨rfl, _, SqL.of hS1⟩, ?_⟩
        have gb := getD_b hb i y
        refine ⟨_, rfl, _, rfl, _, _, _, _, rfl, rfl, hp1, at1 _ _ _, S, _, _, _, rfl, rfl, SqL.of hS1, atI_getD (by rw [hl1]; exact vr.1), ?_⟩
        refine ⟨_, rfl, _, _, _, _, rfl, rfl, hp1, at2 _ _ _ _, _, _, rfl, rfl, mulw gb.1 gb.2 (by have := vr.2; omega) vr.2.2, ?_⟩
        exact ⟨S, _, _, rfl, rfl, hS1, sm, done _ rfl⟩
    · rintro σ H1 ⟨⟨t2, rfl⟩, s1, hS1⟩
      rw [hxl, List.take_length] at hS1
      exact ⟨_, rfl, q S H1 s1 hS hS1⟩
end
end K35


set_option Elab.async false
set_option linter.all false
set_option maxRecDepth 100000
set_option maxHeartbeats 8000000
namespace K35
open PySem PySem.Spec PyProof.Rows L2
theorem tab_same {T : Addr} {H H' : Hp} (s : Same H H') (h : GxR.TabG H T) : GxR.TabG H' T := by
  obtain ⟨ps, h1, h2⟩ := h
  exact ⟨ps, s _ _ h1, h2⟩
theorem sz_at {rs : List Rl} {n : Nat} {r : Rl} (hv : Valid rs) (h : rs[n]? = some r) : (szs rs).getD n 0 = szOf (szs rs) r := by
  have e := szs_at h
  have v := hv n r h
  have g : ∀ i, i < n → (szs (rs.take n)).getD i 0 = (szs rs).getD i 0 := fun i hi => by
    rw [szs_take, List.getD_eq_getElem?_getD, List.getD_eq_getElem?_getD, List.getElem?_take_of_lt hi]
  rw [List.getD_eq_getElem?_getD, e]
  cases r with
  | none => rfl
  | letter x => rfl
  | pair i j =>
    show (szs (rs.take n)).getD i 0 + (szs (rs.take n)).getD j 0 = (szs rs).getD i 0 + (szs rs).getD j 0
    rw [g i v.1, g j v.2]
  | power i k =>
    show (szs (rs.take n)).getD i 0 * k = (szs rs).getD i 0 * k
    rw [g i v.1]
/-- the letter at a place -/
def letr (rs : List Rl) : Nat → Nat → Int → Int
  | 0, _, _ => 0
  | f + 1, n, p => match rs[n]? with
    | some (.letter x) => x
    | some (.pair i j) => if p < (szs rs).getD i 0 then letr rs f i p else letr rs f j (p - (szs rs).getD i 0)
    | some (.power i _) => letr rs f i (p % (szs rs).getD i 0)
    | _ => 0
theorem letr_fuel {rs : List Rl} (hv : Valid rs) : ∀ (f n g : Nat) (p : Int), n < f → n < g → letr rs f n p = letr rs g n p
  | 0, _, _, _, h, _ => absurd h (Nat.not_lt_zero _)
  | _ + 1, _, 0, _, _, h => absurd h (Nat.not_lt_zero _)
  | f + 1, n, g + 1, p, h1, h2 => by
    unfold letr
    cases e : rs[n]? with
    | none => rfl
    | some r =>
      have v := hv n r e
      cases r with
      | none => rfl
      | letter x => rfl
      | pair i j =>
        show (if p < (szs rs).getD i 0 then letr rs f i p else letr rs f j (p - (szs rs).getD i 0)) = (if p < (szs rs).getD i 0 then letr rs g i p else letr rs g j (p - (szs rs).getD i 0))
        have v1 := v.1
        have v2 := v.2
        rw [letr_fuel hv f i g p (by omega) (by omega), letr_fuel hv f j g _ (by omega) (by omega)]
      | power i k =>
        have v1 := v.1
        show letr rs f i _ = letr rs g i _
        rw [letr_fuel hv f i g _ (by omega) (by omega)]
def LET (rs : List Rl) (n : Nat) (p : Int) : Int := letr rs (n + 1) n p
theorem let_letter {rs : List Rl} {n : Nat} {p x : Int} (h : rs[n]? = some (.letter x)) : LET rs n p = x := by
  unfold LET letr
  rw [h]
theorem let_pair {rs : List Rl} (hv : Valid rs) {n i j : Nat} {p : Int} (h : rs[n]? = some (.pair i j)) : LET rs n p = if p < (szs rs).getD i 0 then LET rs i p else LET rs j (p - (szs rs).getD i 0) := by
  have v := hv n _ h
  have v1 := v.1
  have v2 := v.2
  unfold LET
  rw [letr_fuel hv (i + 1) i n p (by omega) (by omega), letr_fuel hv (j + 1) j n _ (by omega) (by omega)]
  conv => lhs; unfold letr
  rw [h]
theorem let_power {rs : List Rl} (hv : Valid rs) {n i : Nat} {p k : Int} (h : rs[n]? = some (.power i k)) : LET rs n p = LET rs i (p % (szs rs).getD i 0) := by
  have v := hv n _ h
  have v1 := v.1
  unfold LET
  rw [letr_fuel hv (i + 1) i n _ (by omega) (by omega)]
  conv => lhs; unfold letr
  rw [h]
theorem gd_b {rs : List Rl} (h : SzB rs) (i : Nat) : (0 : Int) ≤ (szs rs).getD i 0 ∧ (szs rs).getD i 0 ≤ 10000000000000000000000000000000000000000 := by
  have := getD_b h rs.length i
  rwa [List.take_length] at this
/-- one step down -/
structure Dn (rs : List Rl) (n0 : Nat) (p0 : Int) (n : Nat) (p : Int) : Prop where
  lt : n < rs.length
  lo : 0 ≤ p
  p1 : p < (szs rs).getD n 0
  eq : LET rs n p = LET rs n0 p0
theorem Dn.pairL {rs : List Rl} (hv : Valid rs) {n0 n i j : Nat} {p0 p : Int} (h : Dn rs n0 p0 n p) (e : rs[n]? = some (.pair i j)) (c : p < (szs rs).getD i 0) : Dn rs n0 p0 i p := by
  have v := (hv n _ e).1
  have l := h.lt
  have q := h.eq
  rw [let_pair hv e, if_pos c] at q
  exact ⟨by omega, h.lo, c, q⟩
theorem Dn.pairR {rs : List Rl} (hv : Valid rs) {n0 n i j : Nat} {p0 p : Int} (h : Dn rs n0 p0 n p) (e : rs[n]? = some (.pair i j)) (c : ¬ p < (szs rs).getD i 0) : Dn rs n0 p0 j (p - (szs rs).getD i 0) := by
  have v := (hv n _ e).2
  have l := h.lt
  have q := h.eq
  rw [let_pair hv e, if_neg c] at q
  have s := h.p1
  rw [sz_at hv e] at s
  have s2 : p < (szs rs).getD i 0 + (szs rs).getD j 0 := s
  exact ⟨by omega, by omega, by omega, q⟩
theorem Dn.power {rs : List Rl} (hv : Valid rs) (hb : SzB rs) {n0 n i : Nat} {p0 p k : Int} (h : Dn rs n0 p0 n p) (e : rs[n]? = some (.power i k)) : 0 < (szs rs).getD i 0 ∧ Dn rs n0 p0 i (p % (szs rs).getD i 0) := by
  have v := (hv n _ e).1
  have l := h.lt
  have q := h.eq
  rw [let_power hv e] at q
  have s := h.p1
  rw [sz_at hv e] at s
  have s2 : p < (szs rs).getD i 0 * k := s
  have b := (gd_b hb i).1
  have pos : 0 < (szs rs).getD i 0 := by
    rcases Int.lt_or_eq_of_le b with z | z
    · exact z
    · rw [← z, Int.zero_mul] at s2
      have := h.lo
      omega
  exact ⟨pos, by omega, Int.emod_nonneg _ (by omega), Int.emod_lt_of_pos _ pos, q⟩
theorem Dn.no {rs : List Rl} (hv : Valid rs) {n0 n : Nat} {p0 p : Int} (h : Dn rs n0 p0 n p) (e : rs[n]? = some .none) : False := by
  have s := h.p1
  rw [sz_at hv e] at s
  have s2 : p < 0 := s
  have := h.lo
  omega
theorem last_get {rs : List Rl} (h : 1 ≤ rs.length) : ∃ r, rs[rs.length - 1]? = some r := ⟨_, List.getElem?_eq_getElem (by omega)⟩
theorem atI_last {α : Type} {xs : List α} {v : α} (h : xs[xs.length - 1]? = some v) : atI xs (-1) = some v := by
  have hl := (List.getElem?_eq_some_iff.mp h).1
  unfold atI ixN
  rw [if_neg (by decide), if_pos (by omega)]
  show xs[(-1 + (xs.length : Int)).toNat]? = some v
  rw [show (-1 + (xs.length : Int)).toNat = xs.length - 1 by omega]
  exact h
section
variable {P : Program} {w : World} {K : PySem.W.Frag} {mg : Str → Option Value} {base : Heap}
def spLengths (K : PySem.W.Frag) (T : Addr) : Sp := fun vs H Q _ => ∃ (a : Addr) (rs : List Rl), vs = [.ref a] ∧ TX K H a rs ∧ Valid rs ∧ 1 ≤ rs.length ∧ rs.length ≤ 4000 ∧ SzB rs ∧ GxR.TabG H T ∧ ∀ l H', Keep T H H' → H' l = some (.tup ((szs rs).map V.int)) → Q (.ref l) H'
theorem sc_lengths : FnScope ["text"] ["text"] (C8.fnScope (topS 16)) := C8.fnScope_by (by decide +kernel)
theorem fn_lengths {f : Addr} {fd : FuncData} (F : C8.Def K mg "lengths" (topS 16) f fd) (b : Binds K fd ["text"] []) (B : Bl mg) {T : Addr} (c_want_straight : C8.Cal P w K mg base 7 "want_straight" (spWant K T) []) (c_rule_sizes : C8.Cal P w K mg base 1 "rule_sizes" (spSizes K) []) : FnOk P w K mg base C8.CX0 8 f fd ["text"] (spLengths K T) := by
  refine C8.fn0 F.fn sc_lengths ?len ?body
  case len => rintro vs H Q E ⟨a, rs, rfl, _⟩; rfl
  case body =>
    rintro cdv A outer s H vs Q E hr ⟨a, rs, rfl, tx, hv, h1, h2, hb, hT, q⟩
    refine ⟨_, (pss_cons (ps_expr (C8.pe_c c_want_straight hr (by decide) rfl (pa_cons (pv 0) pa_nil)))
    (pss_one (ps_ret (pe_callTy call_tuple_of rfl B.tuple (by decide +kernel) (pa_cons (C8.pe_c c_rule_sizes hr (by decide) rfl (pa_cons (pv 0) pa_nil)) pa_nil))))), ?_⟩
    refine ⟨_, rfl, _, _, rfl, tx.dp, straight_ok hv h1 h2, hT, fun H1 k1 => ?_⟩
    refine ⟨_, rfl, a, rs, rfl, tx.ext k1.1, hv, h2, hb, fun l H2 s2 hl hl2 => ?_⟩
    refine ⟨l, _, rfl, .inl ⟨SqL.of hl2, fun p hp => ?_⟩⟩
    have s3 := same_new hp (.tup ((szs rs).map V.int))
    exact q p _ ⟨k1.1.trans (same_ext (s2.trans s3)), tab_same (s2.trans s3) k1.2⟩ upd_same
theorem ok_lengths {f : Addr} {fd : FuncData} (F : C8.Def K mg "lengths" (topS 16) f fd) (b : Binds K fd ["text"] []) (B : Bl mg) {T : Addr} (c_want_straight : C8.Cal P w K mg base 7 "want_straight" (spWant K T) []) (c_rule_sizes : C8.Cal P w K mg base 1 "rule_sizes" (spSizes K) []) : C8.Cal P w K mg base 8 "lengths" (spLengths K T) [] :=
  ⟨f, fd, _, _, fn_lengths F b B c_want_straight c_rule_sizes, F.mgf, F.kp, b, .nil⟩
theorem sc__law_sizes : FnScope ["rules", "sizes", "rule"] ["rules"] (C8.fnScope (topS 28)) := C8.fnScope_by (by decide +kernel)
theorem ok__law_sizes {f : Addr} {fd : FuncData} (F : C8.Def K mg "_law_sizes" (topS 28) f fd) (b : Binds K fd ["rules"] []) (B : Bl mg)  : C8.Cal P w K mg base 1 "_law_sizes" (spSizes K) [] := by
  refine C8.cal0 F b .nil sc__law_sizes ?len ?body
  case len => rintro vs H Q E ⟨a, rs, rfl, _⟩; rfl
  case body =>
    rintro cdv A outer s H vs Q E hr ⟨a, rs, rfl, ⟨xs, hs, hf⟩, hv, hlen, hb, q⟩
    refine ⟨_, (pss_cons (ps_set (i := 1) sc__law_sizes.nd rfl (Or.inl rfl) (pe_lst pa_nil))
    (pss_cons (ps_for PassesOwn.never rfl (pi_tup (pv 0)) (pg_name (i := 2) sc__law_sizes.nd rfl (Or.inl rfl))
    (pss_one (ps_if (pt_cmpR op_eq (pe_ix ix_tup (pv 2) pe_int (fun _ _ => rfl)) pe_str (nomark _)) (pss_one (ps_expr (pe_bm PySem.F.plainAttrs_list PySem.F.slot_list_append PySem.F.type_list_append mt_append (pv 1) (pa_cons (pe_op op_add (pe_ix ix_list (pv 1) (pe_ix ix_tup (pv 2) pe_int (fun _ _ => rfl)) (fun _ _ => rfl)) (pe_ix ix_list (pv 1) (pe_ix ix_tup (pv 2) pe_int (fun _ _ => rfl)) (fun _ _ => rfl))) pa_nil)))) (pss_one (ps_if (pt_cmpR op_eq (pe_ix ix_tup (pv 2) pe_int (fun _ _ => rfl)) pe_str (nomark _)) (pss_one (ps_expr (pe_bm PySem.F.plainAttrs_list PySem.F.slot_list_append PySem.F.type_list_append mt_append (pv 1) (pa_cons (pe_op op_mulW (pe_ix ix_list (pv 1) (pe_ix ix_tup (pv 2) pe_int (fun _ _ => rfl)) (fun _ _ => rfl)) (pe_ix ix_tup (pv 2) pe_int (fun _ _ => rfl))) pa_nil)))) (pss_one (ps_expr (pe_bm PySem.F.plainAttrs_list PySem.F.slot_list_append PySem.F.type_list_append mt_append (pv 1) (pa_cons (pe_callTy call_int1 rfl B.int (by decide +kernel) (pa_cons (pe_cmpR op_eq (pe_ix ix_tup (pv 2) pe_int (fun _ _ => rfl)) pe_str (nomark _)) pa_nil)) pa_nil)))))))))
    (pss_one (ps_ret (pv 1))))), ?_⟩
    have hxl : xs.length = rs.length := by rw [fts_len hf, List.length_map]
    refine ⟨(by show 0 ≤ sizeLine; decide), fun S hS => ?_⟩
    have s0 := same_new hS (.lst [])
    refine ⟨_, rfl, a, rfl, ⟨xs, sqt_ext (same_ext s0) hs⟩, ?_⟩
    refine for_tup (xs := xs) (fun i σ H' => (∃ t2, σ = [some (.ref a), some (.ref S), t2]) ∧ Same H H' ∧ H' S = some (.lst ((szs (rs.take i)).map V.int))) ⟨⟨_, rfl⟩, s0, upd_same⟩ ?_ ?_ ?_
    · rintro i σ H1 _ ⟨_, s1, _⟩
      exact sqt_ext (same_ext s1) hs
    · rintro i x σ H1 hx ⟨⟨t2, rfl⟩, s1, hS1⟩
      have hi : i < rs.length := by rw [← hxl]; exact (List.getElem?_eq_some_iff.mp hx).1
      have er : rs[i]? = some rs[i] := List.getElem?_eq_getElem hi
      have vr := hv i _ er
      have st := szs_step er
      obtain ⟨p, ep, hp⟩ := fts_get hf er
      rw [hx] at ep
      cases ep
      have hp1 := sqt_ext (same_ext s1) hp
      have hl1 : (szs (rs.take i)).length = i := by rw [szs_len, List.length_take]; omega
      have done : ∀ {t2 : Option V} (z : Int), z = szOf (szs (rs.take i)) rs[i] → (∃ t2', ([some (.ref a), some (.ref S), t2] : L2.St) = [some (.ref a), some (.ref S), t2']) ∧ Same H (upd H1 S (.lst ((szs (rs.take i)).map V.int ++ [.int z]))) ∧ upd H1 S (.lst ((szs (rs.take i)).map V.int ++ [.int z])) S = some (.lst ((szs (rs.take (i + 1))).map V.int)) := fun {t2} z ez => by
        refine ⟨⟨_, rfl⟩, fun p o h => ?_, ?_⟩
        · have : p ≠ S := fun z => by rw [z, hS] at h; cases h
          rw [upd_ne this]
          exact s1 p o h
        · rw [st, List.map_append, ez]
          exact upd_same
      have sm : (List.map V.int (szs (rs.take i))).length < sizeLine := Nat.lt_of_le_of_lt (show _ ≤ 4000 by rw [List.length_map, hl1]; omega) (by decide)
      refine name_of' ?_
      generalize hr' : rs[i] = r at hp1 vr done
      cases r with
      | none =>
        refine ⟨_, rfl, _, _, _, _, rfl, rfl, hp1, at0 _ _, rfl, _, rfl, ?_⟩
        rw [dec_str, decide_eq_false (by decide)]
        refine iteF ⟨_, rfl, _, _, _, _, rfl, rfl, hp1, at0 _ _, rfl, _, rfl, ?_⟩
        rw [dec_str, decide_eq_false (by decide)]
        refine iteF ⟨_, rfl, .inl ⟨rfl, _, SqL.of hS1⟩, _, rfl, _, _, _, _, rfl, rfl, hp1, at0 _ _, rfl, .inr ⟨_, rfl, ?_⟩⟩
        rw [dec_str, decide_eq_false (by decide)]
        exact ⟨S, _, _, rfl, rfl, hS1, sm, done 0 rfl⟩
      | letter y =>
        refine ⟨_, rfl, _, _, _, _, rfl, rfl, hp1, at0 _ _, rfl, _, rfl, ?_⟩
        rw [dec_str, decide_eq_false (by decide)]
        refine iteF ⟨_, rfl, _, _, _, _, rfl, rfl, hp1, at0 _ _, rfl, _, rfl, ?_⟩
        rw [dec_str, decide_eq_false (by decide)]
        refine iteF ⟨_, rfl, .inl ⟨rfl, _, SqL.of hS1⟩, _, rfl, _, _, _, _, rfl, rfl, hp1, at0 _ _, rfl, .inr ⟨_, rfl, ?_⟩⟩
        rw [dec_str, decide_eq_true rfl]
        exact ⟨S, _, _, rfl, rfl, hS1, sm, done 1 rfl⟩
      | pair y z =>
        refine ⟨_, rfl, _, _, _, _, rfl, rfl, hp1, at0 _ _, rfl, _, rfl, ?_⟩
        rw [dec_str, decide_eq_true rfl]
        refine iteT ⟨_, rfl, .inl ⟨rfl, _, SqL.of hS1⟩, ?_⟩
        refine ⟨_, rfl, _, rfl, _, _, _, _, rfl, rfl, hp1, at1 _ _ _, S, _, _, _, rfl, rfl, SqL.of hS1, atI_getD (by rw [hl1]; exact vr.1), ?_⟩
        refine ⟨_, rfl, _, rfl, _, _, _, _, rfl, rfl, hp1, at2 _ _ _ _, S, _, _, _, rfl, rfl, SqL.of hS1, atI_getD (by rw [hl1]; exact vr.2), _, _, rfl, rfl, ?_⟩
        exact ⟨S, _, _, rfl, rfl, hS1, sm, done _ rfl⟩
      | power y z =>
        refine ⟨_, rfl, _, _, _, _, rfl, rfl, hp1, at0 _ _, rfl, _, rfl, ?_⟩
        rw [dec_str, decide_eq_false (by decide)]
        refine iteF ⟨_, rfl, _, _, _, _, rfl, rfl, hp1, at0 _ _, rfl, _, rfl, ?_⟩
        rw [dec_str, decide_eq_true rfl]
        refine iteT ⟨_, rfl, .inl ⟨rfl, _, SqL.of hS1⟩, ?_⟩
        have gb := getD_b hb i y
        refine ⟨_, rfl, _, rfl, _, _, _, _, rfl, rfl, hp1, at1 _ _ _, S, _, _, _, rfl, rfl, SqL.of hS1, atI_getD (by rw [hl1]; exact vr.1), ?_⟩
        refine ⟨_, rfl, _, _, _, _, rfl, rfl, hp1, at2 _ _ _ _, _, _, rfl, rfl, mulw gb.1 gb.2 (by have := vr.2; omega) vr.2.2, ?_⟩
        exact ⟨S, _, _, rfl, rfl, hS1, sm, done _ rfl⟩
    · rintro σ H1 ⟨⟨t2, rfl⟩, s1, hS1⟩
      rw [hxl, List.take_length] at hS1
      exact ⟨_, rfl, q S H1 s1 hS hS1⟩
def spLetAt (K : PySem.W.Frag) (T : Addr) : Sp := fun vs H Q _ => ∃ (a : Addr) (rs : List Rl) (p : Int), vs = [.ref a, .int p] ∧ TX K H a rs ∧ Valid rs ∧ 1 ≤ rs.length ∧ rs.length ≤ 4000 ∧ SzB rs ∧ 0 ≤ p ∧ p < (szs rs).getD (rs.length - 1) 0 ∧ GxR.TabG H T ∧
  ∀ H', Keep T H H' → Q (.int (LET rs (rs.length - 1) p)) H'
theorem sc_letter_at : FnScope ["text", "place", "sizes", "rule", "size"] ["text", "place"] (C8.fnScope (topS 18)) := C8.fnScope_by (by decide +kernel)
theorem fn_letter_at {f : Addr} {fd : FuncData} (F : C8.Def K mg "letter_at" (topS 18) f fd) (b : Binds K fd ["text", "place"] []) (B : Bl mg) {T : Addr} (c_want_straight : C8.Cal P w K mg base 7 "want_straight" (spWant K T) []) (c_rule_sizes : C8.Cal P w K mg base 1 "rule_sizes" (spSizes K) []) (c_is_within : C8.Cal P w K mg base 2 "is_within" (spWithin K) []) : FnOk P w K mg base C8.CX0 8 f fd ["text", "place"] (spLetAt K T) := by
  refine C8.fn0 F.fn sc_letter_at ?len ?body
  case len => rintro vs H Q E ⟨a, rs, p, rfl, _⟩; rfl
  case body =>
    rintro cdv A outer s H vs Q E hr ⟨a, rs, p, rfl, tx, hv, h1, h2, hb, hp0, hp1, hT, q⟩
    refine ⟨_, (pss_cons (ps_expr (C8.pe_c c_want_straight hr (by decide) rfl (pa_cons (pv 0) pa_nil)))
    (pss_cons (ps_set (i := 2) sc_letter_at.nd rfl (Or.inl rfl) (C8.pe_c c_rule_sizes hr (by decide) rfl (pa_cons (pv 0) pa_nil)))
    (pss_cons (ps_if (pt_not (pt_val (C8.pe_c c_is_within hr (by decide) rfl (pa_cons (pv 1) (pa_cons pe_int (pa_cons (pe_op op_sub (pe_ix ix_list (pv 2) (pe_un un_neg pe_int) (fun _ _ => rfl)) pe_int) pa_nil)))))) pss_never pss_nil)
    (pss_cons (ps_set (i := 3) sc_letter_at.nd rfl (Or.inl rfl) (pe_ix ix_tup (pv 0) (pe_un un_neg pe_int) (fun _ _ => rfl)))
    (pss_cons (ps_while PassesOwn.never (pt_cmpR op_ne (pe_ix ix_tup (pv 3) pe_int (fun _ _ => rfl)) pe_str (nomark _)) (pss_cons (ps_set (i := 4) sc_letter_at.nd rfl (Or.inl rfl) (pe_ix ix_list (pv 2) (pe_ix ix_tup (pv 3) pe_int (fun _ _ => rfl)) (fun _ _ => rfl)))
    (pss_one (ps_if (pt_cmpR op_eq (pe_ix ix_tup (pv 3) pe_int (fun _ _ => rfl)) pe_str (nomark _)) (pss_cons (ps_set (i := 1) sc_letter_at.nd rfl (Or.inl rfl) (pe_op op_mod (pv 1) (pv 4)))
    (pss_one (ps_set (i := 3) sc_letter_at.nd rfl (Or.inl rfl) (pe_ix ix_tup (pv 0) (pe_ix ix_tup (pv 3) pe_int (fun _ _ => rfl)) (fun _ _ => rfl))))) (pss_one (ps_if (pt_cmpR op_lt (pv 1) (pv 4) (nomark _)) (pss_one (ps_set (i := 3) sc_letter_at.nd rfl (Or.inl rfl) (pe_ix ix_tup (pv 0) (pe_ix ix_tup (pv 3) pe_int (fun _ _ => rfl)) (fun _ _ => rfl)))) (pss_cons (ps_aug (i := 1) sc_letter_at.nd rfl (Or.inl rfl) (pv 4) ip_sub)
    (pss_one (ps_set (i := 3) sc_letter_at.nd rfl (Or.inl rfl) (pe_ix ix_tup (pv 0) (pe_ix ix_tup (pv 3) pe_int (fun _ _ => rfl)) (fun _ _ => rfl)))))))))))
    (pss_one (ps_ret (pe_ix ix_tup (pv 3) pe_int (fun _ _ => rfl))))))))), ?_⟩
    refine ⟨_, rfl, _, _, rfl, tx.dp, straight_ok hv h1 h2, hT, fun H1 k1 => ?_⟩
    refine ⟨_, rfl, a, rs, rfl, tx.ext k1.1, hv, h2, hb, fun l H2 s2 hl hl2 => ?_⟩
    have tx2 := (tx.ext k1.1).same s2
    have k2 : Keep T H H2 := ⟨k1.1.trans (same_ext s2), tab_same s2 k1.2⟩
    obtain ⟨xs, hs, hf⟩ := tx2.ex
    have hxl : xs.length = rs.length := by rw [fts_len hf, List.length_map]
    have hsl : (szs rs).length = rs.length := szs_len rs
    have lastS : atI ((szs rs).map V.int) (-1) = some (.int ((szs rs).getD (rs.length - 1) 0)) := by
      have := atI_getD (ns := szs rs) (i := rs.length - 1) (by omega)
      apply atI_last
      rw [List.length_map, hsl, List.getElem?_map, List.getElem?_eq_getElem (by omega), List.getD_eq_getElem?_getD, List.getElem?_eq_getElem (by omega)]
      rfl
    refine ⟨_, rfl, _, rfl, 1, rfl, l, _, _, _, rfl, rfl, SqL.of hl2, lastS, _, _, rfl, rfl, _, _, _, _, rfl, .int p, _, rfl, ?_⟩
    rw [show withinD (.int p) 0 ((szs rs).getD (rs.length - 1) 0 - 1) = true by
      show (decide ((0 : Int) ≤ p) && decide (p ≤ (szs rs).getD (rs.length - 1) 0 - 1)) = true
      rw [decide_eq_true hp0, decide_eq_true (by omega)]
      rfl]
    refine iteF ?_
    obtain ⟨rl, hrl⟩ := last_get h1
    obtain ⟨ql, hql, hqs⟩ := fts_get hf hrl
    rw [← hxl] at hql
    refine ⟨_, rfl, 1, rfl, a, xs, _, _, rfl, rfl, hs, atI_last hql, ?_⟩
    refine ⟨fun m σ H' => ∃ n p' x t4, m = n ∧ σ = [some (.ref a), some (.int p'), some (.ref l), some x, t4] ∧ H' = H2 ∧ Dn rs (rs.length - 1) p n p' ∧ xs[n]? = some x, ⟨_, _, _, _, _, rfl, rfl, rfl, ⟨by omega, hp0, hp1, rfl⟩, by rw [← hxl]; exact hql⟩, ?_⟩
    rintro m σ H3 ⟨n, p', x, t4, rfl, rfl, rfl, dn, hx⟩
    obtain ⟨r, er⟩ : ∃ r, rs[m]? = some r := ⟨_, List.getElem?_eq_getElem dn.lt⟩
    obtain ⟨qa, eqa, hq⟩ := fts_get hf er
    rw [hx] at eqa
    cases eqa
    have vr := hv m r er
    cases r with
    | none => exact (dn.no hv er).elim
    | letter y =>
      refine ⟨_, rfl, _, _, _, _, rfl, rfl, hq, at0 _ _, rfl, _, rfl, ?_⟩
      rw [show (!decide (V.str "letter" = V.str "letter")) = false by rw [decide_eq_true rfl]; rfl]
      refine iteF ⟨_, rfl, _, _, _, _, rfl, rfl, hq, at1 _ _ _, ?_⟩
      have := q H3 k2
      rw [← dn.eq, let_letter er] at this
      exact this
    | pair i j =>
      refine ⟨_, rfl, _, _, _, _, rfl, rfl, hq, at0 _ _, rfl, _, rfl, ?_⟩
      rw [show (!decide (V.str "pair" = V.str "letter")) = true by decide]
      refine iteT ⟨fun σ' H' => ∃ n p' x t4, n < m ∧ σ' = [some (.ref a), some (.int p'), some (.ref l), some x, t4] ∧ H' = H3 ∧ Dn rs (rs.length - 1) p n p' ∧ xs[n]? = some x, ?_, ?_⟩
      · rintro σ' H' ⟨n, p2, x2, t5, hn, e1, e2, e3, e4⟩
        exact ⟨n, hn, n, p2, x2, t5, rfl, e1, e2, e3, e4⟩
      · refine ⟨_, rfl, _, rfl, _, _, _, _, rfl, rfl, hq, at1 _ _ _, l, _, _, _, rfl, rfl, SqL.of hl2, atI_getD (by have := dn.lt; have := vr.1; omega), ?_⟩
        have li : i < rs.length := by have := dn.lt; have := vr.1; omega
        have lj : j < rs.length := by have := dn.lt; have := vr.2; omega
        obtain ⟨ri, hri⟩ : ∃ r, rs[i]? = some r := ⟨_, List.getElem?_eq_getElem li⟩
        obtain ⟨rj, hrj⟩ : ∃ r, rs[j]? = some r := ⟨_, List.getElem?_eq_getElem lj⟩
        obtain ⟨qi, hqi, _⟩ := fts_get hf hri
        obtain ⟨qj, hqj, _⟩ := fts_get hf hrj
        refine ⟨_, rfl, _, _, _, _, rfl, rfl, hq, at0 _ _, rfl, _, rfl, ?_⟩
        rw [dec_str, decide_eq_false (by decide)]
        refine iteF ⟨_, rfl, _, rfl, _, _, rfl, rfl, _, rfl, ?_⟩
        by_cases c : p' < (szs rs).getD i 0
        · rw [decide_eq_true c]
          refine iteT ⟨_, rfl, _, rfl, _, _, _, _, rfl, rfl, hq, at1 _ _ _, a, xs, _, _, rfl, rfl, hs, atI_nat hqi, ?_⟩
          exact ⟨i, _, _, _, vr.1, rfl, rfl, dn.pairL hv er c, hqi⟩
        · rw [decide_eq_false c]
          refine iteF ⟨_, rfl, _, rfl, _, _, rfl, rfl, ?_⟩
          refine ⟨_, rfl, _, rfl, _, _, _, _, rfl, rfl, hq, at2 _ _ _ _, a, xs, _, _, rfl, rfl, hs, atI_nat hqj, ?_⟩
          exact ⟨j, _, _, _, vr.2, rfl, rfl, dn.pairR hv er c, hqj⟩
    | power i k =>
      refine ⟨_, rfl, _, _, _, _, rfl, rfl, hq, at0 _ _, rfl, _, rfl, ?_⟩
      rw [show (!decide (V.str "power" = V.str "letter")) = true by decide]
      refine iteT ⟨fun σ' H' => ∃ n p' x t4, n < m ∧ σ' = [some (.ref a), some (.int p'), some (.ref l), some x, t4] ∧ H' = H3 ∧ Dn rs (rs.length - 1) p n p' ∧ xs[n]? = some x, ?_, ?_⟩
      · rintro σ' H' ⟨n, p2, x2, t5, hn, e1, e2, e3, e4⟩
        exact ⟨n, hn, n, p2, x2, t5, rfl, e1, e2, e3, e4⟩
      · have li : i < rs.length := by have := dn.lt; have := vr.1; omega
        obtain ⟨ri, hri⟩ : ∃ r, rs[i]? = some r := ⟨_, List.getElem?_eq_getElem li⟩
        obtain ⟨qi, hqi, _⟩ := fts_get hf hri
        have dp := dn.power hv hb er
        refine ⟨_, rfl, _, rfl, _, _, _, _, rfl, rfl, hq, at1 _ _ _, l, _, _, _, rfl, rfl, SqL.of hl2, atI_getD (by omega), ?_⟩
        refine ⟨_, rfl, _, _, _, _, rfl, rfl, hq, at0 _ _, rfl, _, rfl, ?_⟩
        rw [dec_str, decide_eq_true rfl]
        refine iteT ⟨_, rfl, _, rfl, _, _, rfl, rfl, dp.1, ?_⟩
        refine ⟨_, rfl, _, rfl, _, _, _, _, rfl, rfl, hq, at1 _ _ _, a, xs, _, _, rfl, rfl, hs, atI_nat hqi, ?_⟩
        exact ⟨i, _, _, _, vr.1, rfl, rfl, dp.2, hqi⟩
theorem ok_letter_at {f : Addr} {fd : FuncData} (F : C8.Def K mg "letter_at" (topS 18) f fd) (b : Binds K fd ["text", "place"] []) (B : Bl mg) {T : Addr} (c_want_straight : C8.Cal P w K mg base 7 "want_straight" (spWant K T) []) (c_rule_sizes : C8.Cal P w K mg base 1 "rule_sizes" (spSizes K) []) (c_is_within : C8.Cal P w K mg base 2 "is_within" (spWithin K) []) : C8.Cal P w K mg base 8 "letter_at" (spLetAt K T) [] :=
  ⟨f, fd, _, _, fn_letter_at F b B c_want_straight c_rule_sizes c_is_within, F.mgf, F.kp, b, .nil⟩
end
end K35


set_option Elab.async false
set_option linter.all false
set_option maxRecDepth 100000
set_option maxHeartbeats 8000000
namespace K35
open PySem PySem.Spec PyProof.Rows L2
section
variable {P : Program} {w : World} {K : PySem.W.Frag} {mg : Str → Option Value} {base : Heap}
def spLawLet (K : PySem.W.Frag) : Sp := fun vs H Q _ => ∃ (a l : Addr) (rs : List Rl) (p : Int), vs = [.ref a, .ref l, .int p] ∧ TX K H a rs ∧ Valid rs ∧ 1 ≤ rs.length ∧ rs.length ≤ 4000 ∧ SzB rs ∧ H l = some (.lst ((szs rs).map V.int)) ∧ 0 ≤ p ∧ p < (szs rs).getD (rs.length - 1) 0 ∧
  ∀ H', Same H H' → Q (.int (LET rs (rs.length - 1) p)) H'
theorem sc__law_letter : FnScope ["rules", "sizes", "place", "at", "turn", "rule"] ["rules", "sizes", "place"] (C8.fnScope (topS 29)) := C8.fnScope_by (by decide +kernel)
theorem ok__law_letter {f : Addr} {fd : FuncData} (F : C8.Def K mg "_law_letter" (topS 29) f fd) (b : Binds K fd ["rules", "sizes", "place"] []) (B : Bl mg)  : C8.Cal P w K mg base 1 "_law_letter" (spLawLet K) [] := by
  refine C8.cal0 F b .nil sc__law_letter ?len ?body
  case len => rintro vs H Q E ⟨a, l, rs, p, rfl, _⟩; rfl
  case body =>
    rintro cdv A outer s H vs Q E hr ⟨a, l, rs, p, rfl, tx, hv, h1, h2, hb, hl2, hp0, hp1, q⟩
    refine ⟨_, (pss_cons (ps_set (i := 3) sc__law_letter.nd rfl (Or.inl rfl) (pe_op op_sub (pe_callB call_len_seq rfl B.len PySem.boot_len (pa_cons (pv 0) pa_nil)) pe_int))
    (pss_cons (ps_for PassesOwn.never rfl (pi_range1 rfl B.range (pa_cons (pe_callB call_len_seq rfl B.len PySem.boot_len (pa_cons (pv 0) pa_nil)) pa_nil)) (pg_name (i := 4) sc__law_letter.nd rfl (Or.inl rfl))
    (pss_cons (ps_set (i := 5) sc__law_letter.nd rfl (Or.inl rfl) (pe_ix ix_tup (pv 0) (pv 3) (fun _ _ => rfl)))
    (pss_one (ps_if (pt_cmpR op_eq (pe_ix ix_tup (pv 5) pe_int (fun _ _ => rfl)) pe_str (nomark _)) (pss_one (ps_par (i := 3) (j := 2) rfl sc__law_letter.nd rfl rfl (by decide) rfl rfl (pa_cons (pe_ix ix_tup (pv 5) pe_int (fun _ _ => rfl)) (pa_cons (pe_op op_mod (pe_callTy call_int1 rfl B.int (by decide +kernel) (pa_cons (pv 2) pa_nil)) (pe_ix ix_list (pv 1) (pe_ix ix_tup (pv 5) pe_int (fun _ _ => rfl)) (fun _ _ => rfl))) pa_nil)) (by with_unfolding_all rfl))) (pss_one (ps_if (pt_cmpR op_eq (pe_ix ix_tup (pv 5) pe_int (fun _ _ => rfl)) pe_str (nomark _)) (pss_one (ps_asg (pe_ix ix_list (pe_lst (pa_cons (pe_tup (pa_cons (pe_ix ix_tup (pv 5) pe_int (fun _ _ => rfl)) (pa_cons (pv 2) pa_nil))) (pa_cons (pe_tup (pa_cons (pe_ix ix_tup (pv 5) pe_int (fun _ _ => rfl)) (pa_cons (pe_op op_sub (pv 2) (pe_ix ix_list (pv 1) (pe_ix ix_tup (pv 5) pe_int (fun _ _ => rfl)) (fun _ _ => rfl))) pa_nil))) pa_nil))) (pe_callTy call_int1 rfl B.int (by decide +kernel) (pa_cons (pe_cmpR op_ge (pv 2) (pe_ix ix_list (pv 1) (pe_ix ix_tup (pv 5) pe_int (fun _ _ => rfl)) (fun _ _ => rfl)) (nomark _)) pa_nil)) (fun _ _ => rfl)) (pg_tup rfl (pgs_cons (pg_name (i := 3) sc__law_letter.nd rfl (Or.inl rfl)) (pgs_cons (pg_name (i := 2) sc__law_letter.nd rfl (Or.inl rfl)) pgs_nil))))) pss_nil))))))
    (pss_one (ps_ret (pe_ix ix_tup (pe_ix ix_tup (pv 0) (pv 3) (fun _ _ => rfl)) pe_int (fun _ _ => rfl)))))), ?_⟩
    obtain ⟨xs, hs, hf⟩ := tx.ex
    have hxl : xs.length = rs.length := by rw [fts_len hf, List.length_map]
    have hsl : (szs rs).length = rs.length := szs_len rs
    refine ⟨_, rfl, a, xs, rfl, .inr hs, _, _, rfl, rfl, ?_⟩
    refine ⟨_, rfl, a, xs, rfl, .inr hs, _, rfl, by omega, by omega, ?_⟩
    rw [Int.toNat_natCast]
    refine for_range (lo := 0) (n := xs.length) (fun t σ H' => ∃ (n : Nat) (p' : Int) (s4 s5 : Option V), σ = [some (.ref a), some (.ref l), some (.int p'), some (.int (n : Int)), s4, s5] ∧ Same H H' ∧ Dn rs (rs.length - 1) p n p' ∧ (n + t ≤ rs.length - 1 ∨ ∃ x, rs[n]? = some (.letter x))) ⟨rs.length - 1, p, none, none, ?_, Same.refl H, ⟨by omega, hp0, hp1, rfl⟩, .inl (by omega)⟩ ?_ ?_
    · show ([some (.ref a), some (.ref l), some (.int p), some (.int (((xs.length : Nat) : Int) - 1)), none, none] : L2.St) = _
      rw [show ((xs.length : Nat) : Int) - 1 = ((rs.length - 1 : Nat) : Int) by omega]
    · rintro t σ H1 ht ⟨n, p', s4, s5, rfl, s1, dn, hn⟩
      obtain ⟨r, er⟩ : ∃ r, rs[n]? = some r := ⟨_, List.getElem?_eq_getElem dn.lt⟩
      obtain ⟨qa, eqa, hq⟩ := fts_get hf er
      have hq1 := sqt_ext (same_ext s1) hq
      have hs1 := sqt_ext (same_ext s1) hs
      have vr := hv n r er
      refine name_of' ?_
      refine ⟨_, rfl, _, rfl, a, xs, _, _, rfl, rfl, hs1, atI_nat eqa, ?_⟩
      cases r with
      | none => exact (dn.no hv er).elim
      | letter y =>
        refine ⟨_, rfl, _, _, _, _, rfl, rfl, hq1, at0 _ _, rfl, _, rfl, ?_⟩
        rw [dec_str, decide_eq_false (by decide)]
        refine iteF ⟨_, rfl, _, _, _, _, rfl, rfl, hq1, at0 _ _, rfl, _, rfl, ?_⟩
        rw [dec_str, decide_eq_false (by decide)]
        exact iteF ⟨n, p', _, _, rfl, s1, dn, .inr ⟨y, er⟩⟩
      | pair i j =>
        have hn' : n + t ≤ rs.length - 1 := by
          rcases hn with h | ⟨x, h⟩
          · exact h
          · rw [er] at h; cases h
        have vi := vr.1
        have vj := vr.2
        have ln := dn.lt
        refine ⟨_, rfl, _, _, _, _, rfl, rfl, hq1, at0 _ _, rfl, _, rfl, ?_⟩
        rw [dec_str, decide_eq_false (by decide)]
        refine iteF ⟨_, rfl, _, _, _, _, rfl, rfl, hq1, at0 _ _, rfl, _, rfl, ?_⟩
        rw [dec_str, decide_eq_true rfl]
        refine iteT ⟨_, rfl, _, _, _, _, rfl, rfl, hq1, at1 _ _ _, _, rfl, (by show 2 ≤ sizeLine; decide), fun q1 g1 => ?_⟩
        have sA := same_new g1 (.tup [.int (i : Int), .int p'])
        have hq2 := sqt_ext (same_ext sA) hq1
        refine ⟨_, rfl, _, _, _, _, rfl, rfl, hq2, at2 _ _ _ _, _, rfl, ?_⟩
        refine ⟨_, rfl, _, rfl, _, _, _, _, rfl, rfl, hq2, at1 _ _ _, l, _, _, _, rfl, rfl, SqL.of (sA _ _ (s1 _ _ hl2)), atI_getD (by omega), _, _, rfl, rfl, ?_⟩
        refine ⟨(by show 2 ≤ sizeLine; decide), fun q2 g2 => ⟨(by show 2 ≤ sizeLine; decide), fun q3 g3 => ?_⟩⟩
        have sB := same_new g2 (.tup [.int (j : Int), .int (p' - (szs rs).getD i 0)])
        have sC := same_new g3 (.lst [.ref q1, .ref q2])
        have hq3 := sqt_ext (same_ext (sB.trans sC)) hq2
        have sAll := sA.trans (sB.trans sC)
        refine ⟨_, rfl, _, rfl, _, rfl, _, _, _, _, rfl, rfl, hq3, at1 _ _ _, l, _, _, _, rfl, rfl, SqL.of (sAll _ _ (s1 _ _ hl2)), atI_getD (by omega), _, _, rfl, rfl, .inr ⟨_, rfl, ?_⟩⟩
        by_cases c : (szs rs).getD i 0 ≤ p'
        · rw [decide_eq_true c]
          refine ⟨q3, _, _, _, rfl, rfl, SqL.of upd_same, at1 _ _ _, q2, _, rfl, SqT.of (sC _ _ upd_same), rfl, _, _, rfl, _, _, rfl, rfl, ?_⟩
          exact ⟨j, _, _, _, rfl, s1.trans sAll, dn.pairR hv er (by omega), .inl (by omega)⟩
        · rw [decide_eq_false c]
          refine ⟨q3, _, _, _, rfl, rfl, SqL.of upd_same, at0 _ _, q1, _, rfl, SqT.of (sC _ _ (sB _ _ upd_same)), rfl, _, _, rfl, _, _, rfl, rfl, ?_⟩
          exact ⟨i, _, _, _, rfl, s1.trans sAll, dn.pairL hv er (by omega), .inl (by omega)⟩
      | power i k =>
        have hn' : n + t ≤ rs.length - 1 := by
          rcases hn with h | ⟨x, h⟩
          · exact h
          · rw [er] at h; cases h
        have vi := vr.1
        have ln := dn.lt
        have dp := dn.power hv hb er
        refine ⟨_, rfl, _, _, _, _, rfl, rfl, hq1, at0 _ _, rfl, _, rfl, ?_⟩
        rw [dec_str, decide_eq_true rfl]
        refine iteT ⟨_, rfl, _, _, _, _, rfl, rfl, hq1, at1 _ _ _, _, rfl, .inl ⟨_, rfl, _, rfl, _, rfl, _, _, _, _, rfl, rfl, hq1, at1 _ _ _, l, _, _, _, rfl, rfl, SqL.of (s1 _ _ hl2), atI_getD (by omega), _, _, rfl, rfl, dp.1, _, _, rfl, ?_⟩⟩
        exact ⟨i, _, _, _, rfl, s1, dp.2, .inl (by omega)⟩
    · rintro σ H1 ⟨n, p', s4, s5, rfl, s1, dn, hn⟩
      rcases hn with h | ⟨x, er⟩
      · omega
      · obtain ⟨qa, eqa, hq⟩ := fts_get hf er
        have hq1 := sqt_ext (same_ext s1) hq
        refine ⟨_, rfl, _, rfl, a, xs, _, _, rfl, rfl, sqt_ext (same_ext s1) hs, atI_nat eqa, _, _, _, _, rfl, rfl, hq1, at1 _ _ _, ?_⟩
        have := q H1 s1
        rw [← dn.eq, let_letter er] at this
        exact this
end
end K35


set_option Elab.async false
set_option linter.all false
set_option maxRecDepth 100000
set_option maxHeartbeats 8000000
namespace K35
open PySem PySem.Spec PyProof.Rows L2
/-! ### the same data twice -/
def Sd : Nat → PyData → Prop
  | 0, _ => False
  | n + 1, d => d = .none ∨ (∃ i, d = .int i) ∨ ∃ ds, d = .tuple ds ∧ ds.length ≤ 5000 ∧ ∀ e ∈ ds, Sd n e
section
variable {P : Program} {w : World} {K : PySem.W.Frag} {mg : Str → Option Value} {base : Heap}
def spSameT (K : PySem.W.Frag) (n : Nat) : Sp := fun vs H Q _ => ∃ v w d, vs = [v, w] ∧ Dp K H v d ∧ Dp K H w d ∧ Sd n d ∧ ∀ H', Same H H' → Q (.bl true) H'
theorem ok__law_sameT {f : Addr} {fd : FuncData} (F : C8.Def K mg "_law_same" (topS 26) f fd) (b : Binds K fd ["found", "due"] []) (B : Bl mg) {n : Nat} (c__law_same : C8.Cal P w K mg base (n + 1) "_law_same" (spSameT K n) []) : C8.Cal P w K mg base (n + 2) "_law_same" (spSameT K (n + 1)) [] := by
  refine C8.cal0 F b .nil sc__law_same ?len ?body
  case len => rintro vs H Q E ⟨v, w, d, rfl, _⟩; rfl
  case body =>
    rintro cdv A outer s H vs Q E hr ⟨v, w', d, rfl, hv, hw, sd, q⟩
    refine ⟨_, (pss_cons (ps_if (pt_val (pe_isD (c := "tuple") B (pv 1) rfl rfl B.tuple (by decide +kernel) (by decide))) (pss_cons (ps_if (PW.pt (pw_or (pt_not (pt_val (pe_isD (c := "tuple") B (pv 0) rfl rfl B.tuple (by decide +kernel) (by decide)))) (pw_or1 (pt_cmpR op_ne (pe_callB call_len_seq rfl B.len PySem.boot_len (pa_cons (pv 0) pa_nil)) (pe_callB call_len_seq rfl B.len PySem.boot_len (pa_cons (pv 1) pa_nil)) (nomark _))))) (pss_one (ps_ret pe_bl)) pss_nil)
    (pss_one (ps_ret (pe_callB (cr_all rfl) rfl B.all (by decide +kernel) (pa_cons (pe_lc (own := [("k", 2)]) (g := gName 2) (te := tCall (spSameT K n) [] C8.E0 (tCons (tOp (rIxT K) (tVar 0) (tVar 2)) (tCons (tOp (rIxT K) (tVar 1) (tVar 2)) tNil))) (by rfl) sc__law_same.nd (pi_range1 rfl B.range (pa_cons (pe_callB call_len_seq rfl B.len PySem.boot_len (pa_cons (pv 1) pa_nil)) pa_nil)) (blkOk_by (own := [("k", 2)]) (N := ["found", "due", "k"]) (sc := (C8.fnScope (topS 26))) (by decide +kernel)) (fun _ _ _ _ _ => pg_name (i := 2) sc__law_same.nd rfl (Or.inl rfl)) (fun _ _ _ _ _ => pts_nil) (fun _ _ _ _ _ => by exact (C8.pe_c c__law_same hr (by omega) rfl (pa_cons (pe_ix ix_tup (pv 0) (pv 2) (fun _ _ => rfl)) (pa_cons (pe_ix ix_tup (pv 1) (pv 2) (fun _ _ => rfl)) pa_nil))))) pa_nil))))) pss_nil)
    (pss_cons (ps_if (pt_cmpR op_isN (pv 1) pe_non (nomark _)) (pss_one (ps_ret (pe_cmpR op_isN (pv 0) pe_non (nomark _)))) pss_nil)
    (pss_cons (ps_if (pt_val (pe_isD (c := "bool") B (pv 1) rfl rfl B.bool (by decide +kernel) (by decide))) (pss_one (ps_ret (pe_and (pe_isD (c := "bool") B (pv 0) rfl rfl B.bool (by decide +kernel) (by decide)) (pe_one (pe_cmpR op_eq (pv 0) (pv 1) (nomark _)))))) pss_nil)
    (pss_cons (ps_if (pt_val (pe_isD (c := "int") B (pv 1) rfl rfl B.int (by decide +kernel) (by decide))) (pss_one (ps_ret (pe_and (pe_isD (c := "int") B (pv 0) rfl rfl B.int (by decide +kernel) (by decide)) (pe_and (pe_not (pe_isD (c := "bool") B (pv 0) rfl rfl B.bool (by decide +kernel) (by decide))) (pe_one (pe_cmpR op_eq (pv 0) (pv 1) (nomark _))))))) pss_nil)
    (pss_one (ps_ret (pe_and (pe_isD (c := "str") B (pv 0) rfl rfl B.str (by decide +kernel) (by decide)) (pe_one (pe_cmpR op_eq (pv 0) (pv 1) (nomark _)))))))))), ?_⟩
    rcases sd with rfl | ⟨i, rfl⟩ | ⟨ds, rfl, hl, hds⟩
    · cases hv
      cases hw
      refine ⟨_, rfl, .non, .none, rfl, .non, _, rfl, iteF ?_⟩
      refine ⟨_, rfl, rfl, _, rfl, ?_⟩
      refine iteT ⟨_, rfl, rfl, ?_⟩
      rw [decide_eq_true rfl]
      exact q H (Same.refl H)
    · cases hv
      cases hw
      refine ⟨_, rfl, .int i, .int i, rfl, .int i, _, rfl, iteF ?_⟩
      refine ⟨_, rfl, rfl, _, rfl, ?_⟩
      refine iteF ?_
      refine ⟨_, rfl, .int i, .int i, rfl, .int i, _, rfl, iteF ?_⟩
      refine ⟨_, rfl, .int i, .int i, rfl, .int i, _, rfl, iteT ?_⟩
      refine ⟨_, rfl, .int i, .int i, rfl, .int i, _, rfl, iteT ?_⟩
      refine ⟨_, rfl, .int i, .int i, rfl, .int i, _, rfl, ?_⟩
      refine ⟨_, rfl, ?_⟩
      refine iteT ?_
      refine ⟨_, rfl, _, rfl, rfl, ?_⟩
      rw [decide_eq_true rfl]
      exact q H (Same.refl H)
    · cases hv with
      | @tup a xs _ hs ha =>
      cases hw with
      | @tup b ys _ ht hb =>
      refine ⟨_, rfl, .ref b, .tuple ds, rfl, .tup ht hb, _, rfl, iteT ?_⟩
      have la := dps_len ha
      have lb := dps_len hb
      refine ⟨_, rfl, .ref a, .tuple ds, rfl, .tup hs ha, _, rfl, iteF ?_⟩
      refine ⟨_, rfl, a, xs, rfl, .inr hs, _, rfl, b, ys, rfl, .inr ht, rfl, _, rfl, ?_⟩
      rw [show (!decide (V.int ((xs.length : Nat) : Int) = V.int ((ys.length : Nat) : Int))) = false by rw [la, lb, decide_eq_true rfl]; rfl]
      refine iteF ?_
      refine ⟨_, rfl, b, ys, rfl, .inr ht, _, rfl, by omega, by omega, fun D hD => ?_⟩
      rw [Int.toNat_natCast]
      refine lc_range (fun j H' => H' D = some (.lst (List.replicate j (V.bl true))) ∧ Same H H') ⟨upd_same, same_new hD _⟩ ?_ ?_
      · rintro j H1 hj ⟨hD1, s1⟩
        refine ⟨rfl, ?_⟩
        have ea : xs[j]? = some (xs[j]'(by omega)) := List.getElem?_eq_getElem (by omega)
        have eb : ys[j]? = some (ys[j]'(by omega)) := List.getElem?_eq_getElem (by omega)
        obtain ⟨d1, hd1, hp1⟩ := dps_get' ha ea
        obtain ⟨d2, hd2, hp2⟩ := dps_get' hb eb
        rw [hd1] at hd2
        cases hd2
        have i1 : atI xs (0 + (j : Int)) = some (xs[j]'(by omega)) := by
          rw [show (0 : Int) + (j : Int) = ((j : Nat) : Int) by omega]
          exact atI_nat ea
        have i2 : atI ys (0 + (j : Int)) = some (ys[j]'(by omega)) := by
          rw [show (0 : Int) + (j : Int) = ((j : Nat) : Int) by omega]
          exact atI_nat eb
        refine ⟨_, rfl, _, rfl, a, xs, _, _, rfl, rfl, sqt_ext (same_ext s1) hs, i1, _, rfl, _, rfl, b, ys, _, _, rfl, rfl, sqt_ext (same_ext s1) ht, i2, _, _, d1, rfl, dp_ext (same_ext s1) _ hp1, dp_ext (same_ext s1) _ hp2, hds d1 (List.mem_of_getElem? hd1), fun H2 s2 => ?_⟩
        refine ⟨_, s2 _ _ hD1, Nat.lt_of_le_of_lt (show _ ≤ 5000 by rw [List.length_replicate]; omega) (by decide), ?_, fun p o h => ?_⟩
        · rw [List.replicate_succ']
          exact upd_same
        · have : p ≠ D := fun z => by rw [z, hD] at h; cases h
          rw [upd_ne this]
          exact s2 _ _ (s1 _ _ h)
      · rintro H1 ⟨hD1, s1⟩
        refine ⟨D, List.replicate ys.length true, rfl, SqL.of (by rw [hD1, List.map_replicate]), ?_⟩
        rw [show (List.replicate ys.length true).all id = true by rw [List.all_eq_true]; intro z hz; rw [List.eq_of_mem_replicate hz]; rfl]
        exact q H1 s1
theorem same_all {f : Addr} {fd : FuncData} (F : C8.Def K mg "_law_same" (topS 26) f fd) (b : Binds K fd ["found", "due"] []) (B : Bl mg) : ∀ n : Nat, C8.Cal P w K mg base (n + 1) "_law_same" (spSameT K n) []
  | 0 => by
    refine C8.cal0 F b .nil sc__law_same ?len ?body
    case len => rintro vs H Q E ⟨_, _, _, _, _, _, sd, _⟩; exact sd.elim
    case body => rintro cdv A outer s H vs Q E hr ⟨_, _, _, _, _, _, sd, _⟩; exact sd.elim
  | n + 1 => ok__law_sameT F b B (same_all F b B n)
end
end K35


set_option Elab.async false
set_option linter.all false
set_option maxRecDepth 100000
set_option maxHeartbeats 8000000
namespace K35
open PySem PySem.Spec PyProof.Rows L2
/-! ### words -/
def wdr (rs : List Rl) : Nat → Nat → List Int
  | 0, _ => []
  | f + 1, n => match rs[n]? with
    | some (.letter x) => [x]
    | some (.pair i j) => wdr rs f i ++ wdr rs f j
    | some (.power i k) => (List.replicate k.toNat (wdr rs f i)).flatten
    | _ => []
theorem wdr_fuel {rs : List Rl} (hv : Valid rs) : ∀ (f n g : Nat), n < f → n < g → wdr rs f n = wdr rs g n
  | 0, _, _, h, _ => absurd h (Nat.not_lt_zero _)
  | _ + 1, _, 0, _, h => absurd h (Nat.not_lt_zero _)
  | f + 1, n, g + 1, h1, h2 => by
    unfold wdr
    cases e : rs[n]? with
    | none => rfl
    | some r =>
      have v := hv n r e
      cases r with
      | none => rfl
      | letter x => rfl
      | pair i j =>
        show wdr rs f i ++ wdr rs f j = wdr rs g i ++ wdr rs g j
        have v1 := v.1
        have v2 := v.2
        rw [wdr_fuel hv f i g (by omega) (by omega), wdr_fuel hv f j g (by omega) (by omega)]
      | power i k =>
        have v1 := v.1
        show (List.replicate k.toNat (wdr rs f i)).flatten = (List.replicate k.toNat (wdr rs g i)).flatten
        rw [wdr_fuel hv f i g (by omega) (by omega)]
def WD (rs : List Rl) (n : Nat) : List Int := wdr rs (n + 1) n
theorem wd_none {rs : List Rl} {n : Nat} (h : rs[n]? = some .none) : WD rs n = [] := by
  unfold WD wdr
  rw [h]
theorem wd_letter {rs : List Rl} {n : Nat} {x : Int} (h : rs[n]? = some (.letter x)) : WD rs n = [x] := by
  unfold WD wdr
  rw [h]
theorem wd_pair {rs : List Rl} (hv : Valid rs) {n i j : Nat} (h : rs[n]? = some (.pair i j)) : WD rs n = WD rs i ++ WD rs j := by
  have v := hv n _ h
  have v1 := v.1
  have v2 := v.2
  unfold WD
  rw [wdr_fuel hv (i + 1) i n (by omega) (by omega), wdr_fuel hv (j + 1) j n (by omega) (by omega)]
  conv => lhs; unfold wdr
  rw [h]
theorem wd_power {rs : List Rl} (hv : Valid rs) {n i : Nat} {k : Int} (h : rs[n]? = some (.power i k)) : WD rs n = (List.replicate k.toNat (WD rs i)).flatten := by
  have v := hv n _ h
  have v1 := v.1
  unfold WD
  rw [wdr_fuel hv (i + 1) i n (by omega) (by omega)]
  conv => lhs; unfold wdr
  rw [h]
theorem flat_len {α : Type} (l : List α) : ∀ n : Nat, (List.replicate n l).flatten.length = n * l.length
  | 0 => by simp
  | n + 1 => by rw [List.replicate_succ, List.flatten_cons, List.length_append, flat_len l n, Nat.succ_mul]; omega
theorem wd_len {rs : List Rl} (hv : Valid rs) : ∀ (N n : Nat), n < N → n < rs.length → (((WD rs n).length : Nat) : Int) = (szs rs).getD n 0
  | 0, _, h, _ => absurd h (Nat.not_lt_zero _)
  | N + 1, n, h, hl => by
    obtain ⟨r, e⟩ : ∃ r, rs[n]? = some r := ⟨_, List.getElem?_eq_getElem hl⟩
    have v := hv n r e
    rw [sz_at hv e]
    cases r with
    | none => rw [wd_none e]; rfl
    | letter x => rw [wd_letter e]; rfl
    | pair i j =>
      have v1 := v.1
      have v2 := v.2
      rw [wd_pair hv e, List.length_append, Int.natCast_add, wd_len hv N i (by omega) (by omega), wd_len hv N j (by omega) (by omega)]
      rfl
    | power i k =>
      have v1 := v.1
      have v2 := v.2.1
      rw [wd_power hv e, flat_len, Int.natCast_mul, wd_len hv N i (by omega) (by omega)]
      show ((k.toNat : Nat) : Int) * _ = (szs rs).getD i 0 * k
      rw [Int.toNat_of_nonneg (by omega), Int.mul_comm]
theorem wd_size {rs : List Rl} (hv : Valid rs) {n : Nat} (h : n < rs.length) : (((WD rs n).length : Nat) : Int) = (szs rs).getD n 0 := wd_len hv (n + 1) n (by omega) h
theorem wd_zero {rs : List Rl} (hv : Valid rs) {n : Nat} (h : n < rs.length) (hz : (szs rs).getD n 0 = 0) : WD rs n = [] := by
  have := wd_size hv h
  exact List.eq_nil_of_length_eq_zero (by omega)
/-- a rule whose parts both have letters, of the same word -/
def Good (rs : List Rl) (q : Nat) : Prop := q < rs.length ∧ (0 < (szs rs).getD q 0) ∧ ∀ i j, rs[q]? = some (.pair i j) → 0 < (szs rs).getD i 0 ∧ 0 < (szs rs).getD j 0
structure Root (rs : List Rl) (m q : Nat) : Prop where
  le : q ≤ m
  wd : WD rs q = WD rs m
  ok : 0 < (szs rs).getD m 0 → Good rs q
def Roots (rs : List Rl) (qs : List Nat) : Prop := ∀ m q, qs[m]? = some q → Root rs m q
theorem Roots.snoc {rs : List Rl} {qs : List Nat} {q : Nat} (h : Roots rs qs) (hq : Root rs qs.length q) : Roots rs (qs ++ [q]) := by
  intro m x e
  by_cases hm : m < qs.length
  · rw [List.getElem?_append_left hm] at e
    exact h m x e
  · rw [List.getElem?_append_right (by omega)] at e
    have : m - qs.length = 0 := by
      by_cases z : m - qs.length = 0
      · exact z
      · obtain ⟨k, hk⟩ := Nat.exists_eq_succ_of_ne_zero z
        rw [hk] at e
        simp at e
    rw [this] at e
    cases e
    rw [show m = qs.length by omega]
    exact hq
theorem atI_nats {qs : List Nat} {i q : Nat} (h : qs[i]? = some q) : atI (qs.map fun n : Nat => V.int (n : Int)) ((i : Nat) : Int) = some (.int (q : Int)) := by
  apply atI_nat
  rw [List.getElem?_map, h]
  rfl
theorem for_enumT {K : PySem.W.Frag} {a : Addr} {xs : List V} {g : TG} {tb : TS} {D : Ends} {σ : L2.St} {H : Hp} (Pv : Nat → L2.St → Hp → Prop) (h0 : Pv 0 σ H) (hl : ∀ i σ H, i ≤ xs.length → Pv i σ H → SqT K H a xs)
    (hs : ∀ i x σ H Tp, xs[i]? = some x → Pv i σ H → H Tp = none → g (.ref Tp) σ (upd H Tp (.tup [.int (i : Nat), x])) fun σ2 H2 => tb { D with nx := Pv (i + 1), ct := Pv (i + 1), bk := D.nx } σ2 H2) (hd : ∀ σ H, Pv xs.length σ H → D.nx σ H) :
    ∃ W : Nat → Nat → L2.St → Hp → Prop, (∃ m, W 0 m σ H) ∧ ∀ i m σ H, W i m σ H →
      ((UG.Iet K a).stop i H ∧ D.nx σ H) ∨ ((UG.Iet K a).go i H ∧ ∃ N : L2.St → Hp → Prop, (∀ σ' H', N σ' H' → ∃ m', m' < m ∧ W (i + 1) m' σ' H') ∧ ∀ x H', (UG.Iet K a).yld i H x H' → g x σ H' fun σ2 H2 => tb { D with nx := N, ct := N, bk := D.nx } σ2 H2) := by
  refine ⟨fun i m σ H => m = xs.length - i ∧ i ≤ xs.length ∧ Pv i σ H, ⟨xs.length, by simp, Nat.zero_le _, h0⟩, ?_⟩
  rintro i m σ H ⟨rfl, hi, p⟩
  have q := hl i σ H hi p
  by_cases hlt : i < xs.length
  · refine .inr ⟨⟨xs, xs[i], q, List.getElem?_eq_getElem hlt⟩, Pv (i + 1), fun σ' H' p' => ⟨xs.length - (i + 1), by omega, rfl, hlt, p'⟩, ?_⟩
    rintro _ _ ⟨Tp, x, rfl, hTp, rfl, hx⟩
    exact hs i x σ H Tp (hx xs q) p hTp
  · have e : i = xs.length := by omega
    subst e
    exact .inl ⟨⟨xs, q, Nat.le_refl _⟩, hd σ H p⟩
section
variable {P : Program} {w : World} {K : PySem.W.Frag} {mg : Str → Option Value} {base : Heap}
def spRoots (K : PySem.W.Frag) : Sp := fun vs H Q _ => ∃ (a l : Addr) (rs : List Rl), vs = [.ref a, .ref l] ∧ TX K H a rs ∧ Valid rs ∧ rs.length ≤ 4000 ∧ SzB rs ∧ H l = some (.lst ((szs rs).map V.int)) ∧
  ∀ r qs H', Same H H' → H' r = some (.lst (qs.map fun n : Nat => V.int (n : Int))) → qs.length = rs.length → Roots rs qs → Q (.ref r) H'
theorem sc__same_words : FnScope ["text", "sizes", "roots", "at", "rule"] ["text", "sizes"] (C8.fnScope (topS 21)) := C8.fnScope_by (by decide +kernel)
theorem ok__same_words {f : Addr} {fd : FuncData} (F : C8.Def K mg "_same_words" (topS 21) f fd) (b : Binds K fd ["text", "sizes"] []) (B : Bl mg)  : C8.Cal P w K mg base 1 "_same_words" (spRoots K) [] := by
  refine C8.cal0 F b .nil sc__same_words ?len ?body
  case len => rintro vs H Q E ⟨a, l, rs, rfl, _⟩; rfl
  case body =>
    rintro cdv A outer s H vs Q E hr ⟨a, l, rs, rfl, ⟨xs, hs, hf⟩, hv, hlen, hb, hl2, q⟩
    refine ⟨_, (pss_cons (ps_set (i := 2) sc__same_words.nd rfl (Or.inl rfl) (pe_lst pa_nil))
    (pss_cons (ps_for PassesOwn.never rfl (UG.pi_enumT rfl B.enumerate (pa_cons (pv 0) pa_nil)) (pg_tup rfl (pgs_cons (pg_name (i := 3) sc__same_words.nd rfl (Or.inl rfl)) (pgs_cons (pg_name (i := 4) sc__same_words.nd rfl (Or.inl rfl)) pgs_nil)))
    (pss_one (ps_if (PW.pt (pw_and (pt_cmpR op_eq (pe_ix ix_tup (pv 4) pe_int (fun _ _ => rfl)) pe_str (nomark _)) (pw_and1 (pt_cmpR op_eq (pe_ix ix_list (pv 1) (pe_ix ix_tup (pv 4) pe_int (fun _ _ => rfl)) (fun _ _ => rfl)) pe_int (nomark _))))) (pss_one (ps_expr (pe_bm PySem.F.plainAttrs_list PySem.F.slot_list_append PySem.F.type_list_append mt_append (pv 2) (pa_cons (pe_ix ix_list (pv 2) (pe_ix ix_tup (pv 4) pe_int (fun _ _ => rfl)) (fun _ _ => rfl)) pa_nil)))) (pss_one (ps_if (PW.pt (pw_and (pt_cmpR op_eq (pe_ix ix_tup (pv 4) pe_int (fun _ _ => rfl)) pe_str (nomark _)) (pw_and1 (pt_cmpR op_eq (pe_ix ix_list (pv 1) (pe_ix ix_tup (pv 4) pe_int (fun _ _ => rfl)) (fun _ _ => rfl)) pe_int (nomark _))))) (pss_one (ps_expr (pe_bm PySem.F.plainAttrs_list PySem.F.slot_list_append PySem.F.type_list_append mt_append (pv 2) (pa_cons (pe_ix ix_list (pv 2) (pe_ix ix_tup (pv 4) pe_int (fun _ _ => rfl)) (fun _ _ => rfl)) pa_nil)))) (pss_one (ps_expr (pe_bm PySem.F.plainAttrs_list PySem.F.slot_list_append PySem.F.type_list_append mt_append (pv 2) (pa_cons (pv 3) pa_nil)))))))))
    (pss_one (ps_ret (pv 2))))), ?_⟩
    have hxl : xs.length = rs.length := by rw [fts_len hf, List.length_map]
    have hsl : (szs rs).length = rs.length := szs_len rs
    refine ⟨(by show 0 ≤ sizeLine; decide), fun S hS => ?_⟩
    have s0 := same_new hS (.lst [])
    refine name_of' ?_
    dsimp only
    refine ⟨_, rfl, a, xs, rfl, sqt_ext (same_ext s0) hs, ?_⟩
    refine for_enumT (xs := xs) (fun i σ H' => ∃ s3 s4 qs, σ = [some (.ref a), some (.ref l), some (.ref S), s3, s4] ∧ Same H H' ∧ H' S = some (.lst (qs.map fun n : Nat => V.int (n : Int))) ∧ qs.length = i ∧ Roots rs qs) ⟨none, none, [], rfl, s0, upd_same, rfl, fun m q e => by simp at e⟩ ?_ ?_ ?_
    · rintro i σ H1 _ ⟨_, _, _, _, s1, _⟩
      exact sqt_ext (same_ext s1) hs
    · rintro i x σ H1 Tp hx ⟨s3, s4, qs, rfl, s1, hS1, hql, hroots⟩ hTp
      have sT := same_new hTp (.tup [.int (i : Nat), x])
      refine ⟨Tp, _, rfl, SqT.of upd_same, rfl, _, _, rfl, _, _, rfl, rfl, ?_⟩
      have hS2 := sT _ _ hS1
      have s2 := s1.trans sT
      generalize upd H1 Tp (.tup [.int (i : Nat), x]) = H2 at hS2 s2
      have hi : i < rs.length := by rw [← hxl]; exact (List.getElem?_eq_some_iff.mp hx).1
      obtain ⟨r, er⟩ : ∃ r, rs[i]? = some r := ⟨_, List.getElem?_eq_getElem hi⟩
      obtain ⟨p, ep, hp⟩ := fts_get hf er
      rw [hx] at ep
      cases ep
      have hp2 := sqt_ext (same_ext s2) hp
      have vr := hv i r er
      have sm : (qs.map fun n : Nat => V.int (n : Int)).length < sizeLine := Nat.lt_of_le_of_lt (show _ ≤ 4000 by rw [List.length_map]; omega) (by decide)
      have done : ∀ {s3 s4 : Option V} (z : Nat), Root rs i z → ∃ s3' s4' qs', ([some (.ref a), some (.ref l), some (.ref S), s3, s4] : L2.St) = [some (.ref a), some (.ref l), some (.ref S), s3', s4'] ∧ Same H (upd H2 S (.lst ((qs.map fun n : Nat => V.int (n : Int)) ++ [.int (z : Int)]))) ∧ upd H2 S (.lst ((qs.map fun n : Nat => V.int (n : Int)) ++ [.int (z : Int)])) S = some (.lst (qs'.map fun n : Nat => V.int (n : Int))) ∧ qs'.length = i + 1 ∧ Roots rs qs' := fun {s3 s4} z hz => by
        refine ⟨_, _, qs ++ [z], rfl, fun p o h => ?_, ?_, by rw [List.length_append, hql]; rfl, hroots.snoc (by rw [hql]; exact hz)⟩
        · have : p ≠ S := fun z => by rw [z, hS] at h; cases h
          rw [upd_ne this]
          exact s2 p o h
        · rw [List.map_append]
          exact upd_same
      have self : ∀ (h : ∀ i' j', rs[i]? = some (.pair i' j') → 0 < (szs rs).getD i' 0 ∧ 0 < (szs rs).getD j' 0), Root rs i i := fun h => ⟨Nat.le_refl _, rfl, fun hp => ⟨hi, hp, h⟩⟩
      have other : (∀ y z, r ≠ .pair y z) → Root rs i i := fun h => self fun i' j' e => absurd (Option.some.inj (er.symm.trans e)) (h i' j')
      cases r with
      | none =>
        refine ⟨_, rfl, _, _, _, _, rfl, rfl, hp2, at0 _ _, rfl, _, rfl, ?_⟩
        rw [dec_str, decide_eq_false (by decide)]
        refine iteF (iteF ⟨_, rfl, _, _, _, _, rfl, rfl, hp2, at0 _ _, rfl, _, rfl, ?_⟩)
        rw [dec_str, decide_eq_false (by decide)]
        exact iteF (iteF ⟨_, rfl, .inl ⟨rfl, _, SqL.of hS2⟩, _, rfl, S, _, _, rfl, rfl, hS2, sm, done i (other fun _ _ h => by cases h)⟩)
      | letter y =>
        refine ⟨_, rfl, _, _, _, _, rfl, rfl, hp2, at0 _ _, rfl, _, rfl, ?_⟩
        rw [dec_str, decide_eq_false (by decide)]
        refine iteF (iteF ⟨_, rfl, _, _, _, _, rfl, rfl, hp2, at0 _ _, rfl, _, rfl, ?_⟩)
        rw [dec_str, decide_eq_false (by decide)]
        exact iteF (iteF ⟨_, rfl, .inl ⟨rfl, _, SqL.of hS2⟩, _, rfl, S, _, _, rfl, rfl, hS2, sm, done i (other fun _ _ h => by cases h)⟩)
      | power y z =>
        refine ⟨_, rfl, _, _, _, _, rfl, rfl, hp2, at0 _ _, rfl, _, rfl, ?_⟩
        rw [dec_str, decide_eq_false (by decide)]
        refine iteF (iteF ⟨_, rfl, _, _, _, _, rfl, rfl, hp2, at0 _ _, rfl, _, rfl, ?_⟩)
        rw [dec_str, decide_eq_false (by decide)]
        exact iteF (iteF ⟨_, rfl, .inl ⟨rfl, _, SqL.of hS2⟩, _, rfl, S, _, _, rfl, rfl, hS2, sm, done i (other fun _ _ h => by cases h)⟩)
      | pair y z =>
        have vy := vr.1
        have vz := vr.2
        have hl3 := s2 _ _ hl2
        obtain ⟨qy, hqy⟩ : ∃ q, qs[y]? = some q := ⟨_, List.getElem?_eq_getElem (by omega)⟩
        obtain ⟨qz, hqz⟩ : ∃ q, qs[z]? = some q := ⟨_, List.getElem?_eq_getElem (by omega)⟩
        have ry := hroots y qy hqy
        have rz := hroots z qz hqz
        have by0 := gd_b hb y
        have bz0 := gd_b hb z
        have hsz : (szs rs).getD i 0 = (szs rs).getD y 0 + (szs rs).getD z 0 := sz_at hv er
        have hwd := wd_pair hv er
        refine ⟨_, rfl, _, _, _, _, rfl, rfl, hp2, at0 _ _, rfl, _, rfl, ?_⟩
        rw [dec_str, decide_eq_true rfl]
        refine iteT ⟨_, rfl, _, rfl, _, _, _, _, rfl, rfl, hp2, at1 _ _ _, l, _, _, _, rfl, rfl, SqL.of hl3, atI_getD (by omega), rfl, _, rfl, ?_⟩
        rw [dec_int]
        by_cases cy : (szs rs).getD y 0 = 0
        · rw [decide_eq_true cy]
          refine iteT ⟨_, rfl, .inl ⟨rfl, _, SqL.of hS2⟩, _, rfl, _, rfl, _, _, _, _, rfl, rfl, hp2, at2 _ _ _ _, S, _, _, _, rfl, rfl, SqL.of hS2, atI_nats hqz, S, _, _, rfl, rfl, hS2, sm, done qz ⟨by have := rz.le; omega, ?_, fun hp => rz.ok (by omega)⟩⟩
          rw [hwd, wd_zero hv (by omega) cy, List.nil_append]
          exact rz.wd
        · rw [decide_eq_false cy]
          refine iteF ⟨_, rfl, _, _, _, _, rfl, rfl, hp2, at0 _ _, rfl, _, rfl, ?_⟩
          rw [dec_str, decide_eq_true rfl]
          refine iteT ⟨_, rfl, _, rfl, _, _, _, _, rfl, rfl, hp2, at2 _ _ _ _, l, _, _, _, rfl, rfl, SqL.of hl3, atI_getD (by omega), rfl, _, rfl, ?_⟩
          rw [dec_int]
          by_cases cz : (szs rs).getD z 0 = 0
          · rw [decide_eq_true cz]
            refine iteT ⟨_, rfl, .inl ⟨rfl, _, SqL.of hS2⟩, _, rfl, _, rfl, _, _, _, _, rfl, rfl, hp2, at1 _ _ _, S, _, _, _, rfl, rfl, SqL.of hS2, atI_nats hqy, S, _, _, rfl, rfl, hS2, sm, done qy ⟨by have := ry.le; omega, ?_, fun hp => ry.ok (by omega)⟩⟩
            rw [hwd, wd_zero hv (by omega) cz, List.append_nil]
            exact ry.wd
          · rw [decide_eq_false cz]
            refine iteF ⟨_, rfl, .inl ⟨rfl, _, SqL.of hS2⟩, _, rfl, S, _, _, rfl, rfl, hS2, sm, done i (self fun i' j' e => ?_)⟩
            cases er.symm.trans e
            exact ⟨by omega, by omega⟩
    · rintro σ H1 ⟨s3, s4, qs, rfl, s1, hS1, hql, hroots⟩
      exact ⟨_, rfl, q S qs H1 s1 hS1 (by omega) hroots⟩
end
end K35


set_option Elab.async false
set_option linter.all false
set_option maxRecDepth 100000
set_option maxHeartbeats 8000000
namespace K35
open PySem PySem.Spec PyProof.Rows L2
def mu (rs : List Rl) (qs : List Nat) : Nat := (qs.map fun q => 2 * (WD rs q).length - 1).sum
def restW (rs : List Rl) (qs : List Nat) : List Int := (qs.reverse.map (WD rs)).flatten
theorem restW_snoc (rs : List Rl) (qs : List Nat) (q : Nat) : restW rs (qs ++ [q]) = WD rs q ++ restW rs qs := by
  unfold restW
  rw [List.reverse_append, List.map_append, List.flatten_append]
  simp
theorem mu_snoc (rs : List Rl) (qs : List Nat) (q : Nat) : mu rs (qs ++ [q]) = mu rs qs + (2 * (WD rs q).length - 1) := by
  unfold mu
  rw [List.map_append, List.sum_append]
  simp
theorem good_len {rs : List Rl} (hv : Valid rs) {q : Nat} (h : Good rs q) : 1 ≤ (WD rs q).length := by
  have := wd_size hv h.1
  have := h.2.1
  omega
theorem restW_len {rs : List Rl} (hv : Valid rs) : ∀ {qs : List Nat}, (∀ q ∈ qs, Good rs q) → qs.length ≤ (restW rs qs).length
  | [], _ => Nat.zero_le _
  | q :: qs, h => by
    have ih := restW_len hv (qs := qs) fun x hx => h x (List.mem_cons_of_mem _ hx)
    have g := good_len hv (h q List.mem_cons_self)
    unfold restW at ih ⊢
    rw [List.reverse_cons, List.map_append, List.flatten_append, List.length_append, List.length_cons]
    have e : (List.map (WD rs) [q]).flatten.length = (WD rs q).length := by simp
    rw [e]
    omega
theorem restW_rep (rs : List Rl) (qs : List Nat) (q : Nat) : ∀ k : Nat, restW rs (qs ++ List.replicate k q) = (List.replicate k (WD rs q)).flatten ++ restW rs qs
  | 0 => by simp
  | k + 1 => by
    rw [List.replicate_succ', ← List.append_assoc, restW_snoc, restW_rep rs qs q k, List.replicate_succ, List.flatten_cons, List.append_assoc]
theorem mu_rep (rs : List Rl) (qs : List Nat) (q : Nat) : ∀ k : Nat, mu rs (qs ++ List.replicate k q) = mu rs qs + k * (2 * (WD rs q).length - 1)
  | 0 => by simp
  | k + 1 => by
    rw [List.replicate_succ', ← List.append_assoc, mu_snoc, mu_rep rs qs q k, Nat.add_assoc]
    congr 1
    exact (Nat.succ_mul k _).symm
theorem mu_less {k t : Nat} (hk : 2 ≤ k) (ht : 1 ≤ t) : k * (2 * t - 1) < 2 * (k * t) - 1 := by
  obtain ⟨s, rfl⟩ : ∃ s, t = s + 1 := ⟨t - 1, by omega⟩
  have e1 : 2 * (s + 1) - 1 = 2 * s + 1 := by omega
  have e2 : k * (2 * s + 1) + k = 2 * (k * (s + 1)) := by
    rw [← Nat.mul_succ, Nat.mul_left_comm]
    congr 1
  rw [e1]
  omega
/-- what spelled tells -/
def SpellR (rs : List Rl) (v : V) (H : Hp) : Prop := if 4000 < (szs rs).getD (rs.length - 1) 0 then v = .non else ∃ p, v = .ref p ∧ H p = some (.tup ((WD rs (rs.length - 1)).map V.int))
section
variable {P : Program} {w : World} {K : PySem.W.Frag} {mg : Str → Option Value} {base : Heap}
def spSpelled (K : PySem.W.Frag) (T : Addr) : Sp := fun vs H Q _ => ∃ (a : Addr) (rs : List Rl), vs = [.ref a] ∧ TX K H a rs ∧ Valid rs ∧ 1 ≤ rs.length ∧ rs.length ≤ 4000 ∧ SzB rs ∧ GxR.TabG H T ∧ ∀ v H', Keep T H H' → SpellR rs v H' → Q v H'
def spWO (K : PySem.W.Frag) : Sp := fun vs H Q _ => ∃ (a l : Addr) (rs : List Rl), vs = [.ref a, .ref l] ∧ TX K H a rs ∧ Valid rs ∧ 1 ≤ rs.length ∧ rs.length ≤ 4000 ∧ SzB rs ∧ H l = some (.lst ((szs rs).map V.int)) ∧ ¬ (4000 : Int) < (szs rs).getD (rs.length - 1) 0 ∧ ∀ p H', Same H H' → H' p = some (.lst ((WD rs (rs.length - 1)).map V.int)) → Q (.ref p) H'
theorem sc_written_out : FnScope ["text", "sizes", "roots", "word", "waiting", "rule"] ["text", "sizes"] (C8.fnScope (topS 20)) := C8.fnScope_by (by decide +kernel)
theorem ok_written_out {f : Addr} {fd : FuncData} (F : C8.Def K mg "written_out" (topS 20) f fd) (b : Binds K fd ["text", "sizes"] []) (B : Bl mg) (c__same_words : C8.Cal P w K mg base 1 "_same_words" (spRoots K) []) : C8.Cal P w K mg base 2 "written_out" (spWO K) [] := by
  refine C8.cal0 F b .nil sc_written_out ?len ?body
  case len => rintro vs H Q E ⟨a, l, rs, rfl, _⟩; rfl
  case body =>
    rintro cdv A outer s H2 vs Q E hr ⟨a, l, rs, rfl, tx2, hv, h1, h2, hb, hl2, c1, q⟩
    refine ⟨_, (pss_cons (ps_if (pt_cmpR op_eq (pe_ix ix_list (pv 1) (pe_un un_neg pe_int) (fun _ _ => rfl)) pe_int (nomark _)) (pss_one (ps_ret (pe_lst pa_nil))) pss_nil)
    (pss_cons (ps_set (i := 2) sc_written_out.nd rfl (Or.inl rfl) (C8.pe_c c__same_words hr (by decide) rfl (pa_cons (pv 0) (pa_cons (pv 1) pa_nil))))
    (pss_cons (ps_set (i := 3) sc_written_out.nd rfl (Or.inl rfl) (pe_lst pa_nil))
    (pss_cons (ps_set (i := 4) sc_written_out.nd rfl (Or.inl rfl) (pe_lst (pa_cons (pe_ix ix_list (pv 2) (pe_un un_neg pe_int) (fun _ _ => rfl)) pa_nil)))
    (pss_cons (ps_while PassesOwn.never (pt_truth (pv 4) (by intro _; rfl)) (pss_cons (ps_set (i := 5) sc_written_out.nd rfl (Or.inl rfl) (pe_ix ix_tup (pv 0) (pe_bm0 PySem.F.plainAttrs_list PySem.F.slot_list_pop PySem.F.type_list_pop mt_pop (pv 4)) (fun _ _ => rfl)))
    (pss_one (ps_if (pt_cmpR op_eq (pe_ix ix_tup (pv 5) pe_int (fun _ _ => rfl)) pe_str (nomark _)) (pss_one (ps_expr (pe_bm PySem.F.plainAttrs_list PySem.F.slot_list_append PySem.F.type_list_append mt_append (pv 3) (pa_cons (pe_ix ix_tup (pv 5) pe_int (fun _ _ => rfl)) pa_nil)))) (pss_one (ps_if (pt_cmpR op_eq (pe_ix ix_tup (pv 5) pe_int (fun _ _ => rfl)) pe_str (nomark _)) (pss_one (ps_expr (pe_bm PySem.F.plainAttrs_list PySem.F.slot_list_extend PySem.F.type_list_extend mt_extend (pv 4) (pa_cons (pe_lst (pa_cons (pe_ix ix_list (pv 2) (pe_ix ix_tup (pv 5) pe_int (fun _ _ => rfl)) (fun _ _ => rfl)) (pa_cons (pe_ix ix_list (pv 2) (pe_ix ix_tup (pv 5) pe_int (fun _ _ => rfl)) (fun _ _ => rfl)) pa_nil))) pa_nil)))) (pss_one (ps_expr (pe_bm PySem.F.plainAttrs_list PySem.F.slot_list_extend PySem.F.type_list_extend mt_extend (pv 4) (pa_cons (pe_op op_rep (pe_lst (pa_cons (pe_ix ix_list (pv 2) (pe_ix ix_tup (pv 5) pe_int (fun _ _ => rfl)) (fun _ _ => rfl)) pa_nil)) (pe_ix ix_tup (pv 5) pe_int (fun _ _ => rfl))) pa_nil))))))))))
    (pss_one (ps_ret (pv 3)))))))), ?_⟩
    have hsl : (szs rs).length = rs.length := szs_len rs
    have lastS : atI ((szs rs).map V.int) (-1) = some (.int ((szs rs).getD (rs.length - 1) 0)) := by
      apply atI_last
      rw [List.length_map, hsl, List.getElem?_map, List.getElem?_eq_getElem (by omega), List.getD_eq_getElem?_getD, List.getElem?_eq_getElem (by omega)]
      rfl
    refine ⟨_, rfl, 1, rfl, l, _, _, _, rfl, rfl, SqL.of hl2, lastS, rfl, _, rfl, ?_⟩
    rw [dec_int]
    have wl := wd_size hv (n := rs.length - 1) (by omega)
    by_cases c2 : (szs rs).getD (rs.length - 1) 0 = 0
    · rw [decide_eq_true c2]
      refine iteT ⟨(by show 0 ≤ sizeLine; decide), fun p hp => ?_⟩
      refine q _ _ (same_new hp (.lst [])) ?_
      rw [wd_zero hv (by omega) c2]
      exact upd_same
    rw [decide_eq_false c2]
    refine iteF ?_
    have b0 := (gd_b hb (rs.length - 1)).1
    refine ⟨_, rfl, _, rfl, a, l, rs, rfl, tx2, hv, h2, hb, hl2, fun r qs0 H3 s3 hr3 hql hroots => ?_⟩
    refine ⟨(by show 0 ≤ sizeLine; decide), fun Wd hWd => ?_⟩
    have s4 := same_new hWd (.lst [])
    obtain ⟨q0, hq0⟩ : ∃ q, qs0[rs.length - 1]? = some q := ⟨_, List.getElem?_eq_getElem (by omega)⟩
    have root0 := hroots _ _ hq0
    have lastR : atI (qs0.map fun n : Nat => V.int (n : Int)) (-1) = some (.int (q0 : Int)) := by
      apply atI_last
      rw [List.length_map, hql, List.getElem?_map, hq0]
      rfl
    refine ⟨_, rfl, 1, rfl, r, _, _, _, rfl, rfl, SqL.of (s4 _ _ hr3), lastR, (by show 1 ≤ sizeLine; decide), fun Wt hWt => ?_⟩
    have s5 := same_new hWt (.lst [.int (q0 : Int)])
    have hWd5 := s5 _ _ (upd_same (H := H3) (a := Wd) (o := HO.lst []))
    have nWW : Wd ≠ Wt := fun z => by rw [← z, upd_same] at hWt; cases hWt
    have hWt3 : H3 Wt = none := by rw [upd_ne (Ne.symm nWW)] at hWt; exact hWt
    have tx3 := tx2.same s3
    obtain ⟨xs, hs, hf⟩ := tx3.ex
    have hxl : xs.length = rs.length := by rw [fts_len hf, List.length_map]
    have inv0 : ∃ (ws : List Int) (qs : List Nat) (t5 : Option V), mu rs [q0] = mu rs qs ∧ ([some (.ref a), some (.ref l), some (.ref r), some (.ref Wd), some (.ref Wt), none] : L2.St) = [some (.ref a), some (.ref l), some (.ref r), some (.ref Wd), some (.ref Wt), t5] ∧ Same H3 (upd (upd H3 Wd (.lst [])) Wt (.lst [.int (q0 : Int)])) ∧ (upd (upd H3 Wd (.lst [])) Wt (.lst [.int (q0 : Int)])) Wd = some (.lst (ws.map V.int)) ∧ (upd (upd H3 Wd (.lst [])) Wt (.lst [.int (q0 : Int)])) Wt = some (.lst (qs.map fun n : Nat => V.int (n : Int))) ∧ (∀ q ∈ qs, Good rs q) ∧ ws ++ restW rs qs = WD rs (rs.length - 1) := by
      refine ⟨[], [q0], none, rfl, rfl, s4.trans s5, hWd5, upd_same, fun q hq => ?_, ?_⟩
      · cases List.mem_singleton.mp hq
        exact root0.ok (by omega)
      · have := restW_snoc rs [] q0
        rw [List.nil_append] at this
        rw [List.nil_append, this, root0.wd]
        simp [restW]
    refine ⟨fun m σ H' => ∃ (ws : List Int) (qs : List Nat) (t5 : Option V), m = mu rs qs ∧ σ = [some (.ref a), some (.ref l), some (.ref r), some (.ref Wd), some (.ref Wt), t5] ∧ Same H3 H' ∧ H' Wd = some (.lst (ws.map V.int)) ∧ H' Wt = some (.lst (qs.map fun n : Nat => V.int (n : Int))) ∧ (∀ q ∈ qs, Good rs q) ∧ ws ++ restW rs qs = WD rs (rs.length - 1), ⟨mu rs [q0], inv0⟩, ?_⟩
    rintro m σ H6 ⟨ws, qs, t5, rfl, rfl, s6, hWd6, hWt6, good, htot⟩
    refine ⟨_, rfl, _, .inl ⟨_, SqL.of hWt6, rfl⟩, ?_⟩
    have hs6 := sqt_ext (same_ext s6) hs
    rcases List.eq_nil_or_concat qs with rfl | ⟨qs', q1, rfl⟩
    · refine iteF ?_
      refine ⟨_, rfl, q _ _ (s3.trans s6) ?_⟩
      rw [← htot, show restW rs [] = [] from rfl, List.append_nil]
      exact hWd6
    · rw [List.concat_eq_append] at hWt6 good htot ⊢
      rw [show (!(List.map (fun n : Nat => V.int (n : Int)) (qs' ++ [q1])).isEmpty) = true by simp]
      have g1 := good q1 (by simp)
      have g1l := good_len hv g1
      have tlen : ws.length + ((WD rs q1).length + (restW rs qs').length) ≤ 4000 := by
        have := congrArg List.length htot
        rw [List.length_append, restW_snoc, List.length_append] at this
        omega
      have rl := restW_len hv (qs := qs') fun x hx => good x (List.mem_append_left _ hx)
      rw [restW_snoc] at htot
      refine iteT ⟨fun σ' H' => ∃ (ws : List Int) (qs : List Nat) (t5 : Option V), mu rs qs < mu rs (qs' ++ [q1]) ∧ σ' = [some (.ref a), some (.ref l), some (.ref r), some (.ref Wd), some (.ref Wt), t5] ∧ Same H3 H' ∧ H' Wd = some (.lst (ws.map V.int)) ∧ H' Wt = some (.lst (qs.map fun n : Nat => V.int (n : Int))) ∧ (∀ q ∈ qs, Good rs q) ∧ ws ++ restW rs qs = WD rs (rs.length - 1), ?_, ?_⟩
      · rintro σ' H' ⟨ws2, qs2, t6, hm, e1, e2, e3, e4, e5, e6⟩
        exact ⟨_, hm, ws2, qs2, t6, rfl, e1, e2, e3, e4, e5, e6⟩
      obtain ⟨rl, er⟩ : ∃ r, rs[q1]? = some r := ⟨_, List.getElem?_eq_getElem g1.1⟩
      obtain ⟨p, ep, hp⟩ := fts_get hf er
      have hp6 := sqt_ext (same_ext s6) hp
      have vr := hv q1 rl er
      have hmap : (List.map (fun n : Nat => V.int (n : Int)) (qs' ++ [q1])) = (List.map (fun n : Nat => V.int (n : Int)) qs') ++ [.int (q1 : Int)] := by rw [List.map_append]; rfl
      rw [hmap] at hWt6
      refine ⟨_, rfl, _, rfl, .inl ⟨rfl, _, SqL.of hWt6⟩, Wt, _, .int (q1 : Int), rfl, rfl, hWt6, by simp, ?_⟩
      rw [List.dropLast_concat]
      have hN : ∀ {p : Addr} {o : HO}, H3 p = some o → p ≠ Wd ∧ p ≠ Wt := fun {p} {o} h => by
        constructor
        · rintro rfl; rw [hWd] at h; cases h
        · rintro rfl; rw [hWt3] at h; cases h
      have s7 : Same H3 (upd H6 Wt (.lst (qs'.map fun n : Nat => V.int (n : Int)))) := fun p o h => by rw [upd_ne (hN h).2]; exact s6 p o h
      have hWt7 : upd H6 Wt (.lst (qs'.map fun n : Nat => V.int (n : Int))) Wt = some (.lst (qs'.map fun n : Nat => V.int (n : Int))) := upd_same
      have hWd7 : upd H6 Wt (.lst (qs'.map fun n : Nat => V.int (n : Int))) Wd = some (.lst (ws.map V.int)) := by rw [upd_ne nWW]; exact hWd6
      generalize upd H6 Wt (.lst (qs'.map fun n : Nat => V.int (n : Int))) = H7 at s7 hWt7 hWd7
      have hs7 := sqt_ext (same_ext s7) hs
      have hp7 := sqt_ext (same_ext s7) hp
      have hr7 := s7 _ _ hr3
      refine ⟨a, xs, _, _, rfl, rfl, hs7, atI_nat ep, ?_⟩
      have good' : ∀ x ∈ qs', Good rs x := fun x hx => good x (List.mem_append_left _ hx)
      have lq : qs'.length ≤ 4000 := by omega
      have lw : (ws.map V.int).length ≤ 4000 := by rw [List.length_map]; omega
      cases rl with
      | none =>
        have := wd_none er
        rw [this] at g1l
        simp at g1l
      | letter y =>
        have hw := wd_letter er
        refine ⟨_, rfl, _, _, _, _, rfl, rfl, hp7, at0 _ _, rfl, _, rfl, ?_⟩
        rw [dec_str, decide_eq_true rfl]
        refine iteT ⟨_, rfl, .inl ⟨rfl, _, SqL.of hWd7⟩, _, rfl, _, _, _, _, rfl, rfl, hp7, at1 _ _ _, Wd, _, _, rfl, rfl, hWd7, Nat.lt_of_le_of_lt lw (by decide), ?_⟩
        refine ⟨ws ++ [y], qs', _, ?_, rfl, fun p o h => ?_, ?_, ?_, good', ?_⟩
        · rw [mu_snoc]; omega
        · rw [upd_ne (hN h).1]; exact s7 p o h
        · rw [List.map_append]; exact upd_same
        · rw [upd_ne (Ne.symm nWW)]; exact hWt7
        · rw [← htot, hw, List.append_assoc]
      | pair y z =>
        have hw := wd_pair hv er
        have gp := g1.2.2 y z er
        have l1 := g1.1
        have v1 := vr.1
        have v2 := vr.2
        obtain ⟨qy, hqy⟩ : ∃ q, qs0[y]? = some q := ⟨_, List.getElem?_eq_getElem (by omega)⟩
        obtain ⟨qz, hqz⟩ : ∃ q, qs0[z]? = some q := ⟨_, List.getElem?_eq_getElem (by omega)⟩
        have ry := hroots y qy hqy
        have rz := hroots z qz hqz
        have gy := ry.ok gp.1
        have gz := rz.ok gp.2
        have gyl := good_len hv gy
        have gzl := good_len hv gz
        have hwl := congrArg List.length hw
        rw [List.length_append, ← ry.wd, ← rz.wd] at hwl
        refine ⟨_, rfl, _, _, _, _, rfl, rfl, hp7, at0 _ _, rfl, _, rfl, ?_⟩
        rw [dec_str, decide_eq_false (by decide)]
        refine iteF ⟨_, rfl, _, _, _, _, rfl, rfl, hp7, at0 _ _, rfl, _, rfl, ?_⟩
        rw [dec_str, decide_eq_true rfl]
        refine iteT ⟨_, rfl, .inl ⟨rfl, _, SqL.of hWt7⟩, ?_⟩
        refine ⟨_, rfl, _, rfl, _, _, _, _, rfl, rfl, hp7, at2 _ _ _ _, r, _, _, _, rfl, rfl, SqL.of hr7, atI_nats hqz, ?_⟩
        refine ⟨_, rfl, _, rfl, _, _, _, _, rfl, rfl, hp7, at1 _ _ _, r, _, _, _, rfl, rfl, SqL.of hr7, atI_nats hqy, (by show 2 ≤ sizeLine; decide), fun q9 hq9 => ?_⟩
        have s8 := same_new hq9 (.lst [.int (qz : Int), .int (qy : Int)])
        refine ⟨Wt, q9, _, _, rfl, rfl, s8 _ _ hWt7, upd_same, Nat.le_trans (show _ ≤ 4002 by rw [List.length_map]; simp only [List.length_cons, List.length_nil]; omega) (by decide), ?_⟩
        refine ⟨ws, qs' ++ [qz] ++ [qy], _, ?_, rfl, fun p o h => ?_, ?_, ?_, fun x hx => ?_, ?_⟩
        · rw [mu_snoc, mu_snoc, mu_snoc]; omega
        · rw [upd_ne (hN h).2]; exact s8 _ _ (s7 p o h)
        · rw [upd_ne nWW]; exact s8 _ _ hWd7
        · rw [List.map_append, List.map_append, List.append_assoc]; exact upd_same
        · rcases List.mem_append.mp hx with hx | hx
          · rcases List.mem_append.mp hx with hx | hx
            · exact good' x hx
            · cases List.mem_singleton.mp hx; exact gz
          · cases List.mem_singleton.mp hx; exact gy
        · rw [restW_snoc, restW_snoc, ry.wd, rz.wd, ← htot, hw, List.append_assoc]
      | power y z =>
        have hw := wd_power hv er
        have l1 := g1.1
        have v1 := vr.1
        have v2 := vr.2.1
        have sz := sz_at hv er
        have sp := g1.2.1
        rw [sz] at sp
        have sp2 : 0 < (szs rs).getD y 0 * z := sp
        have by0 := (gd_b hb y).1
        have pos : 0 < (szs rs).getD y 0 := by
          rcases Int.lt_or_eq_of_le by0 with h | h
          · exact h
          · rw [← h, Int.zero_mul] at sp2; omega
        obtain ⟨qy, hqy⟩ : ∃ q, qs0[y]? = some q := ⟨_, List.getElem?_eq_getElem (by omega)⟩
        have ry := hroots y qy hqy
        have gy := ry.ok pos
        have gyl := good_len hv gy
        have hwl := congrArg List.length hw
        rw [flat_len, ← ry.wd] at hwl
        have zk : z.toNat ≤ 4000 := by
          have : z.toNat * 1 ≤ z.toNat * (WD rs qy).length := Nat.mul_le_mul_left _ gyl
          omega
        refine ⟨_, rfl, _, _, _, _, rfl, rfl, hp7, at0 _ _, rfl, _, rfl, ?_⟩
        rw [dec_str, decide_eq_false (by decide)]
        refine iteF ⟨_, rfl, _, _, _, _, rfl, rfl, hp7, at0 _ _, rfl, _, rfl, ?_⟩
        rw [dec_str, decide_eq_false (by decide)]
        refine iteF ⟨_, rfl, .inl ⟨rfl, _, SqL.of hWt7⟩, ?_⟩
        refine ⟨_, rfl, _, rfl, _, _, _, _, rfl, rfl, hp7, at1 _ _ _, r, _, _, _, rfl, rfl, SqL.of hr7, atI_nats hqy, (by show 1 ≤ sizeLine; decide), fun q8 hq8 => ?_⟩
        have s8 := same_new hq8 (.lst [.int (qy : Int)])
        refine ⟨_, rfl, _, _, _, _, rfl, rfl, sqt_ext (same_ext s8) hp7, at2 _ _ _ _, q8, z, _, rfl, rfl, upd_same, by omega, by omega, Nat.le_trans (show _ ≤ 4000 by simp only [List.length_cons, List.length_nil]; omega) (by decide), fun q9 hq9 => ?_⟩
        rw [List.flatten_replicate_singleton]
        have s9 := s8.trans (same_new hq9 (.lst (List.replicate z.toNat (.int (qy : Int)))))
        refine ⟨Wt, q9, _, _, rfl, rfl, s9 _ _ hWt7, upd_same, Nat.le_trans (show _ ≤ 8000 by rw [List.length_map, List.length_replicate]; omega) (by decide), ?_⟩
        refine ⟨ws, qs' ++ List.replicate z.toNat qy, _, ?_, rfl, fun p o h => ?_, ?_, ?_, fun x hx => ?_, ?_⟩
        · rw [mu_snoc, mu_rep, hwl]
          have := mu_less (k := z.toNat) (t := (WD rs qy).length) (by omega) gyl
          omega
        · rw [upd_ne (hN h).2]; exact s9 _ _ (s7 p o h)
        · rw [upd_ne nWW]; exact s9 _ _ hWd7
        · rw [List.map_append, List.map_replicate]; exact upd_same
        · rcases List.mem_append.mp hx with hx | hx
          · exact good' x hx
          · cases List.eq_of_mem_replicate hx; exact gy
        · rw [restW_rep, ry.wd, ← htot, hw]
theorem sc_spelled : FnScope ["text", "sizes"] ["text"] (C8.fnScope (topS 19)) := C8.fnScope_by (by decide +kernel)
theorem fn_spelled {f : Addr} {fd : FuncData} (F : C8.Def K mg "spelled" (topS 19) f fd) (b : Binds K fd ["text"] []) (B : Bl mg) {T : Addr} (hLS : ∃ t, mg "LONGEST_SPELLED" = some (.int 4000 t)) (c_want_straight : C8.Cal P w K mg base 7 "want_straight" (spWant K T) []) (c_rule_sizes : C8.Cal P w K mg base 1 "rule_sizes" (spSizes K) []) (c_written_out : C8.Cal P w K mg base 2 "written_out" (spWO K) []) : FnOk P w K mg base C8.CX0 8 f fd ["text"] (spSpelled K T) := by
  refine C8.fn0 F.fn sc_spelled ?len ?body
  case len => rintro vs H Q E ⟨a, rs, rfl, _⟩; rfl
  case body =>
    obtain ⟨tLS, hLS⟩ := hLS
    rintro cdv A outer s H vs Q E hr ⟨a, rs, rfl, tx, hv, h1, h2, hb, hT, q⟩
    refine ⟨_, (pss_cons (ps_expr (C8.pe_c c_want_straight hr (by decide) rfl (pa_cons (pv 0) pa_nil)))
    (pss_cons (ps_set (i := 1) sc_spelled.nd rfl (Or.inl rfl) (C8.pe_c c_rule_sizes hr (by decide) rfl (pa_cons (pv 0) pa_nil)))
    (pss_cons (ps_if (pt_cmpR op_gt (pe_ix ix_list (pv 1) (pe_un un_neg pe_int) (fun _ _ => rfl)) (pe_glob (v := .int 4000) rfl hLS ⟨_, rfl⟩) (nomark _)) (pss_one (ps_ret pe_non)) pss_nil)
    (pss_one (ps_ret (pe_callTy call_tuple_of rfl B.tuple (by decide +kernel) (pa_cons (C8.pe_c c_written_out hr (by decide) rfl (pa_cons (pv 0) (pa_cons (pv 1) pa_nil))) pa_nil))))))), ?_⟩
    refine ⟨_, rfl, _, _, rfl, tx.dp, straight_ok hv h1 h2, hT, fun H1 k1 => ?_⟩
    refine ⟨_, rfl, a, rs, rfl, tx.ext k1.1, hv, h2, hb, fun l H2 s2 hl hl2 => ?_⟩
    have tx2 := (tx.ext k1.1).same s2
    have k2 : Keep T H H2 := ⟨k1.1.trans (same_ext s2), tab_same s2 k1.2⟩
    have hsl : (szs rs).length = rs.length := szs_len rs
    have lastS : atI ((szs rs).map V.int) (-1) = some (.int ((szs rs).getD (rs.length - 1) 0)) := by
      apply atI_last
      rw [List.length_map, hsl, List.getElem?_map, List.getElem?_eq_getElem (by omega), List.getD_eq_getElem?_getD, List.getElem?_eq_getElem (by omega)]
      rfl
    refine ⟨_, rfl, 1, rfl, l, _, _, _, rfl, rfl, SqL.of hl2, lastS, _, _, rfl, rfl, _, rfl, ?_⟩
    by_cases c1 : (4000 : Int) < (szs rs).getD (rs.length - 1) 0
    · rw [decide_eq_true c1]
      exact iteT (q _ _ k2 (by unfold SpellR; rw [if_pos c1]))
    rw [decide_eq_false c1]
    refine iteF ?_
    refine ⟨_, rfl, _, rfl, a, l, rs, rfl, tx2, hv, h1, h2, hb, hl2, c1, fun p H3 s3 hp3 => ?_⟩
    refine ⟨p, _, rfl, .inl ⟨SqL.of hp3, fun p' hp' => ?_⟩⟩
    have s7 := same_new hp' (.tup ((WD rs (rs.length - 1)).map V.int))
    refine q _ _ ⟨k2.1.trans (same_ext (s3.trans s7)), tab_same (s3.trans s7) k2.2⟩ ?_
    unfold SpellR
    rw [if_neg c1]
    exact ⟨p', rfl, upd_same⟩
theorem ok_spelled {f : Addr} {fd : FuncData} (F : C8.Def K mg "spelled" (topS 19) f fd) (b : Binds K fd ["text"] []) (B : Bl mg) {T : Addr} (hLS : ∃ t, mg "LONGEST_SPELLED" = some (.int 4000 t)) (c_want_straight : C8.Cal P w K mg base 7 "want_straight" (spWant K T) []) (c_rule_sizes : C8.Cal P w K mg base 1 "rule_sizes" (spSizes K) []) (c_written_out : C8.Cal P w K mg base 2 "written_out" (spWO K) []) : C8.Cal P w K mg base 8 "spelled" (spSpelled K T) [] :=
  ⟨f, fd, _, _, fn_spelled F b B hLS c_want_straight c_rule_sizes c_written_out, F.mgf, F.kp, b, .nil⟩
end
end K35


set_option Elab.async false
set_option linter.all false
set_option maxRecDepth 100000
set_option maxHeartbeats 8000000
namespace K35
open PySem PySem.Spec PyProof.Rows L2
def bare (rs : List Rl) : List Rl := List.zipWith (fun r z => if z < 4001 then r else Rl.none) rs (szs rs)
theorem bare_len (rs : List Rl) : (bare rs).length = rs.length := by
  unfold bare
  rw [List.length_zipWith, szs_len, Nat.min_self]
theorem bare_at {rs : List Rl} {n : Nat} {r : Rl} (h : rs[n]? = some r) : (bare rs)[n]? = some (if (szs rs).getD n 0 < 4001 then r else Rl.none) := by
  have hn := (List.getElem?_eq_some_iff.mp h).1
  have hs : (szs rs)[n]? = some ((szs rs).getD n 0) := by
    rw [List.getD_eq_getElem?_getD, List.getElem?_eq_getElem (by rw [szs_len]; exact hn)]
    rfl
  unfold bare
  rw [List.getElem?_zipWith, h, hs]
theorem bare_valid {rs : List Rl} (hv : Valid rs) : Valid (bare rs) := by
  intro n r e
  have hn := (List.getElem?_eq_some_iff.mp e).1
  rw [bare_len] at hn
  obtain ⟨r0, e0⟩ : ∃ r, rs[n]? = some r := ⟨_, List.getElem?_eq_getElem hn⟩
  rw [bare_at e0] at e
  cases e
  split
  · exact hv n r0 e0
  · trivial
theorem wd_bare {rs : List Rl} (hv : Valid rs) (hb : SzB rs) : ∀ (N n : Nat), n < N → n < rs.length → WD (bare rs) n = if (szs rs).getD n 0 < 4001 then WD rs n else []
  | 0, _, h, _ => absurd h (Nat.not_lt_zero _)
  | N + 1, n, h, hn => by
    obtain ⟨r, e⟩ : ∃ r, rs[n]? = some r := ⟨_, List.getElem?_eq_getElem hn⟩
    have eb := bare_at e
    by_cases c : (szs rs).getD n 0 < 4001
    · rw [if_pos c] at eb ⊢
      have v := hv n r e
      have sz := sz_at hv e
      cases r with
      | none => rw [wd_none eb, wd_none e]
      | letter x => rw [wd_letter eb, wd_letter e]
      | pair i j =>
        have v1 := v.1
        have v2 := v.2
        have b1 := (gd_b hb i).1
        have b2 := (gd_b hb j).1
        have sz2 : (szs rs).getD n 0 = (szs rs).getD i 0 + (szs rs).getD j 0 := sz
        rw [wd_pair (bare_valid hv) eb, wd_pair hv e, wd_bare hv hb N i (by omega) (by omega), wd_bare hv hb N j (by omega) (by omega), if_pos (by omega), if_pos (by omega)]
      | power i k =>
        have v1 := v.1
        have v2 := v.2.1
        have b1 := (gd_b hb i).1
        have sz2 : (szs rs).getD n 0 = (szs rs).getD i 0 * k := sz
        have le : (szs rs).getD i 0 * 1 ≤ (szs rs).getD i 0 * k := Int.mul_le_mul_of_nonneg_left (by omega) b1
        rw [wd_power (bare_valid hv) eb, wd_power hv e, wd_bare hv hb N i (by omega) (by omega), if_pos (by omega)]
    · rw [if_neg c] at eb ⊢
      exact wd_none eb
theorem wd_bare_len {rs : List Rl} (hv : Valid rs) (hb : SzB rs) {n : Nat} (hn : n < rs.length) : (WD (bare rs) n).length ≤ 4000 := by
  rw [wd_bare hv hb (n + 1) n (by omega) hn]
  split
  · next c =>
    have := wd_size hv hn
    omega
  · exact Nat.zero_le _
theorem dps_ints {K : PySem.W.Frag} {H : Hp} (ns : List Int) : DpAll K H (ns.map V.int) (ns.map PyData.int) := dp_ints ns
/-- words in the heap -/
def WS (K : PySem.W.Frag) (H : Hp) (br : List Rl) (zs : List V) : Prop := ∀ n v, zs[n]? = some v → ∃ p, v = .ref p ∧ SqT K H p ((WD br n).map V.int)
theorem sqt_tk {K : PySem.W.Frag} {H H' : Hp} {p : Addr} {ys : List V} (s : TK H H') (hs : SqT K H p ys) : SqT K H' p ys := by
  rcases hs with (h | ⟨o, h⟩) | h
  · exact .inl (.inl (s _ _ h fun xs z => by cases z))
  · exact .inl (.inr ⟨o, s _ _ h fun xs z => by cases z⟩)
  · exact .inr h
theorem WS.tk {K : PySem.W.Frag} {H H' : Hp} {br : List Rl} {zs : List V} (h : WS K H br zs) (s : TK H H') : WS K H' br zs := fun n v e => by
  obtain ⟨p, rfl, hp⟩ := h n v e
  exact ⟨p, rfl, sqt_tk s hp⟩
theorem WS.snoc {K : PySem.W.Frag} {H : Hp} {br : List Rl} {zs : List V} {p : Addr} (h : WS K H br zs) (hp : SqT K H p ((WD br zs.length).map V.int)) : WS K H br (zs ++ [.ref p]) := by
  intro m x e
  by_cases hm : m < zs.length
  · rw [List.getElem?_append_left hm] at e
    exact h m x e
  · rw [List.getElem?_append_right (by omega)] at e
    have : m - zs.length = 0 := by
      by_cases z : m - zs.length = 0
      · exact z
      · obtain ⟨k, hk⟩ := Nat.exists_eq_succ_of_ne_zero z
        rw [hk] at e
        simp at e
    rw [this] at e
    cases e
    rw [show m = zs.length by omega]
    exact ⟨p, rfl, hp⟩
section
variable {P : Program} {w : World} {K : PySem.W.Frag} {mg : Str → Option Value} {base : Heap}
def spWords (K : PySem.W.Frag) : Sp := fun vs H Q _ => ∃ (a : Addr) (xs : List V) (br : List Rl), vs = [.ref a] ∧ H a = some (.lst xs) ∧ FTs K H xs (br.map Rl.d) ∧ Valid br ∧ br.length ≤ 4000 ∧ (∀ n, n < br.length → (WD br n).length ≤ 4000) ∧
  ∀ r zs H', Same H H' → H' r = some (.lst zs) → zs.length = br.length → WS K H' br zs → Q (.ref r) H'
theorem sc__law_words : FnScope ["rules", "words", "rule"] ["rules"] (C8.fnScope (topS 30)) := C8.fnScope_by (by decide +kernel)
theorem ok__law_words {f : Addr} {fd : FuncData} (F : C8.Def K mg "_law_words" (topS 30) f fd) (b : Binds K fd ["rules"] []) (B : Bl mg)  : C8.Cal P w K mg base 1 "_law_words" (spWords K) [] := by
  refine C8.cal0 F b .nil sc__law_words ?len ?body
  case len => rintro vs H Q E ⟨a, xs, br, rfl, _⟩; rfl
  case body =>
    rintro cdv A outer s H vs Q E hr ⟨a, xs, br, rfl, hs, hf, hv, hlen, hb, q⟩
    refine ⟨_, (pss_cons (ps_set (i := 1) sc__law_words.nd rfl (Or.inl rfl) (pe_lst pa_nil))
    (pss_cons (ps_for PassesOwn.never rfl (pi_list (pv 0)) (pg_name (i := 2) sc__law_words.nd rfl (Or.inl rfl))
    (pss_one (ps_if (pt_cmpR op_eq (pe_ix ix_tup (pv 2) pe_int (fun _ _ => rfl)) pe_str (nomark _)) (pss_one (ps_expr (pe_bm PySem.F.plainAttrs_list PySem.F.slot_list_append PySem.F.type_list_append mt_append (pv 1) (pa_cons (pe_op op_catA (pe_ix ix_list (pv 1) (pe_ix ix_tup (pv 2) pe_int (fun _ _ => rfl)) (fun _ _ => rfl)) (pe_ix ix_list (pv 1) (pe_ix ix_tup (pv 2) pe_int (fun _ _ => rfl)) (fun _ _ => rfl))) pa_nil)))) (pss_one (ps_if (pt_cmpR op_eq (pe_ix ix_tup (pv 2) pe_int (fun _ _ => rfl)) pe_str (nomark _)) (pss_one (ps_expr (pe_bm PySem.F.plainAttrs_list PySem.F.slot_list_append PySem.F.type_list_append mt_append (pv 1) (pa_cons (pe_ifExp (pt_cmpR (op_neD (hr.units)) (pe_ix ix_list (pv 1) (pe_ix ix_tup (pv 2) pe_int (fun _ _ => rfl)) (fun _ _ => rfl)) (pe_tup pa_nil) (nomark _)) (pe_op UG.op_repB (pe_ix ix_list (pv 1) (pe_ix ix_tup (pv 2) pe_int (fun _ _ => rfl)) (fun _ _ => rfl)) (pe_ix ix_tup (pv 2) pe_int (fun _ _ => rfl))) (pe_tup pa_nil)) pa_nil)))) (pss_one (ps_expr (pe_bm PySem.F.plainAttrs_list PySem.F.slot_list_append PySem.F.type_list_append mt_append (pv 1) (pa_cons (pe_slice sl_tupA (pv 2) (po_some pe_int) po_none) pa_nil)))))))))
    (pss_one (ps_ret (pv 1))))), ?_⟩
    have hxl : xs.length = br.length := by rw [fts_len hf, List.length_map]
    refine ⟨(by show 0 ≤ sizeLine; decide), fun S hS => ?_⟩
    have s0 := same_new hS (.lst [])
    refine ⟨_, rfl, a, rfl, ⟨xs, SqL.of (s0 _ _ hs)⟩, ?_⟩
    refine for_list (xs := xs) (fun i σ H' => ∃ t2 zs, σ = [some (.ref a), some (.ref S), t2] ∧ Same H H' ∧ H' S = some (.lst zs) ∧ zs.length = i ∧ WS K H' br zs) ⟨none, [], rfl, s0, upd_same, rfl, fun n v e => by simp at e⟩ ?_ ?_ ?_
    · rintro i σ H1 _ ⟨_, _, _, s1, _⟩
      exact SqL.of (s1 _ _ hs)
    · rintro i x σ H1 hx ⟨t2, zs, rfl, s1, hS1, hzl, ws⟩
      have hi : i < br.length := by rw [← hxl]; exact (List.getElem?_eq_some_iff.mp hx).1
      obtain ⟨r, er⟩ : ∃ r, br[i]? = some r := ⟨_, List.getElem?_eq_getElem hi⟩
      obtain ⟨p, ep, hp⟩ := fts_get hf er
      rw [hx] at ep
      cases ep
      have hp1 := sqt_ext (same_ext s1) hp
      have vr := hv i r er
      have bi := hb i hi
      have done : ∀ {t2 : Option V} {H2 : Hp} (z : Addr), Same H1 H2 → SqT K H2 z ((WD br i).map V.int) → ∃ t2' zs', ([some (.ref a), some (.ref S), t2] : L2.St) = [some (.ref a), some (.ref S), t2'] ∧ Same H (upd H2 S (.lst (zs ++ [.ref z]))) ∧ upd H2 S (.lst (zs ++ [.ref z])) S = some (.lst zs') ∧ zs'.length = i + 1 ∧ WS K (upd H2 S (.lst (zs ++ [.ref z]))) br zs' := fun {t2 H2} z s2 hz => by
        refine ⟨_, _, rfl, fun p o h => ?_, upd_same, by rw [List.length_append, hzl]; rfl, ?_⟩
        · have : p ≠ S := fun z => by rw [z, hS] at h; cases h
          rw [upd_ne this]
          exact s2 _ _ (s1 p o h)
        · have tk : TK H2 (upd H2 S (.lst (zs ++ [.ref z]))) := TK.upd (s2 _ _ hS1)
          exact (ws.tk ((TK.same s2).trans tk)).snoc (by rw [hzl]; exact sqt_tk tk hz)
      have sm : zs.length < sizeLine := Nat.lt_of_le_of_lt (show _ ≤ 4000 by omega) (by decide)
      refine name_of' ?_
      cases r with
      | none =>
        refine ⟨_, rfl, _, _, _, _, rfl, rfl, hp1, at0 _ _, rfl, _, rfl, ?_⟩
        rw [dec_str, decide_eq_false (by decide)]
        refine iteF ⟨_, rfl, _, _, _, _, rfl, rfl, hp1, at0 _ _, rfl, _, rfl, ?_⟩
        rw [dec_str, decide_eq_false (by decide)]
        refine iteF ⟨_, rfl, .inl ⟨rfl, _, SqL.of hS1⟩, _, rfl, 1, rfl, p, _, rfl, hp1, fun z => absurd z (whole1 _ _), fun _ t ht => ?_⟩
        have sT := same_new ht (.tup (cutV [.str "none"] (some 1) none))
        refine ⟨S, _, _, rfl, rfl, sT _ _ hS1, sm, done t sT ?_⟩
        rw [wd_none er]
        refine SqT.of (upd_same.trans ?_)
        show some (HO.tup (cutV [V.str "none"] (some 1) none)) = _
        rw [cut1]
        rfl
      | letter y =>
        refine ⟨_, rfl, _, _, _, _, rfl, rfl, hp1, at0 _ _, rfl, _, rfl, ?_⟩
        rw [dec_str, decide_eq_false (by decide)]
        refine iteF ⟨_, rfl, _, _, _, _, rfl, rfl, hp1, at0 _ _, rfl, _, rfl, ?_⟩
        rw [dec_str, decide_eq_false (by decide)]
        refine iteF ⟨_, rfl, .inl ⟨rfl, _, SqL.of hS1⟩, _, rfl, 1, rfl, p, _, rfl, hp1, fun z => absurd z (whole1 _ _), fun _ t ht => ?_⟩
        have sT := same_new ht (.tup (cutV [.str "letter", .int y] (some 1) none))
        refine ⟨S, _, _, rfl, rfl, sT _ _ hS1, sm, done t sT ?_⟩
        rw [wd_letter er]
        refine SqT.of (upd_same.trans ?_)
        show some (HO.tup (cutV [V.str "letter", V.int y] (some 1) none)) = _
        rw [cut1]
        rfl
      | pair y z =>
        have v1 := vr.1
        have v2 := vr.2
        obtain ⟨vy, ey⟩ : ∃ q, zs[y]? = some q := ⟨_, List.getElem?_eq_getElem (by omega)⟩
        obtain ⟨vz, ez⟩ : ∃ q, zs[z]? = some q := ⟨_, List.getElem?_eq_getElem (by omega)⟩
        obtain ⟨py, rfl, hpy⟩ := ws y vy ey
        obtain ⟨pz, rfl, hpz⟩ := ws z vz ez
        have hw := wd_pair hv er
        have hwl := congrArg List.length hw
        rw [List.length_append] at hwl
        refine ⟨_, rfl, _, _, _, _, rfl, rfl, hp1, at0 _ _, rfl, _, rfl, ?_⟩
        rw [dec_str, decide_eq_true rfl]
        refine iteT ⟨_, rfl, .inl ⟨rfl, _, SqL.of hS1⟩, ?_⟩
        refine ⟨_, rfl, _, rfl, _, _, _, _, rfl, rfl, hp1, at1 _ _ _, S, _, _, _, rfl, rfl, SqL.of hS1, atI_nat ey, ?_⟩
        refine ⟨_, rfl, _, rfl, _, _, _, _, rfl, rfl, hp1, at2 _ _ _ _, S, _, _, _, rfl, rfl, SqL.of hS1, atI_nat ez, ?_⟩
        refine ⟨py, pz, _, _, rfl, rfl, hpy, hpz, Nat.le_trans (show _ ≤ 4000 by rw [List.length_map, List.length_map]; omega) (by decide), fun h0 => ?_, fun _ h0 => ?_, fun _ _ t ht => ?_⟩
        · refine ⟨S, _, _, rfl, rfl, hS1, sm, done pz (Same.refl _) ?_⟩
          rw [hw, List.map_append, h0, List.nil_append]
          exact hpz
        · refine ⟨S, _, _, rfl, rfl, hS1, sm, done py (Same.refl _) ?_⟩
          rw [hw, List.map_append, h0, List.append_nil]
          exact hpy
        · have sT := same_new ht (.tup ((WD br y).map V.int ++ (WD br z).map V.int))
          refine ⟨S, _, _, rfl, rfl, sT _ _ hS1, sm, done t sT ?_⟩
          rw [hw, List.map_append]
          exact SqT.of upd_same
      | power y z =>
        have v1 := vr.1
        have v2 := vr.2.1
        obtain ⟨vy, ey⟩ : ∃ q, zs[y]? = some q := ⟨_, List.getElem?_eq_getElem (by omega)⟩
        obtain ⟨py, rfl, hpy⟩ := ws y vy ey
        have hw := wd_power hv er
        have hwl := congrArg List.length hw
        rw [flat_len] at hwl
        refine ⟨_, rfl, _, _, _, _, rfl, rfl, hp1, at0 _ _, rfl, _, rfl, ?_⟩
        rw [dec_str, decide_eq_false (by decide)]
        refine iteF ⟨_, rfl, _, _, _, _, rfl, rfl, hp1, at0 _ _, rfl, _, rfl, ?_⟩
        rw [dec_str, decide_eq_true rfl]
        refine iteT ⟨_, rfl, .inl ⟨rfl, _, SqL.of hS1⟩, ?_⟩
        refine ⟨_, rfl, _, rfl, _, _, _, _, rfl, rfl, hp1, at1 _ _ _, S, _, _, _, rfl, rfl, SqL.of hS1, atI_nat ey, (by show 0 ≤ sizeLine; decide), fun t ht => ?_⟩
        have sT := same_new ht (.tup [])
        have hpyT := sqt_ext (same_ext sT) hpy
        refine ⟨.tuple ((WD br y).map PyData.int), .tuple [], .tup hpyT (dps_ints _), .tup (SqT.of upd_same) .nil, OkN.shaped (n := 2) (ok_tup.mpr fun d hd => ?_) (by decide), by decide +kernel, _, rfl, ?_⟩
        · obtain ⟨i, _, rfl⟩ := List.mem_map.mp hd
          exact ok_int _ _
        rw [eqv_nilT]
        have s1T := s1.trans sT
        have hS2 := sT _ _ hS1
        have hp2 := sqt_ext (same_ext sT) hp1
        by_cases h0 : WD br y = []
        · rw [show ((WD br y).map PyData.int).isEmpty = true by rw [h0]; rfl]
          refine iteF ⟨(by show 0 ≤ sizeLine; decide), fun t2 ht2 => ?_⟩
          have sT2 := same_new ht2 (.tup [])
          refine ⟨S, _, _, rfl, rfl, sT2 _ _ hS2, sm, done t2 (sT.trans sT2) ?_⟩
          have : WD br i = [] := List.eq_nil_of_length_eq_zero (by rw [hwl, h0, List.length_nil, Nat.mul_zero])
          rw [this]
          exact SqT.of upd_same
        · have l1 : 1 ≤ (WD br y).length := by
            cases hh : WD br y with
            | nil => exact absurd hh h0
            | cons _ _ => rw [List.length_cons]; omega
          have zk : z.toNat ≤ 4000 := by
            have : z.toNat * 1 ≤ z.toNat * (WD br y).length := Nat.mul_le_mul_left _ l1
            omega
          rw [show ((WD br y).map PyData.int).isEmpty = false by
            cases hh : WD br y with
            | nil => exact absurd hh h0
            | cons _ _ => rfl]
          refine iteT ⟨_, rfl, _, rfl, _, _, _, _, rfl, rfl, hp2, at1 _ _ _, S, _, _, _, rfl, rfl, SqL.of hS2, atI_nat ey, ?_⟩
          refine ⟨_, rfl, _, _, _, _, rfl, rfl, hp2, at2 _ _ _ _, py, z, _, rfl, rfl, hpyT, ?_, v2, by omega, ?_, fun t2 ht2 => ?_⟩
          · intro h
            exact h0 (List.map_eq_nil_iff.mp h)
          · rw [List.length_map]
            have e1 : (((WD br y).length : Nat) : Int) * z = (((z.toNat * (WD br y).length : Nat)) : Int) := by
              rw [Int.natCast_mul, Int.toNat_of_nonneg (by omega), Int.mul_comm]
            rw [e1]
            omega
          · have sT2 := same_new ht2 (.tup (List.replicate z.toNat ((WD br y).map V.int)).flatten)
            refine ⟨S, _, _, rfl, rfl, sT2 _ _ hS2, sm, done t2 (sT.trans sT2) ?_⟩
            rw [hw, List.map_flatten, List.map_replicate]
            exact SqT.of upd_same
    · rintro σ H1 ⟨t2, zs, rfl, s1, hS1, hzl, ws⟩
      exact ⟨_, rfl, q S zs H1 s1 hS1 (by omega) ws⟩
end
end K35


set_option Elab.async false
set_option linter.all false
set_option maxRecDepth 100000
set_option maxHeartbeats 8000000
namespace K35
open PySem PySem.Spec PyProof.Rows L2
theorem ft_rule {K : PySem.W.Frag} {H : Hp} {p : Addr} {r : Rl} {n : Nat} (hv : ValidAt n r) (hn : n ≤ 5000) (h : SqT K H p r.v) : FT K H (.ref p) r.d := by
  cases r with
  | none => exact ⟨p, _, _, rfl, rfl, h, .cons (.str _ (strOk_of _)) .nil, by show 1 ≤ 40; decide⟩
  | letter x => exact ⟨p, _, _, rfl, rfl, h, .cons (.str _ (strOk_of _)) (.cons (.int x (lg2 (by have := hv.1; omega) (by have := hv.2.1; omega))) .nil), by show 2 ≤ 40; decide⟩
  | pair i j => exact ⟨p, _, _, rfl, rfl, h, .cons (.str _ (strOk_of _)) (.cons (.int _ (lg2 (by omega) (by have := hv.1; omega))) (.cons (.int _ (lg2 (by omega) (by have := hv.2; omega))) .nil)), by show 3 ≤ 40; decide⟩
  | power i k => exact ⟨p, _, _, rfl, rfl, h, .cons (.str _ (strOk_of _)) (.cons (.int _ (lg2 (by omega) (by have := hv.1; omega))) (.cons (.int k (lg2 (by have := hv.2.1; omega) (by have := hv.2.2; omega))) .nil)), by show 3 ≤ 40; decide⟩
theorem bare_take {rs : List Rl} {i : Nat} {r : Rl} (h : rs[i]? = some r) : (bare rs).take (i + 1) = (bare rs).take i ++ [if (szs rs).getD i 0 < 4001 then r else Rl.none] := by
  rw [take_succ (bare_at h)]
section
variable {P : Program} {w : World} {K : PySem.W.Frag} {mg : Str → Option Value} {base : Heap}
def spBare (K : PySem.W.Frag) : Sp := fun vs H Q _ => ∃ (a : Addr) (rs : List Rl), vs = [.ref a] ∧ TX K H a rs ∧ Valid rs ∧ rs.length ≤ 4000 ∧ SzB rs ∧
  ∀ r ys H', Same H H' → H' r = some (.lst ys) → FTs K H' ys ((bare rs).map Rl.d) → Q (.ref r) H'
theorem sc__law_bare : FnScope ["rules", "sizes", "k"] ["rules"] (C8.fnScope (topS 34)) := C8.fnScope_by (by decide +kernel)
theorem ok__law_bare {f : Addr} {fd : FuncData} (F : C8.Def K mg "_law_bare" (topS 34) f fd) (b : Binds K fd ["rules"] []) (B : Bl mg) (c__law_sizes : C8.Cal P w K mg base 1 "_law_sizes" (spSizes K) []) : C8.Cal P w K mg base 2 "_law_bare" (spBare K) [] := by
  refine C8.cal0 F b .nil sc__law_bare ?len ?body
  case len => rintro vs H Q E ⟨a, rs, rfl, _⟩; rfl
  case body =>
    rintro cdv A outer s H vs Q E hr ⟨a, rs, rfl, tx, hv, hlen, hb, q⟩
    refine ⟨_, (pss_cons (ps_set (i := 1) sc__law_bare.nd rfl (Or.inr rfl) (C8.pe_c c__law_sizes hr (by decide) rfl (pa_cons (pv 0) pa_nil)))
    (pss_one (ps_ret (pe_lc (own := [("k", 2)]) (g := gName 2) (te := tIf (tTest (tOp (rI0 fun i j => V.bl (decide (i < j))) (tOp (rIxL K) (tVar 1) (tVar 2)) (tC (V.int 4001)))) (tOp (rIxT K) (tVar 0) (tVar 2)) (tTup (tCons (tC (V.str "none")) tNil))) (by rfl) sc__law_bare.nd (pi_range1 rfl B.range (pa_cons (pe_callB call_len_seq rfl B.len PySem.boot_len (pa_cons (pv 0) pa_nil)) pa_nil)) (blkOk_by (own := [("k", 2)]) (N := ["rules", "sizes", "k"]) (sc := (C8.fnScope (topS 34))) (by decide +kernel)) (fun _ _ _ _ _ => pg_name (i := 2) sc__law_bare.nd rfl (Or.inl rfl)) (fun _ _ _ _ _ => pts_nil) (fun _ _ _ _ _ => by exact (pe_ifExp (pt_cmpR op_lt (pe_ix ix_list (pv 1) (pv 2) (fun _ _ => rfl)) pe_int (nomark _)) (pe_ix ix_tup (pv 0) (pv 2) (fun _ _ => rfl)) (pe_tup (pa_cons pe_str pa_nil)))))))), ?_⟩
    refine ⟨_, rfl, a, rs, rfl, tx, hv, hlen, hb, fun l H2 s2 hl hl2 => ?_⟩
    have tx2 := tx.same s2
    obtain ⟨xs, hs, hf⟩ := tx2.ex
    have hxl : xs.length = rs.length := by rw [fts_len hf, List.length_map]
    have hsl : (szs rs).length = rs.length := szs_len rs
    refine ⟨_, rfl, a, xs, rfl, .inr hs, _, rfl, by omega, by omega, fun D hD => ?_⟩
    rw [Int.toNat_natCast]
    refine lc_range (fun j H' => Same H2 H' ∧ ∃ ys, H' D = some (.lst ys) ∧ FTs K H' ys (((bare rs).take j).map Rl.d)) ⟨same_new hD _, [], upd_same, .nil⟩ ?_ ?_
    · rintro j H3 hj ⟨s3, ys, hD3, hft⟩
      refine ⟨rfl, ?_⟩
      have hj' : j < rs.length := by omega
      obtain ⟨r, er⟩ : ∃ r, rs[j]? = some r := ⟨_, List.getElem?_eq_getElem hj'⟩
      obtain ⟨p, ep, hp⟩ := fts_get hf er
      have hp3 := sqt_ext (same_ext s3) hp
      have vr := hv j r er
      have hyl : ys.length ≤ 4000 := by
        have := fts_len hft
        rw [List.length_map, List.length_take] at this
        omega
      have done : ∀ {H4 : Hp} (z : V) (r' : Rl), Same H3 H4 → r' = (if (szs rs).getD j 0 < 4001 then r else Rl.none) → FT K H4 z r'.d → ∃ acc, H4 D = some (.lst acc) ∧ acc.length < sizeLine ∧ Same H2 (upd H4 D (.lst (acc ++ [z]))) ∧ ∃ ys, upd H4 D (.lst (acc ++ [z])) D = some (.lst ys) ∧ FTs K (upd H4 D (.lst (acc ++ [z]))) ys (((bare rs).take (j + 1)).map Rl.d) := fun {H4} z r' s4 er' hz => by
        have tk : TK H4 (upd H4 D (.lst (ys ++ [z]))) := TK.upd (s4 _ _ hD3)
        refine ⟨ys, s4 _ _ hD3, Nat.lt_of_le_of_lt hyl (by decide), fun p o h => ?_, _, upd_same, ?_⟩
        · have : p ≠ D := fun z => by rw [z, hD] at h; cases h
          rw [upd_ne this]
          exact s4 _ _ (s3 p o h)
        · rw [bare_take er, List.map_append, ← er']
          exact (hft.tk ((TK.same s4).trans tk)).snoc (hz.tk tk)
      have hat : atI ((szs rs).map V.int) (0 + (j : Int)) = some (.int ((szs rs).getD j 0)) := by
        rw [show (0 : Int) + (j : Int) = ((j : Nat) : Int) by omega]
        exact atI_getD (by omega)
      refine ⟨_, rfl, _, rfl, l, _, _, _, rfl, rfl, SqL.of (s3 _ _ hl2), hat, _, _, rfl, rfl, _, rfl, ?_⟩
      by_cases c : (szs rs).getD j 0 < 4001
      · rw [decide_eq_true c]
        refine iteT ⟨_, rfl, _, rfl, a, xs, _, .ref p, rfl, rfl, sqt_ext (same_ext s3) hs, ?_, done _ r (Same.refl _) (by rw [if_pos c]) (ft_rule vr (by omega) hp3)⟩
        rw [show (0 : Int) + (j : Int) = ((j : Nat) : Int) by omega]
        exact atI_nat ep
      · rw [decide_eq_false c]
        refine iteF ⟨(by show 1 ≤ sizeLine; decide), fun t ht => done _ Rl.none (same_new ht _) (by rw [if_neg c]) (ft_rule (n := 0) (r := Rl.none) trivial (by omega) (SqT.of upd_same))⟩
    · rintro H3 ⟨s3, ys, hD3, hft⟩
      rw [hxl, ← bare_len rs, List.take_length] at hft
      exact q D ys H3 (s2.trans s3) hD3 hft
end
end K35


set_option Elab.async false
set_option linter.all false
set_option maxRecDepth 100000
set_option maxHeartbeats 8000000
namespace K35
open PySem PySem.Spec PyProof.Rows L2
/-! ### a list's entry, as a place that is stored to -/
theorem get_list {X : Cx} : PGet X (rIxL X.K) := by
  intro pins s σ H x y v u Q I rx ry h
  obtain ⟨p, xs, i, z, rfl, rfl, hq, he, q⟩ := h
  cases rx
  obtain ⟨t, rfl⟩ := ry
  obtain ⟨its, r, pl, hz⟩ := I.list hq
  obtain ⟨j, h1, h2, h3, h4, h5⟩ := atI_get he
  obtain ⟨w, ew, rw'⟩ := r.get h2
  have hl := r.length
  have hn := line63
  have fin : EP X pins σ Q w s := ⟨z, H, I, rw', q⟩
  by_cases h0 : 0 ≤ i
  · have hj : i.toNat = j := by
      rw [seqIndex_of h0 h5] at h1
      exact Option.some.inj h1
    exact wpAny_getItem_list pl.isList h0 (by omega) (by rw [hj]; simpa using ew) fin
  · have hj : (i + (its.toArray.size : Int)).toNat = j := by
      rw [seqIndex_neg (by omega) h4] at h1
      rw [List.size_toArray, ← hl]
      exact Option.some.inj h1
    exact wpAny_getItem_list_neg pl.isList (by omega) (by rw [List.size_toArray] <;> omega) (by omega) (by rw [hj]; simpa using ew) fin
/-! ### balances -/
def lb (y x : Int) : Int := if y = x then 1 else if y = -x then -1 else 0
def balr (rs : List Rl) : Nat → Nat → Int → Int
  | 0, _, _ => 0
  | f + 1, n, x => match rs[n]? with
    | some (.letter y) => lb y x
    | some (.pair i j) => balr rs f i x + balr rs f j x
    | some (.power i k) => balr rs f i x * k
    | _ => 0
theorem balr_fuel {rs : List Rl} (hv : Valid rs) (x : Int) : ∀ (f n g : Nat), n < f → n < g → balr rs f n x = balr rs g n x
  | 0, _, _, h, _ => absurd h (Nat.not_lt_zero _)
  | _ + 1, _, 0, _, h => absurd h (Nat.not_lt_zero _)
  | f + 1, n, g + 1, h1, h2 => by
    unfold balr
    cases e : rs[n]? with
    | none => rfl
    | some r =>
      have v := hv n r e
      cases r with
      | none => rfl
      | letter y => rfl
      | pair i j =>
        have v1 := v.1
        have v2 := v.2
        show balr rs f i x + balr rs f j x = balr rs g i x + balr rs g j x
        rw [balr_fuel hv x f i g (by omega) (by omega), balr_fuel hv x f j g (by omega) (by omega)]
      | power i k =>
        have v1 := v.1
        show balr rs f i x * k = balr rs g i x * k
        rw [balr_fuel hv x f i g (by omega) (by omega)]
def BL (rs : List Rl) (n : Nat) (x : Int) : Int := balr rs (n + 1) n x
theorem bl_none {rs : List Rl} {n : Nat} {x : Int} (h : rs[n]? = some .none) : BL rs n x = 0 := by
  unfold BL balr
  rw [h]
theorem bl_letter {rs : List Rl} {n : Nat} {x y : Int} (h : rs[n]? = some (.letter y)) : BL rs n x = lb y x := by
  unfold BL balr
  rw [h]
theorem bl_pair {rs : List Rl} (hv : Valid rs) {n i j : Nat} {x : Int} (h : rs[n]? = some (.pair i j)) : BL rs n x = BL rs i x + BL rs j x := by
  have v := hv n _ h
  have v1 := v.1
  have v2 := v.2
  unfold BL
  rw [balr_fuel hv x (i + 1) i n (by omega) (by omega), balr_fuel hv x (j + 1) j n (by omega) (by omega)]
  conv => lhs; unfold balr
  rw [h]
theorem bl_power {rs : List Rl} (hv : Valid rs) {n i : Nat} {x k : Int} (h : rs[n]? = some (.power i k)) : BL rs n x = BL rs i x * k := by
  have v := hv n _ h
  have v1 := v.1
  unfold BL
  rw [balr_fuel hv x (i + 1) i n (by omega) (by omega)]
  conv => lhs; unfold balr
  rw [h]
theorem bl_zero {rs : List Rl} (hv : Valid rs) (hb : SzB rs) (x : Int) : ∀ (N n : Nat), n < N → n < rs.length → (szs rs).getD n 0 = 0 → BL rs n x = 0
  | 0, _, h, _, _ => absurd h (Nat.not_lt_zero _)
  | N + 1, n, h, hl, hz => by
    obtain ⟨r, e⟩ : ∃ r, rs[n]? = some r := ⟨_, List.getElem?_eq_getElem hl⟩
    have v := hv n r e
    rw [sz_at hv e] at hz
    cases r with
    | none => exact bl_none e
    | letter y => exact absurd (show (1 : Int) = 0 from hz) (by decide)
    | pair i j =>
      have v1 := v.1
      have v2 := v.2
      have b1 := (gd_b hb i).1
      have b2 := (gd_b hb j).1
      have hz' : (szs rs).getD i 0 + (szs rs).getD j 0 = 0 := hz
      rw [bl_pair hv e, bl_zero hv hb x N i (by omega) (by omega) (by omega), bl_zero hv hb x N j (by omega) (by omega) (by omega)]
      rfl
    | power i k =>
      have v1 := v.1
      have v2 := v.2.1
      have hz' : (szs rs).getD i 0 * k = 0 := hz
      have : (szs rs).getD i 0 = 0 := by
        rcases Int.mul_eq_zero.mp hz' with h | h
        · exact h
        · omega
      rw [bl_power hv e, bl_zero hv hb x N i (by omega) (by omega) this, Int.zero_mul]
/-- the sum over the first i rules of how often each is asked, times what it holds -/
def tot (g : Nat → Int) (ts : List Int) : Nat → Int
  | 0 => 0
  | i + 1 => tot g ts i + ts.getD i 0 * g i
theorem getD_set {ts : List Int} {p q : Nat} {z : Int} (hp : p < ts.length) : (ts.set p z).getD q 0 = if q = p then z else ts.getD q 0 := by
  rw [List.getD_eq_getElem?_getD, List.getElem?_set]
  by_cases h : p = q
  · subst h
    rw [if_pos rfl, if_pos hp, if_pos rfl]
    rfl
  · rw [if_neg h, if_neg (Ne.symm h), List.getD_eq_getElem?_getD]
theorem tot_set (g : Nat → Int) {ts : List Int} {p : Nat} {z : Int} (hp : p < ts.length) : ∀ i : Nat, tot g (ts.set p z) i = tot g ts i + if p < i then (z - ts.getD p 0) * g p else 0
  | 0 => by simp [tot]
  | i + 1 => by
    unfold tot
    rw [tot_set g hp i, getD_set hp]
    by_cases h : i = p
    · subst h
      rw [if_pos rfl, if_neg (Nat.lt_irrefl _), if_pos (Nat.lt_succ_self _), Int.sub_mul]
      omega
    · rw [if_neg h]
      by_cases h2 : p < i
      · rw [if_pos h2, if_pos (by omega)]; omega
      · rw [if_neg h2, if_neg (by omega)]; omega
theorem tot_zero (g : Nat → Int) (ts : List Int) : ∀ i : Nat, (∀ j, j < i → ts.getD j 0 * g j = 0) → tot g ts i = 0
  | 0, _ => rfl
  | i + 1, h => by
    unfold tot
    rw [tot_zero g ts i fun j hj => h j (by omega), h i (by omega)]
    rfl
theorem tot_nonneg (g : Nat → Int) (ts : List Int) : ∀ i : Nat, (∀ j, j < i → 0 ≤ ts.getD j 0 * g j) → 0 ≤ tot g ts i
  | 0, _ => Int.le_refl _
  | i + 1, h => by
    unfold tot
    have := tot_nonneg g ts i fun j hj => h j (by omega)
    have := h i (by omega)
    omega
section
variable {P : Program} {w : World} {K : PySem.W.Frag} {mg : Str → Option Value} {base : Heap}
/-- the balance of the word, letter by letter -/
def balN (rs : List Rl) (x : Nat) : Int := if x = 0 then 0 else BL rs (rs.length - 1) (x : Int)
def balD (rs : List Rl) (m : Nat) : List PyData := (List.range m).filterMap fun x => if balN rs x = 0 then none else some (.tuple [.int (x : Int), .int (balN rs x)])
def spBalance (K : PySem.W.Frag) (T : Addr) : Sp := fun vs H Q _ => ∃ (a : Addr) (rs : List Rl), vs = [.ref a] ∧ TX K H a rs ∧ Valid rs ∧ 1 ≤ rs.length ∧ rs.length ≤ 4000 ∧ SzB rs ∧ GxR.TabG H T ∧ ∀ p vs' H', Keep T H H' → H' p = some (.tup vs') → DpAll K H' vs' (balD rs 21) → Q (.ref p) H'
theorem lc_enumL {K : PySem.W.Frag} {a : Addr} {xs : List V} {g : TG} {tt : TT} {te : TE} {vs : List Nat} {σ : L2.St} {H1 : Hp} {D : Addr} {Qd : Hp → Prop} (Pv : Nat → Hp → Prop) (h0 : Pv 0 (upd H1 D (.lst []))) (hl : ∀ i H, i ≤ xs.length → Pv i H → SqL K H a xs)
    (hs : ∀ i x H Tp, xs[i]? = some x → Pv i H → H Tp = none → g (.ref Tp) (wipe σ vs) (upd H Tp (.tup [.int (i : Nat), x])) fun σ2 H2 => wipe σ2 vs = wipe σ vs ∧ tt σ2 H2 fun b H3 =>
      if b = true then te σ2 H3 fun y H4 => ∃ acc, H4 D = some (.lst acc) ∧ acc.length < sizeLine ∧ Pv (i + 1) (upd H4 D (.lst (acc ++ [y]))) else Pv (i + 1) H3) (hd : ∀ H, Pv xs.length H → Qd H) :
    ∃ W : Nat → Nat → Hp → Prop, (∃ m, W 0 m (upd H1 D (.lst []))) ∧ ∀ i m H, W i m H →
      ((Ite K a).stop i H ∧ Qd H) ∨ ((Ite K a).go i H ∧ ∃ Nx : Hp → Prop, (∀ H', Nx H' → ∃ m', m' < m ∧ W (i + 1) m' H') ∧ ∀ x H', (Ite K a).yld i H x H' → g x (wipe σ vs) H' fun σ2 H2 => wipe σ2 vs = wipe σ vs ∧ tt σ2 H2 fun b H3 =>
        if b = true then te σ2 H3 fun y H4 => ∃ acc, H4 D = some (.lst acc) ∧ acc.length < sizeLine ∧ Nx (upd H4 D (.lst (acc ++ [y]))) else Nx H3) := by
  refine ⟨fun i m H => m = xs.length - i ∧ i ≤ xs.length ∧ Pv i H, ⟨xs.length, by simp, Nat.zero_le _, h0⟩, ?_⟩
  rintro i m H ⟨rfl, hi, p⟩
  have q := hl i H hi p
  by_cases hlt : i < xs.length
  · refine .inr ⟨⟨xs, xs[i], q, List.getElem?_eq_getElem hlt⟩, Pv (i + 1), fun H' p' => ⟨xs.length - (i + 1), by omega, rfl, hlt, p'⟩, ?_⟩
    rintro _ _ ⟨Tp, x, rfl, hTp, rfl, hx⟩
    exact hs i x H Tp (hx xs q) p hTp
  · have e : i = xs.length := by omega
    subst e
    exact .inl ⟨⟨xs, q, Nat.le_refl _⟩, hd H p⟩
theorem setI {ts : List Int} {p : Nat} {z : Int} : (ts.map V.int).set p (.int z) = (ts.set p z).map V.int := by rw [List.map_set]
theorem ixN_nat {n k : Nat} (h : k < n) : ixN n (k : Int) = some k := by
  unfold ixN
  rw [if_pos (by omega), if_pos (by omega)]
  simp
theorem sub_left (a b : Int) : a + b - a = b := by omega
/-- what the loop keeps: the first i rules are still to be done -/
structure Bal (rs : List Rl) (su ts : List Int) (i : Nat) : Prop where
  sl : su.length = 21
  tl : ts.length = rs.length
  z : su.getD 0 0 = 0
  b : ∀ x : Nat, 1 ≤ x → x ≤ 20 → su.getD x 0 + tot (fun j => BL rs j (x : Int)) ts i = BL rs (rs.length - 1) (x : Int)
  n : ∀ j, 0 ≤ ts.getD j 0
  s : tot (fun j => (szs rs).getD j 0) ts i ≤ (szs rs).getD (rs.length - 1) 0
theorem getD_rep (n j : Nat) : (List.replicate n (0 : Int)).getD j 0 = 0 := by
  rw [List.getD_eq_getElem?_getD, List.getElem?_replicate]
  split <;> rfl
theorem Bal.init {rs : List Rl} (h : 1 ≤ rs.length) : Bal rs (List.replicate 21 0) ((List.replicate rs.length 0).set (rs.length - 1) 1) rs.length := by
  have hl : rs.length - 1 < (List.replicate rs.length (0 : Int)).length := by rw [List.length_replicate]; omega
  have z : ∀ g : Nat → Int, tot g ((List.replicate rs.length 0).set (rs.length - 1) 1) rs.length = g (rs.length - 1) := fun g => by
    rw [tot_set g hl, if_pos (by omega), getD_rep, tot_zero g _ _ fun j _ => by rw [getD_rep, Int.zero_mul]]
    omega
  refine ⟨by simp, by simp, getD_rep _ _, fun x _ _ => ?_, fun j => ?_, ?_⟩
  · rw [z, getD_rep, Int.zero_add]
  · rw [getD_set hl]
    split
    · decide
    · rw [getD_rep]; decide
  · rw [z]; exact Int.le_refl _
theorem Bal.skip {rs : List Rl} (hv : Valid rs) (hb : SzB rs) {su ts : List Int} {n : Nat} (h : Bal rs su ts (n + 1)) (hn : n < rs.length) (hz : (szs rs).getD n 0 = 0) : Bal rs su ts n := by
  refine ⟨h.sl, h.tl, h.z, fun x h1 h2 => ?_, h.n, ?_⟩
  · have := h.b x h1 h2
    unfold tot at this
    rw [bl_zero hv hb x (n + 1) n (by omega) hn hz, Int.mul_zero, Int.add_zero] at this
    exact this
  · have := h.s
    unfold tot at this
    rw [hz, Int.mul_zero, Int.add_zero] at this
    exact this
theorem Bal.term {rs : List Rl} (hb : SzB rs) {su ts : List Int} {n : Nat} (h : Bal rs su ts (n + 1)) : ts.getD n 0 * (szs rs).getD n 0 ≤ (szs rs).getD (rs.length - 1) 0 := by
  have s := h.s
  unfold tot at s
  have := tot_nonneg (fun j => (szs rs).getD j 0) ts n fun j _ => Int.mul_nonneg (h.n j) (gd_b hb j).1
  omega
theorem Bal.le {rs : List Rl} (hb : SzB rs) {su ts : List Int} {n : Nat} (h : Bal rs su ts (n + 1)) (hz : (szs rs).getD n 0 ≠ 0) : ts.getD n 0 ≤ 10000000000000000000000000000000000000000 := by
  have t := h.term hb
  have b0 := (gd_b hb n).1
  have b1 := (gd_b hb (rs.length - 1)).2
  have m : ts.getD n 0 * 1 ≤ ts.getD n 0 * (szs rs).getD n 0 := Int.mul_le_mul_of_nonneg_left (by omega) (h.n n)
  omega
theorem Bal.letter {rs : List Rl} (hv : Valid rs) (hb : SzB rs) {su ts : List Int} {n k : Nat} {y d : Int} (h : Bal rs su ts (n + 1)) (e : rs[n]? = some (.letter y)) (hk1 : 1 ≤ k) (hk2 : k ≤ 20) (hd : ∀ x : Nat, 1 ≤ x → x ≤ 20 → ts.getD n 0 * lb y (x : Int) = if x = k then d else 0) :
    Bal rs (su.set k (su.getD k 0 + d)) ts n := by
  have hk : k < su.length := by rw [h.sl]; omega
  refine ⟨by rw [List.length_set, h.sl], h.tl, ?_, fun x h1 h2 => ?_, h.n, ?_⟩
  · rw [getD_set hk, if_neg (by omega)]; exact h.z
  · have := h.b x h1 h2
    unfold tot at this
    rw [bl_letter e, hd x h1 h2] at this
    rw [getD_set hk]
    split
    · next q =>
      rw [if_pos q] at this
      rw [← q]
      rw [← this]
      omega
    · next q =>
      rw [if_neg q] at this
      omega
  · have s := h.s
    unfold tot at s
    have := Int.mul_nonneg (h.n n) (gd_b hb n).1
    omega
theorem Bal.pair {rs : List Rl} (hv : Valid rs) {su ts : List Int} {n p q : Nat} (h : Bal rs su ts (n + 1)) (e : rs[n]? = some (.pair p q)) :
    Bal rs su ((ts.set p (ts.getD p 0 + ts.getD n 0)).set q ((ts.set p (ts.getD p 0 + ts.getD n 0)).getD q 0 + ts.getD n 0)) n := by
  have v := hv n _ e
  have v1 := v.1
  have v2 := v.2
  have ln := (List.getElem?_eq_some_iff.mp e).1
  have hp : p < ts.length := by rw [h.tl]; omega
  have hq : q < (ts.set p (ts.getD p 0 + ts.getD n 0)).length := by rw [List.length_set, h.tl]; omega
  have key : ∀ g : Nat → Int, tot g ((ts.set p (ts.getD p 0 + ts.getD n 0)).set q ((ts.set p (ts.getD p 0 + ts.getD n 0)).getD q 0 + ts.getD n 0)) n = tot g ts n + ts.getD n 0 * (g p + g q) := fun g => by
    rw [tot_set g hq, tot_set g hp, if_pos v1, if_pos v2, sub_left, sub_left, Int.mul_add]
    omega
  refine ⟨h.sl, by rw [List.length_set, List.length_set, h.tl], h.z, fun x h1 h2 => ?_, fun j => ?_, ?_⟩
  · have := h.b x h1 h2
    unfold tot at this
    rw [bl_pair hv e] at this
    rw [key]
    omega
  · have a := h.n p
    have b := h.n n
    have c := h.n j
    have d := h.n q
    rw [getD_set hq, getD_set hp, getD_set hp]
    split <;> split <;> omega
  · have s := h.s
    unfold tot at s
    rw [sz_at hv e] at s
    rw [key]
    exact s
theorem Bal.power {rs : List Rl} (hv : Valid rs) {su ts : List Int} {n p : Nat} {k : Int} (h : Bal rs su ts (n + 1)) (e : rs[n]? = some (.power p k)) : Bal rs su (ts.set p (ts.getD p 0 + ts.getD n 0 * k)) n := by
  have v := hv n _ e
  have v1 := v.1
  have v2 := v.2.1
  have ln := (List.getElem?_eq_some_iff.mp e).1
  have hp : p < ts.length := by rw [h.tl]; omega
  have key : ∀ g : Nat → Int, tot g (ts.set p (ts.getD p 0 + ts.getD n 0 * k)) n = tot g ts n + ts.getD n 0 * (g p * k) := fun g => by
    rw [tot_set g hp, if_pos v1, sub_left, Int.mul_assoc, Int.mul_comm k]
  refine ⟨h.sl, by rw [List.length_set, h.tl], h.z, fun x h1 h2 => ?_, fun j => ?_, ?_⟩
  · have := h.b x h1 h2
    unfold tot at this
    rw [bl_power hv e] at this
    rw [key]
    exact this
  · have a := h.n p
    have c := h.n j
    have b := Int.mul_nonneg (h.n n) (show 0 ≤ k by omega)
    rw [getD_set hp]
    split <;> omega
  · have s := h.s
    unfold tot at s
    rw [sz_at hv e] at s
    rw [key]
    exact s
theorem Bal.done {rs : List Rl} {su ts : List Int} (h : Bal rs su ts 0) {x : Nat} (hx : x < 21) : su.getD x 0 = balN rs x := by
  unfold balN
  split
  · next e => rw [e]; exact h.z
  · have := h.b x (by omega) (by omega)
    unfold tot at this
    rwa [Int.add_zero] at this
theorem sc_balance : FnScope ["text", "sizes", "sums", "times", "at", "rule", "x", "n"] ["text"] (C8.fnScope (topS 22)) := C8.fnScope_by (by decide +kernel)
end
end K35


set_option Elab.async false
set_option linter.all false
set_option maxRecDepth 100000
set_option maxHeartbeats 8000000
namespace K35
open PySem PySem.Spec PyProof.Rows L2
inductive PTs (K : PySem.W.Frag) (H : Hp) : List V → List PyData → Prop
  | nil : PTs K H [] []
  | cons {p : Addr} {x n : Int} {vs : List V} {ds : List PyData} : SqT K H p [.int x, .int n] → PTs K H vs ds → PTs K H (.ref p :: vs) (.tuple [.int x, .int n] :: ds)
theorem PTs.tk {K : PySem.W.Frag} {H H' : Hp} : ∀ {vs : List V} {ds : List PyData}, PTs K H vs ds → TK H H' → PTs K H' vs ds
  | _, _, .nil, _ => .nil
  | _, _, .cons h t, s => .cons (sqt_tk s h) (t.tk s)
theorem PTs.snoc {K : PySem.W.Frag} {H : Hp} {p : Addr} {x n : Int} : ∀ {vs : List V} {ds : List PyData}, PTs K H vs ds → SqT K H p [.int x, .int n] → PTs K H (vs ++ [.ref p]) (ds ++ [.tuple [.int x, .int n]])
  | _, _, .nil, h => .cons h .nil
  | _, _, .cons h t, h' => .cons h (t.snoc h')
theorem PTs.dp {K : PySem.W.Frag} {H : Hp} : ∀ {vs : List V} {ds : List PyData}, PTs K H vs ds → DpAll K H vs ds
  | _, _, .nil => .nil
  | _, _, .cons h t => .cons (.tup h (.cons (.int _) (.cons (.int _) .nil))) t.dp
theorem balD_succ (rs : List Rl) (j : Nat) : balD rs (j + 1) = balD rs j ++ (if balN rs j = 0 then [] else [.tuple [.int (j : Int), .int (balN rs j)]]) := by
  unfold balD
  rw [List.range_succ, List.filterMap_append]
  congr 1
  by_cases h : balN rs j = 0
  · simp [h]
  · simp [h]
section
variable {P : Program} {w : World} {K : PySem.W.Frag} {mg : Str → Option Value} {base : Heap}
theorem fn_balance {f : Addr} {fd : FuncData} (F : C8.Def K mg "balance" (topS 22) f fd) (b : Binds K fd ["text"] []) (B : Bl mg) {T : Addr} (hrev : mg "reversed" = none) (c_want_straight : C8.Cal P w K mg base 7 "want_straight" (spWant K T) []) (c_rule_sizes : C8.Cal P w K mg base 1 "rule_sizes" (spSizes K) []) : FnOk P w K mg base C8.CX0 8 f fd ["text"] (spBalance K T) := by
  refine C8.fn0 F.fn sc_balance ?len ?body
  case len => rintro vs H Q E ⟨a, rs, rfl, _⟩; rfl
  case body =>
    obtain ⟨tML, hML⟩ := B.mostL
    rintro cdv A outer s H vs Q E hr ⟨a, rs, rfl, tx, hv, h1, h2, hb, hT, q⟩
    refine ⟨_, (pss_cons (ps_expr (C8.pe_c c_want_straight hr (by decide) rfl (pa_cons (pv 0) pa_nil)))
    (pss_cons (ps_set (i := 1) sc_balance.nd rfl (Or.inl rfl) (C8.pe_c c_rule_sizes hr (by decide) rfl (pa_cons (pv 0) pa_nil)))
    (pss_cons (ps_set (i := 2) sc_balance.nd rfl (Or.inl rfl) (pe_op op_rep (pe_lst (pa_cons pe_int pa_nil)) (pe_op op_add (pe_glob (v := .int 20) rfl hML ⟨_, rfl⟩) pe_int)))
    (pss_cons (ps_set (i := 3) sc_balance.nd rfl (Or.inl rfl) (pe_op op_rep (pe_lst (pa_cons pe_int pa_nil)) (pe_callB call_len_seq rfl B.len PySem.boot_len (pa_cons (pv 0) pa_nil))))
    (pss_cons (ps_asg pe_int (pg_sub (pv 3) (pe_un un_neg pe_int) set_list))
    (pss_cons (ps_for PassesOwn.never rfl (pi_revR rfl hrev (prg_1 rfl B.range (pe_callB call_len_seq rfl B.len PySem.boot_len (pa_cons (pv 0) pa_nil)))) (pg_name (i := 4) sc_balance.nd rfl (Or.inl rfl))
    (pss_cons (ps_set (i := 5) sc_balance.nd rfl (Or.inl rfl) (pe_ix ix_tup (pv 0) (pv 4) (fun _ _ => rfl)))
    (pss_cons (ps_if (pt_cmpR op_eq (pe_ix ix_list (pv 1) (pv 4) (fun _ _ => rfl)) pe_int (nomark _)) (pss_one ps_continue) pss_nil)
    (pss_one (ps_if (PW.pt (pw_and (pt_cmpR op_eq (pe_ix ix_tup (pv 5) pe_int (fun _ _ => rfl)) pe_str (nomark _)) (pw_and1 (pt_cmpR op_gt (pe_ix ix_tup (pv 5) pe_int (fun _ _ => rfl)) pe_int (nomark _))))) (pss_one (ps_augS (pv 2) (pe_ix ix_tup (pv 5) pe_int (fun _ _ => rfl)) get_list (pe_ix ix_list (pv 3) (pv 4) (fun _ _ => rfl)) ip_add set_list)) (pss_one (ps_if (pt_cmpR op_eq (pe_ix ix_tup (pv 5) pe_int (fun _ _ => rfl)) pe_str (nomark _)) (pss_one (ps_augS (pv 2) (pe_un un_neg (pe_ix ix_tup (pv 5) pe_int (fun _ _ => rfl))) get_list (pe_ix ix_list (pv 3) (pv 4) (fun _ _ => rfl)) ip_sub set_list)) (pss_one (ps_if (pt_cmpR op_eq (pe_ix ix_tup (pv 5) pe_int (fun _ _ => rfl)) pe_str (nomark _)) (pss_cons (ps_augS (pv 3) (pe_ix ix_tup (pv 5) pe_int (fun _ _ => rfl)) get_list (pe_ix ix_list (pv 3) (pv 4) (fun _ _ => rfl)) ip_add set_list)
    (pss_one (ps_augS (pv 3) (pe_ix ix_tup (pv 5) pe_int (fun _ _ => rfl)) get_list (pe_ix ix_list (pv 3) (pv 4) (fun _ _ => rfl)) ip_add set_list))) (pss_one (ps_augS (pv 3) (pe_ix ix_tup (pv 5) pe_int (fun _ _ => rfl)) get_list (pe_op op_mulW (pe_ix ix_list (pv 3) (pv 4) (fun _ _ => rfl)) (pe_ix ix_tup (pv 5) pe_int (fun _ _ => rfl))) ip_add set_list)))))))))))
    (pss_one (ps_ret (pe_callTy call_tuple_of rfl B.tuple (by decide +kernel) (pa_cons (pe_lc (own := [("x", 6), ("n", 7)]) (g := gTup K 2 (gCons (gName 6) (gCons (gName 7) gNil))) (by rfl) sc_balance.nd (pi_enum rfl B.enumerate (pa_cons (pv 2) pa_nil)) (blkOk_by (own := [("x", 6), ("n", 7)]) (N := ["text", "sizes", "sums", "times", "at", "rule", "x", "n"]) (sc := (C8.fnScope (topS 22))) (by decide +kernel)) (fun _ _ _ _ _ => by exact pg_tup rfl (pgs_cons (pg_name (i := 6) sc_balance.nd rfl (Or.inl rfl)) (pgs_cons (pg_name (i := 7) sc_balance.nd rfl (Or.inl rfl)) pgs_nil))) (fun _ _ _ _ _ => (pts_one (pt_cmpR op_ne (pv 7) pe_int (nomark _)))) (fun _ _ _ _ _ => (pe_tup (pa_cons (pv 6) (pa_cons (pv 7) pa_nil))))) pa_nil)))))))))), ?_⟩
    refine ⟨_, rfl, _, _, rfl, tx.dp, straight_ok hv h1 h2, hT, fun H1 k1 => ?_⟩
    refine ⟨_, rfl, a, rs, rfl, tx.ext k1.1, hv, h2, hb, fun l H2 s2 hl hl2 => ?_⟩
    have tx2 := (tx.ext k1.1).same s2
    have k2 : Keep T H H2 := ⟨k1.1.trans (same_ext s2), tab_same s2 k1.2⟩
    obtain ⟨xs, hs, hf⟩ := tx2.ex
    have hxl : xs.length = rs.length := by rw [fts_len hf, List.length_map]
    have hsl : (szs rs).length = rs.length := szs_len rs
    refine ⟨(by show 1 ≤ sizeLine; decide), fun t1 ht1 => ?_⟩
    have sA := same_new ht1 (.lst [.int 0])
    refine ⟨_, _, rfl, rfl, t1, 21, _, rfl, rfl, upd_same, by decide, by decide, (by show 21 ≤ sizeLine; decide), fun Su hSu => ?_⟩
    have sB := sA.trans (same_new hSu (.lst (List.replicate (21 : Int).toNat [V.int 0]).flatten))
    have hSu1 : (upd (upd H2 t1 (.lst [.int 0])) Su (.lst (List.replicate (21 : Int).toNat [V.int 0]).flatten)) Su = some (.lst ((List.replicate 21 (0 : Int)).map V.int)) := by
      rw [upd_same, List.flatten_replicate_singleton, List.map_replicate]
      rfl
    have hSu2 : H2 Su = none := by
      have : Su ≠ t1 := fun z => by rw [z, upd_same] at hSu; cases hSu
      rwa [upd_ne this] at hSu
    generalize upd (upd H2 t1 (.lst [.int 0])) Su (.lst (List.replicate (21 : Int).toNat [V.int 0]).flatten) = H3 at sB hSu1
    refine name_of' ?_
    dsimp only
    refine ⟨(by show 1 ≤ sizeLine; decide), fun t2 ht2 => ?_⟩
    have sC := same_new ht2 (.lst [.int 0])
    refine ⟨_, rfl, a, xs, rfl, .inr (sqt_ext (same_ext (sB.trans sC)) hs), t2, ((xs.length : Nat) : Int), _, rfl, rfl, upd_same, by omega, by omega, Nat.le_trans (show _ ≤ 4000 by rw [Int.toNat_natCast]; simp only [List.length_cons, List.length_nil]; omega) (by decide), fun Ti hTi => ?_⟩
    rw [Int.toNat_natCast, List.flatten_replicate_singleton]
    have sD := sB.trans (sC.trans (same_new hTi (.lst (List.replicate xs.length (V.int 0)))))
    have nST : Su ≠ Ti := fun z => by rw [← z, sC _ _ hSu1] at hTi; cases hTi
    have hSu3 : (upd (upd H3 t2 (.lst [.int 0])) Ti (.lst (List.replicate xs.length (V.int 0)))) Su = some (.lst ((List.replicate 21 (0 : Int)).map V.int)) := by rw [upd_ne nST]; exact sC _ _ hSu1
    have hTi1 : (upd (upd H3 t2 (.lst [.int 0])) Ti (.lst (List.replicate xs.length (V.int 0)))) Ti = some (.lst ((List.replicate rs.length (0 : Int)).map V.int)) := by
      rw [upd_same, List.map_replicate, hxl]
    have hTi2 : H2 Ti = none := by
      cases e : H2 Ti with
      | none => rfl
      | some o =>
        have := sC _ _ (sB _ _ e)
        rw [this] at hTi
        cases hTi
    generalize upd (upd H3 t2 (.lst [.int 0])) Ti (.lst (List.replicate xs.length (V.int 0))) = H4 at sD hSu3 hTi1
    refine name_of' ?_
    dsimp only
    refine ⟨_, rfl, 1, rfl, Ti, _, -1, rs.length - 1, rfl, rfl, hTi1, ?_, ?_⟩
    · rw [List.length_map, List.length_replicate]
      unfold ixN
      rw [if_neg (by decide), if_pos (by omega)]
      congr 1
      omega
    rw [setI]
    have sE : Same H2 (upd H4 Ti (.lst (((List.replicate rs.length (0 : Int)).set (rs.length - 1) 1).map V.int))) := fun p o h => by
      have : p ≠ Ti := fun z => by rw [z, hTi2] at h; cases h
      rw [upd_ne this]
      exact sD p o h
    have hSu4 : (upd H4 Ti (.lst (((List.replicate rs.length (0 : Int)).set (rs.length - 1) 1).map V.int))) Su = some (.lst ((List.replicate 21 (0 : Int)).map V.int)) := by rw [upd_ne nST]; exact hSu3
    have hTi4 : (upd H4 Ti (.lst (((List.replicate rs.length (0 : Int)).set (rs.length - 1) 1).map V.int))) Ti = some (.lst (((List.replicate rs.length (0 : Int)).set (rs.length - 1) 1).map V.int)) := upd_same
    generalize upd H4 Ti (.lst (((List.replicate rs.length (0 : Int)).set (rs.length - 1) 1).map V.int)) = H5 at sE hSu4 hTi4
    refine ⟨_, rfl, a, xs, rfl, .inr (sqt_ext (same_ext sE) hs), _, rfl, by decide, by decide, by omega, by omega, ?_⟩
    have eN : (((xs.length : Nat) : Int) - 0).toNat = rs.length := by omega
    rw [eN]
    refine for_rangeC (Pv := fun t σ H' => ∃ (su ts : List Int) (s4 s5 s6 s7 : Option V), σ = [some (.ref a), some (.ref l), some (.ref Su), some (.ref Ti), s4, s5, s6, s7] ∧ Same H2 H' ∧ H' Su = some (.lst (su.map V.int)) ∧ H' Ti = some (.lst (ts.map V.int)) ∧ Bal rs su ts (rs.length - t)) ⟨_, _, none, none, none, none, rfl, sE, hSu4, hTi4, Bal.init h1⟩ ?_ ?_
    · rintro t σ H6 ht ⟨su, ts, s4, s5, s6, s7, rfl, s6', hSu6, hTi6, bal⟩
      obtain ⟨n, en, hn⟩ : ∃ n, rs.length - t = n + 1 ∧ rs.length - (t + 1) = n := ⟨rs.length - (t + 1), by omega, rfl⟩
      rw [en] at bal
      rw [hn]
      rw [show (0 : Int) + ((rs.length : Nat) : Int) - 1 + (t : Nat) * (-1) = ((n : Nat) : Int) by omega]
      have ln : n < rs.length := by omega
      obtain ⟨r, er⟩ : ∃ r, rs[n]? = some r := ⟨_, List.getElem?_eq_getElem ln⟩
      obtain ⟨p, ep, hp⟩ := fts_get hf er
      have vr := hv n r er
      have hp6 := sqt_ext (same_ext s6') hp
      have hl6 := s6' _ _ hl2
      refine name_of' ?_
      refine ⟨_, rfl, _, rfl, a, xs, _, _, rfl, rfl, sqt_ext (same_ext s6') hs, atI_nat ep, ?_⟩
      refine ⟨_, rfl, _, rfl, l, _, _, _, rfl, rfl, SqL.of hl6, atI_getD (by omega), rfl, _, rfl, ?_⟩
      rw [dec_int]
      by_cases c0 : (szs rs).getD n 0 = 0
      · rw [decide_eq_true c0]
        exact iteT ⟨su, ts, _, _, _, _, rfl, s6', hSu6, hTi6, bal.skip hv hb ln c0⟩
      rw [decide_eq_false c0]
      refine iteF ?_
      have tget : atI (ts.map V.int) ((n : Nat) : Int) = some (.int (ts.getD n 0)) := atI_getD (by rw [bal.tl]; exact ln)
      have keepS : ∀ {su' : List Int}, Same H2 (upd H6 Su (.lst (su'.map V.int))) := fun {su'} p o h => by
        have : p ≠ Su := fun z => by rw [z, hSu2] at h; cases h
        rw [upd_ne this]
        exact s6' p o h
      have keepT : ∀ {H7 : Hp} {ts' : List Int}, Same H2 H7 → Same H2 (upd H7 Ti (.lst (ts'.map V.int))) := fun {H7 ts'} s7' p o h => by
        have : p ≠ Ti := fun z => by rw [z, hTi2] at h; cases h
        rw [upd_ne this]
        exact s7' p o h
      cases r with
      | none => exact absurd (by rw [sz_at hv er]; rfl) c0
      | letter y =>
        refine ⟨_, rfl, _, _, _, _, rfl, rfl, hp6, at0 _ _, rfl, _, rfl, ?_⟩
        rw [dec_str, decide_eq_true rfl]
        refine iteT ⟨_, rfl, _, _, _, _, rfl, rfl, hp6, at1 _ _ _, _, _, rfl, rfl, _, rfl, ?_⟩
        have vy := vr
        by_cases cy : (0 : Int) < y
        · rw [decide_eq_true cy]
          obtain ⟨k, rfl⟩ := Int.eq_ofNat_of_zero_le (show 0 ≤ y by omega)
          have hk : k < su.length := by rw [bal.sl]; have := vy.2.1; omega
          refine iteT ⟨_, rfl, _, rfl, _, _, _, _, rfl, rfl, hp6, at1 _ _ _, Su, _, _, _, rfl, rfl, SqL.of hSu6, atI_getD hk, ?_⟩
          refine ⟨_, rfl, _, rfl, Ti, _, _, _, rfl, rfl, SqL.of hTi6, tget, _, _, rfl, rfl, Su, _, _, k, rfl, rfl, hSu6, ixN_nat (by rw [List.length_map]; exact hk), ?_⟩
          rw [setI]
          refine ⟨_, ts, _, _, _, _, rfl, keepS, upd_same, by rw [upd_ne (Ne.symm nST)]; exact hTi6, bal.letter hv hb er (k := k) (d := ts.getD n 0) (by omega) (by have := vy.2.1; omega) fun x hx1 hx2 => ?_⟩
          unfold lb
          by_cases q : x = k
          · subst q
            rw [if_pos rfl, if_pos rfl, Int.mul_one]
          · rw [if_neg (by omega), if_neg (by omega), if_neg q, Int.mul_zero]
        · rw [decide_eq_false cy]
          refine iteF ⟨_, rfl, _, _, _, _, rfl, rfl, hp6, at0 _ _, rfl, _, rfl, ?_⟩
          rw [dec_str, decide_eq_true rfl]
          obtain ⟨k, hk0⟩ := Int.eq_ofNat_of_zero_le (show 0 ≤ -y by omega)
          have hk : k < su.length := by rw [bal.sl]; have := vy.1; omega
          refine iteT ⟨_, rfl, _, rfl, _, _, _, _, rfl, rfl, hp6, at1 _ _ _, y, rfl, ?_⟩
          refine ⟨Su, _, -y, _, rfl, rfl, SqL.of hSu6, (by rw [hk0]; exact atI_getD hk), ?_⟩
          refine ⟨_, rfl, _, rfl, Ti, _, _, _, rfl, rfl, SqL.of hTi6, tget, _, _, rfl, rfl, Su, _, -y, k, rfl, rfl, hSu6, (by rw [hk0]; exact ixN_nat (by rw [List.length_map]; exact hk)), ?_⟩
          rw [setI]
          have hB := bal.letter hv hb er (k := k) (d := - ts.getD n 0) (by have := vy.2.2; omega) (by have := vy.1; omega) fun x hx1 hx2 => by
            unfold lb
            by_cases q : x = k
            · subst q
              rw [if_neg (by omega), if_pos (by omega), if_pos rfl, Int.mul_neg, Int.mul_one]
            · rw [if_neg (by omega), if_neg (by omega), if_neg q, Int.mul_zero]
          exact ⟨_, ts, _, _, _, _, rfl, keepS, upd_same, by rw [upd_ne (Ne.symm nST)]; exact hTi6, hB⟩
      | pair y z =>
        have v1 := vr.1
        have v2 := vr.2
        have hy : y < ts.length := by rw [bal.tl]; omega
        refine ⟨_, rfl, _, _, _, _, rfl, rfl, hp6, at0 _ _, rfl, _, rfl, ?_⟩
        rw [dec_str, decide_eq_false (by decide)]
        refine iteF (iteF ⟨_, rfl, _, _, _, _, rfl, rfl, hp6, at0 _ _, rfl, _, rfl, ?_⟩)
        rw [dec_str, decide_eq_false (by decide)]
        refine iteF ⟨_, rfl, _, _, _, _, rfl, rfl, hp6, at0 _ _, rfl, _, rfl, ?_⟩
        rw [dec_str, decide_eq_true rfl]
        refine iteT ⟨_, rfl, _, rfl, _, _, _, _, rfl, rfl, hp6, at1 _ _ _, Ti, _, _, _, rfl, rfl, SqL.of hTi6, atI_getD hy, ?_⟩
        refine ⟨_, rfl, _, rfl, Ti, _, _, _, rfl, rfl, SqL.of hTi6, tget, _, _, rfl, rfl, Ti, _, _, y, rfl, rfl, hTi6, ixN_nat (by rw [List.length_map]; exact hy), ?_⟩
        rw [setI]
        have s7' := keepT (ts' := ts.set y (ts.getD y 0 + ts.getD n 0)) s6'
        have hTi7 : upd H6 Ti (.lst ((ts.set y (ts.getD y 0 + ts.getD n 0)).map V.int)) Ti = some (.lst ((ts.set y (ts.getD y 0 + ts.getD n 0)).map V.int)) := upd_same
        have hSu7 : upd H6 Ti (.lst ((ts.set y (ts.getD y 0 + ts.getD n 0)).map V.int)) Su = some (.lst (su.map V.int)) := by rw [upd_ne nST]; exact hSu6
        generalize upd H6 Ti (.lst ((ts.set y (ts.getD y 0 + ts.getD n 0)).map V.int)) = H7 at s7' hTi7 hSu7
        have hp7 := sqt_ext (same_ext s7') hp
        have hz : z < (ts.set y (ts.getD y 0 + ts.getD n 0)).length := by rw [List.length_set, bal.tl]; omega
        have tget2 : atI ((ts.set y (ts.getD y 0 + ts.getD n 0)).map V.int) ((n : Nat) : Int) = some (.int (ts.getD n 0)) := by
          have := atI_getD (ns := ts.set y (ts.getD y 0 + ts.getD n 0)) (i := n) (by rw [List.length_set, bal.tl]; exact ln)
          rwa [getD_set hy, if_neg (by omega)] at this
        refine ⟨_, rfl, _, rfl, _, _, _, _, rfl, rfl, hp7, at2 _ _ _ _, Ti, _, _, _, rfl, rfl, SqL.of hTi7, atI_getD hz, ?_⟩
        refine ⟨_, rfl, _, rfl, Ti, _, _, _, rfl, rfl, SqL.of hTi7, tget2, _, _, rfl, rfl, Ti, _, _, z, rfl, rfl, hTi7, ixN_nat (by rw [List.length_map]; exact hz), ?_⟩
        rw [setI]
        exact ⟨su, _, _, _, _, _, rfl, keepT s7', by rw [upd_ne nST]; exact hSu7, upd_same, bal.pair hv er⟩
      | power y z =>
        have v1 := vr.1
        have v2 := vr.2
        have hy : y < ts.length := by rw [bal.tl]; omega
        have tl := bal.le hb c0
        have tn := bal.n n
        refine ⟨_, rfl, _, _, _, _, rfl, rfl, hp6, at0 _ _, rfl, _, rfl, ?_⟩
        rw [dec_str, decide_eq_false (by decide)]
        refine iteF (iteF ⟨_, rfl, _, _, _, _, rfl, rfl, hp6, at0 _ _, rfl, _, rfl, ?_⟩)
        rw [dec_str, decide_eq_false (by decide)]
        refine iteF ⟨_, rfl, _, _, _, _, rfl, rfl, hp6, at0 _ _, rfl, _, rfl, ?_⟩
        rw [dec_str, decide_eq_false (by decide)]
        refine iteF ⟨_, rfl, _, rfl, _, _, _, _, rfl, rfl, hp6, at1 _ _ _, Ti, _, _, _, rfl, rfl, SqL.of hTi6, atI_getD hy, ?_⟩
        refine ⟨_, rfl, _, rfl, Ti, _, _, _, rfl, rfl, SqL.of hTi6, tget, ?_⟩
        refine ⟨_, rfl, _, _, _, _, rfl, rfl, hp6, at2 _ _ _ _, _, _, rfl, rfl, mulw tn tl (by omega) v2.2, _, _, rfl, rfl, Ti, _, _, y, rfl, rfl, hTi6, ixN_nat (by rw [List.length_map]; exact hy), ?_⟩
        rw [setI]
        exact ⟨su, _, _, _, _, _, rfl, keepT s6', by rw [upd_ne nST]; exact hSu6, upd_same, bal.power hv er⟩
    · rintro σ H6 ⟨su, ts, s4, s5, s6, s7, rfl, s6', hSu6, hTi6, bal⟩
      rw [Nat.sub_self] at bal
      have k6 : Keep T H H6 := ⟨k2.1.trans (same_ext s6'), tab_same s6' k2.2⟩
      refine ⟨_, rfl, Su, _, rfl, SqL.of hSu6, fun D hD => ?_⟩
      refine lc_enumL (xs := su.map V.int) (fun j H' => Same H6 H' ∧ ∃ acc, H' D = some (.lst acc) ∧ acc.length ≤ j ∧ PTs K H' acc (balD rs j)) ⟨same_new hD _, [], upd_same, Nat.le_refl _, .nil⟩ ?_ ?_ ?_
      · rintro j H7 _ ⟨s7', _⟩
        exact SqL.of (s7' _ _ hSu6)
      · rintro j x H7 Tp hx ⟨s7', acc, hD7, hal, pts⟩ hTp
        have hj : j < 21 := by
          have := (List.getElem?_eq_some_iff.mp hx).1
          rw [List.length_map, bal.sl] at this
          exact this
        have ex : x = .int (balN rs j) := by
          rw [List.getElem?_map, List.getElem?_eq_getElem (by rw [bal.sl]; exact hj)] at hx
          have := bal.done hj
          rw [List.getD_eq_getElem?_getD, List.getElem?_eq_getElem (by rw [bal.sl]; exact hj)] at this
          rw [← this]
          exact (Option.some.inj hx).symm
        subst ex
        have sT := same_new hTp (.tup [.int (j : Nat), .int (balN rs j)])
        have hD8 := sT _ _ hD7
        have pts8 := pts.tk (TK.same sT)
        have s8' := s7'.trans sT
        refine ⟨Tp, _, rfl, SqT.of upd_same, rfl, _, _, rfl, _, _, rfl, rfl, ?_⟩
        generalize upd H7 Tp (.tup [.int (j : Nat), .int (balN rs j)]) = H8 at hD8 pts8 s8'
        refine ⟨rfl, _, rfl, rfl, _, rfl, ?_⟩
        by_cases c : balN rs j = 0
        · rw [show (!decide (V.int (balN rs j) = V.int 0)) = false by rw [c, decide_eq_true rfl]; rfl]
          refine iteF ⟨s8', acc, hD8, by omega, ?_⟩
          rw [balD_succ, if_pos c, List.append_nil]
          exact pts8
        · rw [show (!decide (V.int (balN rs j) = V.int 0)) = true by rw [decide_eq_false (fun z => c (V.int.inj z))]; rfl]
          refine iteT ⟨_, rfl, _, rfl, (by show 2 ≤ sizeLine; decide), fun t ht => ?_⟩
          have sU := same_new ht (.tup [.int (j : Int), .int (balN rs j)])
          refine ⟨acc, sU _ _ hD8, Nat.lt_of_le_of_lt (show _ ≤ 21 by omega) (by decide), fun p o h => ?_, _, upd_same, by rw [List.length_append]; simp only [List.length_cons, List.length_nil]; omega, ?_⟩
          · have : p ≠ D := fun z => by rw [z, hD] at h; cases h
            rw [upd_ne this]
            exact sU _ _ (s8' p o h)
          · rw [balD_succ, if_neg c]
            have tk := (TK.upd (H := upd H8 t (.tup [.int (j : Int), .int (balN rs j)])) (o := .lst (acc ++ [.ref t])) (sU _ _ hD8))
            exact (pts8.tk ((TK.same sU).trans tk)).snoc (sqt_tk tk (SqT.of upd_same))
      · rintro H7 ⟨s7', acc, hD7, hal, pts⟩
        rw [List.length_map, bal.sl] at pts
        refine ⟨D, acc, rfl, .inl ⟨SqL.of hD7, fun p hp => ?_⟩⟩
        have sU := same_new hp (.tup acc)
        exact q p acc _ ⟨k6.1.trans (same_ext (s7'.trans sU)), tab_same (s7'.trans sU) k6.2⟩ upd_same (pts.tk (TK.same sU)).dp
theorem ok_balance {f : Addr} {fd : FuncData} (F : C8.Def K mg "balance" (topS 22) f fd) (b : Binds K fd ["text"] []) (B : Bl mg) {T : Addr} (hrev : mg "reversed" = none) (c_want_straight : C8.Cal P w K mg base 7 "want_straight" (spWant K T) []) (c_rule_sizes : C8.Cal P w K mg base 1 "rule_sizes" (spSizes K) []) : C8.Cal P w K mg base 8 "balance" (spBalance K T) [] :=
  ⟨f, fd, _, _, fn_balance F b B hrev c_want_straight c_rule_sizes, F.mgf, F.kp, b, .nil⟩
end
end K35


set_option Elab.async false
set_option linter.all false
set_option maxRecDepth 100000
set_option maxHeartbeats 8000000
namespace K35
open PySem PySem.Spec PyProof.Rows L2
/-! ### dicts of ints -/
def clip (f : Int → Int) : Int → Int := fun x => if 1 ≤ x ∧ x ≤ 20 then f x else 0
structure DV (kvs : List (Key × V)) (f : Int → Int) : Prop where
  ex : ∃ ks : List Int, kvs.map (·.1) = ks.map Sum.inl ∧ ks.Nodup ∧ (∀ x ∈ ks, 1 ≤ x ∧ x ≤ 20) ∧ (∀ x ∈ ks, valV kvs (.inl x) = some (.int (f x))) ∧ ∀ x, x ∉ ks → valV kvs (.inl x) = none ∧ f x = 0
theorem DV.nil : DV [] fun _ => 0 := ⟨[], rfl, List.nodup_nil, (fun _ h => by cases h), (fun _ h => by cases h), fun _ _ => ⟨rfl, rfl⟩⟩
theorem DV.congr {kvs : List (Key × V)} {f g : Int → Int} (h : DV kvs f) (e : ∀ x, f x = g x) : DV kvs g := by
  rwa [← (funext e : f = g)]
theorem DV.put {kvs : List (Key × V)} {f : Int → Int} (h : DV kvs f) {x z : Int} (h1 : 1 ≤ x) (h2 : x ≤ 20) : DV (putK kvs (.inl x) (.int z)) fun y => if y = x then z else f y := by
  obtain ⟨ks, e1, e2, e3, e4, e5⟩ := h.ex
  by_cases hx : x ∈ ks
  · have ha : (kvs.any fun kv => decide (kv.1 = Sum.inl x)) = true := by rw [valV_any, e4 x hx]; rfl
    refine ⟨ks, ?_, e2, e3, fun y hy => ?_, fun y hy => ?_⟩
    · unfold putK
      rw [if_pos ha, List.map_map, ← e1]
      apply List.map_congr_left
      intro kv _
      show (if kv.1 = Sum.inl x then (kv.1, V.int z) else kv).1 = kv.1
      split <;> rfl
    · rw [valV_put]
      by_cases q : y = x
      · subst q; rw [if_pos rfl, if_pos rfl]
      · rw [if_neg (fun z => q (Sum.inl.inj z)), if_neg q]; exact e4 y hy
    · have q : y ≠ x := fun z => hy (z ▸ hx)
      rw [valV_put, if_neg (fun z => q (Sum.inl.inj z))]
      refine ⟨(e5 y hy).1, ?_⟩
      show (if y = x then z else f y) = 0
      rw [if_neg q]
      exact (e5 y hy).2
  · have ha : ¬ (kvs.any fun kv => decide (kv.1 = Sum.inl x)) = true := by rw [valV_any, (e5 x hx).1]; decide
    refine ⟨ks ++ [x], ?_, ?_, fun y hy => ?_, fun y hy => ?_, fun y hy => ?_⟩
    · unfold putK
      rw [if_neg ha, List.map_append, List.map_append, e1]
      rfl
    · rw [List.nodup_append]
      refine ⟨e2, by simp, fun a ha b hb => ?_⟩
      cases List.mem_singleton.mp hb
      exact fun z => hx (z ▸ ha)
    · rcases List.mem_append.mp hy with hy | hy
      · exact e3 y hy
      · cases List.mem_singleton.mp hy; exact ⟨h1, h2⟩
    · rw [valV_put]
      by_cases q : y = x
      · subst q; rw [if_pos rfl, if_pos rfl]
      · rw [if_neg (fun z => q (Sum.inl.inj z)), if_neg q]
        rcases List.mem_append.mp hy with hy | hy
        · exact e4 y hy
        · exact absurd (List.mem_singleton.mp hy) q
    · have q : y ≠ x := fun z => hy (List.mem_append_right _ (List.mem_singleton.mpr z))
      have hy' : y ∉ ks := fun z => hy (List.mem_append_left _ z)
      rw [valV_put, if_neg (fun z => q (Sum.inl.inj z))]
      refine ⟨(e5 y hy').1, ?_⟩
      show (if y = x then z else f y) = 0
      rw [if_neg q]
      exact (e5 y hy').2
theorem pig : ∀ (n : Nat) (l : List Int), l.Nodup → (∀ x ∈ l, 1 ≤ x ∧ x ≤ (n : Int)) → l.length ≤ n
  | 0, l, _, h => by
    cases l with
    | nil => exact Nat.le_refl _
    | cons x r => have := h x List.mem_cons_self; omega
  | n + 1, l, hn, h => by
    have hm : ∀ x ∈ l.erase ((n + 1 : Nat) : Int), 1 ≤ x ∧ x ≤ (n : Int) := fun x hx => by
      have := (List.Nodup.mem_erase_iff hn).mp hx
      have := h x this.2
      omega
    have ih := pig n _ (hn.erase _) hm
    have := List.length_erase_le (a := ((n + 1 : Nat) : Int)) (l := l)
    by_cases c : ((n + 1 : Nat) : Int) ∈ l
    · have := List.length_erase_of_mem c
      omega
    · rw [List.erase_of_not_mem c] at ih
      omega
theorem DV.len {kvs : List (Key × V)} {f : Int → Int} (h : DV kvs f) : kvs.length ≤ 20 := by
  obtain ⟨ks, e1, e2, e3, _⟩ := h.ex
  have := congrArg List.length e1
  rw [List.length_map, List.length_map] at this
  rw [this]
  exact pig 20 ks e2 e3
theorem nodup_take {l : List Int} {u : Nat} {x : Int} (h : l.Nodup) (e : l[u]? = some x) : x ∉ l.take u := by
  have h2 := List.Nodup.sublist (List.take_sublist (u + 1) l) h
  rw [take_succ e, List.nodup_append] at h2
  exact fun hx => h2.2.2 x hx x (List.mem_singleton.mpr rfl) rfl
def gI (f : Int → Int) (x : Int) : Option PyData := if f x = 0 then none else some (.tuple [.int x, .int (f x)])
theorem fm_range (g : Int → Option PyData) : ∀ (k : Nat) (a : Int) (l : List Int), l.Pairwise (· < ·) → (∀ x ∈ l, a ≤ x ∧ x < a + k) → (∀ x, a ≤ x → x < a + k → x ∉ l → g x = none) → l.filterMap g = (List.range k).filterMap fun n : Nat => g (a + (n : Int))
  | 0, a, l, _, h, _ => by
    cases l with
    | nil => rfl
    | cons x r => have := h x List.mem_cons_self; omega
  | k + 1, a, l, hp, h, hn => by
    have e : (List.range (k + 1)).filterMap (fun n : Nat => g (a + (n : Int))) = ([0].filterMap fun n : Nat => g (a + (n : Int))) ++ (List.range k).filterMap fun n : Nat => g (a + 1 + (n : Int)) := by
      rw [List.range_succ_eq_map, ← List.singleton_append, List.filterMap_append, List.filterMap_map]
      congr 1
      refine UG.fm_congr fun n _ => ?_
      show g (a + ((n + 1 : Nat) : Int)) = g (a + 1 + (n : Int))
      congr 1
      omega
    rw [e]
    by_cases ha : a ∈ l
    · cases l with
      | nil => cases ha
      | cons x r =>
        have hr := List.pairwise_cons.mp hp
        have hxa : x = a := by
          rcases List.mem_cons.mp ha with z | z
          · exact z.symm
          · have := hr.1 a z
            have := h x List.mem_cons_self
            omega
        subst hxa
        rw [← List.singleton_append, List.filterMap_append, fm_range g k (x + 1) r hr.2 (fun y hy => by have := hr.1 y hy; have := h y (List.mem_cons_of_mem _ hy); omega) fun y h1 h2 h3 => hn y (by omega) (by omega) fun z => by
          rcases List.mem_cons.mp z with z | z
          · omega
          · exact h3 z]
        congr 1
        rw [List.filterMap_cons, List.filterMap_cons, show x + ((0 : Nat) : Int) = x by omega]
        cases g x <;> rfl
    · have g0 := hn a (Int.le_refl _) (by omega) ha
      rw [fm_range g k (a + 1) l hp (fun y hy => by
        have h1 := h y hy
        have : y ≠ a := fun z => ha (z ▸ hy)
        omega) fun y h1 h2 h3 => hn y (by omega) (by omega) h3]
      have : ([0].filterMap fun n : Nat => g (a + (n : Int))) = [] := by simp [g0]
      rw [this, List.nil_append]
theorem out_eq (rs : List Rl) {ys ks : List Int} (hs : ys.Pairwise (· ≤ ·)) (hp : ys.Perm ks) (hn : ks.Nodup) (h3 : ∀ x ∈ ks, 1 ≤ x ∧ x ≤ 20) {kvs : List (Key × V)} (h5 : ∀ x, x ∉ ks → valV kvs (.inl x) = none ∧ clip (BL rs (rs.length - 1)) x = 0) :
    ys.filterMap (gI (clip (BL rs (rs.length - 1)))) = balD rs 21 := by
  have hyn : ys.Nodup := hp.nodup_iff.mpr hn
  have hlt : ys.Pairwise (· < ·) := by
    have := hs.and hyn
    exact this.imp fun {a b} h => by have := h.1; have := h.2; omega
  rw [fm_range (gI (clip (BL rs (rs.length - 1)))) 21 0 ys hlt (fun x hx => by have := h3 x (hp.mem_iff.mp hx); omega) fun x _ _ hx => by
    unfold gI
    rw [if_pos (h5 x fun z => hx (hp.mem_iff.mpr z)).2]]
  unfold balD
  refine UG.fm_congr fun n hn' => ?_
  have hn2 := List.mem_range.mp hn'
  unfold gI balN
  rw [show (0 : Int) + (n : Int) = (n : Int) by omega]
  have : clip (BL rs (rs.length - 1)) (n : Int) = if n = 0 then 0 else BL rs (rs.length - 1) (n : Int) := by
    unfold clip
    by_cases z : n = 0
    · rw [if_pos z, if_neg (by omega)]
    · rw [if_neg z, if_pos (by omega)]
  rw [this]
theorem for_itk {d : Addr} {o : Obj} {kvs : List (Key × V)} {g : TG} {tb : TS} {D : Ends} {σ : L2.St} {H : Hp} (Pv : Nat → L2.St → Hp → Prop) (h0 : Pv 0 σ H) (hl : ∀ i σ H, i ≤ kvs.length → Pv i σ H → H d = some (.frz o (.dK kvs)))
    (hs : ∀ i k v σ H, kvs[i]? = some (k, v) → Pv i σ H → g (kV k) σ H fun σ2 H2 => tb { D with nx := Pv (i + 1), ct := Pv (i + 1), bk := D.nx } σ2 H2) (hd : ∀ σ H, Pv kvs.length σ H → D.nx σ H) :
    ∃ W : Nat → Nat → L2.St → Hp → Prop, (∃ m, W 0 m σ H) ∧ ∀ i m σ H, W i m σ H →
      ((Itk d o kvs).stop i H ∧ D.nx σ H) ∨ ((Itk d o kvs).go i H ∧ ∃ N : L2.St → Hp → Prop, (∀ σ' H', N σ' H' → ∃ m', m' < m ∧ W (i + 1) m' σ' H') ∧ ∀ x H', (Itk d o kvs).yld i H x H' → g x σ H' fun σ2 H2 => tb { D with nx := N, ct := N, bk := D.nx } σ2 H2) := by
  refine ⟨fun i m σ H => (i ≤ kvs.length ∧ m = kvs.length - i) ∧ Pv i σ H, ⟨kvs.length, ⟨Nat.zero_le _, by simp⟩, h0⟩, ?_⟩
  rintro i m σ H ⟨⟨hi, rfl⟩, p⟩
  have q := hl i σ H hi p
  by_cases hlt : i < kvs.length
  · refine .inr ⟨⟨q, hlt⟩, Pv (i + 1), fun σ' H' p' => ⟨kvs.length - (i + 1), by omega, ⟨hlt, rfl⟩, p'⟩, ?_⟩
    rintro x H' ⟨e0, k, v, e, ex⟩
    rw [e0, ex]
    exact hs i k v σ H e p
  · obtain rfl : i = kvs.length := by omega
    exact .inl ⟨⟨q, Nat.le_refl _⟩, hd σ H p⟩
theorem keys_at {kvs : List (Key × V)} {ks : List Int} (e : kvs.map (·.1) = ks.map Sum.inl) {i : Nat} {k : Key} {v : V} (h : kvs[i]? = some (k, v)) : ∃ x, ks[i]? = some x ∧ k = .inl x := by
  have := congrArg (fun l => l[i]?) e
  simp only [List.getElem?_map, h, Option.map_some] at this
  cases q : ks[i]? with
  | none => rw [q] at this; cases this
  | some x => rw [q] at this; exact ⟨x, rfl, Option.some.inj this⟩
/-- the law's sums in the heap -/
def DS (H : Hp) (rs : List Rl) (zs : List V) : Prop := ∀ n v, zs[n]? = some v → ∃ d kvs, v = .ref d ∧ H d = some (.dK kvs) ∧ DV kvs (clip (BL rs n))
theorem bl_abs {rs : List Rl} (hv : Valid rs) (hb : SzB rs) {x : Int} (hx : 1 ≤ x) : ∀ (N n : Nat), n < N → n < rs.length → -(szs rs).getD n 0 ≤ BL rs n x ∧ BL rs n x ≤ (szs rs).getD n 0
  | 0, _, h, _ => absurd h (Nat.not_lt_zero _)
  | N + 1, n, h, hl => by
    obtain ⟨r, e⟩ : ∃ r, rs[n]? = some r := ⟨_, List.getElem?_eq_getElem hl⟩
    have v := hv n r e
    rw [sz_at hv e]
    cases r with
    | none =>
      rw [bl_none e]
      show -(0 : Int) ≤ 0 ∧ (0 : Int) ≤ 0
      exact ⟨by decide, by decide⟩
    | letter y =>
      rw [bl_letter e]
      show -(1 : Int) ≤ lb y x ∧ lb y x ≤ 1
      unfold lb
      split
      · exact ⟨by decide, by decide⟩
      · split <;> exact ⟨by decide, by decide⟩
    | pair i j =>
      have v1 := v.1
      have v2 := v.2
      have a := bl_abs hv hb hx N i (by omega) (by omega)
      have b := bl_abs hv hb hx N j (by omega) (by omega)
      rw [bl_pair hv e]
      show -((szs rs).getD i 0 + (szs rs).getD j 0) ≤ _ ∧ _ ≤ (szs rs).getD i 0 + (szs rs).getD j 0
      omega
    | power i k =>
      have v1 := v.1
      have v2 := v.2.1
      have a := bl_abs hv hb hx N i (by omega) (by omega)
      rw [bl_power hv e]
      show -((szs rs).getD i 0 * k) ≤ _ ∧ _ ≤ (szs rs).getD i 0 * k
      rw [← Int.neg_mul]
      exact ⟨Int.mul_le_mul_of_nonneg_right a.1 (by omega), Int.mul_le_mul_of_nonneg_right a.2 (by omega)⟩
theorem mulw2 {a k : Int} (h0 : -10000000000000000000000000000000000000000 ≤ a) (h1 : a ≤ 10000000000000000000000000000000000000000) (h2 : 0 ≤ k) (h3 : k ≤ 1000000000000000000000) : CMulW a k :=
  wide_mul (a := 200) (b := 100) (Nat.lt_of_le_of_lt (show a.natAbs ≤ 10000000000000000000000000000000000000000 by omega) (by decide)) (Nat.lt_of_le_of_lt (show k.natAbs ≤ 1000000000000000000000 by omega) (by decide)) (by decide) (by decide) (by decide)
theorem sqt_sf {K : PySem.W.Frag} {H H' : Hp} {F p : Addr} {fk : List (Key × V)} {ys : List V} (s : ∀ q o, q ≠ F → H q = some o → H' q = some o) (hF : H F = some (.dK fk)) (h : SqT K H p ys) : SqT K H' p ys := by
  rcases h with (h | ⟨o, h⟩) | h
  · exact .inl (.inl (s _ _ (fun z => by rw [z, hF] at h; cases h) h))
  · exact .inl (.inr ⟨o, s _ _ (fun z => by rw [z, hF] at h; cases h) h⟩)
  · exact .inr h
section
variable {P : Program} {w : World} {K : PySem.W.Frag} {mg : Str → Option Value} {base : Heap}
def spLawBal (K : PySem.W.Frag) : Sp := fun vs H Q _ => ∃ (a : Addr) (rs : List Rl), vs = [.ref a] ∧ TX K H a rs ∧ Valid rs ∧ 1 ≤ rs.length ∧ rs.length ≤ 4000 ∧ SzB rs ∧ ∀ p vs' H', Same H H' → H' p = some (.tup vs') → DpAll K H' vs' (balD rs 21) → Q (.ref p) H'
theorem sc__law_balance : FnScope ["rules", "sums", "rule", "found", "x", "part"] ["rules"] (C8.fnScope (topS 32)) := C8.fnScope_by (by decide +kernel)
theorem ok__law_balance {f : Addr} {fd : FuncData} (F : C8.Def K mg "_law_balance" (topS 32) f fd) (b : Binds K fd ["rules"] []) (B : Bl mg) (hsort : mg "sorted" = none) : C8.Cal P w K mg base 1 "_law_balance" (spLawBal K) [] := by
  refine C8.cal0 F b .nil sc__law_balance ?len ?body
  case len => rintro vs H Q E ⟨a, rs, rfl, _⟩; rfl
  case body =>
    rintro cdv A outer s H vs Q E hr ⟨a, rs, rfl, tx, hv, h1, h2, hb, q⟩
    refine ⟨_, (pss_cons (ps_set (i := 1) sc__law_balance.nd rfl (Or.inr rfl) (pe_lst pa_nil))
    (pss_cons (ps_for PassesOwn.never rfl (pi_tup (pv 0)) (pg_name (i := 2) sc__law_balance.nd rfl (Or.inl rfl))
    (pss_cons (ps_set (i := 3) sc__law_balance.nd rfl (Or.inl rfl) pe_dnewK)
    (pss_cons (ps_if (pt_cmpR op_eq (pe_ix ix_tup (pv 2) pe_int (fun _ _ => rfl)) pe_str (nomark _)) (pss_one (ps_dput (hu_of hr) (pv 3) (pe_callB call_abs rfl B.abs (by decide +kernel) (pa_cons (pe_ix ix_tup (pv 2) pe_int (fun _ _ => rfl)) pa_nil)) (pe_ix ix_list (pe_lst (pa_cons pe_int (pa_cons (pe_un un_neg pe_int) pa_nil))) (pe_callTy call_int1 rfl B.int (by decide +kernel) (pa_cons (pe_cmpR op_lt (pe_ix ix_tup (pv 2) pe_int (fun _ _ => rfl)) pe_int (nomark _)) pa_nil)) (fun _ _ => rfl)) rfl)) pss_nil)
    (pss_cons (ps_if (pt_cmpR op_eq (pe_ix ix_tup (pv 2) pe_int (fun _ _ => rfl)) pe_str (nomark _)) (pss_one (ps_lock (ps_for PassesOwn.never rfl (pi_keys (pe_ix ix_list (pv 1) (pe_ix ix_tup (pv 2) pe_int (fun _ _ => rfl)) (fun _ _ => rfl))) (pg_name (i := 4) sc__law_balance.nd rfl (Or.inl rfl))
    (pss_one (ps_dput (hu_of hr) (pv 3) (pv 4) (pe_op op_mulW (pe_dget (hu_of hr) (pe_ix ix_list (pv 1) (pe_ix ix_tup (pv 2) pe_int (fun _ _ => rfl)) (fun _ _ => rfl)) (pv 4) (fun _ _ => rfl)) (pe_ix ix_tup (pv 2) pe_int (fun _ _ => rfl))) rfl))))) pss_nil)
    (pss_cons (ps_for PassesOwn.never rfl (pi_tup (pe_ifExp (pt_cmpR op_eq (pe_ix ix_tup (pv 2) pe_int (fun _ _ => rfl)) pe_str (nomark _)) (pe_slice sl_tupA (pv 2) (po_some pe_int) po_none) (pe_tup pa_nil))) (pg_name (i := 5) sc__law_balance.nd rfl (Or.inl rfl))
    (pss_one (ps_lock (ps_for PassesOwn.never rfl (pi_keys (pe_ix ix_list (pv 1) (pv 5) (fun _ _ => rfl))) (pg_name (i := 4) sc__law_balance.nd rfl (Or.inl rfl))
    (pss_one (ps_dput (hu_of hr) (pv 3) (pv 4) (pe_op op_add (pe_dget2 (hu_of hr) (pv 3) (pv 4) pe_int (by constructor <;> rfl)) (pe_dget (hu_of hr) (pe_ix ix_list (pv 1) (pv 5) (fun _ _ => rfl)) (pv 4) (fun _ _ => rfl))) rfl))))))
    (pss_one (ps_expr (pe_bm PySem.F.plainAttrs_list PySem.F.slot_list_append PySem.F.type_list_append mt_append (pv 1) (pa_cons (pv 3) pa_nil)))))))))
    (pss_one (ps_ret (pe_callTy call_tuple_of rfl B.tuple (by decide +kernel) (pa_cons (pe_lc (own := [("x", 4)]) (g := gName 4) (tt := tTest (tOp rNe (tDGet (tOp (rIxL K) (tVar 1) (tUn (rU fun i => .int (-i)) (tC (.int 1)))) (tVar 4)) (tC (.int 0)))) (te := tTup (tCons (tVar 4) (tCons (tDGet (tOp (rIxL K) (tVar 1) (tUn (rU fun i => .int (-i)) (tC (.int 1)))) (tVar 4)) tNil))) rfl sc__law_balance.nd (pi_list (pe_callB (call_sortedDI rfl) rfl hsort (by decide +kernel) (pa_cons (pe_ix ix_list (pv 1) (pe_un un_neg pe_int) (fun _ _ => rfl)) pa_nil))) (blkOk_by (own := [("x", 4)]) (N := ["rules", "sums", "rule", "found", "x", "part"]) (sc := (C8.fnScope (topS 32))) (by decide +kernel)) (fun _ _ _ _ _ => pg_name (i := 4) sc__law_balance.nd rfl (Or.inl rfl)) (fun _ _ _ _ _ => by exact (pts_one (pt_cmpR op_ne (pe_dget (hu_of hr) (pe_ix ix_list (pv 1) (pe_un un_neg pe_int) (fun _ _ => rfl)) (pv 4) (fun _ _ => rfl)) pe_int (nomark _)))) (fun _ _ _ _ _ => by exact (pe_tup (pa_cons (pv 4) (pa_cons (pe_dget (hu_of hr) (pe_ix ix_list (pv 1) (pe_un un_neg pe_int) (fun _ _ => rfl)) (pv 4) (fun _ _ => rfl)) pa_nil))))) pa_nil)))))), ?_⟩
    obtain ⟨xs, hs, hf⟩ := tx.ex
    have hxl : xs.length = rs.length := by rw [fts_len hf, List.length_map]
    refine ⟨(by show 0 ≤ sizeLine; decide), fun S hS => ?_⟩
    have s0 := same_new hS (.lst [])
    refine ⟨_, rfl, a, rfl, ⟨xs, sqt_ext (same_ext s0) hs⟩, ?_⟩
    refine for_tup (xs := xs) (fun i σ H' => ∃ (t2 t3 t4 t5 : Option V) (zs : List V), σ = [some (.ref a), some (.ref S), t2, t3, t4, t5] ∧ Same H H' ∧ H' S = some (.lst zs) ∧ zs.length = i ∧ DS H' rs zs) ⟨none, none, none, none, [], rfl, s0, upd_same, rfl, fun n v e => by simp at e⟩ ?_ ?_ ?_
    · rintro i σ H1 _ ⟨_, _, _, _, _, _, s1, _⟩
      exact sqt_ext (same_ext s1) hs
    · rintro n x σ H1 hx ⟨t2, t3, t4, t5, zs, rfl, s1, hS1, hzl, ds⟩
      have hi : n < rs.length := by rw [← hxl]; exact (List.getElem?_eq_some_iff.mp hx).1
      obtain ⟨r, er⟩ : ∃ r, rs[n]? = some r := ⟨_, List.getElem?_eq_getElem hi⟩
      obtain ⟨p, ep, hp⟩ := fts_get hf er
      rw [hx] at ep
      cases ep
      have vr := hv n r er
      refine name_of' ?_
      refine fun F hF => ?_
      have s2 := s1.trans (same_new hF (.dK []))
      have hF2 : upd H1 F (.dK []) F = some (.dK []) := upd_same
      have hS2 : upd H1 F (.dK []) S = some (.lst zs) := same_new hF (.dK []) _ _ hS1
      have nFS : F ≠ S := fun z => by rw [z, hS1] at hF; cases hF
      have ds2 : DS (upd H1 F (.dK [])) rs zs := fun m v e => by
        obtain ⟨d, kvs, e1, e2, e3⟩ := ds m v e
        exact ⟨d, kvs, e1, same_new hF _ _ _ e2, e3⟩
      have nFd : ∀ {m : Nat} {d : Addr}, zs[m]? = some (.ref d) → d ≠ F := fun {m d} e z => by
        obtain ⟨d', kvs, e1, e2, _⟩ := ds m _ e
        cases e1
        rw [z, hF] at e2
        cases e2
      have hF0 : H F = none := by
        cases e : H F with
        | none => rfl
        | some o => rw [s1 _ _ e] at hF; cases hF
      generalize upd H1 F (.dK []) = H2 at s2 hF2 hS2 ds2
      -- the end of a turn
      have done : ∀ {H3 : Hp} {kvs : List (Key × V)} {t4 t5 : Option V}, (∀ q o, q ≠ F → H2 q = some o → H3 q = some o) → H3 F = some (.dK kvs) → DV kvs (clip (BL rs n)) → ∃ (t2' t3' t4' t5' : Option V) (zs' : List V), ([some (.ref a), some (.ref S), some (.ref p), some (.ref F), t4, t5] : L2.St) = [some (.ref a), some (.ref S), t2', t3', t4', t5'] ∧ Same H (upd H3 S (.lst (zs ++ [.ref F]))) ∧ upd H3 S (.lst (zs ++ [.ref F])) S = some (.lst zs') ∧ zs'.length = n + 1 ∧ DS (upd H3 S (.lst (zs ++ [.ref F]))) rs zs' := fun {H3 kvs t4 t5} sf hF3 dv => by
        refine ⟨_, _, _, _, _, rfl, fun q o h => ?_, upd_same, by rw [List.length_append, hzl]; rfl, fun m v e => ?_⟩
        · have n1 : q ≠ S := fun z => by rw [z, hS] at h; cases h
          have n2 : q ≠ F := fun z => by rw [z, hF0] at h; cases h
          rw [upd_ne n1]
          exact sf _ _ n2 (s2 _ _ h)
        · by_cases hm : m < zs.length
          · rw [List.getElem?_append_left hm] at e
            obtain ⟨d, kvs', e1, e2, e3⟩ := ds2 m v e
            subst e1
            have n1 : d ≠ S := fun z => by rw [z, hS2] at e2; cases e2
            exact ⟨d, kvs', rfl, by rw [upd_ne n1]; exact sf _ _ (nFd e) e2, e3⟩
          · rw [List.getElem?_append_right (by omega)] at e
            have hm0 : m - zs.length = 0 := by
              by_cases z : m - zs.length = 0
              · exact z
              · obtain ⟨k, hk⟩ := Nat.exists_eq_succ_of_ne_zero z
                rw [hk] at e
                simp at e
            rw [hm0] at e
            cases e
            rw [show m = n by omega]
            exact ⟨F, kvs, rfl, by rw [upd_ne nFS]; exact hF3, dv⟩
      have hp2 := sqt_ext (same_ext s2) hp
      have sm : zs.length < sizeLine := Nat.lt_of_le_of_lt (show _ ≤ 4000 by omega) (by decide)
      refine name_of' ?_
      cases r with
      | none =>
        refine ⟨_, rfl, _, _, _, _, rfl, rfl, hp2, at0 _ _, rfl, _, rfl, ?_⟩
        rw [dec_str, decide_eq_false (by decide)]
        refine iteF ⟨_, rfl, _, _, _, _, rfl, rfl, hp2, at0 _ _, rfl, _, rfl, ?_⟩
        rw [dec_str, decide_eq_false (by decide)]
        refine iteF ?_
        refine next_of ?_
        have dv0 : DV [] (clip (BL rs n)) := DV.nil.congr fun x => by
          unfold clip
          rw [bl_none er]
          split <;> rfl
        refine ⟨_, rfl, _, _, _, _, rfl, rfl, hp2, at0 _ _, rfl, _, rfl, ?_⟩
        rw [dec_str, decide_eq_false (by decide)]
        refine iteF ⟨(by show 0 ≤ sizeLine; decide), fun q0 hq0 => ⟨q0, rfl, ⟨[], SqT.of upd_same⟩, ?_⟩⟩
        have sQ := same_new hq0 (.tup [])
        refine for_tup (xs := []) (fun i σ H' => (∃ t4 t5, σ = [some (.ref a), some (.ref S), some (.ref p), some (.ref F), t4, t5]) ∧ H' = upd H2 q0 (.tup [])) ⟨⟨_, _, rfl⟩, rfl⟩ ?_ ?_ ?_
        · rintro i σ H' _ ⟨_, rfl⟩
          exact SqT.of upd_same
        · intro i y σ H' hy
          simp at hy
        · rintro σ H' ⟨⟨t4, t5, rfl⟩, rfl⟩
          exact ⟨_, rfl, .inl ⟨rfl, _, SqL.of (sQ _ _ hS2)⟩, _, rfl, S, _, _, rfl, rfl, sQ _ _ hS2, sm, done (fun q o h1 h2 => sQ _ _ ((fun q o (_ : q ≠ F) (h : H2 q = some o) => h) q o h1 h2)) (sQ _ _ hF2) dv0⟩
      | letter y =>
        refine ⟨_, rfl, _, _, _, _, rfl, rfl, hp2, at0 _ _, rfl, _, rfl, ?_⟩
        rw [dec_str, decide_eq_true rfl]
        refine iteT ⟨1, rfl, (by show 2 ≤ sizeLine; decide), fun ql hql => ?_⟩
        have sL := same_new hql (.lst [.int 1, .int (-1)])
        have hp3 := sqt_ext (same_ext sL) hp2
        have nFl : F ≠ ql := fun z => by rw [← z, hF2] at hql; cases hql
        have sg : ∃ z : Int, atI [V.int 1, V.int (-1)] (if decide (y < 0) = true then 1 else 0) = some (.int z) ∧ z = if y < 0 then -1 else 1 := by
          by_cases c : y < 0
          · rw [decide_eq_true c, if_pos rfl, if_pos c]; exact ⟨_, at1 _ _ _, rfl⟩
          · rw [decide_eq_false c, if_neg (by decide), if_neg c]; exact ⟨_, at0 _ _, rfl⟩
        obtain ⟨z, hz, ez⟩ := sg
        refine ⟨_, rfl, _, _, _, _, rfl, rfl, hp3, at1 _ _ _, _, _, rfl, rfl, .inr ⟨_, rfl, ql, _, _, _, rfl, rfl, SqL.of upd_same, hz, ?_⟩⟩
        have hF3 : upd H2 ql (.lst [.int 1, .int (-1)]) F = some (.dK []) := sL _ _ hF2
        refine ⟨_, rfl, _, rfl, _, _, _, _, rfl, rfl, hp3, at1 _ _ _, y, rfl, F, _, rfl, DPut.k (k := Sum.inl (if y < 0 then -y else y)) hF3 (by show 0 < sizeLine; decide), ?_⟩
        have bnd : 1 ≤ (if y < 0 then -y else y) ∧ (if y < 0 then -y else y) ≤ 20 := by
          have := vr.1; have := vr.2.1; have := vr.2.2
          split <;> omega
        have dv := (DV.nil.put (z := z) bnd.1 bnd.2).congr (g := clip (BL rs n)) fun x => by
          unfold clip
          rw [bl_letter er]
          unfold lb
          have := vr.1; have := vr.2.1; have := vr.2.2
          by_cases c : y < 0
          · rw [if_pos c] at ez ⊢
            by_cases q : x = -y
            · rw [if_pos q, if_pos (by omega), if_neg (by omega), if_pos (by omega), ez]
            · rw [if_neg q]
              by_cases q2 : 1 ≤ x ∧ x ≤ 20
              · rw [if_pos q2, if_neg (by omega), if_neg (by omega)]
              · rw [if_neg q2]
          · rw [if_neg c] at ez ⊢
            by_cases q : x = y
            · rw [if_pos q, if_pos (by omega), if_pos (by omega), ez]
            · rw [if_neg q]
              by_cases q2 : 1 ≤ x ∧ x ≤ 20
              · rw [if_pos q2, if_neg (by omega), if_neg (by omega)]
              · rw [if_neg q2]
        have sf : ∀ q o, q ≠ F → H2 q = some o → upd (upd H2 ql (.lst [.int 1, .int (-1)])) F (.dK (putK [] (Sum.inl (if y < 0 then -y else y)) (.int z))) q = some o := fun q o h1 h2 => by
          rw [upd_ne h1]; exact sL _ _ h2
        have hF4 : upd (upd H2 ql (.lst [.int 1, .int (-1)])) F (.dK (putK [] (Sum.inl (if y < 0 then -y else y)) (.int z))) F = some (.dK (putK [] (Sum.inl (if y < 0 then -y else y)) (.int z))) := upd_same
        generalize upd (upd H2 ql (.lst [.int 1, .int (-1)])) F (.dK (putK [] (Sum.inl (if y < 0 then -y else y)) (.int z))) = H3 at sf hF4
        have pF : p ≠ F ∨ True := .inr trivial
        have hp4 : SqT K H3 p (Rl.letter y).v := sqt_sf sf hF2 hp2
        have hS3 := sf _ _ (Ne.symm nFS) hS2
        dsimp only
        refine ⟨_, rfl, _, _, _, _, rfl, rfl, hp4, at0 _ _, rfl, _, rfl, ?_⟩
        rw [dec_str, decide_eq_false (by decide)]
        refine iteF ?_
        refine next_of ?_
        refine ⟨_, rfl, _, _, _, _, rfl, rfl, hp4, at0 _ _, rfl, _, rfl, ?_⟩
        rw [dec_str, decide_eq_false (by decide)]
        refine iteF ⟨(by show 0 ≤ sizeLine; decide), fun q0 hq0 => ⟨q0, rfl, ⟨[], SqT.of upd_same⟩, ?_⟩⟩
        have sQ := same_new hq0 (.tup [])
        refine for_tup (xs := []) (fun i σ H' => (∃ t4 t5, σ = [some (.ref a), some (.ref S), some (.ref p), some (.ref F), t4, t5]) ∧ H' = upd H3 q0 (.tup [])) ⟨⟨_, _, rfl⟩, rfl⟩ ?_ ?_ ?_
        · rintro i σ H' _ ⟨_, rfl⟩
          exact SqT.of upd_same
        · intro i y σ H' hy
          simp at hy
        · rintro σ H' ⟨⟨t4, t5, rfl⟩, rfl⟩
          exact ⟨_, rfl, .inl ⟨rfl, _, SqL.of (sQ _ _ hS3)⟩, _, rfl, S, _, _, rfl, rfl, sQ _ _ hS3, sm, done (fun q o h1 h2 => sQ _ _ (sf q o h1 h2)) (sQ _ _ hF4) dv⟩
      | pair y z =>
        refine ⟨_, rfl, _, _, _, _, rfl, rfl, hp2, at0 _ _, rfl, _, rfl, ?_⟩
        rw [dec_str, decide_eq_false (by decide)]
        refine iteF ⟨_, rfl, _, _, _, _, rfl, rfl, hp2, at0 _ _, rfl, _, rfl, ?_⟩
        rw [dec_str, decide_eq_false (by decide)]
        refine iteF ?_
        refine next_of ?_
        dsimp only
        refine ⟨_, rfl, _, _, _, _, rfl, rfl, hp2, at0 _ _, rfl, _, rfl, ?_⟩
        rw [dec_str, decide_eq_true rfl]
        refine iteT ⟨_, rfl, 1, rfl, p, _, rfl, hp2, fun z => absurd z (whole1 _ _), fun _ qs hqs => ⟨qs, rfl, ⟨_, SqT.of upd_same⟩, ?_⟩⟩
        have sQ := same_new hqs (.tup (cutV (Rl.pair y z).v (some 1) none))
        have hqs' : upd H2 qs (.tup (cutV (Rl.pair y z).v (some 1) none)) qs = some (.tup [.int (y : Int), .int (z : Int)]) := by
          rw [upd_same]
          show some (HO.tup (cutV [V.str "pair", V.int (y : Int), V.int (z : Int)] (some 1) none)) = _
          rw [cut1]
        have hFq := sQ _ _ hF2
        have hSq := sQ _ _ hS2
        have dsq : DS (upd H2 qs (.tup (cutV (Rl.pair y z).v (some 1) none))) rs zs := fun m v e => by
          obtain ⟨d, kvs, a1, a2, a3⟩ := ds2 m v e
          exact ⟨d, kvs, a1, sQ _ _ a2, a3⟩
        have sQ' : ∀ q o, q ≠ F → H2 q = some o → upd H2 qs (.tup (cutV (Rl.pair y z).v (some 1) none)) q = some o := fun q o _ h => sQ _ _ h
        generalize upd H2 qs (.tup (cutV (Rl.pair y z).v (some 1) none)) = H3 at hqs' hFq hSq dsq sQ'
        refine for_tup (xs := [.int (y : Int), .int (z : Int)]) (fun t σ H' => (∃ t4 t5, σ = [some (.ref a), some (.ref S), some (.ref p), some (.ref F), t4, t5]) ∧ (∀ q o, q ≠ F → H3 q = some o → H' q = some o) ∧ ∃ fk, H' F = some (.dK fk) ∧ DV fk (fun x => (if 1 ≤ t then clip (BL rs y) x else 0) + (if 2 ≤ t then clip (BL rs z) x else 0))) ⟨⟨_, _, rfl⟩, fun _ _ _ h => h, [], hFq, DV.nil.congr fun x => by rw [if_neg (by decide), if_neg (by decide)]; rfl⟩ ?_ ?_ ?_
        · rintro t σ H' _ ⟨_, sf, _⟩
          have nq : qs ≠ F := fun h => by rw [h, hFq] at hqs'; cases hqs'
          exact SqT.of (sf _ _ nq hqs')
        · rintro t yv σ H4 hyv ⟨⟨t4, t5, rfl⟩, sf4, fk0, hF4, dv0⟩
          obtain ⟨m, rfl, hm, hnext⟩ : ∃ m : Nat, yv = .int (m : Int) ∧ m < n ∧ ∀ x : Int, ((if 1 ≤ t then clip (BL rs y) x else 0) + (if 2 ≤ t then clip (BL rs z) x else 0)) + clip (BL rs m) x = (if 1 ≤ t + 1 then clip (BL rs y) x else 0) + (if 2 ≤ t + 1 then clip (BL rs z) x else 0) := by
            match t, hyv with
            | 0, hyv => cases hyv; exact ⟨y, rfl, vr.1, fun x => by simp⟩
            | 1, hyv => cases hyv; exact ⟨z, rfl, vr.2, fun x => by simp⟩
            | t + 2, hyv => simp at hyv
          generalize hf0 : (fun x : Int => (if 1 ≤ t then clip (BL rs y) x else 0) + (if 2 ≤ t then clip (BL rs z) x else 0)) = f0 at dv0
          have hnext' : ∀ x : Int, f0 x + clip (BL rs m) x = (if 1 ≤ t + 1 then clip (BL rs y) x else 0) + (if 2 ≤ t + 1 then clip (BL rs z) x else 0) := fun x => by rw [← hf0]; exact hnext x
          obtain ⟨vm, em⟩ : ∃ v, zs[m]? = some v := ⟨_, List.getElem?_eq_getElem (by omega)⟩
          obtain ⟨d, kvs, rfl, hd3, dvm⟩ := dsq m vm em
          have nF := nFd em
          have nS : d ≠ S := fun h => by rw [h, hSq] at hd3; cases hd3
          have hd := sf4 _ _ nF hd3
          have hS4 := sf4 _ _ (Ne.symm nFS) hSq
          obtain ⟨ks, e1, e2, e3, e4, e5⟩ := dvm.ex
          refine name_of' ?_
          refine ⟨d, .dK kvs, hd, trivial, fun od => ?_⟩
          have hSL : upd H4 d (.frz od (.dK kvs)) S = some (.lst zs) := by rw [upd_ne (Ne.symm nS)]; exact hS4
          have hFL : upd H4 d (.frz od (.dK kvs)) F = some (.dK fk0) := by rw [upd_ne (Ne.symm nF)]; exact hF4
          have hdL : upd H4 d (.frz od (.dK kvs)) d = some (.frz od (.dK kvs)) := upd_same
          refine ⟨_, rfl, _, rfl, S, _, _, _, rfl, rfl, SqL.of hSL, atI_nat em, d, od, rfl, .inl ⟨kvs, hdL, ?_⟩⟩
          refine for_itk (fun u σ H' => (∃ t4, σ = [some (.ref a), some (.ref S), some (.ref p), some (.ref F), t4, some (.int (m : Int))]) ∧ (∀ q, q ≠ F → H' q = upd H4 d (.frz od (.dK kvs)) q) ∧ ∃ fk, H' F = some (.dK fk) ∧ DV fk (fun x => f0 x + if x ∈ ks.take u then clip (BL rs m) x else 0)) ⟨⟨_, rfl⟩, fun _ _ => rfl, fk0, hFL, dv0.congr fun x => by rw [List.take_zero, if_neg (by simp), Int.add_zero]⟩ ?_ ?_ ?_
          · rintro u σ H' _ ⟨_, hq, _⟩
            rw [hq _ nF]; exact hdL
          · rintro u key v σ H' hkv ⟨⟨t4, rfl⟩, hq, fk, hFk, dvf⟩
            obtain ⟨x, ex, rfl⟩ := keys_at e1 hkv
            have hx := List.mem_of_getElem? ex
            have bx := e3 x hx
            have hST : H' S = some (.lst zs) := by rw [hq _ (Ne.symm nFS)]; exact hSL
            have hdT : H' d = some (.frz od (.dK kvs)) := by rw [hq _ nF]; exact hdL
            have hnot : x ∉ ks.take u := nodup_take e2 ex
            have hval : (valV fk (Sum.inl x)).getD (.int 0) = .int (f0 x) := by
              obtain ⟨ks', _, _, _, g4, g5⟩ := dvf.ex
              by_cases q : x ∈ ks'
              · rw [g4 x q, Option.getD_some, if_neg hnot, Int.add_zero]
              · have := g5 x q
                have h2 := this.2
                rw [if_neg hnot, Int.add_zero] at h2
                rw [this.1, h2]
                rfl
            refine name_of' ?_
            refine ⟨_, rfl, F, rfl, .inl ⟨fk, .inl hFk⟩, _, rfl, _, DGet.k (k := Sum.inl x) hFk, ?_⟩
            rw [hval]
            refine ⟨_, rfl, _, rfl, S, _, _, _, rfl, rfl, SqL.of hST, atI_nat em, _, rfl, d, _, rfl, .inl ⟨kvs, Sum.inl x, .inr ⟨od, hdT⟩, rfl, (e4 x hx).symm⟩, _, _, rfl, rfl, ?_⟩
            refine ⟨_, rfl, _, rfl, F, _, rfl, DPut.k (k := Sum.inl x) hFk (Nat.lt_of_le_of_lt dvf.len (by decide)), ?_⟩
            refine ⟨⟨_, rfl⟩, fun q h => by rw [upd_ne h]; exact hq q h, _, upd_same, (dvf.put bx.1 bx.2).congr fun x' => ?_⟩
            rw [take_succ ex]
            by_cases q : x' = x
            · subst q
              rw [if_pos rfl, if_pos (List.mem_append_right _ (List.mem_singleton.mpr rfl))]
            · rw [if_neg q]
              by_cases q2 : x' ∈ ks.take u
              · rw [if_pos q2, if_pos (List.mem_append_left _ q2)]
              · rw [if_neg q2, if_neg (fun z => (List.mem_append.mp z).elim q2 fun z => q (List.mem_singleton.mp z))]
          · rintro σ H' ⟨⟨t4, rfl⟩, hq, fk, hFk, dvf⟩
            have hdT : H' d = some (.frz od (.dK kvs)) := by rw [hq _ nF]; exact hdL
            refine ⟨hdT, ?_⟩
            have kl : kvs.length = ks.length := by
              have := congrArg List.length e1
              rwa [List.length_map, List.length_map] at this
            rw [kl, List.take_length] at dvf
            refine ⟨⟨_, _, rfl⟩, fun q o h1 h2 => ?_, fk, by rw [upd_ne (Ne.symm nF)]; exact hFk, dvf.congr fun x => ?_⟩
            · have h2' := sf4 q o h1 h2
              by_cases h3 : q = d
              · rw [h3] at h2' ⊢
                rw [upd_same, ← h2', hd]
              · rw [upd_ne h3, hq q h1, upd_ne h3]
                exact h2'
            · rw [← hnext']
              by_cases q : x ∈ ks
              · rw [if_pos q]
              · rw [if_neg q, (e5 x q).2]
        · rintro σ H4 ⟨⟨t4, t5, rfl⟩, sf4, fk, hF4, dv0⟩
          have dv := dv0.congr (g := clip (BL rs n)) fun x => by
            rw [if_pos (by show 1 ≤ 2; decide), if_pos (by show 2 ≤ 2; decide)]
            unfold clip
            rw [bl_pair hv er]
            split <;> rfl
          have hS4 := sf4 _ _ (Ne.symm nFS) hSq
          exact ⟨_, rfl, .inl ⟨rfl, _, SqL.of hS4⟩, _, rfl, S, _, _, rfl, rfl, hS4, sm, done (fun q o h1 h2 => sf4 q o h1 (sQ' q o h1 h2)) hF4 dv⟩
      | power y k =>
        have v1 := vr.1
        have v2 := vr.2.1
        obtain ⟨vy, ey⟩ : ∃ v, zs[y]? = some v := ⟨_, List.getElem?_eq_getElem (by omega)⟩
        obtain ⟨d, kvs, rfl, hd, dvy⟩ := ds2 y vy ey
        obtain ⟨ks, e1, e2, e3, e4, e5⟩ := dvy.ex
        have nF := nFd ey
        have nS : d ≠ S := fun z => by rw [z, hS2] at hd; cases hd
        refine ⟨_, rfl, _, _, _, _, rfl, rfl, hp2, at0 _ _, rfl, _, rfl, ?_⟩
        rw [dec_str, decide_eq_false (by decide)]
        refine iteF ⟨_, rfl, _, _, _, _, rfl, rfl, hp2, at0 _ _, rfl, _, rfl, ?_⟩
        rw [dec_str, decide_eq_true rfl]
        refine iteT ⟨d, .dK kvs, hd, trivial, fun od => ?_⟩
        have hpL : SqT K (upd H2 d (.frz od (.dK kvs))) p (Rl.power y k).v := sqt_sf (F := d) (fun q o h1 h2 => by rw [upd_ne h1]; exact h2) hd hp2
        have hSL : upd H2 d (.frz od (.dK kvs)) S = some (.lst zs) := by rw [upd_ne (Ne.symm nS)]; exact hS2
        have hFL : upd H2 d (.frz od (.dK kvs)) F = some (.dK []) := by rw [upd_ne (Ne.symm nF)]; exact hF2
        have hdL : upd H2 d (.frz od (.dK kvs)) d = some (.frz od (.dK kvs)) := upd_same
        refine ⟨_, rfl, _, rfl, _, _, _, _, rfl, rfl, hpL, at1 _ _ _, S, _, _, _, rfl, rfl, SqL.of hSL, atI_nat ey, d, od, rfl, .inl ⟨kvs, hdL, ?_⟩⟩
        refine for_itk (fun t σ H' => (∃ t4 t5, σ = [some (.ref a), some (.ref S), some (.ref p), some (.ref F), t4, t5]) ∧ (∀ q, q ≠ F → H' q = upd H2 d (.frz od (.dK kvs)) q) ∧ ∃ fk, H' F = some (.dK fk) ∧ DV fk (fun x => if x ∈ ks.take t then clip (BL rs y) x * k else 0)) ⟨⟨_, _, rfl⟩, fun _ _ => rfl, [], hFL, DV.nil.congr fun x => by rw [List.take_zero, if_neg (by simp)]⟩ ?_ ?_ ?_
        · rintro t σ H' _ ⟨_, hq, _⟩
          rw [hq _ nF]; exact hdL
        · rintro t key v σ H' hkv ⟨⟨t4, t5, rfl⟩, hq, fk, hFk, dvf⟩
          obtain ⟨x, ex, rfl⟩ := keys_at e1 hkv
          have hx := List.mem_of_getElem? ex
          have bx := e3 x hx
          have hpT : SqT K H' p (Rl.power y k).v := sqt_sf (F := F) (fun q o h1 h2 => by rw [hq q h1]; exact h2) hFL hpL
          have hST : H' S = some (.lst zs) := by rw [hq _ (Ne.symm nFS)]; exact hSL
          have hdT : H' d = some (.frz od (.dK kvs)) := by rw [hq _ nF]; exact hdL
          have ab := bl_abs hv hb bx.1 (y + 1) y (by omega) (by omega)
          have gb := gd_b hb y
          have ecl : clip (BL rs y) x = BL rs y x := by unfold clip; rw [if_pos bx]
          refine name_of' ?_
          refine ⟨_, rfl, _, rfl, _, _, _, _, rfl, rfl, hpT, at1 _ _ _, S, _, _, _, rfl, rfl, SqL.of hST, atI_nat ey, _, rfl, d, _, rfl, .inl ⟨kvs, Sum.inl x, .inr ⟨od, hdT⟩, rfl, (e4 x hx).symm⟩, ?_⟩
          refine ⟨_, rfl, _, _, _, _, rfl, rfl, hpT, at2 _ _ _ _, _, _, rfl, rfl, mulw2 (by rw [ecl]; omega) (by rw [ecl]; omega) (by omega) vr.2.2, ?_⟩
          refine ⟨_, rfl, _, rfl, F, _, rfl, DPut.k (k := Sum.inl x) hFk (Nat.lt_of_le_of_lt dvf.len (by decide)), ?_⟩
          refine ⟨⟨_, _, rfl⟩, fun q h => by rw [upd_ne h]; exact hq q h, _, upd_same, (dvf.put bx.1 bx.2).congr fun x' => ?_⟩
          rw [take_succ ex]
          by_cases q : x' = x
          · subst q
            rw [if_pos rfl, if_pos (List.mem_append_right _ (List.mem_singleton.mpr rfl))]
          · rw [if_neg q]
            by_cases q2 : x' ∈ ks.take t
            · rw [if_pos q2, if_pos (List.mem_append_left _ q2)]
            · rw [if_neg q2, if_neg (fun z => (List.mem_append.mp z).elim q2 fun z => q (List.mem_singleton.mp z))]
        · rintro σ H' ⟨⟨t4, t5, rfl⟩, hq, fk, hFk, dvf⟩
          have hdT : H' d = some (.frz od (.dK kvs)) := by rw [hq _ nF]; exact hdL
          refine ⟨hdT, ?_⟩
          have kl : kvs.length = ks.length := by
            have := congrArg List.length e1
            rwa [List.length_map, List.length_map] at this
          rw [kl, List.take_length] at dvf
          have dv := dvf.congr (g := clip (BL rs n)) fun x => by
            unfold clip
            rw [bl_power hv er]
            by_cases q : x ∈ ks
            · rw [if_pos q, if_pos (e3 x q), if_pos (e3 x q)]
            · rw [if_neg q]
              have := (e5 x q).2
              unfold clip at this
              by_cases q2 : 1 ≤ x ∧ x ≤ 20
              · rw [if_pos q2] at this ⊢
                rw [this, Int.zero_mul]
              · rw [if_neg q2]
          have sf : ∀ q o, q ≠ F → H2 q = some o → upd H' d (.dK kvs) q = some o := fun q o h1 h2 => by
            by_cases h3 : q = d
            · rw [h3] at h2 ⊢
              rw [upd_same, ← h2, hd]
            · rw [upd_ne h3, hq q h1, upd_ne h3]
              exact h2
          have hF4 : upd H' d (.dK kvs) F = some (.dK fk) := by rw [upd_ne (Ne.symm nF)]; exact hFk
          generalize upd H' d (.dK kvs) = H3 at sf hF4
          have hp4 : SqT K H3 p (Rl.power y k).v := sqt_sf sf hF2 hp2
          have hS3 := sf _ _ (Ne.symm nFS) hS2
          dsimp only
          refine ⟨_, rfl, _, _, _, _, rfl, rfl, hp4, at0 _ _, rfl, _, rfl, ?_⟩
          rw [dec_str, decide_eq_false (by decide)]
          refine iteF ⟨(by show 0 ≤ sizeLine; decide), fun q0 hq0 => ⟨q0, rfl, ⟨[], SqT.of upd_same⟩, ?_⟩⟩
          have sQ := same_new hq0 (.tup [])
          refine for_tup (xs := []) (fun i σ H' => (∃ t4 t5, σ = [some (.ref a), some (.ref S), some (.ref p), some (.ref F), t4, t5]) ∧ H' = upd H3 q0 (.tup [])) ⟨⟨_, _, rfl⟩, rfl⟩ ?_ ?_ ?_
          · rintro i σ H' _ ⟨_, rfl⟩
            exact SqT.of upd_same
          · intro i y σ H' hy
            simp at hy
          · rintro σ H' ⟨⟨t4, t5, rfl⟩, rfl⟩
            exact ⟨_, rfl, .inl ⟨rfl, _, SqL.of (sQ _ _ hS3)⟩, _, rfl, S, _, _, rfl, rfl, sQ _ _ hS3, sm, done (fun q o h1 h2 => sQ _ _ (sf q o h1 h2)) (sQ _ _ hF4) dv⟩
    · rintro σ H1 ⟨t2, t3, t4, t5, zs, rfl, s1, hS1, hzl, ds⟩
      have hzn : zs.length = rs.length := by omega
      obtain ⟨vl, el⟩ : ∃ v, zs[zs.length - 1]? = some v := ⟨_, List.getElem?_eq_getElem (by omega)⟩
      obtain ⟨d, kvs, rfl, hd, dv⟩ := ds _ vl el
      rw [hzn] at dv
      obtain ⟨ks, e1, e2, e3, e4, e5⟩ := dv.ex
      have kl := pig 20 ks e2 e3
      refine ⟨_, rfl, 1, rfl, S, _, _, _, rfl, rfl, SqL.of hS1, atI_last el, d, kvs, ks, rfl, .inl hd, e1, by omega, fun ys q0 hperm hsort hq0 => ?_⟩
      have sQ := same_new hq0 (.lst (ys.map V.int))
      have hq0' : upd H1 q0 (.lst (ys.map V.int)) q0 = some (.lst (ys.map V.int)) := upd_same
      generalize upd H1 q0 (.lst (ys.map V.int)) = H2 at sQ hq0'
      have hS2 := sQ _ _ hS1
      have hd2 := sQ _ _ hd
      refine ⟨q0, rfl, ⟨_, SqL.of hq0'⟩, fun D hD => ?_⟩
      have nDd : d ≠ D := fun z => by rw [← z, hd2] at hD; cases hD
      refine lc_list (K := K) (xs := ys.map V.int) (fun j H' => Same H2 H' ∧ ∃ acc, H' D = some (.lst acc) ∧ acc.length ≤ j ∧ PTs K H' acc ((ys.take j).filterMap (gI (clip (BL rs (rs.length - 1)))))) ⟨same_new hD _, [], upd_same, Nat.le_refl _, .nil⟩ ?_ ?_ ?_
      · rintro j H' _ ⟨s', _⟩
        exact SqL.of (s' _ _ hq0')
      · rintro j xv H3 hx ⟨s3, acc, hD3, hal, pts⟩
        obtain ⟨x, ex, rfl⟩ : ∃ x, ys[j]? = some x ∧ xv = .int x := by
          rw [List.getElem?_map] at hx
          cases h : ys[j]? with
          | none => rw [h] at hx; cases hx
          | some z => rw [h] at hx; cases hx; exact ⟨z, rfl, rfl⟩
        have hxk : x ∈ ks := hperm.mem_iff.mp (List.mem_of_getElem? ex)
        have hjl := (List.getElem?_eq_some_iff.mp ex).1
        have yl : ys.length ≤ 20 := by rw [hperm.length_eq]; exact kl
        refine ⟨rfl, ?_⟩
        refine ⟨_, rfl, 1, rfl, S, _, _, _, rfl, rfl, SqL.of (s3 _ _ hS2), atI_last el, _, rfl, d, _, rfl, .inl ⟨kvs, Sum.inl x, .inl (s3 _ _ hd2), rfl, (e4 x hxk).symm⟩, rfl, _, rfl, ?_⟩
        have tk1 := take_succ ex
        by_cases c : clip (BL rs (rs.length - 1)) x = 0
        · rw [show (!decide (V.int (clip (BL rs (rs.length - 1)) x) = V.int 0)) = false by rw [c, decide_eq_true rfl]; rfl]
          refine iteF ⟨s3, acc, hD3, by omega, ?_⟩
          rw [tk1, List.filterMap_append, show [x].filterMap (gI (clip (BL rs (rs.length - 1)))) = [] by simp [gI, c], List.append_nil]
          exact pts
        · rw [show (!decide (V.int (clip (BL rs (rs.length - 1)) x) = V.int 0)) = true by rw [decide_eq_false (fun z => c (V.int.inj z))]; rfl]
          refine iteT ⟨_, rfl, _, rfl, 1, rfl, S, _, _, _, rfl, rfl, SqL.of (s3 _ _ hS2), atI_last el, _, rfl, d, _, rfl, .inl ⟨kvs, Sum.inl x, .inl (s3 _ _ hd2), rfl, (e4 x hxk).symm⟩, (by show 2 ≤ sizeLine; decide), fun t ht => ?_⟩
          have sU := same_new ht (.tup [.int x, .int (clip (BL rs (rs.length - 1)) x)])
          refine ⟨acc, sU _ _ hD3, Nat.lt_of_le_of_lt (show _ ≤ 20 by omega) (by decide), fun p o h => ?_, _, upd_same, by rw [List.length_append]; simp only [List.length_cons, List.length_nil]; omega, ?_⟩
          · have : p ≠ D := fun z => by rw [z, hD] at h; cases h
            rw [upd_ne this]
            exact sU _ _ (s3 p o h)
          · rw [tk1, List.filterMap_append, show [x].filterMap (gI (clip (BL rs (rs.length - 1)))) = [.tuple [.int x, .int (clip (BL rs (rs.length - 1)) x)]] by simp [gI, c]]
            have tk := (TK.upd (H := upd H3 t (.tup [.int x, .int (clip (BL rs (rs.length - 1)) x)])) (o := .lst (acc ++ [.ref t])) (sU _ _ hD3))
            exact (pts.tk ((TK.same sU).trans tk)).snoc (sqt_tk tk (SqT.of upd_same))
      · rintro H3 ⟨s3, acc, hD3, hal, pts⟩
        rw [List.length_map, List.take_length] at pts
        refine ⟨D, acc, rfl, .inl ⟨SqL.of hD3, fun p hp => ?_⟩⟩
        have sU := same_new hp (.tup acc)
        refine q p acc _ (s1.trans (sQ.trans (s3.trans sU))) upd_same ?_
        have := (pts.tk (TK.same sU)).dp
        rwa [out_eq rs hsort hperm e2 e3 e5] at this
end
end K35


set_option Elab.async false
set_option linter.all false
set_option maxRecDepth 100000
set_option maxHeartbeats 8000000
namespace K35
open PySem PySem.Spec PyProof.Rows L2
section
variable {X : Cx} {CX : CXT} {k : Nat} {f : Addr} {fd : FuncData} {ps ks : List Str} {sp : Sp} {E : XK} {x : Str} {p pos : Pos} {kws : List Keyword} {tk : TA} {g : List Value → List Value → List Value} {gV : List V → List V → List V}
/-- f(k = v, ..) -/
theorem pe_callK0 (F : FnOk X.prog X.w X.K X.mg X.base CX k f fd ps sp) (hr : Room k X.A) (hg : Gl X x) (hm : X.mg x = some (.ref f)) (hk : PySem.W.keepIn X.K (.ref f) = true) (hb : KBinds X.K fd ps ks g gV) (hx : Passes CX X E)
    (hkw : PK X kws tk) (hall : (backToKw pos (keywordEach kws X.env)).all (·.1.isSome) = true := by rfl) (hks : (backToKw pos (keywordEach kws X.env)).filterMap (·.1) = ks := by rfl)
    (hdb : (x == ("__debug__" : Str)) = false := by decide)
    (hpl : ((backTo pos (starEach [] X.env)).any (·.1) || (backToKw pos (keywordEach kws X.env)).any (·.1.isNone)) = false := by rfl) :
    PE X (.Call (.Name x p) [] kws pos) (tCallK sp gV E tNil tk) := by
  refine ⟨fun pins s σ H Q I h => ?_⟩
  refine wpAny_Call_Name_kw (ld_glob I hg hm ?_ hdb)
  refine PySem.W.callWith_KW0 (h₀ := X.base) I.ok.mod.kin hk hall ?_ hpl
  refine thn (hkw.run pos pins s σ H _ I h) fun ws s2 ⟨zs, H2, I2, rz, q2⟩ => ⟨I2.kIn, ?_⟩
  rw [hks]
  exact run_fnk (us := []) (vs := []) F hr hb hx I2 .nil rz q2
end
theorem cut_updD {c l D : Addr} {H : Hp} {o : HO} : cut c l D (upd H D o) = cut c l D H := by
  funext p
  unfold cut
  by_cases h : p = c ∨ p = l ∨ p = D
  · rw [if_pos h, if_pos h]
  · rw [if_neg h, if_neg h, upd_ne (fun z => h (.inr (.inr z)))]
theorem cup_updD {c l D : Addr} {H : Hp} {m : Nat} {ys : List V} (C : Cup H c l D m) (n : D ≠ c ∧ D ≠ l) : Cup (upd H D (.lst ys)) c l D m := by
  obtain ⟨⟨a, b, k, ns, h1, h2, h3⟩, _⟩ := C
  exact ⟨⟨a, b, k, ns, by rw [upd_ne (Ne.symm n.1)]; exact h1, by rw [upd_ne (Ne.symm n.2)]; exact h2, h3⟩, ys, upd_same⟩
theorem Cup.self {c l D : Addr} {H : Hp} {m : Nat} (C : Cup H c l D m) : Cup H c l c m := by
  obtain ⟨⟨a, b, k, ns, h1, h2, h3⟩, _⟩ := C
  exact ⟨⟨a, b, k, ns, h1, h2, h3⟩, _, h1⟩
theorem cut_less {c l D : Addr} {H : Hp} : Same (cut c l D H) (cut c l c H) := fun p o h => by
  unfold cut at h ⊢
  split at h
  · cases h
  · next n =>
    rw [if_neg (by rintro (z | z | z); exact n (.inl z); exact n (.inr (.inl z)); exact n (.inl z))]
    exact h
theorem al_comp {K : PySem.W.Frag} {c l : Addr} {F : Hp → Prop} {σ : L2.St} {n k N i : Nat} {te : TE} {vs : List Nat} (S : Stb F) (hN : N ≤ 500) (hw : ∀ x, wipe ((wipe σ vs).set i (some x)) vs = wipe σ vs)
    (hte : ∀ (D : Addr) (x : Int), An K c l D F ((wipe σ vs).set i (some (.int x))) n k te) : Al K c l c F σ n (k * N) N (tLc (iRng1 (tCons (tC (.int (N : Int))) tNil)) (gName i) tYes te vs) := by
  intro m H Q C f q
  refine ⟨_, rfl, by omega, by omega, fun D hD => ?_⟩
  have ne := C.new hD
  rw [Int.toNat_natCast]
  refine lc_range (fun j H' => Cup H' c l D (m + k * (N - j)) ∧ SC c l H H' ∧ F (cut c l D H') ∧ ∃ acc ds, H' D = some (.lst acc) ∧ DpAll K (cut c l D H') acc ds ∧ (∀ d ∈ ds, OkN n d) ∧ acc.length = j) ?_ ?_ ?_
  · have s0 : Same H (upd H D (.lst [])) := same_new hD _
    have C0 := C.same s0
    refine ⟨⟨C0.1, [], upd_same⟩, SC.same s0, S f ?_, [], [], upd_same, .nil, (fun _ h => by cases h), rfl⟩
    rw [cut_updD]
    intro p o h
    have nD : p ≠ D := fun z => by rw [z, cut_get ne, hD] at h; cases h
    unfold cut at h ⊢
    split at h
    · cases h
    · next nn =>
      rw [if_neg (by rintro (z | z | z); exact nn (.inl z); exact nn (.inr (.inl z)); exact nD z)]
      exact h
  · rintro j H1 hj ⟨C1, s1, f1, acc, ds, ha, hd, ok, hl⟩
    refine ⟨hw _, ?_⟩
    show te _ _ _
    obtain ⟨b, eb⟩ : ∃ b, N - j = b + 1 ∧ N - (j + 1) = b := ⟨N - (j + 1), by omega, rfl⟩
    rw [eb.2]
    rw [eb.1, Nat.mul_add, Nat.mul_one, ← Nat.add_assoc] at C1
    refine hte D _ (m + k * b) H1 _ C1 f1 fun v d H2 C2 s2 hv okv => ?_
    refine ⟨acc, s2 _ _ ne.1 ne.2.1 ha, Nat.lt_of_le_of_lt (show acc.length ≤ 500 by omega) (by decide), cup_updD C2 ⟨ne.1, ne.2.1⟩, ?_, ?_, acc ++ [v], ds ++ [d], upd_same, ?_, ?_, by rw [List.length_append, hl]; rfl⟩
    · intro p o h1 h2 e
      have nD : p ≠ D := fun z => by rw [z, hD] at e; cases e
      rw [upd_ne nD]
      exact s2 _ _ h1 h2 (s1 _ _ h1 h2 e)
    · rw [cut_updD]
      exact S f1 (SC.cut s2)
    · rw [cut_updD]
      exact dps_snoc (dps_ext (same_ext (SC.cut s2)) _ hd) hv
    · intro e he
      rcases List.mem_append.mp he with he | he
      · exact ok e he
      · cases List.mem_singleton.mp he; exact okv
  · rintro H1 ⟨C1, s1, f1, acc, ds, ha, hd, ok, hl⟩
    rw [Nat.sub_self, Nat.mul_zero, Nat.add_zero] at C1
    exact q D acc ds H1 C1.self s1 (by rw [cut_get ⟨ne.1, ne.2.1, ne.1⟩]; exact ha) (dps_ext (same_ext cut_less) _ hd) ok hl
theorem tab_sc {c l zz T : Addr} {H H' : Hp} {m : Nat} (C : Cup H c l zz m) (s : SC c l H H') (h : GxR.TabG H T) : GxR.TabG H' T := by
  obtain ⟨ps, h1, h2⟩ := h
  exact ⟨ps, TK.sc C s _ _ h1 (fun _ z => by cases z), h2⟩
theorem Cup.ext {c l zz : Addr} {H H' : Hp} {m : Nat} (C : Cup H c l zz m) (s : LamX.ExtN H H') : Cup H' c l zz m := by
  obtain ⟨⟨a, b, k, ns, h1, h2, h3⟩, es, h4⟩ := C
  exact ⟨⟨a, b, k, ns, s _ _ h1 (fun _ z => by cases z), s _ _ h2 (fun _ z => by cases z), h3⟩, es, s _ _ h4 (fun _ z => by cases z)⟩

theorem am_comp {c l : Addr} {F : Hp → Prop} {σ : L2.St} {k N i : Nat} {p : Int → Prop} {te : TE} {vs : List Nat} (S : Stb F) (hN : N ≤ 500) (hw : ∀ x, wipe ((wipe σ vs).set i (some x)) vs = wipe σ vs)
    (hte : ∀ (D : Addr) (x : Int), Ai c l D F ((wipe σ vs).set i (some (.int x))) p k te) : Am c l c F σ p (k * N) N (tLc (iRng1 (tCons (tC (.int (N : Int))) tNil)) (gName i) tYes te vs) := by
  intro m H Q C f q
  refine ⟨_, rfl, by omega, by omega, fun D hD => ?_⟩
  have ne := C.new hD
  rw [Int.toNat_natCast]
  refine lc_range (fun j H' => Cup H' c l D (m + k * (N - j)) ∧ SC c l H H' ∧ F (cut c l D H') ∧ ∃ ns : List Int, H' D = some (.lst (ns.map V.int)) ∧ (∀ z ∈ ns, p z) ∧ ns.length = j) ?_ ?_ ?_
  · have s0 : Same H (upd H D (.lst [])) := same_new hD _
    have C0 := C.same s0
    refine ⟨⟨C0.1, [], upd_same⟩, SC.same s0, S f ?_, [], upd_same, (fun _ h => by cases h), rfl⟩
    rw [cut_updD]
    intro p o h
    have nD : p ≠ D := fun z => by rw [z, cut_get ne, hD] at h; cases h
    unfold cut at h ⊢
    split at h
    · cases h
    · next nn =>
      rw [if_neg (by rintro (z | z | z); exact nn (.inl z); exact nn (.inr (.inl z)); exact nD z)]
      exact h
  · rintro j H1 hj ⟨C1, s1, f1, ns, ha, hp, hl⟩
    refine ⟨hw _, ?_⟩
    show te _ _ _
    obtain ⟨b, eb⟩ : ∃ b, N - j = b + 1 ∧ N - (j + 1) = b := ⟨N - (j + 1), by omega, rfl⟩
    rw [eb.2]
    rw [eb.1, Nat.mul_add, Nat.mul_one, ← Nat.add_assoc] at C1
    refine hte D _ (m + k * b) H1 _ C1 f1 fun v H2 hv C2 s2 => ?_
    refine ⟨ns.map V.int, s2 _ _ ne.1 ne.2.1 ha, Nat.lt_of_le_of_lt (show (ns.map V.int).length ≤ 500 by rw [List.length_map]; omega) (by decide), cup_updD C2 ⟨ne.1, ne.2.1⟩, ?_, ?_, ns ++ [v], by rw [List.map_append]; exact upd_same, ?_, by rw [List.length_append, hl]; rfl⟩
    · intro p o h1 h2 e
      have nD : p ≠ D := fun z => by rw [z, hD] at e; cases e
      rw [upd_ne nD]
      exact s2 _ _ h1 h2 (s1 _ _ h1 h2 e)
    · rw [cut_updD]
      exact S f1 (SC.cut s2)
    · intro e he
      rcases List.mem_append.mp he with he | he
      · exact hp e he
      · cases List.mem_singleton.mp he; exact hv
  · rintro H1 ⟨C1, s1, f1, ns, ha, hp, hl⟩
    rw [Nat.sub_self, Nat.mul_zero, Nat.add_zero] at C1
    exact q D ns H1 C1.self s1 (by rw [cut_get ⟨ne.1, ne.2.1, ne.1⟩]; exact ha) hp hl
section
variable {P : Program} {w : World} {K : PySem.W.Frag} {mg : Str → Option Value} {base : Heap}
def spPlace : Sp := fun vs H Q _ => ∃ (c l zz : Addr) (m : Nat) (z : Int), vs = [.ref c, .int z] ∧ 1 ≤ z ∧ z ≤ 10000000000000000000000000000000000000000 ∧ Cup H c l zz (m + 6) ∧ ∀ (r : Int) H', 0 ≤ r → r < z → Cup H' c l zz m → SC c l H H' → Q (.int r) H'
theorem sc__law_place : FnScope ["cup", "size", "found", "turn"] ["cup", "size"] (C8.fnScope (topS 31)) := C8.fnScope_by (by decide +kernel)
theorem ok__law_place {f : Addr} {fd : FuncData} (F : C8.Def K mg "_law_place" (topS 31) f fd) (b : Binds K fd ["cup", "size"] []) (B : Bl mg) (c__law_sip : C8.Cal P w K mg base 1 "_law_sip" spSip []) : C8.Cal P w K mg base 2 "_law_place" spPlace [] := by
  refine C8.cal0 F b .nil sc__law_place ?len ?body
  case len => rintro vs H Q E ⟨c, l, zz, m, z, rfl, _⟩; rfl
  case body =>
    rintro cdv A outer s H vs Q E hr ⟨c, l, zz, m, z, rfl, z1, z2, C, q⟩
    refine ⟨_, (pss_cons (ps_set (i := 2) sc__law_place.nd rfl (Or.inl rfl) pe_int)
    (pss_cons (ps_for PassesOwn.never rfl (pi_range1 rfl B.range (pa_cons (pe_op op_add pe_int (pe_op op_fdiv (pe_callB call_len rfl B.len PySem.boot_len (pa_cons (pe_callTy call_str_int rfl B.str (by decide +kernel) (pa_cons (pv 1) pa_nil)) pa_nil)) pe_int)) pa_nil)) (pg_name (i := 3) sc__law_place.nd rfl (Or.inl rfl))
    (pss_one (ps_set (i := 2) sc__law_place.nd rfl (Or.inl rfl) (pe_op op_add (pe_op op_mul (pv 2) (pe_op op_pow pe_int pe_int)) (C8.pe_c c__law_sip hr (by decide) rfl (pa_cons (pv 0) (pa_cons (pe_op op_pow pe_int pe_int) pa_nil)))))))
    (pss_one (ps_ret (pe_op op_mod (pe_callTy call_int1 rfl B.int (by decide +kernel) (pa_cons (pv 2) pa_nil)) (pv 1)))))), ?_⟩
    have hsl := toString_length_le (v := z) (by omega) (k := 41) (by decide) (by
      have : (10 : Int) ^ 41 = 100000000000000000000000000000000000000000 := by decide
      rw [this]
      omega)
    refine ⟨_, rfl, z, rfl, ?_, _, _, rfl, ⟨Nat.le_trans hsl (by decide), rfl⟩, _, _, rfl, rfl, ⟨by decide, by decide⟩, _, _, rfl, rfl, _, rfl, by omega, by omega, ?_⟩
    · exact Nat.lt_of_lt_of_le (PySem.Flt.log2_lt_of (k := 140) (by decide) (Nat.lt_of_le_of_lt (show z.natAbs ≤ 10000000000000000000000000000000000000000 by omega) (by decide))) (by decide)
    obtain ⟨N, eN, hN⟩ : ∃ N, (1 + (((Str.ofString (toString z)).length : Nat) : Int) / 7).toNat = N ∧ N ≤ 6 := ⟨_, rfl, by omega⟩
    rw [eN]
    refine for_range (lo := 0) (n := N) (fun t σ H' => (∃ (f : Int) (s3 : Option V), σ = [some (.ref c), some (.int z), some (.int f), s3]) ∧ Cup H' c l zz (m + (6 - t)) ∧ SC c l H H') ⟨⟨0, none, rfl⟩, C, SC.refl H⟩ ?_ ?_
    · rintro t σ H1 ht ⟨⟨f, s3, rfl⟩, C1, s1⟩
      refine name_of' ?_
      refine ⟨_, rfl, _, _, rfl, rfl, ⟨by decide, by decide, by decide⟩, _, _, rfl, rfl, .inr ⟨by decide, by decide⟩, _, rfl, _, _, rfl, rfl, ⟨by decide, by decide, by decide⟩, c, l, zz, m + (6 - (t + 1)), _, rfl, C1.le (by omega), by decide, lg (by decide) (by decide), fun r H2 r0 r1 C2 kp2 => ?_⟩
      exact ⟨_, _, rfl, rfl, ⟨_, _, rfl⟩, C2, s1.trans kp2⟩
    · rintro σ H1 ⟨⟨f, s3, rfl⟩, C1, s1⟩
      refine ⟨_, rfl, .inl ⟨_, rfl, _, rfl, _, _, rfl, rfl, (show (0 : Int) < z by omega), ?_⟩⟩
      exact q _ H1 (Int.emod_nonneg _ (by omega)) (Int.emod_lt_of_pos _ (by omega)) (C1.le (by omega)) s1
end
end K35


set_option Elab.async false
set_option linter.all false
set_option maxRecDepth 100000
set_option maxHeartbeats 8000000
namespace K35
open PySem PySem.Spec PyProof.Rows L2
/-! ### lists of rules that are built -/
theorem getD_snoc {ns : List Int} {z : Int} : (ns ++ [z]).getD ns.length 0 = z := by
  rw [List.getD_eq_getElem?_getD, List.getElem?_append_right (Nat.le_refl _), Nat.sub_self]
  rfl
theorem getD_app {ns : List Int} {z : Int} {i : Nat} (h : i < ns.length) : (ns ++ [z]).getD i 0 = ns.getD i 0 := by
  rw [List.getD_eq_getElem?_getD, List.getElem?_append_left h, List.getD_eq_getElem?_getD]
theorem SzB.snoc {rs : List Rl} {r : Rl} (h : SzB rs) (h0 : 0 ≤ szOf (szs rs) r) (h1 : szOf (szs rs) r ≤ 10000000000000000000000000000000000000000) : SzB (rs ++ [r]) := by
  intro z hz
  rw [szs_snoc] at hz
  rcases List.mem_append.mp hz with hz | hz
  · exact h z hz
  · cases List.mem_singleton.mp hz; exact ⟨h0, h1⟩
theorem sz_last (rs : List Rl) (r : Rl) : (szs (rs ++ [r])).getD rs.length 0 = szOf (szs rs) r := by
  rw [szs_snoc]
  have := getD_snoc (ns := szs rs) (z := szOf (szs rs) r)
  rwa [szs_len] at this
theorem sz_keep {rs : List Rl} (r : Rl) {i : Nat} (h : i < rs.length) : (szs (rs ++ [r])).getD i 0 = (szs rs).getD i 0 := by
  rw [szs_snoc]
  exact getD_app (by rw [szs_len]; exact h)
structure LB (K : PySem.W.Frag) (c l zz R : Addr) (H0 : Hp) (rs : List Rl) (m : Nat) (H : Hp) : Prop where
  C : Cup H c l zz m
  sc : SC c l H0 H
  ex : ∃ xs, H R = some (.lst xs) ∧ FTs K H xs (rs.map Rl.d)
  v : Valid rs
  b : SzB rs
  rn : R ≠ c ∧ R ≠ l ∧ R ≠ zz
  r0 : H0 R = none
theorem LB.step {K : PySem.W.Frag} {c l zz R : Addr} {H0 H H' : Hp} {rs : List Rl} {m m' : Nat} (h : LB K c l zz R H0 rs m H) (C : Cup H' c l zz m') (s : SC c l H H') : LB K c l zz R H0 rs m' H' := by
  obtain ⟨xs, h1, h2⟩ := h.ex
  exact ⟨C, h.sc.trans s, ⟨xs, s _ _ h.rn.1 h.rn.2.1 h1, h2.tk (TK.sc h.C s)⟩, h.v, h.b, h.rn, h.r0⟩
theorem LB.same {K : PySem.W.Frag} {c l zz R : Addr} {H0 H H' : Hp} {rs : List Rl} {m : Nat} (h : LB K c l zz R H0 rs m H) (s : Same H H') : LB K c l zz R H0 rs m H' := h.step (h.C.same s) (SC.same s)
theorem LB.push {K : PySem.W.Frag} {c l zz R p : Addr} {H0 H : Hp} {rs : List Rl} {m : Nat} {xs : List V} {r : Rl} (h : LB K c l zz R H0 rs m H) (hR : H R = some (.lst xs)) (hp : SqT K H p r.v) (hr : ValidAt rs.length r) (hl : rs.length ≤ 5000) (h0 : 0 ≤ szOf (szs rs) r) (h1 : szOf (szs rs) r ≤ 10000000000000000000000000000000000000000) :
    LB K c l zz R H0 (rs ++ [r]) m (upd H R (.lst (xs ++ [.ref p]))) := by
  obtain ⟨xs', g1, g2⟩ := h.ex
  rw [hR] at g1
  cases g1
  obtain ⟨⟨a, b, k, ms, c1, c2, c3⟩, es, c4⟩ := h.C
  have tk : TK H (upd H R (.lst (xs ++ [.ref p]))) := TK.upd hR
  refine ⟨⟨⟨a, b, k, ms, by rw [upd_ne (Ne.symm h.rn.1)]; exact c1, by rw [upd_ne (Ne.symm h.rn.2.1)]; exact c2, c3⟩, es, by rw [upd_ne (Ne.symm h.rn.2.2)]; exact c4⟩, fun q o n1 n2 e => ?_, ⟨_, upd_same, ?_⟩, h.v.snoc hr, h.b.snoc h0 h1, h.rn, h.r0⟩
  · have nR : q ≠ R := fun z => by rw [z, h.r0] at e; cases e
    rw [upd_ne nR]
    exact h.sc q o n1 n2 e
  · rw [List.map_append]
    exact (g2.tk tk).snoc (ft_rule hr (by omega) (sqt_tk tk hp))
section
variable {P : Program} {w : World} {K : PySem.W.Frag} {mg : Str → Option Value} {base : Heap}
def spMade (K : PySem.W.Frag) (cost : Nat) : Sp := fun vs H Q _ => ∃ (c l zz : Addr) (m : Nat), vs = [.ref c] ∧ Cup H c l zz (m + cost) ∧
  ∀ a xs rs H', Cup H' c l zz m → SC c l H H' → SqT K (cut c l zz H') a xs → FTs K (cut c l zz H') xs (rs.map Rl.d) → Valid rs → 1 ≤ rs.length → rs.length ≤ 300 → SzB rs → Q (.ref a) H'
theorem sc__law_chain : FnScope ["cup", "rules", "turn"] ["cup"] (C8.fnScope (topS 36)) := C8.fnScope_by (by decide +kernel)
theorem ok__law_chain {f : Addr} {fd : FuncData} (F : C8.Def K mg "_law_chain" (topS 36) f fd) (b : Binds K fd ["cup"] []) (B : Bl mg) (c__law_sip : C8.Cal P w K mg base 1 "_law_sip" spSip []) : C8.Cal P w K mg base 2 "_law_chain" (spMade K 101) [] := by
  refine C8.cal0 F b .nil sc__law_chain ?len ?body
  case len => rintro vs H Q E ⟨c, l, zz, m, rfl, _⟩; rfl
  case body =>
    rintro cdv A outer s H vs Q E hr ⟨c, l, zz, m, rfl, C, q⟩
    refine ⟨_, (pss_cons (ps_set (i := 1) sc__law_chain.nd rfl (Or.inl rfl) (pe_lst (pa_cons (pe_tup (pa_cons pe_str pa_nil)) (pa_cons (pe_tup (pa_cons pe_str (pa_cons pe_int pa_nil))) (pa_cons (pe_tup (pa_cons pe_str (pa_cons (pe_un un_neg pe_int) pa_nil))) (pa_cons (pe_tup (pa_cons pe_str (pa_cons pe_int (pa_cons pe_int pa_nil)))) pa_nil))))))
    (pss_cons (ps_for PassesOwn.never rfl (pi_range1 rfl B.range (pa_cons (pe_op op_add pe_int (C8.pe_c c__law_sip hr (by decide) rfl (pa_cons (pv 0) (pa_cons pe_int pa_nil)))) pa_nil)) (pg_name (i := 2) sc__law_chain.nd rfl (Or.inl rfl))
    (pss_one (ps_expr (pe_bm PySem.F.plainAttrs_list PySem.F.slot_list_append PySem.F.type_list_append mt_append (pv 1) (pa_cons (pe_ix ix_list (pe_lst (pa_cons (pe_tup (pa_cons pe_str (pa_cons pe_int (pa_cons (pe_op op_sub (pe_callB call_len_seq rfl B.len PySem.boot_len (pa_cons (pv 1) pa_nil)) pe_int) pa_nil)))) (pa_cons (pe_tup (pa_cons pe_str (pa_cons (pe_op op_sub (pe_callB call_len_seq rfl B.len PySem.boot_len (pa_cons (pv 1) pa_nil)) pe_int) (pa_cons pe_int pa_nil)))) pa_nil))) (C8.pe_c c__law_sip hr (by decide) rfl (pa_cons (pv 0) (pa_cons pe_int pa_nil))) (fun _ _ => rfl)) pa_nil)))))
    (pss_cons (ps_expr (pe_bm PySem.F.plainAttrs_list PySem.F.slot_list_append PySem.F.type_list_append mt_append (pv 1) (pa_cons (pe_tup (pa_cons pe_str (pa_cons (pe_op op_sub (pe_callB call_len_seq rfl B.len PySem.boot_len (pa_cons (pv 1) pa_nil)) pe_int) (pa_cons (pe_op op_add pe_int (C8.pe_c c__law_sip hr (by decide) rfl (pa_cons (pv 0) (pa_cons pe_int pa_nil)))) pa_nil)))) pa_nil)))
    (pss_one (ps_ret (pe_op op_catA (pe_callTy call_tuple_of rfl B.tuple (by decide +kernel) (pa_cons (pv 1) pa_nil)) (pe_tup (pa_cons (pe_tup (pa_cons pe_str (pa_cons pe_int (pa_cons (pe_op op_pow pe_int pe_int) pa_nil)))) (pa_cons (pe_tup (pa_cons pe_str (pa_cons (pe_op op_sub (pe_callB call_len_seq rfl B.len PySem.boot_len (pa_cons (pv 1) pa_nil)) pe_int) (pa_cons (pe_callB call_len_seq rfl B.len PySem.boot_len (pa_cons (pv 1) pa_nil)) pa_nil)))) pa_nil))))))))), ?_⟩
    refine ⟨(by show 1 ≤ sizeLine; decide), fun p1 h1 => ⟨(by show 2 ≤ sizeLine; decide), fun p2 h2 => ⟨2, rfl, (by show 2 ≤ sizeLine; decide), fun p3 h3 => ⟨(by show 3 ≤ sizeLine; decide), fun p4 h4 => ⟨(by show 4 ≤ sizeLine; decide), fun R hR => ?_⟩⟩⟩⟩⟩
    have g1 := same_new h1 (.tup [.str "none"])
    have g2 := same_new h2 (.tup [.str "letter", .int 1])
    have g3 := same_new h3 (.tup [.str "letter", .int (-2)])
    have g4 := same_new h4 (.tup [.str "pair", .int 1, .int 2])
    have g5 := same_new hR (.lst [.ref p1, .ref p2, .ref p3, .ref p4])
    have gall := g1.trans (g2.trans (g3.trans (g4.trans g5)))
    have L0 : LB K c l zz R H [.none, .letter 1, .letter (-2), .pair 1 2] (m + 101) (upd (upd (upd (upd (upd H p1 (.tup [.str "none"])) p2 (.tup [.str "letter", .int 1])) p3 (.tup [.str "letter", .int (-2)])) p4 (.tup [.str "pair", .int 1, .int 2])) R (.lst [.ref p1, .ref p2, .ref p3, .ref p4])) := by
      refine ⟨C.same gall, SC.same gall, ⟨_, upd_same, ?_⟩, ?_, ?_, (C.same (g1.trans (g2.trans (g3.trans g4)))).new hR, ?_⟩
      · exact .cons (ft_rule (n := 0) (r := .none) trivial (by omega) (SqT.of ((g2.trans (g3.trans (g4.trans g5))) _ _ upd_same)))
          (.cons (ft_rule (n := 0) (r := .letter 1) ⟨by decide, by decide, by decide⟩ (by omega) (SqT.of ((g3.trans (g4.trans g5)) _ _ upd_same)))
          (.cons (ft_rule (n := 0) (r := .letter (-2)) ⟨by decide, by decide, by decide⟩ (by omega) (SqT.of ((g4.trans g5) _ _ upd_same)))
          (.cons (ft_rule (n := 3) (r := .pair 1 2) ⟨by decide, by decide⟩ (by omega) (SqT.of (g5 _ _ upd_same))) .nil)))
      · intro n r e
        match n, e with
        | 0, e => cases e; trivial
        | 1, e => cases e; exact ⟨by decide, by decide, by decide⟩
        | 2, e => cases e; exact ⟨by decide, by decide, by decide⟩
        | 3, e => cases e; exact ⟨by decide, by decide⟩
        | n + 4, e => simp at e
      · have : szs [.none, .letter 1, .letter (-2), .pair 1 2] = [0, 1, 1, 2] := rfl
        intro z hz
        rw [this] at hz
        simp at hz
        rcases hz with rfl | rfl | rfl <;> exact ⟨by decide, by decide⟩
      · cases e : H R with
        | none => rfl
        | some o => rw [(g1.trans (g2.trans (g3.trans g4))) _ _ e] at hR; cases hR
    generalize upd (upd (upd (upd (upd H p1 (.tup [.str "none"])) p2 (.tup [.str "letter", .int 1])) p3 (.tup [.str "letter", .int (-2)])) p4 (.tup [.str "pair", .int 1, .int 2])) R (.lst [.ref p1, .ref p2, .ref p3, .ref p4]) = H1 at L0
    refine name_of' ?_
    dsimp only
    refine ⟨_, rfl, c, l, zz, m + 100, 90, rfl, L0.C, by decide, by decide, fun r H2 r0 r1 C2 kp2 => ⟨_, _, rfl, rfl, _, rfl, by omega, by omega, ?_⟩⟩
    have L2' := L0.step C2 kp2
    obtain ⟨N, eN, hN⟩ : ∃ N, (10 + r).toNat = N ∧ N ≤ 99 := ⟨_, rfl, by omega⟩
    rw [eN]
    refine for_range (lo := 0) (n := N) (fun t σ H' => (∃ s2, σ = [some (.ref c), some (.ref R), s2]) ∧ ∃ rs, LB K c l zz R H rs (m + (100 - t)) H' ∧ rs.length = 4 + t ∧ (szs rs).getD 0 0 = 0 ∧ (szs rs).getD (rs.length - 1) 0 = 2) ⟨⟨none, rfl⟩, _, L2', rfl, rfl, rfl⟩ ?_ ?_
    · rintro t σ H3 ht ⟨⟨s2, rfl⟩, rs, L3, hlen, z0, zl⟩
      obtain ⟨xs, hRx, hft⟩ := L3.ex
      have hxl : xs.length = rs.length := by rw [fts_len hft, List.length_map]
      refine name_of' ?_
      refine ⟨_, rfl, .inl ⟨rfl, _, SqL.of hRx⟩, ?_⟩
      refine ⟨_, rfl, R, xs, rfl, .inl (SqL.of hRx), _, _, rfl, rfl, (by show 3 ≤ sizeLine; decide), fun q1 k1 => ?_⟩
      have w1 := same_new k1 (.tup [.str "pair", .int 0, .int (((xs.length : Nat) : Int) - 1)])
      refine ⟨_, rfl, R, xs, rfl, .inl (SqL.of (w1 _ _ hRx)), _, _, rfl, rfl, (by show 3 ≤ sizeLine; decide), fun q2 k2 => ?_⟩
      have w2 := same_new k2 (.tup [.str "pair", .int (((xs.length : Nat) : Int) - 1), .int 0])
      refine ⟨(by show 2 ≤ sizeLine; decide), fun q3 k3 => ?_⟩
      have w3 := same_new k3 (.lst [.ref q1, .ref q2])
      have L4 := L3.same (w1.trans (w2.trans w3))
      have hq3 : upd (upd (upd H3 q1 (.tup [.str "pair", .int 0, .int (((xs.length : Nat) : Int) - 1)])) q2 (.tup [.str "pair", .int (((xs.length : Nat) : Int) - 1), .int 0])) q3 (.lst [.ref q1, .ref q2]) q3 = some (.lst [.ref q1, .ref q2]) := upd_same
      have nq3 := (L3.same (w1.trans w2)).C.new k3
      have t1 : SqT K (upd (upd (upd H3 q1 (.tup [.str "pair", .int 0, .int (((xs.length : Nat) : Int) - 1)])) q2 (.tup [.str "pair", .int (((xs.length : Nat) : Int) - 1), .int 0])) q3 (.lst [.ref q1, .ref q2])) q1 [.str "pair", .int 0, .int (((xs.length : Nat) : Int) - 1)] := SqT.of ((w2.trans w3) _ _ upd_same)
      have t2 : SqT K (upd (upd (upd H3 q1 (.tup [.str "pair", .int 0, .int (((xs.length : Nat) : Int) - 1)])) q2 (.tup [.str "pair", .int (((xs.length : Nat) : Int) - 1), .int 0])) q3 (.lst [.ref q1, .ref q2])) q2 [.str "pair", .int (((xs.length : Nat) : Int) - 1), .int 0] := SqT.of (w3 _ _ upd_same)
      have hR4 := (w1.trans (w2.trans w3)) _ _ hRx
      generalize upd (upd (upd H3 q1 (.tup [.str "pair", .int 0, .int (((xs.length : Nat) : Int) - 1)])) q2 (.tup [.str "pair", .int (((xs.length : Nat) : Int) - 1), .int 0])) q3 (.lst [.ref q1, .ref q2]) = H4 at L4 hq3 t1 t2 hR4
      refine ⟨_, rfl, c, l, zz, m + (100 - (t + 1)), 2, rfl, L4.C.le (by omega), by decide, by decide, fun u H5 u0 u1 C5 kp5 => ?_⟩
      have L5 := L4.step C5 kp5
      have tk5 := TK.sc L4.C kp5
      have hq5 := kp5 _ _ nq3.1 nq3.2.1 hq3
      have hR5 := kp5 _ _ L4.rn.1 L4.rn.2.1 hR4
      have ei : ((xs.length : Nat) : Int) - 1 = ((rs.length - 1 : Nat) : Int) := by omega
      rw [ei] at t1 t2
      obtain ⟨p, rl, hat, hp, hv, hz⟩ : ∃ p rl, atI [V.ref q1, V.ref q2] u = some (.ref p) ∧ SqT K H5 p (Rl.v rl) ∧ ValidAt rs.length rl ∧ szOf (szs rs) rl = 2 := by
        have hu : u = 0 ∨ u = 1 := by omega
        rcases hu with rfl | rfl
        · exact ⟨q1, .pair 0 (rs.length - 1), at0 _ _, sqt_tk tk5 t1, ⟨by omega, by omega⟩, by show (szs rs).getD 0 0 + (szs rs).getD (rs.length - 1) 0 = 2; omega⟩
        · exact ⟨q2, .pair (rs.length - 1) 0, at1 _ _ _, sqt_tk tk5 t2, ⟨by omega, by omega⟩, by show (szs rs).getD (rs.length - 1) 0 + (szs rs).getD 0 0 = 2; omega⟩
      refine ⟨q3, _, u, _, rfl, rfl, SqL.of hq5, hat, R, xs, _, rfl, rfl, hR5, Nat.lt_of_le_of_lt (show _ ≤ 200 by omega) (by decide), ?_⟩
      refine ⟨⟨_, rfl⟩, rs ++ [rl], L5.push hR5 hp hv (by omega) (by omega) (by rw [hz]; decide), by rw [List.length_append, hlen]; rfl, ?_, ?_⟩
      · rw [sz_keep _ (by omega)]; exact z0
      · rw [List.length_append]
        show (szs (rs ++ [rl])).getD (rs.length + 1 - 1) 0 = 2
        rw [Nat.add_sub_cancel, sz_last, hz]
    · rintro σ H3 ⟨⟨s2, rfl⟩, rs, L3, hlen, z0, zl⟩
      obtain ⟨xs, hRx, hft⟩ := L3.ex
      have hxl : xs.length = rs.length := by rw [fts_len hft, List.length_map]
      refine ⟨_, rfl, .inl ⟨rfl, _, SqL.of hRx⟩, ?_⟩
      refine ⟨_, rfl, R, xs, rfl, .inl (SqL.of hRx), _, _, rfl, rfl, _, rfl, c, l, zz, m, 30, rfl, L3.C.le (by omega), by decide, by decide, fun u H4 u0 u1 C4 kp4 => ⟨_, _, rfl, rfl, (by show 3 ≤ sizeLine; decide), fun q1 k1 => ?_⟩⟩
      have L4 := L3.step C4 kp4
      have hR4 := kp4 _ _ L3.rn.1 L3.rn.2.1 hRx
      have w1 := same_new k1 (.tup [.str "power", .int (((xs.length : Nat) : Int) - 1), .int (2 + u)])
      have L5 := L4.same w1
      have hR5 := w1 _ _ hR4
      have ei : ((xs.length : Nat) : Int) - 1 = ((rs.length - 1 : Nat) : Int) := by omega
      have t1 : SqT K (upd H4 q1 (.tup [.str "power", .int (((xs.length : Nat) : Int) - 1), .int (2 + u)])) q1 (Rl.power (rs.length - 1) (2 + u)).v := SqT.of (upd_same.trans (by
        show some (HO.tup [V.str "power", V.int (((xs.length : Nat) : Int) - 1), V.int (2 + u)]) = some (HO.tup [V.str "power", V.int ((rs.length - 1 : Nat) : Int), V.int (2 + u)])
        rw [ei]))
      refine ⟨R, xs, _, rfl, rfl, hR5, Nat.lt_of_le_of_lt (show _ ≤ 200 by omega) (by decide), ?_⟩
      have L6 := L5.push (p := q1) (r := .power (rs.length - 1) (2 + u)) hR5 t1 ⟨by omega, by omega, by omega⟩ (by omega) (by show 0 ≤ (szs rs).getD (rs.length - 1) 0 * (2 + u); rw [zl]; omega) (by show (szs rs).getD (rs.length - 1) 0 * (2 + u) ≤ _; rw [zl]; omega)
      have hR6 : upd (upd H4 q1 (.tup [.str "power", .int (((xs.length : Nat) : Int) - 1), .int (2 + u)])) R (.lst (xs ++ [.ref q1])) R = some (.lst (xs ++ [.ref q1])) := upd_same
      have zl2 : (szs (rs ++ [Rl.power (rs.length - 1) (2 + u)])).getD rs.length 0 = 2 * (2 + u) := by
        rw [sz_last]
        show (szs rs).getD (rs.length - 1) 0 * (2 + u) = _
        rw [zl]
      have z02 : (szs (rs ++ [Rl.power (rs.length - 1) (2 + u)])).getD 0 0 = 0 := by rw [sz_keep _ (by omega)]; exact z0
      have len2 : (rs ++ [Rl.power (rs.length - 1) (2 + u)]).length = rs.length + 1 := by rw [List.length_append]; rfl
      have xl2 : (xs ++ [V.ref q1]).length = rs.length + 1 := by rw [List.length_append, hxl]; rfl
      show (fun H => _) (upd (upd H4 q1 (.tup [.str "power", .int (((xs.length : Nat) : Int) - 1), .int (2 + u)])) R (.lst (xs ++ [.ref q1])))
      generalize upd (upd H4 q1 (.tup [.str "power", .int (((xs.length : Nat) : Int) - 1), .int (2 + u)])) R (.lst (xs ++ [.ref q1])) = H6 at L6 hR6
      generalize rs ++ [Rl.power (rs.length - 1) (2 + u)] = rs1 at L6 zl2 z02 len2
      generalize xs ++ [V.ref q1] = xs1 at hR6 xl2
      refine ⟨_, rfl, R, _, rfl, .inl ⟨SqL.of hR6, fun a1 ha1 => ?_⟩⟩
      have v1 := same_new ha1 (.tup xs1)
      refine ⟨_, _, rfl, rfl, ⟨by decide, by decide, by decide⟩, (by show 3 ≤ sizeLine; decide), fun a2 ha2 => ?_⟩
      have v2 := same_new ha2 (.tup [.str "power", .int 0, .int (10 ^ Int.toNat 20)])
      refine ⟨_, rfl, R, _, rfl, .inl (SqL.of ((v1.trans v2) _ _ hR6)), _, _, rfl, rfl, _, rfl, R, _, rfl, .inl (SqL.of ((v1.trans v2) _ _ hR6)), (by show 3 ≤ sizeLine; decide), fun a3 ha3 => ?_⟩
      have v3 := same_new ha3 (.tup [.str "pair", .int (((xs1.length : Nat) : Int) - 1), .int ((xs1.length : Nat) : Int)])
      refine ⟨(by show 2 ≤ sizeLine; decide), fun a4 ha4 => ?_⟩
      have v4 := same_new ha4 (.tup [.ref a2, .ref a3])
      refine ⟨a1, a4, xs1, [.ref a2, .ref a3], rfl, rfl, SqT.of ((v2.trans (v3.trans v4)) _ _ upd_same), SqT.of upd_same, Nat.le_trans (show _ ≤ 200 by rw [xl2]; simp only [List.length_cons, List.length_nil]; omega) (by decide), fun h => ?_, fun _ h => (by cases h), fun _ _ a5 ha5 => ?_⟩
      · rw [h] at xl2; simp at xl2
      have v5 := same_new ha5 (.tup (xs1 ++ [.ref a2, .ref a3]))
      have vall := v1.trans (v2.trans (v3.trans (v4.trans v5)))
      have n5 := (L6.same (v1.trans (v2.trans (v3.trans v4)))).C.new ha5
      have L7 := L6.same vall
      have p20 : (10 : Int) ^ Int.toNat 20 = 100000000000000000000 := by decide
      have va : ValidAt rs1.length (.power 0 (10 ^ Int.toNat 20)) := ⟨by omega, by rw [p20]; decide, by rw [p20]; decide⟩
      have va2 : ValidAt (rs1 ++ [Rl.power 0 (10 ^ Int.toNat 20)]).length (.pair rs.length (rs.length + 1)) := ⟨by rw [List.length_append, len2]; simp only [List.length_cons, List.length_nil]; omega, by rw [List.length_append, len2]; simp only [List.length_cons, List.length_nil]; omega⟩
      have za : szOf (szs rs1) (.power 0 (10 ^ Int.toNat 20)) = 0 := by
        show (szs rs1).getD 0 0 * _ = 0
        rw [z02, Int.zero_mul]
      have zb : szOf (szs (rs1 ++ [Rl.power 0 (10 ^ Int.toNat 20)])) (.pair rs.length (rs.length + 1)) = 2 * (2 + u) := by
        show (szs (rs1 ++ [Rl.power 0 (10 ^ Int.toNat 20)])).getD rs.length 0 + (szs (rs1 ++ [Rl.power 0 (10 ^ Int.toNat 20)])).getD (rs.length + 1) 0 = _
        have e1 := sz_keep (rs := rs1) (Rl.power 0 (10 ^ Int.toNat 20)) (i := rs.length) (by omega)
        have e2 := sz_last rs1 (Rl.power 0 (10 ^ Int.toNat 20))
        rw [len2] at e2
        rw [e1, e2, zl2, za, Int.add_zero]
      have ft7 : FTs K (upd (upd (upd (upd (upd H6 a1 (.tup xs1)) a2 (.tup [.str "power", .int 0, .int (10 ^ Int.toNat 20)])) a3 (.tup [.str "pair", .int (((xs1.length : Nat) : Int) - 1), .int ((xs1.length : Nat) : Int)])) a4 (.tup [.ref a2, .ref a3])) a5 (.tup (xs1 ++ [.ref a2, .ref a3]))) (xs1 ++ [.ref a2] ++ [.ref a3]) ((rs1 ++ [Rl.power 0 (10 ^ Int.toNat 20)] ++ [Rl.pair rs.length (rs.length + 1)]).map Rl.d) := by
        obtain ⟨xs', g1, g2⟩ := L6.ex
        rw [hR6] at g1
        cases g1
        rw [List.map_append, List.map_append]
        refine ((g2.tk (TK.same vall)).snoc (ft_rule va (by omega) (SqT.of ((v3.trans (v4.trans v5)) _ _ upd_same)))).snoc (ft_rule va2 (by rw [List.length_append, len2]; simp only [List.length_cons, List.length_nil]; omega) (SqT.of ((v4.trans v5) _ _ (upd_same.trans ?_))))
        rw [xl2]
        show some (HO.tup [V.str "pair", V.int (((rs.length + 1 : Nat) : Int) - 1), V.int ((rs.length + 1 : Nat) : Int)]) = some (HO.tup [V.str "pair", V.int ((rs.length : Nat) : Int), V.int ((rs.length + 1 : Nat) : Int)])
        rw [show ((rs.length + 1 : Nat) : Int) - 1 = ((rs.length : Nat) : Int) by omega]
      rw [List.append_assoc] at ft7
      refine q a5 _ _ _ (L7.C.le (by omega)) L7.sc (SqT.of (cut_upd n5)) (ft7.tk (TK.cut L7.C)) ((L6.v.snoc va).snoc va2) ?_ ?_ ((L6.b.snoc (by rw [za]; decide) (by rw [za]; decide)).snoc (by rw [zb]; omega) (by rw [zb]; omega))
      · rw [List.length_append, List.length_append]; simp only [List.length_cons, List.length_nil]; omega
      · rw [List.length_append, List.length_append, len2]; simp only [List.length_cons, List.length_nil]; omega
end
end K35


set_option Elab.async false
set_option linter.all false
set_option maxRecDepth 100000
set_option maxHeartbeats 8000000
namespace K35
open PySem PySem.Spec PyProof.Rows L2
theorem TX.tk {K : PySem.W.Frag} {H H' : Hp} {a : Addr} {rs : List Rl} (h : TX K H a rs) (s : TK H H') : TX K H' a rs := by
  obtain ⟨xs, h1, h2⟩ := h.ex
  exact ⟨xs, sqt_tk s h1, h2.tk s⟩
section
variable {P : Program} {w : World} {K : PySem.W.Frag} {mg : Str → Option Value} {base : Heap}
theorem sc__law_round : FnScope ["cup", "low", "many", "size", "rules", "turn"] ["cup"] (C8.fnScope (topS 35)) := C8.fnScope_by (by decide +kernel)
theorem ok__law_round {f : Addr} {fd : FuncData} (F : C8.Def K mg "_law_round" (topS 35) f fd) (b : Binds K fd ["cup"] []) (B : Bl mg) (c__law_sip : C8.Cal P w K mg base 1 "_law_sip" spSip []) (c__law_text : C8.Cal P w K mg base 2 "_law_text" (spText K) []) (c__law_sizes : C8.Cal P w K mg base 1 "_law_sizes" (spSizes K) []) : C8.Cal P w K mg base 3 "_law_round" (spMade K 543) [] := by
  refine C8.cal0 F b .nil sc__law_round ?len ?body
  case len => rintro vs H Q E ⟨c, l, zz, m, rfl, _⟩; rfl
  case body =>
    rintro cdv A outer s H vs Q E hr ⟨c, l, zz, m, rfl, C, q⟩
    refine ⟨_, (pss_cons (ps_par (i := 1) (j := 2) rfl sc__law_round.nd rfl rfl (by decide) rfl rfl (pa_cons (C8.pe_c c__law_text hr (by decide) rfl (pa_cons (pv 0) (pa_cons pe_int (pa_cons pe_int pa_nil)))) (pa_cons (pe_op op_add pe_int (C8.pe_c c__law_sip hr (by decide) rfl (pa_cons (pv 0) (pa_cons pe_int pa_nil)))) pa_nil)) (by with_unfolding_all rfl))
    (pss_cons (ps_set (i := 3) sc__law_round.nd rfl (Or.inl rfl) (pe_ix ix_list (C8.pe_c c__law_sizes hr (by decide) rfl (pa_cons (pv 1) pa_nil)) (pe_un un_neg pe_int) (fun _ _ => rfl)))
    (C8.pss_cut (ps_if (pt_cmpR op_eq (pv 3) pe_int (nomark _)) (pss_one (ps_asg (pe_tup (pa_cons (pe_tup (pa_cons (pe_tup (pa_cons pe_str (pa_cons pe_int pa_nil))) (pa_cons (pe_tup (pa_cons pe_str (pa_cons (pe_un un_neg pe_int) pa_nil))) (pa_cons (pe_tup (pa_cons pe_str (pa_cons pe_int (pa_cons pe_int pa_nil)))) pa_nil)))) (pa_cons pe_int pa_nil))) (pg_tup rfl (pgs_cons (pg_name (i := 1) sc__law_round.nd rfl (Or.inl rfl)) (pgs_cons (pg_name (i := 3) sc__law_round.nd rfl (Or.inl rfl)) pgs_nil))))) pss_nil)
    (pss_cons (ps_set (i := 4) sc__law_round.nd rfl (Or.inl rfl) (pe_op op_cat (pe_callTy call_list_of rfl B.list (by decide +kernel) (pa_cons (pv 1) pa_nil)) (pe_lst (pa_cons (pe_tup (pa_cons pe_str (pa_cons (pe_un un_neg pe_int) pa_nil))) (pa_cons (pe_tup (pa_cons pe_str (pa_cons (pe_op op_sub (pe_callB call_len_seq rfl B.len PySem.boot_len (pa_cons (pv 1) pa_nil)) pe_int) (pa_cons (pe_op op_fdiv (pv 2) (pv 3)) pa_nil)))) pa_nil)))))
    (pss_cons (ps_for PassesOwn.never rfl (pi_range1 rfl B.range (pa_cons (pe_op op_sub (pv 2) (pe_op op_mul (pe_op op_fdiv (pv 2) (pv 3)) (pv 3))) pa_nil)) (pg_name (i := 5) sc__law_round.nd rfl (Or.inl rfl))
    (pss_one (ps_expr (pe_bm PySem.F.plainAttrs_list PySem.F.slot_list_append PySem.F.type_list_append mt_append (pv 4) (pa_cons (pe_tup (pa_cons pe_str (pa_cons (pe_op op_sub (pe_callB call_len_seq rfl B.len PySem.boot_len (pa_cons (pv 4) pa_nil)) pe_int) (pa_cons (pe_callB call_len_seq rfl B.len PySem.boot_len (pa_cons (pv 1) pa_nil)) pa_nil)))) pa_nil)))))
    (pss_one (ps_ret (pe_callTy call_tuple_of rfl B.tuple (by decide +kernel) (pa_cons (pv 4) pa_nil))))))))), ?_⟩
    refine ⟨_, rfl, c, l, zz, m + 1, 20, 60, rfl, by decide, by decide, by decide, by decide, C, fun a xs rs H1 C1 s1 hs1 hf1 hv h1 h60 hszs => ?_⟩
    have tx1 : TX K H1 a rs := ⟨xs, sq_cut hs1, hf1.ext (same_ext cut_ext)⟩
    have hb : SzB rs := fun z hz => by have := hszs z hz; omega
    refine ⟨_, rfl, c, l, zz, m, 21, rfl, C1, by decide, by decide, fun u H2 u0 u1 C2 kp2 => ⟨_, _, rfl, rfl, _, _, rfl, ?_⟩⟩
    have tx2 := tx1.tk (TK.sc C1 kp2)
    have s2 := s1.trans kp2
    obtain ⟨many, em, mb⟩ : ∃ many : Int, (3990 : Int) + u = many ∧ 3990 ≤ many ∧ many ≤ 4010 := ⟨_, rfl, by omega⟩
    dsimp only
    rw [em]
    refine ⟨_, rfl, a, rs, rfl, tx2, hv, by omega, hb, fun l1 H3 s3 hl1 hl1' => ?_⟩
    have lastS : atI ((szs rs).map V.int) (-1) = some (.int ((szs rs).getD (rs.length - 1) 0)) := by
      have hsl : (szs rs).length = rs.length := szs_len rs
      apply atI_last
      rw [List.length_map, hsl, List.getElem?_map, List.getElem?_eq_getElem (by omega), List.getD_eq_getElem?_getD, List.getElem?_eq_getElem (by omega)]
      rfl
    have bl : (0 : Int) ≤ (szs rs).getD (rs.length - 1) 0 ∧ (szs rs).getD (rs.length - 1) 0 ≤ 60 := by
      apply hszs
      rw [List.getD_eq_getElem?_getD, List.getElem?_eq_getElem (by rw [szs_len]; omega)]
      exact List.getElem_mem _
    refine ⟨1, rfl, l1, _, _, _, rfl, rfl, SqL.of hl1', lastS, ?_⟩
    have C3 := C2.same s3
    have sc3 := s2.trans (SC.same s3)
    have tx3 := tx2.same s3
    refine name_of' ?_
    refine ⟨fun σ' H' => ∃ (a' : Addr) (rs' : List Rl) (z : Int), σ' = [some (.ref c), some (.ref a'), some (.int many), some (.int z), none, none] ∧ Cup H' c l zz m ∧ SC c l H H' ∧ TX K H' a' rs' ∧ Valid rs' ∧ 1 ≤ rs'.length ∧ rs'.length ≤ 60 ∧ SzB rs' ∧ (szs rs').getD (rs'.length - 1) 0 = z ∧ 1 ≤ z ∧ z ≤ 60, ?_, ?_⟩
    · refine ⟨_, rfl, rfl, _, rfl, ?_⟩
      rw [dec_int]
      by_cases c0 : (szs rs).getD (rs.length - 1) 0 = 0
      · rw [decide_eq_true c0]
        refine iteT ?_
        refine ⟨(by show 2 ≤ sizeLine; decide), fun p1 h1' => ⟨3, rfl, (by show 2 ≤ sizeLine; decide), fun p2 h2' => ⟨(by show 3 ≤ sizeLine; decide), fun p3 h3' => ⟨(by show 3 ≤ sizeLine; decide), fun p4 h4' => ⟨(by show 2 ≤ sizeLine; decide), fun p5 h5' => ?_⟩⟩⟩⟩⟩
        have g1 := same_new h1' (.tup [.str "letter", .int 2])
        have g2 := same_new h2' (.tup [.str "letter", .int (-3)])
        have g3 := same_new h3' (.tup [.str "pair", .int 0, .int 1])
        have g4 := same_new h4' (.tup [.ref p1, .ref p2, .ref p3])
        have g5 := same_new h5' (.tup [.ref p4, .int 2])
        have gall := g1.trans (g2.trans (g3.trans (g4.trans g5)))
        refine ⟨p5, _, rfl, SqT.of upd_same, rfl, _, _, rfl, _, _, rfl, rfl, ?_⟩
        refine ⟨p4, [.letter 2, .letter (-3), .pair 0 1], 2, rfl, C3.same gall, sc3.trans (SC.same gall), ⟨_, SqT.of (g5 _ _ upd_same), ?_⟩, ?_, by decide, by decide, ?_, rfl, by decide, by decide⟩
        · exact .cons (ft_rule (n := 0) (r := .letter 2) ⟨by decide, by decide, by decide⟩ (by omega) (SqT.of ((g2.trans (g3.trans (g4.trans g5))) _ _ upd_same)))
            (.cons (ft_rule (n := 0) (r := .letter (-3)) ⟨by decide, by decide, by decide⟩ (by omega) (SqT.of ((g3.trans (g4.trans g5)) _ _ upd_same)))
            (.cons (ft_rule (n := 2) (r := .pair 0 1) ⟨by decide, by decide⟩ (by omega) (SqT.of ((g4.trans g5) _ _ upd_same))) .nil))
        · intro n r e
          match n, e with
          | 0, e => cases e; exact ⟨by decide, by decide, by decide⟩
          | 1, e => cases e; exact ⟨by decide, by decide, by decide⟩
          | 2, e => cases e; exact ⟨by decide, by decide⟩
          | n + 3, e => simp at e
        · have : szs [.letter 2, .letter (-3), .pair 0 1] = [1, 1, 2] := rfl
          intro z hz
          rw [this] at hz
          simp at hz
          rcases hz with rfl | rfl <;> exact ⟨by decide, by decide⟩
      · rw [decide_eq_false c0]
        exact iteF ⟨a, rs, _, rfl, C3, sc3, tx3, hv, h1, h60, hb, rfl, by omega, by omega⟩
    · rintro σ' H4 ⟨a', rs', z, rfl, C4, sc4, tx4, hv', h1', h60', hb', hz, z1, z2⟩
      obtain ⟨xs', hs4, hf4⟩ := tx4.ex
      have hxl : xs'.length = rs'.length := by rw [fts_len hf4, List.length_map]
      refine ⟨_, rfl, a', xs', rfl, .inr hs4, fun l2 hl2 => ?_⟩
      have g1 := same_new hl2 (.lst xs')
      refine ⟨20, rfl, (by show 2 ≤ sizeLine; decide), fun q1 k1 => ?_⟩
      have g2 := same_new k1 (.tup [.str "letter", .int (-20)])
      refine ⟨_, rfl, a', xs', rfl, .inr (sqt_ext (same_ext (g1.trans g2)) hs4), _, _, rfl, rfl, ?_⟩
      refine ⟨_, rfl, _, rfl, _, _, rfl, rfl, ⟨by omega, by omega⟩, (by show 3 ≤ sizeLine; decide), fun q2 k2 => ?_⟩
      have g3 := same_new k2 (.tup [.str "power", .int (((xs'.length : Nat) : Int) - 1), .int (many / z)])
      refine ⟨(by show 2 ≤ sizeLine; decide), fun l3 hl3 => ?_⟩
      have g4 := same_new hl3 (.lst [.ref q1, .ref q2])
      refine ⟨l2, l3, _, _, rfl, rfl, (g2.trans (g3.trans g4)) _ _ upd_same, upd_same, Nat.le_trans (show _ ≤ 200 by rw [hxl]; simp only [List.length_cons, List.length_nil]; omega) (by decide), fun R hR => ?_⟩
      have g5 := same_new hR (.lst (xs' ++ [.ref q1, .ref q2]))
      have gall := g1.trans (g2.trans (g3.trans (g4.trans g5)))
      have hq0 : 66 ≤ many / z := by
        have := Int.ediv_le_ediv (a := 66 * z) (b := many) (c := z) (by omega) (by omega)
        rwa [Int.mul_ediv_cancel _ (by omega)] at this
      have hq1 : many / z ≤ many := Int.ediv_le_self _ (by omega)
      have hqz : many / z * z ≤ many := Int.ediv_mul_le _ (by omega)
      have hem : many - many / z * z = many % z := by
        rw [Int.emod_def, Int.mul_comm]
      have m0 := Int.emod_nonneg many (show z ≠ 0 by omega)
      have m1 := Int.emod_lt_of_pos many (show 0 < z by omega)
      have va : ValidAt rs'.length (.letter (-20)) := ⟨by decide, by decide, by decide⟩
      have vb : ValidAt (rs' ++ [Rl.letter (-20)]).length (.power (rs'.length - 1) (many / z)) := ⟨by rw [List.length_append]; omega, by omega, by omega⟩
      have za : szOf (szs rs') (.letter (-20)) = 1 := rfl
      have zb : szOf (szs (rs' ++ [Rl.letter (-20)])) (.power (rs'.length - 1) (many / z)) = z * (many / z) := by
        show (szs (rs' ++ [Rl.letter (-20)])).getD (rs'.length - 1) 0 * (many / z) = _
        rw [sz_keep _ (by omega), hz]
      have hzb : 0 ≤ z * (many / z) ∧ z * (many / z) ≤ 4010 := by
        rw [Int.mul_comm]
        exact ⟨Int.mul_nonneg (by omega) (by omega), by omega⟩
      have L0 : LB K c l zz R H (rs' ++ [Rl.letter (-20)] ++ [Rl.power (rs'.length - 1) (many / z)]) m (upd (upd (upd (upd (upd H4 l2 (.lst xs')) q1 (.tup [.str "letter", .int (-20)])) q2 (.tup [.str "power", .int (((xs'.length : Nat) : Int) - 1), .int (many / z)])) l3 (.lst [.ref q1, .ref q2])) R (.lst (xs' ++ [.ref q1, .ref q2]))) := by
        refine ⟨C4.same gall, sc4.trans (SC.same gall), ⟨_, upd_same, ?_⟩, (hv'.snoc va).snoc vb, (hb'.snoc (by rw [za]; decide) (by rw [za]; decide)).snoc (by rw [zb]; omega) (by rw [zb]; omega), (C4.same (g1.trans (g2.trans (g3.trans g4)))).new hR, ?_⟩
        · have ft := ((hf4.ext (same_ext gall)).snoc (ft_rule va (by omega) (SqT.of ((g3.trans (g4.trans g5)) _ _ upd_same)))).snoc (ft_rule vb (by rw [List.length_append]; simp only [List.length_cons, List.length_nil]; omega) (SqT.of ((g4.trans g5) q2 _ (upd_same.trans (by
            show some (HO.tup [V.str "power", V.int (((xs'.length : Nat) : Int) - 1), V.int (many / z)]) = some (HO.tup [V.str "power", V.int ((rs'.length - 1 : Nat) : Int), V.int (many / z)])
            rw [show ((xs'.length : Nat) : Int) - 1 = ((rs'.length - 1 : Nat) : Int) by omega])))))
          rw [List.append_assoc xs' [V.ref q1] [V.ref q2]] at ft
          rw [List.map_append, List.map_append]
          exact ft
        · have ne := (C4.same (g1.trans (g2.trans (g3.trans g4)))).new hR
          cases e : H R with
          | none => rfl
          | some o => rw [(g1.trans (g2.trans (g3.trans g4))) _ _ (sc4 _ _ ne.1 ne.2.1 e)] at hR; cases hR
      have zlast : (szs (rs' ++ [Rl.letter (-20)] ++ [Rl.power (rs'.length - 1) (many / z)])).getD (rs'.length + 1) 0 = z * (many / z) := by
        have := sz_last (rs' ++ [Rl.letter (-20)]) (.power (rs'.length - 1) (many / z))
        rw [List.length_append] at this
        exact this.trans zb
      have zlet : (szs (rs' ++ [Rl.letter (-20)] ++ [Rl.power (rs'.length - 1) (many / z)])).getD rs'.length 0 = 1 := by
        rw [sz_keep _ (by rw [List.length_append]; simp only [List.length_cons, List.length_nil]; omega), sz_last, za]
      have len0 : (rs' ++ [Rl.letter (-20)] ++ [Rl.power (rs'.length - 1) (many / z)]).length = rs'.length + 2 := by rw [List.length_append, List.length_append]; rfl
      have hs5 := sqt_ext (same_ext gall) hs4
      generalize upd (upd (upd (upd (upd H4 l2 (.lst xs')) q1 (.tup [.str "letter", .int (-20)])) q2 (.tup [.str "power", .int (((xs'.length : Nat) : Int) - 1), .int (many / z)])) l3 (.lst [.ref q1, .ref q2])) R (.lst (xs' ++ [.ref q1, .ref q2])) = H5 at L0 hs5
      generalize rs' ++ [Rl.letter (-20)] ++ [Rl.power (rs'.length - 1) (many / z)] = rs0 at L0 zlast zlet len0
      refine name_of' ?_
      dsimp only
      refine ⟨_, rfl, _, rfl, _, rfl, _, _, rfl, rfl, ⟨by omega, by omega⟩, _, rfl, _, _, rfl, rfl, .inr ⟨by omega, by omega⟩, _, _, rfl, rfl, _, rfl, by omega, by omega, ?_⟩
      obtain ⟨N, eN, hN⟩ : ∃ N, (many - many / z * z).toNat = N ∧ N < 60 := ⟨_, rfl, by omega⟩
      rw [eN]
      refine for_range (lo := 0) (n := N) (fun t σ H' => (∃ s5, σ = [some (.ref c), some (.ref a'), some (.int many), some (.int z), some (.ref R), s5]) ∧ SqT K H' a' xs' ∧ ∃ rs, LB K c l zz R H rs m H' ∧ rs.length = rs'.length + 2 + t ∧ (szs rs).getD rs'.length 0 = 1 ∧ 0 ≤ (szs rs).getD (rs.length - 1) 0 ∧ (szs rs).getD (rs.length - 1) 0 ≤ 4010 + t) ⟨⟨none, rfl⟩, hs5, rs0, L0, len0, zlet, ?_, ?_⟩ ?_ ?_
      · rw [len0, show rs'.length + 2 - 1 = rs'.length + 1 by omega, zlast]; exact hzb.1
      · rw [len0, show rs'.length + 2 - 1 = rs'.length + 1 by omega, zlast]; omega
      · rintro t σ H6 ht ⟨⟨s5, rfl⟩, hs6, rs6, L6, hlen, zl6, zz0, zz1⟩
        obtain ⟨ys, hRx, hft⟩ := L6.ex
        have hyl : ys.length = rs6.length := by rw [fts_len hft, List.length_map]
        refine name_of' ?_
        refine ⟨_, rfl, .inl ⟨rfl, _, SqL.of hRx⟩, ?_⟩
        refine ⟨_, rfl, R, ys, rfl, .inl (SqL.of hRx), _, _, rfl, rfl, _, rfl, a', xs', rfl, .inr hs6, (by show 3 ≤ sizeLine; decide), fun q9 k9 => ?_⟩
        have w1 := same_new k9 (.tup [.str "pair", .int (((ys.length : Nat) : Int) - 1), .int ((xs'.length : Nat) : Int)])
        have L7 := L6.same w1
        have hR7 := w1 _ _ hRx
        have t1 : SqT K (upd H6 q9 (.tup [.str "pair", .int (((ys.length : Nat) : Int) - 1), .int ((xs'.length : Nat) : Int)])) q9 (Rl.pair (rs6.length - 1) rs'.length).v := SqT.of (upd_same.trans (by
          show some (HO.tup [V.str "pair", V.int (((ys.length : Nat) : Int) - 1), V.int ((xs'.length : Nat) : Int)]) = some (HO.tup [V.str "pair", V.int ((rs6.length - 1 : Nat) : Int), V.int ((rs'.length : Nat) : Int)])
          rw [show ((ys.length : Nat) : Int) - 1 = ((rs6.length - 1 : Nat) : Int) by omega, hxl]))
        refine ⟨R, ys, _, rfl, rfl, hR7, Nat.lt_of_le_of_lt (show _ ≤ 200 by omega) (by decide), ?_⟩
        have zp : szOf (szs rs6) (.pair (rs6.length - 1) rs'.length) = (szs rs6).getD (rs6.length - 1) 0 + 1 := by
          show (szs rs6).getD (rs6.length - 1) 0 + (szs rs6).getD rs'.length 0 = _
          rw [zl6]
        have L8 := L7.push (p := q9) (r := .pair (rs6.length - 1) rs'.length) hR7 t1 ⟨by omega, by omega⟩ (by omega) (by rw [zp]; omega) (by rw [zp]; omega)
        refine ⟨⟨_, rfl⟩, sqt_tk ((TK.same w1).trans (TK.upd hR7)) hs6, _, L8, by rw [List.length_append, hlen]; simp only [List.length_cons, List.length_nil]; omega, ?_, ?_, ?_⟩
        · rw [sz_keep _ (by omega)]; exact zl6
        · rw [List.length_append]
          show 0 ≤ (szs (rs6 ++ [Rl.pair (rs6.length - 1) rs'.length])).getD (rs6.length + 1 - 1) 0
          rw [Nat.add_sub_cancel, sz_last, zp]
          omega
        · rw [List.length_append]
          show (szs (rs6 ++ [Rl.pair (rs6.length - 1) rs'.length])).getD (rs6.length + 1 - 1) 0 ≤ _
          rw [Nat.add_sub_cancel, sz_last, zp]
          omega
      · rintro σ H6 ⟨⟨s5, rfl⟩, hs6, rs6, L6, hlen, zl6, zz0, zz1⟩
        obtain ⟨ys, hRx, hft⟩ := L6.ex
        refine ⟨_, rfl, R, ys, rfl, .inl ⟨SqL.of hRx, fun p hp => ?_⟩⟩
        have w1 := same_new hp (.tup ys)
        have L7 := L6.same w1
        have ne := L6.C.new hp
        exact q p ys rs6 _ (L7.C.le (by omega)) L7.sc (SqT.of (cut_upd ne)) ((hft.ext (same_ext w1)).tk (TK.cut L7.C)) L6.v (by omega) (by omega) L6.b
end
end K35


set_option Elab.async false
set_option linter.all false
set_option maxRecDepth 100000
set_option maxHeartbeats 8000000
namespace K35
open PySem PySem.Spec PyProof.Rows L2
def KX (c l : Addr) (H H' : Hp) : Prop := ∀ p o, p ≠ c → p ≠ l → H p = some o → (∀ ps, o ≠ .tbl ps) → H' p = some o
theorem KX.ext {c l : Addr} {H H' : Hp} (e : LamX.ExtN H H') : KX c l H H' := fun p o _ _ h n => e p o h n
theorem KX.sc {c l : Addr} {H H' : Hp} (e : SC c l H H') : KX c l H H' := fun p o a b h _ => e p o a b h
theorem KX.trans {c l : Addr} {H H' H2 : Hp} (a : KX c l H H') (b : KX c l H' H2) : KX c l H H2 := fun p o x y h n => b p o x y (a p o x y h n) n
def swapG : List Value → List Value → List Value
  | [], [p, t] => [t, p]
  | _, _ => []
def swapV : List V → List V → List V
  | [], [p, t] => [t, p]
  | _, _ => []
theorem flat_at {α : Type} (l : List α) : ∀ (k i : Nat), i < k * l.length → (List.replicate k l).flatten[i]? = l[i % l.length]?
  | 0, i, h => by simp at h
  | k + 1, i, h => by
    rw [List.replicate_succ, List.flatten_cons]
    by_cases c : i < l.length
    · rw [List.getElem?_append_left c, Nat.mod_eq_of_lt c]
    · rw [List.getElem?_append_right (by omega), flat_at l k (i - l.length) (by rw [Nat.succ_mul] at h; omega), Nat.mod_eq_sub_mod (by omega : i ≥ l.length)]
theorem wd_at {rs : List Rl} (hv : Valid rs) (hb : SzB rs) : ∀ (N n : Nat) (p : Int), n < N → n < rs.length → 0 ≤ p → p < (szs rs).getD n 0 → (WD rs n)[p.toNat]? = some (LET rs n p)
  | 0, _, _, h, _, _, _ => absurd h (Nat.not_lt_zero _)
  | N + 1, n, p, h, hl, h0, h1 => by
    obtain ⟨r, e⟩ : ∃ r, rs[n]? = some r := ⟨_, List.getElem?_eq_getElem hl⟩
    have v := hv n r e
    have dn : Dn rs n p n p := ⟨hl, h0, h1, rfl⟩
    cases r with
    | none => exact (dn.no hv e).elim
    | letter x =>
      have h1' := h1
      rw [sz_at hv e] at h1'
      have h2 : p < 1 := h1'
      rw [wd_letter e, let_letter e, show p.toNat = 0 by omega]
      rfl
    | pair i j =>
      have v1 := v.1
      have v2 := v.2
      have wl := wd_size hv (n := i) (by omega)
      rw [wd_pair hv e, let_pair hv e]
      by_cases c : p < (szs rs).getD i 0
      · rw [if_pos c, List.getElem?_append_left (by omega)]
        exact wd_at hv hb N i p (by omega) (by omega) h0 c
      · have d2 := dn.pairR hv e c
        rw [if_neg c, List.getElem?_append_right (by omega), show p.toNat - (WD rs i).length = (p - (szs rs).getD i 0).toNat by omega]
        exact wd_at hv hb N j _ (by omega) (by omega) d2.lo d2.p1
    | power i k =>
      have v1 := v.1
      have v2 := v.2.1
      have d2 := dn.power hv hb e
      have wl := wd_size hv (n := i) (by omega)
      have h1' := h1
      rw [sz_at hv e] at h1'
      have h3 : p < (szs rs).getD i 0 * k := h1'
      rw [wd_power hv e, let_power hv e, flat_at]
      · have e2 : p.toNat % (WD rs i).length = (p % (szs rs).getD i 0).toNat := by
          rw [← wl]
          have : ((p.toNat % (WD rs i).length : Nat) : Int) = p % (((WD rs i).length : Nat) : Int) := by
            rw [Int.natCast_emod, Int.toNat_of_nonneg h0]
          omega
        rw [e2]
        exact wd_at hv hb N i _ (by omega) (by omega) d2.2.lo d2.2.p1
      · rw [← wl] at h3
        have : ((k.toNat * (WD rs i).length : Nat) : Int) = (((WD rs i).length : Nat) : Int) * k := by
          rw [Int.natCast_mul, Int.toNat_of_nonneg (by omega), Int.mul_comm]
        omega
theorem sd_ints (ns : List Int) (h : ns.length ≤ 5000) : Sd 3 (.tuple (ns.map PyData.int)) := .inr (.inr ⟨_, rfl, by rw [List.length_map]; exact h, fun e he => by
  obtain ⟨i, _, rfl⟩ := List.mem_map.mp he
  exact .inr (.inl ⟨i, rfl⟩)⟩)
theorem sd_bal (rs : List Rl) : Sd 3 (.tuple (balD rs 21)) := .inr (.inr ⟨_, rfl, by
  unfold balD
  exact Nat.le_trans (List.length_filterMap_le _ _) (by rw [List.length_range]; decide), fun e he => by
  unfold balD at he
  obtain ⟨x, _, hx⟩ := List.mem_filterMap.mp he
  split at hx
  · cases hx
  · cases hx
    exact .inr (.inr ⟨_, rfl, (by show 2 ≤ 5000; decide), fun e2 he2 => by
      simp at he2
      rcases he2 with rfl | rfl <;> exact .inr (.inl ⟨_, rfl⟩)⟩)⟩)
section
variable {P : Program} {w : World} {K : PySem.W.Frag} {mg : Str → Option Value} {base : Heap}
def spAll (K : PySem.W.Frag) (T : Addr) : Sp := fun vs H Q _ => ∃ (c l a : Addr) (m : Nat) (rs : List Rl), vs = [.ref c, .ref a] ∧ Cup H c l c (m + 36) ∧ GxR.TabG H T ∧ TX K H a rs ∧ Valid rs ∧ 1 ≤ rs.length ∧ rs.length ≤ 300 ∧ SzB rs ∧ ∀ H', Cup H' c l c m → GxR.TabG H' T → KX c l H H' → Q (.bl true) H'
theorem sc__law_all_right : FnScope ["cup", "rules", "sizes", "places", "turn", "place", "due"] ["cup", "rules"] (C8.fnScope (topS 33)) := C8.fnScope_by (by decide +kernel)
theorem ok__law_all_right {f : Addr} {fd : FuncData} (F : C8.Def K mg "_law_all_right" (topS 33) f fd) (bb : Binds K fd ["cup", "rules"] []) (B : Bl mg) {T : Addr} (hmin : mg "min" = none) (c__law_place : C8.Cal P w K mg base 2 "_law_place" spPlace []) (c__law_sizes : C8.Cal P w K mg base 1 "_law_sizes" (spSizes K) []) (c__law_same : C8.Cal P w K mg base 4 "_law_same" (spSameT K 3) []) (c_lengths : C8.Cal P w K mg base 8 "lengths" (spLengths K T) []) (c_balance : C8.Cal P w K mg base 8 "balance" (spBalance K T) []) (c__law_balance : C8.Cal P w K mg base 1 "_law_balance" (spLawBal K) []) (c_letter_at : C8.Cal P w K mg base 8 "letter_at" (spLetAt K T) []) (c__law_letter : C8.Cal P w K mg base 1 "_law_letter" (spLawLet K) []) (c__law_words : C8.Cal P w K mg base 1 "_law_words" (spWords K) []) (c__law_bare : C8.Cal P w K mg base 2 "_law_bare" (spBare K) []) (c_spelled : C8.Cal P w K mg base 8 "spelled" (spSpelled K T) [])
    {fL : Addr} {fdL : FuncData} (FL : FnOk P w K mg base C8.CX0 8 fL fdL ["text"] (spLengths K T)) (mL : mg "lengths" = some (.ref fL)) (kL : PySem.W.keepIn K (.ref fL) = true) (bL : KBinds K fdL ["text"] ["text"] (fun us ws => us ++ ws) (fun vs zs => vs ++ zs))
    {fB : Addr} {fdB : FuncData} (FB : FnOk P w K mg base C8.CX0 8 fB fdB ["text"] (spBalance K T)) (mB : mg "balance" = some (.ref fB)) (kB : PySem.W.keepIn K (.ref fB) = true) (bB : KBinds K fdB ["text"] ["text"] (fun us ws => us ++ ws) (fun vs zs => vs ++ zs))
    {fS : Addr} {fdS : FuncData} (FS : FnOk P w K mg base C8.CX0 8 fS fdS ["text"] (spSpelled K T)) (mS : mg "spelled" = some (.ref fS)) (kS : PySem.W.keepIn K (.ref fS) = true) (bS : KBinds K fdS ["text"] ["text"] (fun us ws => us ++ ws) (fun vs zs => vs ++ zs))
    {fA : Addr} {fdA : FuncData} (FA : FnOk P w K mg base C8.CX0 8 fA fdA ["text", "place"] (spLetAt K T)) (mA : mg "letter_at" = some (.ref fA)) (kA : PySem.W.keepIn K (.ref fA) = true) (bA : KBinds K fdA ["text", "place"] ["place", "text"] swapG swapV) : C8.Cal P w K mg base 10 "_law_all_right" (spAll K T) [] := by
  refine C8.cal0 F bb .nil sc__law_all_right ?len ?body
  case len => rintro vs H Q E ⟨c, l, a, m, rs, rfl, _⟩; rfl
  case body =>
    rintro cdv A outer s H vs Q E hr ⟨c, l, a, m, rs, rfl, C, tab, tx, hv, h1, h2, hb, q⟩
    refine ⟨_, (pss_cons (ps_set (i := 2) sc__law_all_right.nd rfl (Or.inr rfl) (C8.pe_c c__law_sizes hr (by decide) rfl (pa_cons (pv 1) pa_nil)))
    (pss_cons (ps_if (PW.pt (pw_or (pt_not (pt_val (C8.pe_c c__law_same hr (by decide) rfl (pa_cons (C8.pe_c c_lengths hr (by decide) rfl (pa_cons (pv 1) pa_nil)) (pa_cons (pe_callTy call_tuple_of rfl B.tuple (by decide +kernel) (pa_cons (pv 2) pa_nil)) pa_nil))))) (pw_or1 (pt_not (pt_val (C8.pe_c c__law_same hr (by decide) rfl (pa_cons (pe_callK0 FL (hr.mono (by decide)) rfl mL kL bL pass0 (pk_cons (pv 1) pk_nil)) (pa_cons (pe_callTy call_tuple_of rfl B.tuple (by decide +kernel) (pa_cons (pv 2) pa_nil)) pa_nil)))))))) (pss_one (ps_ret pe_bl)) pss_nil)
    (pss_cons (ps_if (PW.pt (pw_or (pt_not (pt_val (C8.pe_c c__law_same hr (by decide) rfl (pa_cons (C8.pe_c c_balance hr (by decide) rfl (pa_cons (pv 1) pa_nil)) (pa_cons (C8.pe_c c__law_balance hr (by decide) rfl (pa_cons (pv 1) pa_nil)) pa_nil))))) (pw_or1 (pt_not (pt_val (C8.pe_c c__law_same hr (by decide) rfl (pa_cons (pe_callK0 FB (hr.mono (by decide)) rfl mB kB bB pass0 (pk_cons (pv 1) pk_nil)) (pa_cons (C8.pe_c c__law_balance hr (by decide) rfl (pa_cons (pv 1) pa_nil)) pa_nil)))))))) (pss_one (ps_ret pe_bl)) pss_nil)
    (C8.pss_cut (ps_set (i := 3) sc__law_all_right.nd rfl (Or.inl rfl) (pe_ifExp (pt_cmpR op_gt (pe_ix ix_list (pv 2) (pe_un un_neg pe_int) (fun _ _ => rfl)) pe_int (nomark _)) (pe_op op_cat (pe_lst (pa_cons pe_int (pa_cons (pe_op op_sub (pe_ix ix_list (pv 2) (pe_un un_neg pe_int) (fun _ _ => rfl)) pe_int) pa_nil))) (pe_lc (own := [("turn", 4)]) (g := gName 4) (te := (tCall spPlace [] C8.E0 (tCons (tVar 0) (tCons (tOp (rIxL K) (tVar 2) (tUn (rU fun i => .int (-i)) (tC (.int 1)))) tNil)))) rfl sc__law_all_right.nd (pi_range1 rfl B.range (pa_cons pe_int pa_nil)) (blkOk_by (own := [("turn", 4)]) (N := ["cup", "rules", "sizes", "places", "turn", "place", "due"]) (sc := (C8.fnScope (topS 33))) (by decide +kernel)) (fun _ _ _ _ _ => pg_name (i := 4) sc__law_all_right.nd rfl (Or.inl rfl)) (fun _ _ _ _ _ => pts_nil) (fun _ _ _ _ _ => by exact (C8.pe_c c__law_place hr (by decide) rfl (pa_cons (pv 0) (pa_cons (pe_ix ix_list (pv 2) (pe_un un_neg pe_int) (fun _ _ => rfl)) pa_nil)))))) (pe_lst pa_nil)))
    (pss_cons (ps_for PassesOwn.never rfl (pi_list (pv 3)) (pg_name (i := 5) sc__law_all_right.nd rfl (Or.inl rfl))
    (pss_one (ps_if (pt_not (pt_val (C8.pe_c c__law_same hr (by decide) rfl (pa_cons (C8.pe_c c_letter_at hr (by decide) rfl (pa_cons (pv 1) (pa_cons (pv 5) pa_nil))) (pa_cons (C8.pe_c c__law_letter hr (by decide) rfl (pa_cons (pv 1) (pa_cons (pv 2) (pa_cons (pv 5) pa_nil)))) pa_nil))))) (pss_one (ps_ret pe_bl)) pss_nil)))
    (pss_cons (ps_set (i := 6) sc__law_all_right.nd rfl (Or.inl rfl) pe_non)
    (C8.pss_cut (ps_if (pt_cmpR op_lt (pe_ix ix_list (pv 2) (pe_un un_neg pe_int) (fun _ _ => rfl)) pe_int (nomark _)) (pss_cons (ps_set (i := 6) sc__law_all_right.nd rfl (Or.inl rfl) (pe_ix ix_list (C8.pe_c c__law_words hr (by decide) rfl (pa_cons (C8.pe_c c__law_bare hr (by decide) rfl (pa_cons (pv 1) pa_nil)) pa_nil)) (pe_un un_neg pe_int) (fun _ _ => rfl)))
    (pss_one (ps_for PassesOwn.never rfl (pi_range1 rfl B.range (pa_cons (pe_callB (call_min2 rfl) rfl hmin (by decide +kernel) (pa_cons pe_int (pa_cons (pe_callB call_len_seq rfl B.len PySem.boot_len (pa_cons (pv 6) pa_nil)) pa_nil))) pa_nil)) (pg_name (i := 5) sc__law_all_right.nd rfl (Or.inl rfl))
    (pss_one (ps_if (pt_not (pt_val (C8.pe_c c__law_same hr (by decide) rfl (pa_cons (pe_callK0 FA (hr.mono (by decide)) rfl mA kA bA pass0 (pk_cons (pv 5) (pk_cons (pv 1) pk_nil))) (pa_cons (pe_ix ix_tup (pv 6) (pv 5) (fun _ _ => rfl)) pa_nil))))) (pss_one (ps_ret pe_bl)) pss_nil))))) pss_nil)
    (pss_one (ps_ret (pe_and (C8.pe_c c__law_same hr (by decide) rfl (pa_cons (C8.pe_c c_spelled hr (by decide) rfl (pa_cons (pv 1) pa_nil)) (pa_cons (pv 6) pa_nil))) (pe_one (C8.pe_c c__law_same hr (by decide) rfl (pa_cons (pe_callK0 FS (hr.mono (by decide)) rfl mS kS bS pass0 (pk_cons (pv 1) pk_nil)) (pa_cons (pv 6) pa_nil)))))))))))))), ?_⟩
    refine ⟨_, rfl, a, rs, rfl, tx, hv, by omega, hb, fun l1 H1 s1 hl1 hl1' => ?_⟩
    have nl1 := (C.new hl1)
    have e1 := same_ext s1
    have tb1 := tab_same s1 tab
    have lastS : atI ((szs rs).map V.int) (-1) = some (.int ((szs rs).getD (rs.length - 1) 0)) := by
      have hsl : (szs rs).length = rs.length := szs_len rs
      apply atI_last
      rw [List.length_map, hsl, List.getElem?_map, List.getElem?_eq_getElem (by omega), List.getD_eq_getElem?_getD, List.getElem?_eq_getElem (by omega)]
      rfl
    have szl : (szs rs).length ≤ 5000 := by rw [szs_len]; omega
    refine name_of' ?_
    -- lengths
    refine ⟨_, rfl, a, rs, rfl, tx.ext e1, hv, h1, by omega, hb, tb1, fun p1 H2 k2 hp1 => ?_⟩
    have e2 := e1.trans k2.1
    refine ⟨_, rfl, l1, _, rfl, .inl ⟨SqL.of (k2.1 _ _ hl1' (fun _ z => by cases z)), fun p2 hp2 => ?_⟩⟩
    have s3 := same_new hp2 (.tup ((szs rs).map V.int))
    have e3 := e2.trans (same_ext s3)
    have tb3 := tab_same s3 k2.2
    refine ⟨_, _, .tuple ((szs rs).map PyData.int), rfl, .tup (SqT.of (s3 _ _ hp1)) (dp_ints _), .tup (SqT.of upd_same) (dp_ints _), sd_ints _ szl, fun H4 s4 => ?_⟩
    have e4 := e3.trans (same_ext s4)
    have tb4 := tab_same s4 tb3
    refine ⟨_, rfl, iteF ?_⟩
    refine ⟨_, rfl, a, rs, rfl, tx.ext e4, hv, h1, by omega, hb, tb4, fun p3 H5 k5 hp3 => ?_⟩
    have e5 := e4.trans k5.1
    have hl5 := ((k2.1.trans (same_ext s3)).trans ((same_ext s4).trans k5.1)) _ _ hl1' (fun _ z => by cases z)
    refine ⟨_, rfl, l1, _, rfl, .inl ⟨SqL.of hl5, fun p4 hp4 => ?_⟩⟩
    have s6 := same_new hp4 (.tup ((szs rs).map V.int))
    refine ⟨_, _, .tuple ((szs rs).map PyData.int), rfl, .tup (SqT.of (s6 _ _ hp3)) (dp_ints _), .tup (SqT.of upd_same) (dp_ints _), sd_ints _ szl, fun H7 s7 => ?_⟩
    have e7 := e5.trans (same_ext (s6.trans s7))
    have tb7 := tab_same (s6.trans s7) k5.2
    have hl7 := (s6.trans s7) _ _ hl5
    refine ⟨_, rfl, iteF ?_⟩
    -- balance
    refine ⟨_, rfl, a, rs, rfl, tx.ext e7, hv, h1, by omega, hb, tb7, fun p5 v5 H8 k8 hp5 hd5 => ?_⟩
    have e8 := e7.trans k8.1
    refine ⟨_, rfl, a, rs, rfl, tx.ext e8, hv, h1, by omega, hb, fun p6 v6 H9 s9 hp6 hd6 => ?_⟩
    have e9 := e8.trans (same_ext s9)
    have tb9 := tab_same s9 k8.2
    refine ⟨_, _, .tuple (balD rs 21), rfl, .tup (SqT.of (s9 _ _ hp5)) (dps_ext (same_ext s9) _ hd5), .tup (SqT.of hp6) hd6, sd_bal rs, fun H10 s10 => ?_⟩
    have e10 := e9.trans (same_ext s10)
    have tb10 := tab_same s10 tb9
    refine ⟨_, rfl, iteF ?_⟩
    refine ⟨_, rfl, a, rs, rfl, tx.ext e10, hv, h1, by omega, hb, tb10, fun p7 v7 H11 k11 hp7 hd7 => ?_⟩
    have e11 := e10.trans k11.1
    refine ⟨_, rfl, a, rs, rfl, tx.ext e11, hv, h1, by omega, hb, fun p8 v8 H12 s12 hp8 hd8 => ?_⟩
    have e12 := e11.trans (same_ext s12)
    have tb12 := tab_same s12 k11.2
    refine ⟨_, _, .tuple (balD rs 21), rfl, .tup (SqT.of (s12 _ _ hp7)) (dps_ext (same_ext s12) _ hd7), .tup (SqT.of hp8) hd8, sd_bal rs, fun H13 s13 => ?_⟩
    have e13 := e12.trans (same_ext s13)
    have tb13 := tab_same s13 tb12
    have hl13 : H13 l1 = some (.lst ((szs rs).map V.int)) := (k8.1.trans ((same_ext s9).trans ((same_ext s10).trans (k11.1.trans ((same_ext s12).trans (same_ext s13)))))) _ _ hl7 (fun _ z => by cases z)
    have C13 := C.ext e13
    have tx13 := tx.ext e13
    refine ⟨_, rfl, iteF ?_⟩
    have bl := gd_b hb (rs.length - 1)
    clear hp1 hp2 hp3 hp4 hp5 hp6 hp7 hp8 hd5 hd6 hd7 hd8
    refine ⟨fun σ' H' => ∃ (pl : Addr) (ns : List Int), σ' = [some (.ref c), some (.ref a), some (.ref l1), some (.ref pl), none, none, none] ∧ H' pl = some (.lst (ns.map V.int)) ∧ ns.length ≤ 20 ∧ (∀ z ∈ ns, 0 ≤ z ∧ z < (szs rs).getD (rs.length - 1) 0) ∧ Cup H' c l c m ∧ GxR.TabG H' T ∧ TX K H' a rs ∧ H' l1 = some (.lst ((szs rs).map V.int)) ∧ KX c l H H', ?_, ?_⟩
    · refine ⟨_, rfl, 1, rfl, l1, _, _, _, rfl, rfl, SqL.of hl13, lastS, _, _, rfl, rfl, _, rfl, ?_⟩
      by_cases c0 : (0 : Int) < (szs rs).getD (rs.length - 1) 0
      · rw [decide_eq_true c0]
        refine iteT ?_
        refine ⟨_, rfl, 1, rfl, l1, _, _, _, rfl, rfl, SqL.of hl13, lastS, _, _, rfl, rfl, (by show 2 ≤ sizeLine; decide), fun q1 k1 => ?_⟩
        have s14 := same_new k1 (.lst [.int 0, .int ((szs rs).getD (rs.length - 1) 0 - 1)])
        have C14 := C13.same s14
        have nq1 := C13.new k1
        refine am_comp (F := fun h => h l1 = some (.lst ((szs rs).map V.int))) (N := 6) (k := 6) (p := fun z => 0 ≤ z ∧ z < (szs rs).getD (rs.length - 1) 0) (fun h s => s _ _ h) (by omega) (fun _ => rfl) ?te m _ _ C14 ((cut_get ⟨nl1.1, nl1.2.1, nl1.1⟩).trans (s14 _ _ hl13)) ?fin
        case te =>
          intro D z m H Q C f q
          exact ⟨_, rfl, _, rfl, 1, rfl, l1, _, _, _, rfl, rfl, SqL.of (cut_ext _ _ f), lastS, c, l, D, m, _, rfl, by omega, by omega, C, fun r H' r0 r1 C' s' => q r H' ⟨r0, r1⟩ C' s'⟩
        case fin =>
          intro q2 ns H15 C15 s15 hq2 hns hnl
          have hq1 := s15 _ _ nq1.1 nq1.2.1 (upd_same (H := H13) (a := q1) (o := HO.lst [.int 0, .int ((szs rs).getD (rs.length - 1) 0 - 1)]))
          refine ⟨q1, q2, _, _, rfl, rfl, hq1, cut_ext _ _ hq2, Nat.le_trans (show _ ≤ 20 by rw [List.length_map]; simp only [List.length_cons, List.length_nil]; omega) (by decide), fun pl hpl => ?_⟩
          have s16 := same_new hpl (.lst ([.int 0, .int ((szs rs).getD (rs.length - 1) 0 - 1)] ++ ns.map V.int))
          have tk15 := (TK.same s14).trans (TK.sc C14 s15)
          refine ⟨pl, [0, (szs rs).getD (rs.length - 1) 0 - 1] ++ ns, rfl, by rw [List.map_append]; exact upd_same, by rw [List.length_append]; simp only [List.length_cons, List.length_nil]; omega, fun z hz => ?_, C15.same s16, tab_same s16 (tab_sc C14 s15 (tab_same s14 tb13)), (tx13.tk tk15).same s16, s16 _ _ (s15 _ _ nl1.1 nl1.2.1 (s14 _ _ hl13)), (KX.ext e13).trans ((KX.ext (same_ext s14)).trans ((KX.sc s15).trans (KX.ext (same_ext s16))))⟩
          rcases List.mem_append.mp hz with hz | hz
          · rcases List.mem_cons.mp hz with rfl | hz
            · omega
            · cases List.mem_singleton.mp hz; omega
          · exact hns z hz
      · rw [decide_eq_false c0]
        refine iteF ⟨(by show 0 ≤ sizeLine; decide), fun pl hpl => ?_⟩
        have s14 := same_new hpl (.lst [])
        exact ⟨pl, [], rfl, upd_same, by simp, (fun _ h => by cases h), (C13.same s14).le (by omega), tab_same s14 tb13, tx13.same s14, s14 _ _ hl13, (KX.ext e13).trans (KX.ext (same_ext s14))⟩
    · rintro σ' H14 ⟨pl, ns, rfl, hpl, hnl, hns, C14, tb14, tx14, hl14, kx14⟩
      refine ⟨_, rfl, pl, rfl, ⟨_, SqL.of hpl⟩, ?_⟩
      refine for_list (xs := ns.map V.int) (fun j σ H' => (∃ s5, σ = [some (.ref c), some (.ref a), some (.ref l1), some (.ref pl), none, s5, none]) ∧ LamX.ExtN H14 H' ∧ GxR.TabG H' T) ⟨⟨none, rfl⟩, LamX.ExtN.refl _, tb14⟩ ?_ ?_ ?_
      · rintro j σ H' _ ⟨_, e, _⟩
        exact sq_ext e (SqL.of hpl)
      · rintro j zv σ H15 hz ⟨⟨s5, rfl⟩, e15, tb15⟩
        obtain ⟨z, rfl, hzm⟩ : ∃ z, zv = .int z ∧ z ∈ ns := by
          rw [List.getElem?_map] at hz
          cases h : ns[j]? with
          | none => rw [h] at hz; cases hz
          | some z => rw [h] at hz; cases hz; exact ⟨z, rfl, List.mem_of_getElem? h⟩
        have bz := hns z hzm
        refine name_of' ?_
        refine ⟨_, rfl, _, rfl, a, rs, z, rfl, tx14.ext e15, hv, h1, by omega, hb, bz.1, bz.2, tb15, fun H16 k16 => ?_⟩
        have e16 := e15.trans k16.1
        refine ⟨_, rfl, _, rfl, _, rfl, a, l1, rs, z, rfl, tx14.ext e16, hv, h1, by omega, hb, e16 _ _ hl14 (fun _ z => by cases z), bz.1, bz.2, fun H17 s17 => ?_⟩
        refine ⟨_, _, .int (LET rs (rs.length - 1) z), rfl, .int _, .int _, .inr (.inl ⟨_, rfl⟩), fun H18 s18 => ?_⟩
        have e18 := e16.trans (same_ext (s17.trans s18))
        have tb18 := tab_same (s17.trans s18) k16.2
        exact ⟨_, rfl, iteF ⟨⟨_, rfl⟩, e18, tb18⟩⟩
      · rintro σ H15 ⟨⟨s5, rfl⟩, e15, tb15⟩
        have C15 := C14.ext e15
        have tx15 := tx14.ext e15
        have hl15 := e15 _ _ hl14 (fun _ z => by cases z)
        dsimp only
        have due2 : ∀ {H : Hp} {v : V}, (if 4000 < (szs rs).getD (rs.length - 1) 0 then v = .non else ∃ p, v = .ref p ∧ SqT K H p ((WD rs (rs.length - 1)).map V.int)) → ∃ d, Dp K H v d ∧ Sd 3 d ∧ ∀ {H' : Hp} {v' : V}, SpellR rs v' H' → Dp K H' v' d := fun {H v} h => by
          by_cases c : 4000 < (szs rs).getD (rs.length - 1) 0
          · rw [if_pos c] at h
            subst h
            refine ⟨.none, .non, .inl rfl, fun {H' v'} h' => ?_⟩
            unfold SpellR at h'
            rw [if_pos c] at h'
            subst h'
            exact .non
          · rw [if_neg c] at h
            obtain ⟨p, rfl, hp⟩ := h
            have wl := wd_size hv (n := rs.length - 1) (by omega)
            refine ⟨.tuple ((WD rs (rs.length - 1)).map PyData.int), .tup hp (dp_ints _), sd_ints _ (by omega), fun {H' v'} h' => ?_⟩
            unfold SpellR at h'
            rw [if_neg c] at h'
            obtain ⟨p', rfl, hp'⟩ := h'
            exact .tup (SqT.of hp') (dp_ints _)
        refine ⟨fun σ' H' => ∃ (v : V) (s5 : Option V), σ' = [some (.ref c), some (.ref a), some (.ref l1), some (.ref pl), none, s5, some v] ∧ LamX.ExtN H15 H' ∧ GxR.TabG H' T ∧ (if 4000 < (szs rs).getD (rs.length - 1) 0 then v = .non else ∃ p, v = .ref p ∧ SqT K H' p ((WD rs (rs.length - 1)).map V.int)), ?_, ?_⟩
        · refine ⟨_, rfl, 1, rfl, l1, _, _, _, rfl, rfl, SqL.of hl15, lastS, _, _, rfl, rfl, _, rfl, ?_⟩
          by_cases c0 : (szs rs).getD (rs.length - 1) 0 < 4001
          · rw [decide_eq_true c0]
            refine iteT ?_
            refine ⟨_, rfl, a, rs, rfl, tx15, hv, by omega, hb, fun r ys H16 s16 hr16 hft => ?_⟩
            have bln := bare_len rs
            refine ⟨r, ys, bare rs, rfl, hr16, hft, bare_valid hv, by omega, fun n hn => wd_bare_len hv hb (by omega), fun W zs H17 s17 hW hzl ws => ?_⟩
            obtain ⟨vl, el⟩ : ∃ v, zs[zs.length - 1]? = some v := ⟨_, List.getElem?_eq_getElem (by omega)⟩
            obtain ⟨pw, rfl, hpw⟩ := ws _ vl el
            rw [hzl, bln, wd_bare hv hb _ _ (Nat.lt_succ_self _) (by omega), if_pos c0] at hpw
            have wl := wd_size hv (n := rs.length - 1) (by omega)
            have s1617 := s16.trans s17
            have tb17 := tab_same s1617 tb15
            refine ⟨1, rfl, W, zs, _, _, rfl, rfl, SqL.of hW, atI_last el, ?_⟩
            refine name_of' ?_
            dsimp only
            refine ⟨_, rfl, pw, _, rfl, .inr hpw, _, _, rfl, ?_⟩
            have eml : ∃ N : Nat, (if (((List.map V.int (WD rs (rs.length - 1))).length : Nat) : Int) < 40 then (((List.map V.int (WD rs (rs.length - 1))).length : Nat) : Int) else 40) = (N : Int) ∧ N ≤ (WD rs (rs.length - 1)).length ∧ N ≤ 40 := by
              rw [List.length_map]
              split
              · exact ⟨_, rfl, Nat.le_refl _, by omega⟩
              · exact ⟨40, rfl, by omega, Nat.le_refl _⟩
            obtain ⟨N, eN, hN1, hN2⟩ := eml
            rw [eN]
            refine ⟨_, rfl, by omega, by omega, ?_⟩
            rw [Int.toNat_natCast]
            refine for_range (lo := 0) (n := N) (fun t σ H' => (∃ s5, σ = [some (.ref c), some (.ref a), some (.ref l1), some (.ref pl), none, s5, some (.ref pw)]) ∧ LamX.ExtN H17 H' ∧ GxR.TabG H' T) ⟨⟨_, rfl⟩, LamX.ExtN.refl _, tb17⟩ ?_ ?_
            · rintro t σ H18 ht ⟨⟨s5, rfl⟩, e18, tb18⟩
              refine name_of' ?_
              have hz1 : (0 : Int) + (t : Int) = ((t : Nat) : Int) := by omega
              refine ⟨_, rfl, _, rfl, a, rs, (0 + (t : Int)), rfl, (tx15.same s1617).ext e18, hv, h1, by omega, hb, by omega, by omega, tb18, fun H19 k19 => ?_⟩
              have e19 := e18.trans k19.1
              have hat := wd_at hv hb _ (rs.length - 1) (t : Int) (Nat.lt_succ_self _) (by omega) (by omega) (by omega)
              rw [Int.toNat_natCast] at hat
              have hat2 : atI ((WD rs (rs.length - 1)).map V.int) (0 + (t : Int)) = some (.int (LET rs (rs.length - 1) (t : Int))) := by
                rw [hz1]
                apply atI_nat
                rw [List.getElem?_map, hat]
                rfl
              rw [hz1]
              refine ⟨_, rfl, _, rfl, pw, _, _, _, rfl, rfl, sqt_ext e19 hpw, by rw [← hz1]; exact hat2, ?_⟩
              refine ⟨_, _, .int (LET rs (rs.length - 1) (t : Int)), rfl, .int _, .int _, .inr (.inl ⟨_, rfl⟩), fun H20 s20 => ?_⟩
              exact ⟨_, rfl, iteF ⟨⟨_, rfl⟩, e19.trans (same_ext s20), tab_same s20 k19.2⟩⟩
            · rintro σ H18 ⟨⟨s5, rfl⟩, e18, tb18⟩
              refine ⟨.ref pw, s5, rfl, (same_ext s1617).trans e18, tb18, ?_⟩
              rw [if_neg (by omega)]
              exact ⟨pw, rfl, sqt_ext e18 hpw⟩
          · rw [decide_eq_false c0]
            refine iteF ?_
            exact ⟨.non, _, rfl, LamX.ExtN.refl _, tb15, by rw [if_pos (by omega)]⟩
        · rintro σ' H16 ⟨v, s5', rfl, e16, tb16, hv16⟩
          have tx16 := tx15.ext e16
          obtain ⟨d, hd, sd, hsp⟩ := due2 hv16
          refine ⟨_, rfl, a, rs, rfl, tx16, hv, h1, by omega, hb, tb16, fun v1 H17 k17 sp1 => ?_⟩
          refine ⟨_, rfl, _, _, d, rfl, hsp sp1, dp_ext k17.1 _ hd, sd, fun H18 s18 => ?_⟩
          have e18 := k17.1.trans (same_ext s18)
          have tb18 := tab_same s18 k17.2
          refine ⟨_, rfl, iteT ?_⟩
          refine ⟨_, rfl, a, rs, rfl, tx16.ext e18, hv, h1, by omega, hb, tb18, fun v2 H19 k19 sp2 => ?_⟩
          refine ⟨_, rfl, _, _, d, rfl, hsp sp2, dp_ext k19.1 _ (dp_ext e18 _ hd), sd, fun H20 s20 => ?_⟩
          exact q H20 (((C15.ext e16).ext e18).ext (k19.1.trans (same_ext s20))) (tab_same s20 k19.2) (kx14.trans (KX.ext (e15.trans (e16.trans (e18.trans (k19.1.trans (same_ext s20)))))))
end
end K35


set_option Elab.async false
set_option linter.all false
set_option maxRecDepth 100000
set_option maxHeartbeats 8000000
namespace K35
open PySem PySem.Spec PyProof.Rows L2
theorem cup_c {c l : Addr} {H : Hp} {m : Nat} (C : Cup0 H c l m) : Cup H c l c m := by
  obtain ⟨a, b, k, ns, h1, h2, h3⟩ := C
  exact ⟨⟨a, b, k, ns, h1, h2, h3⟩, _, h1⟩
section
variable {P : Program} {w : World} {K : PySem.W.Frag} {mg : Str → Option Value} {base : Heap}
def spLaw (K : PySem.W.Frag) (T : Addr) : Sp := fun vs H Q _ => ∃ (x : Addr) (ns : List Int), vs = [.ref x] ∧ SqL K H x (ns.map V.int) ∧ GxR.TabG H T ∧ ∀ H', Q (.bl true) H'
theorem sc_law : FnScope ["script", "cup", "cap"] ["script"] (C8.fnScope (topS 37)) := C8.fnScope_by (by decide +kernel)
theorem ok_law {f : Addr} {fd : FuncData} (F : C8.Def K mg "law" (topS 37) f fd) (B : Bl mg) {T : Addr} (c__law_cup : C8.Cal P w K mg base 1 "_law_cup" (spCup K) []) (c__law_sip : C8.Cal P w K mg base 1 "_law_sip" spSip []) (c__law_text : C8.Cal P w K mg base 2 "_law_text" (spText K) []) (c__law_round : C8.Cal P w K mg base 3 "_law_round" (spMade K 543) []) (c__law_chain : C8.Cal P w K mg base 2 "_law_chain" (spMade K 101) []) (c__law_all_right : C8.Cal P w K mg base 10 "_law_all_right" (spAll K T) []) : FnOk P w K mg base C8.CX0 12 f fd ["script"] (spLaw K T) := by
  refine C8.fn0 F.fn sc_law ?len ?body
  case len => rintro vs H Q E ⟨x, ns, rfl, _⟩; rfl
  case body =>
    rintro cdv A outer s H vs Q E hr ⟨x, ns, rfl, hx, tab, q⟩
    refine ⟨_, (pss_cons (ps_set (i := 1) sc_law.nd rfl (Or.inl rfl) (C8.pe_c c__law_cup hr (by decide) rfl (pa_cons (pv 0) pa_nil)))
    (pss_cons (ps_for PassesOwn.never rfl (pi_list (pe_lst (pa_cons pe_int (pa_cons pe_int (pa_cons pe_int (pa_cons pe_int (pa_cons (pe_op op_pow pe_int pe_int) (pa_cons (pe_op op_pow pe_int pe_int) pa_nil)))))))) (pg_name (i := 2) sc_law.nd rfl (Or.inl rfl))
    (pss_one (ps_if (pt_not (pt_val (C8.pe_c c__law_all_right hr (by decide) rfl (pa_cons (pv 1) (pa_cons (C8.pe_c c__law_text hr (by decide) rfl (pa_cons (pv 1) (pa_cons pe_int (pa_cons (pv 2) pa_nil)))) pa_nil))))) (pss_one (ps_ret pe_bl)) pss_nil)))
    (C8.pss_cut (ps_if (PW.pt (pw_and (pt_cmpR op_eq (C8.pe_c c__law_sip hr (by decide) rfl (pa_cons (pv 1) (pa_cons pe_int pa_nil))) pe_int (nomark _)) (pw_and1 (pt_not (pt_val (C8.pe_c c__law_all_right hr (by decide) rfl (pa_cons (pv 1) (pa_cons (C8.pe_c c__law_round hr (by decide) rfl (pa_cons (pv 1) pa_nil)) pa_nil)))))))) (pss_one (ps_ret pe_bl)) pss_nil)
    (pss_one (ps_ret (C8.pe_c c__law_all_right hr (by decide) rfl (pa_cons (pv 1) (pa_cons (C8.pe_c c__law_chain hr (by decide) rfl (pa_cons (pv 1) pa_nil)) pa_nil)))))))), ?_⟩
    refine ⟨_, rfl, x, ns, rfl, hx, fun c l H1 C1 s1 => ?_⟩
    have tab1 := tab_same s1 tab
    have C1' : Cup H1 c l c 1000000 := cup_c C1
    refine name_of' ?_
    dsimp only
    refine ⟨_, _, rfl, rfl, ⟨by decide, by decide, by decide⟩, _, _, rfl, rfl, ⟨by decide, by decide, by decide⟩, (by show 6 ≤ sizeLine; decide), fun q0 hq0 => ⟨q0, rfl, ⟨_, SqL.of upd_same⟩, ?_⟩⟩
    have s2 := same_new hq0 (.lst [.int 3, .int 30, .int 120, .int 2000, .int (10 ^ Int.toNat 18), .int (10 ^ Int.toNat 40)])
    have n0 := C1'.new hq0
    refine for_list (xs := [.int 3, .int 30, .int 120, .int 2000, .int (10 ^ Int.toNat 18), .int (10 ^ Int.toNat 40)]) (fun t σ H' => (∃ s2, σ = [some (.ref x), some (.ref c), s2]) ∧ Cup H' c l c (578 * (6 - t) + 1000) ∧ GxR.TabG H' T ∧ H' q0 = some (.lst [.int 3, .int 30, .int 120, .int 2000, .int (10 ^ Int.toNat 18), .int (10 ^ Int.toNat 40)])) ⟨⟨none, rfl⟩, (C1'.same s2).le (by omega), tab_same s2 tab1, upd_same⟩ ?_ ?_ ?_
    · rintro t σ H' _ ⟨_, _, _, h⟩
      exact SqL.of h
    · rintro t y σ H2 hy ⟨⟨s2', rfl⟩, C2, tab2, hq2⟩
      have ht : t < 6 := (List.getElem?_eq_some_iff.mp hy).1
      obtain ⟨cap, rfl, hc1, hc2⟩ : ∃ cap : Int, y = .int cap ∧ 1 ≤ cap ∧ cap ≤ 10000000000000000000000000000000000000000 := by
        match t, hy with
        | 0, hy => cases hy; exact ⟨_, rfl, by decide, by decide⟩
        | 1, hy => cases hy; exact ⟨_, rfl, by decide, by decide⟩
        | 2, hy => cases hy; exact ⟨_, rfl, by decide, by decide⟩
        | 3, hy => cases hy; exact ⟨_, rfl, by decide, by decide⟩
        | 4, hy => cases hy; exact ⟨_, rfl, by decide, by decide⟩
        | 5, hy => cases hy; exact ⟨_, rfl, by decide, by decide⟩
        | t + 6, hy => simp at hy
      obtain ⟨b, eb, eb2⟩ : ∃ b, 578 * (6 - t) + 1000 = b + 578 ∧ 578 * (6 - (t + 1)) + 1000 = b := ⟨578 * (6 - (t + 1)) + 1000, by omega, rfl⟩
      rw [eb] at C2
      rw [eb2]
      refine name_of' ?_
      refine ⟨_, rfl, _, rfl, _, rfl, c, l, c, b + 36, 60, cap, rfl, by decide, by decide, hc1, hc2, C2, fun a xs rs H3 C3 s3 hs3 hf3 hv h1 h60 hszs => ?_⟩
      have tx3 : TX K H3 a rs := ⟨xs, sq_cut hs3, hf3.ext (same_ext cut_ext)⟩
      have tab3 := tab_sc C2 s3 tab2
      refine ⟨c, l, a, b, rs, rfl, C3, tab3, tx3, hv, h1, by omega, fun z hz => by have := hszs z hz; omega, fun H4 C4 tab4 kx4 => ?_⟩
      refine ⟨_, rfl, iteF ?_⟩
      exact ⟨⟨_, rfl⟩, C4, tab4, kx4 _ _ n0.1 n0.2.1 (s3 _ _ n0.1 n0.2.1 hq2) (fun _ z => by cases z)⟩
    · rintro σ H2 ⟨⟨s2', rfl⟩, C2, tab2, _⟩
      dsimp only
      refine ⟨fun σ' H' => (∃ s2, σ' = [some (.ref x), some (.ref c), s2]) ∧ Cup H' c l c 200 ∧ GxR.TabG H' T, ?_, ?_⟩
      · refine ⟨_, rfl, c, l, c, 900, 3, rfl, C2.le (by omega), by decide, by decide, fun r H3 r0 r1 C3 kp3 => ?_⟩
        have tab3 := tab_sc C2 kp3 tab2
        refine ⟨rfl, _, rfl, ?_⟩
        rw [dec_int]
        by_cases c0 : r = 0
        · rw [decide_eq_true c0]
          refine iteT ⟨_, rfl, _, rfl, c, l, c, 300, rfl, C3.le (by omega), fun a xs rs H4 C4 s4 hs4 hf4 hv h1 h300 hb => ?_⟩
          have tx4 : TX K H4 a rs := ⟨xs, sq_cut hs4, hf4.ext (same_ext cut_ext)⟩
          refine ⟨c, l, a, 264, rs, rfl, C4.le (by omega), tab_sc C3 s4 tab3, tx4, hv, h1, h300, hb, fun H5 C5 tab5 _ => ?_⟩
          exact ⟨_, rfl, iteF ⟨⟨_, rfl⟩, C5.le (by omega), tab5⟩⟩
        · rw [decide_eq_false c0]
          exact iteF (iteF ⟨⟨_, rfl⟩, C3.le (by omega), tab3⟩)
      · rintro σ' H3 ⟨⟨s2', rfl⟩, C3, tab3⟩
        refine ⟨_, rfl, _, rfl, c, l, c, 99, rfl, C3.le (by omega), fun a xs rs H4 C4 s4 hs4 hf4 hv h1 h300 hb => ?_⟩
        have tx4 : TX K H4 a rs := ⟨xs, sq_cut hs4, hf4.ext (same_ext cut_ext)⟩
        exact ⟨c, l, a, 63, rs, rfl, C4.le (by omega), tab_sc C3 s4 tab3, tx4, hv, h1, h300, hb, fun H5 C5 tab5 _ => q H5⟩
end
end K35


set_option Elab.async false
set_option linter.all false
set_option maxRecDepth 100000
set_option maxHeartbeats 8000000
namespace K35
open PySem PySem.Spec PyProof.Rows L2
theorem walk {l : PySem.W.OpenLaw} {n k : Nat} {q : Program} {loose : List Str} {XP : (Str → Option Value) → Heap → Prop} {YP : World → Heap → Prop} {d : DefRec} {K : Params → PySem.W.Frag} {CX : World → CXT} {x : Str}
    (hn : l.most = some n) (hn2 : n ≤ sizeLine) (hdf : d.params.defaults = []) (hr : Room k callerA) (hY : ∀ (w : World) (h : Heap), YP w h → (K w.params).In h)
    (F : ∀ (w : World) (lo : List Str) (mean : ExcName → Option Value) (mg mb : Str → Option Value) (fa : Addr) (h : Heap), Top q lo mean mg mb h → (K w.params).In h → mg d.name = some (.ref fa) → LamX.LawAtS l w (K w.params) (CX w) k n x mg fa h)
    (hCX : ∀ (w : World) (H : Hp) (s : Shared) (e : Value) (s' : Shared), CX w [] H s (fun _ _ _ => False) e s' → False) :
    PySem.W.WalkO q loose XP YP l.row.toRowW d [] (fun f vs => PySem.call f vs) := by
  refine Att.attach_callB hn hdf fun w s₀ s₁ mg mb fa o pm cd doc a vs ns G Y ho hd hcd hmg hobj hints hlen hbits hg => ?_
  have KX := hY w _ Y
  obtain ⟨fd, cs, sp, hT, nT, C, hb, hsp, hF⟩ := F w _ _ mg mb fa _ G.T KX hmg
  exact LamX.law_callTs KX G.T.g G.T.b G.T.builtins G.T.nolimit hg hT nT C G.T.bmain hobj hints (Nat.le_trans hlen hn2) hr hF hb (fun H hH hS => hsp H a ns hlen hbits hH hS) fun H e s' => hCX w H s₁ e s'
theorem kb_one {K : PySem.W.Frag} {fd : FuncData} (h : ∀ (s : Shared) (u : Value), BindsTo s fd ⟨[], [("text", u)]⟩ [("text", u)]) (h2 : ∀ (s : Shared) (u : Value), BindsTo s fd ⟨[u], []⟩ [("text", u)]) : KBinds K fd ["text"] ["text"] (fun us ws => us ++ ws) (fun vs zs => vs ++ zs) := by
  refine ⟨fun s us ws _ hl => ?_, fun r rz => r.append rz⟩
  match us, ws, hl with
  | [], [w], _ => exact h s w
  | [u], [], _ => exact h2 s u
  | [], [], hl => cases hl
  | [_], _ :: _, hl => simp at hl
  | [], _ :: _ :: _, hl => simp at hl
  | _ :: _ :: _, _, hl => simp at hl
theorem kb_two {K : PySem.W.Frag} {fd : FuncData} (h : ∀ (s : Shared) (p t : Value), BindsTo s fd ⟨[], [("place", p), ("text", t)]⟩ [("text", t), ("place", p)]) : KBinds K fd ["text", "place"] ["place", "text"] swapG swapV := by
  refine ⟨fun s us ws _ hl => ?_, fun {vs us zs ws} r rz => ?_⟩
  · match us, ws, hl with
    | [], [p, t], _ => exact h s p t
    | [], [], hl => cases hl
    | [], [_], hl => cases hl
    | [], _ :: _ :: _ :: _, hl => cases hl
    | _ :: _, _, hl => cases hl
  · cases r with
    | nil =>
      cases rz with
      | nil => exact .nil
      | cons a rz =>
        cases rz with
        | nil => exact .nil
        | cons b rz =>
          cases rz with
          | nil => exact .cons b (.cons a .nil)
          | cons c rz => exact .nil
    | cons a r => exact .nil
theorem all_mk {l : PySem.W.OpenLaw} {w : World} {K : PySem.W.Frag} {h : Heap} {mg mb : Str → Option Value} {fa : Addr} {q : Program} {lo : List Str} {mean : ExcName → Option Value} (TT : Top q lo mean mg mb h) (X : K.In h) (hfa : mg "law" = some (.ref fa))
    {f5 : Addr} {oc5 kV5 dc5 pm5 ct5 : Value} {cd5 : Value} {od5 an5 : Option Addr} {sl5 : Array (Option Value)}
    {f6 : Addr} {oc6 kV6 dc6 pm6 ct6 : Value} {cd6 : Value} {od6 an6 : Option Addr} {sl6 : Array (Option Value)}
    {f7 : Addr} {oc7 kV7 dc7 pm7 ct7 : Value} {cd7 : Value} {od7 an7 : Option Addr} {sl7 : Array (Option Value)}
    {f12 : Addr} {oc12 kV12 dc12 pm12 ct12 : Value} {cd12 : Value} {od12 an12 : Option Addr} {sl12 : Array (Option Value)}
    {f13 : Addr} {oc13 kV13 dc13 pm13 ct13 : Value} {c13 : Addr} {od13 an13 : Option Addr} {sl13 : Array (Option Value)}
    {f14 : Addr} {oc14 kV14 dc14 pm14 ct14 : Value} {cd14 : Value} {od14 an14 : Option Addr} {sl14 : Array (Option Value)}
    {f15 : Addr} {oc15 kV15 dc15 pm15 ct15 : Value} {cd15 : Value} {od15 an15 : Option Addr} {sl15 : Array (Option Value)}
    {f16 : Addr} {oc16 kV16 dc16 pm16 ct16 : Value} {cd16 : Value} {od16 an16 : Option Addr} {sl16 : Array (Option Value)}
    {f17 : Addr} {oc17 kV17 dc17 pm17 ct17 : Value} {cd17 : Value} {od17 an17 : Option Addr} {sl17 : Array (Option Value)}
    {f18 : Addr} {oc18 kV18 dc18 pm18 ct18 : Value} {cd18 : Value} {od18 an18 : Option Addr} {sl18 : Array (Option Value)}
    {f99 : Addr} {oc99 kV99 dc99 pm99 ct99 : Value} {cd99 : Value} {od99 an99 : Option Addr} {sl99 : Array (Option Value)}
    {f19 : Addr} {oc19 kV19 dc19 pm19 ct19 : Value} {cd19 : Value} {od19 an19 : Option Addr} {sl19 : Array (Option Value)}
    {f20 : Addr} {oc20 kV20 dc20 pm20 ct20 : Value} {cd20 : Value} {od20 an20 : Option Addr} {sl20 : Array (Option Value)}
    {f21 : Addr} {oc21 kV21 dc21 pm21 ct21 : Value} {cd21 : Value} {od21 an21 : Option Addr} {sl21 : Array (Option Value)}
    {f23 : Addr} {oc23 kV23 dc23 pm23 ct23 : Value} {cd23 : Value} {od23 an23 : Option Addr} {sl23 : Array (Option Value)}
    {f24 : Addr} {oc24 kV24 dc24 pm24 ct24 : Value} {cd24 : Value} {od24 an24 : Option Addr} {sl24 : Array (Option Value)}
    {f25 : Addr} {oc25 kV25 dc25 pm25 ct25 : Value} {cd25 : Value} {od25 an25 : Option Addr} {sl25 : Array (Option Value)}
    {f26 : Addr} {oc26 kV26 dc26 pm26 ct26 : Value} {cd26 : Value} {od26 an26 : Option Addr} {sl26 : Array (Option Value)}
    {f27 : Addr} {oc27 kV27 dc27 pm27 ct27 : Value} {cd27 : Value} {od27 an27 : Option Addr} {sl27 : Array (Option Value)}
    {f28 : Addr} {oc28 kV28 dc28 pm28 ct28 : Value} {cd28 : Value} {od28 an28 : Option Addr} {sl28 : Array (Option Value)}
    {f29 : Addr} {oc29 kV29 dc29 pm29 ct29 : Value} {cd29 : Value} {od29 an29 : Option Addr} {sl29 : Array (Option Value)}
    {f30 : Addr} {oc30 kV30 dc30 pm30 ct30 : Value} {cd30 : Value} {od30 an30 : Option Addr} {sl30 : Array (Option Value)}
    {f31 : Addr} {oc31 kV31 dc31 pm31 ct31 : Value} {cd31 : Value} {od31 an31 : Option Addr} {sl31 : Array (Option Value)}
    {f32 : Addr} {oc32 kV32 dc32 pm32 ct32 : Value} {cd32 : Value} {od32 an32 : Option Addr} {sl32 : Array (Option Value)}
    {f33 : Addr} {oc33 kV33 dc33 pm33 ct33 : Value} {cd33 : Value} {od33 an33 : Option Addr} {sl33 : Array (Option Value)}
    {f34 : Addr} {oc34 kV34 dc34 pm34 ct34 : Value} {cd34 : Value} {od34 an34 : Option Addr} {sl34 : Array (Option Value)}
    {f35 : Addr} {oc35 kV35 dc35 pm35 ct35 : Value} {cd35 : Value} {od35 an35 : Option Addr} {sl35 : Array (Option Value)}
    {f36 : Addr} {oc36 kV36 dc36 pm36 ct36 : Value} {cd36 : Value} {od36 an36 : Option Addr} {sl36 : Array (Option Value)}
    {u1 u2 u3 : Tok} {T : Addr} {oct : Value} {odt : Option Addr} {vst : Array Value} {slt : Array (Option Value)} {d8 : DefRec}
    (a5 : PySem.W.nsIn K mainGlobals "is_integer" = some (some (.ref f5))) (l5 : K.lookup f5 = some ⟨oc5, od5, .func (PySem.W.fnOf "is_integer" "is_integer" (C8.fnArgs (topS 5)) (C8.fnBody (topS 5)) (C8.fnScope (topS 5)) .none kV5 dc5 pm5 an5 cd5 ct5), sl5⟩) (c5h : PySem.W.codeIn K cd5 "is_integer" = true) (k5 : PySem.W.keepIn K (.ref f5) = true)
    (a6 : PySem.W.nsIn K mainGlobals "is_within" = some (some (.ref f6))) (l6 : K.lookup f6 = some ⟨oc6, od6, .func (PySem.W.fnOf "is_within" "is_within" (C8.fnArgs (topS 6)) (C8.fnBody (topS 6)) (C8.fnScope (topS 6)) .none kV6 dc6 pm6 an6 cd6 ct6), sl6⟩) (c6h : PySem.W.codeIn K cd6 "is_within" = true) (k6 : PySem.W.keepIn K (.ref f6) = true)
    (a7 : PySem.W.nsIn K mainGlobals "is_row" = some (some (.ref f7))) (l7 : K.lookup f7 = some ⟨oc7, od7, .func (PySem.W.fnOf "is_row" "is_row" (C8.fnArgs (topS 7)) (C8.fnBody (topS 7)) (C8.fnScope (topS 7)) .none kV7 dc7 pm7 an7 cd7 ct7), sl7⟩) (c7h : PySem.W.codeIn K cd7 "is_row" = true) (k7 : PySem.W.keepIn K (.ref f7) = true)
    (a12 : PySem.W.nsIn K mainGlobals "is_letter" = some (some (.ref f12))) (l12 : K.lookup f12 = some ⟨oc12, od12, .func (PySem.W.fnOf "is_letter" "is_letter" (C8.fnArgs (topS 12)) (C8.fnBody (topS 12)) (C8.fnScope (topS 12)) .none kV12 dc12 pm12 an12 cd12 ct12), sl12⟩) (c12h : PySem.W.codeIn K cd12 "is_letter" = true) (k12 : PySem.W.keepIn K (.ref f12) = true)
    (a13 : PySem.W.nsIn K mainGlobals "is_straight" = some (some (.ref f13))) (l13 : K.lookup f13 = some ⟨oc13, od13, .func (PySem.W.fnOf "is_straight" "is_straight" (C8.fnArgs (topS 13)) (C8.fnBody (topS 13)) (C8.fnScope (topS 13)) .none kV13 dc13 pm13 an13 (.ref c13) ct13), sl13⟩) (c13h : PySem.W.codeIn K (.ref c13) "is_straight" = true) (k13 : PySem.W.keepIn K (.ref f13) = true)
    (a14 : PySem.W.nsIn K mainGlobals "_is_rule" = some (some (.ref f14))) (l14 : K.lookup f14 = some ⟨oc14, od14, .func (PySem.W.fnOf "_is_rule" "_is_rule" (C8.fnArgs (topS 14)) (C8.fnBody (topS 14)) (C8.fnScope (topS 14)) .none kV14 dc14 pm14 an14 cd14 ct14), sl14⟩) (c14h : PySem.W.codeIn K cd14 "_is_rule" = true) (k14 : PySem.W.keepIn K (.ref f14) = true)
    (a15 : PySem.W.nsIn K mainGlobals "want_straight" = some (some (.ref f15))) (l15 : K.lookup f15 = some ⟨oc15, od15, .func (PySem.W.fnOf "want_straight" "want_straight" (C8.fnArgs (topS 15)) (C8.fnBody (topS 15)) (C8.fnScope (topS 15)) .none kV15 dc15 pm15 an15 cd15 ct15), sl15⟩) (c15h : PySem.W.codeIn K cd15 "want_straight" = true) (k15 : PySem.W.keepIn K (.ref f15) = true)
    (a16 : PySem.W.nsIn K mainGlobals "lengths" = some (some (.ref f16))) (l16 : K.lookup f16 = some ⟨oc16, od16, .func (PySem.W.fnOf "lengths" "lengths" (C8.fnArgs (topS 16)) (C8.fnBody (topS 16)) (C8.fnScope (topS 16)) .none kV16 dc16 pm16 an16 cd16 ct16), sl16⟩) (c16h : PySem.W.codeIn K cd16 "lengths" = true) (k16 : PySem.W.keepIn K (.ref f16) = true)
    (a17 : PySem.W.nsIn K mainGlobals "rule_sizes" = some (some (.ref f17))) (l17 : K.lookup f17 = some ⟨oc17, od17, .func (PySem.W.fnOf "rule_sizes" "rule_sizes" (C8.fnArgs (topS 17)) (C8.fnBody (topS 17)) (C8.fnScope (topS 17)) .none kV17 dc17 pm17 an17 cd17 ct17), sl17⟩) (c17h : PySem.W.codeIn K cd17 "rule_sizes" = true) (k17 : PySem.W.keepIn K (.ref f17) = true)
    (a18 : PySem.W.nsIn K mainGlobals "letter_at" = some (some (.ref f18))) (l18 : K.lookup f18 = some ⟨oc18, od18, .func (PySem.W.fnOf "letter_at" "letter_at" (C8.fnArgs (topS 18)) (C8.fnBody (topS 18)) (C8.fnScope (topS 18)) .none kV18 dc18 pm18 an18 cd18 ct18), sl18⟩) (c18h : PySem.W.codeIn K cd18 "letter_at" = true) (k18 : PySem.W.keepIn K (.ref f18) = true)
    (a99 : PySem.W.nsIn K mainGlobals "written_out" = some (some (.ref f99))) (l99 : K.lookup f99 = some ⟨oc99, od99, .func (PySem.W.fnOf "written_out" "written_out" (C8.fnArgs (topS 20)) (C8.fnBody (topS 20)) (C8.fnScope (topS 20)) .none kV99 dc99 pm99 an99 cd99 ct99), sl99⟩) (c99h : PySem.W.codeIn K cd99 "written_out" = true) (k99 : PySem.W.keepIn K (.ref f99) = true)
    (a19 : PySem.W.nsIn K mainGlobals "spelled" = some (some (.ref f19))) (l19 : K.lookup f19 = some ⟨oc19, od19, .func (PySem.W.fnOf "spelled" "spelled" (C8.fnArgs (topS 19)) (C8.fnBody (topS 19)) (C8.fnScope (topS 19)) .none kV19 dc19 pm19 an19 cd19 ct19), sl19⟩) (c19h : PySem.W.codeIn K cd19 "spelled" = true) (k19 : PySem.W.keepIn K (.ref f19) = true)
    (a20 : PySem.W.nsIn K mainGlobals "_same_words" = some (some (.ref f20))) (l20 : K.lookup f20 = some ⟨oc20, od20, .func (PySem.W.fnOf "_same_words" "_same_words" (C8.fnArgs (topS 21)) (C8.fnBody (topS 21)) (C8.fnScope (topS 21)) .none kV20 dc20 pm20 an20 cd20 ct20), sl20⟩) (c20h : PySem.W.codeIn K cd20 "_same_words" = true) (k20 : PySem.W.keepIn K (.ref f20) = true)
    (a21 : PySem.W.nsIn K mainGlobals "balance" = some (some (.ref f21))) (l21 : K.lookup f21 = some ⟨oc21, od21, .func (PySem.W.fnOf "balance" "balance" (C8.fnArgs (topS 22)) (C8.fnBody (topS 22)) (C8.fnScope (topS 22)) .none kV21 dc21 pm21 an21 cd21 ct21), sl21⟩) (c21h : PySem.W.codeIn K cd21 "balance" = true) (k21 : PySem.W.keepIn K (.ref f21) = true)
    (a23 : PySem.W.nsIn K mainGlobals "_law_cup" = some (some (.ref f23))) (l23 : K.lookup f23 = some ⟨oc23, od23, .func (PySem.W.fnOf "_law_cup" "_law_cup" (C8.fnArgs (topS 24)) (C8.fnBody (topS 24)) (C8.fnScope (topS 24)) .none kV23 dc23 pm23 an23 cd23 ct23), sl23⟩) (c23h : PySem.W.codeIn K cd23 "_law_cup" = true) (k23 : PySem.W.keepIn K (.ref f23) = true)
    (a24 : PySem.W.nsIn K mainGlobals "_law_sip" = some (some (.ref f24))) (l24 : K.lookup f24 = some ⟨oc24, od24, .func (PySem.W.fnOf "_law_sip" "_law_sip" (C8.fnArgs (topS 25)) (C8.fnBody (topS 25)) (C8.fnScope (topS 25)) .none kV24 dc24 pm24 an24 cd24 ct24), sl24⟩) (c24h : PySem.W.codeIn K cd24 "_law_sip" = true) (k24 : PySem.W.keepIn K (.ref f24) = true)
    (a25 : PySem.W.nsIn K mainGlobals "_law_same" = some (some (.ref f25))) (l25 : K.lookup f25 = some ⟨oc25, od25, .func (PySem.W.fnOf "_law_same" "_law_same" (C8.fnArgs (topS 26)) (C8.fnBody (topS 26)) (C8.fnScope (topS 26)) .none kV25 dc25 pm25 an25 cd25 ct25), sl25⟩) (c25h : PySem.W.codeIn K cd25 "_law_same" = true) (k25 : PySem.W.keepIn K (.ref f25) = true)
    (a26 : PySem.W.nsIn K mainGlobals "_law_text" = some (some (.ref f26))) (l26 : K.lookup f26 = some ⟨oc26, od26, .func (PySem.W.fnOf "_law_text" "_law_text" (C8.fnArgs (topS 27)) (C8.fnBody (topS 27)) (C8.fnScope (topS 27)) .none kV26 dc26 pm26 an26 cd26 ct26), sl26⟩) (c26h : PySem.W.codeIn K cd26 "_law_text" = true) (k26 : PySem.W.keepIn K (.ref f26) = true)
    (a27 : PySem.W.nsIn K mainGlobals "_law_sizes" = some (some (.ref f27))) (l27 : K.lookup f27 = some ⟨oc27, od27, .func (PySem.W.fnOf "_law_sizes" "_law_sizes" (C8.fnArgs (topS 28)) (C8.fnBody (topS 28)) (C8.fnScope (topS 28)) .none kV27 dc27 pm27 an27 cd27 ct27), sl27⟩) (c27h : PySem.W.codeIn K cd27 "_law_sizes" = true) (k27 : PySem.W.keepIn K (.ref f27) = true)
    (a28 : PySem.W.nsIn K mainGlobals "_law_letter" = some (some (.ref f28))) (l28 : K.lookup f28 = some ⟨oc28, od28, .func (PySem.W.fnOf "_law_letter" "_law_letter" (C8.fnArgs (topS 29)) (C8.fnBody (topS 29)) (C8.fnScope (topS 29)) .none kV28 dc28 pm28 an28 cd28 ct28), sl28⟩) (c28h : PySem.W.codeIn K cd28 "_law_letter" = true) (k28 : PySem.W.keepIn K (.ref f28) = true)
    (a29 : PySem.W.nsIn K mainGlobals "_law_words" = some (some (.ref f29))) (l29 : K.lookup f29 = some ⟨oc29, od29, .func (PySem.W.fnOf "_law_words" "_law_words" (C8.fnArgs (topS 30)) (C8.fnBody (topS 30)) (C8.fnScope (topS 30)) .none kV29 dc29 pm29 an29 cd29 ct29), sl29⟩) (c29h : PySem.W.codeIn K cd29 "_law_words" = true) (k29 : PySem.W.keepIn K (.ref f29) = true)
    (a30 : PySem.W.nsIn K mainGlobals "_law_place" = some (some (.ref f30))) (l30 : K.lookup f30 = some ⟨oc30, od30, .func (PySem.W.fnOf "_law_place" "_law_place" (C8.fnArgs (topS 31)) (C8.fnBody (topS 31)) (C8.fnScope (topS 31)) .none kV30 dc30 pm30 an30 cd30 ct30), sl30⟩) (c30h : PySem.W.codeIn K cd30 "_law_place" = true) (k30 : PySem.W.keepIn K (.ref f30) = true)
    (a31 : PySem.W.nsIn K mainGlobals "_law_balance" = some (some (.ref f31))) (l31 : K.lookup f31 = some ⟨oc31, od31, .func (PySem.W.fnOf "_law_balance" "_law_balance" (C8.fnArgs (topS 32)) (C8.fnBody (topS 32)) (C8.fnScope (topS 32)) .none kV31 dc31 pm31 an31 cd31 ct31), sl31⟩) (c31h : PySem.W.codeIn K cd31 "_law_balance" = true) (k31 : PySem.W.keepIn K (.ref f31) = true)
    (a32 : PySem.W.nsIn K mainGlobals "_law_all_right" = some (some (.ref f32))) (l32 : K.lookup f32 = some ⟨oc32, od32, .func (PySem.W.fnOf "_law_all_right" "_law_all_right" (C8.fnArgs (topS 33)) (C8.fnBody (topS 33)) (C8.fnScope (topS 33)) .none kV32 dc32 pm32 an32 cd32 ct32), sl32⟩) (c32h : PySem.W.codeIn K cd32 "_law_all_right" = true) (k32 : PySem.W.keepIn K (.ref f32) = true)
    (a33 : PySem.W.nsIn K mainGlobals "_law_bare" = some (some (.ref f33))) (l33 : K.lookup f33 = some ⟨oc33, od33, .func (PySem.W.fnOf "_law_bare" "_law_bare" (C8.fnArgs (topS 34)) (C8.fnBody (topS 34)) (C8.fnScope (topS 34)) .none kV33 dc33 pm33 an33 cd33 ct33), sl33⟩) (c33h : PySem.W.codeIn K cd33 "_law_bare" = true) (k33 : PySem.W.keepIn K (.ref f33) = true)
    (a34 : PySem.W.nsIn K mainGlobals "_law_round" = some (some (.ref f34))) (l34 : K.lookup f34 = some ⟨oc34, od34, .func (PySem.W.fnOf "_law_round" "_law_round" (C8.fnArgs (topS 35)) (C8.fnBody (topS 35)) (C8.fnScope (topS 35)) .none kV34 dc34 pm34 an34 cd34 ct34), sl34⟩) (c34h : PySem.W.codeIn K cd34 "_law_round" = true) (k34 : PySem.W.keepIn K (.ref f34) = true)
    (a35 : PySem.W.nsIn K mainGlobals "_law_chain" = some (some (.ref f35))) (l35 : K.lookup f35 = some ⟨oc35, od35, .func (PySem.W.fnOf "_law_chain" "_law_chain" (C8.fnArgs (topS 36)) (C8.fnBody (topS 36)) (C8.fnScope (topS 36)) .none kV35 dc35 pm35 an35 cd35 ct35), sl35⟩) (c35h : PySem.W.codeIn K cd35 "_law_chain" = true) (k35 : PySem.W.keepIn K (.ref f35) = true)
    (a36 : PySem.W.nsIn K mainGlobals "law" = some (some (.ref f36))) (l36 : K.lookup f36 = some ⟨oc36, od36, .func (PySem.W.fnOf "law" "law" (C8.fnArgs (topS 37)) (C8.fnBody (topS 37)) (C8.fnScope (topS 37)) .none kV36 dc36 pm36 an36 cd36 ct36), sl36⟩) (c36h : PySem.W.codeIn K cd36 "law" = true) (k36 : PySem.W.keepIn K (.ref f36) = true)
    (zisinstance : PySem.W.nsIn K mainGlobals "isinstance" = some none) (zint : PySem.W.nsIn K mainGlobals "int" = some none) (zbool : PySem.W.nsIn K mainGlobals "bool" = some none) (zstr : PySem.W.nsIn K mainGlobals "str" = some none) (ztuple : PySem.W.nsIn K mainGlobals "tuple" = some none) (zlist : PySem.W.nsIn K mainGlobals "list" = some none) (zlen : PySem.W.nsIn K mainGlobals "len" = some none) (zabs : PySem.W.nsIn K mainGlobals "abs" = some none) (zmax : PySem.W.nsIn K mainGlobals "max" = some none) (zall : PySem.W.nsIn K mainGlobals "all" = some none) (zrange : PySem.W.nsIn K mainGlobals "range" = some none) (zenumerate : PySem.W.nsIn K mainGlobals "enumerate" = some none) (zreversed : PySem.W.nsIn K mainGlobals "reversed" = some none) (zsorted : PySem.W.nsIn K mainGlobals "sorted" = some none) (zmin : PySem.W.nsIn K mainGlobals "min" = some none) 
    (m1 : PySem.W.nsIn K mainGlobals "MOST_LETTER" = some (some (.int 20 u1))) (m2 : PySem.W.nsIn K mainGlobals "MOST_RULES" = some (some (.int 4000 u2))) (m3 : PySem.W.nsIn K mainGlobals "LONGEST_SPELLED" = some (some (.int 4000 u3)))
    (t1 : K.lookup c13 = some ⟨oct, odt, .fields vst, slt⟩) (t2 : vst[11]? = some (.ref T)) (t3 : K.lookup T = none) (t4 : (recsOf q).find? (fun e => e.name == ("is_straight" : Str)) = some d8) : LamX.LawAtS l w K C8.CX0 12 63 "script" mg fa h := by
  have G := TT.g
  have e := hfa.symm.trans (PySem.W.mg_of X G a36)
  cases e
  have F5 : C8.Def K mg "is_integer" (topS 5) _ _ := ⟨⟨_, _, _, _, _, _, _, _, _, _, rfl, l5, c5h⟩, PySem.W.mg_of X G a5, k5⟩
  have b5 := C8.Fun.binds F5.fn rfl (ps := ["thing"]) fun _ _ _ _ _ _ us hl => match us, hl with | [_], _ => rfl
  have F6 : C8.Def K mg "is_within" (topS 6) _ _ := ⟨⟨_, _, _, _, _, _, _, _, _, _, rfl, l6, c6h⟩, PySem.W.mg_of X G a6, k6⟩
  have b6 := C8.Fun.binds F6.fn rfl (ps := ["thing", "low", "high"]) fun _ _ _ _ _ _ us hl => match us, hl with | [_, _, _], _ => rfl
  have F7 : C8.Def K mg "is_row" (topS 7) _ _ := ⟨⟨_, _, _, _, _, _, _, _, _, _, rfl, l7, c7h⟩, PySem.W.mg_of X G a7, k7⟩
  have b7 := C8.Fun.binds F7.fn rfl (ps := ["thing", "low", "high"]) fun _ _ _ _ _ _ us hl => match us, hl with | [_, _, _], _ => rfl
  have F12 : C8.Def K mg "is_letter" (topS 12) _ _ := ⟨⟨_, _, _, _, _, _, _, _, _, _, rfl, l12, c12h⟩, PySem.W.mg_of X G a12, k12⟩
  have b12 := C8.Fun.binds F12.fn rfl (ps := ["thing"]) fun _ _ _ _ _ _ us hl => match us, hl with | [_], _ => rfl
  have F13 : C8.Def K mg "is_straight" (topS 13) _ _ := ⟨⟨_, _, _, _, _, _, _, _, _, _, rfl, l13, c13h⟩, PySem.W.mg_of X G a13, k13⟩
  have b13 := C8.Fun.binds F13.fn rfl (ps := ["thing"]) fun _ _ _ _ _ _ us hl => match us, hl with | [_], _ => rfl
  have F14 : C8.Def K mg "_is_rule" (topS 14) _ _ := ⟨⟨_, _, _, _, _, _, _, _, _, _, rfl, l14, c14h⟩, PySem.W.mg_of X G a14, k14⟩
  have b14 := C8.Fun.binds F14.fn rfl (ps := ["thing", "at"]) fun _ _ _ _ _ _ us hl => match us, hl with | [_, _], _ => rfl
  have F15 : C8.Def K mg "want_straight" (topS 15) _ _ := ⟨⟨_, _, _, _, _, _, _, _, _, _, rfl, l15, c15h⟩, PySem.W.mg_of X G a15, k15⟩
  have b15 := C8.Fun.binds F15.fn rfl (ps := ["text"]) fun _ _ _ _ _ _ us hl => match us, hl with | [_], _ => rfl
  have F16 : C8.Def K mg "lengths" (topS 16) _ _ := ⟨⟨_, _, _, _, _, _, _, _, _, _, rfl, l16, c16h⟩, PySem.W.mg_of X G a16, k16⟩
  have b16 := C8.Fun.binds F16.fn rfl (ps := ["text"]) fun _ _ _ _ _ _ us hl => match us, hl with | [_], _ => rfl
  have F17 : C8.Def K mg "rule_sizes" (topS 17) _ _ := ⟨⟨_, _, _, _, _, _, _, _, _, _, rfl, l17, c17h⟩, PySem.W.mg_of X G a17, k17⟩
  have b17 := C8.Fun.binds F17.fn rfl (ps := ["text"]) fun _ _ _ _ _ _ us hl => match us, hl with | [_], _ => rfl
  have F18 : C8.Def K mg "letter_at" (topS 18) _ _ := ⟨⟨_, _, _, _, _, _, _, _, _, _, rfl, l18, c18h⟩, PySem.W.mg_of X G a18, k18⟩
  have b18 := C8.Fun.binds F18.fn rfl (ps := ["text", "place"]) fun _ _ _ _ _ _ us hl => match us, hl with | [_, _], _ => rfl
  have F99 : C8.Def K mg "written_out" (topS 20) _ _ := ⟨⟨_, _, _, _, _, _, _, _, _, _, rfl, l99, c99h⟩, PySem.W.mg_of X G a99, k99⟩
  have b99 := C8.Fun.binds F99.fn rfl (ps := ["text", "sizes"]) fun _ _ _ _ _ _ us hl => match us, hl with | [_, _], _ => rfl
  have F19 : C8.Def K mg "spelled" (topS 19) _ _ := ⟨⟨_, _, _, _, _, _, _, _, _, _, rfl, l19, c19h⟩, PySem.W.mg_of X G a19, k19⟩
  have b19 := C8.Fun.binds F19.fn rfl (ps := ["text"]) fun _ _ _ _ _ _ us hl => match us, hl with | [_], _ => rfl
  have F20 : C8.Def K mg "_same_words" (topS 21) _ _ := ⟨⟨_, _, _, _, _, _, _, _, _, _, rfl, l20, c20h⟩, PySem.W.mg_of X G a20, k20⟩
  have b20 := C8.Fun.binds F20.fn rfl (ps := ["text", "sizes"]) fun _ _ _ _ _ _ us hl => match us, hl with | [_, _], _ => rfl
  have F21 : C8.Def K mg "balance" (topS 22) _ _ := ⟨⟨_, _, _, _, _, _, _, _, _, _, rfl, l21, c21h⟩, PySem.W.mg_of X G a21, k21⟩
  have b21 := C8.Fun.binds F21.fn rfl (ps := ["text"]) fun _ _ _ _ _ _ us hl => match us, hl with | [_], _ => rfl
  have F23 : C8.Def K mg "_law_cup" (topS 24) _ _ := ⟨⟨_, _, _, _, _, _, _, _, _, _, rfl, l23, c23h⟩, PySem.W.mg_of X G a23, k23⟩
  have b23 := C8.Fun.binds F23.fn rfl (ps := ["script"]) fun _ _ _ _ _ _ us hl => match us, hl with | [_], _ => rfl
  have F24 : C8.Def K mg "_law_sip" (topS 25) _ _ := ⟨⟨_, _, _, _, _, _, _, _, _, _, rfl, l24, c24h⟩, PySem.W.mg_of X G a24, k24⟩
  have b24 := C8.Fun.binds F24.fn rfl (ps := ["cup", "many"]) fun _ _ _ _ _ _ us hl => match us, hl with | [_, _], _ => rfl
  have F25 : C8.Def K mg "_law_same" (topS 26) _ _ := ⟨⟨_, _, _, _, _, _, _, _, _, _, rfl, l25, c25h⟩, PySem.W.mg_of X G a25, k25⟩
  have b25 := C8.Fun.binds F25.fn rfl (ps := ["found", "due"]) fun _ _ _ _ _ _ us hl => match us, hl with | [_, _], _ => rfl
  have F26 : C8.Def K mg "_law_text" (topS 27) _ _ := ⟨⟨_, _, _, _, _, _, _, _, _, _, rfl, l26, c26h⟩, PySem.W.mg_of X G a26, k26⟩
  have b26 := C8.Fun.binds F26.fn rfl (ps := ["cup", "many", "cap"]) fun _ _ _ _ _ _ us hl => match us, hl with | [_, _, _], _ => rfl
  have F27 : C8.Def K mg "_law_sizes" (topS 28) _ _ := ⟨⟨_, _, _, _, _, _, _, _, _, _, rfl, l27, c27h⟩, PySem.W.mg_of X G a27, k27⟩
  have b27 := C8.Fun.binds F27.fn rfl (ps := ["rules"]) fun _ _ _ _ _ _ us hl => match us, hl with | [_], _ => rfl
  have F28 : C8.Def K mg "_law_letter" (topS 29) _ _ := ⟨⟨_, _, _, _, _, _, _, _, _, _, rfl, l28, c28h⟩, PySem.W.mg_of X G a28, k28⟩
  have b28 := C8.Fun.binds F28.fn rfl (ps := ["rules", "sizes", "place"]) fun _ _ _ _ _ _ us hl => match us, hl with | [_, _, _], _ => rfl
  have F29 : C8.Def K mg "_law_words" (topS 30) _ _ := ⟨⟨_, _, _, _, _, _, _, _, _, _, rfl, l29, c29h⟩, PySem.W.mg_of X G a29, k29⟩
  have b29 := C8.Fun.binds F29.fn rfl (ps := ["rules"]) fun _ _ _ _ _ _ us hl => match us, hl with | [_], _ => rfl
  have F30 : C8.Def K mg "_law_place" (topS 31) _ _ := ⟨⟨_, _, _, _, _, _, _, _, _, _, rfl, l30, c30h⟩, PySem.W.mg_of X G a30, k30⟩
  have b30 := C8.Fun.binds F30.fn rfl (ps := ["cup", "size"]) fun _ _ _ _ _ _ us hl => match us, hl with | [_, _], _ => rfl
  have F31 : C8.Def K mg "_law_balance" (topS 32) _ _ := ⟨⟨_, _, _, _, _, _, _, _, _, _, rfl, l31, c31h⟩, PySem.W.mg_of X G a31, k31⟩
  have b31 := C8.Fun.binds F31.fn rfl (ps := ["rules"]) fun _ _ _ _ _ _ us hl => match us, hl with | [_], _ => rfl
  have F32 : C8.Def K mg "_law_all_right" (topS 33) _ _ := ⟨⟨_, _, _, _, _, _, _, _, _, _, rfl, l32, c32h⟩, PySem.W.mg_of X G a32, k32⟩
  have b32 := C8.Fun.binds F32.fn rfl (ps := ["cup", "rules"]) fun _ _ _ _ _ _ us hl => match us, hl with | [_, _], _ => rfl
  have F33 : C8.Def K mg "_law_bare" (topS 34) _ _ := ⟨⟨_, _, _, _, _, _, _, _, _, _, rfl, l33, c33h⟩, PySem.W.mg_of X G a33, k33⟩
  have b33 := C8.Fun.binds F33.fn rfl (ps := ["rules"]) fun _ _ _ _ _ _ us hl => match us, hl with | [_], _ => rfl
  have F34 : C8.Def K mg "_law_round" (topS 35) _ _ := ⟨⟨_, _, _, _, _, _, _, _, _, _, rfl, l34, c34h⟩, PySem.W.mg_of X G a34, k34⟩
  have b34 := C8.Fun.binds F34.fn rfl (ps := ["cup"]) fun _ _ _ _ _ _ us hl => match us, hl with | [_], _ => rfl
  have F35 : C8.Def K mg "_law_chain" (topS 36) _ _ := ⟨⟨_, _, _, _, _, _, _, _, _, _, rfl, l35, c35h⟩, PySem.W.mg_of X G a35, k35⟩
  have b35 := C8.Fun.binds F35.fn rfl (ps := ["cup"]) fun _ _ _ _ _ _ us hl => match us, hl with | [_], _ => rfl
  have F36 : C8.Def K mg "law" (topS 37) _ _ := ⟨⟨_, _, _, _, _, _, _, _, _, _, rfl, l36, c36h⟩, PySem.W.mg_of X G a36, k36⟩
  have b36 := C8.Fun.binds F36.fn rfl (ps := ["script"]) fun _ _ _ _ _ _ us hl => match us, hl with | [_], _ => rfl
  have B : Bl mg := ⟨PySem.W.mg_none_of X G zisinstance, PySem.W.mg_none_of X G zint, PySem.W.mg_none_of X G zbool, PySem.W.mg_none_of X G zstr, PySem.W.mg_none_of X G ztuple, PySem.W.mg_none_of X G zlist, PySem.W.mg_none_of X G zlen, PySem.W.mg_none_of X G zabs, PySem.W.mg_none_of X G zmax, PySem.W.mg_none_of X G zall, PySem.W.mg_none_of X G zrange, PySem.W.mg_none_of X G zenumerate, ⟨_, PySem.W.mg_of X G m1⟩, ⟨_, PySem.W.mg_of X G m2⟩⟩
  have ht : PySem.W.tabIn K "is_straight" = some (c13, T) := by
    unfold PySem.W.tabIn
    rw [a13]
    simp only [l13]
    show (match K.lookup c13 with | some ⟨_, _, .fields vs, _⟩ => (match (vs[11]? : Option Value) with | some (.ref P) => some (c13, P) | _ => none) | _ => none) = some (c13, T)
    rw [t1]
    simp only [t2]
  have tb := PySem.W.tab_of TT X t4 ht
  refine ⟨PySem.W.fnOf "law" "law" (C8.fnArgs (topS 37)) (C8.fnBody (topS 37)) (C8.fnScope (topS 37)) .none kV36 dc36 pm36 an36 cd36 ct36, [(c13, T)], spLaw K T, ?_, ?_, ?_, fun s v => .of_eq rfl, ?_, fun base _ _ hTB => ?_⟩
  rotate_left 3
  · intro H a ns _ _ hH hS
    exact ⟨a, ns, rfl, hS, ⟨#[], hH _ (List.mem_cons_self), trivial⟩, fun _ => rfl⟩
  · have hrev := PySem.W.mg_none_of X G zreversed
    have hsort := PySem.W.mg_none_of X G zsorted
    have hmin := PySem.W.mg_none_of X G zmin
    have c_is_integer := ok_is_integer (P := l.prog) (w := w) (base := base) F5 b5 B
    have c_is_within := ok_is_within F6 b6 B c_is_integer
    have c_is_row := ok_is_row (P := l.prog) (w := w) (base := base) F7 b7 B
    have c_is_letter := ok_is_letter F12 b12 B c_is_within
    have c__is_rule := ok__is_rule F14 b14 B c_is_row c_is_letter c_is_within c_is_integer
    have FSt := ok_is_straight (P := l.prog) (w := w) l13 c13h (hTB _ (List.mem_cons_self)) B c_is_row c__is_rule
    have CSt : C8.Cal l.prog w K mg base 6 "is_straight" (spStraight K T) [] := ⟨_, _, _, _, FSt, PySem.W.mg_of X G a13, k13, b13, .nil⟩
    have c_want := ok_want_straight F15 b15 B CSt
    have c_sizes := ok_rule_sizes (P := l.prog) (w := w) (base := base) F17 b17 B
    have c_lengths := ok_lengths F16 b16 B c_want c_sizes
    have c_letter_at := ok_letter_at F18 b18 B c_want c_sizes c_is_within
    have c_same_words := ok__same_words (P := l.prog) (w := w) (base := base) F20 b20 B
    have c_wo := ok_written_out F99 b99 B c_same_words
    have c_spelled := ok_spelled F19 b19 B ⟨_, PySem.W.mg_of X G m3⟩ c_want c_sizes c_wo
    have c_balance := ok_balance F21 b21 B hrev c_want c_sizes
    have c_cup := ok__law_cup (P := l.prog) (w := w) (base := base) F23 b23 B
    have c_sip := ok__law_sip (P := l.prog) (w := w) (base := base) F24 b24 B
    have c_same := same_all (P := l.prog) (w := w) (base := base) F25 b25 B 3
    have c_text := ok__law_text F26 b26 B c_sip
    have c_lsizes := ok__law_sizes (P := l.prog) (w := w) (base := base) F27 b27 B
    have c_lletter := ok__law_letter (P := l.prog) (w := w) (base := base) F28 b28 B
    have c_words := ok__law_words (P := l.prog) (w := w) (base := base) F29 b29 B
    have c_place := ok__law_place F30 b30 B c_sip
    have c_lbal := ok__law_balance (P := l.prog) (w := w) (base := base) F31 b31 B hsort
    have c_bare := ok__law_bare F33 b33 B c_lsizes
    have c_round := ok__law_round F34 b34 B c_sip c_text c_lsizes
    have c_chain := ok__law_chain F35 b35 B c_sip

    refine ok_law F36 B c_cup c_sip c_text c_round c_chain ?_
    refine ok__law_all_right F32 b32 B hmin c_place c_lsizes c_same c_lengths c_balance c_lbal c_letter_at c_lletter c_words c_bare c_spelled
      (fn_lengths F16 b16 B c_want c_sizes) (PySem.W.mg_of X G a16) k16 ?_ (fn_balance F21 b21 B hrev c_want c_sizes) (PySem.W.mg_of X G a21) k21 ?_ (fn_spelled F19 b19 B ⟨_, PySem.W.mg_of X G m3⟩ c_want c_sizes c_wo) (PySem.W.mg_of X G a19) k19 ?_ (fn_letter_at F18 b18 B c_want c_sizes c_is_within) (PySem.W.mg_of X G a18) k18 ?_
    · exact kb_one (fun s u => .of_eq rfl) (fun s u => .of_eq rfl)
    · exact kb_one (fun s u => .of_eq rfl) (fun s u => .of_eq rfl)
    · exact kb_one (fun s u => .of_eq rfl) (fun s u => .of_eq rfl)
    · exact kb_two (fun s p t => .of_eq rfl)
  · intro p hp
    cases List.mem_singleton.mp hp
    exact tb.2
  · intro p hp
    cases List.mem_singleton.mp hp
    exact t3
  · intro p hp
    cases List.mem_singleton.mp hp
    exact tb.1
end K35


open PySem PySem.W PyProof.Rows
set_option maxRecDepth 100000 in
set_option maxHeartbeats 0 in
theorem PySem.Challenge.cw_undoneall_k35_whole_lengths_letters_bala_holds : PySem.Challenge.rw_undoneall_k35_whole_lengths_letters_bala.Holds := by
  w_on; o_law; k_head; (case hw => w_witness2)
  k_fill
  refine K35.walk (l := PySem.Challenge.rw_undoneall_k35_whole_lengths_letters_bala) (n := 63) (k := 12) (x := "script") (CX := fun _ => C8.CX0) rfl (by decide) rfl ⟨rfl, by decide, by decide⟩ (fun w h Y => PySem.W.kIn_of Y) ?F fun _ _ _ _ _ z => z
  case F =>
    intro w lo mean mg mb fa h TT KX hmg
    refine' K35.all_mk TT KX hmg ?a5 ?l5 ?c5h ?k5 ?a6 ?l6 ?c6h ?k6 ?a7 ?l7 ?c7h ?k7 ?a12 ?l12 ?c12h ?k12 ?a13 ?l13 ?c13h ?k13 ?a14 ?l14 ?c14h ?k14 ?a15 ?l15 ?c15h ?k15 ?a16 ?l16 ?c16h ?k16 ?a17 ?l17 ?c17h ?k17 ?a18 ?l18 ?c18h ?k18 ?a99 ?l99 ?c99h ?k99 ?a19 ?l19 ?c19h ?k19 ?a20 ?l20 ?c20h ?k20 ?a21 ?l21 ?c21h ?k21 ?a23 ?l23 ?c23h ?k23 ?a24 ?l24 ?c24h ?k24 ?a25 ?l25 ?c25h ?k25 ?a26 ?l26 ?c26h ?k26 ?a27 ?l27 ?c27h ?k27 ?a28 ?l28 ?c28h ?k28 ?a29 ?l29 ?c29h ?k29 ?a30 ?l30 ?c30h ?k30 ?a31 ?l31 ?c31h ?k31 ?a32 ?l32 ?c32h ?k32 ?a33 ?l33 ?c33h ?k33 ?a34 ?l34 ?c34h ?k34 ?a35 ?l35 ?c35h ?k35 ?a36 ?l36 ?c36h ?k36 ?zisinstance ?zint ?zbool ?zstr ?ztuple ?zlist ?zlen ?zabs ?zmax ?zall ?zrange ?zenumerate ?zreversed ?zsorted ?zmin ?m1 ?m2 ?m3 ?t1 ?t2 ?t3 ?t4
    (case a5 => k_is)
    (case l5 => k_is)
    (case c5h => k_is)
    (case k5 => k_is)
    (case a6 => k_is)
    (case l6 => k_is)
    (case c6h => k_is)
    (case k6 => k_is)
    (case a7 => k_is)
    (case l7 => k_is)
    (case c7h => k_is)
    (case k7 => k_is)
    (case a12 => k_is)
    (case l12 => k_is)
    (case c12h => k_is)
    (case k12 => k_is)
    (case a13 => k_is)
    (case l13 => k_is)
    (case c13h => k_is)
    (case k13 => k_is)
    (case a14 => k_is)
    (case l14 => k_is)
    (case c14h => k_is)
    (case k14 => k_is)
    (case a15 => k_is)
    (case l15 => k_is)
    (case c15h => k_is)
    (case k15 => k_is)
    (case a16 => k_is)
    (case l16 => k_is)
    (case c16h => k_is)
    (case k16 => k_is)
    (case a17 => k_is)
    (case l17 => k_is)
    (case c17h => k_is)
    (case k17 => k_is)
    (case a18 => k_is)
    (case l18 => k_is)
    (case c18h => k_is)
    (case k18 => k_is)
    (case a99 => k_is)
    (case l99 => k_is)
    (case c99h => k_is)
    (case k99 => k_is)
    (case a19 => k_is)
    (case l19 => k_is)
    (case c19h => k_is)
    (case k19 => k_is)
    (case a20 => k_is)
    (case l20 => k_is)
    (case c20h => k_is)
    (case k20 => k_is)
    (case a21 => k_is)
    (case l21 => k_is)
    (case c21h => k_is)
    (case k21 => k_is)
    (case a23 => k_is)
    (case l23 => k_is)
    (case c23h => k_is)
    (case k23 => k_is)
    (case a24 => k_is)
    (case l24 => k_is)
    (case c24h => k_is)
    (case k24 => k_is)
    (case a25 => k_is)
    (case l25 => k_is)
    (case c25h => k_is)
    (case k25 => k_is)
    (case a26 => k_is)
    (case l26 => k_is)
    (case c26h => k_is)
    (case k26 => k_is)
    (case a27 => k_is)
    (case l27 => k_is)
    (case c27h => k_is)
    (case k27 => k_is)
    (case a28 => k_is)
    (case l28 => k_is)
    (case c28h => k_is)
    (case k28 => k_is)
    (case a29 => k_is)
    (case l29 => k_is)
    (case c29h => k_is)
    (case k29 => k_is)
    (case a30 => k_is)
    (case l30 => k_is)
    (case c30h => k_is)
    (case k30 => k_is)
    (case a31 => k_is)
    (case l31 => k_is)
    (case c31h => k_is)
    (case k31 => k_is)
    (case a32 => k_is)
    (case l32 => k_is)
    (case c32h => k_is)
    (case k32 => k_is)
    (case a33 => k_is)
    (case l33 => k_is)
    (case c33h => k_is)
    (case k33 => k_is)
    (case a34 => k_is)
    (case l34 => k_is)
    (case c34h => k_is)
    (case k34 => k_is)
    (case a35 => k_is)
    (case l35 => k_is)
    (case c35h => k_is)
    (case k35 => k_is)
    (case a36 => k_is)
    (case l36 => k_is)
    (case c36h => k_is)
    (case k36 => k_is)
    (case zisinstance => k_is)
    (case zint => k_is)
    (case zbool => k_is)
    (case zstr => k_is)
    (case ztuple => k_is)
    (case zlist => k_is)
    (case zlen => k_is)
    (case zabs => k_is)
    (case zmax => k_is)
    (case zall => k_is)
    (case zrange => k_is)
    (case zenumerate => k_is)
    (case zreversed => k_is)
    (case zsorted => k_is)
    (case zmin => k_is)
    (case m1 => k_is)
    (case m2 => k_is)
    (case m3 => k_is)
    (case t1 => k_is)
    (case t2 => rfl)
    (case t3 => first | rfl | kernel_rfl | decide)
    (case t4 => rfl)

