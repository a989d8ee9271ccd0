import PyProof.Rows.All
import Wide.All
import OpenK.AllK
import Wide.FinOn
import HandS.ForMost
import HandS.Codes
import HandS.IsInst
import HandS.Wide
import HandS.Style
import HandS.Conv
import HandS.EndTab
import HandS.Star
import HandS.Strs
import HandS.Rev
import HandS.AnyAll
import HandS.GenOver
import PyProof.GenQ
import HandS.Lambda
import HandS.Iter
import HandS.TupMul
import KE.GoesMore
import KE.GoesEnum
import HandS.TupAny
import PyProof.DictMoreH
import HandS.Dict
import HandS.Comp
import HandS.Exc
import HandS.ExcOwn
import HandS.RevRange
import HandS.TryMany
import PySem.Challenge.RW_undoneall_k09_whole_texts_with_the_same
set_option Elab.async false
set_option linter.all false
set_option maxRecDepth 100000
set_option maxHeartbeats 4000000
/-! all(elt for target in iter), whatever PI walks: the element is judged in the generator's own frame -/
namespace UG
open PySem PySem.Spec PyProof.Rows L2

abbrev gcx (X : Cx) (A : Around) (N : List Str) (s : Shared) (H : Hp) (env : Env) (fp : List Addr) : Cx :=
  { X with
    A := A, N := N, s_0 := s, H_0 := H, env := env, outer := X.stack,
    stack := env :: X.stack, ex := fp, fn := fun _ => false,
    calm := true, pn := [], xe := fun _ _ => False }

structure GenSc (scope : Scope) : Prop where
  kind : scope.kind = .function
  co : scope.isCoroutine = false
  cell : ∀ y ∈ scope.names, y.2 ≠ .cell
  free : ∀ y ∈ scope.names, y.2 ≠ .free
  dot : scope.names.lookup (".0" : Str) = some NameKind.local

/-- the generator's environment -/
abbrev gev (X : Cx) (scope : Scope) (C : Addr) (code : Value) : Env :=
  genEnv scope (cloFrom X.env.cells scope.names []) C code builtinsNs X.env

section
variable {X : Cx} {pins : List (Addr × Obj)} {σ : L2.St} {H : Hp} {s : Shared} {scope : Scope}

theorem gev_cells (S : GenSc scope) {C : Addr} {code : Value} {x : Str} {c : Addr}
    (e : (gev X scope C code).cells.lookup x = some c) : False := by
  have m := PySem.mem_of_lookup e
  rcases cloFrom_mem (show (x, c) ∈ cloFrom X.env.cells scope.names [] from m) with z | ⟨z, _⟩
  · cases z
  · exact S.free _ z rfl

theorem gev_kind (S : GenSc scope) {C : Addr} {code : Value} {x : Str}
    (h : (gev X scope C code).kindOf x = some .cell ∨ (gev X scope C code).kindOf x = some .free) : False := by
  rcases h with h | h
  · exact S.cell _ (PySem.mem_of_lookup (show scope.names.lookup x = some NameKind.cell from h)) rfl
  · exact S.free _ (PySem.mem_of_lookup (show scope.names.lookup x = some NameKind.free from h)) rfl

theorem stk_lt (I : Inv X pins σ H s) {b : Addr} (hb : b ∈ frs X.stack) : b < s.heap.objs.size := by
  rcases List.mem_cons.mp (I.stkSub b hb) with e | z
  · rw [e]; exact I.lt
  · rcases Nat.lt_or_ge b s.heap.objs.size with h | h
    · exact h
    · exact absurd z (I.nofs h)

/-- the generator's frame, as it begins -/
theorem gen_begin (I : Inv X pins σ H s) (S : GenSc scope) {fp : List Addr} {N : List Str} {A' : Around} {code : Value} {s5 : Shared} {a : Addr} {go : Obj} {m : Str → Option Value}
    (hfp : ∀ b ∈ fp, FpOk X pins H b ∧ b < s.heap.objs.size) (hhd : A'.handled = none)
    (hfr : A'.frames = some (gev X scope s.heap.objs.size code :: X.stack))
    (kp : ∀ b o, s.heap.get? b = some o → s5.heap.get? b = some o) (hos : s5.os = s.os) (hb5 : AllBare s5.gens)
    (hns : s5.heap.Ns s.heap.objs.size m) (ha : s.heap.objs.size < a) (hgo : s5.heap.get? a = some go) (hdat : ∀ v, go.data ≠ .cell v) :
    Inv (gcx X A' N s H (gev X scope s.heap.objs.size code) fp) [(a, go)] (N.map fun _ => none) H s5 := by
  have okG : (gcx X A' N s H (gev X scope s.heap.objs.size code) fp).Ok := by
    refine ⟨I.ok.mod, S.kind, I.ok.glob, rfl, Nat.le_refl _, ?_, ?_, ?_, fun _ => hhd, hfr, .inr ⟨rfl, rfl⟩, ?_, I.bs, Nat.le_trans I.ok.bsz I.sz, ?_, ?_, I.stack, I.stkFree⟩
    · intro x y c e _
      exact (gev_cells S e).elim
    · intro x h
      exact (gev_kind S h).elim
    · intro x c h _
      cases h
    · intro b hb
      refine ⟨Nat.ne_of_lt (hfp b hb).2, ?_⟩
      intro x c e
      exact (gev_cells S e).elim
    · intro b o e hb
      rcases (hfp b hb).1.2.2.2.1 with z | z
      · exact I.ok.noex b o e z
      · have h1 := Heap.lt_size e
        have h2 := I.ok.bsz
        exact absurd (Nat.lt_of_lt_of_le h1 (Nat.le_trans h2 z)) (Nat.lt_irrefl _)
    · intro b hb z
      rcases List.mem_cons.mp (I.stkSub b z) with y | y
      · exact (hfp b hb).1.2.1 y
      · exact (hfp b hb).1.2.2.1 y
  refine ⟨okG, hos, hb5, Un.kept kp, ⟨m, hns, ?_⟩, ?_, I.hok.fresh (Nat.le_refl _), ?_, ?_, I.hok.kept kp, ?_⟩
  · intro i x v _ e _
    rw [List.getElem?_map] at e
    cases q : (gcx X A' N s H (gev X scope s.heap.objs.size code) fp).N[i]? with
    | none =>
      have q' : N[i]? = none := q
      rw [q'] at e; cases e
    | some y =>
      have q' : N[i]? = some y := q
      rw [q'] at e; cases e
  · intro x c e
    exact (gev_cells S e).elim
  · intro x c e
    exact (gev_cells S e).elim
  · intro p hp
    have e : p = (a, go) := by simpa using hp
    subst e
    refine ⟨hgo, I.hok.fresh (Nat.le_of_lt ha), Nat.ne_of_gt ha, ?_, hdat⟩
    intro z
    exact absurd (Nat.lt_trans ha (stk_lt I z)) (Nat.lt_irrefl _)
  · show (N.map _).length = N.length
    rw [List.length_map]

/-- what is held of the callers' frame when the generator's is left -/
theorem gen_back {fp : List Addr} {N : List Str} {A' : Around} {env : Env} {s' : Shared} {H' : Hp} {σ' : L2.St} {pg : List (Addr × Obj)}
    (I : Inv X pins σ H s) (hfp : ∀ b ∈ fp, FpOk X pins H b) (J : Inv (gcx X A' N s H env fp) pg σ' H' s') : Inv X pins σ H' s' :=
  I.call' (ch := fp) J.os J.base J.hok J.bare fun b hb => by
    obtain ⟨_, h1, _, h3, h4, h5⟩ := hfp b hb
    exact ⟨h3, h1, h4, h5⟩
end
end UG


set_option Elab.async false
set_option linter.all false
set_option maxRecDepth 100000
set_option maxHeartbeats 4000000
namespace UG
open PySem PySem.Spec PyProof.Rows L2

/-- the generator's loop code -/
abbrev geLoop (elt tg iter : Expr) (scope : Scope) (gpos : Pos) (it : Addr) (env : Env) : Code :=
  .compLoop (.GeneratorExp elt [⟨tg, iter, [], 0⟩] scope gpos) 0 (.ref it) .none env
abbrev geStart (elt tg iter : Expr) (scope : Scope) (gpos : Pos) (it : Addr) (env : Env) : Code :=
  .compStart (.GeneratorExp elt [⟨tg, iter, [], 0⟩] scope gpos) 0 (.ref it) .none env

theorem over_loopG {A : Around} {elt tg iter : Expr} {scope : Scope} {gpos : Pos} {it : Addr} {env : Env} :
    A.over (geLoop elt tg iter scope gpos it env) [] = A.deeper env := by
  obtain ⟨hd, d, fr, gs, u⟩ := A
  simp [Around.over, Around.deeper, marksOver, frameCount, unitsOf, envsOf, guardsOf, pushEnvs, pushGuards, Code.envs, Code.env?, Code.isFrame, Code.guards, Code.isGuard, Code.weight, Code.frames, Code.isCreation, Code.isCaller, Code.cUnits]
theorem over_startG {A : Around} {elt tg iter : Expr} {scope : Scope} {gpos : Pos} {it : Addr} {env : Env} :
    A.over (geStart elt tg iter scope gpos it env) [] = A.deeper env := by
  obtain ⟨hd, d, fr, gs, u⟩ := A
  simp [Around.over, Around.deeper, marksOver, frameCount, unitsOf, envsOf, guardsOf, pushEnvs, pushGuards, Code.envs, Code.env?, Code.isFrame, Code.guards, Code.isGuard, Code.weight, Code.frames, Code.isCreation, Code.isCaller, Code.cUnits]

/-- what the reading asks of the loop -/
structure Way (J : It) (g : TG) (te : TE) (σ0 : L2.St) (Q : VK) (top : Nat) (W : Nat → Hp → Prop) : Prop where
  turn : ∀ i H, W i H → (J.stop i H ∧ Q (.bl true) H) ∨ (i < top ∧ J.go i H ∧ ∀ x H', J.yld i H x H' → g x σ0 H' fun σ2 H2 => te σ2 H2 fun y H3 =>
    ∃ b : Bool, y = .bl b ∧ if b = true then W (i + 1) H3 else Q (.bl false) H3)

section
variable {X : Cx} {N : List Str} {s4 : Shared} {H4 : Hp} {env : Env} {fp : List Addr} {a : Addr} {go : Obj}
/-- the protocol: a truth comes out; behind a True one the walk goes on -/
def GY (X : Cx) (B : Around) (N : List Str) (s4 : Shared) (H4 : Hp) (env : Env) (fp : List Addr) (a : Addr) (go : Obj) (Q : VK) : Protocol := fun m s₀ v s kap =>
  ∃ (b : Bool) (H3 : Hp) (σ3 : L2.St), v = .bool b ∧ Inv (gcx X B N s4 H4 env fp) [(a, go)] σ3 H3 s ∧ (b = false → Q (.bl false) H3) ∧
    (b = true → ∀ s'' : Shared, s''.os = s.os → AllBare s''.gens → s''.heap = s.heap → kap (.send .none) s'')
def GP (X : Cx) (B : Around) (N : List Str) (s4 : Shared) (H4 : Hp) (env : Env) (fp : List Addr) (a : Addr) (go : Obj) (Q : VK) : Nat → Shared → Shared → Prop := fun _ _ s1 =>
  ∃ (H3 : Hp) (σ3 : L2.St), Inv (gcx X B N s4 H4 env fp) [(a, go)] σ3 H3 s1 ∧ Q (.bl true) H3

theorem inv_same {X' : Cx} {pins : List (Addr × Obj)} {σ : L2.St} {H : Hp} {s s'' : Shared} (I : Inv X' pins σ H s) (h1 : s''.os = s.os) (h2 : AllBare s''.gens) (h3 : s''.heap = s.heap) : Inv X' pins σ H s'' := by
  obtain ⟨hh, g, d, t, o⟩ := s''
  cases h1
  cases h3
  exact ⟨I.ok, I.os, h2, I.base, I.loc, I.cell, I.free, I.freeC, I.pin, I.hok, I.len⟩

theorem seg_walk {B : Around} {elt tg iter : Expr} {scope : Scope} {gpos : Pos} {it : Addr} {tn : Nat → Heap → Prop} {J : It} {g : TG} {te : TE} {Q : VK} {top : Nat} {W : Nat → Hp → Prop}
    (hco : env.scope.isCoroutine = false)
    (T : Turn X.prog X.w X.K tg J fp it tn) (hg : PG (gcx X (B.deeper env) N s4 H4 env fp) tg g) (he : PE (gcx X (B.deeper env) N s4 H4 env fp) elt te)
    (hfa : a ∉ fp) (way : Way J g te (N.map fun _ => none) Q top W) :
    ∀ (n i : Nat) (s₀ s : Shared) (H : Hp), top - i ≤ n → Inv (gcx X (B.deeper env) N s4 H4 env fp) [(a, go)] (N.map fun _ => none) H s → tn i s.heap → (∀ b ∈ fp, H b = none) → W i H →
      ∃ k, k ≤ n ∧ Seg (model X.prog X.w) B (fun n s₀ r s₁ => r = .ok .next ∧ GP X (B.deeper env) N s4 H4 env fp a go Q n s₀ s₁) (GY X (B.deeper env) N s4 H4 env fp a go Q) n s₀
        (geLoop elt tg iter scope gpos it env) ((model X.prog X.w).den (geLoop elt tg iter scope gpos it env)) [] s := by
  have stat : ∀ {pl : List (Addr × Obj)} {σ' : L2.St} {H' : Hp} {s' : Shared}, Inv (gcx X (B.deeper env) N s4 H4 env fp) pl σ' H' s' → (∀ b ∈ fp, H' b = none) → (∀ p ∈ pl, p.1 = a) → ∀ b ∈ fp, FpOk (gcx X (B.deeper env) N s4 H4 env fp) pl H' b := by
    intro pl σ' H' s' I' hn hpl b hb
    refine ⟨hn b hb, (I'.ok.exf b hb).1, I'.ok.exfs b hb, .inl hb, (I'.ok.exf b hb).2, ?_⟩
    intro p hp z
    have hp' : p ∈ pl := by simpa using hp
    rw [hpl p hp'] at z
    exact hfa (z ▸ hb)
  have one : ∀ p ∈ [(a, go)], p.1 = a := by
    intro p hp
    have e : p = (a, go) := by simpa using hp
    rw [e]
  intro n
  induction n with
  | zero =>
    intro i s₀ s H hi I st nf w
    refine ⟨0, Nat.le_refl _, ?_⟩
    rcases way.turn i H w with ⟨stop, q⟩ | ⟨lt, _⟩
    · show Seg _ B _ _ _ s₀ _ ((compTurn (.GeneratorExp elt [⟨tg, iter, [], 0⟩] scope gpos) 0 (.ref it) .none env).onRaise (leaving env)) [] s
      rw [compTurn_gen, Sem.onRaise_eq_wrap]
      refine seg_bind_wrap (wpAny_standAt ?_)
      refine seg_bind_wrap ?_
      rw [over_loopG]
      have td := T.done (gcx X (B.deeper env) N s4 H4 env fp) rfl rfl rfl rfl i [(a, go)] s _ H (fun _ _ => False) I (stat I nf one) st stop
      refine thnF td ?_
      rintro r s6 ⟨rfl, I6⟩
      exact seg_end (.ok .next) ⟨rfl, H, _, I6, q⟩
    · omega
  | succ n ih =>
    intro i s₀ s H hi I st nf w
    refine ⟨n + 1, Nat.le_refl _, ?_⟩
    show Seg _ B _ _ _ s₀ _ ((compTurn (.GeneratorExp elt [⟨tg, iter, [], 0⟩] scope gpos) 0 (.ref it) .none env).onRaise (leaving env)) [] s
    rw [compTurn_gen, Sem.onRaise_eq_wrap]
    refine seg_bind_wrap (wpAny_standAt ?_)
    refine seg_bind_wrap ?_
    rw [over_loopG]
    rcases way.turn i H w with ⟨stop, q⟩ | ⟨lt, jgo, step⟩
    · have td := T.done (gcx X (B.deeper env) N s4 H4 env fp) rfl rfl rfl rfl i [(a, go)] s _ H (fun _ _ => False) I (stat I nf one) st stop
      refine thnF td ?_
      rintro r s6 ⟨rfl, I6⟩
      exact seg_end (.ok .next) ⟨rfl, H, _, I6, q⟩
    · have ti := T.item (gcx X (B.deeper env) N s4 H4 env fp) rfl rfl rfl rfl i [(a, go)] s _ H (fun _ _ => False) I (stat I nf one) st jgo
      refine thnF ti ?_
      rintro r s6 ⟨u, rfl, h6⟩
      refine seg_bind_wrap ?_
      rw [over_loopG]
      refine thnF h6 ?_
      rintro _ s7 ⟨x, H7, I7, r7, y7, st7, n7⟩
      have I7' := I7.pinned (stat I7 n7 one) (T.obj _ _ st7)
      refine seg_bind_wrap ?_
      rw [over_loopG]
      refine thnF (hg.run _ s7 _ H7 x u _ I7' r7 (step x H7 y7)) ?_
      rintro _ s8 ⟨σ8, H8, I8, q8⟩
      simp only [List.forIn_nil]
      refine seg_bind_wrap (wpAny_pure ?_)
      simp only [if_true]
      have hy : ∀ v, yieldOut env v = yieldValue v := fun v => by simp only [yieldOut, hco, Bool.false_eq_true, if_false]
      simp only [hy]
      rw [Sem.bind_eq_wrap', Sem.bind_eq_wrap', Sem.wrap_wrap, Sem.wrap_wrap]
      refine seg_wrap ?_
      rw [over_loopG]
      refine thnF (he.run _ s8 σ8 H8 _ I8 q8) ?_
      rintro yv s9 ⟨y, H9, I9, r9, b, rfl, q9⟩
      have ey : yv = Value.bool b := r9
      subst ey
      -- the iterator's objects stand as they stood
      have pin' : ∀ c ∈ fp, ∀ o, s7.heap.get? c = some o → s9.heap.get? c = some o ∧ H9 c = none := fun c hc o e =>
        let z := I9.pin (c, o) (List.mem_append_right _ (List.mem_append_right _ (mem_pinsAt hc e)))
        ⟨z.1, z.2.1⟩
      have st9 : tn (i + 1) s9.heap := T.keep _ _ _ st7 fun c hc o e => (pin' c hc o e).1
      have n9 : ∀ c ∈ fp, H9 c = none := fun c hc => by
        obtain ⟨o, e, _⟩ := T.obj _ _ st7 c hc
        exact (pin' c hc o e).2
      have I9' : Inv (gcx X (B.deeper env) N s4 H4 env fp) [(a, go)] σ8 H9 s9 := I9.unpinned (pins := [(a, go)])
      refine seg_at (seg_yield rfl rfl rfl ⟨b, H9, σ8, rfl, I9', fun hb => ?_, fun hb s'' h1 h2 h3 => ?_⟩)
      · rw [hb] at q9
        simpa using q9
      · rw [hb] at q9
        have q9' : W (i + 1) H9 := by simpa using q9
        have Iw : Inv (gcx X (B.deeper env) N s4 H4 env fp) [(a, go)] (N.map fun _ => none) H9 s9 := I9'.weak (by rw [I9'.len, List.length_map]) fun j v e => by
          rw [List.getElem?_map] at e
          cases q : N[j]? with
          | none => rw [q] at e; cases e
          | some y => rw [q] at e; cases e
        obtain ⟨k, _, z⟩ := ih (i + 1) s'' s'' H9 (by omega) (inv_same Iw h1 h2 h3) (by rw [h3]; exact st9) n9 q9'
        refine seg_again rfl z
end
end UG


set_option Elab.async false
set_option linter.all false
set_option maxRecDepth 100000
set_option maxHeartbeats 4000000
namespace UG
open PySem PySem.Spec PyProof.Rows L2

section
variable {X : Cx} {N : List Str} {s4 : Shared} {H4 : Hp} {env : Env} {fp : List Addr} {a : Addr} {go : Obj}

theorem bare_set {s : Shared} {g : Nat} {x : GenState} (h : AllBare s.gens) (hx : x.bare = true) : AllBare (s.setGen g x).gens := by
  intro y hy
  have hy' : y ∈ s.gens.setIfInBounds g x := hy
  rcases Array.mem_or_eq_of_mem_setIfInBounds hy' with z | z
  · exact h y z
  · rw [z]; exact hx

theorem get_set {s : Shared} {g : Nat} {x : GenState} (h : g + 1 ≤ (s.setGen g x).gens.size) : (s.setGen g x).gens[g]? = some x := by
  have h1 : (s.setGen g x).gens.size = s.gens.size := GenW.setGen_size s g x
  have h2 : g < s.gens.size := by omega
  show (s.gens.setIfInBounds g x)[g]? = some x
  simp [h2]

/-- the consumer: all's own loop over the generator at a -/
theorem all_turns {A : Around} {g : Nat} {Q : VK} {R : Result → Shared → Prop} (hh : A.handled = none) (hroom : A.depth < recursionLimit)
    (hIG : ∀ (s : Shared), s.heap.get? a = some go → s.heap.IsGen a g)
    (hR : ∀ (b : Bool) (s : Shared) (H3 : Hp) (σ3 : L2.St), Inv (gcx X ((A.in1.in1).deeper env) N s4 H4 env fp) [(a, go)] σ3 H3 s → Q (.bl b) H3 → R (.ok (.ret (.bool b))) s) :
    ∀ (n : Nat) (s : Shared) (gs : GenState) (σ3 : L2.St) (H3 : Hp), s.gens[g]? = some gs → Inv (gcx X ((A.in1.in1).deeper env) N s4 H4 env fp) [(a, go)] σ3 H3 s →
      gs.Goes (model X.prog X.w) A.in1.in1 (fun n s₀ r s₁ => r = .ok .next ∧ GP X ((A.in1.in1).deeper env) N s4 H4 env fp a go Q n s₀ s₁) (GY X ((A.in1.in1).deeper env) N s4 H4 env fp a go Q) n (.send .none) (s.setGen g .running) →
      codeAny (model X.prog X.w) A (.builtin "all.loop" ⟨[.ref a], []⟩) R s := by
  intro n
  induction n with
  | zero =>
    intro s gs σ3 H3 hgs I hgo
    refine codeAny_builtin F.entry_all_loop ?_
    rw [Around.under_plainId F.plain_all_loop _]
    have hsz : g + 1 ≤ s.gens.size := by
      obtain ⟨h1, _⟩ := Array.getElem?_eq_some_iff.mp hgs
      exact h1
    have pa := (I.pin (a, go) (by simp)).1
    show wpAny _ A.in1 (pyNext (.ref a) >>= _) _ _ s
    refine wpAny_bind (GenW.wpAny_gsz hsz ?_)
    refine wpAny_pyNext_genexpQ (P := GP X ((A.in1.in1).deeper env) N s4 H4 env fp a go Q) hh I.nolimit hroom (hIG s pa) hgs hgo ?_ ?_
    · intro v s₁ gs' hb hY hsz1
      obtain ⟨b, H5, σ5, rfl, I5, q1, q2⟩ := hY
      cases b with
      | true => exact (q2 rfl s₁ rfl I5.bare rfl).elim
      | false =>
        refine wpAny_bind (wpAny_holding (wpAny_truthy_bool ?_))
        refine wpAny_bind (wpAny_letGo ?_)
        refine wpAny_bind (wpAny_rule (wpAny_pure ?_))
        exact hR false _ H5 σ5 (inv_same I5 rfl (bare_set I5.bare hb) rfl) (q1 rfl)
    · intro s₁ hp h' hk hsz1
      obtain ⟨H5, σ5, I5, q5⟩ := hp
      refine wpAny_bind (wpAny_rule (wpAny_pure ?_))
      refine hR true _ H5 σ5 ?_ q5
      have I6 := inv_same (s'' := s₁.setGen g .finished) I5 rfl (bare_set I5.bare rfl) rfl
      exact I6.kept (t' := s₁.toks) hk
  | succ n ih =>
    intro s gs σ3 H3 hgs I hgo
    refine codeAny_builtin F.entry_all_loop ?_
    rw [Around.under_plainId F.plain_all_loop _]
    have hsz : g + 1 ≤ s.gens.size := by
      obtain ⟨h1, _⟩ := Array.getElem?_eq_some_iff.mp hgs
      exact h1
    have pa := (I.pin (a, go) (by simp)).1
    show wpAny _ A.in1 (pyNext (.ref a) >>= _) _ _ s
    refine wpAny_bind (GenW.wpAny_gsz hsz ?_)
    refine wpAny_pyNext_genexpQ (P := GP X ((A.in1.in1).deeper env) N s4 H4 env fp a go Q) hh I.nolimit hroom (hIG s pa) hgs hgo ?_ ?_
    · intro v s₁ gs' hb hY hsz1
      obtain ⟨b, H5, σ5, rfl, I5, q1, q2⟩ := hY
      cases b with
      | true =>
        refine wpAny_bind (wpAny_holding (wpAny_truthy_bool ?_))
        refine wpAny_bind (wpAny_letGo ?_)
        simp only [if_true]
        refine wpAny_pure ⟨plainId_quiet F.plain_all_loop _, ?_⟩
        refine ih (s₁.setGen g gs') gs' σ5 H5 (get_set hsz1) (inv_same I5 rfl (bare_set I5.bare hb) rfl) ?_
        exact q2 rfl ((s₁.setGen g gs').setGen g .running) rfl (bare_set (bare_set I5.bare hb) rfl) rfl
      | false =>
        refine wpAny_bind (wpAny_holding (wpAny_truthy_bool ?_))
        refine wpAny_bind (wpAny_letGo ?_)
        refine wpAny_bind (wpAny_rule (wpAny_pure ?_))
        exact hR false _ H5 σ5 (inv_same I5 rfl (bare_set I5.bare hb) rfl) (q1 rfl)
    · intro s₁ hp h' hk hsz1
      obtain ⟨H5, σ5, I5, q5⟩ := hp
      refine wpAny_bind (wpAny_rule (wpAny_pure ?_))
      refine hR true _ H5 σ5 ?_ q5
      have I6 := inv_same (s'' := s₁.setGen g .finished) I5 rfl (bare_set I5.bare rfl) rfl
      exact I6.kept (t' := s₁.toks) hk
end
end UG


set_option Elab.async false
set_option linter.all false
set_option maxRecDepth 100000
set_option maxHeartbeats 4000000
namespace UG
open PySem PySem.Spec PyProof.Rows L2

def tAllG (P : Addr) (wi : TI) (g : TG) (te : TE) (σ0 : L2.St) : TE := fun σ H Q => wi σ H fun J H1 =>
  GxR.TabG H1 P ∧ ∃ (top : Nat) (W : Nat → Hp → Prop), Way J g te σ0 Q top W ∧ ∀ H2, GxR.Tabbed P H1 H2 → W 0 H2

section
variable {X : Cx}
theorem pe_allG {c P : Addr} {elt tg iter : Expr} {p pos gpos : Pos} {scope : Scope} {wi : TI} {g : TG} {te : TE} {N : List Str} {k : Nat}
    (hr : Room (k + 1) X.A) (hg : Gl X "all") (hm : X.mg "all" = none) (hb : bootBuiltins "all" = some (.builtin "all")) (TB : LamX.TabB X.base X.mg c P) (hcode : X.env.code = .ref c)
    (S : GenSc scope) (hi : PI X tg iter wi)
    (hgt : ∀ (A' : Around) (s : Shared) (H : Hp) (C : Addr) (code : Value) (fp : List Addr), Room k A' → PG (gcx X A' N s H (gev X scope C code) fp) tg g)
    (hel : ∀ (A' : Around) (s : Shared) (H : Hp) (C : Addr) (code : Value) (fp : List Addr), Room k A' → PE (gcx X A' N s H (gev X scope C code) fp) elt te)
    (hs : ∀ v, genFold iter X.env v = pure v := by intro _; rfl)
    (he : starEach [.GeneratorExp elt [⟨tg, iter, [], 0⟩] scope gpos] X.env = (false, eval (.GeneratorExp elt [⟨tg, iter, [], 0⟩] scope gpos) X.env) :: starEach [] X.env := by rfl) :
    PE X (.Call (.Name "all" p) [.GeneratorExp elt [⟨tg, iter, [], 0⟩] scope gpos] [] pos) (tAllG P wi g te (N.map fun _ => none)) := by
  refine ⟨fun pins s σ H Q I h => ?_⟩
  refine wpAny_Call_Name_kw (ld_blt I hg hm hb ?_)
  refine PyProof.Rows.callWith_builtin1 ?_ he (by rfl)
  rw [he]
  show wpAny _ _ (spliced ((false, eval (.GeneratorExp elt [⟨tg, iter, [], 0⟩] scope gpos) X.env) :: backTo pos (starEach [] X.env))) _ _ s
  refine Calls.spliced_cons ?_
  have hclos := closure_ok (scope := scope) (env := X.env) fun y hy e => (S.free y hy e).elim
  refine wpAny_GeneratorExp_make S.co hclos S.cell S.dot S.kind (by have := hr.dp; omega) ?_ hs
  refine thn (hi.run pins s σ H _ I h) fun xv s1 hx => thn hx fun itv s2 h2 => ?_
  obtain ⟨it, fp, tn, J, H2, e, I2, T, st2, f2, ⟨ps, hP, ht⟩, top, W, way, w0⟩ := h2
  subst e
  refine ⟨I2.nolimit, ?_⟩
  have hPs : s2.heap.get? P = some { cls := .none, data := .fields ps } := I2.hok P _ hP
  have hPlt : P < s2.heap.objs.size := Heap.lt_size hPs
  have cd : PySem.W.CodeHd s2.heap c P := TB.code.keeps I2.bk
  have szF : ∀ b ∈ fp, b < s2.heap.objs.size := fun b hbf => by
    obtain ⟨o, e, _⟩ := T.obj _ _ st2 b hbf
    exact Heap.lt_size e
  have nPf : ∀ b ∈ fp, b ≠ P := fun b hbf z => by
    have q := (f2 b hbf).1
    rw [z, hP] at q
    cases q
  -- behind the making of the code object
  have cont : ∀ (code : Value) (h3 : Heap) (tk : Nat) (more : Array Value), (∀ b o, b ≠ P → s2.heap.get? b = some o → h3.get? b = some o) → s2.heap.objs.size ≤ h3.objs.size →
      h3.get? P = some { cls := .none, data := .fields (ps ++ more) } → TriplesOk (ps ++ more).toList →
      wpAny (model X.prog X.w) X.A (builtinsFor X.env.globals X.env.builtins) (fun bi s₄ => ∀ h', h'.Ns s₄.heap.objs.size (fun y => if y = (".0" : Str) then some (.ref it) else none) →
        Heap.SameBut s₄.heap.objs.size (s₄.heap.push { cls := .type "frame", data := .dict #[] }) h' →
        wpAny (model X.prog X.w) X.A (spliced (backTo pos (starEach [] X.env))) (fun ws s5 => wpAny (model X.prog X.w) X.A (call (.builtin "all") (.ref h'.objs.size :: ws)) (EP X pins σ Q) X.xe s5) X.xe
          { s₄ with
            gens := s₄.gens.push (.fresh (.compStart (.GeneratorExp elt [⟨tg, iter, [], 0⟩] scope gpos) 0 (.ref it) .none (genEnv scope (cloFrom X.env.cells scope.names []) s₄.heap.objs.size code bi X.env))),
            toks := s₄.toks + 1 + 1 + 1,
            heap := h'.push { cls := .type "generator", data := .fields #[.int s₄.gens.size 0, .str "<genexpr>" (s₄.toks + 1), .str (X.env.qual ++ "<genexpr>") (s₄.toks + 1 + 1)] } }) X.xe { s2 with heap := h3, toks := tk } := by
    intro code h3 tk more k3 sz3 hP3 ht3
    obtain ⟨bm, ob, e1, e2, e3, e4, e5, e6, e7, e8⟩ := TB.bm
    have nsG : h3.Ns X.env.globals X.mg := by
      rw [I2.ok.glob]
      obtain ⟨o, es, ep, ho, r⟩ := I2.mod.glob.keeps I2.bk
      exact ⟨o, es, ep, k3 _ o TB.gP ho, r⟩
    refine wpAny_builtinsFor (m := X.mg) nsG e1 e2 (k3 _ _ e4 (I2.bk _ _ e5)) e6 e7 e8 ?_
    intro h' hn' hsb
    have I4 : Inv X pins σ (upd H2 P (.tbl (ps ++ more))) { s2 with heap := h3, toks := tk } :=
      GxR.inv_tab (g' := s2.gens) (d' := s2.drawn) I2 hP k3 hP3 I2.bare
    generalize hs4 : ({ s2 with heap := h3, toks := tk } : Shared) = s4 at I4 hn' hsb ⊢
    have h4 : s4.heap = h3 := by rw [← hs4]
    have st4 : tn 0 s4.heap := T.keep _ _ _ st2 fun b hbf o e => by rw [h4]; exact k3 b o (nPf b hbf) e
    have f4 : ∀ b ∈ fp, FpOk X pins (upd H2 P (.tbl (ps ++ more))) b ∧ b < s4.heap.objs.size := fun b hbf => by
      refine ⟨⟨by rw [upd_ne (nPf b hbf)]; exact (f2 b hbf).1, (f2 b hbf).2⟩, ?_⟩
      rw [h4]
      exact Nat.lt_of_lt_of_le (szF b hbf) sz3
    have szh : h'.objs.size = s4.heap.objs.size + 1 := by rw [hsb.1, Heap.size_push]
    have kp' : ∀ b o, s4.heap.get? b = some o → h'.get? b = some o := fun b o e => hsb.extBut b o (Nat.ne_of_lt (Heap.lt_size e)) (Heap.get?_push_of_some _ e)
    generalize hgo : ({ cls := .type "generator", data := .fields #[.int s4.gens.size 0, .str "<genexpr>" (s4.toks + 1), .str (X.env.qual ++ "<genexpr>") (s4.toks + 1 + 1)] } : Obj) = go
    generalize hs5 : ({ s4 with
            gens := s4.gens.push (.fresh (.compStart (.GeneratorExp elt [⟨tg, iter, [], 0⟩] scope gpos) 0 (.ref it) .none (genEnv scope (cloFrom X.env.cells scope.names []) s4.heap.objs.size code builtinsNs X.env))),
            toks := s4.toks + 1 + 1 + 1,
            heap := h'.push go } : Shared) = s5
    have h5 : s5.heap = h'.push go := by rw [← hs5]
    have kp5 : ∀ b o, s4.heap.get? b = some o → s5.heap.get? b = some o := fun b o e => by rw [h5]; exact Heap.get?_push_of_some _ (kp' b o e)
    have ga : s5.heap.get? h'.objs.size = some go := by rw [h5]; exact Heap.get?_push_size _ (by rw [← hgo] <;> rfl)
    have bare5 : AllBare s5.gens := by
      rw [← hs5]
      exact I4.bare.push rfl
    have g5 : s5.gens[s4.gens.size]? = some (.fresh (geStart elt tg iter scope gpos it (gev X scope s4.heap.objs.size code))) := by
      rw [← hs5]
      exact Array.getElem?_push_size ..
    have hA' : Room k ((X.A.in1.in1).deeper (gev X scope s4.heap.objs.size code)) := by
      refine ⟨hr.hd, ?_, ?_⟩
      · have := hr.dp
        show X.A.depth + 1 + 3 * k + 5 < _
        omega
      · have := hr.un
        show X.A.units + 1 + 1 + 3 + 16 * k + 200 < _
        omega
    have J5 := gen_begin (N := N) (fp := fp) (A' := (X.A.in1.in1).deeper (gev X scope s4.heap.objs.size code)) (s5 := s5) (a := h'.objs.size) (go := go) I4 S f4 hr.hd
      (Around.frames_deeper (A := X.A.in1.in1) I4.ok.frames) kp5 (by rw [← hs5]) bare5 (by rw [h5]; exact hn'.push _) (by rw [szh]; exact Nat.lt_succ_self _) ga (by rw [← hgo]; intro v z; cases z)
    refine Calls.spliced_nil ?_
    refine call_function_tree F.kind_all F.plain_all F.entry_all (F.args_all1 _) ?_
    unfold Builtin.«all»
    refine wpAny_bind (m := oneArg "all" _) (wpAny_pure ?_)
    have isG : s5.heap.IsGen h'.objs.size s4.gens.size := ⟨go, _, _, ga, by rw [← hgo], by rw [← hgo], by rw [← hgo]⟩
    refine wpAny_bind (wpAny_pyIter_gen isG ?_)
    refine wpAny_pure ⟨plainId_quiet F.plain_all_loop _, ?_⟩
    have w4 : W 0 (upd H2 P (.tbl (ps ++ more))) := w0 _ ⟨⟨_, upd_same, ht3⟩, fun b hbn => upd_ne hbn⟩
    refine all_turns (X := X) (N := N) (s4 := s4) (H4 := upd H2 P (.tbl (ps ++ more))) (env := gev X scope s4.heap.objs.size code) (fp := fp) (a := h'.objs.size) (go := go) (g := s4.gens.size) (Q := Q)
      hr.hd (by have := hr.dp; show X.A.depth < _; omega) (fun s6 h6 => ⟨go, _, _, h6, by rw [← hgo], by rw [← hgo], by rw [← hgo]⟩) ?_ top s5 _ _ _ g5 J5 ?_
    · intro b s6 H6 σ6 I6 q6
      exact ⟨.bl b, H6, gen_back I4 (fun b hbf => (f4 b hbf).1) I6, rfl, q6⟩
    · refine ⟨rfl, ?_⟩
      have J6 := inv_same (s'' := s5.setGen s4.gens.size .running) J5 rfl (bare_set J5.bare rfl) rfl
      have st5 : tn 0 s5.heap := T.keep _ _ _ st4 fun b _ o e => kp5 b o e
      have nf : ∀ b ∈ fp, upd H2 P (.tbl (ps ++ more)) b = none := fun b hbf => (f4 b hbf).1.1
      have faN : h'.objs.size ∉ fp := fun z => by
        have q := (f4 _ z).2
        rw [szh] at q
        exact Nat.lt_irrefl _ (Nat.lt_trans (Nat.lt_succ_self _) q)
      have loop : ∀ s₀, ∃ k, k ≤ top ∧ _ := fun s₀ => seg_walk (X := X) (B := X.A.in1.in1) (N := N) (s4 := s4) (H4 := upd H2 P (.tbl (ps ++ more))) (env := gev X scope s4.heap.objs.size code) (fp := fp) (a := h'.objs.size) (go := go)
        (gpos := gpos) (elt := elt) (iter := iter) (scope := scope) (Q := Q) (top := top) (W := W) S.co T (hgt _ _ _ _ _ _ hA') (hel _ _ _ _ _ _ hA') faN way top 0 s₀ (s5.setGen s4.gens.size .running) _ (Nat.sub_le _ _) J6 st5 nf w4
      obtain ⟨_, _, loop⟩ := loop (s5.setGen s4.gens.size .running)
      show Seg _ _ _ _ _ _ _ ((compStart (.GeneratorExp elt [⟨tg, iter, [], 0⟩] scope gpos) 0 (.ref it) .none (gev X scope s4.heap.objs.size code)).onRaise (leaving (gev X scope s4.heap.objs.size code))) [] _
      unfold compStart
      rw [Sem.onRaise_eq_wrap]
      show Seg _ _ _ _ _ _ _ ((ask >>= _).wrap _ _ _ _) [] _
      refine seg_bind_wrap (wpAny_askSetting ?_)
      split
      · exact seg_again rfl loop
      · refine seg_bind_wrap (wpAny_rule ?_)
        show Seg _ _ _ _ _ _ _ ((standAt iter.pos >>= _).wrap _ _ _ _) [] _
        refine seg_bind_wrap (wpAny_standAt ?_)
        refine seg_bind_wrap ?_
        exact T.self _ 0 _ _ _ st5 (seg_again rfl loop)
  cases hf : codeAmong gpos ps.toList with
  | none =>
    refine wpAny_genexprCodeX hcode (cd.code hPs ht) (cd.tab hPs) hf ?_
    intro c' h3 tk hx hge hlt hco' _ htab' _
    obtain ⟨o1, vs, f1, tf, fl, tg', inF, tx, tt, op, _, _, _, _, _, _, _, _, _, htr, _⟩ := hco'
    exact cont _ h3 tk _ (fun b o hbn e => hx b o hbn e) (Nat.le_trans hge (Nat.le_of_lt hlt)) htab'.2 htr
  | some cv =>
    refine wpAny_genexprCode_hit hcode (cd.code hPs ht) hf ?_
    have z := cont cv s2.heap s2.toks #[] (fun _ _ _ e => e) (Nat.le_refl _) (by rw [Array.append_empty]; exact hPs) (by rw [Array.append_empty]; exact ht)
    exact z
end
end UG


set_option Elab.async false
set_option linter.all false
set_option maxRecDepth 100000
set_option maxHeartbeats 4000000
/-! enumerate(t), t a tuple; t * n to some thousands -/
namespace UG
open PySem PySem.Spec PyProof.Rows L2

theorem enum_new1 {v : Value} {o : Obj} {H : Heap → Prop} (B : Begins v o H) :
    Meets (Builtin.«enumerate.__new__» ⟨[.type "enumerate", v], []⟩) (fun _ R s => H s.heap ∧
      R (.ok (.ret (.ref (s.heap.push o).objs.size))) { s with heap := (s.heap.push o).push { cls := .type "enumerate", data := .fields #[.none, .bool false, .ref s.heap.objs.size, rawInt 0, .none, .none] } }) :=
  .of_wp fun prog w A R s h => by
    obtain ⟨hp, g, d, tk, os⟩ := s
    obtain ⟨h1, h⟩ := h
    have hsub := sub_enumerate
    have goes : ∀ {A' : Around} {E : Value → Shared → Prop} {Q : Value → Shared → Prop}, Q (.ref hp.objs.size) ⟨hp.push o, g, d, tk, os⟩ → wpAny (model prog w) A' (pyIter v) Q E ⟨hp, g, d, tk, os⟩ :=
      fun q => B.iter prog w _ _ ⟨hp, g, d, tk, os⟩ _ h1 q
    wp_walk using goes
    refine wpAny_stack_any fun st => wpAny_pure ?_
    split
    · rename_i c _ _ _ _ _
      cases (c == Value.type "enumerate")
      all_goals (wp_walk using goes; exact ⟨_, rfl, h⟩)
    · wp_walk using goes
      exact ⟨_, rfl, h⟩

section
variable {prog : Program} {w : World} {A : Around} {E : Value → Shared → Prop} {s : Shared}
theorem enum_call1 {v : Value} {o : Obj} {H : Heap → Prop} {Q : Value → Shared → Prop} (B : Begins v o H) (h1 : H s.heap)
    (h : ∀ h', IsEnum h' (s.heap.objs.size + 1) s.heap.objs.size 0 .none → h'.get? s.heap.objs.size = some o →
      (∀ b o, s.heap.get? b = some o → h'.get? b = some o) → Q (.ref (s.heap.objs.size + 1)) { s with heap := h' }) :
    wpAny (model prog w) A (call (.type "enumerate") [v]) Q E s := by
  refine callType_new F.called_enumerate (by decide) (F.typeCall_enumerate_1 _) (F.newCall_enumerate_1 _)
    (fun obj => F.args_object_init_2 obj _) F.entry_enumerate_new (enum_new1 B) ⟨h1, ?_⟩
  have sz : (s.heap.push o).objs.size = s.heap.objs.size + 1 := Heap.size_push ..
  show _ ∧ _
  rw [sz]
  have atE := Heap.get?_push_size (s.heap.push o) (o := { cls := .type "enumerate", data := .fields #[.none, .bool false, .ref s.heap.objs.size, rawInt 0, .none, .none] }) rfl
  rw [sz] at atE
  refine ⟨⟨_, atE, rfl⟩, h _ atE (Heap.get?_push_of_some _ (Heap.get?_push_size _ B.free)) ?_⟩
  intro b o' e
  exact Heap.get?_push_of_some _ (Heap.get?_push_of_some _ e)
end

/-- the tuple at a, each item in a new pair -/
def Iet (K : PySem.W.Frag) (a : Addr) : It :=
  ⟨fun i H => ∃ (xs : List V) (x : V), SqT K H a xs ∧ xs[i]? = some x,
   fun i H v H' => ∃ T x, v = .ref T ∧ H T = none ∧ H' = upd H T (.tup [.int (i : Nat), x]) ∧ ∀ xs, SqT K H a xs → xs[i]? = some x,
   fun i H => ∃ xs : List V, SqT K H a xs ∧ xs.length ≤ i⟩

theorem turn_enumT {P : Program} {w : World} {K : PySem.W.Frag} {elts : List Expr} {kk : Nat} {tpos : Pos} (a e it : Addr) :
    Turn P w K (.Tuple elts kk tpos) (Iet K a) [e, it] e (fun i h => (∃ old, IsEnum h e it ((i : Nat) : Int) old) ∧ h.IsTupleIter it a i ∧ e ≠ it) where
  mem := by simp
  obj := by
    intro i h st b hb
    obtain ⟨⟨old, he⟩, ⟨o, ho, hc, hd⟩, _⟩ := st
    rcases (show b = e ∨ b = it by simpa using hb) with z | z
    · subst z
      exact ⟨_, he, fun v q => nomatch q⟩
    · subst z
      refine ⟨o, ho, ?_⟩
      intro v q
      rw [hd] at q
      cases q
  keep := by
    intro i h h' st k
    obtain ⟨⟨old, he⟩, hi, hne⟩ := st
    exact ⟨⟨old, k e (by simp) _ he⟩, hi.at fun o q => k it (by simp) o q, hne⟩
  item := by
    intro X hP hw hK hc i pins s σ H E I hf st hg
    subst hP hw hK
    obtain ⟨⟨old, he⟩, hit, hne⟩ := st
    obtain ⟨xs, x, hq, hx⟩ := hg
    obtain ⟨its, rv, p, hz⟩ := I.tuple hq
    obtain ⟨u, hu, ru⟩ := rv.get hx
    have hel : e < s.heap.objs.size := Heap.lt_size he
    have hil : it < s.heap.objs.size := by
      obtain ⟨_, q, _⟩ := hit
      exact Heap.lt_size q
    have pT : s.heap.IsTuple a its.toArray := p
    have nEa : e ≠ a := by
      intro z
      obtain ⟨o, ho, _, n, hd⟩ := pT
      have he' := he
      unfold IsEnum at he'
      rw [z, ho] at he'
      cases he'
      cases hd
    have nIa : a ≠ it := by
      intro z
      obtain ⟨o, ho, _, n, hd⟩ := pT
      obtain ⟨o2, ho2, _, hd2⟩ := hit
      rw [z, ho2] at ho
      cases ho
      rw [hd2] at hd
      cases hd
    have D := Draws.tuple (prog := X.prog) (w := X.w) (A := X.A.in1) (I.ok.hd hc) it a nIa its.toArray
    have hi : i < its.toArray.size := by
      have l1 := (List.getElem?_eq_some_iff.mp hx).1
      have l2 := rv.length
      simp
      omega
    refine wpAny_pyNext_enum_itemD D he ⟨hit, pT⟩ hi hne (by simp; exact ⟨hne, nEa⟩) fun y h' tk hy ho hst' hT hsz hk => ?_
    have ey : y = u := by
      have q : its.toArray[i]? = some y := hy
      rw [List.getElem?_toArray] at q
      exact Option.some.inj (q.symm.trans hu)
    subst ey
    refine ⟨_, rfl, wpAny_letOwnedTupleGo_enum (s := { s with heap := h', toks := tk + 1 }) ho fun h'' he' sb => ?_⟩
    have hT2 : h''.get? s.heap.objs.size = some { cls := .type "tuple", data := .seq #[.int i tk, y] } := (sb.2 _ (Nat.ne_of_gt hel)).trans hT
    have new : ObjOk X.prog X.w (upd H s.heap.objs.size (.tup [.int (i : Nat), x])) h'' s.heap.objs.size (.tup [.int (i : Nat), x]) :=
      ⟨by show 2 ≤ sizeLine; decide, [.int i tk, y], .cons ⟨_, rfl⟩ (.cons ru .nil), ⟨_, hT2, rfl, _, rfl⟩⟩
    have kk2 : ∀ b o, b ∉ [e, it] → s.heap.get? b = some o → h''.get? b = some o := by
      intro b o hb q
      have b1 : b ≠ e := fun z => hb (by simp [z])
      have b2 : b ≠ it := fun z => hb (by simp [z])
      exact (sb.2 b b1).trans (hk b o b1 b2 q)
    have I1 : Inv X pins σ (upd H s.heap.objs.size (.tup [.int (i : Nat), x])) { s with heap := h'', toks := tk + 1 } :=
      I.turnedNew (ch := [e, it]) kk2 hf (Nat.le_refl _) new
    refine ⟨.ref s.heap.objs.size, _, I1, rfl, ⟨_, x, rfl, I.hok.fresh (Nat.le_refl _), rfl, fun ys hy => by rw [I.tuple_inj hy hq]; exact hx⟩, ⟨⟨y, ?_⟩, hst'.1.at fun o q => (sb.2 it (Ne.symm hne)).trans q, hne⟩, ?_⟩
    · have e1 : ((i + 1 : Nat) : Int) = (i : Int) + 1 := by omega
      rw [e1]
      exact he'
    · intro b hb
      have hb' : b < s.heap.objs.size := by
        rcases (show b = e ∨ b = it by simpa using hb) with z | z
        · rw [z]; exact hel
        · rw [z]; exact hil
      rw [upd_ne (Nat.ne_of_lt hb')]
      exact (hf b hb).1
  done := by
    intro X hP hw hK hc i pins s σ H E I hf st hg
    subst hP hw hK
    obtain ⟨⟨old, he⟩, hit, hne⟩ := st
    obtain ⟨xs, hq, hx⟩ := hg
    obtain ⟨its, rv, p, hz⟩ := I.tuple hq
    have pT : s.heap.IsTuple a its.toArray := p
    have nIa : a ≠ it := by
      intro z
      obtain ⟨o, ho, _, n, hd⟩ := pT
      obtain ⟨o2, ho2, _, hd2⟩ := hit
      rw [z, ho2] at ho
      cases ho
      rw [hd2] at hd
      cases hd
    obtain ⟨f0, f1, f2, f3, f4, f5⟩ := hf it (by simp)
    have hl := rv.length
    have D : Draws X.prog X.w X.A.in1 it [it, a] i (fun _ _ => False) (fun j h => j = i ∧ h.IsTupleIter it a i ∧ h.IsTuple a its.toArray) :=
      { live := fun _ _ st => let ⟨o, ho, _⟩ := st.2.1; ⟨o, ho⟩
        frame := fun _ _ _ st hk => ⟨st.1, st.2.1.at fun o e => hk it (by simp) o e, st.2.2.at fun o e => hk a (by simp) o e⟩
        item := fun j s Q E hj st hQ => absurd st.1 (Nat.ne_of_lt hj)
        done := fun s Q E st hE => wpAny_nextOf_tuple_end (I.ok.hd hc) st.2.1 st.2.2 (by simp; omega) hE }
    exact wpAny_pyNext_enum_endD D he ⟨rfl, hit, pT⟩ fun h' eb => ⟨rfl, I.turned (t' := s.toks) (fun b o hb q => eb b o hb q) f0 f1 f3 f4 f5⟩
  self := by
    intro A i s Q E st h
    obtain ⟨⟨_, he⟩, _⟩ := st
    exact wpAny_pyIter_enum he h

def iEnumT (K : PySem.W.Frag) (ta : TA) : TI := fun σ H R => ta σ H fun vs H1 => ∃ a xs, vs = [.ref a] ∧ SqT K H1 a xs ∧ R (Iet K a) H1
theorem pi_enumT {X : Cx} {e : Expr} {ta : TA} {p pos tpos : Pos} {elts : List Expr} {kk : Nat} (hg : Gl X "enumerate") (hm : X.mg "enumerate" = none) (ha : PA X [e] ta)
    (hs : starEach [e] X.env = [(false, eval e X.env)] := by rfl) :
    PI X (.Tuple elts kk tpos) (.Call (.Name "enumerate" p) [e] [] pos) (iEnumT X.K ta) := by
  refine ⟨fun pins s σ H R I h => ?_⟩
  refine Call_ (ld_blt I hg hm boot_enumerate (PyProof.Rows.callWith_type1 (thn (ha.run pos pins s σ H _ I h) ?_) hs rfl))
  rintro us s1 ⟨vs, H1, I1, r1, a, xs, rfl, hq, q⟩
  obtain ⟨its, rv, p', hz⟩ := I1.tuple hq
  cases r1 with
  | cons r rr =>
    cases rr
    cases r
    have pT : s1.heap.IsTuple a its.toArray := p'
    refine enum_call1 (begins_tuple a its.toArray) pT fun h' he hit hk => wpAny_pyIter_enum he ?_
    have I2 : Inv X pins σ H1 { s1 with heap := h' } := I1.kept (t' := s1.toks) hk
    refine ⟨s1.heap.objs.size + 1, [s1.heap.objs.size + 1, s1.heap.objs.size], _, _, H1, rfl, I2, turn_enumT a (s1.heap.objs.size + 1) s1.heap.objs.size, ⟨⟨.none, he⟩, ⟨_, hit, rfl, rfl⟩, Nat.succ_ne_self _⟩, ?_, q⟩
    intro b hb
    have hle : s1.heap.objs.size ≤ b := by
      rcases (show b = s1.heap.objs.size + 1 ∨ b = s1.heap.objs.size by simpa using hb) with z | z
      · rw [z]; exact Nat.le_succ _
      · rw [z]; exact Nat.le_refl _
    exact I1.fpOk hle (I1.hok.fresh hle)
end UG


set_option Elab.async false
set_option linter.all false
set_option maxRecDepth 100000
set_option maxHeartbeats 4000000
namespace UG
open PySem PySem.Spec PyProof.Rows L2

/-! ### t[::-1], t a tuple -/
theorem fm_congr {α β : Type} {f g : α → Option β} : ∀ {l : List α}, (∀ x ∈ l, f x = g x) → l.filterMap f = l.filterMap g
  | [], _ => rfl
  | x :: r, h => by
    rw [List.filterMap_cons, List.filterMap_cons, h x List.mem_cons_self, fm_congr fun y hy => h y (List.mem_cons_of_mem _ hy)]
theorem adj_back (n : Nat) : Builtin.Slice.sliceAdjust none none (-1) (n : Int) = ((n : Int) - 1, -1) := rfl
theorem plc_back (n : Nat) : Builtin.Slice.slicePlaces ((n : Int) - 1) (-1) (-1) = n := by
  unfold Builtin.Slice.slicePlaces
  rw [if_neg (by decide)]
  by_cases h : (n : Int) - 1 > -1
  · rw [if_pos h]
    have e : ((n : Int) - 1 - -1 - 1) / (- -1) + 1 = (n : Int) := by
      rw [show (- -1 : Int) = 1 by decide, Int.ediv_one]
      omega
    rw [e]
    rfl
  · rw [if_neg h]
    have e : n = 0 := by omega
    subst e
    rfl
section
variable {prog : Program} {w : World} {A : Around} {E : Value → Shared → Prop} {s : Shared}
theorem applied_back {sl : Addr} {vl vu vs : Value} {n : Nat} {Q : Int × Int × Nat → Shared → Prop} (hs : s.heap.IsSliceOf sl vl vu vs) (pl : IsPart vl none) (pu : IsPart vu none) (ps : IsPart vs (some (-1)))
    (h : Q ((n : Int) - 1, -1, n) s) : wpAny (model prog w) A (Builtin.Slice.sliceApplied (.ref sl) (pure (n : Int))) Q E s := by
  obtain ⟨ob, hob, hc, hd⟩ := id hs
  unfold Builtin.Slice.sliceApplied Builtin.Slice.sliceFields
  refine wpAny_bind (wpAny_bind (wpAny_field hob hd (x := vl) rfl (wpAny_bind (wpAny_field hob hd (x := vu) rfl (wpAny_bind (wpAny_field hob hd (x := vs) rfl (wpAny_pure ?_)))))))
  refine wpAny_bind (HT.slicePart_ ps ?_)
  show wpAny _ _ (if ((-1 : Int) == 0) = true then _ else _) _ _ s
  rw [if_neg (by decide)]
  refine wpAny_bind (HT.slicePart_ pl (wpAny_bind (HT.slicePart_ pu (wpAny_bind (wpAny_pure ?_)))))
  show wpAny _ _ (match Builtin.Slice.sliceAdjust none none (-1) (n : Int) with | (lo, hi) => pure (lo, (-1 : Int), Builtin.Slice.slicePlaces lo hi (-1))) _ _ s
  rw [adj_back]
  show wpAny _ _ (pure ((n : Int) - 1, (-1 : Int), Builtin.Slice.slicePlaces ((n : Int) - 1) (-1) (-1))) _ _ s
  rw [plc_back]
  exact wpAny_pure h
theorem pick_back (xs : Array Value) : ((List.range xs.size).filterMap fun (m : Nat) => xs[((xs.size : Int) - 1 + (m : Int) * -1).toNat]?).toArray = xs.toList.reverse.toArray := by
  have e : ∀ m ∈ List.range xs.size, (fun (m : Nat) => xs[((xs.size : Int) - 1 + (m : Int) * -1).toNat]?) m = (fun m => xs[xs.size - 1 - m]?) m := by
    intro m hm
    have hm' := List.mem_range.mp hm
    have q : ((xs.size : Int) - 1 + (m : Int) * -1).toNat = xs.size - 1 - m := by omega
    show xs[((xs.size : Int) - 1 + (m : Int) * -1).toNat]? = _
    rw [q]
  have e2 : (List.range xs.size).filterMap (fun (m : Nat) => xs[((xs.size : Int) - 1 + (m : Int) * -1).toNat]?) = (List.range xs.size).filterMap (fun m => xs[xs.size - 1 - m]?) := fm_congr e
  rw [e2]
  have e3 : (List.range xs.size).filterMap (fun m => xs[xs.size - 1 - m]?) = ((List.range xs.size).map (fun k => xs.size - 1 - k)).filterMap (xs[·]?) := by
    rw [List.filterMap_map]
    rfl
  rw [e3, PySem.W.krv_range, List.filterMap_reverse, PySem.W.krv_all]
theorem getItem_tupBack {t sl : Addr} {items : Array Value} {vl vu vs : Value} {Q : Value → Shared → Prop} (ht : IsTup s.heap t items) (hs : s.heap.IsSliceOf sl vl vu vs) (pl : IsPart vl none) (pu : IsPart vu none) (ps : IsPart vs (some (-1)))
    (h : Q (.ref s.heap.objs.size) { s with heap := s.heap.push { cls := .type "tuple", data := .seq items.toList.reverse.toArray } })
    (hsz : items.size ≤ sizeLine) : wpAny (model prog w) A (getItem (.ref t) (.ref sl)) Q E s := by
  obtain ⟨os, hos, hcs, hds⟩ := id hs
  have tS : s.TypeIs (.ref sl) "slice" := ⟨os, hos, hcs⟩
  unfold getItem
  try with_reducible refine wpAny_holding ?_
  first | refine wpAny_bind (wpAny_pure ?_) | skip
  refine wpAny_bind (wpAny_sequenceKey ht.typeIs (by decide) ?_)
  refine wpAny_bind (wpAny_callSpecial?_slot (name := Str.ofString "__getitem__") ht.typeIs PyProof.Rows.slot_tuple_getitem (wpAny_call_entry PyProof.Rows.slot_tuple_getitem ht.typeIs entry_tuple_getitem ?_ (args_tuple_getitem _ _)))
  show wpAny _ _ (Builtin.Tuple.tupleItemsOf (.ref t) >>= _) _ _ s
  refine wpAny_bind (tupleItemsOf_ ht ?_)
  refine wpAny_bind (wpAny_typeOf tS ?_)
  rw [if_pos (by decide)]
  refine wpAny_bind (applied_back hs pl pu ps ?_)
  have no : ¬ ((((items.size : Int) - 1) == 0 && (-1 : Int) == 1 && items.size == items.size) = true) := by
    intro q
    rw [Bool.and_eq_true, Bool.and_eq_true] at q
    exact absurd q.1.2 (by decide)
  show wpAny _ _ (if (((items.size : Int) - 1) == 0 && (-1 : Int) == 1 && items.size == items.size) = true then _ else _) _ _ s
  rw [if_neg no]
  rw [pick_back]
  have fit : sizeOk (.seq items.toList.reverse.toArray) := by
    show items.toList.reverse.toArray.size ≤ sizeLine
    simpa using hsz
  exact wpAny_bind (m := Builtin.Tuple.tupleExact _) (wpAny_newObj_type (wpAny_pure ⟨_, rfl, wpAny_pure h⟩) fit)
end
section
variable {X : Cx}
def tRevT (K : PySem.W.Frag) (te : TE) : TE := fun σ H Q => te σ H fun x H1 => ∃ a xs, x = .ref a ∧ SqT K H1 a xs ∧ ∀ p, H1 p = none → Q (.ref p) (upd H1 p (.tup xs.reverse))
theorem pe_revT {e : Expr} {te : TE} {k : Nat} {p1 p2 p3 pos : Pos} (he : PE X e te) : PE X (.Subscript e (.Slice none none (some (.UnaryOp .USub (.Constant (.int 1) k p1) p2)) p3) pos) (tRevT X.K te) := by
  refine ⟨fun pins s σ H Q I h => ?_⟩
  refine Subscript_ (thn (he.run pins s σ H _ I h) ?_)
  rintro v s1 ⟨x, H1, I1, r1, a, xs, rfl, hx, q⟩
  cases r1
  have part : PO X (some (.UnaryOp .USub (.Constant (.int 1) k p1) p2)) (tPart (tUn (rU fun i => .int (-i)) (tC (.int 1)))) := po_some (pe_un un_neg pe_int)
  refine wpAny_Slice (thn (po_none.run pins s1 σ H1 (fun o H2 => o = none ∧ H2 = H1) I1 ⟨rfl, rfl⟩) ?_)
  rintro vl s2 ⟨l, H2, I2, pl, rfl, rfl⟩
  refine thn (po_none.run pins s2 σ H2 (fun o H3 => o = none ∧ H3 = H2) I2 ⟨rfl, rfl⟩) ?_
  rintro vu s3 ⟨u, H3, I3, pu, rfl, rfl⟩
  refine thn (part.run pins s3 σ H3 (fun o H4 => o = some (-1) ∧ H4 = H3) I3 ⟨1, rfl, -1, rfl, rfl, rfl⟩) ?_
  rintro vs s4 ⟨o, H4, I4, ps, rfl, rfl⟩
  have I5 : Inv X pins σ H4 { s4 with heap := s4.heap.push { cls := .type "slice", data := .fields #[vl, vu, vs] } } := I4.kept (t' := s4.toks) fun b ob e => Heap.get?_push_of_some _ e
  obtain ⟨its, r, ht, hz⟩ := I5.tuple hx
  have hl := r.length
  show wpAny _ X.A (subscriptTail e (.Slice none none (some (.UnaryOp .USub (.Constant (.int 1) k p1) p2)) p3) (.ref a) (.ref s4.heap.objs.size)) _ X.xe { s4 with heap := s4.heap.push { cls := .type "slice", data := .fields #[vl, vu, vs] } }
  refine tail_any (ops := [.ref a, .ref s4.heap.objs.size]) ht.typeIs PyProof.Rows.slot_tuple_getitem.lookup ?_ (by with_unfolding_all rfl)
  refine getItem_tupBack ht (Heap.IsSliceOf.new _ vl vu vs) pl pu ps ?_ (by rw [List.size_toArray]; omega)
  refine ⟨.ref _, _, I5.laid (t' := s4.toks) (o := .tup xs.reverse) (fun b ob e => Heap.get?_push_of_some _ e) (Nat.le_refl _) ?_, rfl, q _ (I5.hok.fresh (Nat.le_refl _))⟩
  exact ⟨by rw [List.length_reverse]; exact hz, _, r.reverse, IsTup.new _ _⟩

/-- t * n, some million items at most -/
def rRepB (K : PySem.W.Frag) : R2 := fun x y H Q => ∃ l k xs, x = .ref l ∧ y = .int k ∧ SqT K H l xs ∧ xs ≠ [] ∧ 2 ≤ k ∧ k ≤ 1000000 ∧ ((xs.length : Nat) : Int) * k ≤ 1000000 ∧
  ∀ p, H p = none → Q (.ref p) (upd H p (.tup (List.replicate k.toNat xs).flatten))
theorem op_repB : OpR X (binaryOp .Mult) (rRepB X.K) := by
  intro pins s σ H x y v u Q I rx ry h
  obtain ⟨l, k, xs, rfl, rfl, hT, hne, h1, h2, hz, q⟩ := h
  cases rx
  obtain ⟨t, rfl⟩ := ry
  obtain ⟨its, r, ⟨⟨cls, dd, data, sl⟩, ho, hc, n, hd⟩, hs⟩ := I.tuple hT
  simp only at hc hd
  subst hc hd
  have len : its.length = xs.length := r.length.symm
  have its0 : its ≠ [] := by
    rintro rfl
    exact hne (List.eq_nil_of_length_eq_zero len.symm)
  have emp : its.toArray.isEmpty = false := by
    cases its with
    | nil => exact absurd rfl its0
    | cons a b => rfl
  have sz : its.toArray.size = xs.length := by rw [List.size_toArray, len]
  have kk : ((k.toNat : Nat) : Int) = k := by omega
  have prod : k.toNat * xs.length ≤ 1000000 := by
    have q1 : ((k.toNat * xs.length : Nat) : Int) ≤ 1000000 := by
      rw [Int.natCast_mul, kk, Int.mul_comm]
      exact hz
    omega
  have bound : ((its.toArray.size : Nat) : Int) * k ≤ 1000000 := by rw [sz]; exact hz
  have flat : (List.replicate k.toNat its).flatten.length ≤ sizeLine := by
    rw [PyProof.Rows.lm_len_rep_flat, len, sizeLine_eq]
    omega
  have a0 : (decide (k < -(2 ^ 63)) || decide (k ≥ 2 ^ 63)) = false := by
    rw [decide_eq_false (by omega), decide_eq_false (by omega)] <;> rfl
  have a1 : (its.toArray.isEmpty || k == 1) = false := by
    rw [emp, Bool.false_or]
    exact beq_eq_false_iff_ne.mpr (by omega)
  have a2 : (decide (k ≤ 0) || its.toArray.isEmpty) = false := by
    rw [emp, Bool.or_false]
    exact decide_eq_false (by omega)
  have a4 : Builtin.Tuple.tupleTooMany (((its.toArray.size : Nat) : Int) * k) = false := by
    unfold Builtin.Tuple.tupleTooMany
    rw [sizeLine_eq]
    exact decide_eq_false (by omega)
  have mul := tuple_mulW l its.toArray n dd sl k t a0 a1 a2 (by omega) a4 (by rw [size_rep, List.size_toArray]; exact flat)
  have fin : EP X pins σ Q (Value.ref s.heap.objs.size) { s with heap := s.heap.push { cls := Value.type "tuple", data := Data.seq (List.foldl (fun x1 x2 => x1 ++ x2) #[] (List.replicate k.toNat its.toArray)) }, toks := s.toks } := by
    rw [size_rep]
    refine ⟨.ref s.heap.objs.size, _, I.laid (t' := s.toks) (o := .tup (List.replicate k.toNat xs).flatten) (fun b ob e => Heap.get?_push_of_some _ e) (Nat.le_refl _) ?_, rfl, q _ (I.hok.fresh (Nat.le_refl _))⟩
    refine ⟨?_, _, r.rep k.toNat, IsTup.new _ _⟩
    rw [PyProof.Rows.lm_len_rep_flat, sizeLine_eq]
    omega
  have tl : s.TypeIs (.ref l) "tuple" := ⟨_, ho, rfl⟩
  exact wpAny_binaryOp_repeat_ref (T := "tuple") (U := "int") (by decide) tl (fun s' => typeIs_int s' k t) noFill_tuple_mul F.fills_int_mul F.slot_int_rmul repeat_tuple F.slot_int_index.lookup
    (call_meets F.slot_int_rmul (typeIs_int s k t) F.entry_int_rmul (F.args_int_rmul_2 _ _) (int_rmul_tuple k t l its.toArray n dd sl) ⟨ho, rfl, tl, call_meets F.slot_tuple_mul tl F.entry_tuple_mul (F.args_tuple_mul_2 _ _) mul ⟨ho, fin⟩⟩)
end
end UG


set_option Elab.async false
set_option linter.all false
set_option maxRecDepth 100000
set_option maxHeartbeats 4000000
namespace K09
open PySem PySem.Spec PyProof.Rows L2

def topS (i : Nat) : Stmt := PySem.Challenge.pw_undoneall_k09_whole_texts_with_the_same.main.body.getD i (.Pass ⟨0, 0, 0, 0⟩)

/-! ### data -/
def tyN : PyData → String
  | .none => "NoneType"
  | .bool _ => "bool"
  | .int _ => "int"
  | .str _ => "str"
  | .list _ => "list"
  | .tuple _ => "tuple"
  | .dict _ => "dict"
theorem dp_ty {K : PySem.W.Frag} {H : Hp} {v : V} {d : PyData} (h : Dp K H v d) : TyX K H v (.type (tyN d)) := by
  cases h with
  | non => exact .base .non
  | bl b => exact .base (.bl b)
  | int i => exact .base (.int i)
  | str x => exact .base (.str x)
  | lst hs _ =>
    rcases hs with (h | ⟨o, h⟩) | ⟨o, its, n, hk, hc, _⟩
    · exact .base (.lst h)
    · exact .base (.frz h)
    · exact .kList hk hc
  | tup hs _ =>
    rcases hs with (h | ⟨o, h⟩) | ⟨o, its, n, hk, hc, _⟩
    · exact .base (.tup h)
    · exact .fTuple h
    · exact .kTuple hk hc
/-- all but tables stay -/
theorem sq_ext {K : PySem.W.Frag} {H H' : Hp} {a : Addr} {xs : List V} (e : LamX.ExtN H H') (h : SqL K H a xs) : SqL K H' a xs := by
  rcases h with (h | ⟨o, h⟩) | h
  · exact .inl (.inl (e _ _ h (fun _ z => by cases z)))
  · exact .inl (.inr ⟨o, e _ _ h (fun _ z => by cases z)⟩)
  · exact .inr h
theorem sqt_ext {K : PySem.W.Frag} {H H' : Hp} {a : Addr} {xs : List V} (e : LamX.ExtN H H') (h : SqT K H a xs) : SqT K H' a xs := by
  rcases h with (h | ⟨o, h⟩) | h
  · exact .inl (.inl (e _ _ h (fun _ z => by cases z)))
  · exact .inl (.inr ⟨o, e _ _ h (fun _ z => by cases z)⟩)
  · exact .inr h
mutual
theorem dp_ext {K : PySem.W.Frag} {H H' : Hp} (e : LamX.ExtN H H') : ∀ (d : PyData) {v : V}, Dp K H v d → Dp K H' v d
  | .none, _, h => by cases h; exact .non
  | .bool _, _, h => by cases h; exact .bl _
  | .int _, _, h => by cases h; exact .int _
  | .str _, _, h => by cases h; exact .str _
  | .list ds, _, h => by
    cases h with
    | lst hs ha => exact .lst (sq_ext e hs) (dps_ext e ds ha)
  | .tuple ds, _, h => by
    cases h with
    | tup hs ha => exact .tup (sqt_ext e hs) (dps_ext e ds ha)
  | .dict _, _, h => by cases h
theorem dps_ext {K : PySem.W.Frag} {H H' : Hp} (e : LamX.ExtN H H') : ∀ (ds : List PyData) {vs : List V}, DpAll K H vs ds → DpAll K H' vs ds
  | [], _, h => by cases h; exact .nil
  | d :: ds, _, h => by
    cases h with
    | cons h1 h2 => exact .cons (dp_ext e d h1) (dps_ext e ds h2)
end
theorem same_ext {H H' : Hp} (h : Same H H') : LamX.ExtN H H' := fun b o e _ => h b o e
theorem dps_len {K : PySem.W.Frag} {H : Hp} : ∀ {vs : List V} {ds : List PyData}, DpAll K H vs ds → vs.length = ds.length
  | _, _, .nil => rfl
  | _, _, .cons _ t => congrArg Nat.succ (dps_len t)
theorem dps_get {K : PySem.W.Frag} {H : Hp} : ∀ {vs : List V} {ds : List PyData} {i : Nat} {d : PyData}, DpAll K H vs ds → ds[i]? = some d → ∃ v, vs[i]? = some v ∧ Dp K H v d
  | _, _, _, _, .nil, e => by simp at e
  | _, _, 0, _, .cons h t, e => by
    simp at e
    subst e
    exact ⟨_, rfl, h⟩
  | _, _, i + 1, _, .cons h t, e => by
    obtain ⟨v, h1, h2⟩ := dps_get (i := i) t (by simpa using e)
    exact ⟨v, by simpa using h1, h2⟩
theorem dps_get' {K : PySem.W.Frag} {H : Hp} {vs : List V} {ds : List PyData} {i : Nat} {v : V} (h : DpAll K H vs ds) (e : vs[i]? = some v) : ∃ d, ds[i]? = some d ∧ Dp K H v d := by
  have hl := dps_len h
  have hi := (List.getElem?_eq_some_iff.mp e).1
  have e2 : ds[i]? = some (ds[i]'(by omega)) := List.getElem?_eq_getElem (by omega)
  obtain ⟨v', h1, h2⟩ := dps_get h e2
  rw [e] at h1
  cases h1
  exact ⟨_, e2, h2⟩
theorem same_new {H : Hp} {p : Addr} (h : H p = none) (o : HO) : Same H (upd H p o) := fun b u q => by rw [upd_ne (ne_of_none q h)]; exact q

/-! ### what the judges tell -/
def rowD (d : PyData) (lo hi : Int) : Bool := match d with
  | .tuple ds => decide (lo ≤ (ds.length : Int)) && decide ((ds.length : Int) ≤ hi)
  | _ => false
def smallL : Str := "abcdefghijklmnopqrstuvwxyz"
def wordS : Str := "abcdefghijklmnopqrstuvwxyz0123456789"
def keptW : List Str := ["call", "choose", "do", "ensure", "finally", "letters", "loop", "or", "proc", "return", "undo"]

/-! ### the module's facts -/
structure Bl (K : PySem.W.Frag) (mg : Str → Option Value) : Prop where
  isi : mg "isinstance" = none
  int : mg "int" = none
  bool : mg "bool" = none
  str : mg "str" = none
  tuple : mg "tuple" = none
  len : mg "len" = none
  abs : mg "abs" = none
  all : mg "all" = none
  range : mg "range" = none
  enumerate : mg "enumerate" = none
  reversed : mg "reversed" = none
  repr : mg "repr" = none
  MOST_SIGNS : ∃ t, mg "MOST_SIGNS" = some (.int 10 t)
  MOST_LETTERS : ∃ t, mg "MOST_LETTERS" = some (.int 20 t)
  MOST_PROCEDURES : ∃ t, mg "MOST_PROCEDURES" = some (.int 8 t)
  LEAST_BODIES : ∃ t, mg "LEAST_BODIES" = some (.int 2 t)
  MOST_BODIES : ∃ t, mg "MOST_BODIES" = some (.int 6 t)
  MOST_IN_BODY : ∃ t, mg "MOST_IN_BODY" = some (.int 60 t)
  MOST_STATEMENTS : ∃ t, mg "MOST_STATEMENTS" = some (.int 200 t)
  LONGEST_CHAIN : ∃ t, mg "LONGEST_CHAIN" = some (.int 12 t)
  MOST_PLACES : ∃ t, mg "MOST_PLACES" = some (.int 300 t)
  SMALL_LETTERS : ∃ t, mg "SMALL_LETTERS" = some (.str smallL t)
  WORD_SIGNS : ∃ t, mg "WORD_SIGNS" = some (.str wordS t)
  KEPT_WORDS : ∃ a, mg "KEPT_WORDS" = some (.ref a) ∧ ∀ H, SqT K H a (keptW.map V.str)
  END : ∃ a, mg "END" = some (.ref a) ∧ ∀ H, SqT K H a [.str "end"]

def isiN (c n : String) : Bool := n == c || (c == "int" && n == "bool")
def isiD (c : String) (d : PyData) : Bool := isiN c (tyN d)
theorem kit_names : ∀ n ∈ ["NoneType", "bool", "int", "str", "list", "tuple", "dict"], ∀ c ∈ ["int", "bool", "str", "tuple"], kitB n c = some (isiN c n) := by decide +kernel
theorem kit_d {K : PySem.W.Frag} (d : PyData) {c : String} (hc : c ∈ ["int", "bool", "str", "tuple"]) : PySem.W.kitOne K (.type (tyN d)) (.type c) = some (isiD c d) :=
  kit_ty (kit_names (tyN d) (by cases d <;> simp [tyN]) c hc)
section
variable {X : Cx}
/-- isinstance(x, T) of data -/
def rIsD (K : PySem.W.Frag) (c : String) : List V → Hp → VK → Prop := fun xs H Q => ∃ v d, xs = [v, .ty c] ∧ Dp K H v d ∧ Q (.bl (isiD c d)) H
theorem call_isD (c : String) (hc : c ∈ ["int", "bool", "str", "tuple"]) : CallR X (.builtin "isinstance") (rIsD X.K c) := by
  intro pins s σ H xs us Q I r h
  obtain ⟨v, d, rfl, hd, q⟩ := h
  exact call_isi pins s σ H _ us Q I r ⟨v, .ty c, _, _, _, rfl, .ty c, dp_ty hd, kit_d d hc, q⟩
/-- isinstance(e, T) as a value -/
theorem pe_isD {e : Expr} {te : TE} {c : String} {x : Str} {p1 p2 p3 : Pos} (B : Bl X.K X.mg) (he : PE X e te) (hg : Gl X "isinstance") (hx : Gl X x) (hm : X.mg x = none) (hb : bootBuiltins x = some (.type c)) (hc : c ∈ ["int", "bool", "str", "tuple"])
    (hn : x ≠ "__name__" := by decide) (hdb : (x == ("__debug__" : Str)) = false := by decide) (hs1 : starEach [e, .Name x p3] X.env = (false, eval e X.env) :: starEach [.Name x p3] X.env := by rfl)
    (hs2 : starEach [.Name x p3] X.env = (false, eval (.Name x p3) X.env) :: starEach [] X.env := by rfl) (hpl : (backTo p2 (starEach [.Name x p3] X.env)).any (·.1) = false := by rfl) :
    PE X (.Call (.Name "isinstance" p1) [e, .Name x p3] [] p2) (tCB (rIsD X.K c) (tCons te (tCons (tC (.ty c)) tNil))) :=
  pe_callB (pos := p2) (p := p1) (call_isD c hc) hg B.isi (by decide +kernel) (pa_cons he (pa_cons (pe_bltn (v := .ty c) (pos := p3) hx hm hb rfl hn hdb) pa_nil hs2) hs1) (by decide) (by decide) hs1 hpl
end
end K09


set_option Elab.async false
set_option linter.all false
set_option maxRecDepth 100000
set_option maxHeartbeats 8000000
namespace K09
open PySem PySem.Spec PyProof.Rows L2
/-! ### the heap without some addresses -/
def cutL (as : List Addr) (H : Hp) : Hp := fun p => if p ∈ as then none else H p
theorem cutL_ext {as : List Addr} {H : Hp} : Same (cutL as H) H := fun p o h => by
  unfold cutL at h
  split at h
  · cases h
  · exact h
theorem cutL_get {as : List Addr} {H : Hp} {p : Addr} (n : p ∉ as) : cutL as H p = H p := if_neg n
/-- all but some addresses stays -/
def Kp (as : List Addr) (H H' : Hp) : Prop := ∀ p o, p ∉ as → H p = some o → H' p = some o
theorem Kp.refl {as : List Addr} (H : Hp) : Kp as H H := fun _ _ _ h => h
theorem Kp.trans {as : List Addr} {H H' H2 : Hp} (a : Kp as H H') (b : Kp as H' H2) : Kp as H H2 := fun p o x h => b p o x (a p o x h)
theorem Kp.of_same {as : List Addr} {H H' : Hp} (s : Same H H') : Kp as H H' := fun p o _ h => s p o h
theorem Kp.put {as : List Addr} {H : Hp} {a : Addr} (o : HO) (ha : a ∈ as) : Kp as H (upd H a o) := fun p o' x h => by
  rw [upd_ne (fun z => x (by rw [z]; exact ha))]
  exact h
theorem Kp.new {as : List Addr} {H : Hp} {a : Addr} (o : HO) (ha : H a = none) : Kp as H (upd H a o) := Kp.of_same (same_new ha o)
theorem Kp.mono {as bs : List Addr} {H H' : Hp} (h : Kp as H H') (s : ∀ a ∈ as, a ∈ bs) : Kp bs H H' := fun p o x e => h p o (fun z => x (s p z)) e
theorem Kp.cut {as : List Addr} {H H' : Hp} (h : Kp as H H') : Same (cutL as H) (cutL as H') := fun p o x => by
  unfold cutL at x ⊢
  split at x
  · cases x
  · next n =>
    rw [if_neg n]
    exact h p o n x
theorem Kp.same {as : List Addr} {H H' H0 : Hp} (s : Same H0 (cutL as H)) (h : Kp as H H') : Same H0 (cutL as H') := s.trans h.cut
theorem cut_same {as : List Addr} {H H' : Hp} (s : Same H H') (n : ∀ a ∈ as, H a = none) : Same H (cutL as H') := fun p o e => by
  rw [cutL_get (fun z => by rw [n p z] at e; cases e)]
  exact s p o e
theorem cut_back {as : List Addr} {H H0 : Hp} (s : Same H0 (cutL as H)) : Same H0 H := s.trans cutL_ext
theorem cut_le {as bs : List Addr} {H : Hp} (s : ∀ a ∈ as, a ∈ bs) : Same (cutL bs H) (cutL as H) := fun p o e => by
  by_cases h : p ∈ bs
  · unfold cutL at e; rw [if_pos h] at e; cases e
  · rw [cutL_get h] at e
    rw [cutL_get (fun z => h (s p z))]
    exact e
theorem cut_upd {as : List Addr} {H : Hp} {a : Addr} {o : HO} (n : a ∉ as) : cutL as (upd H a o) a = some o := by rw [cutL_get n]; exact upd_same
theorem sameE {H H' : Hp} (s : Same H H') : LamX.ExtN H H' := same_ext s
/-! ### programs -/
inductive St where
  | dd (x : Str)
  | ud (x : Str)
  | cl (x : Str)
  | ch (bs : List (List St))
  | lp (b : List St)
  | rt
  | en (b c : List St)
mutual
def St.d : St → PyData
  | .dd x => .tuple [.str "do", .str x]
  | .ud x => .tuple [.str "undo", .str x]
  | .cl x => .tuple [.str "call", .str x]
  | .ch bs => .tuple [.str "choose", .tuple (dss bs)]
  | .lp b => .tuple [.str "loop", .tuple (ds b)]
  | .rt => .tuple [.str "return"]
  | .en b c => .tuple [.str "ensure", .tuple (ds b), .tuple (ds c)]
def ds : List St → List PyData
  | [] => []
  | s :: r => s.d :: ds r
def dss : List (List St) → List PyData
  | [] => []
  | b :: r => .tuple (ds b) :: dss r
end
theorem ds_map : ∀ b : List St, ds b = b.map St.d
  | [] => rfl
  | s :: r => by rw [ds, ds_map r]; rfl
theorem dss_map : ∀ b : List (List St), dss b = b.map fun b => .tuple (ds b)
  | [] => rfl
  | s :: r => by rw [dss, dss_map r]; rfl
theorem ds_len (b : List St) : (ds b).length = b.length := by rw [ds_map, List.length_map]
theorem dss_len (b : List (List St)) : (dss b).length = b.length := by rw [dss_map, List.length_map]
/-- the bodies of a statement -/
def St.bs : St → List (List St)
  | .ch bs => bs
  | .lp b => [b]
  | .en b c => [b, c]
  | _ => []
-- how many statements
mutual
def St.n : St → Nat
  | .ch bs => 1 + nss bs
  | .lp b => 1 + ns b
  | .en b c => 1 + (ns b + ns c)
  | _ => 1
def ns : List St → Nat
  | [] => 0
  | s :: r => s.n + ns r
def nss : List (List St) → Nat
  | [] => 0
  | b :: r => ns b + nss r
end
-- the longest chain
mutual
def St.k : St → Nat
  | .ch bs => 1 + kss bs
  | .lp b => 1 + ks b
  | .en b c => 1 + max (ks b) (ks c)
  | _ => 1
def ks : List St → Nat
  | [] => 0
  | s :: r => max s.k (ks r)
def kss : List (List St) → Nat
  | [] => 0
  | b :: r => max (ks b) (kss r)
end
theorem n_bs : ∀ s : St, s.n = 1 + nss s.bs
  | .dd _ | .ud _ | .cl _ | .rt | .ch _ => rfl
  | .lp b => by simp [St.n, St.bs, nss]
  | .en b c => by simp [St.n, St.bs, nss]
theorem k_bs : ∀ s : St, s.k = 1 + kss s.bs
  | .dd _ | .ud _ | .cl _ | .rt | .ch _ => rfl
  | .lp b => by simp [St.k, St.bs, kss]
  | .en b c => by simp [St.k, St.bs, kss]
theorem n_pos (s : St) : 1 ≤ s.n := by rw [n_bs]; omega
theorem len_ns : ∀ b : List St, b.length ≤ ns b
  | [] => Nat.le_refl _
  | s :: r => by
    have := len_ns r
    have := n_pos s
    rw [List.length_cons, ns]
    omega
theorem ns_mem : ∀ {b : List St} {s : St}, s ∈ b → s.n ≤ ns b
  | s :: r, _, h => by
    rw [ns]
    rcases List.mem_cons.mp h with rfl | h
    · omega
    · have := ns_mem h; omega
theorem nss_mem : ∀ {b : List (List St)} {s : List St}, s ∈ b → ns s ≤ nss b
  | s :: r, _, h => by
    rw [nss]
    rcases List.mem_cons.mp h with rfl | h
    · omega
    · have := nss_mem h; omega
theorem ks_mem : ∀ {b : List St} {s : St}, s ∈ b → s.k ≤ ks b
  | s :: r, _, h => by
    rw [ks]
    rcases List.mem_cons.mp h with rfl | h
    · omega
    · have := ks_mem h; omega
theorem kss_mem : ∀ {b : List (List St)} {s : List St}, s ∈ b → ks s ≤ kss b
  | s :: r, _, h => by
    rw [kss]
    rcases List.mem_cons.mp h with rfl | h
    · omega
    · have := kss_mem h; omega
theorem ks_pos : ∀ {b : List St}, b ≠ [] → 1 ≤ ks b
  | s :: r, _ => by rw [ks, k_bs]; omega
theorem ns_app : ∀ a b : List St, ns (a ++ b) = ns a + ns b
  | [], b => by simp [ns]
  | s :: r, b => by rw [List.cons_append, ns, ns, ns_app r b]; omega
theorem ks_app : ∀ a b : List St, ks (a ++ b) = max (ks a) (ks b)
  | [], b => by simp [ks]
  | s :: r, b => by rw [List.cons_append, ks, ks, ks_app r b]; omega
-- names that are there, choices of two to six, returns where they are let
mutual
def St.ok (L N : List Str) (sec : Bool) : St → Prop
  | .dd x => x ∈ L
  | .ud x => x ∈ L
  | .cl x => x ∈ N
  | .ch bs => 2 ≤ bs.length ∧ bs.length ≤ 6 ∧ okss L N sec bs
  | .lp b => oks L N sec b
  | .rt => sec = false
  | .en b c => oks L N sec b ∧ oks L N true c
def oks (L N : List Str) (sec : Bool) : List St → Prop
  | [] => True
  | s :: r => s.ok L N sec ∧ oks L N sec r
def okss (L N : List Str) (sec : Bool) : List (List St) → Prop
  | [] => True
  | b :: r => oks L N sec b ∧ okss L N sec r
end
theorem oks_iff {L N : List Str} {sec : Bool} : ∀ {b : List St}, oks L N sec b ↔ ∀ s ∈ b, s.ok L N sec
  | [] => by simp [oks]
  | s :: r => by rw [oks, oks_iff (b := r)]; simp
theorem okss_iff {L N : List Str} {sec : Bool} : ∀ {b : List (List St)}, okss L N sec b ↔ ∀ s ∈ b, oks L N sec s
  | [] => by simp [okss]
  | s :: r => by rw [okss, okss_iff (b := r)]; simp
-- a body that is let within a second body is let anywhere
mutual
theorem ok_weak {L N : List Str} (sec : Bool) : ∀ s : St, s.ok L N true → s.ok L N sec
  | .dd _, h | .ud _, h | .cl _, h => h
  | .ch bs, h => ⟨h.1, h.2.1, okss_weak sec bs h.2.2⟩
  | .lp b, h => oks_weak sec b h
  | .rt, h => by cases h
  | .en b c, h => ⟨oks_weak sec b h.1, h.2⟩
theorem oks_weak {L N : List Str} (sec : Bool) : ∀ b : List St, oks L N true b → oks L N sec b
  | [], _ => trivial
  | s :: r, h => ⟨ok_weak sec s h.1, oks_weak sec r h.2⟩
theorem okss_weak {L N : List Str} (sec : Bool) : ∀ b : List (List St), okss L N true b → okss L N sec b
  | [], _ => trivial
  | s :: r, h => ⟨oks_weak sec s h.1, okss_weak sec r h.2⟩
end
/-! ### the layout -/
def idx (x : Str) (L : List Str) : Int := ((L.findIdx (· == x) : Nat) : Int)
mutual
def layS (L N : List Str) (lv : List PyData → Int × List PyData) : St → Int → List PyData → Int × List PyData
  | .dd x, t, ps => ((ps.length : Nat), ps ++ [.tuple [.str "letter", .int (idx x L + 1), .int t]])
  | .ud x, t, ps => ((ps.length : Nat), ps ++ [.tuple [.str "letter", .int (-idx x L - 1), .int t]])
  | .cl x, t, ps => ((ps.length : Nat), ps ++ [.tuple [.str "call", .int (idx x N), .int t]])
  | .ch bs, t, ps => let r := layBs L N lv bs t ps; ((r.2.length : Nat), r.2 ++ [.tuple [.str "fork", .tuple (r.1.map .int)]])
  | .lp b, t, ps => let r := layB L N lv b (ps.length : Nat) (ps ++ [.none]); ((ps.length : Nat), r.2.set ps.length (.tuple [.str "fork", .tuple [.int r.1, .int t]]))
  | .rt, _, ps => lv ps
  | .en b c, t, ps => let r := layB L N (fun ps => (0, ps)) c t ps; layB L N (fun ps => let q := lv ps; layB L N (fun ps => (0, ps)) c q.1 q.2) b r.1 r.2
/-- from the last statement to the first -/
def layB (L N : List Str) (lv : List PyData → Int × List PyData) : List St → Int → List PyData → Int × List PyData
  | [], t, ps => (t, ps)
  | s :: r, t, ps => let q := layB L N lv r t ps; layS L N lv s q.1 q.2
def layBs (L N : List Str) (lv : List PyData → Int × List PyData) : List (List St) → Int → List PyData → List Int × List PyData
  | [], _, ps => ([], ps)
  | b :: r, t, ps => let q := layB L N lv b t ps; let z := layBs L N lv r t q.2; (q.1 :: z.1, z.2)
end
def lv0 : List PyData → Int × List PyData := fun ps => (0, ps)
/-- the second bodies, the outermost first -/
def leave (L N : List Str) (secs : List (List St)) (ps : List PyData) : Int × List PyData := secs.foldl (fun q c => layB L N lv0 c q.1 q.2) (0, ps)
theorem leave_nil (L N : List Str) : leave L N [] = lv0 := rfl
theorem leave_app (L N : List Str) (secs : List (List St)) (c : List St) : leave L N (secs ++ [c]) = fun ps => let q := leave L N secs ps; layB L N lv0 c q.1 q.2 := by
  funext ps
  unfold leave
  rw [List.foldl_append]
  rfl
theorem layB_app (L N : List Str) (lv : List PyData → Int × List PyData) : ∀ (a b : List St) (t : Int) (ps : List PyData), layB L N lv (a ++ b) t ps = (let q := layB L N lv b t ps; layB L N lv a q.1 q.2)
  | [], b, t, ps => rfl
  | s :: r, b, t, ps => by
    rw [List.cons_append, layB, layB_app L N lv r b t ps]
    rfl
theorem layBs_app (L N : List Str) (lv : List PyData → Int × List PyData) : ∀ (a b : List (List St)) (t : Int) (ps : List PyData), layBs L N lv (a ++ b) t ps = (let q := layBs L N lv a t ps; let z := layBs L N lv b t q.2; (q.1 ++ z.1, z.2))
  | [], b, t, ps => rfl
  | s :: r, b, t, ps => by
    rw [List.cons_append, layBs, layBs_app L N lv r b t]
    rfl
end K09


set_option Elab.async false
set_option linter.all false
set_option maxRecDepth 100000
set_option maxHeartbeats 8000000
namespace K09
open PySem PySem.Spec PyProof.Rows L2
/-! ### tables -/
def genC (sc : Scope) : Bool := decide (sc.kind = .function) && !sc.isCoroutine && sc.names.all (fun y => !decide (y.2 = .cell)) && sc.names.all (fun y => !decide (y.2 = .free)) && decide (sc.names.lookup (".0" : Str) = some NameKind.local)
theorem gensc_by {sc : Scope} (h : genC sc = true) : UG.GenSc sc := by
  unfold genC at h
  simp only [Bool.and_eq_true, Bool.not_eq_true', decide_eq_true_eq, List.all_eq_true, decide_eq_false_iff_not] at h
  obtain ⟨⟨⟨⟨h1, h2⟩, h3⟩, h4⟩, h5⟩ := h
  exact ⟨h1, h2, h3, h4, h5⟩
def Keep (T : Addr) (H H' : Hp) : Prop := LamX.ExtN H H' ∧ GxR.TabG H' T
theorem keep_tabbed {T : Addr} {H H' : Hp} (h : GxR.TabG H T) (t : GxR.Tabbed T H H') : Keep T H H' := by
  refine ⟨fun b o e n => ?_, t.1⟩
  by_cases hb : b = T
  · obtain ⟨ps, hp, _⟩ := h
    rw [hb, hp] at e
    exact absurd (Option.some.inj e).symm (n ps)
  · rw [t.2 b hb]; exact e
theorem tabG_upd {T p : Addr} {H : Hp} {o : HO} (h : GxR.TabG H T) (hp : H p = none) : GxR.TabG (upd H p o) T := by
  obtain ⟨ps, h1, h2⟩ := h
  exact ⟨ps, by rw [upd_ne (ne_of_none h1 hp)]; exact h1, h2⟩
theorem inV_str (k : Str) : ∀ zs : List Str, inV (.str k) (zs.map V.str) = zs.any fun z => decide (k = z)
  | [] => rfl
  | z :: r => by
    have ih := inV_str k r
    show (eqV (.str z) (.str k) || inV (.str k) (r.map V.str)) = _
    rw [ih, List.any_cons]
    congr 1
    show (z == k) = decide (k = z)
    by_cases h : k = z
    · subst h; simp
    · rw [decide_eq_false h]; exact beq_eq_false_iff_ne.mpr (Ne.symm h)
theorem at0 {α : Type} (x : α) (r : List α) : atI (x :: r) 0 = some x := atI_nat (j := 0) rfl
theorem at1 {α : Type} (x y : α) (r : List α) : atI (x :: y :: r) 1 = some y := atI_nat (j := 1) rfl
theorem at2 {α : Type} (x y z : α) (r : List α) : atI (x :: y :: z :: r) 2 = some z := atI_nat (j := 2) rfl
theorem dec_str (k z : Str) : decide (V.str k = V.str z) = decide (k = z) := by
  by_cases h : k = z
  · subst h; simp
  · rw [decide_eq_false h, decide_eq_false (fun y => h (V.str.inj y))]
theorem dec_int (k z : Int) : decide (V.int k = V.int z) = decide (k = z) := by
  by_cases h : k = z
  · subst h; simp
  · rw [decide_eq_false h, decide_eq_false (fun y => h (V.int.inj y))]
theorem str_of {d : PyData} (h : isiD "str" d = true) : ∃ k, d = .str k := by
  cases d with
  | str k => exact ⟨k, rfl⟩
  | _ => exact absurd (show false = true from h) Bool.false_ne_true

theorem tup_of {d : PyData} (h : isiD "tuple" d = true) : ∃ ds, d = .tuple ds := by
  cases d with
  | tuple ds => exact ⟨ds, rfl⟩
  | _ => exact absurd (show false = true from h) Bool.false_ne_true
theorem len_ok {K : PySem.W.Frag} {H : Hp} {v : V} {ds : List PyData} (h : Dp K H v (.tuple ds)) : ∃ a xs, v = .ref a ∧ SqT K H a xs ∧ DpAll K H xs ds ∧ xs.length = ds.length := by
  cases h with
  | tup hs ha => exact ⟨_, _, rfl, hs, ha, dps_len ha⟩
/-- the tables of code objects -/
def Tbs (Ts : List Addr) (H : Hp) : Prop := ∀ T ∈ Ts, GxR.TabG H T
/-- all but the tables stays -/
def Go (Ts : List Addr) (H H' : Hp) : Prop := Tbs Ts H' ∧ Kp Ts H H'
theorem Tbs.same {Ts : List Addr} {H H' : Hp} (h : Tbs Ts H) (s : Same H H') : Tbs Ts H' := fun T hT => by
  obtain ⟨ps, h1, h2⟩ := h T hT
  exact ⟨ps, s _ _ h1, h2⟩
theorem Go.refl {Ts : List Addr} {H : Hp} (h : Tbs Ts H) : Go Ts H H := ⟨h, Kp.refl H⟩
theorem Go.trans {Ts : List Addr} {H H' H2 : Hp} (a : Go Ts H H') (b : Go Ts H' H2) : Go Ts H H2 := ⟨b.1, a.2.trans b.2⟩
theorem Go.of_same {Ts : List Addr} {H H' : Hp} (h : Tbs Ts H) (s : Same H H') : Go Ts H H' := ⟨h.same s, Kp.of_same s⟩
theorem Go.of_tab {Ts : List Addr} {T : Addr} {H H' : Hp} (h : Tbs Ts H) (hT : T ∈ Ts) (t : GxR.Tabbed T H H') : Go Ts H H' := by
  refine ⟨fun T' hT' => ?_, fun p o n e => ?_⟩
  · by_cases z : T' = T
    · rw [z]; exact t.1
    · obtain ⟨ps, h1, h2⟩ := h T' hT'
      exact ⟨ps, by rw [t.2 _ z]; exact h1, h2⟩
  · rw [t.2 p (fun z => n (by rw [z]; exact hT))]
    exact e
/-- tables are no data -/
theorem ext_cut {Ts ms : List Addr} {H : Hp} (h : Tbs Ts H) (n : ∀ a ∈ ms, H a = none) : LamX.ExtN H (cutL (ms ++ Ts) H) := fun p o e no => by
  rw [cutL_get]
  · exact e
  · intro z
    rcases List.mem_append.mp z with z | z
    · rw [n p z] at e; cases e
    · obtain ⟨ps, h1, _⟩ := h p z
      rw [h1] at e
      cases e
      exact no _ rfl
theorem ext_cut0 {Ts : List Addr} {H : Hp} (h : Tbs Ts H) : LamX.ExtN H (cutL Ts H) := ext_cut (ms := []) h (fun _ z => by cases z)
theorem Go.ext {Ts : List Addr} {H H' : Hp} (h : Tbs Ts H) (g : Go Ts H H') : LamX.ExtN H H' := (ext_cut0 h).trans ((same_ext g.2.cut).trans (same_ext cutL_ext))
theorem tbs_cut {Ts ms : List Addr} {H : Hp} {p : Addr} {o : HO} (h : Tbs Ts H) (hp : H p = none) : p ∉ Ts := fun z => by
  obtain ⟨ps, h1, _⟩ := h p z
  rw [h1] at hp; cases hp
/-! ### names -/
def nameB (s : Str) : Bool := decide (1 ≤ s.length) && decide (s.length ≤ 10) && (match s.cps.toList with | [] => false | c :: _ => decide (c ∈ smallL.cps.toList)) && !(keptW.any fun z => decide (s = z)) && s.cps.toList.all fun c => decide (c ∈ wordS.cps.toList)
def nameD : PyData → Bool
  | .str s => nameB s
  | _ => false
def strD : PyData → Prop
  | .str s => s.length ≤ sizeLine
  | _ => True
theorem nd1 : (["sign"] : List Str).Nodup := by decide +kernel
section
variable {P : Program} {w : World} {K : PySem.W.Frag} {mg : Str → Option Value} {base : Heap}

def spRow (K : PySem.W.Frag) : Sp := fun vs H Q _ => ∃ v d lo hi, vs = [v, .int lo, .int hi] ∧ Dp K H v d ∧ Q (.bl (rowD d lo hi)) H
theorem sc_is_row : FnScope ["thing", "low", "high"] ["thing", "low", "high"] (C8.fnScope (topS 6)) := C8.fnScope_by (by decide +kernel)
theorem ok_is_row {f : Addr} {fd : FuncData} (F : C8.Def K mg "is_row" (topS 6) f fd) (b : Binds K fd ["thing", "low", "high"] []) (B : Bl K mg)  : C8.Cal P w K mg base 1 "is_row" (spRow K) [] := by
  refine C8.cal0 F b .nil sc_is_row ?len ?body
  case len => rintro vs H Q E ⟨v, d, lo, hi, rfl, _⟩; rfl
  case body =>
    rintro cdv A outer s H vs Q E hr ⟨v, d, lo, hi, rfl, hd, q⟩
    refine ⟨_, (pss_one (ps_ret (pe_and (pe_isD (c := "tuple") B (pv 0) rfl rfl B.tuple (by decide +kernel) (by decide)) (pe_one (pe_chain op_le op_le (pv 1) (pe_callB call_len_seq rfl B.len PySem.boot_len (pa_cons (pv 0) pa_nil)) (pv 2)))))), ?_⟩
    refine ⟨_, rfl, v, d, rfl, hd, _, rfl, ?_⟩
    cases h : isiD "tuple" d with
    | false =>
      refine iteF ?_
      have e : rowD d lo hi = false := by
        cases d with
        | tuple ds => exact absurd (show true = false from h) (by decide)
        | _ => rfl
      rw [e] at q
      exact q
    | true =>
      obtain ⟨ds, rfl⟩ := tup_of h
      obtain ⟨a, xs, rfl, hs, ha, hl⟩ := len_ok hd
      refine iteT ⟨_, rfl, _, rfl, a, xs, rfl, .inr hs, _, _, rfl, rfl, _, rfl, ?_⟩
      rw [hl]
      have q' : Q (.bl (decide (lo ≤ (ds.length : Int)) && decide ((ds.length : Int) ≤ hi))) H := q
      cases h1 : decide (lo ≤ (ds.length : Int)) with
      | true =>
        rw [h1] at q'
        exact iteT ⟨_, rfl, _, _, rfl, rfl, q'⟩
      | false =>
        rw [h1] at q'
        exact iteF q'
def spName (K : PySem.W.Frag) (Ts : List Addr) : Sp := fun vs H Q _ => ∃ v d, vs = [v] ∧ Dp K H v d ∧ strD d ∧ Tbs Ts H ∧ ∀ H', Go Ts H H' → Q (.bl (nameD d)) H'
theorem sc_is_name : FnScope ["thing"] ["thing"] (C8.fnScope (topS 12)) := C8.fnScope_by (by decide +kernel)
theorem ok_is_name {Ts : List Addr} {f c T : Addr} {oc : Value} {od an : Option Addr} {kV doc pm ct : Value} {osl : Array (Option Value)}
    (lk : K.lookup f = some ⟨oc, od, .func (PySem.W.fnOf "is_name" "is_name" (C8.fnArgs (topS 12)) (C8.fnBody (topS 12)) (C8.fnScope (topS 12)) .none kV doc pm an (.ref c) ct), osl⟩) (hcd : PySem.W.codeIn K (.ref c) "is_name" = true)
    (TB : LamX.TabB base mg c T) (hT : T ∈ Ts) (B : Bl K mg) :
    FnOk P w K mg base C8.CX0 4 f (PySem.W.fnOf "is_name" "is_name" (C8.fnArgs (topS 12)) (C8.fnBody (topS 12)) (C8.fnScope (topS 12)) .none kV doc pm an (.ref c) ct) ["thing"] (spName K Ts) := by
  obtain ⟨ka, hka, hks⟩ := B.KEPT_WORDS
  refine fn_of lk hcd sc_is_name (by rintro vs H Q E ⟨v, d, rfl, _⟩; rfl) ?_
  intro A outer s H vs Q E hr hsp
  suffices h : ∃ t, PSs (cxOf C8.CX0 P w K mg base ["thing"] "is_name" (C8.fnScope (topS 12)) f (.ref c) A outer s H E).nox (C8.fnBody (topS 12)) t ∧ t { nx := fun _ H' => Q .non H', rt := Q } (start ["thing"] vs) H by
    obtain ⟨t, h1, h2⟩ := h
    exact ⟨t, h1.nox, h2⟩
  obtain ⟨v, d, rfl, hd, hsd, hTb, q⟩ := hsp
  refine ⟨_, pss_cons (ps_if (PW.pt (pw_or (pt_not (pt_val (pe_isD (c := "str") B (pv 0) rfl rfl B.str (by decide +kernel) (by decide)))) (pw_or1 (pt_not (pt_chain op_le op_le pe_int (pe_callB call_len_str rfl B.len PySem.boot_len (pa_cons (pv 0) pa_nil)) (pe_glob (v := .int 10) rfl B.MOST_SIGNS.choose_spec ⟨_, rfl⟩)))))) (pss_one (ps_ret pe_bl)) pss_nil)
    (pss_cons (ps_if (PW.pt (pw_or (pt_cmpR op_notIn_sign (pe_ix ix_str (pv 0) pe_int (fun _ _ => rfl)) (pe_glob (v := .str smallL) rfl B.SMALL_LETTERS.choose_spec ⟨_, rfl⟩) (by with_unfolding_all rfl)) (pw_or1 (pt_cmpR op_in_seq (pv 0) (pe_glob (v := .ref ka) rfl hka rfl) (by with_unfolding_all rfl))))) (pss_one (ps_ret pe_bl)) pss_nil)
    (pss_one (ps_ret (UG.pe_allG (P := T) (N := ["sign"]) (k := 0) (g := gName 0) (hr.mono (by decide)) rfl B.all (by decide +kernel) TB rfl (gensc_by (by decide +kernel)) (pi_str (pv 0))
      (fun _ _ _ _ _ _ _ => by exact pg_name (i := 0) nd1 rfl (Or.inl rfl))
      (fun _ _ _ _ _ _ _ => by exact pe_cmpR op_in_sign (pv 0) (pe_glob (v := .str wordS) rfl B.WORD_SIGNS.choose_spec ⟨_, rfl⟩) (by with_unfolding_all rfl)))))), ?_⟩
  have qH := q H (Go.refl hTb)
  refine ⟨_, rfl, v, d, rfl, hd, _, rfl, ?_⟩
  cases hstr : isiD "str" d with
  | false =>
    refine iteT ?_
    have e : nameD d = false := by
      cases d with
      | str k => exact absurd (show true = false from hstr) (by decide)
      | _ => rfl
    rw [e] at qH
    exact qH
  | true =>
    obtain ⟨k, rfl⟩ := str_of hstr
    cases hd
    refine iteF ?_
    have eD : nameD (.str k) = nameB k := rfl
    rw [eD] at qH
    refine ⟨_, rfl, k, rfl, hsd, _, _, rfl, rfl, _, rfl, ?_⟩
    cases h1 : decide ((1 : Int) ≤ ((k.length : Nat) : Int)) with
    | false =>
      refine iteF ⟨_, rfl, ?_⟩
      refine iteT ?_
      have e : nameB k = false := by
        have : decide (1 ≤ k.length) = false := by rw [decide_eq_false_iff_not] at h1 ⊢; omega
        unfold nameB
        rw [this]
        rfl
      rw [e] at qH
      exact qH
    | true =>
      refine iteT ⟨_, _, rfl, rfl, _, rfl, ?_⟩
      have h1' := of_decide_eq_true h1
      by_cases h2 : ((k.length : Nat) : Int) ≤ 10
      · rw [decide_eq_true h2]
        refine iteF ?_
        have l1 : decide (1 ≤ k.length) = true := by rw [decide_eq_true_eq]; omega
        have l2 : decide (k.length ≤ 10) = true := by rw [decide_eq_true_eq]; omega
        cases hc : k.cps.toList with
        | nil =>
          have : k.length = 0 := by
            show k.cps.size = 0
            rw [← Array.length_toList, hc]; rfl
          omega
        | cons c r =>
          have eN : nameB k = (decide (c ∈ smallL.cps.toList) && !(keptW.any fun z => decide (k = z)) && k.cps.toList.all fun c => decide (c ∈ wordS.cps.toList)) := by
            unfold nameB
            rw [l1, l2, hc]
            rfl
          refine ⟨_, rfl, k, 0, c, rfl, rfl, hsd, by rw [hc]; exact at0 _ _, c, smallL, rfl, rfl, _, rfl, ?_⟩
          cases h3 : decide (c ∈ smallL.cps.toList) with
          | false =>
            refine iteT ?_
            rw [h3] at eN
            rw [eN] at qH
            exact qH
          | true =>
            refine iteF ?_
            refine ⟨_, rfl, ka, _, rfl, .inr (hks H), rfl, by decide +kernel, _, rfl, ?_⟩
            show if inV (.str k) (keptW.map V.str) = true then _ else _
            rw [inV_str]
            cases h4 : (keptW.any fun z => decide (k = z)) with
            | true =>
              refine iteT ?_
              rw [h3, h4] at eN
              rw [eN] at qH
              exact qH
            | false =>
              refine iteF ?_
              rw [h3, h4] at eN
              have eN' : nameB k = k.cps.toList.all fun c => decide (c ∈ wordS.cps.toList) := eN
              rw [eD, eN'] at q
              refine ⟨_, rfl, k, rfl, hTb T hT, k.cps.size, fun i H' => i ≤ k.cps.size ∧ Go Ts H H' ∧ ∀ j e, j < i → k.cps[j]? = some e → decide (e ∈ wordS.cps.toList) = true, ⟨?_⟩, ?_⟩
              · rintro i H1 ⟨hi, hk, hall⟩
                by_cases hlt : i < k.cps.size
                · refine .inr ⟨hlt, hlt, ?_⟩
                  rintro x H' ⟨rfl, e, he, rfl⟩
                  refine ⟨_, rfl, e, wordS, rfl, rfl, _, rfl, ?_⟩
                  cases hb : decide (e ∈ wordS.cps.toList) with
                  | true =>
                    refine iteT ⟨hlt, hk, fun j e' hj he' => ?_⟩
                    rcases Nat.lt_succ_iff_lt_or_eq.mp hj with h | h
                    · exact hall j e' h he'
                    · subst h
                      rw [he] at he'
                      cases he'
                      exact hb
                  | false =>
                    refine iteF ?_
                    have := q _ hk
                    rw [show (k.cps.toList.all fun c => decide (c ∈ wordS.cps.toList)) = false from by
                      rw [List.all_eq_false]
                      exact ⟨e, by rw [Array.mem_toList_iff]; exact Array.mem_of_getElem? he, by rw [hb]; decide⟩] at this
                    exact this
                · have ei : i = k.cps.size := by omega
                  refine .inl ⟨by show k.cps.size ≤ i; omega, ?_⟩
                  have := q H1 hk
                  rw [show (k.cps.toList.all fun c => decide (c ∈ wordS.cps.toList)) = true from by
                    rw [List.all_eq_true]
                    intro e he
                    obtain ⟨j, hj, ej⟩ := List.getElem_of_mem he
                    exact hall j e (by rw [ei]; simpa using hj) (by rw [← ej]; simp at hj; simp [hj])] at this
                  exact this
              · intro H2 t2
                exact ⟨Nat.zero_le _, Go.of_tab hTb hT t2, fun j e hj => absurd hj (Nat.not_lt_zero _)⟩
      · rw [decide_eq_false h2]
        refine iteT ?_
        have e : nameB k = false := by
          have : decide (k.length ≤ 10) = false := by rw [decide_eq_false_iff_not]; omega
          unfold nameB
          rw [this, Bool.and_false]
          rfl
        rw [e] at qH
        exact qH
end
end K09


set_option Elab.async false
set_option linter.all false
set_option maxRecDepth 100000
set_option maxHeartbeats 8000000
namespace K09
open PySem PySem.Spec PyProof.Rows L2
theorem ifT {c : Bool} {p q : Prop} (h : c = true) (x : p) : if c = true then p else q := by rw [if_pos h]; exact x
theorem ifF {c : Bool} {p q : Prop} (h : c = false) (x : q) : if c = true then p else q := by rw [if_neg (by rw [h]; decide)]; exact x
-- bodies of at most sixty
mutual
def St.wd : St → Prop
  | .ch bs => wdbs bs
  | .lp b => b.length ≤ 60 ∧ wdl b
  | .en b c => (b.length ≤ 60 ∧ wdl b) ∧ c.length ≤ 60 ∧ wdl c
  | _ => True
def wdl : List St → Prop
  | [] => True
  | s :: r => s.wd ∧ wdl r
def wdbs : List (List St) → Prop
  | [] => True
  | b :: r => (b.length ≤ 60 ∧ wdl b) ∧ wdbs r
end
theorem wdl_iff : ∀ {b : List St}, wdl b ↔ ∀ s ∈ b, s.wd
  | [] => by simp [wdl]
  | s :: r => by rw [wdl, wdl_iff (b := r)]; simp
theorem wdbs_iff : ∀ {b : List (List St)}, wdbs b ↔ ∀ s ∈ b, s.length ≤ 60 ∧ wdl s
  | [] => by simp [wdbs]
  | s :: r => by rw [wdbs, wdbs_iff (b := r)]; simp
theorem wd_bs : ∀ {s : St}, s.wd → wdbs s.bs
  | .dd _, _ | .ud _, _ | .cl _, _ | .rt, _ => trivial
  | .ch _, h => h
  | .lp b, h => ⟨h, trivial⟩
  | .en b c, h => ⟨h.1, h.2, trivial⟩
mutual
theorem wd_n : ∀ s : St, s.n ≤ 60 → s.wd
  | .dd _, _ | .ud _, _ | .cl _, _ | .rt, _ => trivial
  | .ch bs, h => wdbs_n bs (by rw [St.n] at h; omega)
  | .lp b, h => by
    rw [St.n] at h
    exact ⟨Nat.le_trans (len_ns b) (by omega), wdl_n b (by omega)⟩
  | .en b c, h => by
    rw [St.n] at h
    exact ⟨⟨Nat.le_trans (len_ns b) (by omega), wdl_n b (by omega)⟩, Nat.le_trans (len_ns c) (by omega), wdl_n c (by omega)⟩
theorem wdl_n : ∀ b : List St, ns b ≤ 60 → wdl b
  | [], _ => trivial
  | s :: r, h => by
    rw [ns] at h
    exact ⟨wd_n s (by omega), wdl_n r (by omega)⟩
theorem wdbs_n : ∀ b : List (List St), nss b ≤ 60 → wdbs b
  | [], _ => trivial
  | s :: r, h => by
    rw [nss] at h
    exact ⟨⟨Nat.le_trans (len_ns s) (by omega), wdl_n s (by omega)⟩, wdbs_n r (by omega)⟩
end
theorem ok_bs {L N : List Str} {sec : Bool} : ∀ {s : St}, s.ok L N sec → ∀ b ∈ s.bs, ∃ sec', oks L N sec' b
  | .dd _, _, b, hb | .ud _, _, b, hb | .cl _, _, b, hb | .rt, _, b, hb => by cases hb
  | .ch _, h, b, hb => ⟨sec, okss_iff.mp h.2.2 b hb⟩
  | .lp b, h, b', hb => by
    cases List.mem_singleton.mp hb
    exact ⟨sec, h⟩
  | .en b c, h, b', hb => by
    rcases List.mem_cons.mp hb with rfl | hb
    · exact ⟨sec, h.1⟩
    · cases List.mem_singleton.mp hb
      exact ⟨true, h.2⟩
def Nok (L : List Str) : Prop := ∀ x ∈ L, nameB x = true
theorem nameB_len {x : Str} (h : nameB x = true) : x.length ≤ 10 := by
  unfold nameB at h
  simp only [Bool.and_eq_true, decide_eq_true_eq] at h
  exact h.1.1.1.2
theorem nameB_str {x : Str} (h : nameB x = true) : x.length ≤ sizeLine := Nat.le_trans (nameB_len h) (by decide)
theorem tail1 (x y : V) : cutV [x, y] (some 1) none = [y] := rfl
theorem tail2 (x y z : V) : cutV [x, y, z] (some 1) none = [y, z] := rfl
section
variable {P : Program} {w : World} {K : PySem.W.Frag} {mg : Str → Option Value} {base : Heap}

def spBod (K : PySem.W.Frag) : Sp := fun vs H Q _ => ∃ v s, vs = [v] ∧ Dp K H v (St.d s) ∧ ∀ v' H', Same H H' → Dp K H' v' (.tuple (dss s.bs)) → Q v' H'
theorem sc_bodies_of : FnScope ["statement"] ["statement"] (C8.fnScope (topS 24)) := C8.fnScope_by (by decide +kernel)
theorem ok_bodies_of {f : Addr} {fd : FuncData} (F : C8.Def K mg "bodies_of" (topS 24) f fd) (b : Binds K fd ["statement"] []) (B : Bl K mg)  : C8.Cal P w K mg base 1 "bodies_of" (spBod K) [] := by
  refine C8.cal0 F b .nil sc_bodies_of ?len ?body
  case len => rintro vs H Q E ⟨v, s, rfl, _⟩; rfl
  case body =>
    rintro cdv A outer s H vs Q E hr ⟨v, st, rfl, hd, q⟩
    refine ⟨_, (pss_cons (ps_if (pt_cmpR op_eq (pe_ix ix_tup (pv 0) pe_int (fun _ _ => rfl)) pe_str (nomark _)) (pss_one (ps_ret (pe_ix ix_tup (pv 0) pe_int (fun _ _ => rfl)))) pss_nil)
    (pss_cons (ps_if (pt_cmpR op_in_seq (pe_ix ix_tup (pv 0) pe_int (fun _ _ => rfl)) (pe_tup (pa_cons pe_str (pa_cons pe_str pa_nil))) (by with_unfolding_all rfl)) (pss_one (ps_ret (pe_slice sl_tupA (pv 0) (po_some pe_int) po_none))) pss_nil)
    (pss_one (ps_ret (pe_tup pa_nil))))), ?_⟩
    cases st with
    | dd x =>
      obtain ⟨a, xs, rfl, hs, ha, hl⟩ := len_ok hd
      cases ha with
      | cons h0 ha =>
      cases h0
      refine ⟨_, rfl, _, _, _, _, rfl, rfl, hs, at0 _ _, rfl, _, rfl, ?_⟩
      rw [dec_str]
      refine ifF (by decide +kernel) ?_
      refine ⟨_, rfl, _, _, _, _, rfl, rfl, hs, at0 _ _, (by show 2 ≤ sizeLine; decide), fun p hp => ⟨p, _, rfl, .inr (SqT.of upd_same), rfl, rfl, _, rfl, ?_⟩⟩
      refine ifF (by decide +kernel) ?_
      refine ⟨(by show 0 ≤ sizeLine; decide), fun p2 hp2 => ?_⟩
      exact q _ _ ((same_new hp _).trans (same_new hp2 _)) (.tup (SqT.of upd_same) .nil)
    | ud x =>
      obtain ⟨a, xs, rfl, hs, ha, hl⟩ := len_ok hd
      cases ha with
      | cons h0 ha =>
      cases h0
      refine ⟨_, rfl, _, _, _, _, rfl, rfl, hs, at0 _ _, rfl, _, rfl, ?_⟩
      rw [dec_str]
      refine ifF (by decide +kernel) ?_
      refine ⟨_, rfl, _, _, _, _, rfl, rfl, hs, at0 _ _, (by show 2 ≤ sizeLine; decide), fun p hp => ⟨p, _, rfl, .inr (SqT.of upd_same), rfl, rfl, _, rfl, ?_⟩⟩
      refine ifF (by decide +kernel) ?_
      refine ⟨(by show 0 ≤ sizeLine; decide), fun p2 hp2 => ?_⟩
      exact q _ _ ((same_new hp _).trans (same_new hp2 _)) (.tup (SqT.of upd_same) .nil)
    | cl x =>
      obtain ⟨a, xs, rfl, hs, ha, hl⟩ := len_ok hd
      cases ha with
      | cons h0 ha =>
      cases h0
      refine ⟨_, rfl, _, _, _, _, rfl, rfl, hs, at0 _ _, rfl, _, rfl, ?_⟩
      rw [dec_str]
      refine ifF (by decide +kernel) ?_
      refine ⟨_, rfl, _, _, _, _, rfl, rfl, hs, at0 _ _, (by show 2 ≤ sizeLine; decide), fun p hp => ⟨p, _, rfl, .inr (SqT.of upd_same), rfl, rfl, _, rfl, ?_⟩⟩
      refine ifF (by decide +kernel) ?_
      refine ⟨(by show 0 ≤ sizeLine; decide), fun p2 hp2 => ?_⟩
      exact q _ _ ((same_new hp _).trans (same_new hp2 _)) (.tup (SqT.of upd_same) .nil)
    | rt =>
      obtain ⟨a, xs, rfl, hs, ha, hl⟩ := len_ok hd
      cases ha with
      | cons h0 ha =>
      cases h0
      refine ⟨_, rfl, _, _, _, _, rfl, rfl, hs, at0 _ _, rfl, _, rfl, ?_⟩
      rw [dec_str]
      refine ifF (by decide +kernel) ?_
      refine ⟨_, rfl, _, _, _, _, rfl, rfl, hs, at0 _ _, (by show 2 ≤ sizeLine; decide), fun p hp => ⟨p, _, rfl, .inr (SqT.of upd_same), rfl, rfl, _, rfl, ?_⟩⟩
      refine ifF (by decide +kernel) ?_
      refine ⟨(by show 0 ≤ sizeLine; decide), fun p2 hp2 => ?_⟩
      exact q _ _ ((same_new hp _).trans (same_new hp2 _)) (.tup (SqT.of upd_same) .nil)
    | ch bs =>
      obtain ⟨a, xs, rfl, hs, ha, hl⟩ := len_ok hd
      cases ha with
      | cons h0 ha =>
      cases h0
      refine ⟨_, rfl, _, _, _, _, rfl, rfl, hs, at0 _ _, rfl, _, rfl, ?_⟩
      rw [dec_str]
      refine ifT (by decide +kernel) ?_
      cases ha with
      | cons h1 ha =>
        exact ⟨_, rfl, _, _, _, _, rfl, rfl, hs, at1 _ _ _, q _ H (Same.refl H) h1⟩
    | lp b =>
      obtain ⟨a, xs, rfl, hs, ha, hl⟩ := len_ok hd
      cases ha with
      | cons h0 ha =>
      cases h0
      refine ⟨_, rfl, _, _, _, _, rfl, rfl, hs, at0 _ _, rfl, _, rfl, ?_⟩
      rw [dec_str]
      refine ifF (by decide +kernel) ?_
      refine ⟨_, rfl, _, _, _, _, rfl, rfl, hs, at0 _ _, (by show 2 ≤ sizeLine; decide), fun p hp => ⟨p, _, rfl, .inr (SqT.of upd_same), rfl, rfl, _, rfl, ?_⟩⟩
      refine ifT (by decide +kernel) ?_
      cases ha with
      | @cons v1 _ _ _ h1 ha =>
        cases ha
        have hs' := sqt_ext (same_ext (same_new hp (.tup [.str "loop", .str "ensure"]))) hs
        refine ⟨_, rfl, 1, rfl, _, _, rfl, hs', fun w => ?_, fun _ r hr2 => ?_⟩
        · exact absurd w.1 (by show ¬ (HT.sIx 2 0 (some 1) = 0); decide)
        · have s2 := (same_new hp (.tup [.str "loop", .str "ensure"])).trans (same_new hr2 (.tup [v1]))
          exact q _ _ s2 (.tup (SqT.of upd_same) (.cons (dp_ext (same_ext s2) _ h1) .nil))
    | en b c =>
      obtain ⟨a, xs, rfl, hs, ha, hl⟩ := len_ok hd
      cases ha with
      | cons h0 ha =>
      cases h0
      refine ⟨_, rfl, _, _, _, _, rfl, rfl, hs, at0 _ _, rfl, _, rfl, ?_⟩
      rw [dec_str]
      refine ifF (by decide +kernel) ?_
      refine ⟨_, rfl, _, _, _, _, rfl, rfl, hs, at0 _ _, (by show 2 ≤ sizeLine; decide), fun p hp => ⟨p, _, rfl, .inr (SqT.of upd_same), rfl, rfl, _, rfl, ?_⟩⟩
      refine ifT (by decide +kernel) ?_
      cases ha with
      | @cons v1 _ _ _ h1 ha =>
        cases ha with
        | @cons v2 _ _ _ h2 ha =>
        cases ha
        have hs' := sqt_ext (same_ext (same_new hp (.tup [.str "loop", .str "ensure"]))) hs
        refine ⟨_, rfl, 1, rfl, _, _, rfl, hs', fun w => ?_, fun _ r hr2 => ?_⟩
        · exact absurd w.1 (by show ¬ (HT.sIx 3 0 (some 1) = 0); decide)
        · have s2 := (same_new hp (.tup [.str "loop", .str "ensure"])).trans (same_new hr2 (.tup [v1, v2]))
          exact q _ _ s2 (.tup (SqT.of upd_same) (.cons (dp_ext (same_ext s2) _ h1) (.cons (dp_ext (same_ext s2) _ h2) .nil)))

def spStm (K : PySem.W.Frag) (Ts : List Addr) : Sp := fun vs H Q _ => ∃ v s L N sec, vs = [v] ∧ Dp K H v (St.d s) ∧ s.ok L N sec ∧ Nok L ∧ Nok N ∧ Tbs Ts H ∧ ∀ H', Go Ts H H' → Q (.bl true) H'
theorem sc__is_statement : FnScope ["thing", "word"] ["thing"] (C8.fnScope (topS 23)) := C8.fnScope_by (by decide +kernel)
theorem ok__is_statement {Ts : List Addr} {f : Addr} {fd : FuncData} (F : C8.Def K mg "_is_statement" (topS 23) f fd) (b : Binds K fd ["thing"] []) (B : Bl K mg) (c_is_row : C8.Cal P w K mg base 1 "is_row" (spRow K) []) (c_is_name : C8.Cal P w K mg base 4 "is_name" (spName K Ts) []) : C8.Cal P w K mg base 5 "_is_statement" (spStm K Ts) [] := by
  refine C8.cal0 F b .nil sc__is_statement ?len ?body
  case len => rintro vs H Q E ⟨v, s, L, N, sec, rfl, _⟩; rfl
  case body =>
    rintro cdv A outer s H vs Q E hr ⟨v, st, L, N, sec, rfl, hd, hok, hL, hN, hTb, q⟩
    refine ⟨_, (pss_cons (ps_if (PW.pt (pw_or (pt_not (pt_val (C8.pe_c c_is_row hr (by decide) rfl (pa_cons (pv 0) (pa_cons pe_int (pa_cons pe_int pa_nil)))))) (pw_or1 (pt_not (pt_val (pe_isD (c := "str") B (pe_ix ix_tup (pv 0) pe_int (fun _ _ => rfl)) rfl rfl B.str (by decide +kernel) (by decide))))))) (pss_one (ps_ret pe_bl)) pss_nil)
    (pss_cons (ps_set (i := 1) sc__is_statement.nd rfl (Or.inl rfl) (pe_ix ix_tup (pv 0) pe_int (fun _ _ => rfl)))
    (pss_cons (ps_if (pt_cmpR op_in_seq (pv 1) (pe_tup (pa_cons pe_str (pa_cons pe_str (pa_cons pe_str pa_nil)))) (by with_unfolding_all rfl)) (pss_one (ps_ret (pe_and (pe_cmpR op_eq (pe_callB call_len_seq rfl B.len PySem.boot_len (pa_cons (pv 0) pa_nil)) pe_int (nomark _)) (pe_one (C8.pe_c c_is_name hr (by decide) rfl (pa_cons (pe_ix ix_tup (pv 0) pe_int (fun _ _ => rfl)) pa_nil)))))) pss_nil)
    (pss_cons (ps_if (pt_cmpR op_eq (pv 1) pe_str (nomark _)) (pss_one (ps_ret (pe_and (pe_cmpR op_eq (pe_callB call_len_seq rfl B.len PySem.boot_len (pa_cons (pv 0) pa_nil)) pe_int (nomark _)) (pe_one (C8.pe_c c_is_row hr (by decide) rfl (pa_cons (pe_ix ix_tup (pv 0) pe_int (fun _ _ => rfl)) (pa_cons (pe_glob (v := .int 2) rfl B.LEAST_BODIES.choose_spec ⟨_, rfl⟩) (pa_cons (pe_glob (v := .int 6) rfl B.MOST_BODIES.choose_spec ⟨_, rfl⟩) pa_nil)))))))) pss_nil)
    (pss_cons (ps_if (pt_cmpR op_eq (pv 1) pe_str (nomark _)) (pss_one (ps_ret (pe_cmpR op_eq (pe_callB call_len_seq rfl B.len PySem.boot_len (pa_cons (pv 0) pa_nil)) pe_int (nomark _)))) pss_nil)
    (pss_cons (ps_if (pt_cmpR op_eq (pv 1) pe_str (nomark _)) (pss_one (ps_ret (pe_cmpR op_eq (pe_callB call_len_seq rfl B.len PySem.boot_len (pa_cons (pv 0) pa_nil)) pe_int (nomark _)))) pss_nil)
    (pss_one (ps_ret (pe_and (pe_cmpR op_eq (pv 1) pe_str (nomark _)) (pe_one (pe_cmpR op_eq (pe_callB call_len_seq rfl B.len PySem.boot_len (pa_cons (pv 0) pa_nil)) pe_int (nomark _)))))))))))), ?_⟩
    cases st with
    | dd x =>
      have hd0 := hd
      obtain ⟨a, xs, rfl, hs, ha, hl⟩ := len_ok hd
      cases ha with
      | cons h0 ha =>
      cases h0
      refine ⟨_, rfl, _, _, 1, 3, rfl, hd0, _, rfl, ?_⟩
      refine iteF ?_
      refine ⟨_, rfl, _, _, _, _, rfl, rfl, hs, at0 _ _, _, _, rfl, .str _, _, rfl, ?_⟩
      refine iteF ?_
      refine ⟨_, rfl, _, _, _, _, rfl, rfl, hs, at0 _ _, ?_⟩
      refine ⟨_, rfl, (by show 3 ≤ sizeLine; decide), fun p hp => ⟨p, _, rfl, .inr (SqT.of upd_same), rfl, rfl, _, rfl, ?_⟩⟩
      have sN := same_new hp (.tup [.str "do", .str "undo", .str "call"])
      have hs' := sqt_ext (same_ext sN) hs
      have gN := Go.of_same hTb sN
      refine ifT (by decide +kernel) ?_
      cases ha with
      | cons h1 ha =>
      cases h1
      cases ha
      have hx : nameB x = true := hL x hok
      refine ⟨_, rfl, a, _, rfl, .inr hs', rfl, _, rfl, ?_⟩
      rw [dec_int]
      refine iteT ?_
      refine ⟨_, rfl, _, _, _, _, rfl, rfl, hs', at1 _ _ _, _, .str x, rfl, .str x, nameB_str hx, gN.1, fun H2 g2 => ?_⟩
      rw [show nameD (.str x) = true from hx]
      exact q _ (gN.trans g2)
    | ud x =>
      have hd0 := hd
      obtain ⟨a, xs, rfl, hs, ha, hl⟩ := len_ok hd
      cases ha with
      | cons h0 ha =>
      cases h0
      refine ⟨_, rfl, _, _, 1, 3, rfl, hd0, _, rfl, ?_⟩
      refine iteF ?_
      refine ⟨_, rfl, _, _, _, _, rfl, rfl, hs, at0 _ _, _, _, rfl, .str _, _, rfl, ?_⟩
      refine iteF ?_
      refine ⟨_, rfl, _, _, _, _, rfl, rfl, hs, at0 _ _, ?_⟩
      refine ⟨_, rfl, (by show 3 ≤ sizeLine; decide), fun p hp => ⟨p, _, rfl, .inr (SqT.of upd_same), rfl, rfl, _, rfl, ?_⟩⟩
      have sN := same_new hp (.tup [.str "do", .str "undo", .str "call"])
      have hs' := sqt_ext (same_ext sN) hs
      have gN := Go.of_same hTb sN
      refine ifT (by decide +kernel) ?_
      cases ha with
      | cons h1 ha =>
      cases h1
      cases ha
      have hx : nameB x = true := hL x hok
      refine ⟨_, rfl, a, _, rfl, .inr hs', rfl, _, rfl, ?_⟩
      rw [dec_int]
      refine iteT ?_
      refine ⟨_, rfl, _, _, _, _, rfl, rfl, hs', at1 _ _ _, _, .str x, rfl, .str x, nameB_str hx, gN.1, fun H2 g2 => ?_⟩
      rw [show nameD (.str x) = true from hx]
      exact q _ (gN.trans g2)
    | cl x =>
      have hd0 := hd
      obtain ⟨a, xs, rfl, hs, ha, hl⟩ := len_ok hd
      cases ha with
      | cons h0 ha =>
      cases h0
      refine ⟨_, rfl, _, _, 1, 3, rfl, hd0, _, rfl, ?_⟩
      refine iteF ?_
      refine ⟨_, rfl, _, _, _, _, rfl, rfl, hs, at0 _ _, _, _, rfl, .str _, _, rfl, ?_⟩
      refine iteF ?_
      refine ⟨_, rfl, _, _, _, _, rfl, rfl, hs, at0 _ _, ?_⟩
      refine ⟨_, rfl, (by show 3 ≤ sizeLine; decide), fun p hp => ⟨p, _, rfl, .inr (SqT.of upd_same), rfl, rfl, _, rfl, ?_⟩⟩
      have sN := same_new hp (.tup [.str "do", .str "undo", .str "call"])
      have hs' := sqt_ext (same_ext sN) hs
      have gN := Go.of_same hTb sN
      refine ifT (by decide +kernel) ?_
      cases ha with
      | cons h1 ha =>
      cases h1
      cases ha
      have hx : nameB x = true := hN x hok
      refine ⟨_, rfl, a, _, rfl, .inr hs', rfl, _, rfl, ?_⟩
      rw [dec_int]
      refine iteT ?_
      refine ⟨_, rfl, _, _, _, _, rfl, rfl, hs', at1 _ _ _, _, .str x, rfl, .str x, nameB_str hx, gN.1, fun H2 g2 => ?_⟩
      rw [show nameD (.str x) = true from hx]
      exact q _ (gN.trans g2)
    | rt =>
      have hd0 := hd
      obtain ⟨a, xs, rfl, hs, ha, hl⟩ := len_ok hd
      cases ha with
      | cons h0 ha =>
      cases h0
      refine ⟨_, rfl, _, _, 1, 3, rfl, hd0, _, rfl, ?_⟩
      refine iteF ?_
      refine ⟨_, rfl, _, _, _, _, rfl, rfl, hs, at0 _ _, _, _, rfl, .str _, _, rfl, ?_⟩
      refine iteF ?_
      refine ⟨_, rfl, _, _, _, _, rfl, rfl, hs, at0 _ _, ?_⟩
      refine ⟨_, rfl, (by show 3 ≤ sizeLine; decide), fun p hp => ⟨p, _, rfl, .inr (SqT.of upd_same), rfl, rfl, _, rfl, ?_⟩⟩
      have sN := same_new hp (.tup [.str "do", .str "undo", .str "call"])
      have hs' := sqt_ext (same_ext sN) hs
      have gN := Go.of_same hTb sN
      refine ifF (by decide +kernel) ?_
      refine ⟨_, rfl, rfl, _, rfl, ?_⟩
      rw [dec_str]
      refine ifF (by decide +kernel) ?_
      refine ⟨_, rfl, rfl, _, rfl, ?_⟩
      rw [dec_str]
      refine ifF (by decide +kernel) ?_
      refine ⟨_, rfl, rfl, _, rfl, ?_⟩
      rw [dec_str]
      refine ifF (by decide +kernel) ?_
      refine ⟨_, rfl, rfl, _, rfl, ?_⟩
      rw [dec_str]
      refine ifT (by decide +kernel) ?_
      refine ⟨_, rfl, a, _, rfl, .inr hs', rfl, ?_⟩
      rw [dec_int, hl]
      exact q _ gN
    | ch bs =>
      have hd0 := hd
      obtain ⟨a, xs, rfl, hs, ha, hl⟩ := len_ok hd
      cases ha with
      | cons h0 ha =>
      cases h0
      refine ⟨_, rfl, _, _, 1, 3, rfl, hd0, _, rfl, ?_⟩
      refine iteF ?_
      refine ⟨_, rfl, _, _, _, _, rfl, rfl, hs, at0 _ _, _, _, rfl, .str _, _, rfl, ?_⟩
      refine iteF ?_
      refine ⟨_, rfl, _, _, _, _, rfl, rfl, hs, at0 _ _, ?_⟩
      refine ⟨_, rfl, (by show 3 ≤ sizeLine; decide), fun p hp => ⟨p, _, rfl, .inr (SqT.of upd_same), rfl, rfl, _, rfl, ?_⟩⟩
      have sN := same_new hp (.tup [.str "do", .str "undo", .str "call"])
      have hs' := sqt_ext (same_ext sN) hs
      have gN := Go.of_same hTb sN
      refine ifF (by decide +kernel) ?_
      refine ⟨_, rfl, rfl, _, rfl, ?_⟩
      rw [dec_str]
      refine ifT (by decide +kernel) ?_
      cases ha with
      | cons h1 ha =>
      cases ha
      refine ⟨_, rfl, a, _, rfl, .inr hs', rfl, _, rfl, ?_⟩
      rw [dec_int]
      refine iteT ?_
      refine ⟨_, rfl, _, _, _, _, rfl, rfl, hs', at1 _ _ _, _, _, 2, 6, rfl, dp_ext (same_ext sN) _ h1, ?_⟩
      have hb := hok.1
      have hb2 := hok.2.1
      rw [show rowD (.tuple (dss bs)) 2 6 = true by
        show (decide ((2 : Int) ≤ ((dss bs).length : Int)) && decide (((dss bs).length : Int) ≤ 6)) = true
        rw [dss_len, Bool.and_eq_true, decide_eq_true_eq, decide_eq_true_eq]
        omega]
      exact q _ gN
    | lp b =>
      have hd0 := hd
      obtain ⟨a, xs, rfl, hs, ha, hl⟩ := len_ok hd
      cases ha with
      | cons h0 ha =>
      cases h0
      refine ⟨_, rfl, _, _, 1, 3, rfl, hd0, _, rfl, ?_⟩
      refine iteF ?_
      refine ⟨_, rfl, _, _, _, _, rfl, rfl, hs, at0 _ _, _, _, rfl, .str _, _, rfl, ?_⟩
      refine iteF ?_
      refine ⟨_, rfl, _, _, _, _, rfl, rfl, hs, at0 _ _, ?_⟩
      refine ⟨_, rfl, (by show 3 ≤ sizeLine; decide), fun p hp => ⟨p, _, rfl, .inr (SqT.of upd_same), rfl, rfl, _, rfl, ?_⟩⟩
      have sN := same_new hp (.tup [.str "do", .str "undo", .str "call"])
      have hs' := sqt_ext (same_ext sN) hs
      have gN := Go.of_same hTb sN
      refine ifF (by decide +kernel) ?_
      refine ⟨_, rfl, rfl, _, rfl, ?_⟩
      rw [dec_str]
      refine ifF (by decide +kernel) ?_
      refine ⟨_, rfl, rfl, _, rfl, ?_⟩
      rw [dec_str]
      refine ifT (by decide +kernel) ?_
      refine ⟨_, rfl, a, _, rfl, .inr hs', rfl, ?_⟩
      rw [dec_int, hl]
      exact q _ gN
    | en b c =>
      have hd0 := hd
      obtain ⟨a, xs, rfl, hs, ha, hl⟩ := len_ok hd
      cases ha with
      | cons h0 ha =>
      cases h0
      refine ⟨_, rfl, _, _, 1, 3, rfl, hd0, _, rfl, ?_⟩
      refine iteF ?_
      refine ⟨_, rfl, _, _, _, _, rfl, rfl, hs, at0 _ _, _, _, rfl, .str _, _, rfl, ?_⟩
      refine iteF ?_
      refine ⟨_, rfl, _, _, _, _, rfl, rfl, hs, at0 _ _, ?_⟩
      refine ⟨_, rfl, (by show 3 ≤ sizeLine; decide), fun p hp => ⟨p, _, rfl, .inr (SqT.of upd_same), rfl, rfl, _, rfl, ?_⟩⟩
      have sN := same_new hp (.tup [.str "do", .str "undo", .str "call"])
      have hs' := sqt_ext (same_ext sN) hs
      have gN := Go.of_same hTb sN
      refine ifF (by decide +kernel) ?_
      refine ⟨_, rfl, rfl, _, rfl, ?_⟩
      rw [dec_str]
      refine ifF (by decide +kernel) ?_
      refine ⟨_, rfl, rfl, _, rfl, ?_⟩
      rw [dec_str]
      refine ifF (by decide +kernel) ?_
      refine ⟨_, rfl, rfl, _, rfl, ?_⟩
      rw [dec_str]
      refine ifT (by decide +kernel) ?_
      refine ⟨_, rfl, a, _, rfl, .inr hs', rfl, ?_⟩
      rw [dec_int, hl]
      exact q _ gN
end
end K09


set_option Elab.async false
set_option linter.all false
set_option maxRecDepth 100000
set_option maxHeartbeats 8000000
namespace K09
open PySem PySem.Spec PyProof.Rows L2
/-! ### what stands in tuples stays -/
def Tk (H H' : Hp) : Prop := ∀ p xs, (H p = some (.tup xs) → H' p = some (.tup xs)) ∧ ∀ o, H p = some (.frz o (.tup xs)) → H' p = some (.frz o (.tup xs))
theorem Tk.refl (H : Hp) : Tk H H := fun _ _ => ⟨id, fun _ => id⟩
theorem Tk.trans {H H1 H2 : Hp} (a : Tk H H1) (b : Tk H1 H2) : Tk H H2 := fun p xs => ⟨fun h => (b p xs).1 ((a p xs).1 h), fun o h => (b p xs).2 o ((a p xs).2 o h)⟩
theorem Tk.same {H H' : Hp} (s : Same H H') : Tk H H' := fun p xs => ⟨fun h => s _ _ h, fun o h => s _ _ h⟩
theorem Tk.new {H : Hp} {a : Addr} (h : H a = none) (o : HO) : Tk H (upd H a o) := Tk.same (same_new h o)
theorem Tk.put {H : Hp} {a : Addr} {xs : List V} (h : H a = some (.lst xs)) (o : HO) : Tk H (upd H a o) := fun p ys => by
  constructor
  · intro e
    rw [upd_ne (fun z => by rw [z, h] at e; cases e)]
    exact e
  · intro u e
    rw [upd_ne (fun z => by rw [z, h] at e; cases e)]
    exact e
theorem Tk.putI {H : Hp} {a C dx : Addr} {fs : List (Str × V)} (h : H a = some (.ins C dx fs)) (o : HO) : Tk H (upd H a o) := fun p ys => by
  constructor
  · intro e
    rw [upd_ne (fun z => by rw [z, h] at e; cases e)]
    exact e
  · intro u e
    rw [upd_ne (fun z => by rw [z, h] at e; cases e)]
    exact e
theorem Tk.go {Ts : List Addr} {H H' : Hp} (t : Tbs Ts H) (g : Go Ts H H') : Tk H H' := fun p xs => by
  have n : ∀ o, H p = some o → (∀ ps, o ≠ .tbl ps) → p ∉ Ts := fun o e no z => by
    obtain ⟨ps, h1, _⟩ := t p z
    rw [h1] at e
    cases e
    exact no _ rfl
  exact ⟨fun e => g.2 _ _ (n _ e (fun ps z => by cases z)) e, fun o e => g.2 _ _ (n _ e (fun ps z => by cases z)) e⟩
-- data of tuples alone
mutual
def TupD : PyData → Prop
  | .list _ => False
  | .dict _ => False
  | .tuple xs => TupDs xs
  | _ => True
def TupDs : List PyData → Prop
  | [] => True
  | d :: r => TupD d ∧ TupDs r
end
theorem tupds_iff : ∀ {b : List PyData}, TupDs b ↔ ∀ s ∈ b, TupD s
  | [] => by simp [TupDs]
  | s :: r => by rw [TupDs, tupds_iff (b := r)]; simp
theorem Tk.sqt {K : PySem.W.Frag} {H H' : Hp} {a : Addr} {xs : List V} (t : Tk H H') (h : SqT K H a xs) : SqT K H' a xs := by
  rcases h with (h | ⟨o, h⟩) | h
  · exact .inl (.inl ((t _ _).1 h))
  · exact .inl (.inr ⟨o, (t _ _).2 o h⟩)
  · exact .inr h
mutual
theorem Tk.dp {K : PySem.W.Frag} {H H' : Hp} (t : Tk H H') : ∀ (d : PyData) {v : V}, TupD d → Dp K H v d → Dp K H' v d
  | .none, _, _, h => by cases h; exact .non
  | .bool _, _, _, h => by cases h; exact .bl _
  | .int _, _, _, h => by cases h; exact .int _
  | .str _, _, _, h => by cases h; exact .str _
  | .list _, _, n, _ => n.elim
  | .tuple ds, _, n, h => by
    cases h with
    | tup hs ha => exact .tup (t.sqt hs) (Tk.dps t ds n ha)
  | .dict _, _, n, _ => n.elim
theorem Tk.dps {K : PySem.W.Frag} {H H' : Hp} (t : Tk H H') : ∀ (ds : List PyData) {vs : List V}, TupDs ds → DpAll K H vs ds → DpAll K H' vs ds
  | [], _, _, h => by cases h; exact .nil
  | d :: ds, _, n, h => by
    cases h with
    | cons h1 h2 => exact .cons (Tk.dp t d n.1 h1) (Tk.dps t ds n.2 h2)
end
mutual
theorem tup_St : ∀ s : St, TupD s.d
  | .dd _ | .ud _ | .cl _ => ⟨trivial, trivial, trivial⟩
  | .ch bs => ⟨trivial, tup_dss bs, trivial⟩
  | .lp b => ⟨trivial, tup_ds b, trivial⟩
  | .rt => ⟨trivial, trivial⟩
  | .en b c => ⟨trivial, tup_ds b, tup_ds c, trivial⟩
theorem tup_ds : ∀ b : List St, TupDs (ds b)
  | [] => trivial
  | s :: r => ⟨tup_St s, tup_ds r⟩
theorem tup_dss : ∀ b : List (List St), TupDs (dss b)
  | [] => trivial
  | b :: r => ⟨tup_ds b, tup_dss r⟩
end
end K09


set_option Elab.async false
set_option linter.all false
set_option maxRecDepth 100000
set_option maxHeartbeats 8000000
namespace K09
open PySem PySem.Spec PyProof.Rows L2
-- how many bodies
mutual
def St.m : St → Nat
  | .ch bs => mss bs
  | .lp b => 1 + ms b
  | .en b c => (1 + ms b) + (1 + ms c)
  | _ => 0
def ms : List St → Nat
  | [] => 0
  | s :: r => s.m + ms r
def mss : List (List St) → Nat
  | [] => 0
  | b :: r => (1 + ms b) + mss r
end
theorem m_bs : ∀ s : St, s.m = mss s.bs
  | .dd _ | .ud _ | .cl _ | .rt | .ch _ => rfl
  | .lp b => by simp [St.m, St.bs, mss]
  | .en b c => by simp [St.m, St.bs, mss]
theorem mss_app : ∀ a b : List (List St), mss (a ++ b) = mss a + mss b
  | [], b => by simp [mss]
  | s :: r, b => by rw [List.cons_append, mss, mss, mss_app r b]; omega
theorem nss_app : ∀ a b : List (List St), nss (a ++ b) = nss a + nss b
  | [], b => by simp [nss]
  | s :: r, b => by rw [List.cons_append, nss, nss, nss_app r b]; omega
theorem len_mss : ∀ b : List (List St), b.length ≤ mss b
  | [] => Nat.le_refl _
  | s :: r => by
    have := len_mss r
    rw [List.length_cons, mss]
    omega
theorem mss_flat : ∀ b : List St, mss (b.flatMap St.bs) = ms b
  | [] => rfl
  | s :: r => by rw [List.flatMap_cons, mss_app, mss_flat r, ms, m_bs]
theorem mss_take : ∀ (l : List (List St)) (j : Nat), mss (l.take j) ≤ mss l
  | [], j => by simp
  | b :: r, 0 => by simp [mss]
  | b :: r, j + 1 => by
    have := mss_take r j
    rw [List.take_succ_cons, mss, mss]
    omega
theorem ms_take : ∀ {b : List St} {i : Nat} {s : St}, b[i]? = some s → ms (b.take i) + s.m ≤ ms b
  | [], i, s, h => by simp at h
  | x :: r, 0, s, h => by
    simp at h
    subst h
    simp [ms]
  | x :: r, i + 1, s, h => by
    have := ms_take (b := r) (i := i) (s := s) (by simpa using h)
    rw [List.take_succ_cons, ms, ms]
    omega
theorem nss_flat : ∀ b : List St, nss (b.flatMap St.bs) + b.length = ns b
  | [] => rfl
  | s :: r => by
    have := nss_flat r
    rw [List.flatMap_cons, nss_app, ns, n_bs, List.length_cons]
    omega
/-- the stack of bodies and their depths -/
inductive Stk (K : PySem.W.Frag) (H : Hp) : List V → List (List St × Nat) → Prop
  | nil : Stk K H [] []
  | snoc {vs : List V} {st : List (List St × Nat)} {p : Addr} {x : V} {b : List St} {d : Nat} : Stk K H vs st → SqT K H p [x, .int (d : Int)] → Dp K H x (.tuple (ds b)) → Stk K H (vs ++ [.ref p]) (st ++ [(b, d)])
theorem Stk.tk {K : PySem.W.Frag} {H H' : Hp} (e : Tk H H') {vs : List V} {st : List (List St × Nat)} (h : Stk K H vs st) : Stk K H' vs st := by
  induction h with
  | nil => exact .nil
  | snoc _ hp hx ih => exact .snoc ih (e.sqt hp) (e.dp _ (tup_ds _) hx)
theorem Stk.len {K : PySem.W.Frag} {H : Hp} {vs : List V} {st : List (List St × Nat)} (h : Stk K H vs st) : vs.length = st.length := by
  induction h with
  | nil => rfl
  | snoc _ _ _ ih => simp [ih]
def push (d : Nat) (bs : List (List St)) : List (List St × Nat) := bs.map fun b => (b, d)
theorem push_fst (d : Nat) (bs : List (List St)) : (push d bs).map Prod.fst = bs := by
  unfold push
  rw [List.map_map]
  exact List.map_id' bs
theorem push_app (d : Nat) (a b : List (List St)) : push d (a ++ b) = push d a ++ push d b := by
  unfold push
  rw [List.map_append]
theorem push_mem {d : Nat} {bs : List (List St)} {e : List St × Nat} (h : e ∈ push d bs) : e.1 ∈ bs ∧ e.2 = d := by
  unfold push at h
  obtain ⟨b, hb, rfl⟩ := List.mem_map.mp h
  exact ⟨hb, rfl⟩
theorem ext_kp {Ts ms : List Addr} {H H' : Hp} (h : Tbs Ts H) (n : ∀ a ∈ ms, H a = none) (k : Kp (ms ++ Ts) H H') : LamX.ExtN H H' := (ext_cut h n).trans ((same_ext k.cut).trans (same_ext cutL_ext))
theorem go_of {Ts ms : List Addr} {H H' : Hp} (n : ∀ a ∈ ms, H a = none) (t : Tbs Ts H') (k : Kp (ms ++ Ts) H H') : Go Ts H H' := ⟨t, fun p o hp e => k p o (fun z => by
  rcases List.mem_append.mp z with z | z
  · rw [n p z] at e; cases e
  · exact hp z) e⟩
theorem kp_go {Ts ms : List Addr} {H H' : Hp} (g : Go Ts H H') : Kp (ms ++ Ts) H H' := g.2.mono fun _ h => List.mem_append_right _ h
theorem tbs_upd {Ts : List Addr} {H : Hp} {a : Addr} {o o' : HO} (h : Tbs Ts H) (e : H a = some o) (n : ∀ ps, o ≠ .tbl ps) : Tbs Ts (upd H a o') := fun T hT => by
  obtain ⟨ps, h1, h2⟩ := h T hT
  refine ⟨ps, ?_, h2⟩
  rw [upd_ne (fun z => by rw [z, e] at h1; cases h1; exact n _ rfl)]
  exact h1
theorem tbs_new {Ts : List Addr} {H : Hp} {a : Addr} {o' : HO} (h : Tbs Ts H) (e : H a = none) : Tbs Ts (upd H a o') := h.same (same_new e _)
def Gd (L N : List Str) (e : List St × Nat) : Prop := ks e.1 + e.2 ≤ 13 ∧ (e.1.length ≤ 60 ∧ wdl e.1) ∧ ∃ sec, oks L N sec e.1
/-- the state of the walk -/
def AbI (K : PySem.W.Frag) (Ts : List Addr) (H0 : Hp) (Wd : Addr) (st : List (List St × Nat)) (H' : Hp) : Prop :=
  Tbs Ts H' ∧ Kp ([Wd] ++ Ts) H0 H' ∧ Tk H0 H' ∧ ∃ vs, H' Wd = some (.lst vs) ∧ Stk K H' vs st
theorem AbI.kp {K : PySem.W.Frag} {Ts : List Addr} {H0 H' H2 : Hp} {Wd : Addr} {st : List (List St × Nat)} (a : AbI K Ts H0 Wd st H') (nW : Wd ∉ Ts) (g : Go Ts H' H2) : AbI K Ts H0 Wd st H2 := by
  obtain ⟨t, k, tk, vs, h1, h2⟩ := a
  have t2 := Tk.go t g
  exact ⟨g.1, k.trans (kp_go g), tk.trans t2, vs, g.2 _ _ nW h1, h2.tk t2⟩
/-- one more on the stack -/
theorem AbI.push1 {K : PySem.W.Frag} {Ts : List Addr} {H0 H' : Hp} {Wd p : Addr} {st : List (List St × Nat)} {x : V} {b : List St} {d : Nat} {vs : List V} (a : AbI K Ts H0 Wd st H') (hp : H' p = none)
    (hv : (upd H' p (.tup [x, .int (d : Int)])) Wd = some (.lst vs)) (hx : Dp K H' x (.tuple (ds b))) : AbI K Ts H0 Wd (st ++ [(b, d)]) (upd (upd H' p (.tup [x, .int (d : Int)])) Wd (.lst (vs ++ [.ref p]))) := by
  obtain ⟨t, k, tk, vs', h1, h2⟩ := a
  have np : p ≠ Wd := fun z => by rw [← z, hp] at h1; cases h1
  have s1 := same_new hp (.tup [x, .int (d : Int)])
  have t1 : Tbs Ts (upd H' p (.tup [x, .int (d : Int)])) := t.same s1
  have hv' := hv
  rw [upd_ne (Ne.symm np), h1] at hv
  cases hv
  have t2 : Tk H' (upd (upd H' p (.tup [x, .int (d : Int)])) Wd (.lst (vs ++ [.ref p]))) := (Tk.same s1).trans (Tk.put hv' _)
  refine ⟨?_, k.trans ((Kp.of_same s1).trans (Kp.put _ (by simp))), tk.trans t2, _, upd_same, ?_⟩
  · exact tbs_upd t1 hv' (fun ps z => by cases z)
  · refine .snoc (h2.tk t2) (SqT.of ?_) (t2.dp _ (tup_ds b) hx)
    rw [upd_ne np]
    exact upd_same
section
variable {P : Program} {w : World} {K : PySem.W.Frag} {mg : Str → Option Value} {base : Heap}

def spAB (K : PySem.W.Frag) (Ts : List Addr) : Sp := fun vs H Q _ => ∃ a xs bl L N, vs = [.ref a] ∧ SqL K H a xs ∧ DpAll K H xs (dss bl) ∧ nss bl ≤ 200 ∧ mss bl ≤ 10000 ∧ kss bl ≤ 12 ∧ wdbs bl ∧ (∀ b ∈ bl, ∃ sec, oks L N sec b) ∧ Nok L ∧ Nok N ∧ Tbs Ts H ∧ ∀ H', Go Ts H H' → Q (.bl true) H'
theorem sc__are_bodies : FnScope ["bodies", "count", "waiting", "body", "depth", "statement", "inner"] ["bodies"] (C8.fnScope (topS 22)) := C8.fnScope_by (by decide +kernel)
theorem ok__are_bodies {Ts : List Addr} {f : Addr} {fd : FuncData} (F : C8.Def K mg "_are_bodies" (topS 22) f fd) (b : Binds K fd ["bodies"] []) (B : Bl K mg) (c_is_row : C8.Cal P w K mg base 1 "is_row" (spRow K) []) (c__is_statement : C8.Cal P w K mg base 5 "_is_statement" (spStm K Ts) []) (c_bodies_of : C8.Cal P w K mg base 1 "bodies_of" (spBod K) []) : C8.Cal P w K mg base 6 "_are_bodies" (spAB K Ts) [] := by
  refine C8.cal0 F b .nil sc__are_bodies ?len ?body
  case len => rintro vs H Q E ⟨a, xs, bl, L, N, rfl, _⟩; rfl
  case body =>
    rintro cdv A outer s H vs Q E hr ⟨a, xs, bl, L, N, rfl, hs, ha, hn, hm0, hk, hw, hok, hL, hN, hTb, q⟩
    refine ⟨_, (pss_cons (ps_set (i := 1) sc__are_bodies.nd rfl (Or.inl rfl) pe_int)
    (pss_cons (ps_setLc (i := 2) (own := [("body", 3)]) (g := gName 3) (by rfl) sc__are_bodies.nd rfl rfl (sw_true rfl rfl rfl (by decide +kernel)) (pi_list (pv 0)) (blkOk_by (own := [("body", 3)]) (N := ["bodies", "count", "waiting", "body", "depth", "statement", "inner"]) (sc := (C8.fnScope (topS 22))) (by decide +kernel)) (fun _ _ _ _ _ => pg_name (i := 3) sc__are_bodies.nd rfl (Or.inl rfl)) (fun _ _ _ _ _ => pts_nil) (fun _ _ _ _ _ => (pe_tup (pa_cons (pv 3) (pa_cons pe_int pa_nil)))))
    (pss_cons (ps_while PassesOwn.never (pt_truth (pv 2) (by intro _; rfl)) (pss_cons (ps_asg (pe_bm0 PySem.F.plainAttrs_list PySem.F.slot_list_pop PySem.F.type_list_pop mt_pop (pv 2)) (pg_tup rfl (pgs_cons (pg_name (i := 3) sc__are_bodies.nd rfl (Or.inl rfl)) (pgs_cons (pg_name (i := 4) sc__are_bodies.nd rfl (Or.inl rfl)) pgs_nil))))
    (pss_cons (ps_if (pt_not (pt_val (C8.pe_c c_is_row hr (by decide) rfl (pa_cons (pv 3) (pa_cons pe_int (pa_cons (pe_glob (v := .int 60) rfl B.MOST_IN_BODY.choose_spec ⟨_, rfl⟩) pa_nil)))))) (pss_one (ps_ret pe_bl)) pss_nil)
    (pss_cons (ps_aug (i := 1) sc__are_bodies.nd rfl (Or.inl rfl) (pe_callB call_len_seq rfl B.len PySem.boot_len (pa_cons (pv 3) pa_nil)) ip_add)
    (pss_cons (ps_if (PW.pt (pw_or (pt_cmpR op_gt (pv 1) (pe_glob (v := .int 200) rfl B.MOST_STATEMENTS.choose_spec ⟨_, rfl⟩) (nomark _)) (pw_or1 (PW.pt (pw_and (pt_truth (pv 3) (by intro _; rfl)) (pw_and1 (pt_cmpR op_gt (pv 4) (pe_glob (v := .int 12) rfl B.LONGEST_CHAIN.choose_spec ⟨_, rfl⟩) (nomark _)))))))) (pss_one (ps_ret pe_bl)) pss_nil)
    (pss_one (ps_for PassesOwn.never rfl (pi_tup (pv 3)) (pg_name (i := 5) sc__are_bodies.nd rfl (Or.inl rfl))
    (pss_cons (ps_if (pt_not (pt_val (C8.pe_c c__is_statement hr (by decide) rfl (pa_cons (pv 5) pa_nil)))) (pss_one (ps_ret pe_bl)) pss_nil)
    (pss_one (ps_for PassesOwn.never rfl (pi_tup (C8.pe_c c_bodies_of hr (by decide) rfl (pa_cons (pv 5) pa_nil))) (pg_name (i := 6) sc__are_bodies.nd rfl (Or.inl rfl))
    (pss_one (ps_expr (pe_bm PySem.F.plainAttrs_list PySem.F.slot_list_append PySem.F.type_list_append mt_append (pv 2) (pa_cons (pe_tup (pa_cons (pv 6) (pa_cons (pe_op op_add (pv 4) pe_int) pa_nil))) pa_nil))))))))))))))
    (pss_one (ps_ret pe_bl))))), ?_⟩
    have hbl := len_mss bl
    have hxl : xs.length = bl.length := by rw [dps_len ha, dss_len]
    refine ⟨_, rfl, a, rfl, ⟨_, hs⟩, fun Wd hWd => ?_⟩
    have nW : Wd ∉ Ts := tbs_cut (ms := []) (o := .rng 0 0) hTb hWd
    have nWs : ∀ p ∈ [Wd], H p = none := fun p hp => by cases List.mem_singleton.mp hp; exact hWd
    refine lc_list (xs := xs) (fun i H' => AbI K Ts H Wd (push 1 (bl.take i)) H') ?_ ?_ ?_ ?_
    · exact ⟨tbs_new hTb hWd, Kp.new _ hWd, Tk.new hWd _, [], upd_same, by rw [List.take_zero]; exact .nil⟩
    · rintro i H' _ ⟨_, k, _⟩
      exact sq_ext (ext_kp hTb nWs k) hs
    · rintro i x H1 hx hI
      obtain ⟨t, k, tk, vs, h1, h2⟩ := id hI
      obtain ⟨d, hd, hp⟩ := dps_get' ha hx
      rw [dss_map, List.getElem?_map] at hd
      obtain ⟨b, hb, rfl⟩ : ∃ b, bl[i]? = some b ∧ d = .tuple (ds b) := by
        cases e : bl[i]? with
        | none => rw [e] at hd; cases hd
        | some b => rw [e] at hd; exact ⟨b, rfl, (Option.some.inj hd).symm⟩
      have hdc := tk.dp (.tuple (ds b)) (tup_ds b) hp
      refine ⟨rfl, ?_⟩
      refine ⟨_, rfl, (by show 2 ≤ sizeLine; decide), fun p hp => ?_⟩
      have np : p ≠ Wd := fun z => by rw [← z, hp] at h1; cases h1
      refine ⟨vs, by rw [upd_ne (Ne.symm np)]; exact h1, ?_, ?_⟩
      · have hv := h2.len
        have hl2 : (push 1 (bl.take i)).length ≤ bl.length := by unfold push; rw [List.length_map]; exact List.length_take_le' _ _
        exact Nat.lt_of_le_of_lt (show vs.length ≤ 10000 by omega) (by decide)
      · have e : push 1 (bl.take (i + 1)) = push 1 (bl.take i) ++ [(b, 1)] := by
          rw [List.take_succ, hb, push_app]
          rfl
        rw [e]
        exact hI.push1 hp (by rw [upd_ne (Ne.symm np)]; exact h1) hdc
    · intro H1 hI
      rw [hxl, List.take_length] at hI
      have good0 : ∀ e ∈ push 1 bl, Gd L N e := fun e he => by
        obtain ⟨h1, h2⟩ := push_mem he
        refine ⟨?_, wdbs_iff.mp hw _ h1, hok _ h1⟩
        have := kss_mem h1
        omega
      refine ⟨fun m σ H' => ∃ (c : Nat) (st : List (List St × Nat)) (b3 b4 b5 b6 : Option V), m = mss (st.map Prod.fst) ∧ σ = [some (.ref a), some (.int (c : Int)), some (.ref Wd), b3, b4, b5, b6] ∧ AbI K Ts H Wd st H' ∧ c + nss (st.map Prod.fst) ≤ 200 ∧ mss (st.map Prod.fst) ≤ 10000 ∧ ∀ e ∈ st, Gd L N e,
        ⟨_, 0, _, none, none, none, none, rfl, rfl, hI, by rw [push_fst]; omega, by rw [push_fst]; exact hm0, good0⟩, ?_⟩
      rintro m σ H2 ⟨c, st, b3, b4, b5, b6, rfl, rfl, hI, hc, hm, hg⟩
      obtain ⟨t, k, tk, vs, h1, h2⟩ := id hI
      refine ⟨_, rfl, _, .inl ⟨_, SqL.of h1, rfl⟩, ?_⟩
      cases h2 with
      | nil =>
        refine ifF rfl ?_
        exact q H2 (go_of nWs t k)
      | @snoc vs' st' p x b d hst hp hx =>
        refine ifT (by simp) ?_
        refine ⟨fun σ' H' => ∃ (c : Nat) (st : List (List St × Nat)) (b3 b4 b5 b6 : Option V), mss (st.map Prod.fst) < mss ((st' ++ [(b, d)]).map Prod.fst) ∧ σ' = [some (.ref a), some (.int (c : Int)), some (.ref Wd), b3, b4, b5, b6] ∧ AbI K Ts H Wd st H' ∧ c + nss (st.map Prod.fst) ≤ 200 ∧ mss (st.map Prod.fst) ≤ 10000 ∧ ∀ e ∈ st, Gd L N e, ?_, ?_⟩
        · rintro σ' H' ⟨c, st, b3, b4, b5, b6, e1, e2, e3, e4, e5, e6⟩
          exact ⟨_, e1, c, st, b3, b4, b5, b6, rfl, e2, e3, e4, e5, e6⟩
        rw [List.map_append, nss_app] at hc
        rw [List.map_append, mss_app] at hm ⊢
        have hc : c + (nss (st'.map Prod.fst) + ns b) ≤ 200 := by
          have e : nss ([(b, d)].map Prod.fst) = ns b := by simp [nss]
          omega
        have em : mss ([(b, d)].map Prod.fst) = 1 + ms b := by simp [mss]
        rw [em] at hm ⊢
        have hgb := hg (b, d) (by simp)
        have hg' : ∀ e ∈ st', Gd L N e := fun e he => hg e (by simp [he])
        refine ⟨_, rfl, .inl ⟨rfl, _, SqL.of h1⟩, Wd, _, .ref p, rfl, rfl, h1, by simp, ?_⟩
        have tk3 : Tk H2 (upd H2 Wd (.lst (vs' ++ [V.ref p]).dropLast)) := Tk.put h1 _
        have I3 : AbI K Ts H Wd st' (upd H2 Wd (.lst (vs' ++ [V.ref p]).dropLast)) := ⟨tbs_upd t h1 (fun ps z => by cases z), k.trans (Kp.put _ (by simp)), tk.trans tk3, vs', by rw [List.dropLast_concat]; exact upd_same, hst.tk tk3⟩
        have hp3 := tk3.sqt hp
        have hx3 := tk3.dp (.tuple (ds b)) (tup_ds b) hx
        show (fun H3 => _) (upd H2 Wd (.lst (vs' ++ [V.ref p]).dropLast))
        generalize upd H2 Wd (.lst (vs' ++ [V.ref p]).dropLast) = H3 at I3 hp3 hx3
        clear tk3
        have hx3' := hx3
        obtain ⟨xa, xxs, rfl, hsx, hax, hlx⟩ := len_ok hx3
        refine ⟨p, _, rfl, hp3, rfl, _, _, rfl, _, _, rfl, rfl, ?_⟩
        have hrow : rowD (.tuple (ds b)) 0 60 = true := by
          have h60 : b.length ≤ 60 := hgb.2.1.1
          show (decide ((0 : Int) ≤ ((ds b).length : Int)) && decide (((ds b).length : Int) ≤ 60)) = true
          rw [ds_len, Bool.and_eq_true, decide_eq_true_eq, decide_eq_true_eq]
          omega
        refine ⟨_, rfl, _, _, 0, 60, rfl, hx3', _, rfl, ?_⟩
        rw [hrow]
        refine iteF ?_
        refine ⟨_, rfl, _, rfl, xa, xxs, rfl, .inr hsx, _, _, rfl, rfl, ?_⟩
        refine ⟨_, rfl, _, _, rfl, rfl, _, rfl, ?_⟩
        have hlb : xxs.length = b.length := by rw [hlx, ds_len]
        have hcb := len_ns b
        rw [hlb]
        rw [show decide ((200 : Int) < (c : Int) + (b.length : Int)) = false from decide_eq_false (by omega)]
        refine iteF ?_
        refine ⟨_, rfl, !xxs.isEmpty, .inr (.inl ⟨xxs, hsx, rfl⟩), ?_⟩
        have fin : xxs.isEmpty = true ∨ (xxs.isEmpty = false ∧ d ≤ 12) := by
          cases xxs with
          | nil => exact .inl rfl
          | cons x0 r =>
            refine .inr ⟨rfl, ?_⟩
            have : b ≠ [] := fun z => by rw [z] at hlb; simp at hlb
            have := ks_pos this
            have h13 : ks b + d ≤ 13 := hgb.1
            omega
        rcases fin with e | ⟨e, hd12⟩
        case' inl =>
          rw [e]
          refine iteF ?_
        case' inr =>
          rw [e]
          refine iteT ⟨_, rfl, _, _, rfl, rfl, _, rfl, ?_⟩
          rw [show decide ((12 : Int) < (d : Int)) = false from decide_eq_false (by omega)]
          refine iteF ?_
        all_goals
          refine ⟨_, rfl, xa, rfl, ⟨_, hsx⟩, ?_⟩
          refine for_tup (xs := xxs) (fun i σ H' => ∃ b5 b6, σ = [some (.ref a), some (.int ((c : Int) + (b.length : Int))), some (.ref Wd), some (.ref xa), some (.int (d : Int)), b5, b6] ∧ AbI K Ts H Wd (st' ++ push (d + 1) ((b.take i).flatMap St.bs)) H' ∧ Tk H3 H') ?_ ?_ ?_ ?_
          · exact ⟨b5, b6, rfl, by rw [List.take_zero]; simpa [push] using I3, Tk.refl _⟩
          · rintro i σ H' _ ⟨_, _, _, _, kk⟩
            exact kk.sqt hsx
          · rintro i x _ H4 hx ⟨b5', b6', rfl, I4, kk4⟩
            obtain ⟨dd, hdd, hdp⟩ := dps_get' hax hx
            rw [ds_map, List.getElem?_map] at hdd
            obtain ⟨s, hsb, rfl⟩ : ∃ s, b[i]? = some s ∧ dd = St.d s := by
              cases e : b[i]? with
              | none => rw [e] at hdd; cases hdd
              | some s => rw [e] at hdd; exact ⟨s, rfl, (Option.some.inj hdd).symm⟩
            have hsm : s ∈ b := List.mem_of_getElem? hsb
            obtain ⟨sec, hsec⟩ := hgb.2.2
            have hso : s.ok L N sec := oks_iff.mp hsec s hsm
            have hsw : s.wd := wdl_iff.mp hgb.2.1.2 s hsm
            have hd4 := kk4.dp _ (tup_St s) hdp
            refine ⟨_, rfl, x, s, L, N, sec, rfl, hd4, hso, hL, hN, I4.1, fun H5 g5 => ⟨_, rfl, ?_⟩⟩
            refine iteF ?_
            have I5 := I4.kp nW g5
            have kk5 : Tk H3 H5 := kk4.trans (Tk.go I4.1 g5)
            have hd5 := kk5.dp _ (tup_St s) hdp
            refine ⟨_, rfl, x, s, rfl, hd5, fun v' H6 s6 hd6 => ?_⟩
            obtain ⟨ra, rxs, rfl, hrs, hra, hrl⟩ := len_ok hd6
            have I6 := I5.kp nW (Go.of_same I5.1 s6)
            have kk6 : Tk H3 H6 := kk5.trans (Tk.same s6)
            refine ⟨ra, rfl, ⟨_, hrs⟩, ?_⟩
            have hrl2 : rxs.length = s.bs.length := by rw [hrl, dss_len]
            refine for_tup (xs := rxs) (fun j σ H' => ∃ b6, σ = [some (.ref a), some (.int ((c : Int) + (b.length : Int))), some (.ref Wd), some (.ref xa), some (.int (d : Int)), some x, b6] ∧ AbI K Ts H Wd (st' ++ push (d + 1) ((b.take i).flatMap St.bs) ++ push (d + 1) (s.bs.take j)) H' ∧ Tk H6 H') ?_ ?_ ?_ ?_
            · exact ⟨b6', rfl, by rw [List.take_zero]; simpa [push] using I6, Tk.refl _⟩
            · rintro j σ H' _ ⟨_, _, _, kk⟩
              exact kk.sqt hrs
            · rintro j y _ H7 hy ⟨b6'', rfl, I7, kk7⟩
              obtain ⟨t7, k7, tk7, vs7, h71, h72⟩ := id I7
              obtain ⟨dd, hdd, hdp2⟩ := dps_get' hra hy
              rw [dss_map, List.getElem?_map] at hdd
              obtain ⟨b2, hb2, rfl⟩ : ∃ b2, s.bs[j]? = some b2 ∧ dd = .tuple (ds b2) := by
                cases e : s.bs[j]? with
                | none => rw [e] at hdd; cases hdd
                | some s => rw [e] at hdd; exact ⟨s, rfl, (Option.some.inj hdd).symm⟩
              have hy7 := kk7.dp (.tuple (ds b2)) (tup_ds b2) hdp2
              refine ⟨_, rfl, .inl ⟨rfl, _, SqL.of h71⟩, _, rfl, _, rfl, _, _, rfl, rfl, (by show 2 ≤ sizeLine; decide), fun p7 hp7 => ?_⟩
              have np : p7 ≠ Wd := fun z => by rw [← z, hp7] at h71; cases h71
              have hW7 : upd H7 p7 (.tup [y, .int ((d : Int) + 1)]) Wd = some (.lst vs7) := by rw [upd_ne (Ne.symm np)]; exact h71
              refine ⟨Wd, vs7, _, rfl, rfl, hW7, ?_, ?_⟩
              · have l7 := h72.len
                have lm := len_mss ((st' ++ push (d + 1) ((b.take i).flatMap St.bs) ++ push (d + 1) (s.bs.take j)).map Prod.fst)
                rw [List.length_map, List.map_append, List.map_append, push_fst, push_fst, mss_app, mss_app, mss_flat] at lm
                have := mss_take s.bs j
                have := ms_take hsb
                have := m_bs s
                exact Nat.lt_of_le_of_lt (show vs7.length ≤ 10000 by omega) (by decide)
              · refine ⟨_, rfl, ?_, ?_⟩
                · have e : st' ++ push (d + 1) ((b.take i).flatMap St.bs) ++ push (d + 1) (s.bs.take (j + 1)) = (st' ++ push (d + 1) ((b.take i).flatMap St.bs) ++ push (d + 1) (s.bs.take j)) ++ [(b2, d + 1)] := by
                    rw [List.take_succ, hb2, push_app]
                    simp [push]
                  rw [e]
                  exact I7.push1 (d := d + 1) hp7 hW7 hy7
                · exact kk7.trans ((Tk.new hp7 _).trans (Tk.put hW7 _))
            · rintro σ H7 ⟨b6'', rfl, I7, kk7⟩
              refine ⟨_, _, rfl, ?_, kk6.trans kk7⟩
              have e : st' ++ push (d + 1) ((b.take (i + 1)).flatMap St.bs) = st' ++ push (d + 1) ((b.take i).flatMap St.bs) ++ push (d + 1) (s.bs.take rxs.length) := by
                rw [hrl2, List.take_length, List.take_succ, hsb, List.flatMap_append, push_app]
                simp
              rw [e]
              exact I7
          · rintro σ H' ⟨b5', b6', rfl, I4, kk4⟩
            rw [hlb, List.take_length] at I4
            refine ⟨c + b.length, _, _, _, _, _, ?_, by rw [Int.natCast_add], I4, ?_, ?_, ?_⟩
            · rw [List.map_append, push_fst, mss_app, mss_flat]
              omega
            · have := nss_flat b
              rw [List.map_append, push_fst, nss_app]
              omega
            · rw [List.map_append, push_fst, mss_app, mss_flat]
              omega
            · intro e he
              rcases List.mem_append.mp he with he | he
              · exact hg' e he
              · obtain ⟨h1, h2⟩ := push_mem he
                obtain ⟨s, hs1, hs2⟩ := List.mem_flatMap.mp h1
                obtain ⟨sec, hsec⟩ := hgb.2.2
                have hso : s.ok L N sec := oks_iff.mp hsec s hs1
                have hsw : s.wd := wdl_iff.mp hgb.2.1.2 s hs1
                refine ⟨?_, wdbs_iff.mp (wd_bs hsw) _ hs2, ok_bs hso _ hs2⟩
                have h13 : ks b + d ≤ 13 := hgb.1
                have := ks_mem hs1
                have := kss_mem hs2
                have := k_bs s
                omega
end
end K09


set_option Elab.async false
set_option linter.all false
set_option maxRecDepth 100000
set_option maxHeartbeats 8000000
namespace K09
open PySem PySem.Spec PyProof.Rows L2
def procD (p : Str × List St) : PyData := .tuple [.str p.1, .tuple (ds p.2)]
def progD (L : List Str) (P : List (Str × List St)) : PyData := .tuple [.tuple (L.map .str), .tuple (P.map procD)]
def nsP (P : List (Str × List St)) : List (List St) := P.map Prod.snd
structure Prog (L : List Str) (P : List (Str × List St)) : Prop where
  l1 : 1 ≤ L.length
  l2 : L.length ≤ 20
  p1 : 1 ≤ P.length
  p2 : P.length ≤ 8
  okL : Nok L
  okN : Nok (P.map Prod.fst)
  ndL : L.Nodup
  ndN : (P.map Prod.fst).Nodup
  ok : ∀ b ∈ nsP P, oks L (P.map Prod.fst) false b
  wd : wdbs (nsP P)
  ks : kss (nsP P) ≤ 12
  n : nss (nsP P) ≤ 200
theorem tup_strs : ∀ L : List Str, TupDs (L.map PyData.str)
  | [] => trivial
  | _ :: r => ⟨trivial, tup_strs r⟩
theorem tup_proc (p : Str × List St) : TupD (procD p) := ⟨trivial, tup_ds p.2, trivial⟩
theorem tup_procs : ∀ P : List (Str × List St), TupDs (P.map procD)
  | [] => trivial
  | p :: r => ⟨tup_proc p, tup_procs r⟩
theorem tup_prog (L : List Str) (P : List (Str × List St)) : TupD (progD L P) := ⟨tup_strs L, tup_procs P, trivial⟩
-- choices have six bodies at most
mutual
theorem m_n {L N : List Str} : ∀ (sec : Bool) (s : St), s.ok L N sec → s.m ≤ 6 * s.n
  | _, .dd _, _ | _, .ud _, _ | _, .cl _, _ | _, .rt, _ => by simp [St.m]
  | sec, .ch bs, h => by
    have := mss_n sec bs h.2.2
    have := h.2.1
    rw [St.m, St.n]
    omega
  | sec, .lp b, h => by
    have := ms_n sec b h
    rw [St.m, St.n]
    omega
  | sec, .en b c, h => by
    have := ms_n sec b h.1
    have := ms_n true c h.2
    rw [St.m, St.n]
    omega
theorem ms_n {L N : List Str} : ∀ (sec : Bool) (b : List St), oks L N sec b → ms b ≤ 6 * ns b
  | _, [], _ => by simp [ms]
  | sec, s :: r, h => by
    have := m_n sec s h.1
    have := ms_n sec r h.2
    rw [ms, ns]
    omega
theorem mss_n {L N : List Str} : ∀ (sec : Bool) (b : List (List St)), okss L N sec b → mss b ≤ b.length + 6 * nss b
  | _, [], _ => by simp [mss]
  | sec, s :: r, h => by
    have := ms_n sec s h.1
    have := mss_n sec r h.2
    rw [mss, nss, List.length_cons]
    omega
end
theorem dps_app {K : PySem.W.Frag} {H : Hp} : ∀ {vs ws : List V} {ds es : List PyData}, DpAll K H vs ds → DpAll K H ws es → DpAll K H (vs ++ ws) (ds ++ es)
  | _, _, _, _, .nil, h => h
  | _, _, _, _, .cons a t, h => .cons a (dps_app t h)
theorem ndl : (["letter"] : List Str).Nodup := by decide +kernel
theorem strs_get {L : List Str} {i : Nat} {d : PyData} (h : (L.map PyData.str)[i]? = some d) : ∃ x, L[i]? = some x ∧ d = .str x := by
  rw [List.getElem?_map] at h
  cases e : L[i]? with
  | none => rw [e] at h; cases h
  | some s => rw [e] at h; exact ⟨s, rfl, (Option.some.inj h).symm⟩
theorem procs_get {P : List (Str × List St)} {i : Nat} {d : PyData} (h : (P.map procD)[i]? = some d) : ∃ x, P[i]? = some x ∧ d = procD x := by
  rw [List.getElem?_map] at h
  cases e : P[i]? with
  | none => rw [e] at h; cases h
  | some s => rw [e] at h; exact ⟨s, rfl, (Option.some.inj h).symm⟩
section
variable {P : Program} {w : World} {K : PySem.W.Frag} {mg : Str → Option Value} {base : Heap}

def spProg (K : PySem.W.Frag) (Ts : List Addr) : Sp := fun vs H Q _ => ∃ v L P, vs = [v] ∧ Dp K H v (progD L P) ∧ Prog L P ∧ Tbs Ts H ∧ ∀ H', Go Ts H H' → Q (.bl true) H'
theorem sc_is_program : FnScope ["thing", "letters", "procedures", "procedure"] ["thing"] (C8.fnScope (topS 21)) := C8.fnScope_by (by decide +kernel)
theorem ok_is_program {Ts : List Addr} {f c T : Addr} {oc : Value} {od an : Option Addr} {kV doc pm ct : Value} {osl : Array (Option Value)}
    (lk : K.lookup f = some ⟨oc, od, .func (PySem.W.fnOf "is_program" "is_program" (C8.fnArgs (topS 21)) (C8.fnBody (topS 21)) (C8.fnScope (topS 21)) .none kV doc pm an (.ref c) ct), osl⟩) (hcd : PySem.W.codeIn K (.ref c) "is_program" = true)
    (TB : LamX.TabB base mg c T) (hT : T ∈ Ts) (B : Bl K mg) (c_is_row : C8.Cal P w K mg base 1 "is_row" (spRow K) []) (c_is_name : C8.Cal P w K mg base 4 "is_name" (spName K Ts) []) (c__are_bodies : C8.Cal P w K mg base 6 "_are_bodies" (spAB K Ts) []) :
    FnOk P w K mg base C8.CX0 8 f (PySem.W.fnOf "is_program" "is_program" (C8.fnArgs (topS 21)) (C8.fnBody (topS 21)) (C8.fnScope (topS 21)) .none kV doc pm an (.ref c) ct) ["thing"] (spProg K Ts) := by
  refine fn_of lk hcd sc_is_program (by rintro vs H Q E ⟨v, d, _, rfl, _⟩; rfl) ?_
  intro A outer s H vs Q E hr hsp
  suffices h : ∃ t, PSs (cxOf C8.CX0 P w K mg base ["thing", "letters", "procedures", "procedure"] "is_program" (C8.fnScope (topS 21)) f (.ref c) A outer s H E).nox (C8.fnBody (topS 21)) t ∧ t { nx := fun _ H' => Q .non H', rt := Q } (start ["thing", "letters", "procedures", "procedure"] vs) H by
    obtain ⟨t, h1, h2⟩ := h
    exact ⟨t, h1.nox, h2⟩
  obtain ⟨v, L, Ps, rfl, hd, hP, hTb, q⟩ := hsp
  refine ⟨_, (pss_cons (ps_if (pt_not (pt_val (C8.pe_c c_is_row hr (by decide) rfl (pa_cons (pv 0) (pa_cons pe_int (pa_cons pe_int pa_nil)))))) (pss_one (ps_ret pe_bl)) pss_nil)
    (pss_cons (ps_asg (pv 0) (pg_tup rfl (pgs_cons (pg_name (i := 1) sc_is_program.nd rfl (Or.inl rfl)) (pgs_cons (pg_name (i := 2) sc_is_program.nd rfl (Or.inl rfl)) pgs_nil))))
    (pss_cons (ps_if (PW.pt (pw_or (pt_not (pt_val (C8.pe_c c_is_row hr (by decide) rfl (pa_cons (pv 1) (pa_cons pe_int (pa_cons (pe_glob (v := .int 20) rfl B.MOST_LETTERS.choose_spec ⟨_, rfl⟩) pa_nil)))))) (pw_or1 (pt_not (pt_val (C8.pe_c c_is_row hr (by decide) rfl (pa_cons (pv 2) (pa_cons pe_int (pa_cons (pe_glob (v := .int 8) rfl B.MOST_PROCEDURES.choose_spec ⟨_, rfl⟩) pa_nil))))))))) (pss_one (ps_ret pe_bl)) pss_nil)
    (pss_cons (ps_for PassesOwn.never rfl (pi_tup (pv 2)) (pg_name (i := 3) sc_is_program.nd rfl (Or.inl rfl))
    (pss_one (ps_if (PW.pt (pw_or (pt_not (pt_val (C8.pe_c c_is_row hr (by decide) rfl (pa_cons (pv 3) (pa_cons pe_int (pa_cons pe_int pa_nil)))))) (pw_or1 (pt_not (pt_val (C8.pe_c c_is_name hr (by decide) rfl (pa_cons (pe_ix ix_tup (pv 3) pe_int (fun _ _ => rfl)) pa_nil))))))) (pss_one (ps_ret pe_bl)) pss_nil)))
    (pss_one (ps_ret (pe_and (UG.pe_allG (P := T) (N := ["letter"]) (k := 4) (g := gName 0) (hr.mono (by decide)) rfl B.all (by decide +kernel) TB rfl (gensc_by (by decide +kernel)) (pi_tup (pv 1))
      (fun _ _ _ _ _ _ _ => by exact pg_name (i := 0) ndl rfl (Or.inl rfl))
      (fun _ _ _ _ _ _ hr' => by exact C8.pe_c c_is_name hr' (by decide) rfl (pa_cons (pv 0) pa_nil))) (pe_one (C8.pe_c c__are_bodies hr (by decide) rfl (pa_cons (pe_lc (own := [("procedure", 3)]) (g := gName 3) (te := tOp (rIxT K) (tVar 3) (tC (.int 1))) (by rfl) sc_is_program.nd (pi_tup (pv 2)) (blkOk_by (own := [("procedure", 3)]) (N := ["thing", "letters", "procedures", "procedure"]) (sc := (C8.fnScope (topS 21))) (by decide +kernel)) (fun _ _ _ _ _ => pg_name (i := 3) sc_is_program.nd rfl (Or.inl rfl)) (fun _ _ _ _ _ => pts_nil) (fun _ _ _ _ _ => by exact (pe_ix ix_tup (pv 3) pe_int (fun _ _ => rfl)))) pa_nil)))))))))), ?_⟩
  have hd0 := hd
  obtain ⟨a, xs, rfl, hs, ha, hl⟩ := len_ok hd
  cases ha with
  | @cons vL _ _ _ hvL ha =>
  cases ha with
  | @cons vP _ _ _ hvP ha =>
  cases ha
  refine ⟨_, rfl, _, _, 2, 2, rfl, hd0, _, rfl, ?_⟩
  refine iteF ?_
  refine ⟨_, rfl, a, _, rfl, hs, rfl, _, _, rfl, _, _, rfl, rfl, ?_⟩
  refine ⟨_, rfl, _, _, 1, 20, rfl, hvL, _, rfl, ?_⟩
  have l1 := hP.l1
  have l2 := hP.l2
  have p1 := hP.p1
  have p2 := hP.p2
  rw [show rowD (.tuple (L.map PyData.str)) 1 20 = true by
    show (decide ((1 : Int) ≤ ((L.map PyData.str).length : Int)) && decide (((L.map PyData.str).length : Int) ≤ 20)) = true
    rw [List.length_map, Bool.and_eq_true, decide_eq_true_eq, decide_eq_true_eq]
    omega]
  refine iteF ?_
  refine ⟨_, rfl, _, _, 1, 8, rfl, hvP, _, rfl, ?_⟩
  rw [show rowD (.tuple (Ps.map procD)) 1 8 = true by
    show (decide ((1 : Int) ≤ ((Ps.map procD).length : Int)) && decide (((Ps.map procD).length : Int) ≤ 8)) = true
    rw [List.length_map, Bool.and_eq_true, decide_eq_true_eq, decide_eq_true_eq]
    omega]
  refine iteF ?_
  have hvL0 := hvL
  have hvP0 := hvP
  obtain ⟨la, lxs, rfl, hls, hla, hll⟩ := len_ok hvL
  obtain ⟨pa, pxs, rfl, hps, hpa, hpl⟩ := len_ok hvP
  rw [List.length_map] at hll hpl
  refine ⟨_, rfl, pa, rfl, ⟨_, hps⟩, ?_⟩
  refine for_tup (xs := pxs) (fun i σ H' => ∃ b3, σ = [some (.ref a), some (.ref la), some (.ref pa), b3] ∧ Go Ts H H') ?_ ?_ ?_ ?_
  · exact ⟨none, rfl, Go.refl hTb⟩
  · rintro i σ H' _ ⟨_, _, g⟩
    exact (Tk.go hTb g).sqt hps
  · rintro i x _ H1 hx ⟨b3, rfl, g⟩
    obtain ⟨d, hd, hdp⟩ := dps_get' hpa hx
    obtain ⟨p, hp, rfl⟩ := procs_get hd
    have hd1 := (Tk.go hTb g).dp _ (tup_proc p) hdp
    refine ⟨_, rfl, _, _, 2, 2, rfl, hd1, _, rfl, ?_⟩
    refine iteF ?_
    obtain ⟨qa, qxs, rfl, hqs, hqa, hql⟩ := len_ok hd1
    cases hqa with
    | @cons v0 _ _ _ h0 hqa =>
    have hnm : nameB p.1 = true := hP.okN p.1 (List.mem_map.mpr ⟨p, List.mem_of_getElem? hp, rfl⟩)
    refine ⟨_, rfl, _, _, _, _, rfl, rfl, hqs, at0 _ _, v0, _, rfl, h0, nameB_str hnm, g.1, fun H2 g2 => ⟨_, rfl, ?_⟩⟩
    rw [show nameD (.str p.1) = true from hnm]
    refine iteF ?_
    exact ⟨_, rfl, g.trans g2⟩
  · rintro σ H1 ⟨b3, rfl, g1⟩
    have hls1 := (Tk.go hTb g1).sqt hls
    refine ⟨_, rfl, la, rfl, ⟨_, hls1⟩, g1.1 T hT, lxs.length, fun i H' => i ≤ lxs.length ∧ Go Ts H H', ⟨?_⟩, ?_⟩
    · rintro i H2 ⟨hi, g2⟩
      have hls2 := (Tk.go hTb g2).sqt hls
      by_cases hlt : i < lxs.length
      · refine .inr ⟨hlt, ⟨_, _, hls2, List.getElem?_eq_getElem hlt⟩, ?_⟩
        rintro x H3 ⟨rfl, hx⟩
        have ex := hx _ hls2
        obtain ⟨d, hd, hdp⟩ := dps_get' hla ex
        obtain ⟨y, hy, rfl⟩ := strs_get hd
        cases hdp
        have hnm : nameB y = true := hP.okL y (List.mem_of_getElem? hy)
        refine ⟨_, rfl, .str y, .str y, rfl, .str y, nameB_str hnm, g2.1, fun H4 g4 => ⟨_, rfl, ?_⟩⟩
        rw [show nameD (.str y) = true from hnm]
        exact iteT ⟨hlt, g2.trans g4⟩
      · refine .inl ⟨⟨_, hls2, by omega⟩, ⟨_, rfl, ?_⟩⟩
        refine iteT ?_
        have hps2 := (Tk.go hTb g2).sqt hps
        refine ⟨_, rfl, pa, rfl, ⟨_, hps2⟩, fun Dd hDd => ?_⟩
        have bodies : ∀ i : Nat, i ≤ Ps.length → True := fun _ _ => trivial
        refine lc_tup (xs := pxs) (fun i H' => ∃ vs, H' Dd = some (.lst vs) ∧ DpAll K H' vs (dss ((nsP Ps).take i)) ∧ Tbs Ts H' ∧ Same H2 H') ?_ ?_ ?_ ?_
        · exact ⟨[], upd_same, by rw [List.take_zero]; exact .nil, tbs_new g2.1 hDd, same_new hDd _⟩
        · rintro i H' _ ⟨_, _, _, _, s5⟩
          exact (Tk.same s5).sqt hps2
        · rintro i x H5 hx ⟨vs, hv1, hv2, t5, s5⟩
          obtain ⟨d, hd, hdp⟩ := dps_get' hpa hx
          obtain ⟨p, hp, rfl⟩ := procs_get hd
          have hd1 := ((Tk.go hTb g2).trans (Tk.same s5)).dp _ (tup_proc p) hdp
          obtain ⟨qa, qxs, rfl, hqs, hqa, hql⟩ := len_ok hd1
          cases hqa with
          | @cons v0 _ _ _ h0 hqa =>
          cases hqa with
          | @cons v1 _ _ _ h1 hqa =>
          refine ⟨rfl, ?_⟩
          refine ⟨_, rfl, _, _, _, _, rfl, rfl, hqs, at1 _ _ _, vs, hv1, ?_, _, upd_same, ?_, tbs_upd t5 hv1 (fun ps z => by cases z), ?_⟩
          · have := dps_len hv2
            rw [dss_len] at this
            have h3 : ((nsP Ps).take i).length ≤ (nsP Ps).length := List.length_take_le' _ _
            have h4 : (nsP Ps).length = Ps.length := by unfold nsP; rw [List.length_map]
            exact Nat.lt_of_le_of_lt (show vs.length ≤ 10000 by omega) (by decide)
          · have tk5 : Tk H5 (upd H5 Dd (.lst (vs ++ [v1]))) := Tk.put hv1 _
            have e : (nsP Ps).take (i + 1) = (nsP Ps).take i ++ [p.2] := by
              unfold nsP
              rw [List.take_succ, List.getElem?_map, hp]
              rfl
            rw [e]
            have e2 : ∀ x y : List (List St), dss (x ++ y) = dss x ++ dss y := fun x y => by rw [dss_map, dss_map, dss_map, List.map_append]
            rw [e2]
            exact dps_app (tk5.dps _ (tup_dss _) hv2) (.cons (tk5.dp (.tuple (ds p.2)) (tup_ds p.2) h1) .nil)
          · intro b o e
            rw [upd_ne (fun z => by rw [z, hDd] at e; cases e)]
            exact s5 _ _ e
        · rintro H5 ⟨vs, hv1, hv2, t5, s5⟩
          have hpl2 : (nsP Ps).length = pxs.length := by unfold nsP; rw [List.length_map, hpl]
          rw [← hpl2, List.take_length] at hv2
          have hkk : ∀ b ∈ nsP Ps, ∃ sec, oks L (Ps.map Prod.fst) sec b := fun b hb => ⟨false, hP.ok b hb⟩
          have hms := mss_n false (nsP Ps) (okss_iff.mpr hP.ok)
          have hn := hP.n
          refine ⟨Dd, vs, nsP Ps, L, Ps.map Prod.fst, rfl, SqL.of hv1, hv2, hn, by omega, hP.ks, hP.wd, hkk, hP.okL, hP.okN, t5, fun H6 g6 => ?_⟩
          exact q _ (g2.trans ((Go.of_same g2.1 s5).trans g6))
    · intro H2 t2
      exact ⟨Nat.zero_le _, g1.trans (Go.of_tab g1.1 hT t2)⟩
def spWant (K : PySem.W.Frag) (Ts : List Addr) : Sp := fun vs H Q _ => ∃ v L P, vs = [v] ∧ Dp K H v (progD L P) ∧ Prog L P ∧ Tbs Ts H ∧ ∀ H', Go Ts H H' → Q .non H'
theorem sc_want_program : FnScope ["program"] ["program"] (C8.fnScope (topS 25)) := C8.fnScope_by (by decide +kernel)
theorem ok_want_program {Ts : List Addr} {f : Addr} {fd : FuncData} (F : C8.Def K mg "want_program" (topS 25) f fd) (b : Binds K fd ["program"] []) (B : Bl K mg) (c_is_program : C8.Cal P w K mg base 8 "is_program" (spProg K Ts) []) : C8.Cal P w K mg base 9 "want_program" (spWant K Ts) [] := by
  refine C8.cal0 F b .nil sc_want_program ?len ?body
  case len => rintro vs H Q E ⟨v, L, Ps, rfl, _⟩; rfl
  case body =>
    rintro cdv A outer s H vs Q E hr ⟨v, L, Ps, rfl, hd, hP, hTb, q⟩
    refine ⟨_, (pss_one (ps_if (pt_not (pt_val (C8.pe_c c_is_program hr (by decide) rfl (pa_cons (pv 0) pa_nil)))) pss_never pss_nil)), ?_⟩
    exact ⟨_, rfl, v, L, Ps, rfl, hd, hP, hTb, fun H1 g1 => ⟨_, rfl, iteF (q H1 g1)⟩⟩
end
end K09


set_option Elab.async false
set_option linter.all false
set_option maxRecDepth 100000
set_option maxHeartbeats 8000000
namespace K09
open PySem PySem.Spec PyProof.Rows L2
theorem for_enumT {K : PySem.W.Frag} {a : Addr} {xs : List V} {g : TG} {tb : TS} {D : Ends} {σ : L2.St} {H : Hp} (Pv : Nat → L2.St → Hp → Prop) (h0 : Pv 0 σ H) (hl : ∀ i σ H, i ≤ xs.length → Pv i σ H → SqT K H a xs)
    (hs : ∀ i x σ H Tp, xs[i]? = some x → Pv i σ H → H Tp = none → g (.ref Tp) σ (upd H Tp (.tup [.int (i : Nat), x])) fun σ2 H2 => tb { D with nx := Pv (i + 1), ct := Pv (i + 1), bk := D.nx } σ2 H2) (hd : ∀ σ H, Pv xs.length σ H → D.nx σ H) :
    ∃ W : Nat → Nat → L2.St → Hp → Prop, (∃ m, W 0 m σ H) ∧ ∀ i m σ H, W i m σ H →
      ((UG.Iet K a).stop i H ∧ D.nx σ H) ∨ ((UG.Iet K a).go i H ∧ ∃ N : L2.St → Hp → Prop, (∀ σ' H', N σ' H' → ∃ m', m' < m ∧ W (i + 1) m' σ' H') ∧ ∀ x H', (UG.Iet K a).yld i H x H' → g x σ H' fun σ2 H2 => tb { D with nx := N, ct := N, bk := D.nx } σ2 H2) := by
  refine ⟨fun i m σ H => m = xs.length - i ∧ i ≤ xs.length ∧ Pv i σ H, ⟨xs.length, by simp, Nat.zero_le _, h0⟩, ?_⟩
  rintro i m σ H ⟨rfl, hi, p⟩
  have q := hl i σ H hi p
  by_cases hlt : i < xs.length
  · refine .inr ⟨⟨xs, xs[i], q, List.getElem?_eq_getElem hlt⟩, Pv (i + 1), fun σ' H' p' => ⟨xs.length - (i + 1), by omega, rfl, hlt, p'⟩, ?_⟩
    rintro _ _ ⟨Tp, x, rfl, hTp, rfl, hx⟩
    exact hs i x σ H Tp (hx xs q) p hTp
  · have e : i = xs.length := by omega
    subst e
    exact .inl ⟨⟨xs, q, Nat.le_refl _⟩, hd σ H p⟩
theorem for_enumLL {K : PySem.W.Frag} {a : Addr} {xs : List V} {g : TG} {tb : TS} {D : Ends} {σ : L2.St} {H : Hp} (Pv : Nat → L2.St → Hp → Prop) (h0 : Pv 0 σ H) (hl : ∀ i σ H, i ≤ xs.length → Pv i σ H → SqL K H a xs)
    (hs : ∀ i x σ H Tp, xs[i]? = some x → Pv i σ H → H Tp = none → g (.ref Tp) σ (upd H Tp (.tup [.int (i : Nat), x])) fun σ2 H2 => tb { D with nx := Pv (i + 1), ct := Pv (i + 1), bk := D.nx } σ2 H2) (hd : ∀ σ H, Pv xs.length σ H → D.nx σ H) :
    ∃ W : Nat → Nat → L2.St → Hp → Prop, (∃ m, W 0 m σ H) ∧ ∀ i m σ H, W i m σ H →
      ((Ite K a).stop i H ∧ D.nx σ H) ∨ ((Ite K a).go i H ∧ ∃ N : L2.St → Hp → Prop, (∀ σ' H', N σ' H' → ∃ m', m' < m ∧ W (i + 1) m' σ' H') ∧ ∀ x H', (Ite K a).yld i H x H' → g x σ H' fun σ2 H2 => tb { D with nx := N, ct := N, bk := D.nx } σ2 H2) := by
  refine ⟨fun i m σ H => m = xs.length - i ∧ i ≤ xs.length ∧ Pv i σ H, ⟨xs.length, by simp, Nat.zero_le _, h0⟩, ?_⟩
  rintro i m σ H ⟨rfl, hi, p⟩
  have q := hl i σ H hi p
  by_cases hlt : i < xs.length
  · refine .inr ⟨⟨xs, xs[i], q, List.getElem?_eq_getElem hlt⟩, Pv (i + 1), fun σ' H' p' => ⟨xs.length - (i + 1), by omega, rfl, hlt, p'⟩, ?_⟩
    rintro _ _ ⟨Tp, x, rfl, hTp, rfl, hx⟩
    exact hs i x σ H Tp (hx xs q) p hTp
  · have e : i = xs.length := by omega
    subst e
    exact .inl ⟨⟨xs, q, Nat.le_refl _⟩, hd σ H p⟩
theorem inV_strs (k : Str) (L : List Str) : inV (.str k) (L.map V.str) = decide (k ∈ L) := by
  rw [inV_str]
  induction L with
  | nil => rfl
  | cons z r ih =>
    rw [List.any_cons, ih]
    by_cases h : k = z
    · subst h; simp
    · simp [h]
theorem flat_strs : ∀ L : List Str, (L.map V.str).all flatV = true
  | [] => rfl
  | _ :: r => by rw [List.map_cons, List.all_cons, flat_strs r]; rfl
theorem sIx_le {n i : Nat} (h : i ≤ n) : HT.sIx n n (some (i : Int)) = i := by
  rw [HT.sIx_nat]
  omega
theorem cut_take (xs : List V) {i : Nat} (h : i ≤ xs.length) : cutV xs none (some (i : Int)) = xs.take i := by
  unfold cutV
  rw [sIx_le h]
  have : HT.sIx xs.length 0 none = 0 := rfl
  rw [this]
  simp
theorem notin_take {L : List Str} (h : L.Nodup) {i : Nat} {x : Str} (e : L[i]? = some x) : x ∉ L.take i := fun z => by
  obtain ⟨j, hj, ej⟩ := List.getElem_of_mem z
  rw [List.length_take] at hj
  rw [List.getElem_take] at ej
  obtain ⟨hi, ei⟩ := List.getElem?_eq_some_iff.mp e
  have := (List.getElem_inj h).mp (ej.trans ei.symm)
  omega
/-- the word of a statement -/
def St.w : St → Str
  | .dd _ => "do"
  | .ud _ => "undo"
  | .cl _ => "call"
  | .ch _ => "choose"
  | .lp _ => "loop"
  | .rt => "return"
  | .en _ _ => "ensure"
theorem d_word : ∀ s : St, ∃ r, s.d = .tuple (.str s.w :: r)
  | .dd _ | .ud _ | .cl _ | .ch _ | .lp _ | .rt | .en _ _ => ⟨_, rfl⟩
def isEn : St → Bool
  | .en _ _ => true
  | _ => false
theorem w_en : ∀ s : St, decide (s.w = "ensure") = isEn s
  | .dd _ => (by decide +kernel : decide (("do" : Str) = "ensure") = false)
  | .ud _ => (by decide +kernel : decide (("undo" : Str) = "ensure") = false)
  | .cl _ => (by decide +kernel : decide (("call" : Str) = "ensure") = false)
  | .ch _ => (by decide +kernel : decide (("choose" : Str) = "ensure") = false)
  | .lp _ => (by decide +kernel : decide (("loop" : Str) = "ensure") = false)
  | .rt => (by decide +kernel : decide (("return" : Str) = "ensure") = false)
  | .en _ _ => (by decide +kernel : decide (("ensure" : Str) = "ensure") = true)
theorem flag_ok {L N : List Str} {sec : Bool} : ∀ {s : St}, s.ok L N sec → ∀ {j : Nat} {b : List St}, s.bs[j]? = some b → oks L N (sec || (isEn s && decide ((j : Int) = 1))) b
  | .dd _, _, j, b, h | .ud _, _, j, b, h | .cl _, _, j, b, h | .rt, _, j, b, h => by simp [St.bs] at h
  | .ch bs, h, j, b, e => by
    rw [show isEn (.ch bs) = false from rfl, Bool.false_and, Bool.or_false]
    exact okss_iff.mp h.2.2 b (List.mem_of_getElem? e)
  | .lp c, h, j, b, e => by
    rw [show isEn (.lp c) = false from rfl, Bool.false_and, Bool.or_false]
    have : b ∈ [c] := List.mem_of_getElem? e
    cases List.mem_singleton.mp this
    exact h
  | .en c d, h, j, b, e => by
    rw [show isEn (.en c d) = true from rfl, Bool.true_and]
    match j, e with
    | 0, e =>
      simp [St.bs] at e
      subst e
      simpa using h.1
    | 1, e =>
      simp [St.bs] at e
      subst e
      simpa using h.2
    | j + 2, e => simp [St.bs] at e
theorem bs_k {s : St} {j : Nat} {b : List St} (e : s.bs[j]? = some b) : ks b < s.k := by
  have := kss_mem (List.mem_of_getElem? e)
  have := k_bs s
  omega
/-- what was found -/
def Fds (K : PySem.W.Frag) (L N : List Str) (H : Hp) (vs : List V) : Prop := ∀ v ∈ vs, ∃ p x s sec, v = .ref p ∧ SqT K H p [x, .bl sec] ∧ Dp K H x (St.d s) ∧ s.ok L N sec
theorem Fds.tk {K : PySem.W.Frag} {L N : List Str} {H H' : Hp} {vs : List V} (h : Fds K L N H vs) (t : Tk H H') : Fds K L N H' vs := fun v hv => by
  obtain ⟨p, x, s, sec, e, h1, h2, h3⟩ := h v hv
  exact ⟨p, x, s, sec, e, t.sqt h1, t.dp _ (tup_St s) h2, h3⟩
theorem Fds.app {K : PySem.W.Frag} {L N : List Str} {H : Hp} {vs ws : List V} (h : Fds K L N H vs) (h2 : Fds K L N H ws) : Fds K L N H (vs ++ ws) := fun v hv => (List.mem_append.mp hv).elim (h v) (h2 v)
theorem ns_take : ∀ {b : List St} {i : Nat} {s : St}, b[i]? = some s → ns (b.take (i + 1)) = ns (b.take i) + s.n
  | [], i, s, h => by simp at h
  | x :: r, 0, s, h => by
    simp at h
    subst h
    simp [ns]
  | x :: r, i + 1, s, h => by
    have := ns_take (b := r) (i := i) (s := s) (by simpa using h)
    rw [List.take_succ_cons, List.take_succ_cons, ns, ns, this]
    omega
theorem ns_take_le : ∀ (b : List St) (i : Nat), ns (b.take i) ≤ ns b
  | [], i => by simp
  | x :: r, 0 => by simp [ns]
  | x :: r, i + 1 => by
    have := ns_take_le r i
    rw [List.take_succ_cons, ns, ns]
    omega
theorem nss_takeS : ∀ {b : List (List St)} {i : Nat} {s : List St}, b[i]? = some s → nss (b.take (i + 1)) = nss (b.take i) + ns s
  | [], i, s, h => by simp at h
  | x :: r, 0, s, h => by
    simp at h
    subst h
    simp [nss]
  | x :: r, i + 1, s, h => by
    have := nss_takeS (b := r) (i := i) (s := s) (by simpa using h)
    rw [List.take_succ_cons, List.take_succ_cons, nss, nss, this]
    omega
theorem nss_take_le : ∀ (b : List (List St)) (i : Nat), nss (b.take i) ≤ nss b
  | [], i => by simp
  | x :: r, 0 => by simp [nss]
  | x :: r, i + 1 => by
    have := nss_take_le r i
    rw [List.take_succ_cons, nss, nss]
    omega
theorem ds_get {b : List St} {i : Nat} {d : PyData} (h : (ds b)[i]? = some d) : ∃ s, b[i]? = some s ∧ d = St.d s := by
  rw [ds_map, List.getElem?_map] at h
  cases e : b[i]? with
  | none => rw [e] at h; cases h
  | some s => rw [e] at h; exact ⟨s, rfl, (Option.some.inj h).symm⟩
theorem dss_get {b : List (List St)} {i : Nat} {d : PyData} (h : (dss b)[i]? = some d) : ∃ s, b[i]? = some s ∧ d = .tuple (ds s) := by
  rw [dss_map, List.getElem?_map] at h
  cases e : b[i]? with
  | none => rw [e] at h; cases h
  | some s => rw [e] at h; exact ⟨s, rfl, (Option.some.inj h).symm⟩
section
variable {P : Program} {w : World} {K : PySem.W.Frag} {mg : Str → Option Value} {base : Heap}

def spFDT (K : PySem.W.Frag) : Sp := fun vs H Q _ => ∃ (a : Addr) (L : List Str), vs = [.ref a] ∧ SqT K H a (L.map V.str) ∧ L.Nodup ∧ ∀ H', Same H H' → Q .non H'
def spFDL (K : PySem.W.Frag) : Sp := fun vs H Q _ => ∃ (a : Addr) (L : List Str), vs = [.ref a] ∧ SqL K H a (L.map V.str) ∧ L.Nodup ∧ ∀ H', Same H H' → Q .non H'
theorem sc__first_double : FnScope ["names", "at", "name"] ["names"] (C8.fnScope (topS 28)) := C8.fnScope_by (by decide +kernel)
theorem ok_fdT {f : Addr} {fd : FuncData} (F : C8.Def K mg "_first_double" (topS 28) f fd) (b : Binds K fd ["names"] []) (B : Bl K mg)  : C8.Cal P w K mg base 1 "_first_double" (spFDT K) [] := by
  refine C8.cal0 F b .nil sc__first_double ?len ?body
  case len => rintro vs H Q E ⟨a, L, rfl, _⟩; rfl
  case body =>
    rintro cdv A outer s H vs Q E hr ⟨a, L, rfl, hs, nd, q⟩
    refine ⟨_, (pss_cons (ps_for PassesOwn.never rfl (UG.pi_enumT rfl B.enumerate (pa_cons (pv 0) pa_nil)) (pg_tup rfl (pgs_cons (pg_name (i := 1) sc__first_double.nd rfl (Or.inl rfl)) (pgs_cons (pg_name (i := 2) sc__first_double.nd rfl (Or.inl rfl)) pgs_nil)))
    (pss_one (ps_if (pt_cmpR op_in_seq (pv 2) (pe_slice sl_tupA (pv 0) po_none (po_some (pv 1))) (by with_unfolding_all rfl)) (pss_one (ps_ret (pv 2))) pss_nil)))
    (pss_one (ps_ret pe_non))), ?_⟩
    refine ⟨_, rfl, a, _, rfl, hs, ?_⟩
    refine for_enumT (xs := L.map V.str) (fun i σ H' => ∃ b1 b2, σ = [some (.ref a), b1, b2] ∧ Same H H') ⟨none, none, rfl, Same.refl H⟩ ?_ ?_ ?_
    · rintro i σ H' _ ⟨_, _, _, s1⟩
      exact sqt_ext (same_ext s1) hs
    · rintro i x _ H1 Tp hx ⟨b1, b2, rfl, s1⟩ hTp
      obtain ⟨y, hy, rfl⟩ : ∃ y, L[i]? = some y ∧ x = .str y := by
        rw [List.getElem?_map] at hx
        cases e : L[i]? with
        | none => rw [e] at hx; cases hx
        | some s => rw [e] at hx; exact ⟨s, rfl, (Option.some.inj hx).symm⟩
      have hi := (List.getElem?_eq_some_iff.mp hy).1
      have s2 := s1.trans (same_new hTp (.tup [.int (i : Nat), .str y]))
      refine ⟨Tp, _, rfl, SqT.of upd_same, rfl, _, _, rfl, _, _, rfl, rfl, ?_⟩
      have hs2 := sqt_ext (same_ext s2) hs
      have e : cutV (L.map V.str) none (some (i : Int)) = (L.take i).map V.str := by
        rw [cut_take _ (by rw [List.length_map]; omega), List.map_take]
      have no := notin_take nd hy
      refine ⟨_, rfl, _, rfl, _, rfl, _, rfl, a, _, rfl, hs2, fun w => ?_, fun _ p hp => ?_⟩
      · exact absurd w.2 (by rw [sIx_le (by rw [List.length_map]; omega), List.length_map]; omega)
      · rw [e]
        refine ⟨p, _, rfl, .inr (SqT.of upd_same), rfl, flat_strs _, _, rfl, ?_⟩
        show if inV (.str y) ((L.take i).map V.str) = true then _ else _
        rw [inV_strs, decide_eq_false no]
        exact iteF ⟨_, _, rfl, s2.trans (same_new hp _)⟩
    · rintro σ H1 ⟨b1, b2, rfl, s1⟩
      exact q H1 s1
theorem ok_fdL {f : Addr} {fd : FuncData} (F : C8.Def K mg "_first_double" (topS 28) f fd) (b : Binds K fd ["names"] []) (B : Bl K mg)  : C8.Cal P w K mg base 1 "_first_double" (spFDL K) [] := by
  refine C8.cal0 F b .nil sc__first_double ?len ?body
  case len => rintro vs H Q E ⟨a, L, rfl, _⟩; rfl
  case body =>
    rintro cdv A outer s H vs Q E hr ⟨a, L, rfl, hs, nd, q⟩
    refine ⟨_, (pss_cons (ps_for PassesOwn.never rfl (pi_enum rfl B.enumerate (pa_cons (pv 0) pa_nil)) (pg_tup rfl (pgs_cons (pg_name (i := 1) sc__first_double.nd rfl (Or.inl rfl)) (pgs_cons (pg_name (i := 2) sc__first_double.nd rfl (Or.inl rfl)) pgs_nil)))
    (pss_one (ps_if (pt_cmpR op_in_seq (pv 2) (pe_slice sl_list (pv 0) po_none (po_some (pv 1))) (by with_unfolding_all rfl)) (pss_one (ps_ret (pv 2))) pss_nil)))
    (pss_one (ps_ret pe_non))), ?_⟩
    refine ⟨_, rfl, a, _, rfl, hs, ?_⟩
    refine for_enumLL (xs := L.map V.str) (fun i σ H' => ∃ b1 b2, σ = [some (.ref a), b1, b2] ∧ Same H H') ⟨none, none, rfl, Same.refl H⟩ ?_ ?_ ?_
    · rintro i σ H' _ ⟨_, _, _, s1⟩
      exact sq_ext (same_ext s1) hs
    · rintro i x _ H1 Tp hx ⟨b1, b2, rfl, s1⟩ hTp
      obtain ⟨y, hy, rfl⟩ : ∃ y, L[i]? = some y ∧ x = .str y := by
        rw [List.getElem?_map] at hx
        cases e : L[i]? with
        | none => rw [e] at hx; cases hx
        | some s => rw [e] at hx; exact ⟨s, rfl, (Option.some.inj hx).symm⟩
      have hi := (List.getElem?_eq_some_iff.mp hy).1
      have s2 := s1.trans (same_new hTp (.tup [.int (i : Nat), .str y]))
      refine ⟨Tp, _, rfl, SqT.of upd_same, rfl, _, _, rfl, _, _, rfl, rfl, ?_⟩
      have hs2 := sq_ext (same_ext s2) hs
      have e : cutV (L.map V.str) none (some (i : Int)) = (L.take i).map V.str := by
        rw [cut_take _ (by rw [List.length_map]; omega), List.map_take]
      have no := notin_take nd hy
      refine ⟨_, rfl, _, rfl, _, rfl, _, rfl, a, _, rfl, hs2, fun p hp => ?_⟩
      rw [e]
      refine ⟨p, _, rfl, .inl (SqL.of upd_same), rfl, flat_strs _, _, rfl, ?_⟩
      show if inV (.str y) ((L.take i).map V.str) = true then _ else _
      rw [inV_strs, decide_eq_false no]
      exact iteF ⟨_, _, rfl, s2.trans (same_new hp _)⟩
    · rintro σ H1 ⟨b1, b2, rfl, s1⟩
      exact q H1 s1

def spFS (K : PySem.W.Frag) (n : Nat) : Sp := fun vs H Q _ => ∃ v b sec F acc L N, vs = [v, .bl sec, .ref F] ∧ Dp K H v (.tuple (ds b)) ∧ ks b < n ∧ oks L N sec b ∧ H F = some (.lst acc) ∧ acc.length + ns b ≤ 1000 ∧
  ∀ H' more, H' F = some (.lst (acc ++ more)) → Fds K L N H' more → more.length = ns b → Tk H H' → Kp [F] H H' → Q .non H'
theorem sc__find_statements : FnScope ["body", "is_second", "found", "statement", "at", "inner"] ["body", "is_second", "found"] (C8.fnScope (topS 30)) := C8.fnScope_by (by decide +kernel)
theorem ok_fs {n : Nat} {f : Addr} {fd : FuncData} (F : C8.Def K mg "_find_statements" (topS 30) f fd) (b : Binds K fd ["body", "is_second", "found"] []) (B : Bl K mg) (c_bodies_of : C8.Cal P w K mg base 1 "bodies_of" (spBod K) []) (c__find_statements : C8.Cal P w K mg base (n + 2) "_find_statements" (spFS K n) []) : C8.Cal P w K mg base (n + 3) "_find_statements" (spFS K (n + 1)) [] := by
  refine C8.cal0 F b .nil sc__find_statements ?len ?body
  case len => rintro vs H Q E ⟨v, b, sec, F, acc, L, N, rfl, _⟩; rfl
  case body =>
    rintro cdv A outer s H vs Q E hr ⟨v, b, sec, F, acc, L, N, rfl, hd, hk, hok, hF, hacc, q⟩
    refine ⟨_, (pss_one (ps_for PassesOwn.never rfl (pi_tup (pv 0)) (pg_name (i := 3) sc__find_statements.nd rfl (Or.inl rfl))
    (pss_cons (ps_expr (pe_bm PySem.F.plainAttrs_list PySem.F.slot_list_append PySem.F.type_list_append mt_append (pv 2) (pa_cons (pe_tup (pa_cons (pv 3) (pa_cons (pv 1) pa_nil))) pa_nil)))
    (pss_one (ps_for PassesOwn.never rfl (UG.pi_enumT rfl B.enumerate (pa_cons (C8.pe_c c_bodies_of hr (by omega) rfl (pa_cons (pv 3) pa_nil)) pa_nil)) (pg_tup rfl (pgs_cons (pg_name (i := 4) sc__find_statements.nd rfl (Or.inl rfl)) (pgs_cons (pg_name (i := 5) sc__find_statements.nd rfl (Or.inl rfl)) pgs_nil)))
    (pss_one (ps_expr (C8.pe_c c__find_statements hr (by omega) rfl (pa_cons (pv 5) (pa_cons (pe_or (pv 1) (pe_one (pe_and (pe_cmpR op_eq (pe_ix ix_tup (pv 3) pe_int (fun _ _ => rfl)) pe_str (nomark _)) (pe_one (pe_cmpR op_eq (pv 4) pe_int (nomark _)))))) (pa_cons (pv 2) pa_nil))))))))))), ?_⟩
    obtain ⟨a, xs, rfl, hs, ha, hl⟩ := len_ok hd
    have hlb : xs.length = b.length := by rw [hl, ds_len]
    refine ⟨_, rfl, a, rfl, ⟨_, hs⟩, ?_⟩
    refine for_tup (xs := xs) (fun i σ H' => ∃ b3 b4 b5 more, σ = [some (.ref a), some (.bl sec), some (.ref F), b3, b4, b5] ∧ H' F = some (.lst (acc ++ more)) ∧ Fds K L N H' more ∧ more.length = ns (b.take i) ∧ Tk H H' ∧ Kp [F] H H') ?_ ?_ ?_ ?_
    · exact ⟨none, none, none, [], rfl, by rw [List.append_nil]; exact hF, fun _ h => (List.not_mem_nil h).elim, by simp [ns], Tk.refl H, Kp.refl H⟩
    · rintro i σ H' _ ⟨_, _, _, _, _, _, _, _, t, _⟩
      exact t.sqt hs
    · rintro i x _ H1 hx ⟨b3, b4, b5, more, rfl, hF1, fd1, ml, t1, k1⟩
      obtain ⟨dd, hdd, hdp⟩ := dps_get' ha hx
      obtain ⟨s, hsb, rfl⟩ := ds_get hdd
      have hsm : s ∈ b := List.mem_of_getElem? hsb
      have hso : s.ok L N sec := oks_iff.mp hok s hsm
      have hsk := ks_mem hsm
      have hnt := ns_take hsb
      have hntl := ns_take_le b (i + 1)
      have hnp := n_bs s
      have hd1 := t1.dp _ (tup_St s) hdp
      refine ⟨_, rfl, .inl ⟨rfl, _, SqL.of hF1⟩, _, rfl, _, rfl, (by show 2 ≤ sizeLine; decide), fun p hp => ?_⟩
      have np : p ≠ F := fun z => by rw [← z, hp] at hF1; cases hF1
      have hF2 : upd H1 p (.tup [x, .bl sec]) F = some (.lst (acc ++ more)) := by rw [upd_ne (Ne.symm np)]; exact hF1
      refine ⟨F, _, _, rfl, rfl, hF2, Nat.lt_of_le_of_lt (show _ ≤ 1000 by rw [List.length_append]; omega) (by decide), ?_⟩
      have t2 : Tk H1 (upd (upd H1 p (.tup [x, .bl sec])) F (.lst (acc ++ more ++ [.ref p]))) := (Tk.new hp _).trans (Tk.put hF2 _)
      have k2 : Kp [F] H1 (upd (upd H1 p (.tup [x, .bl sec])) F (.lst (acc ++ more ++ [.ref p]))) := (Kp.of_same (same_new hp _)).trans (Kp.put _ (by simp))
      have hF3 : upd (upd H1 p (.tup [x, .bl sec])) F (.lst (acc ++ more ++ [.ref p])) F = some (.lst (acc ++ (more ++ [.ref p]))) := by rw [upd_same, List.append_assoc]
      have fd3 : Fds K L N (upd (upd H1 p (.tup [x, .bl sec])) F (.lst (acc ++ more ++ [.ref p]))) (more ++ [.ref p]) := (fd1.tk t2).app fun v hv => by
        cases List.mem_singleton.mp hv
        refine ⟨p, x, s, sec, rfl, SqT.of ?_, t2.dp _ (tup_St s) hd1, hso⟩
        rw [upd_ne np]
        exact upd_same
      show (fun H3 => _) (upd (upd H1 p (.tup [x, .bl sec])) F (.lst (acc ++ more ++ [.ref p])))
      have t3 := t1.trans t2
      have k3 := k1.trans k2
      generalize upd (upd H1 p (.tup [x, .bl sec])) F (.lst (acc ++ more ++ [.ref p])) = H3 at hF3 fd3 t3 k3
      have hd3 := t3.dp _ (tup_St s) hdp
      refine ⟨_, rfl, x, s, rfl, hd3, fun v' H4 s4 hd4 => ?_⟩
      obtain ⟨ra, rxs, rfl, hrs, hra, hrl⟩ := len_ok hd4
      rw [dss_len] at hrl
      refine ⟨ra, _, rfl, hrs, ?_⟩
      refine for_enumT (xs := rxs) (fun j σ H' => ∃ b4 b5 more2, σ = [some (.ref a), some (.bl sec), some (.ref F), some x, b4, b5] ∧ H' F = some (.lst (acc ++ (more ++ [.ref p] ++ more2))) ∧ Fds K L N H' (more ++ [.ref p] ++ more2) ∧ more2.length = nss (s.bs.take j) ∧ Tk H4 H' ∧ Kp [F] H4 H') ?_ ?_ ?_ ?_
      · exact ⟨b4, b5, [], rfl, by rw [List.append_nil]; exact s4 _ _ hF3, by rw [List.append_nil]; exact fd3.tk (Tk.same s4), by simp [nss], Tk.refl _, Kp.refl _⟩
      · rintro j σ H' _ ⟨_, _, _, _, _, _, _, t, _⟩
        exact t.sqt hrs
      · rintro j y _ H5 Tp hy ⟨b4', b5', more2, rfl, hF5, fd5, ml5, t5, k5⟩ hTp
        obtain ⟨dd2, hdd2, hdp2⟩ := dps_get' hra hy
        obtain ⟨b2, hb2, rfl⟩ := dss_get hdd2
        have sT := same_new hTp (.tup [.int (j : Nat), y])
        refine ⟨Tp, _, rfl, SqT.of upd_same, rfl, _, _, rfl, _, _, rfl, rfl, ?_⟩
        have hF6 := sT _ _ hF5
        have t6 := t5.trans (Tk.same sT)
        have k6 : Kp [F] H4 _ := k5.trans (Kp.of_same sT)
        have fd6 := fd5.tk (Tk.same sT)
        generalize upd H5 Tp (.tup [.int (j : Nat), y]) = H6 at hF6 t6 k6 fd6
        have hx6 := ((Tk.same s4).trans t6).dp _ (tup_St s) hd3
        obtain ⟨r, er⟩ := d_word s
        rw [er] at hx6
        obtain ⟨xa, xxs, rfl, hxs, hxa, hxl⟩ := len_ok hx6
        cases hxa with
        | @cons v0 _ _ _ h0 hxa =>
        cases h0
        have hfl := flag_ok hso hb2
        have hkb := bs_k hb2
        have nt := nss_takeS hb2
        have ntl := nss_take_le s.bs (j + 1)
        refine ⟨_, rfl, _, rfl, _, rfl, ?_⟩
        have call : ∀ flag : Bool, oks L N flag b2 → spFS K n [y, .bl flag, .ref F] H6 (fun _ H' => ∃ b4 b5 more2, ([some (.ref a), some (.bl sec), some (.ref F), some (.ref xa), some (.int (j : Int)), some y] : L2.St) = [some (.ref a), some (.bl sec), some (.ref F), some (.ref xa), b4, b5] ∧ H' F = some (.lst (acc ++ (more ++ [.ref p] ++ more2))) ∧ Fds K L N H' (more ++ [.ref p] ++ more2) ∧ more2.length = nss (s.bs.take (j + 1)) ∧ Tk H4 H' ∧ Kp [F] H4 H') C8.E0 := fun flag hfl => by
          refine ⟨y, b2, flag, F, _, L, N, rfl, t6.dp (.tuple (ds b2)) (tup_ds b2) hdp2, by omega, hfl, hF6, ?_, fun H7 m7 h71 h72 h73 t7 k7 => ?_⟩
          · rw [List.length_append, List.length_append, List.length_append]
            simp
            omega
          · refine ⟨_, _, more2 ++ m7, rfl, ?_, ?_, ?_, t6.trans t7, k6.trans k7⟩
            · rw [h71]; simp
            · have := (fd6.tk t7).app h72
              rw [List.append_assoc] at this
              exact this
            · rw [List.length_append]; omega
        cases sec with
        | true =>
          refine iteT ?_
          exact ⟨_, rfl, call true (by simpa using hfl)⟩
        | false =>
          refine iteF ⟨_, rfl, _, _, _, _, rfl, rfl, hxs, at0 _ _, rfl, _, rfl, ?_⟩
          rw [dec_str, w_en]
          rw [Bool.false_or] at hfl
          cases he : isEn s with
          | false =>
            rw [he, Bool.false_and] at hfl
            exact iteF ⟨_, rfl, call false hfl⟩
          | true =>
            rw [he, Bool.true_and] at hfl
            refine iteT ⟨_, rfl, rfl, ?_⟩
            rw [dec_int]
            exact ⟨_, rfl, call _ hfl⟩
      · rintro σ H5 ⟨b4', b5', more2, rfl, hF5, fd5, ml5, t5, k5⟩
        rw [hrl, List.take_length] at ml5
        exact ⟨_, _, _, _, rfl, hF5, fd5, by simp; omega, (t3.trans (Tk.same s4)).trans t5, (k3.trans (Kp.of_same s4)).trans k5⟩
    · rintro σ H1 ⟨b3, b4, b5, more, rfl, hF1, fd1, ml, t1, k1⟩
      rw [hlb, List.take_length] at ml
      exact q H1 more hF1 fd1 ml t1 k1
theorem fs_all {f : Addr} {fd : FuncData} (F : C8.Def K mg "_find_statements" (topS 30) f fd) (b : Binds K fd ["body", "is_second", "found"] []) (B : Bl K mg) (c_bodies_of : C8.Cal P w K mg base 1 "bodies_of" (spBod K) []) : ∀ n : Nat, C8.Cal P w K mg base (n + 2) "_find_statements" (spFS K n) []
  | 0 => by
    refine C8.cal0 F b .nil sc__find_statements ?len ?body
    case len => rintro vs H Q E ⟨_, _, _, _, _, _, _, _, _, h, _⟩; exact absurd h (Nat.not_lt_zero _)
    case body => rintro cdv A outer s H vs Q E hr ⟨_, _, _, _, _, _, _, _, _, h, _⟩; exact absurd h (Nat.not_lt_zero _)
  | n + 1 => ok_fs F b B c_bodies_of (fs_all F b B c_bodies_of n)
end
end K09


set_option Elab.async false
set_option linter.all false
set_option maxRecDepth 100000
set_option maxHeartbeats 8000000
namespace K09
open PySem PySem.Spec PyProof.Rows L2
theorem strs_vals {K : PySem.W.Frag} {H : Hp} : ∀ {L : List Str} {xs : List V}, DpAll K H xs (L.map PyData.str) → xs = L.map V.str
  | [], _, h => by cases h; rfl
  | x :: r, _, h => by
    cases h with
    | cons h1 h2 =>
      cases h1
      rw [strs_vals h2]
      rfl
section
variable {P : Program} {w : World} {K : PySem.W.Frag} {mg : Str → Option Value} {base : Heap}

def spBF (K : PySem.W.Frag) : Sp := fun vs H Q _ => ∃ v la na b L N, vs = [v, .ref la, .ref na] ∧ Dp K H v (.tuple (ds b)) ∧ ks b ≤ 12 ∧ ns b ≤ 200 ∧ oks L N false b ∧ SqT K H la (L.map V.str) ∧ SqL K H na (N.map V.str) ∧ ∀ H', Same H H' → Q .non H'
theorem sc__body_fault : FnScope ["body", "letters", "names", "found", "statement", "is_second", "word"] ["body", "letters", "names"] (C8.fnScope (topS 29)) := C8.fnScope_by (by decide +kernel)
theorem ok__body_fault {f : Addr} {fd : FuncData} (F : C8.Def K mg "_body_fault" (topS 29) f fd) (b : Binds K fd ["body", "letters", "names"] []) (B : Bl K mg) (c__find_statements : C8.Cal P w K mg base 15 "_find_statements" (spFS K 13) []) : C8.Cal P w K mg base 16 "_body_fault" (spBF K) [] := by
  refine C8.cal0 F b .nil sc__body_fault ?len ?body
  case len => rintro vs H Q E ⟨v, la, na, b, L, N, rfl, _⟩; rfl
  case body =>
    rintro cdv A outer s H vs Q E hr ⟨v, la, na, b, L, N, rfl, hd, hk, hn, hok, hla, hna, q⟩
    refine ⟨_, (pss_cons (ps_set (i := 3) sc__body_fault.nd rfl (Or.inl rfl) (pe_lst pa_nil))
    (pss_cons (ps_expr (C8.pe_c c__find_statements hr (by decide) rfl (pa_cons (pv 0) (pa_cons pe_bl (pa_cons (pv 3) pa_nil)))))
    (pss_cons (ps_for PassesOwn.never rfl (pi_list (pv 3)) (pg_tup rfl (pgs_cons (pg_name (i := 4) sc__body_fault.nd rfl (Or.inl rfl)) (pgs_cons (pg_name (i := 5) sc__body_fault.nd rfl (Or.inl rfl)) pgs_nil)))
    (pss_cons (ps_set (i := 6) sc__body_fault.nd rfl (Or.inl rfl) (pe_ix ix_tup (pv 4) pe_int (fun _ _ => rfl)))
    (pss_cons (ps_if (PW.pt (pw_and (pt_cmpR op_in_seq (pv 6) (pe_tup (pa_cons pe_str (pa_cons pe_str pa_nil))) (by with_unfolding_all rfl)) (pw_and1 (pt_cmpR op_notIn_seq (pe_ix ix_tup (pv 4) pe_int (fun _ _ => rfl)) (pv 1) (by with_unfolding_all rfl))))) (pss_one (ps_ret pe_str)) pss_nil)
    (pss_cons (ps_if (PW.pt (pw_and (pt_cmpR op_eq (pv 6) pe_str (nomark _)) (pw_and1 (pt_cmpR op_notIn_seq (pe_ix ix_tup (pv 4) pe_int (fun _ _ => rfl)) (pv 2) (by with_unfolding_all rfl))))) (pss_one (ps_ret pe_str)) pss_nil)
    (pss_one (ps_if (PW.pt (pw_and (pt_cmpR op_eq (pv 6) pe_str (nomark _)) (pw_and1 (pt_val (pv 5))))) (pss_one (ps_ret pe_str)) pss_nil))))))
    (pss_one (ps_ret pe_non))))), ?_⟩
    refine ⟨(by show 0 ≤ sizeLine; decide), fun F hF => ?_⟩
    have s1 := same_new hF (.lst [])
    refine ⟨_, rfl, _, rfl, v, b, false, F, [], L, N, rfl, dp_ext (same_ext s1) _ hd, by omega, hok, upd_same, by simp; omega, fun H2 more hF2 fd2 ml t2 k2 => ?_⟩
    rw [List.nil_append] at hF2
    have s2 : Same H H2 := fun p o e => k2 p o (fun z => by cases List.mem_singleton.mp z; rw [hF] at e; cases e) (s1 p o e)
    refine ⟨_, rfl, F, rfl, ⟨_, SqL.of hF2⟩, ?_⟩
    refine for_list (xs := more) (fun i σ H' => ∃ b4 b5 b6, σ = [some v, some (.ref la), some (.ref na), some (.ref F), b4, b5, b6] ∧ Same H2 H') ?_ ?_ ?_ ?_
    · exact ⟨none, none, none, rfl, Same.refl _⟩
    · rintro i σ H' _ ⟨_, _, _, _, s3⟩
      exact SqL.of (s3 _ _ hF2)
    · rintro i x _ H3 hx ⟨b4, b5, b6, rfl, s3⟩
      obtain ⟨p, xv, st, sec, rfl, hp, hxd, hso⟩ := fd2 x (List.mem_of_getElem? hx)
      have hp3 := (Tk.same s3).sqt hp
      have hd3 := (Tk.same s3).dp _ (tup_St st) hxd
      have hla3 := sqt_ext (same_ext (s2.trans s3)) hla
      have hna3 := sq_ext (same_ext (s2.trans s3)) hna
      refine ⟨p, _, rfl, hp3, rfl, _, _, rfl, _, _, rfl, rfl, ?_⟩
      cases st with
      | dd x =>
        obtain ⟨a, xs, rfl, hs, ha, hl⟩ := len_ok hd3
        cases ha with
        | cons h0 ha =>
        cases h0
        refine ⟨_, rfl, _, _, _, _, rfl, rfl, hs, at0 _ _, ?_⟩
        refine ⟨_, rfl, (by show 2 ≤ sizeLine; decide), fun p2 hp2 => ⟨p2, _, rfl, .inr (SqT.of upd_same), rfl, rfl, _, rfl, ?_⟩⟩
        have sN := same_new hp2 (.tup [.str "do", .str "undo"])
        have hs' := sqt_ext (same_ext sN) hs
        have hla4 := sqt_ext (same_ext sN) hla3
        have hna4 := sq_ext (same_ext sN) hna3
        refine ifT (by decide +kernel) ?_
        cases ha with
        | cons h1 ha =>
        cases h1
        have hin : x ∈ L := hso
        refine ⟨_, rfl, _, _, _, _, rfl, rfl, hs', at1 _ _ _, _, rfl, la, _, rfl, .inr hla4, rfl, flat_strs _, _, rfl, ?_⟩
        show if (!inV (.str x) (L.map V.str)) = true then _ else _
        rw [inV_strs, decide_eq_true hin]
        refine iteF ?_
        refine ⟨_, rfl, rfl, _, rfl, ?_⟩
        rw [dec_str]
        refine ifF (by decide +kernel) ?_
        refine ⟨_, rfl, rfl, _, rfl, ?_⟩
        rw [dec_str]
        refine ifF (by decide +kernel) ?_
        exact ⟨_, _, _, rfl, s3.trans sN⟩
      | ud x =>
        obtain ⟨a, xs, rfl, hs, ha, hl⟩ := len_ok hd3
        cases ha with
        | cons h0 ha =>
        cases h0
        refine ⟨_, rfl, _, _, _, _, rfl, rfl, hs, at0 _ _, ?_⟩
        refine ⟨_, rfl, (by show 2 ≤ sizeLine; decide), fun p2 hp2 => ⟨p2, _, rfl, .inr (SqT.of upd_same), rfl, rfl, _, rfl, ?_⟩⟩
        have sN := same_new hp2 (.tup [.str "do", .str "undo"])
        have hs' := sqt_ext (same_ext sN) hs
        have hla4 := sqt_ext (same_ext sN) hla3
        have hna4 := sq_ext (same_ext sN) hna3
        refine ifT (by decide +kernel) ?_
        cases ha with
        | cons h1 ha =>
        cases h1
        have hin : x ∈ L := hso
        refine ⟨_, rfl, _, _, _, _, rfl, rfl, hs', at1 _ _ _, _, rfl, la, _, rfl, .inr hla4, rfl, flat_strs _, _, rfl, ?_⟩
        show if (!inV (.str x) (L.map V.str)) = true then _ else _
        rw [inV_strs, decide_eq_true hin]
        refine iteF ?_
        refine ⟨_, rfl, rfl, _, rfl, ?_⟩
        rw [dec_str]
        refine ifF (by decide +kernel) ?_
        refine ⟨_, rfl, rfl, _, rfl, ?_⟩
        rw [dec_str]
        refine ifF (by decide +kernel) ?_
        exact ⟨_, _, _, rfl, s3.trans sN⟩
      | cl x =>
        obtain ⟨a, xs, rfl, hs, ha, hl⟩ := len_ok hd3
        cases ha with
        | cons h0 ha =>
        cases h0
        refine ⟨_, rfl, _, _, _, _, rfl, rfl, hs, at0 _ _, ?_⟩
        refine ⟨_, rfl, (by show 2 ≤ sizeLine; decide), fun p2 hp2 => ⟨p2, _, rfl, .inr (SqT.of upd_same), rfl, rfl, _, rfl, ?_⟩⟩
        have sN := same_new hp2 (.tup [.str "do", .str "undo"])
        have hs' := sqt_ext (same_ext sN) hs
        have hla4 := sqt_ext (same_ext sN) hla3
        have hna4 := sq_ext (same_ext sN) hna3
        refine ifF (by decide +kernel) ?_
        refine ⟨_, rfl, rfl, _, rfl, ?_⟩
        rw [dec_str]
        refine ifT (by decide +kernel) ?_
        cases ha with
        | cons h1 ha =>
        cases h1
        have hin : x ∈ N := hso
        refine ⟨_, rfl, _, _, _, _, rfl, rfl, hs', at1 _ _ _, _, rfl, na, _, rfl, .inl hna4, rfl, flat_strs _, _, rfl, ?_⟩
        show if (!inV (.str x) (N.map V.str)) = true then _ else _
        rw [inV_strs, decide_eq_true hin]
        refine iteF ?_
        refine ⟨_, rfl, rfl, _, rfl, ?_⟩
        rw [dec_str]
        refine ifF (by decide +kernel) ?_
        exact ⟨_, _, _, rfl, s3.trans sN⟩
      | rt =>
        obtain ⟨a, xs, rfl, hs, ha, hl⟩ := len_ok hd3
        cases ha with
        | cons h0 ha =>
        cases h0
        refine ⟨_, rfl, _, _, _, _, rfl, rfl, hs, at0 _ _, ?_⟩
        refine ⟨_, rfl, (by show 2 ≤ sizeLine; decide), fun p2 hp2 => ⟨p2, _, rfl, .inr (SqT.of upd_same), rfl, rfl, _, rfl, ?_⟩⟩
        have sN := same_new hp2 (.tup [.str "do", .str "undo"])
        have hs' := sqt_ext (same_ext sN) hs
        have hla4 := sqt_ext (same_ext sN) hla3
        have hna4 := sq_ext (same_ext sN) hna3
        refine ifF (by decide +kernel) ?_
        refine ⟨_, rfl, rfl, _, rfl, ?_⟩
        rw [dec_str]
        refine ifF (by decide +kernel) ?_
        refine ⟨_, rfl, rfl, _, rfl, ?_⟩
        rw [dec_str]
        have hsec : sec = false := hso
        subst hsec
        refine ifT (by decide +kernel) ?_
        refine ⟨_, rfl, _, rfl, ?_⟩
        exact iteF ⟨_, _, _, rfl, s3.trans sN⟩
      | ch bs =>
        obtain ⟨a, xs, rfl, hs, ha, hl⟩ := len_ok hd3
        cases ha with
        | cons h0 ha =>
        cases h0
        refine ⟨_, rfl, _, _, _, _, rfl, rfl, hs, at0 _ _, ?_⟩
        refine ⟨_, rfl, (by show 2 ≤ sizeLine; decide), fun p2 hp2 => ⟨p2, _, rfl, .inr (SqT.of upd_same), rfl, rfl, _, rfl, ?_⟩⟩
        have sN := same_new hp2 (.tup [.str "do", .str "undo"])
        have hs' := sqt_ext (same_ext sN) hs
        have hla4 := sqt_ext (same_ext sN) hla3
        have hna4 := sq_ext (same_ext sN) hna3
        refine ifF (by decide +kernel) ?_
        refine ⟨_, rfl, rfl, _, rfl, ?_⟩
        rw [dec_str]
        refine ifF (by decide +kernel) ?_
        refine ⟨_, rfl, rfl, _, rfl, ?_⟩
        rw [dec_str]
        refine ifF (by decide +kernel) ?_
        exact ⟨_, _, _, rfl, s3.trans sN⟩
      | lp b =>
        obtain ⟨a, xs, rfl, hs, ha, hl⟩ := len_ok hd3
        cases ha with
        | cons h0 ha =>
        cases h0
        refine ⟨_, rfl, _, _, _, _, rfl, rfl, hs, at0 _ _, ?_⟩
        refine ⟨_, rfl, (by show 2 ≤ sizeLine; decide), fun p2 hp2 => ⟨p2, _, rfl, .inr (SqT.of upd_same), rfl, rfl, _, rfl, ?_⟩⟩
        have sN := same_new hp2 (.tup [.str "do", .str "undo"])
        have hs' := sqt_ext (same_ext sN) hs
        have hla4 := sqt_ext (same_ext sN) hla3
        have hna4 := sq_ext (same_ext sN) hna3
        refine ifF (by decide +kernel) ?_
        refine ⟨_, rfl, rfl, _, rfl, ?_⟩
        rw [dec_str]
        refine ifF (by decide +kernel) ?_
        refine ⟨_, rfl, rfl, _, rfl, ?_⟩
        rw [dec_str]
        refine ifF (by decide +kernel) ?_
        exact ⟨_, _, _, rfl, s3.trans sN⟩
      | en b c =>
        obtain ⟨a, xs, rfl, hs, ha, hl⟩ := len_ok hd3
        cases ha with
        | cons h0 ha =>
        cases h0
        refine ⟨_, rfl, _, _, _, _, rfl, rfl, hs, at0 _ _, ?_⟩
        refine ⟨_, rfl, (by show 2 ≤ sizeLine; decide), fun p2 hp2 => ⟨p2, _, rfl, .inr (SqT.of upd_same), rfl, rfl, _, rfl, ?_⟩⟩
        have sN := same_new hp2 (.tup [.str "do", .str "undo"])
        have hs' := sqt_ext (same_ext sN) hs
        have hla4 := sqt_ext (same_ext sN) hla3
        have hna4 := sq_ext (same_ext sN) hna3
        refine ifF (by decide +kernel) ?_
        refine ⟨_, rfl, rfl, _, rfl, ?_⟩
        rw [dec_str]
        refine ifF (by decide +kernel) ?_
        refine ⟨_, rfl, rfl, _, rfl, ?_⟩
        rw [dec_str]
        refine ifF (by decide +kernel) ?_
        exact ⟨_, _, _, rfl, s3.trans sN⟩
    · rintro σ H3 ⟨b4, b5, b6, rfl, s3⟩
      exact q H3 (s2.trans s3)
def spCheck (K : PySem.W.Frag) (Ts : List Addr) : Sp := fun vs H Q _ => ∃ v L P, vs = [v] ∧ Dp K H v (progD L P) ∧ Prog L P ∧ Tbs Ts H ∧ ∀ H', Go Ts H H' → Q .non H'
theorem sc_check : FnScope ["program", "letters", "procedures", "names", "procedure", "double", "name", "body", "word"] ["program"] (C8.fnScope (topS 27)) := C8.fnScope_by (by decide +kernel)
theorem ok_check {Ts : List Addr} {f : Addr} {fd : FuncData} (F : C8.Def K mg "check" (topS 27) f fd) (b : Binds K fd ["program"] []) (B : Bl K mg) (c_want_program : C8.Cal P w K mg base 9 "want_program" (spWant K Ts) []) (c_fdT : C8.Cal P w K mg base 1 "_first_double" (spFDT K) []) (c_fdL : C8.Cal P w K mg base 1 "_first_double" (spFDL K) []) (c__body_fault : C8.Cal P w K mg base 16 "_body_fault" (spBF K) []) : C8.Cal P w K mg base 17 "check" (spCheck K Ts) [] := by
  refine C8.cal0 F b .nil sc_check ?len ?body
  case len => rintro vs H Q E ⟨v, L, Ps, rfl, _⟩; rfl
  case body =>
    rintro cdv A outer s H vs Q E hr ⟨v, L, Ps, rfl, hd, hP, hTb, q⟩
    refine ⟨_, (pss_cons (ps_expr (C8.pe_c c_want_program hr (by decide) rfl (pa_cons (pv 0) pa_nil)))
    (pss_cons (ps_asg (pv 0) (pg_tup rfl (pgs_cons (pg_name (i := 1) sc_check.nd rfl (Or.inl rfl)) (pgs_cons (pg_name (i := 2) sc_check.nd rfl (Or.inl rfl)) pgs_nil))))
    (pss_cons (ps_setLc (i := 3) (te := tOp (rIxT K) (tVar 4) (tC (.int 0)))  (own := [("procedure", 4)]) (g := gName 4) (by rfl) sc_check.nd rfl rfl (sw_true rfl rfl rfl (by decide +kernel)) (pi_tup (pv 2)) (blkOk_by (own := [("procedure", 4)]) (N := ["program", "letters", "procedures", "names", "procedure", "double", "name", "body", "word"]) (sc := (C8.fnScope (topS 27))) (by decide +kernel)) (fun _ _ _ _ _ => pg_name (i := 4) sc_check.nd rfl (Or.inl rfl)) (fun _ _ _ _ _ => pts_nil) (fun _ _ _ _ _ => by exact (pe_ix ix_tup (pv 4) pe_int (fun _ _ => rfl))))
    (pss_cons (ps_set (i := 5) sc_check.nd rfl (Or.inl rfl) (C8.pe_c c_fdT hr (by decide) rfl (pa_cons (pv 1) pa_nil)))
    (pss_cons (ps_if (pt_cmpR op_notN (pv 5) pe_non (nomark _)) (pss_one (ps_ret (pe_tup (pa_cons pe_str (pa_cons (pv 5) pa_nil))))) pss_nil)
    (pss_cons (ps_set (i := 5) sc_check.nd rfl (Or.inl rfl) (C8.pe_c c_fdL hr (by decide) rfl (pa_cons (pv 3) pa_nil)))
    (pss_cons (ps_if (pt_cmpR op_notN (pv 5) pe_non (nomark _)) (pss_one (ps_ret (pe_tup (pa_cons pe_str (pa_cons (pv 5) pa_nil))))) pss_nil)
    (pss_cons (ps_for PassesOwn.never rfl (pi_tup (pv 2)) (pg_tup rfl (pgs_cons (pg_name (i := 6) sc_check.nd rfl (Or.inl rfl)) (pgs_cons (pg_name (i := 7) sc_check.nd rfl (Or.inl rfl)) pgs_nil)))
    (pss_cons (ps_set (i := 8) sc_check.nd rfl (Or.inl rfl) (C8.pe_c c__body_fault hr (by decide) rfl (pa_cons (pv 7) (pa_cons (pv 1) (pa_cons (pv 3) pa_nil)))))
    (pss_one (ps_if (pt_cmpR op_notN (pv 8) pe_non (nomark _)) (pss_one (ps_ret (pe_tup (pa_cons (pv 8) (pa_cons (pv 6) pa_nil))))) pss_nil))))
    (pss_one (ps_ret pe_non)))))))))), ?_⟩
    refine ⟨_, rfl, v, L, Ps, rfl, hd, hP, hTb, fun H1 g1 => ?_⟩
    have hd1 := (Tk.go hTb g1).dp _ (tup_prog L Ps) hd
    obtain ⟨a, xs, rfl, hs, ha, hl⟩ := len_ok hd1
    cases ha with
    | @cons vL _ _ _ hvL ha =>
    cases ha with
    | @cons vP _ _ _ hvP ha =>
    cases ha
    refine ⟨_, rfl, a, _, rfl, hs, rfl, _, _, rfl, _, _, rfl, rfl, ?_⟩
    obtain ⟨la, lxs, rfl, hls, hla, hll⟩ := len_ok hvL
    obtain ⟨pa, pxs, rfl, hps, hpa, hpl⟩ := len_ok hvP
    have elx : lxs = L.map V.str := strs_vals hla
    subst elx
    rw [List.length_map] at hpl
    refine ⟨_, rfl, pa, rfl, ⟨_, hps⟩, fun Dd hDd => ?_⟩
    refine lc_tup (xs := pxs) (fun i H' => H' Dd = some (.lst (((Ps.take i).map Prod.fst).map V.str)) ∧ Same H1 H') ?_ ?_ ?_ ?_
    · exact ⟨by simpa using upd_same, same_new hDd _⟩
    · rintro i H' _ ⟨_, s5⟩
      exact (Tk.same s5).sqt hps
    · rintro i x H5 hx ⟨hv1, s5⟩
      obtain ⟨d, hd, hdp⟩ := dps_get' hpa hx
      obtain ⟨p, hp, rfl⟩ := procs_get hd
      have hd5 := (Tk.same s5).dp _ (tup_proc p) hdp
      obtain ⟨qa, qxs, rfl, hqs, hqa, hql⟩ := len_ok hd5
      cases hqa with
      | @cons v0 _ _ _ h0 hqa =>
      cases h0
      refine ⟨rfl, ?_⟩
      refine ⟨_, rfl, _, _, _, _, rfl, rfl, hqs, at0 _ _, _, hv1, ?_, ?_, ?_⟩
      · have := hP.p2
        have h3 : (Ps.take i).length ≤ Ps.length := List.length_take_le' _ _
        exact Nat.lt_of_le_of_lt (show _ ≤ 8 by rw [List.length_map, List.length_map]; omega) (by decide)
      · rw [upd_same, List.take_succ, hp]
        simp
      · intro b o e
        rw [upd_ne (fun z => by rw [z, hDd] at e; cases e)]
        exact s5 _ _ e
    · rintro H5 ⟨hv1, s5⟩
      rw [hpl, List.take_length] at hv1
      have hls5 := (Tk.same s5).sqt hls
      refine ⟨_, rfl, la, L, rfl, hls5, hP.ndL, fun H6 s6 => ?_⟩
      refine ⟨_, rfl, rfl, _, rfl, ?_⟩
      refine iteF ?_
      have hv6 := s6 _ _ hv1
      refine ⟨_, rfl, Dd, Ps.map Prod.fst, rfl, SqL.of hv6, hP.ndN, fun H7 s7 => ?_⟩
      refine ⟨_, rfl, rfl, _, rfl, ?_⟩
      refine iteF ?_
      have s17 : Same H1 H7 := s5.trans (s6.trans s7)
      have hv7 := s7 _ _ hv6
      refine ⟨_, rfl, pa, rfl, ⟨_, (Tk.same s17).sqt hps⟩, ?_⟩
      refine for_tup (xs := pxs) (fun i σ H' => ∃ b7 b8 b9, σ = [some (.ref a), some (.ref la), some (.ref pa), some (.ref Dd), none, some .non, b7, b8, b9] ∧ Same H7 H') ?_ ?_ ?_ ?_
      · exact ⟨none, none, none, rfl, Same.refl _⟩
      · rintro i σ H' _ ⟨_, _, _, _, s8⟩
        exact (Tk.same (s17.trans s8)).sqt hps
      · rintro i x _ H8 hx ⟨b7, b8, b9, rfl, s8⟩
        obtain ⟨d, hd, hdp⟩ := dps_get' hpa hx
        obtain ⟨p, hp, rfl⟩ := procs_get hd
        have s18 := s17.trans s8
        have hd8 := (Tk.same s18).dp _ (tup_proc p) hdp
        obtain ⟨qa, qxs, rfl, hqs, hqa, hql⟩ := len_ok hd8
        cases hqa with
        | @cons v0 _ _ _ h0 hqa =>
        cases h0
        cases hqa with
        | @cons v1 _ _ _ h1 hqa =>
        cases hqa
        refine ⟨qa, _, rfl, hqs, rfl, _, _, rfl, _, _, rfl, rfl, ?_⟩
        have hpm : p.2 ∈ nsP Ps := List.mem_map.mpr ⟨p, List.mem_of_getElem? hp, rfl⟩
        have hk := kss_mem hpm
        have hn := nss_mem hpm
        have hk2 := hP.ks
        have hn2 := hP.n
        refine ⟨_, rfl, _, rfl, _, rfl, v1, la, Dd, p.2, L, Ps.map Prod.fst, rfl, h1, by omega, by omega, hP.ok _ hpm, (Tk.same s18).sqt hls, SqL.of (s8 _ _ hv7), fun H9 s9 => ?_⟩
        refine ⟨_, rfl, rfl, _, rfl, ?_⟩
        exact iteF ⟨_, _, _, rfl, s8.trans s9⟩
      · rintro σ H8 ⟨b7, b8, b9, rfl, s8⟩
        exact q H8 (g1.trans (Go.of_same g1.1 (s17.trans s8)))
theorem sc_checked : FnScope ["program", "what"] ["program"] (C8.fnScope (topS 31)) := C8.fnScope_by (by decide +kernel)
theorem ok_checked {Ts : List Addr} {f : Addr} {fd : FuncData} (F : C8.Def K mg "checked" (topS 31) f fd) (b : Binds K fd ["program"] []) (B : Bl K mg) (c_check : C8.Cal P w K mg base 17 "check" (spCheck K Ts) []) : C8.Cal P w K mg base 18 "checked" (spCheck K Ts) [] := by
  refine C8.cal0 F b .nil sc_checked ?len ?body
  case len => rintro vs H Q E ⟨v, L, Ps, rfl, _⟩; rfl
  case body =>
    rintro cdv A outer s H vs Q E hr ⟨v, L, Ps, rfl, hd, hP, hTb, q⟩
    refine ⟨_, (pss_cons (ps_set (i := 1) sc_checked.nd rfl (Or.inl rfl) (C8.pe_c c_check hr (by decide) rfl (pa_cons (pv 0) pa_nil)))
    (pss_one (ps_if (pt_cmpR op_notN (pv 1) pe_non (nomark _)) pss_never pss_nil))), ?_⟩
    refine ⟨_, rfl, v, L, Ps, rfl, hd, hP, hTb, fun H1 g1 => ?_⟩
    exact ⟨_, rfl, rfl, _, rfl, iteF (q H1 g1)⟩
end
end K09


set_option Elab.async false
set_option linter.all false
set_option maxRecDepth 100000
set_option maxHeartbeats 8000000
namespace K09
open PySem PySem.Spec PyProof.Rows L2
/-! ### tuples of which the object is known: their methods may be called -/
def TupO (H : Hp) (a : Addr) (ys : List V) : Prop := ∃ o : Obj, H a = some (.frz o (.tup ys)) ∧ o.cls = .type "tuple" ∧ o.dict = none
theorem TupO.tk {H H' : Hp} {a : Addr} {ys : List V} (h : TupO H a ys) (t : Tk H H') : TupO H' a ys := let ⟨o, h1, h2⟩ := h; ⟨o, (t _ _).2 o h1, h2⟩
theorem TupO.sq {K : PySem.W.Frag} {H : Hp} {a : Addr} {ys : List V} (h : TupO H a ys) : SqT K H a ys := let ⟨o, h1, _⟩ := h; .inl (.inr ⟨o, h1⟩)
section
variable {X : Cx}
def rTupZ (K : PySem.W.Frag) : List V → Hp → VK → Prop := fun zs H Q => ∃ (l : Addr) (ys : List V), zs = [.ref l] ∧ SqL K H l ys ∧ ∀ (r : Addr) (ob : Obj), H r = none → ob.cls = .type "tuple" → ob.dict = none → Q (.ref r) (upd H r (.frz ob (.tup ys)))
theorem call_tupleZ : CallR X (.type "tuple") (rTupZ X.K) := by
  intro pins sh σ H zs us Q J rz hyp
  obtain ⟨l, ys, rfl, hl, fin⟩ := hyp
  obtain ⟨u, rfl, ru⟩ := vals1 rz
  have eu : u = Value.ref l := ru
  subst eu
  obtain ⟨its, ri, pp, hsz⟩ := J.list hl
  refine call_tuple_list pp.isList (fun hh keep => ?_) (by rw [List.size_toArray, ← ri.length]; exact hsz)
  have J2 := J.kept (t' := sh.toks) keep
  let ob : Obj := { cls := .type "tuple", data := .seq its.toArray }
  have J3 : Inv X pins σ (upd H hh.objs.size (.frz ob (.tup ys))) { sh with heap := hh.push ob } :=
    J2.laid (t' := sh.toks) (fun _ _ e => Heap.get?_push_of_some _ e) (Nat.le_refl _) ⟨Heap.get?_push_size _ rfl, hsz, its, ri, IsTup.new _ _⟩
  exact ⟨.ref hh.objs.size, _, J3, rfl, fin _ ob (J2.hok.fresh (Nat.le_refl _)) rfl rfl⟩
def tTupM (r : V → List V → Hp → VK → Prop) (to : TE) (t : TA) : TE := fun σ H Q => to σ H fun z H1 => (∃ (a : Addr) (ys : List V), z = .ref a ∧ TupO H1 a ys) ∧ t σ H1 fun zs H2 => r z zs H2 Q
/-- t.index(e), t a tuple of which the object is known -/
theorem pe_tupIx {r : V → List V → Hp → VK → Prop} {o e : Expr} {to : TE} {t : TA} {ap cp : Pos} (hm : MtR X "tuple.index" r) (ho : PE X o to) (ha : PA X [e] t)
    (hb : attributeBase o "index" X.env (eval o X.env) = eval o X.env := by rfl)
    (hf : ((backTo cp (starEach [e] X.env)).all (fun x => !x.1) && (backToKw cp (keywordEach [] X.env)).all (fun x => x.1.isSome) && decide ([e].length + ([] : List Keyword).length + (if ([] : List Keyword).isEmpty then 0 else 1) < 30)) = true := by rfl)
    (hl : (ap.endLine == cp.line) = true := by rfl) (hs : starEach [e] X.env = (false, eval e X.env) :: starEach [] X.env := by rfl) (hp : (backTo cp (starEach [] X.env)).any (·.1) = false := by rfl) :
    PE X (.Call (.Attribute o "index" ap) [e] [] cp) (tTupM r to t) := by
  refine ⟨fun pins sh σ H Q J hyp => wpAny_Call_method_late hb hf hl rfl (thn (ho.run pins sh σ H _ J hyp) ?_)⟩
  rintro v s1 ⟨z, H1, J1, rz, ⟨a, ys, rfl, ob, h1, h2, h3⟩, fin⟩
  have ev : v = Value.ref a := rz
  subst ev
  have hob : s1.heap.get? a = some ob := (J1.hok a _ h1).1
  refine ⟨"tuple", "tuple.index", PySem.F.plainAttrs_tuple, PySem.F.slot_tuple_index, PySem.F.type_tuple_index, ⟨ob, hob, h2⟩, fun b eb => ?_, ?_⟩
  · cases eb
    exact ⟨ob, hob, h3⟩
  · have go := ha.run cp pins s1 σ H1 _ J1 fin
    rw [hs] at go ⊢
    refine Calls.callWith_builtin ?_ (Calls.evalArgs_plain (thn go ?_))
    · show (false || (backTo cp (starEach [] X.env)).any (·.1)) = false
      rw [hp]
      rfl
    · rintro us s2 ⟨zs, H2, J2, r2, q2⟩
      exact hm pins s2 σ H2 _ zs _ us Q J2 rz r2 q2
end
/-! ### the layout only grows -/
mutual
theorem grow_S (L N : List Str) : ∀ (s : St) {lv : List PyData → Int × List PyData} (t : Int) (ps : List PyData), (∀ ps, ps.length ≤ (lv ps).2.length) → ps.length ≤ (layS L N lv s t ps).2.length
  | .dd _, _, _, _, _ | .ud _, _, _, _, _ | .cl _, _, _, _, _ => by rw [layS, List.length_append]; omega
  | .ch bs, lv, t, ps, h => by
    have := grow_Bs L N bs t ps h
    rw [layS, List.length_append]
    omega
  | .lp b, lv, t, ps, h => by
    have := grow_B L N b (ps.length : Nat) (ps ++ [.none]) h
    rw [List.length_append] at this
    rw [layS, List.length_set]
    omega
  | .rt, lv, t, ps, h => h ps
  | .en b c, lv, t, ps, h => by
    have h0 : ∀ ps : List PyData, ps.length ≤ ((fun ps => ((0 : Int), ps)) ps).2.length := fun _ => Nat.le_refl _
    have h1 := grow_B L N c (lv := fun ps => ((0 : Int), ps)) t ps h0
    rw [layS]
    refine Nat.le_trans h1 (grow_B L N b _ _ fun ps => ?_)
    exact Nat.le_trans (h ps) (grow_B L N c _ _ h0)
theorem grow_B (L N : List Str) : ∀ (b : List St) {lv : List PyData → Int × List PyData} (t : Int) (ps : List PyData), (∀ ps, ps.length ≤ (lv ps).2.length) → ps.length ≤ (layB L N lv b t ps).2.length
  | [], _, _, _, _ => Nat.le_refl _
  | s :: r, lv, t, ps, h => by
    rw [layB]
    exact Nat.le_trans (grow_B L N r t ps h) (grow_S L N s _ _ h)
theorem grow_Bs (L N : List Str) : ∀ (b : List (List St)) {lv : List PyData → Int × List PyData} (t : Int) (ps : List PyData), (∀ ps, ps.length ≤ (lv ps).2.length) → ps.length ≤ (layBs L N lv b t ps).2.length
  | [], _, _, _, _ => Nat.le_refl _
  | s :: r, lv, t, ps, h => by
    rw [layBs]
    exact Nat.le_trans (grow_B L N s t ps h) (grow_Bs L N r t _ h)
end
theorem grow_lv0 (ps : List PyData) : ps.length ≤ (lv0 ps).2.length := Nat.le_refl _
theorem fold_app (L N : List Str) (a b : List (List St)) (ps : List PyData) : leave L N (a ++ b) ps = b.foldl (fun q c => layB L N lv0 c q.1 q.2) (leave L N a ps) := by
  unfold leave
  rw [List.foldl_append]
theorem grow_fold (L N : List Str) : ∀ (b : List (List St)) (q : Int × List PyData), q.2.length ≤ (b.foldl (fun q c => layB L N lv0 c q.1 q.2) q).2.length
  | [], _ => Nat.le_refl _
  | c :: r, q => by
    rw [List.foldl_cons]
    exact Nat.le_trans (grow_B L N c q.1 q.2 grow_lv0) (grow_fold L N r _)
theorem grow_leave {L N : List Str} (secs : List (List St)) (ps : List PyData) : ps.length ≤ (leave L N secs ps).2.length := grow_fold L N secs (0, ps)
theorem leave_le {L N : List Str} (a b : List (List St)) (ps : List PyData) : (leave L N a ps).2.length ≤ (leave L N (a ++ b) ps).2.length := by
  rw [fold_app]
  exact grow_fold L N b _
-- data without lists
mutual
theorem tup_S (L N : List Str) : ∀ (s : St) {lv : List PyData → Int × List PyData} (t : Int) (ps : List PyData), (∀ ps, TupDs ps → TupDs (lv ps).2) → TupDs ps → TupDs (layS L N lv s t ps).2
  | .dd _, _, _, _, _, p | .ud _, _, _, _, _, p | .cl _, _, _, _, _, p => tupds_iff.mpr fun d hd => (List.mem_append.mp hd).elim (tupds_iff.mp p d) fun h => by
    cases List.mem_singleton.mp h
    exact ⟨trivial, trivial, trivial, trivial⟩
  | .ch bs, lv, t, ps, h, p => by
    have := tup_Bs L N bs t ps h p
    refine tupds_iff.mpr fun d hd => (List.mem_append.mp hd).elim (tupds_iff.mp this d) fun h => ?_
    cases List.mem_singleton.mp h
    refine ⟨trivial, tupds_iff.mpr fun d hd => ?_, trivial⟩
    obtain ⟨i, _, rfl⟩ := List.mem_map.mp hd
    trivial
  | .lp b, lv, t, ps, h, p => by
    have := tup_B L N b (ps.length : Nat) (ps ++ [.none]) h (tupds_iff.mpr fun d hd => (List.mem_append.mp hd).elim (tupds_iff.mp p d) fun h => by
      cases List.mem_singleton.mp h
      trivial)
    refine tupds_iff.mpr fun d hd => ?_
    rcases List.mem_or_eq_of_mem_set hd with h | h
    · exact tupds_iff.mp this d h
    · subst h
      exact ⟨trivial, ⟨trivial, trivial, trivial⟩, trivial⟩
  | .rt, lv, t, ps, h, p => h ps p
  | .en b c, lv, t, ps, h, p => by
    have h0 : ∀ ps : List PyData, TupDs ps → TupDs ((fun ps => ((0 : Int), ps)) ps).2 := fun _ h => h
    rw [layS]
    exact tup_B L N b _ _ (fun ps p => tup_B L N c _ _ h0 (h ps p)) (tup_B L N c t ps h0 p)
theorem tup_B (L N : List Str) : ∀ (b : List St) {lv : List PyData → Int × List PyData} (t : Int) (ps : List PyData), (∀ ps, TupDs ps → TupDs (lv ps).2) → TupDs ps → TupDs (layB L N lv b t ps).2
  | [], _, _, _, _, p => p
  | s :: r, lv, t, ps, h, p => by
    rw [layB]
    exact tup_S L N s _ _ h (tup_B L N r t ps h p)
theorem tup_Bs (L N : List Str) : ∀ (b : List (List St)) {lv : List PyData → Int × List PyData} (t : Int) (ps : List PyData), (∀ ps, TupDs ps → TupDs (lv ps).2) → TupDs ps → TupDs (layBs L N lv b t ps).2
  | [], _, _, _, _, p => p
  | s :: r, lv, t, ps, h, p => by
    rw [layBs]
    exact tup_Bs L N r t _ h (tup_B L N s t ps h p)
end
theorem tup_fold (L N : List Str) : ∀ (b : List (List St)) (q : Int × List PyData), TupDs q.2 → TupDs (b.foldl (fun q c => layB L N lv0 c q.1 q.2) q).2
  | [], _, h => h
  | c :: r, q, h => by
    rw [List.foldl_cons]
    exact tup_fold L N r _ (tup_B L N c q.1 q.2 (fun _ h => h) h)
theorem tup_leave {L N : List Str} (secs : List (List St)) (ps : List PyData) (h : TupDs ps) : TupDs (leave L N secs ps).2 := tup_fold L N secs (0, ps) h
theorem idx_get {L : List Str} {x : Str} (h : x ∈ L) : L[L.findIdx (· == x)]? = some x ∧ ∀ m, m < L.findIdx (· == x) → L[m]? ≠ some x := by
  have hlt : L.findIdx (· == x) < L.length := List.findIdx_lt_length_of_exists ⟨x, h, by simp⟩
  constructor
  · have := List.findIdx_getElem (w := hlt)
    rw [List.getElem?_eq_getElem hlt]
    simpa using this
  · intro m hm e
    have := List.not_of_lt_findIdx hm
    have e2 := (List.getElem?_eq_some_iff.mp e).2
    simp [e2] at this
end K09


set_option Elab.async false
set_option linter.all false
set_option maxRecDepth 100000
set_option maxHeartbeats 4000000
/-! d.setdefault(t, e), t a tuple of ints and texts -/
namespace UG
open PySem PySem.Spec PyProof.Rows L2
section
variable {X : Cx} {pins : List (Addr × Obj)} {σ : L2.St} {H : Hp} {sh : Shared} {D b : Addr} {r : Value} {d : V} {k : List Key} {A : Around} {E : Value → Shared → Prop} {kvs : List (List Key × V)} {Q : Value → Shared → Prop}
theorem setd_tup (room : A.units + 1 < cLine) (J : Inv X pins σ H sh) (hD : H D = some (.dT kvs)) (hb : H b = some (.tup (k.map kV))) (rd : RelV d r) (small : kvs.length < sizeLine)
    (there : ∀ v, valV kvs k = some v → ∀ u s1, Inv X pins σ H s1 → RelV v u → Q u s1)
    (gone : valV kvs k = none → ∀ s1, Inv X pins σ (upd H D (.dT (putK kvs k d))) s1 → Q r s1) :
    wpAny (model X.prog X.w) A (call (.builtin "dict.setdefault") [.ref D, .ref b, r]) Q E sh := by
  obtain ⟨z0, nsys, ents, kt, dict⟩ := dt_of J.hok hD
  have le0 : ents.length ≤ sizeLine := by have := Paired.length kt; omega
  have le1 : (putK kvs k d).length ≤ sizeLine := by have := length_putK kvs k d; omega
  have vk := kt.val k
  refine call_setdefault_heap (hsz := le0) (tupleKind_room_in1 room) (key_of J.hok hb) nsys dict (fun pr found => ?_) fun no h1 dict1 but => ?_
  · rw [found] at vk
    cases e0 : valV kvs k with
    | none => rw [e0] at vk; exact vk.elim
    | some v0 =>
      rw [e0] at vk
      exact there v0 e0 _ _ (J.tok _) vk
  · have e0 : valV kvs k = none := by
      cases q : valV kvs k with
      | none => rfl
      | some v0 =>
        rw [q, no] at vk
        exact (show False from vk).elim
    obtain ⟨ob, es, ep, at1, x2, x3, x4, _, x5⟩ := dict1
    refine gone e0 _ (d_write J (by rw [hD]; exact True.intro) but ⟨ob, at1⟩ ⟨le1, nsys, _, (kt.put k hb rd).keeps fun c ys ec => ?_, ob, es, ep, at1, x2, x3, x4, x5⟩)
    rw [upd_ne (ne_of ec hD (fun w => nomatch w))]
    exact ec
end
/-- d.setdefault(t, e) -/
def tSetdT (td ty tx : TE) : TE := fun σ H Q => td σ H fun x H1 => (∃ D kvs, x = .ref D ∧ H1 D = some (.dT kvs)) ∧ ty σ H1 fun y H2 => tx σ H2 fun z H3 => ∃ (D b : Addr) (kvs : List (List Key × V)) (k : List Key), x = .ref D ∧ y = .ref b ∧ H3 D = some (.dT kvs) ∧ H3 b = some (.tup (k.map kV)) ∧ kvs.length < sizeLine ∧
  (∀ v, valV kvs k = some v → Q v H3) ∧ (valV kvs k = none → Q z (upd H3 D (.dT (putK kvs k z))))
section
variable {X : Cx} {o e f : Expr} {td ty tx : TE} {apos cpos : Pos}
theorem pe_setdT (room : X.A.units + 1 < cLine) (ho : PE X o td) (he : PE X e ty) (hf : PE X f tx) (m : M2 X o "setdefault" apos e f cpos) :
    PE X (.Call (.Attribute o "setdefault" apos) [e, f] [] cpos) (tSetdT td ty tx) := by
  constructor
  intro pins sh σ H Q J hyp
  refine wpAny_Call_method m.base m.few m.line PySem.F.plainAttrs_dict PySem.F.slot_dict_setdefault PySem.F.type_dict_setdefault (thn (ho.run pins sh σ H _ J hyp) ?_)
  rintro w0 sA ⟨x, HA, JA, rx, ⟨D, kvs0, rfl, hD0⟩, qA⟩
  have ew : w0 = Value.ref D := rx
  subst ew
  obtain ⟨ty1, ty2, _⟩ := isD_at JA (.inr ⟨kvs0, .inl hD0⟩)
  refine ⟨ty1, ty2, ?_⟩
  rw [m.trees]
  refine Calls.callWith_builtin rfl (Calls.evalArgs_plain (Calls.spliced_cons (thn (he.run pins sA σ HA _ JA qA) ?_)))
  rintro w1 sB ⟨y, HB, JB, ry, qB⟩
  refine Calls.spliced_cons (thn (hf.run pins sB σ HB _ JB qB) ?_)
  rintro w2 sC ⟨z, HC, JC, rz, D1, b, kvs, k, eD, ey, hD, hb, small, q1, q2⟩
  cases eD
  subst ey
  have e1 : w1 = Value.ref b := ry
  subst e1
  exact Calls.spliced_nil (setd_tup room JC hD hb rz small (fun v hv u s1 J1 r1 => ⟨v, _, J1, r1, q1 v hv⟩) fun hn s1 J1 => ⟨z, _, J1, rz, q2 hn⟩)
end
/-! what putK leaves -/
theorem putK_mem {K : Type} [DecidableEq K] {kvs : List (K × V)} {k : K} {v : V} {e : K × V} (h : e ∈ putK kvs k v) : e ∈ kvs ∨ e.2 = v := by
  unfold putK at h
  split at h
  · obtain ⟨e0, h0, rfl⟩ := List.mem_map.mp h
    by_cases q : e0.1 = k
    · right; rw [if_pos q]
    · left; rw [if_neg q]; exact h0
  · rcases List.mem_append.mp h with h | h
    · exact .inl h
    · right; rw [List.mem_singleton.mp h]
theorem valV_mem {K : Type} [DecidableEq K] {kvs : List (K × V)} {k : K} {v : V} (h : valV kvs k = some v) : ∃ k', (k', v) ∈ kvs := by
  unfold valV at h
  obtain ⟨e, he, rfl⟩ := Option.map_eq_some_iff.mp h
  exact ⟨e.1, List.mem_of_find?_eq_some he⟩
end UG


set_option Elab.async false
set_option linter.all false
set_option maxRecDepth 100000
set_option maxHeartbeats 4000000
/-! a comprehension whose element may raise: the error leaves the block and is in the air of the def -/
namespace UG
open PySem PySem.Spec PyProof.Rows L2

theorem frames_swap {h h' B B' : Heap} (k : ∀ b o, h.get? b = some o → B.get? b = none → h'.get? b = some o) (n : ∀ b, B.get? b = none → B'.get? b = none) : ∀ {l : List Env}, h.FunFrames B l → h'.FunFrames B' l
  | [], _ => trivial
  | _ :: _, ⟨kd, ⟨L, o, ef, eB, eh, nf⟩, rest⟩ => ⟨kd, ⟨L, o, ef, n L eB, k L o eh eB, nf⟩, frames_swap k n rest⟩
section
variable {X : Cx} {pins : List (Addr × Obj)} {σ : L2.St} {H1 : Hp} {s1 s2 : Shared} {W : WX} {E : XK} {C : Addr} {ce : Env} {e : Value}
theorem note_same (hce : ce.frame = X.env.frame) (v : Value) : noteFrame v ce = noteFrame v X.env := by
  unfold noteFrame PySem.frameOf
  rw [hce]
/-- the error of a call within a block, noted, and the block's names let go -/
theorem fly_out (hfr : X.A.frames = some X.stack) (hs : X.stack = X.env :: X.outer) (hf : X.env.frame = some X.env.locals) (tk : Takes X W) (hW : ∀ cls d σ H, E cls d H → W cls d σ H) (J : Inv X pins σ H1 s1) (fp : FpOk X pins H1 C)
    (hn : ∃ m, s1.heap.Ns C m) (hce : ce.frame = X.env.frame) (c : L2.CX X.prog X.w X.stack H1 s1 E e s2) {EE : Value → Shared → Prop} :
    wpAny (model X.prog X.w) X.A (noteFrame e ce) (fun _ s3 => ∃ m, s3.heap.Ns C m ∧ ∀ h', Heap.SameBut C s3.heap h' →
      wpAny (model X.prog X.w) X.A (PySem.passOn "comprehension.variables-let-go" e ce : Sem Value) (fun _ _ => False) X.xe { s3 with heap := h' }) EE s2 := by
  obtain ⟨a, B, H2, cls, d, rfl, fl, hok, ub, na, eos, ag, hE⟩ := c
  have nC : C ∉ frs X.stack := fun z => (List.mem_cons.mp (J.stkSub C z)).elim fp.2.1 fp.2.2.1
  obtain ⟨m, oC, es, ep, hoC, rC⟩ := hn
  have bC : B.get? C = some oC := ub.keep C oC hoC fp.1 nC
  have hC2 : H2 C = none := ub.free C oC hoC fp.1
  rw [note_same hce]
  refine HandSPX.looks_onZ (Z := Zc cls d) Zc.steady (by rw [hfr, hs]) hf (by rw [← hs]; exact fl) fun h3 held up => ?_
  rw [← hs] at held
  refine ⟨m, ⟨oC, es, ep, held.1 C oC bC, rC⟩, fun h' sb => ?_⟩
  obtain ⟨B', b1, b2⟩ := restrict h' fun b => (B.get? b).isSome
  obtain ⟨G, g1, g2⟩ := restrict h' fun b => (B.get? b).isSome || decide (b ∈ frs X.stack)
  have noB : ∀ b, B.get? b = none → B'.get? b = none := fun b hb => b2 b (by rw [hb]; rfl)
  have isB : ∀ b o, B.get? b = some o → B'.get? b = h'.get? b := fun b o hb => b1 b (by rw [hb]; rfl)
  have ofB : ∀ b o, B'.get? b = some o → ∃ o', B.get? b = some o' := fun b o hb => by
    cases q : B.get? b with
    | none => rw [noB b q] at hb; cases hb
    | some o' => exact ⟨o', rfl⟩
  have ofNone : ∀ b, B.get? b = none → b ≠ C := fun b hb z => by rw [z, bC] at hb; cases hb
  have st' : B'.StaysIn h' := fun b o hb => by
    obtain ⟨o', q⟩ := ofB b o hb
    rw [isB b o' q] at hb
    exact hb
  have fr' : h'.FunFrames B' X.stack := frames_swap (fun b o hb nb => (sb.2 b (ofNone b nb)).trans hb) noB held.2.2.1
  have aB : B.get? a = none := held.2.1
  have atB : ∀ b o, B.get? b = some o → b ≠ C → h'.get? b = some o := fun b o hb n => (sb.2 b n).trans (held.1 b o hb)
  have atG : ∀ b o, B.get? b = some o → G.get? b = h'.get? b := fun b o hb => g1 b (by rw [hb]; rfl)
  have atF : ∀ b, b ∈ frs X.stack → G.get? b = h'.get? b := fun b hb => g1 b (by rw [decide_eq_true hb, Bool.or_true])
  have ofG : ∀ b o, G.get? b = some o → h'.get? b = some o ∧ ((∃ o', B.get? b = some o') ∨ b ∈ frs X.stack) := fun b o hb => by
    cases q : B.get? b with
    | some o' =>
      rw [atG b o' q] at hb
      exact ⟨hb, .inl ⟨o', rfl⟩⟩
    | none =>
      by_cases z : b ∈ frs X.stack
      · rw [atF b z] at hb
        exact ⟨hb, .inr z⟩
      · rw [g2 b (by rw [q, decide_eq_false z]; rfl)] at hb
        cases hb
  have frF : ∀ b o, s1.heap.get? b = some o → b ∈ frs X.stack → ∃ sl, G.get? b = some { o with slots := sl } := fun b o hb z => by
    obtain ⟨sl, q⟩ := ub.slot b o hb z
    obtain ⟨_, o', q', nf⟩ := J.stack.mem z
    rw [hb] at q'
    cases q'
    obtain ⟨sl2, q2⟩ := up b _ q nf
    refine ⟨sl2, ?_⟩
    rw [atF b z, sb.2 b (fun w => nC (by rw [← w]; exact z))]
    exact q2
  have J2 : Inv X pins σ H2 { s1 with heap := G, gens := s2.gens, drawn := s1.drawn, toks := s1.toks } := by
    refine J.call (ch := [C]) ⟨fun b o hb n1 n2 n3 => ?_, fun b o hb _ z _ => frF b o hb z, fun b o hb n1 _ => ub.free b o hb n1, fun b o hb n3 => ?_, ub.tups, ub.frzs, ub.tbls⟩ (fun b o hb => ?_) ag fun b hb => ?_
    · have q := ub.keep b o hb n1 n2
      rw [atG b o q]
      exact atB b o q (fun w => n3 (by rw [w]; exact List.mem_cons_self))
    · by_cases z : b ∈ frs X.stack
      · obtain ⟨sl, q⟩ := frF b o hb z
        exact ⟨_, q⟩
      · obtain ⟨o', q⟩ := ub.there b o hb z
        exact ⟨o', (atG b o' q).trans (atB b o' q (fun w => n3 (by rw [w]; exact List.mem_cons_self)))⟩
    · refine (hok b o hb).stay (fun b' u hb' r => ?_) (fun _ r => r) fun _ _ r => r
      have n : b' ≠ C := fun w => by
        rcases hb' with z | z
        · rw [← z, w, hC2] at hb; cases hb
        · rw [w, hC2] at z; cases z
      exact (atG b' u r).trans (atB b' u r n)
    · cases List.mem_singleton.mp hb
      exact ⟨fp.2.2.2.1, fp.2.1, fp.2.2.2.2.1, fp.2.2.2.2.2⟩
  obtain ⟨oe, vs, T, oT, ts, he, hz, hd, h1, hnT, hTe, hT, hdT, h4⟩ := held.2.2.2
  have he' : h'.get? a = some oe := (sb.2 a (ofNone a aB)).trans he
  have hT' : h'.get? T = some oT := (sb.2 T (ofNone T hnT)).trans hT
  unfold PySem.passOn
  refine wpAny_bind (wpAny_field he' hd h1 ?_)
  rw [if_neg (show ¬ ((Value.ref T == Value.none) = true) from by simp)]
  have fin : wpAny (model X.prog X.w) X.A (setFlight (.ref a) ce.frame) (fun _ s4 => wpAny (model X.prog X.w) X.A (throw (Value.ref a) : Sem Value) (fun _ _ => False) X.xe s4) X.xe { s2 with heap := h' } := by
    rw [hce, hf]
    refine HandSPX.setFlight_anyZ st' fr' ⟨oe, vs, T, oT, ts, he', hz, hd, h1, noB T hnT, hTe, hT', hdT, h4⟩ fun h5 k1 k2 k3 k4 => wpAny_throw (tk _ _ ?_)
    refine ⟨a, B', _, pins, σ, H2, cls, d, rfl, J2, fun b o hb nb => ?_, fun b o hb nf => ?_, .inr (.inr ⟨k1, noB a aB, k2, k3⟩), na, eos, ag, hW _ _ _ _ hE⟩
    · obtain ⟨q, w⟩ := ofG b o hb
      rcases w with ⟨o', w⟩ | w
      · rw [isB b o' w]; exact q
      · exact absurd w nb
    · exact k4 b o (ofG b o hb).1 nf
  first
    | exact wpAny_bind (wpAny_pure (wpAny_bind fin))
    | exact wpAny_bind fin
end
/-- what the end of a block asks; cv: the block's own frame -/
def blockEnd (M : Model) (A : Around) (EE : Value → Shared → Prop) (use : Option (Value → Sem Unit)) (Q : Value → Shared → Prop) (acc : Value) (cv : Env) (r : Result) (s' : Shared) : Prop :=
  match r with
  | .error x => ∃ m, s'.heap.Ns cv.locals m ∧ ∀ h', Heap.SameBut cv.locals s'.heap h' → wpAny M A (PySem.passOn "comprehension.variables-let-go" x cv : Sem Value) (fun _ _ => False) EE { s' with heap := h' }
  | .ok _ => match use with
    | none => ∃ m, s'.heap.Ns cv.locals m ∧ ∀ h', Heap.SameBut cv.locals s'.heap h' → Q acc { s' with heap := h' }
    | some u => wpAny M A (u acc) (fun _ s2 => ∃ m, s2.heap.Ns cv.locals m ∧ ∀ h', Heap.SameBut cv.locals s2.heap h' → Q .none { s2 with heap := h' }) EE s'
section
variable {M : Model} {A : Around} {EE : Value → Shared → Prop} {env : Env} {s : Shared}
theorem comp_wp {ex : Expr} {sc : Scope} {pos : Pos} {mkAcc first : Sem Value} {gen : Comprehension} {gens : List Comprehension} {cls : List (Str × Addr)} {use : Option (Value → Sem Unit)} {Q : Value → Shared → Prop}
    (h1 : clausesOf ex = gen :: gens) (h2 : ∀ x, foldedSetIterable gen.iter env x = pure x) (h3 : closureFor sc env = pure cls) (h4 : sc.kind = .function) (h5 : ∀ x ∈ sc.names, x.2 = .local → sc.names.lookup x.1 = some .local)
    (hyp : wpAny M A first (fun x sA => wpAny M A (pyIter x) (fun it sB => wpAny M A mkAcc (fun acc sC =>
      wpAny M A (newFunctionEnv sc env.globals cls [] env.qual none .none (some env)) (fun cv sD =>
        codeAny M A (.compStart ex 0 it acc { cv with scope := relabel sc env }) (blockEnd M A EE use Q acc { cv with scope := relabel sc env }) sD) EE sC) EE sB) EE sA) EE s) :
    wpAny M A (comprehension ex sc env pos mkAcc false first use) Q EE s := by
  unfold comprehension
  rw [h3, h1]
  refine wpAny_bind (wpAny_mono hyp (fun x sA hA => ?_) fun _ _ y => y)
  refine wpAny_bind (wpAny_standAt (wpAny_bind (wpAny_of_eq (h2 x) (wpAny_bind (wpAny_holding (wpAny_mono hA (fun it sB hB => ?_) fun _ _ y => y))))))
  refine wpAny_standIf (wpAny_bind (wpAny_mono hB (fun acc sC hC => ?_) fun _ _ y => y))
  refine wpAny_bind (wpAny_pure (wpAny_bind (wpAny_mono hC (fun cv sD hD => ?_) fun _ _ y => y)))
  dsimp only
  have loc1 : ∀ x ∈ (sc.names.filter fun x => (x.2 == .local || x.2 == .cell) && x.1 != (".0" : Str)).reverse, x.2 = .local → Env.kindOf { cv with scope := relabel sc env } x.1 = some .local :=
    fun x hx el => lookup_relabel_local (h5 x (List.mem_filter.mp (List.mem_reverse.mp hx)).1 el)
  have loc2 : ∀ x ∈ (sc.names.filter fun x => (x.2 == .local || x.2 == .cell) && x.1 != (".0" : Str)).reverse.drop 1 ++ (sc.names.filter fun x => (x.2 == .local || x.2 == .cell) && x.1 != (".0" : Str)).reverse.take 1,
      x.2 = .local → Env.kindOf { cv with scope := relabel sc env } x.1 = some .local :=
    fun x hx el => (List.mem_append.mp hx).elim (fun q => loc1 x (List.mem_of_mem_drop q) el) fun q => loc1 x (List.mem_of_mem_take q) el
  refine wpAny_holding (wpAny_bind (wpAny_attempt (wpAny_holding (wpAny_run (codeAny_mono hD fun r sE hr => ?_)))))
  cases r with
  | error x =>
    have hr2 : blockEnd M A EE none Q acc { cv with scope := relabel sc env } (.error x) sE := hr
    obtain ⟨m, hm, go⟩ := hr2
    cases use <;> exact wpAny_bind (wpAny_holding (wpAny_comp_letGo (cenv := { cv with scope := relabel sc env }) h4 _ sE m loc1 hm fun hh _ _ sb => wpAny_mono (go hh sb) (fun _ _ z => z.elim) fun _ _ y => y))
  | ok fl =>
    cases use with
    | none =>
      obtain ⟨m, hm, go⟩ := hr
      exact wpAny_bind (wpAny_holding (wpAny_comp_letGo (cenv := { cv with scope := relabel sc env }) h4 _ sE m loc1 hm fun hh _ _ sb => wpAny_pure (go hh sb)))
    | some u =>
      refine wpAny_bind (wpAny_rule (wpAny_bind (wpAny_holding (wpAny_mono hr (fun _ sF hF => ?_) fun _ _ y => y))))
      obtain ⟨m, hm, go⟩ := hF
      exact wpAny_bind (wpAny_comp_letGo (cenv := { cv with scope := relabel sc env }) h4 _ sF m loc2 hm fun hh _ _ sb => wpAny_pure (go hh sb))
end
/-- the context of an element that may raise -/
abbrev elX (X : Cx) (s : Shared) (H : Hp) (sc : Scope) (ce : Env) (fp : List Addr) (xe : Value → Shared → Prop) : Cx := (X.blk s H sc ce fp).wish xe
section
variable {X : Cx}
theorem core_x {pins : List (Addr × Obj)} {sh : Shared} {σ : L2.St} {H : Hp} {Q : VK} {W : WX} {E : XK} {elt tgt itr : Expr} {ifs : List Expr} {sc : Scope} {own : List (Str × Nat)} {pos pos' : Pos} {wi : TI} {g : TG} {tt : TT} {te : TE} {use : Option (Value → Sem Unit)} {Qf : Value → Shared → Prop}
    (hs : X.stack = X.env :: X.outer) (hf : X.env.frame = some X.env.locals) (tk : Takes X W) (hW : ∀ cls d σ H, E cls d H → W cls d σ H)
    (calm : X.calm = true) (J : Inv X pins σ H sh) (hi : PI X tgt itr wi) (ok : BlkOk X.N X.env.scope sc own) (nd : X.N.Nodup)
    (hg : ∀ (s : Shared) (H : Hp) (C : Addr) (cl : List (Str × Addr)) (fp : List Addr), PG (X.blk s H sc (compEnvC sc cl C X.env) fp) tgt g)
    (ht : ∀ (s : Shared) (H : Hp) (C : Addr) (cl : List (Str × Addr)) (fp : List Addr), PTs (X.blk s H sc (compEnvC sc cl C X.env) fp) ifs tt)
    (he : ∀ (s : Shared) (H : Hp) (C : Addr) (cl : List (Str × Addr)) (fp : List Addr) (xe : Value → Shared → Prop), Passes (L2.CX X.prog X.w) (elX X s H sc (compEnvC sc cl C X.env) fp xe) E → PE (elX X s H sc (compEnvC sc cl C X.env) fp xe) elt te)
    (fold : ∀ x, foldedSetIterable itr X.env x = pure x) (hyp : tLc wi g tt te (own.map (·.2)) σ H Q)
    (fin : ∀ D C s' m H', Inv X pins σ H' s' → Q (.ref D) H' → s'.heap.Ns C m → FpOk X pins H' C → ∀ cv : Env, cv.locals = C → blockEnd (model X.prog X.w) X.A X.xe use Qf (.ref D) cv (.ok .next) s') :
    wpAny (model X.prog X.w) X.A (comprehension (.ListComp elt [⟨tgt, itr, ifs, 0⟩] sc pos) sc X.env pos' (newList []) false (eval itr X.env) use) Qf X.xe sh := by
  have frees : ∀ y ∈ sc.names, y.2 = .free → ∃ c, X.env.cells.lookup y.1 = some c := fun y hy e => J.ok.has _ (ok.free y hy e)
  refine comp_wp (use := use) rfl fold (closure_ok frees) ok.kind (fun y hy e => by rw [ok.uniq y hy, e]) (thn (hi.run pins sh σ H _ J hyp) fun _ _ hx => thn hx fun _ sA hA => ?_)
  obtain ⟨it, fp, tn, Jt, HA, rfl, JA, TT, stA, fA, q⟩ := hA
  refine wpAny_newObj_type (newEnv_comp ?_) (by show 0 ≤ sizeLine; decide)
  generalize hD : sA.heap.objs.size = D
  have freeD : HA D = none := JA.hok.fresh (Nat.le_of_eq hD)
  obtain ⟨Wt, ⟨k0, w0⟩, turn⟩ := q D freeD
  generalize hB : ({ sA with heap := sA.heap.push { cls := .type "list", data := .seq ([] : List Value).toArray } } : Shared) = sB
  have hpB : sB.heap = sA.heap.push { cls := .type "list", data := .seq ([] : List Value).toArray } := by rw [← hB]
  have keepB : ∀ b o, sA.heap.get? b = some o → sB.heap.get? b = some o := fun b o hb => by rw [hpB]; exact Heap.get?_push_of_some _ hb
  have JB : Inv X pins σ (upd HA D (.lst [])) sB := by
    subst hB
    refine JA.laid (t' := sA.toks) (fun _ _ hb => Heap.get?_push_of_some _ hb) (Nat.le_of_eq hD) ⟨Nat.zero_le _, [], 0, .nil, ?_⟩
    subst hD
    exact Heap.get?_push_size _ rfl
  have small : ∀ b ∈ fp, b < sA.heap.objs.size := fun b hb => let ⟨_, z, _⟩ := TT.obj _ _ stA b hb; Heap.lt_size z
  have fB : ∀ b ∈ fp, FpOk X pins (upd HA D (.lst [])) b ∧ b < sB.heap.objs.size := fun b hb => by
    have lt := small b hb
    have n : b ≠ D := fun z => by rw [z, ← hD] at lt; exact Nat.lt_irrefl _ lt
    refine ⟨⟨by rw [upd_ne n]; exact (fA b hb).1, (fA b hb).2⟩, ?_⟩
    rw [hpB, Heap.size_push]
    exact Nat.lt_succ_of_lt lt
  have stB : tn 0 sB.heap := TT.keep _ _ _ stA fun b _ o hb => keepB b o hb
  have J0 := block_start JB ok nd fB
  have pg := hg sB (upd HA D (.lst [])) sB.heap.objs.size (cellsFrom (sB.heap.objs.size + 1) sc.names (cloFrom X.env.cells sc.names [])) fp
  have pt := ht sB (upd HA D (.lst [])) sB.heap.objs.size (cellsFrom (sB.heap.objs.size + 1) sc.names (cloFrom X.env.cells sc.names [])) fp
  have pe := he sB (upd HA D (.lst [])) sB.heap.objs.size (cellsFrom (sB.heap.objs.size + 1) sc.names (cloFrom X.env.cells sc.names [])) fp
  have free0 : ∀ b ∈ fp, (upd HA D (.lst [])) b = none := fun b hb => (fB b hb).1.1
  show codeAny _ _ (.compStart (.ListComp elt [⟨tgt, itr, ifs, 0⟩] sc pos) 0 (.ref it) (.ref D) (compEnvC sc (cellsFrom (sB.heap.objs.size + 1) sc.names (cloFrom X.env.cells sc.names [])) sB.heap.objs.size X.env)) (blockEnd (model X.prog X.w) X.A X.xe use Qf (.ref D) (compEnvC sc (cellsFrom (sB.heap.objs.size + 1) sc.names (cloFrom X.env.cells sc.names [])) sB.heap.objs.size X.env)) { sB with heap := pushCells (sB.heap.push { cls := .type "dict", data := .dict #[] }) sc.names }
  generalize hce : compEnvC sc (cellsFrom (sB.heap.objs.size + 1) sc.names (cloFrom X.env.cells sc.names [])) sB.heap.objs.size X.env = ce at J0 pg pt pe ⊢
  have ceL : ce.locals = sB.heap.objs.size := by subst hce; rfl
  have ceF : ce.frame = X.env.frame := by subst hce; rfl
  generalize hHB : upd HA D (.lst []) = HB at JB J0 pg pt pe w0 free0 fB
  generalize hC : ({ sB with heap := pushCells (sB.heap.push { cls := .type "dict", data := .dict #[] }) sc.names } : Shared) = sC at J0 ⊢
  have stC : tn 0 sC.heap := TT.keep _ _ _ stB fun b _ o hb => by rw [← hC]; exact pushCells_keeps _ _ _ _ (Heap.get?_push_of_some _ hb)
  have stands : ∀ {σ' : L2.St} {H' : Hp} {s' : Shared}, Inv (X.blk sB HB sc ce fp) [] σ' H' s' → (∀ b ∈ fp, H' b = none) → ∀ b ∈ fp, FpOk (X.blk sB HB sc ce fp) [] H' b := fun {σ' H' s'} I' hn b hb =>
    ⟨hn b hb, (I'.ok.exf b hb).1, I'.ok.exfs b hb, .inl hb, fun x c z => (I'.ok.exf b hb).2 x c z, fun p hp => absurd (show p ∈ ([] : List (Addr × Obj)) ++ [] from hp) (by simp)⟩
  -- from the block's context back to the def's
  have back : ∀ {pins' : List (Addr × Obj)} {σ' : L2.St} {H' : Hp} {s' : Shared}, Inv (X.blk sB HB sc ce fp) pins' σ' H' s' → Inv X pins σ H' s' ∧ FpOk X pins H' sB.heap.objs.size ∧ ∃ m, s'.heap.Ns sB.heap.objs.size m := fun {pins' σ' H' s'} I' => by
    have nC : H' sB.heap.objs.size = none := by
      have z : H' ce.locals = none := I'.free
      rw [ceL] at z
      exact z
    obtain ⟨m, hm, _⟩ := I'.loc
    have hm : s'.heap.Ns ce.locals m := hm
    rw [ceL] at hm
    exact ⟨JB.call' (ch := fp) I'.os I'.base I'.hok I'.bare fun b hb => ⟨(fB b hb).1.2.2.2.1, (fB b hb).1.2.1, (fB b hb).1.2.2.2.2.1, (fB b hb).1.2.2.2.2.2⟩, JB.fpOk (Nat.le_refl _) nC, m, hm⟩
  have loop : codeAny (model X.prog X.w) X.A (.compLoop (.ListComp elt [⟨tgt, itr, ifs, 0⟩] sc pos) 0 (.ref it) (.ref D) ce) (blockEnd (model X.prog X.w) X.A X.xe use Qf (.ref D) ce) sC := by
    refine compLoop_any (fun n s' => ∃ i H', Inv (X.blk sB HB sc ce fp) [] (wipe σ (own.map (·.2))) H' s' ∧ tn i s'.heap ∧ (∀ b ∈ fp, H' b = none) ∧ Wt i n H') ?_ k0 ⟨0, HB, J0, stC, free0, w0⟩
    rintro n s5 ⟨i, H5, J5, st5, n5, w5⟩
    rcases turn i n H5 w5 with ⟨stop, done⟩ | ⟨go, Nx, hNx, step⟩
    · refine thnF (TT.done (X.blk sB HB sc ce fp) rfl rfl rfl calm i [] s5 _ H5 (fun _ _ => False) J5 (stands J5 n5) st5 stop) fun r s6 ⟨er, J6⟩ => ?_
      subst er
      obtain ⟨z1, z2, m, z3⟩ := back J6
      exact fin D _ s6 m H5 z1 done z3 z2 ce ceL
    · refine thnF (TT.item (X.blk sB HB sc ce fp) rfl rfl rfl calm i [] s5 _ H5 (fun _ _ => False) J5 (stands J5 n5) st5 go) fun r s6 ⟨u, er, got⟩ => ?_
      subst er
      refine thnF got fun _ s7 ⟨x, H7, J7, rx, yl, st7, n7⟩ => ?_
      have J7p := J7.pinned (stands J7 n7) (TT.obj _ _ st7)
      refine thnF (pg.run _ s7 _ H7 x u _ J7p rx (step x H7 yl)) fun _ s8 ⟨σ8, H8, J8, wp8, q8⟩ => ?_
      refine thnF (pt.run _ s8 σ8 H8 _ J8 q8) fun b s9 ⟨H9, J9, q9⟩ => ?_
      have next : ∀ {s' : Shared} {H' : Hp}, Inv (X.blk sB HB sc ce fp) ([] ++ pinsAt fp s7.heap) σ8 H' s' → Nx H' → ∃ m, m < n ∧ ∃ i H', Inv (X.blk sB HB sc ce fp) [] (wipe σ (own.map (·.2))) H' s' ∧ tn i s'.heap ∧ (∀ b ∈ fp, H' b = none) ∧ Wt i m H' := fun {s' H'} I' nx => by
        obtain ⟨m', lt, w'⟩ := hNx H' nx
        have pinned : ∀ b ∈ fp, ∀ o, s7.heap.get? b = some o → s'.heap.get? b = some o ∧ H' b = none := fun b hb o z =>
          let y := I'.pin (b, o) (List.mem_append_right _ (List.mem_append_right _ (mem_pinsAt hb z)))
          ⟨y.1, y.2.1⟩
        have el : (wipe σ (own.map (·.2))).length = σ8.length := by rw [← wp8, wipe_length]
        refine ⟨m', lt, i + 1, H', (I'.unpinned (pins := [])).weak el (fun j v z => ?_), TT.keep _ _ _ st7 fun b hb o z => (pinned b hb o z).1, fun b hb => ?_, w'⟩
        · rw [← wp8] at z
          exact (wipe_some z).1
        · obtain ⟨o, z, _⟩ := TT.obj _ _ st7 b hb
          exact (pinned b hb o z).2
      cases b with
      | false => exact next J9 q9
      | true =>
        have pe1 := pe (fun v s' => ∃ pins' σ' H' s1, Inv (X.blk sB HB sc ce fp) pins' σ' H' s1 ∧ L2.CX X.prog X.w X.stack H' s1 E v s') fun pins' σ' H' s1 v s' I' c => ⟨pins', σ', H', s1, I'.unwish, c⟩
        have ev := pe1.run _ s9 σ8 H9 _ (J9.wish _) q9
        refine wpAny_mono ev (fun z s10 hz => ?_) fun v s10 hv => ?_
        · obtain ⟨yv, H10, J10, r10, acc, hD10, hz10, nx⟩ := hz
          exact app_ok (X := X.blk sB HB sc ce fp) J10.unwish hD10 hz10 r10 fun s11 J11 => next J11 nx
        · obtain ⟨pins', σ', H', s1, I', c⟩ := hv
          obtain ⟨z1, z2, z3⟩ := back I'
          have out := fly_out (EE := fun e s' => blockEnd (model X.prog X.w) X.A X.xe use Qf (.ref D) ce (.error e) s') z1.ok.frames hs hf tk hW z1 z2 z3 ceF c
          refine wpAny_mono out (fun _ s3 h3 => ?_) fun _ _ y => y
          rw [← ceL] at h3
          exact h3
  exact codeAny_compStart_list loop (TT.self X.A 0 _ _ _ stC loop)
/-- [e for t in xs], e may raise -/
theorem pe_lcX {W : WX} {E : XK} {elt tgt itr : Expr} {ifs : List Expr} {sc : Scope} {own : List (Str × Nat)} {pos : Pos} {wi : TI} {g : TG} {tt : TT} {te : TE}
    (hs : X.stack = X.env :: X.outer) (hf : X.env.frame = some X.env.locals) (tk : Takes X W) (hW : ∀ cls d σ H, E cls d H → W cls d σ H)
    (calm : X.calm = true) (nd : X.N.Nodup) (hi : PI X tgt itr wi) (ok : BlkOk X.N X.env.scope sc own)
    (hg : ∀ (s : Shared) (H : Hp) (C : Addr) (cl : List (Str × Addr)) (fp : List Addr), PG (X.blk s H sc (compEnvC sc cl C X.env) fp) tgt g)
    (ht : ∀ (s : Shared) (H : Hp) (C : Addr) (cl : List (Str × Addr)) (fp : List Addr), PTs (X.blk s H sc (compEnvC sc cl C X.env) fp) ifs tt)
    (he : ∀ (s : Shared) (H : Hp) (C : Addr) (cl : List (Str × Addr)) (fp : List Addr) (xe : Value → Shared → Prop), Passes (L2.CX X.prog X.w) (elX X s H sc (compEnvC sc cl C X.env) fp xe) E → PE (elX X s H sc (compEnvC sc cl C X.env) fp xe) elt te)
    (fold : ∀ x, foldedSetIterable itr X.env x = pure x := by intro _; rfl) :
    PE X (.ListComp elt [⟨tgt, itr, ifs, 0⟩] sc pos) (tLc wi g tt te (own.map (·.2))) := by
  constructor
  intro pins sh σ H Q J hyp
  rw [eval_ListComp]
  refine core_x hs hf tk hW calm J hi ok nd hg ht he fold hyp fun D C s' m H' J' q hn fp cv ecv => ?_
  obtain ⟨f0, f1, f2, f3, f4, f5⟩ := fp
  subst ecv
  exact ⟨m, hn, fun h2 sb => ⟨.ref D, H', J'.turned (t' := s'.toks) (fun b o hb z => (sb.2 b hb).trans z) f0 f1 f3 f4 f5, rfl, q⟩⟩
/-- y = [e for t in xs], y a plain local name -/
theorem ps_setLcX {W : WX} {E : XK} {i : Nat} {y : Str} {py : Pos} {elt tgt itr : Expr} {ifs : List Expr} {sc : Scope} {own : List (Str × Nat)} {pos spos : Pos} {wi : TI} {g : TG} {tt : TT} {te : TE}
    (hs : X.stack = X.env :: X.outer) (hf : X.env.frame = some X.env.locals) (tk : Takes X W) (hW : ∀ cls d σ H, E cls d H → W cls d σ H)
    (calm : X.calm = true) (nd : X.N.Nodup) (iy : X.N[i]? = some y) (ly : X.env.scope.names.lookup y = some .local) (sw : swapsWith (.ListComp elt [⟨tgt, itr, ifs, 0⟩] sc pos) (some (.Name y py)) spos.line X.env = pure true)
    (hi : PI X tgt itr wi) (ok : BlkOk X.N X.env.scope sc own)
    (hg : ∀ (s : Shared) (H : Hp) (C : Addr) (cl : List (Str × Addr)) (fp : List Addr), PG (X.blk s H sc (compEnvC sc cl C X.env) fp) tgt g)
    (ht : ∀ (s : Shared) (H : Hp) (C : Addr) (cl : List (Str × Addr)) (fp : List Addr), PTs (X.blk s H sc (compEnvC sc cl C X.env) fp) ifs tt)
    (he : ∀ (s : Shared) (H : Hp) (C : Addr) (cl : List (Str × Addr)) (fp : List Addr) (xe : Value → Shared → Prop), Passes (L2.CX X.prog X.w) (elX X s H sc (compEnvC sc cl C X.env) fp xe) E → PE (elX X s H sc (compEnvC sc cl C X.env) fp xe) elt te)
    (fold : ∀ x, foldedSetIterable itr X.env x = pure x := by intro _; rfl) :
    PS X (.Assign [.Name y py] (.ListComp elt [⟨tgt, itr, ifs, 0⟩] sc pos) spos) (tAsg (tLc wi g tt te (own.map (·.2))) (gName i)) := by
  constructor
  intro pins sh σ H D J hyp
  have hyp : tLc wi g tt te (own.map (·.2)) σ H (fun x H1 => gName i x σ H1 D.nx) := hyp
  rw [exec_Assign_Name_used _ _ _ _ sw]
  refine wpAny_bind (wpAny_standAt (wpAny_bind ?_))
  show wpAny _ X.A (do let _ ← comprehension (.ListComp elt [⟨tgt, itr, ifs, 0⟩] sc pos) sc X.env (firstIterPos [⟨tgt, itr, ifs, 0⟩] pos) (newList []) false (eval itr X.env) (some (assign (.Name y py) X.env))) _ _ sh
  have core := core_x (pos := pos) (use := some (assign (.Name y py) X.env)) (Qf := fun _ s' => SP X pins D .next s') (pos' := firstIterPos [⟨tgt, itr, ifs, 0⟩] pos) hs hf tk hW calm J hi ok nd hg ht he fold hyp fun L C s' m H' J' q hn fp cv ecv => by
    obtain ⟨f0, f1, f2, f3, f4, f5⟩ := fp
    subst ecv
    show wpAny _ _ (assign (.Name y py) X.env (.ref L)) _ _ _
    refine wpAny_assign_Name (store_ok2 (v := V.ref L) J' nd iy (.inl ly) rfl (fun s2 J2 there => ?_) (.inr ly))
    obtain ⟨a, sb, ha⟩ := there
    have nCa : cv.locals ≠ a := ha.elim (fun z => by rw [z]; exact f1) fun z w => f4 y a z w.symm
    exact ⟨m, hn.sameBut sb nCa, fun h3 sb3 => ⟨_, H', J2.turned (t' := s2.toks) (fun b o hb z => (sb3.2 b hb).trans z) f0 f1 f3 f4 f5, q⟩⟩
  exact wpAny_bind (thn core fun _ s' hq => wpAny_pure (wpAny_pure hq))
end
/-! ### defs and methods that may raise: promises -/
section
variable {P : Program} {w : World} {K : PySem.W.Frag} {mg : Str → Option Value} {base : Heap}
abbrev defX (P : Program) (w : World) (K : PySem.W.Frag) (mg : Str → Option Value) (base : Heap) (N : List Str) (qual : Str) (sc : Scope) (f : Addr) (cd : Value) (A : Around) (outer : List Env) (s : Shared) (H : Hp) (E : XK) : Cx := cxOf (L2.CX P w) P w K mg base N qual sc f cd A outer s H E
theorem takes_def {N : List Str} {qual : Str} {sc : Scope} {f : Addr} {cd : Value} {A : Around} {outer : List Env} {s : Shared} {H : Hp} {E : XK} : Takes (defX P w K mg base N qual sc f cd A outer s H E) (fun cls d _ H => E cls d H) := takes_of rfl rfl rfl rfl
theorem pass_def {N : List Str} {qual : Str} {sc : Scope} {f : Addr} {cd : Value} {A : Around} {outer : List Env} {s : Shared} {H : Hp} {E : XK} : Passes (L2.CX P w) (defX P w K mg base N qual sc f cd A outer s H E) E := passes_call (W := fun cls d _ H => E cls d H) takes_def fun _ _ _ _ h => h
theorem own_def {N : List Str} {qual : Str} {sc : Scope} {f : Addr} {cd : Value} {A : Around} {outer : List Env} {s : Shared} {H : Hp} {E : XK} : PassesOwn (model P w) (defX P w K mg base N qual sc f cd A outer s H E).A (defX P w K mg base N qual sc f cd A outer s H E).env (defX P w K mg base N qual sc f cd A outer s H E).xe :=
  passes_of (X := defX P w K mg base N qual sc f cd A outer s H E) rfl
theorem fnX {x qual : Str} {st : Stmt} {f : Addr} {fd : FuncData} {N ps : List Str} {k : Nat} {sp : Sp} (F : C8.Fun K x qual st f fd) (S : FnScope N ps (C8.fnScope st)) (len : ∀ vs H Q E, sp vs H Q E → vs.length = ps.length)
    (walk : ∀ (cdv : Value) (A : Around) (outer : List Env) (s : Shared) (H : Hp) (vs : List V) (Q : VK) (E : XK), Room k (A.deeper (envOfC qual (C8.fnScope st) s.heap.objs.size f cdv)) → sp vs H Q E →
      ∃ t, PSs (defX P w K mg base N qual (C8.fnScope st) f cdv A outer s H E) (C8.fnBody st) t ∧ t { nx := fun _ H' => Q .non H', rt := Q } (L2.start N vs) H) : FnOk P w K mg base (L2.CX P w) (k + 1) f fd ps sp := by
  obtain ⟨oc, od, dV, kV, doc, pm, an, cdv, ct, osl, rfl, lk, hcd⟩ := F.ex
  exact fn_of lk hcd S len fun A outer s H vs Q E room hsp => walk cdv A outer s H vs Q E room hsp
structure CalX (P : Program) (w : World) (K : PySem.W.Frag) (mg : Str → Option Value) (base : Heap) (k : Nat) (x : Str) (sp : Sp) : Prop where
  ex : ∃ (f : Addr) (fd : FuncData) (ps : List Str), FnOk P w K mg base (L2.CX P w) k f fd ps sp ∧ mg x = some (.ref f) ∧ PySem.W.keepIn K (.ref f) = true ∧ Binds K fd ps []
structure MetX (P : Program) (w : World) (K : PySem.W.Frag) (mg : Str → Option Value) (base : Heap) (k : Nat) (C : Addr) (m : Str) (sp : Sp) : Prop where
  ex : ∃ (f : Addr) (fd : FuncData) (ps : List Str), Cls K C ∧ Meth K C m f ∧ FnOk P w K mg base (L2.CX P w) k f fd ps sp ∧ Binds K fd ps []
structure MakX (P : Program) (w : World) (K : PySem.W.Frag) (mg : Str → Option Value) (base : Heap) (k : Nat) (x : Str) (C : Addr) (sp : Sp) : Prop where
  ex : ∃ (f : Addr) (fd : FuncData) (ps : List Str), Mk K C f ∧ FnOk P w K mg base (L2.CX P w) k f fd ps sp ∧ mg x = some (.ref C) ∧ Binds K fd ps []
theorem MetX.mono {j k : Nat} {C : Addr} {m : Str} {sp : Sp} (c : MetX P w K mg base j C m sp) (h : j ≤ k) : MetX P w K mg base k C m sp := let ⟨f, fd, ps, hc, hm, F, b⟩ := c.ex; ⟨f, fd, ps, hc, hm, F.mono h, b⟩
theorem calX {x : Str} {st : Stmt} {f : Addr} {fd : FuncData} {N ps : List Str} {k : Nat} {sp : Sp} (F : C8.Def K mg x st f fd) (b : Binds K fd ps []) (S : FnScope N ps (C8.fnScope st)) (len : ∀ vs H Q E, sp vs H Q E → vs.length = ps.length)
    (walk : ∀ (cdv : Value) (A : Around) (outer : List Env) (s : Shared) (H : Hp) (vs : List V) (Q : VK) (E : XK), Room k (A.deeper (envOfC x (C8.fnScope st) s.heap.objs.size f cdv)) → sp vs H Q E →
      ∃ t, PSs (defX P w K mg base N x (C8.fnScope st) f cdv A outer s H E) (C8.fnBody st) t ∧ t { nx := fun _ H' => Q .non H', rt := Q } (L2.start N vs) H) : CalX P w K mg base (k + 1) x sp := ⟨f, fd, ps, fnX F.fn S len walk, F.mgf, F.kp, b⟩
theorem metX {m qual : Str} {C : Addr} {st : Stmt} {f : Addr} {fd : FuncData} {N ps : List Str} {k : Nat} {sp : Sp} (c : Cls K C) (me : Meth K C m f) (F : C8.Fun K m qual st f fd) (b : Binds K fd ps []) (S : FnScope N ps (C8.fnScope st)) (len : ∀ vs H Q E, sp vs H Q E → vs.length = ps.length)
    (walk : ∀ (cdv : Value) (A : Around) (outer : List Env) (s : Shared) (H : Hp) (vs : List V) (Q : VK) (E : XK), Room k (A.deeper (envOfC qual (C8.fnScope st) s.heap.objs.size f cdv)) → sp vs H Q E →
      ∃ t, PSs (defX P w K mg base N qual (C8.fnScope st) f cdv A outer s H E) (C8.fnBody st) t ∧ t { nx := fun _ H' => Q .non H', rt := Q } (L2.start N vs) H) : MetX P w K mg base (k + 1) C m sp := ⟨f, fd, ps, c, me, fnX F S len walk, b⟩
theorem makX {x qual : Str} {C : Addr} {st : Stmt} {f : Addr} {fd : FuncData} {N ps : List Str} {k : Nat} {sp : Sp} (M : Mk K C f) (hm : mg x = some (.ref C)) (F : C8.Fun K "__init__" qual st f fd) (b : Binds K fd ps []) (S : FnScope N ps (C8.fnScope st)) (len : ∀ vs H Q E, sp vs H Q E → vs.length = ps.length)
    (walk : ∀ (cdv : Value) (A : Around) (outer : List Env) (s : Shared) (H : Hp) (vs : List V) (Q : VK) (E : XK), Room k (A.deeper (envOfC qual (C8.fnScope st) s.heap.objs.size f cdv)) → sp vs H Q E →
      ∃ t, PSs (defX P w K mg base N qual (C8.fnScope st) f cdv A outer s H E) (C8.fnBody st) t ∧ t { nx := fun _ H' => Q .non H', rt := Q } (L2.start N vs) H) : MakX P w K mg base (k + 1) x C sp := ⟨f, fd, ps, M, fnX F S len walk, hm, b⟩
end
section
variable {X : Cx} {k j : Nat} {C : Addr} {x m : Str} {sp : Sp} {E : XK} {p pos apos : Pos} {e o : Expr} {es : List Expr} {ta : TE} {t : TA}
theorem pe_cX (c : CalX X.prog X.w X.K X.mg X.base k x sp) (hx : Passes (L2.CX X.prog X.w) X E) (hr : Room j X.A) (hk : k ≤ j) (hg : Gl X x) (ha : PA X (e :: es) t)
    (d1 : (x == ("__debug__" : Str)) = false := by decide) (d2 : starEach (e :: es) X.env = (false, eval e X.env) :: starEach es X.env := by rfl) (d3 : (backTo pos (starEach es X.env)).any (·.1) = false := by rfl) :
    PE X (.Call (.Name x p) (e :: es) [] pos) (tCall sp [] E t) := let ⟨_, _, _, F, hm, kp, b⟩ := c.ex; pe_call F (hr.mono hk) hg hm kp b .nil hx ha d1 d2 d3
theorem pe_mkX (c : MakX X.prog X.w X.K X.mg X.base k x C sp) (hx : Passes (L2.CX X.prog X.w) X E) (hr : Room j X.A) (hk : k + 1 ≤ j) (hg : Gl X x) (ha : PA X (e :: es) t)
    (d1 : (x == ("__debug__" : Str)) = false := by decide) (d2 : starEach (e :: es) X.env = (false, eval e X.env) :: starEach es X.env := by rfl) (d3 : (backTo pos (starEach es X.env)).any (·.1) = false := by rfl) :
    PE X (.Call (.Name x p) (e :: es) [] pos) (tMake C sp [] E t) := let ⟨_, _, _, M, F, hm, b⟩ := c.ex; pe_make M F (hr.mono hk) hg hm b .nil hx ha d1 d2 d3
theorem pe_mtX {pl : Sem Bool} (c : MetX X.prog X.w X.K X.mg X.base k C m sp) (hx : Passes (L2.CX X.prog X.w) X E) (hr : Room j X.A) (hk : k ≤ j) (he : PE X o ta) (ha : PA X (e :: es) t)
    (d2 : starEach (e :: es) X.env = (false, eval e X.env) :: starEach es X.env := by rfl) (d3 : (backTo pos (starEach es X.env)).any (·.1) = false := by rfl)
    (d4 : eval (.Call (.Attribute o m apos) (e :: es) [] pos) X.env = (do
      let obj ← eval o X.env
      standAt apos.atName
      let (f, first) ← holding [obj] (getMethod obj m pl)
      callWith pos f first (backTo pos (starEach (e :: es) X.env)) (backToKw pos (keywordEach [] X.env))) := by rfl) :
    PE X (.Call (.Attribute o m apos) (e :: es) [] pos) (tMeth C m sp [] E ta t) := let ⟨_, _, _, hc, hm, F, b⟩ := c.ex; pe_meth (pl := pl) he hc hm F (hr.mono hk) b .nil hx ha d2 d3 d4
end
section
variable {X : Cx} {CX : CXT} {k : Nat} {f : Addr} {fd : FuncData} {ps ks : List Str} {sp : Sp} {E : L2.St → XK} {x : Str} {p pos : Pos} {kws : List Keyword} {tk : TA} {g : List Value → List Value → List Value} {gV : List V → List V → List V}
def tCallKS (sp : Sp) (gV : List V → List V → List V) (E : L2.St → XK) (tk : TA) : TE := fun σ H Q => tk σ H fun zs H1 => sp (gV [] zs) H1 Q (E σ)
/-- f(k = v, ..), what is raised wished for at the caller's slots -/
theorem pe_callKS (F : FnOk X.prog X.w X.K X.mg X.base CX k f fd ps sp) (room : Room k X.A) (hg : Gl X x) (hm : X.mg x = some (.ref f)) (kp : PySem.W.keepIn X.K (.ref f) = true) (hb : KBinds X.K fd ps ks g gV) (hx : ∀ σ, PassesAt CX X σ (E σ)) (hkw : PK X kws tk)
    (h1 : (backToKw pos (keywordEach kws X.env)).all (·.1.isSome) = true := by rfl) (h2 : (backToKw pos (keywordEach kws X.env)).filterMap (·.1) = ks := by rfl) (h3 : (x == ("__debug__" : Str)) = false := by decide)
    (h4 : ((backTo pos (starEach [] X.env)).any (·.1) || (backToKw pos (keywordEach kws X.env)).any (·.1.isNone)) = false := by rfl) : PE X (.Call (.Name x p) [] kws pos) (tCallKS sp gV E tk) := by
  constructor
  intro pins sh σ H Q J hyp
  refine wpAny_Call_Name_kw (ld_glob J hg hm (PySem.W.callWith_KW0 (h₀ := X.base) J.ok.mod.kin kp h1 (thn (hkw.run pos pins sh σ H _ J hyp) ?_) h4) h3)
  rintro ws s2 ⟨zs, H2, J2, rz, q⟩
  refine ⟨J2.kIn, ?_⟩
  rw [h2]
  have rel := hb.rel (.nil : Vals [] []) rz
  have len : (g [] ws).length = ps.length := by rw [← rel.length]; exact F.len _ _ _ _ q
  refine wpAny_call (codeAny_mono (F.run X.A X.stack s2 H2 ⟨[], ks.zip ws⟩ (g [] ws) (gV [] zs) Q (E σ) room J2.env0 (hb.to s2 [] ws J2.kIn len) rel q) fun r s' got => ?_)
  match r, got with
  | .error e, got => exact hx σ pins H2 s2 e s' J2 got
  | .ok (.ret u), got => exact J2.after got
  | .ok .next, got => exact False.elim got
  | .ok .brk, got => exact False.elim got
  | .ok .cont, got => exact False.elim got
end
end UG


set_option Elab.async false
set_option linter.all false
set_option maxRecDepth 100000
set_option maxHeartbeats 8000000
namespace K09
open PySem PySem.Spec PyProof.Rows L2
def lf (la na pl fk : Addr) : List (Str × V) := putF "forks" (.ref fk) (putF "places" (.ref pl) (putF "names" (.ref na) (putF "letters" (.ref la) [])))
theorem lf_letters (la na pl fk : Addr) : (lf la na pl fk).lookup ("letters" : Str) = some (.ref la) := by
  unfold lf
  rw [lookup_putF, if_neg (by decide +kernel), lookup_putF, if_neg (by decide +kernel), lookup_putF, if_neg (by decide +kernel), lookup_putF, if_pos rfl]
theorem lb_letters (la na pl fk : Addr) (v : V) : (putF "begin" v (lf la na pl fk)).lookup ("letters" : Str) = some (.ref la) := by
  rw [lookup_putF, if_neg (by decide +kernel)]
  exact lf_letters la na pl fk
theorem lf_names (la na pl fk : Addr) : (lf la na pl fk).lookup ("names" : Str) = some (.ref na) := by
  unfold lf
  rw [lookup_putF, if_neg (by decide +kernel), lookup_putF, if_neg (by decide +kernel), lookup_putF, if_pos rfl]
theorem lb_names (la na pl fk : Addr) (v : V) : (putF "begin" v (lf la na pl fk)).lookup ("names" : Str) = some (.ref na) := by
  rw [lookup_putF, if_neg (by decide +kernel)]
  exact lf_names la na pl fk
theorem lf_places (la na pl fk : Addr) : (lf la na pl fk).lookup ("places" : Str) = some (.ref pl) := by
  unfold lf
  rw [lookup_putF, if_neg (by decide +kernel), lookup_putF, if_pos rfl]
theorem lb_places (la na pl fk : Addr) (v : V) : (putF "begin" v (lf la na pl fk)).lookup ("places" : Str) = some (.ref pl) := by
  rw [lookup_putF, if_neg (by decide +kernel)]
  exact lf_places la na pl fk
theorem lf_forks (la na pl fk : Addr) : (lf la na pl fk).lookup ("forks" : Str) = some (.ref fk) := by
  unfold lf
  rw [lookup_putF, if_pos rfl]
theorem lb_forks (la na pl fk : Addr) (v : V) : (putF "begin" v (lf la na pl fk)).lookup ("forks" : Str) = some (.ref fk) := by
  rw [lookup_putF, if_neg (by decide +kernel)]
  exact lf_forks la na pl fk
theorem lb_begin (la na pl fk : Addr) (v : V) : (putF "begin" v (lf la na pl fk)).lookup ("begin" : Str) = some v := by
  rw [lookup_putF, if_pos rfl]
theorem lf_no (la na pl fk : Addr) {m : Str} (h1 : ¬ m = "forks") (h2 : ¬ m = "places") (h3 : ¬ m = "names") (h4 : ¬ m = "letters") : (lf la na pl fk).lookup m = none := by
  unfold lf
  rw [lookup_putF, if_neg h1, lookup_putF, if_neg h2, lookup_putF, if_neg h3, lookup_putF, if_neg h4]
  rfl
theorem len_putF (f : Str) (v : V) : ∀ fs : List (Str × V), (putF f v fs).length ≤ fs.length + 1
  | [] => by simp [putF]
  | (g, u) :: r => by
    have := len_putF f v r
    show (if g = f then (g, v) :: r else (g, u) :: putF f v r).length ≤ _
    split <;> simp
    omega
theorem len_lf (la na pl fk : Addr) : (lf la na pl fk).length ≤ 4 := by
  have h1 := len_putF "forks" (V.ref fk) (putF "places" (.ref pl) (putF "names" (.ref na) (putF "letters" (.ref la) [])))
  have h2 := len_putF "places" (V.ref pl) (putF "names" (.ref na) (putF "letters" (.ref la) []))
  have h3 := len_putF "names" (V.ref na) (putF "letters" (.ref la) [])
  have h4 := len_putF "letters" (V.ref la) []
  simp at h4
  unfold lf
  omega
structure Txt (K : PySem.W.Frag) (mg : Str → Option Value) (C : Addr) : Prop where
  cl : Cls K C
  nL : NoAttr K C "letters"
  nN : NoAttr K C "names"
  nP : NoAttr K C "places"
  nF : NoAttr K C "forks"
  nB : NoAttr K C "begin"
/-! ### what belongs to a layout alone: its list of places, its dict of forks, the lists in it -/
def Own (H : Hp) (pl fk a : Addr) : Prop := a = pl ∨ a = fk ∨ ∃ kvs k, H fk = some (.dT kvs) ∧ (k, V.ref a) ∈ kvs
/-- what does not, stays, and still does not -/
def KO (pl fk : Addr) (H H' : Hp) : Prop := ∀ a o, ¬ Own H pl fk a → H a = some o → H' a = some o ∧ ¬ Own H' pl fk a
theorem KO.refl (pl fk : Addr) (H : Hp) : KO pl fk H H := fun _ _ n e => ⟨e, n⟩
theorem KO.trans {pl fk : Addr} {H H1 H2 : Hp} (a : KO pl fk H H1) (b : KO pl fk H1 H2) : KO pl fk H H2 := fun x o n e => let h := a x o n e; b x o h.2 h.1
theorem KO.of_same {pl fk : Addr} {H H' : Hp} {kvs : List (List Key × V)} (hf : H fk = some (.dT kvs)) (s : Same H H') : KO pl fk H H' := fun a o n e => ⟨s _ _ e, fun w => n (by
  rcases w with w | w | ⟨kvs', k, h1, h2⟩
  · exact .inl w
  · exact .inr (.inl w)
  · rw [s _ _ hf] at h1
    exact .inr (.inr ⟨kvs', k, by rw [hf]; exact h1, h2⟩))⟩
theorem own_upd {pl fk a b : Addr} {H : Hp} {o : HO} (nf : fk ≠ b) : Own (upd H b o) pl fk a ↔ Own H pl fk a := by
  unfold Own
  rw [upd_ne nf]
theorem KO.put_pl {pl fk : Addr} {H : Hp} {kvs : List (List Key × V)} {vs : List V} (hf : H fk = some (.dT kvs)) (hp : H pl = some (.lst vs)) (o : HO) : KO pl fk H (upd H pl o) := fun a u n e => by
  have nf : fk ≠ pl := ne_of hf hp (fun z => nomatch z)
  refine ⟨?_, fun w => n ((own_upd nf).mp w)⟩
  rw [upd_ne (fun z => n (.inl z))]
  exact e
/-- a thing that was not there before -/
theorem KO.fresh {pl fk b : Addr} {H H2 : Hp} (k : KO pl fk H H2) (hb : H b = none) (nf : fk ≠ b) (o : HO) : KO pl fk H (upd H2 b o) := fun a u n e => by
  obtain ⟨h1, h2⟩ := k a u n e
  refine ⟨?_, fun w => h2 ((own_upd nf).mp w)⟩
  rw [upd_ne (fun z => by rw [z, hb] at e; cases e)]
  exact h1
/-- a layout under way; its dict has at most m entries, of at most m forks -/
def LayM (K : PySem.W.Frag) (C : Addr) (L N : List Str) (H : Hp) (p pl fk la na : Addr) (ps : List PyData) (m : Nat) : Prop :=
  ∃ dx vs kvs, H p = some (.ins C dx (lf la na pl fk)) ∧ H pl = some (.lst vs) ∧ DpAll K H vs ps ∧ TupDs ps ∧ TupO H la (L.map V.str) ∧ H na = some (.lst (N.map V.str)) ∧ ¬ Own H pl fk na ∧
    H fk = some (.dT kvs) ∧ kvs.length ≤ m ∧ ∀ e ∈ kvs, ∃ b ys, e.2 = V.ref b ∧ H b = some (.lst ys) ∧ ys.length ≤ m ∧ b ≠ pl
def Lay (K : PySem.W.Frag) (C : Addr) (L N : List Str) (H : Hp) (p pl fk la na : Addr) (ps : List PyData) : Prop := ∃ m, m + 1 ≤ ps.length ∧ LayM K C L N H p pl fk la na ps m
section
variable {K : PySem.W.Frag} {C : Addr} {L N : List Str} {H H' : Hp} {p pl fk la na : Addr} {ps ps' : List PyData} {m m' : Nat}
theorem LayM.own (h : LayM K C L N H p pl fk la na ps m) {a : Addr} (w : Own H pl fk a) : (∃ xs, H a = some (.lst xs)) ∨ ∃ kvs, H a = some (.dT kvs) := by
  obtain ⟨dx, vs, kvs, h1, h2, h3, h4, h5, h6, h7, h8, h9, h10⟩ := h
  rcases w with w | w | ⟨kvs', k, e1, e2⟩
  · exact .inl ⟨vs, by rw [w]; exact h2⟩
  · exact .inr ⟨kvs, by rw [w]; exact h8⟩
  · rw [h8] at e1
    cases e1
    obtain ⟨b, ys, eb, hb, _⟩ := h10 _ e2
    cases eb
    exact .inl ⟨ys, hb⟩
theorem LayM.not_own (h : LayM K C L N H p pl fk la na ps m) {a : Addr} {o : HO} (e : H a = some o) (n1 : ∀ xs, o ≠ .lst xs) (n2 : ∀ kvs, o ≠ .dT kvs) : ¬ Own H pl fk a := fun w => by
  rcases h.own w with ⟨xs, z⟩ | ⟨xs, z⟩
  · rw [e] at z; cases z; exact n1 _ rfl
  · rw [e] at z; cases z; exact n2 _ rfl
theorem LayM.new_own (h : LayM K C L N H p pl fk la na ps m) {a : Addr} (e : H a = none) : ¬ Own H pl fk a := fun w => by
  rcases h.own w with ⟨xs, z⟩ | ⟨xs, z⟩
  · rw [e] at z; cases z
  · rw [e] at z; cases z
theorem LayM.dict (h : LayM K C L N H p pl fk la na ps m) : ∃ kvs, H fk = some (.dT kvs) := let ⟨_, _, kvs, _, _, _, _, _, _, _, h8, _⟩ := h; ⟨kvs, h8⟩
theorem LayM.ko (h : LayM K C L N H p pl fk la na ps m) (s : Same H H') : KO pl fk H H' := let ⟨_, hf⟩ := h.dict; KO.of_same hf s
theorem LayM.put {vs' : List V} {kvs' : List (List Key × V)} (h : LayM K C L N H p pl fk la na ps m) (t : Tk H H') (k : KO pl fk H H') (e : H' pl = some (.lst vs')) (d : DpAll K H' vs' ps') (td : TupDs ps') (f : H' fk = some (.dT kvs')) (l : kvs'.length ≤ m')
    (es : ∀ e ∈ kvs', ∃ b ys, e.2 = V.ref b ∧ H' b = some (.lst ys) ∧ ys.length ≤ m' ∧ b ≠ pl) : LayM K C L N H' p pl fk la na ps' m' := by
  have hp : ¬ Own H pl fk p := by
    obtain ⟨dx, vs, kvs, h1, _⟩ := id h
    exact h.not_own h1 (fun _ z => nomatch z) (fun _ z => nomatch z)
  obtain ⟨dx, vs, kvs, h1, h2, h3, h4, h5, h6, h7, h8, h9, h10⟩ := h
  have kn := k _ _ h7 h6
  exact ⟨dx, vs', kvs', (k _ _ hp h1).1, e, d, td, h5.tk t, kn.1, kn.2, f, l, es⟩
theorem LayM.same (h : LayM K C L N H p pl fk la na ps m) (s : Same H H') : LayM K C L N H' p pl fk la na ps m := by
  obtain ⟨dx, vs, kvs, h1, h2, h3, h4, h5, h6, h7, h8, h9, h10⟩ := id h
  refine h.put (Tk.same s) (h.ko s) (s _ _ h2) ((Tk.same s).dps _ h4 h3) h4 (s _ _ h8) h9 fun e he => ?_
  obtain ⟨b, ys, e1, e2, e3⟩ := h10 e he
  exact ⟨b, ys, e1, s _ _ e2, e3⟩
/-- a list that is not the layout's is changed -/
theorem LayM.other (h : LayM K C L N H p pl fk la na ps m) {D : Addr} {xs : List V} (e : H D = some (.lst xs)) (n1 : ¬ Own H pl fk D) (n2 : D ≠ na) (o : HO) : LayM K C L N (upd H D o) p pl fk la na ps m := by
  obtain ⟨dx, vs, kvs, h1, h2, h3, h4, h5, h6, h7, h8, h9, h10⟩ := id h
  have t := Tk.put e o
  have nf : fk ≠ D := fun z => n1 (.inr (.inl z.symm))
  have np : p ≠ D := fun z => by rw [z, e] at h1; cases h1
  refine ⟨dx, vs, kvs, by rw [upd_ne np]; exact h1, by rw [upd_ne (fun z => n1 (.inl z.symm))]; exact h2, t.dps _ h4 h3, h4, h5.tk t, by rw [upd_ne (Ne.symm n2)]; exact h6, fun w => h7 ((own_upd nf).mp w), by rw [upd_ne nf]; exact h8, h9, fun e' he' => ?_⟩
  obtain ⟨b, ys, e1, e2, e3⟩ := h10 e' he'
  refine ⟨b, ys, e1, ?_, e3⟩
  rw [upd_ne (fun z => n1 (.inr (.inr ⟨kvs, e'.1, h8, by rw [← z, ← e1]; exact he'⟩)))]
  exact e2
theorem LayM.lay (h : LayM K C L N H p pl fk la na ps m) (l : m + 1 ≤ ps.length) : Lay K C L N H p pl fk la na ps := ⟨m, l, h⟩
theorem Lay.same (h : Lay K C L N H p pl fk la na ps) (s : Same H H') : Lay K C L N H' p pl fk la na ps := let ⟨m, l, h⟩ := h; ⟨m, l, h.same s⟩
theorem Lay.ko (h : Lay K C L N H p pl fk la na ps) (s : Same H H') : KO pl fk H H' := let ⟨m, l, h⟩ := h; h.ko s
theorem Lay.other (h : Lay K C L N H p pl fk la na ps) {D : Addr} {xs : List V} (e : H D = some (.lst xs)) (n1 : ¬ Own H pl fk D) (n2 : D ≠ na) (o : HO) : Lay K C L N (upd H D o) p pl fk la na ps := let ⟨m, l, h⟩ := h; ⟨m, l, h.other e n1 n2 o⟩
theorem Lay.new_own (h : Lay K C L N H p pl fk la na ps) {a : Addr} (e : H a = none) : ¬ Own H pl fk a := let ⟨m, l, h⟩ := h; h.new_own e
end
theorem dps_set {K : PySem.W.Frag} {H : Hp} : ∀ {vs : List V} {ds : List PyData} (j : Nat) {v : V} {d : PyData}, DpAll K H vs ds → Dp K H v d → DpAll K H (vs.set j v) (ds.set j d)
  | _, _, _, _, _, .nil, _ => .nil
  | _, _, 0, _, _, .cons _ t, h => .cons h t
  | _, _, j + 1, _, _, .cons a t, h => .cons a (dps_set j t h)
theorem dps_snoc {K : PySem.W.Frag} {H : Hp} {vs : List V} {ds : List PyData} {v : V} {d : PyData} (a : DpAll K H vs ds) (h : Dp K H v d) : DpAll K H (vs ++ [v]) (ds ++ [d]) := dps_app a (.cons h .nil)
theorem tupds_snoc {ds : List PyData} {d : PyData} (a : TupDs ds) (h : TupD d) : TupDs (ds ++ [d]) := tupds_iff.mpr fun e he => (List.mem_append.mp he).elim (tupds_iff.mp a e) fun z => by
  cases List.mem_singleton.mp z
  exact h
theorem drop_cons {b : List St} {i : Nat} {s : St} (hi : i < b.length) (e : b[b.length - 1 - i]? = some s) : b.drop (b.length - (i + 1)) = s :: b.drop (b.length - i) := by
  have e2 : b.length - (i + 1) = b.length - 1 - i := by omega
  have h := List.drop_eq_getElem_cons (l := b) (i := b.length - 1 - i) (by omega)
  rw [e2, h]
  rw [List.getElem?_eq_getElem (by omega)] at e
  rw [Option.some.inj e]
  congr 2
  omega
theorem Tk.putT {H : Hp} {a : Addr} {kvs : List (List Key × V)} (h : H a = some (.dT kvs)) (o : HO) : Tk H (upd H a o) := fun p ys => by
  constructor
  · intro e
    rw [upd_ne (fun z => by rw [z, h] at e; cases e)]
    exact e
  · intro u e
    rw [upd_ne (fun z => by rw [z, h] at e; cases e)]
    exact e
/-- a path, in a tuple of its own -/
def Pth (H : Hp) (v : V) (is : List Int) : Prop := ∃ a, v = V.ref a ∧ H a = some (.tup (is.map V.int))
theorem Pth.tk {H H' : Hp} {v : V} {is : List Int} (h : Pth H v is) (t : Tk H H') : Pth H' v is := let ⟨a, e, h⟩ := h; ⟨a, e, (t _ _).1 h⟩
def keyI (is : List Int) : List Key := is.map Sum.inl
theorem keyI_map (is : List Int) : (keyI is).map kV = is.map V.int := by
  unfold keyI
  rw [List.map_map]
  rfl
section
variable {P : Program} {w : World} {K : PySem.W.Frag} {mg : Str → Option Value} {base : Heap}

/-- the class of errors for what is too great, and how it is raised -/
structure RsT (K : PySem.W.Frag) (mg : Str → Option Value) (TG : Addr) : Prop where
  g : mg "TooGreat" = some (.ref TG)
  x : PySem.W.excIn K TG [.type "ValueError", .type "Exception", .type "BaseException", .type "object"] "ValueError.__new__" = true
  k : PySem.W.keepIn K (.ref TG) = true
  b : PySem.W.subIn K (.ref TG) (.type "BaseException") = some true
  t : PySem.W.typeIn K (.ref TG) = some (.type "type")
def spMake (K : PySem.W.Frag) (C TG : Addr) : Sp := fun vs H Q E => ∃ p pl fk la na v d L N ps m, vs = [.ref p, v] ∧ LayM K C L N H p pl fk la na ps m ∧ Dp K H v d ∧ TupD d ∧ ps.length ≤ 300 ∧ (ps.length < 300 → ∀ H', LayM K C L N H' p pl fk la na (ps ++ [d]) m → Tk H H' → KO pl fk H H' → Q (.int (ps.length : Nat)) H') ∧ (300 ≤ ps.length → E (.ref TG) none H)
theorem sc_make : FnScope ["self", "place"] ["self", "place"] (C8.fnScope (inClass (topS 38) 1)) := C8.fnScope_by (by decide +kernel)
theorem okm_make {TG : Addr} {C f : Addr} {fd : FuncData} (T : Txt K mg C) (me : Meth K C "make" f) (F : C8.Fun K "make" "Layout.make" (inClass (topS 38) 1) f fd) (b : Binds K fd ["self", "place"] []) (B : Bl K mg) (R : RsT K mg TG) : UG.MetX P w K mg base 1 C "make" (spMake K C TG) := by
  refine UG.metX T.cl me F b sc_make ?len ?body
  case len => rintro vs H Q E ⟨p, pl, fk, la, na, v, d, L, N, ps, m, rfl, _⟩; rfl
  case body =>
    rintro cdv A outer s H vs Q E hr ⟨p, pl, fk, la, na, v, d, L, N, ps, m, rfl, hL, hd, td, h300, q, qe⟩
    refine ⟨_, (pss_cons (ps_if (pt_cmpR op_eq (pe_callB call_len_seq rfl B.len PySem.boot_len (pa_cons (pe_fld (pv 0) rfl) pa_nil)) (pe_glob (v := .int 300) rfl B.MOST_PLACES.choose_spec ⟨_, rfl⟩) (nomark _)) (pss_one (ps_raise rfl UG.takes_def (pmk_own PySem.F.excBase_ValueError R.x R.g R.k (raises_own R.b R.t) rfl))) pss_nil)
    (pss_cons (ps_expr (pe_bm PySem.F.plainAttrs_list PySem.F.slot_list_append PySem.F.type_list_append mt_append (pe_fld (pv 0) rfl) (pa_cons (pv 1) pa_nil)))
    (pss_one (ps_ret (pe_op op_sub (pe_callB call_len_seq rfl B.len PySem.boot_len (pa_cons (pe_fld (pv 0) rfl) pa_nil)) pe_int))))), ?_⟩
    obtain ⟨dx, vs, kvs, h1, h2, h3, h4, h5, h6, h7, h8, h9, h10⟩ := id hL
    have hvl := dps_len h3
    refine ⟨_, rfl, p, C, dx, _, _, rfl, h1, T.cl, T.nP, lf_places _ _ _ _, pl, _, rfl, .inl (SqL.of h2), rfl, _, rfl, ?_⟩
    rcases Nat.lt_or_ge ps.length 300 with hlen | hlen
    case inr =>
      rw [dec_int, show decide ((vs.length : Int) = 300) = true from decide_eq_true (by omega)]
      exact iteT (qe hlen)
    have q := q hlen
    rw [dec_int, show decide ((vs.length : Int) = 300) = false from decide_eq_false (by omega)]
    refine iteF ?_
    refine ⟨_, rfl, p, C, dx, _, _, rfl, h1, T.cl, T.nP, lf_places _ _ _ _, .inl ⟨rfl, _, SqL.of h2⟩, _, rfl, pl, _, _, rfl, rfl, h2, Nat.lt_of_le_of_lt (show vs.length ≤ 300 by omega) (by decide), ?_⟩
    have t2 : Tk H (upd H pl (.lst (vs ++ [v]))) := Tk.put h2 _
    have k2 : KO pl fk H (upd H pl (.lst (vs ++ [v]))) := KO.put_pl h8 h2 _
    have nf : fk ≠ pl := ne_of h8 h2 (fun z => nomatch z)
    have L2 : LayM K C L N (upd H pl (.lst (vs ++ [v]))) p pl fk la na (ps ++ [d]) m := by
      refine hL.put t2 k2 upd_same (dps_snoc (t2.dps _ h4 h3) (t2.dp _ td hd)) (tupds_snoc h4 td) (by rw [upd_ne nf]; exact h8) h9 fun e he => ?_
      obtain ⟨b, ys, e1, e2, e3, e4⟩ := h10 e he
      exact ⟨b, ys, e1, by rw [upd_ne e4]; exact e2, e3, e4⟩
    have np : p ≠ pl := fun z => by rw [z, h2] at h1; cases h1
    refine ⟨_, rfl, p, C, dx, _, _, rfl, (by rw [upd_ne np]; exact h1), T.cl, T.nP, lf_places _ _ _ _, pl, _, rfl, .inl (SqL.of upd_same), _, _, rfl, rfl, ?_⟩
    have e : (((vs ++ [v]).length : Nat) : Int) - 1 = (ps.length : Nat) := by rw [List.length_append, hvl]; simp
    show Q (.int ((((vs ++ [v]).length : Nat) : Int) - 1)) _
    rw [e]
    exact q _ L2 t2 k2
def spFork (K : PySem.W.Frag) (C TG : Addr) : Sp := fun vs H Q E => ∃ p pl fk la na v wv nd is L N ps, vs = [.ref p, v, wv] ∧ Lay K C L N H p pl fk la na ps ∧ Dp K H v (.tuple nd) ∧ TupDs nd ∧ Pth H wv is ∧ ps.length ≤ 300 ∧
  (ps.length < 300 → ∀ H', Lay K C L N H' p pl fk la na (ps ++ [.tuple [.str "fork", .tuple nd]]) → Tk H H' → KO pl fk H H' → Q (.int (ps.length : Nat)) H') ∧ (300 ≤ ps.length → ∀ H', Tk H H' → KO pl fk H H' → E (.ref TG) none H')
theorem sc_make_fork : FnScope ["self", "nexts", "path", "fork"] ["self", "nexts", "path"] (C8.fnScope (inClass (topS 38) 2)) := C8.fnScope_by (by decide +kernel)
theorem okm_make_fork {TG : Addr} {C f : Addr} {fd : FuncData} (T : Txt K mg C) (me : Meth K C "make_fork" f) (F : C8.Fun K "make_fork" "Layout.make_fork" (inClass (topS 38) 2) f fd) (b : Binds K fd ["self", "nexts", "path"] []) (B : Bl K mg) (c_make : UG.MetX P w K mg base 1 C "make" (spMake K C TG)) : UG.MetX P w K mg base 2 C "make_fork" (spFork K C TG) := by
  refine UG.metX T.cl me F b sc_make_fork ?len ?body
  case len => rintro vs H Q E ⟨p, pl, fk, la, na, v, wv, nd, is, L, N, ps, rfl, _⟩; rfl
  case body =>
    rintro cdv A outer s H vs Q E hr ⟨p, pl, fk, la, na, v, wv, nd, is, L, N, ps, rfl, ⟨m, hm, hL⟩, hd, td, hpv, h300, q, qe⟩
    refine ⟨_, (pss_cons (ps_set (i := 3) sc_make_fork.nd rfl (Or.inl rfl) (UG.pe_mtX c_make UG.pass_def hr (by decide) (pv 0) (pa_cons (pe_tup (pa_cons pe_str (pa_cons (pv 1) pa_nil))) pa_nil)))
    (pss_cons (ps_expr (pe_bm PySem.F.plainAttrs_list PySem.F.slot_list_append PySem.F.type_list_append mt_append (UG.pe_setdT (hu_of hr) (pe_fld (pv 0) rfl) (pv 2) (pe_lst pa_nil) (by constructor <;> rfl)) (pa_cons (pv 3) pa_nil)))
    (pss_one (ps_ret (pv 3))))), ?_⟩
    obtain ⟨dx, vs, kvs, h1, _⟩ := id hL
    refine ⟨_, rfl, p, dx, _, rfl, h1, (lf_no _ _ _ _ (by decide +kernel) (by decide +kernel) (by decide +kernel) (by decide +kernel)), _, rfl, (by show 2 ≤ sizeLine; decide), fun z hz => ?_⟩
    have sz := same_new hz (.tup [.str "fork", v])
    refine ⟨p, pl, fk, la, na, .ref z, .tuple [.str "fork", .tuple nd], L, N, ps, m, rfl, hL.same sz, .tup (SqT.of upd_same) (.cons (.str _) (.cons (dp_ext (same_ext sz) _ hd) .nil)), ⟨trivial, td, trivial⟩, h300, fun hlen H1 L1 t1 k1 => ?_, fun hge => qe hge _ (Tk.same sz) (hL.ko sz)⟩
    have q := q hlen
    have t01 : Tk H H1 := (Tk.same sz).trans t1
    have k01 : KO pl fk H H1 := (hL.ko sz).trans k1
    obtain ⟨pa, rfl, hpa⟩ := hpv
    have hpa1 := (t01 _ _).1 hpa
    obtain ⟨dx1, vs1, kvs1, g1, g2, g3, g4, g5, g6, g7, g8, g9, g10⟩ := id L1
    have nf : fk ≠ pl := ne_of g8 g2 (fun z => nomatch z)
    refine ⟨_, rfl, p, C, dx1, _, _, rfl, g1, T.cl, T.nF, lf_forks _ _ _ _, ⟨fk, kvs1, rfl, g8⟩, _, rfl, (by show 0 ≤ sizeLine; decide), fun D hD => ?_⟩
    have sD := same_new hD (.lst [])
    have L2 := L1.same sD
    have k2 := k01.trans (L1.ko sD)
    have t2 := t01.trans (Tk.same sD)
    have g8' := sD _ _ g8
    have nD : ∀ b o, H1 b = some o → b ≠ D := fun b o e z => by rw [z, hD] at e; cases e
    refine ⟨fk, pa, kvs1, keyI is, rfl, rfl, g8', ?_, Nat.lt_of_le_of_lt (show kvs1.length ≤ 300 by omega) (by decide), fun y hy => ?_, fun hn => ?_⟩
    · rw [keyI_map]
      exact sD _ _ hpa1
    · -- the path is known
      obtain ⟨k', hk'⟩ := UG.valV_mem hy
      obtain ⟨b, ys, e1, e2, e3, e4⟩ := g10 _ hk'
      cases e1
      have e2' := sD _ _ e2
      refine ⟨.inl ⟨rfl, _, SqL.of e2'⟩, _, rfl, b, _, _, rfl, rfl, e2', Nat.lt_of_le_of_lt (show ys.length ≤ 300 by omega) (by decide), _, rfl, ?_⟩
      have nfb : fk ≠ b := ne_of g8 e2 (fun z => nomatch z)
      have ob : Own (upd H1 D (.lst [])) pl fk b := .inr (.inr ⟨kvs1, k', g8', hk'⟩)
      have t3 := Tk.put e2' (.lst (ys ++ [.int (ps.length : Nat)]))
      have k3 : KO pl fk (upd H1 D (.lst [])) (upd (upd H1 D (.lst [])) b (.lst (ys ++ [.int (ps.length : Nat)]))) := fun a o n e => by
        refine ⟨?_, fun w => n ((own_upd nfb).mp w)⟩
        rw [upd_ne (fun z => n (by rw [z]; exact ob))]
        exact e
      obtain ⟨dx2, vs2, kvs2, f1, f2, f3, f4, f5, f6, f7, f8, f9, f10⟩ := id L2
      rw [g8'] at f8
      cases f8
      refine q _ ⟨m + 1, by rw [List.length_append]; simp; omega, L2.put t3 k3 (by rw [upd_ne (Ne.symm e4)]; exact f2) (t3.dps _ f4 f3) f4 (by rw [upd_ne nfb]; exact g8') (by omega) fun e he => ?_⟩ (t2.trans t3) (k2.trans k3)
      obtain ⟨b', ys', a1, a2, a3, a4⟩ := f10 e he
      by_cases z : b' = b
      · subst z
        rw [e2'] at a2
        cases a2
        exact ⟨b', _, a1, upd_same, by rw [List.length_append]; simp; omega, a4⟩
      · exact ⟨b', ys', a1, by rw [upd_ne z]; exact a2, by omega, a4⟩
    · -- the path is new
      have hDD : upd (upd H1 D (.lst [])) fk (.dT (putK kvs1 (keyI is) (.ref D))) D = some (.lst []) := by rw [upd_ne (Ne.symm (nD _ _ g8))]; exact upd_same
      refine ⟨.inl ⟨rfl, _, SqL.of hDD⟩, _, rfl, D, _, _, rfl, rfl, hDD, (by decide), _, rfl, ?_⟩
      have tA := Tk.putT g8' (.dT (putK kvs1 (keyI is) (.ref D)))
      have tB := Tk.put hDD (.lst ([] ++ [.int (ps.length : Nat)]))
      have t3 := tA.trans tB
      have nfD := nD _ _ g8
      have hfk : upd (upd (upd H1 D (.lst [])) fk (.dT (putK kvs1 (keyI is) (.ref D)))) D (.lst ([] ++ [.int (ps.length : Nat)])) fk = some (.dT (putK kvs1 (keyI is) (.ref D))) := by rw [upd_ne nfD]; exact upd_same
      have k3 : KO pl fk H (upd (upd (upd H1 D (.lst [])) fk (.dT (putK kvs1 (keyI is) (.ref D)))) D (.lst ([] ++ [.int (ps.length : Nat)]))) := fun a o n e => by
        obtain ⟨x1, x2⟩ := k01 a o n e
        have naD := nD _ _ x1
        refine ⟨?_, fun w => ?_⟩
        · rw [upd_ne naD, upd_ne (fun z => x2 (.inr (.inl z))), upd_ne naD]
          exact x1
        · rcases w with w | w | ⟨kv, k, y1, y2⟩
          · exact x2 (.inl w)
          · exact x2 (.inr (.inl w))
          · rw [hfk] at y1
            cases y1
            rcases UG.putK_mem y2 with y | y
            · exact x2 (.inr (.inr ⟨kvs1, k, g8, y⟩))
            · cases y
              exact naD rfl
      have npl := nD _ _ g2
      have old : ∀ b o, H1 b = some o → b ≠ fk → upd (upd (upd H1 D (.lst [])) fk (.dT (putK kvs1 (keyI is) (.ref D)))) D (.lst ([] ++ [.int (ps.length : Nat)])) b = some o := fun b o e n => by
        rw [upd_ne (nD _ _ e), upd_ne n, upd_ne (nD _ _ e)]
        exact e
      have hp0 : ¬ Own H pl fk p := hL.not_own h1 (fun _ z => nomatch z) (fun _ z => nomatch z)
      have hn0 : ¬ Own H pl fk na ∧ H na = some (.lst (N.map V.str)) := by
        obtain ⟨_, _, _, _, _, _, _, _, b6, b7, _⟩ := id hL
        exact ⟨b7, b6⟩
      have kn := k3 _ _ hn0.1 hn0.2
      refine q _ ⟨m + 1, by rw [List.length_append]; simp; omega, dx, vs1, _, (k3 _ _ hp0 h1).1, old _ _ g2 (Ne.symm nf), (Tk.trans (Tk.same sD) t3).dps _ g4 g3, g4, g5.tk (Tk.trans (Tk.same sD) t3), kn.1, kn.2, hfk, ?_, fun e he => ?_⟩ (t2.trans t3) k3
      · have := length_putK kvs1 (keyI is) (V.ref D)
        omega
      · rcases UG.putK_mem he with he | he
        · obtain ⟨b', ys', a1, a2, a3, a4⟩ := g10 e he
          exact ⟨b', ys', a1, old _ _ a2 (fun z => by rw [z, g8] at a2; cases a2), by omega, a4⟩
        · exact ⟨D, _, he, upd_same, by simp, Ne.symm npl⟩
end
end K09


set_option Elab.async false
set_option linter.all false
set_option maxRecDepth 100000
set_option maxHeartbeats 8000000
namespace K09
open PySem PySem.Spec PyProof.Rows L2
theorem layBs_take {L N : List Str} {lv : List PyData → Int × List PyData} {bs : List (List St)} {i : Nat} {b : List St} (t : Int) (ps : List PyData) (h : bs[i]? = some b) :
    layBs L N lv (bs.take (i + 1)) t ps = ((layBs L N lv (bs.take i) t ps).1 ++ [(layB L N lv b t (layBs L N lv (bs.take i) t ps).2).1], (layB L N lv b t (layBs L N lv (bs.take i) t ps).2).2) := by
  rw [List.take_succ, h]
  show layBs L N lv (bs.take i ++ [b]) t ps = _
  rw [layBs_app]
  rfl
theorem layBs_le {L N : List Str} {lv : List PyData → Int × List PyData} (bs : List (List St)) (i : Nat) (t : Int) (ps : List PyData) (h : ∀ ps, ps.length ≤ (lv ps).2.length) : (layBs L N lv (bs.take i) t ps).2.length ≤ (layBs L N lv bs t ps).2.length := by
  have e : layBs L N lv bs t ps = layBs L N lv (bs.take i ++ bs.drop i) t ps := by rw [List.take_append_drop]
  rw [e, layBs_app]
  exact grow_Bs L N _ _ _ h
theorem layBs_len {L N : List Str} {lv : List PyData → Int × List PyData} : ∀ (bs : List (List St)) (t : Int) (ps : List PyData), (layBs L N lv bs t ps).1.length = bs.length
  | [], _, _ => rfl
  | b :: r, t, ps => by rw [layBs, List.length_cons, List.length_cons, layBs_len r]
theorem layB_le {L N : List Str} {lv : List PyData → Int × List PyData} (b : List St) (i : Nat) (t : Int) (ps : List PyData) (h : ∀ ps, ps.length ≤ (lv ps).2.length) : (layB L N lv (b.drop i) t ps).2.length ≤ (layB L N lv b t ps).2.length := by
  have e : layB L N lv b t ps = layB L N lv (b.take i ++ b.drop i) t ps := by rw [List.take_append_drop]
  rw [e, layB_app]
  exact grow_B L N _ _ _ h
theorem dp_intsT {K : PySem.W.Frag} {H : Hp} : ∀ ns : List Int, DpAll K H (ns.map V.int) (ns.map PyData.int)
  | [] => .nil
  | n :: ns => .cons (.int n) (dp_intsT ns)
theorem tup_intsT : ∀ ns : List Int, TupDs (ns.map PyData.int)
  | [] => trivial
  | _ :: r => ⟨trivial, tup_intsT r⟩
theorem eqv_strs (z y : Str) : eqV (.str z) (.str y) = decide (z = y) := by
  show (z == y) = _
  by_cases h : z = y
  · subst h; simp
  · rw [decide_eq_false h]; exact beq_eq_false_iff_ne.mpr h
theorem ix_nat {n j : Nat} (hj : j < n) : ixN n (j : Int) = some j := by
  unfold ixN
  rw [if_pos (by omega), if_pos (by omega), Int.toNat_natCast]
theorem dss_snoc (secs : List (List St)) (c : List St) : dss (secs ++ [c]) = dss secs ++ [.tuple (ds c)] := by rw [dss_map, dss_map, List.map_append]; rfl
/-! ### what stands at a place does not matter to what is laid behind it -/
mutual
theorem set_S (L N : List Str) (d : PyData) : ∀ (s : St) {lv : List PyData → Int × List PyData} (t : Int) (ps : List PyData) (j : Nat), j < ps.length → (∀ ps, ps.length ≤ (lv ps).2.length) → (∀ ps j, j < ps.length → lv (ps.set j d) = ((lv ps).1, (lv ps).2.set j d)) →
    layS L N lv s t (ps.set j d) = ((layS L N lv s t ps).1, (layS L N lv s t ps).2.set j d)
  | .dd x, lv, t, ps, j, hj, _, _ | .ud x, lv, t, ps, j, hj, _, _ | .cl x, lv, t, ps, j, hj, _, _ => by
    simp only [layS, List.length_set]
    rw [List.set_append_left _ _ hj]
  | .ch bs, lv, t, ps, j, hj, g, h => by
    have e := set_Bs L N d bs (lv := lv) t ps j hj g h
    have hg := grow_Bs L N bs t ps g
    simp only [layS, e, List.length_set]
    rw [List.set_append_left _ _ (by omega)]
  | .lp b, lv, t, ps, j, hj, g, h => by
    have e := set_B L N d b (lv := lv) (ps.length : Nat) (ps ++ [.none]) j (by rw [List.length_append]; omega) g h
    rw [List.set_append_left _ _ hj] at e
    simp only [layS, List.length_set, e]
    rw [List.set_comm _ _ (show j ≠ ps.length by omega)]
  | .rt, lv, t, ps, j, hj, g, h => h ps j hj
  | .en b c, lv, t, ps, j, hj, g, h => by
    have g0 : ∀ ps : List PyData, ps.length ≤ ((fun ps => ((0 : Int), ps)) ps).2.length := fun _ => Nat.le_refl _
    have e := set_B L N d c (lv := fun ps => ((0 : Int), ps)) t ps j hj g0 fun _ _ _ => rfl
    have hg := grow_B L N c (lv := fun ps => ((0 : Int), ps)) t ps g0
    simp only [layS, e]
    refine set_B L N d b _ _ j (by omega) (fun ps => ?_) fun ps j hj => ?_
    · exact Nat.le_trans (g ps) (grow_B L N c _ _ g0)
    · have e2 := set_B L N d c (lv := fun ps => ((0 : Int), ps)) (lv ps).1 (lv ps).2 j (Nat.lt_of_lt_of_le hj (g ps)) g0 fun _ _ _ => rfl
      simp only [h ps j hj, e2]
theorem set_B (L N : List Str) (d : PyData) : ∀ (b : List St) {lv : List PyData → Int × List PyData} (t : Int) (ps : List PyData) (j : Nat), j < ps.length → (∀ ps, ps.length ≤ (lv ps).2.length) → (∀ ps j, j < ps.length → lv (ps.set j d) = ((lv ps).1, (lv ps).2.set j d)) →
    layB L N lv b t (ps.set j d) = ((layB L N lv b t ps).1, (layB L N lv b t ps).2.set j d)
  | [], _, _, _, _, _, _, _ => rfl
  | s :: r, lv, t, ps, j, hj, g, h => by
    have e := set_B L N d r (lv := lv) t ps j hj g h
    have hg := grow_B L N r t ps g
    simp only [layB, e]
    exact set_S L N d s _ _ j (by omega) g h
theorem set_Bs (L N : List Str) (d : PyData) : ∀ (b : List (List St)) {lv : List PyData → Int × List PyData} (t : Int) (ps : List PyData) (j : Nat), j < ps.length → (∀ ps, ps.length ≤ (lv ps).2.length) → (∀ ps j, j < ps.length → lv (ps.set j d) = ((lv ps).1, (lv ps).2.set j d)) →
    layBs L N lv b t (ps.set j d) = ((layBs L N lv b t ps).1, (layBs L N lv b t ps).2.set j d)
  | [], _, _, _, _, _, _, _ => rfl
  | s :: r, lv, t, ps, j, hj, g, h => by
    have e := set_B L N d s (lv := lv) t ps j hj g h
    have hg := grow_B L N s t ps g
    have e2 := set_Bs L N d r (lv := lv) t (layB L N lv s t ps).2 j (by omega) g h
    simp only [layBs, e, e2]
end
theorem set_fold (L N : List Str) (d : PyData) : ∀ (b : List (List St)) (q : Int × List PyData) (j : Nat), j < q.2.length → b.foldl (fun q c => layB L N lv0 c q.1 q.2) (q.1, q.2.set j d) = ((b.foldl (fun q c => layB L N lv0 c q.1 q.2) q).1, (b.foldl (fun q c => layB L N lv0 c q.1 q.2) q).2.set j d)
  | [], q, j, _ => rfl
  | c :: r, q, j, hj => by
    rw [List.foldl_cons, List.foldl_cons]
    have e := set_B L N d c (lv := lv0) q.1 q.2 j hj grow_lv0 fun _ _ _ => rfl
    have hg := grow_B L N c (lv := lv0) q.1 q.2 grow_lv0
    rw [show layB L N lv0 c (q.1, q.2.set j d).1 (q.1, q.2.set j d).2 = _ from e]
    exact set_fold L N d r (layB L N lv0 c q.1 q.2) j (by omega)
theorem set_leave (L N : List Str) (d : PyData) (secs : List (List St)) (ps : List PyData) (j : Nat) (hj : j < ps.length) : leave L N secs (ps.set j d) = ((leave L N secs ps).1, (leave L N secs ps).2.set j d) := set_fold L N d secs (0, ps) j hj
/-- a loop's place may hold anything while its body is laid -/
theorem lay_lp (L N : List Str) (secs : List (List St)) (b : List St) (t : Int) (ps : List PyData) (d : PyData) :
    layS L N (leave L N secs) (.lp b) t ps = (((ps.length : Nat) : Int), (layB L N (leave L N secs) b (ps.length : Nat) (ps ++ [d])).2.set ps.length (.tuple [.str "fork", .tuple [.int (layB L N (leave L N secs) b (ps.length : Nat) (ps ++ [d])).1, .int t]])) := by
  have e := set_B L N d b (lv := leave L N secs) (ps.length : Nat) (ps ++ [.none]) ps.length (by simp) (grow_leave secs) (set_leave L N d secs)
  have e1 : (ps ++ [PyData.none]).set ps.length d = ps ++ [d] := by rw [List.set_append_right _ _ (Nat.le_refl _), Nat.sub_self]; rfl
  rw [e1] at e
  rw [layS, e, List.set_set]
/-! ### the second bodies around, with their paths -/
abbrev Sec := List St × List Int
def fs (secs : List Sec) : List (List St) := secs.map Prod.fst
def lim (R : Bool) : Nat := if R then 400 else 800
theorem lim_le (R : Bool) : lim R ≤ 800 := by cases R <;> decide
def SecOk (L N : List Str) (R sec : Bool) (secs : List Sec) : Prop := sec = true ∨ (R = true ∧ ∀ c ∈ secs, oks L N true c.1 ∧ ks c.1 ≤ 12 ∧ ns c.1 ≤ 1000 ∧ c.2.length ≤ 400)
theorem SecOk.snoc {L N : List Str} {R sec : Bool} {secs : List Sec} {c : List St} {is : List Int} (h : SecOk L N R sec secs) (hc : oks L N true c) (hk : ks c ≤ 12) (hn : ns c ≤ 1000) (hi : is.length ≤ lim R) : SecOk L N R sec (secs ++ [(c, is)]) := by
  rcases h with h | ⟨h, h2⟩
  · exact .inl h
  · refine .inr ⟨h, fun d hd => (List.mem_append.mp hd).elim (h2 d) fun z => ?_⟩
    cases List.mem_singleton.mp z
    subst h
    exact ⟨hc, hk, hn, hi⟩
def Sec1 (K : PySem.W.Frag) (H : Hp) (v : V) (c : Sec) : Prop := ∃ r b w, v = V.ref r ∧ H r = some (.tup [b, w]) ∧ Dp K H b (.tuple (ds c.1)) ∧ Pth H w c.2
def SecV (K : PySem.W.Frag) (H : Hp) (v : V) (secs : List Sec) : Prop := ∃ a xs, v = V.ref a ∧ H a = some (.tup xs) ∧ Paired (Sec1 K H) xs secs
theorem Sec1.tk {K : PySem.W.Frag} {H H' : Hp} {v : V} {c : Sec} (t : Tk H H') (h : Sec1 K H v c) : Sec1 K H' v c := by
  obtain ⟨r, b, w, e, h1, h2, h3⟩ := h
  exact ⟨r, b, w, e, (t _ _).1 h1, t.dp (.tuple (ds c.1)) (tup_ds c.1) h2, h3.tk t⟩
theorem SecV.tk {K : PySem.W.Frag} {H H' : Hp} {v : V} {secs : List Sec} (h : SecV K H v secs) (t : Tk H H') : SecV K H' v secs := by
  obtain ⟨a, xs, e, h1, h2⟩ := h
  exact ⟨a, xs, e, (t _ _).1 h1, Paired.mapP h2 fun _ _ z => Sec1.tk t z⟩
theorem paired_at {α β : Type} {R : α → β → Prop} : ∀ {xs : List α} {ys : List β} {i : Nat} {x : α}, Paired R xs ys → xs[i]? = some x → ∃ y, ys[i]? = some y ∧ R x y
  | _, _, _, _, .nil, e => by simp at e
  | _, _, 0, _, .cons r _, e => by simp at e; subst e; exact ⟨_, rfl, r⟩
  | _, _, i + 1, _, .cons _ t, e => by
    obtain ⟨y, h1, h2⟩ := paired_at (i := i) t (by simpa using e)
    exact ⟨y, by simpa using h1, h2⟩
theorem fs_snoc (secs : List Sec) (c : List St) (is : List Int) : fs (secs ++ [(c, is)]) = fs secs ++ [c] := by unfold fs; rw [List.map_append]; rfl
theorem fs_take (secs : List Sec) (i : Nat) : (fs secs).take i = fs (secs.take i) := by unfold fs; rw [List.map_take]
theorem for_Itc {lo c : Int} {n : Nat} {g : TG} {tb : TS} {D : Ends} {σ : L2.St} {H : Hp} (Pv : Nat → L2.St → Hp → Prop) (h0 : Pv 0 σ H)
    (hs : ∀ i σ H, i < n → Pv i σ H → g (.int (lo + (i : Nat) * c)) σ H fun σ2 H2 => tb { D with nx := Pv (i + 1), ct := Pv (i + 1), bk := D.nx } σ2 H2) (hd : ∀ σ H, Pv n σ H → D.nx σ H) :
    ∃ W : Nat → Nat → L2.St → Hp → Prop, (∃ m, W 0 m σ H) ∧ ∀ i m σ H, W i m σ H →
      ((Itc lo c n).stop i H ∧ D.nx σ H) ∨ ((Itc lo c n).go i H ∧ ∃ N : L2.St → Hp → Prop, (∀ σ' H', N σ' H' → ∃ m', m' < m ∧ W (i + 1) m' σ' H') ∧ ∀ x H', (Itc lo c n).yld i H x H' → g x σ H' fun σ2 H2 => tb { D with nx := N, ct := N, bk := D.nx } σ2 H2) := by
  refine ⟨fun i m σ H => i ≤ n ∧ m = n - i ∧ Pv i σ H, ⟨n, Nat.zero_le _, rfl, h0⟩, ?_⟩
  rintro i m σ H ⟨hi, rfl, p⟩
  rcases Nat.lt_or_ge i n with hlt | hge
  · refine .inr ⟨hlt, Pv (i + 1), fun σ' H' p' => ⟨n - (i + 1), by omega, hlt, rfl, p'⟩, ?_⟩
    rintro _ _ ⟨rfl, rfl⟩
    exact hs i σ _ hlt p
  · have e : i = n := Nat.le_antisymm hi hge
    subst e
    exact .inl ⟨Nat.le_refl _, hd σ H p⟩
theorem lc_enumT {K : PySem.W.Frag} {a : Addr} {xs : List V} {g : TG} {tt : TT} {te : TE} {vs : List Nat} {σ : L2.St} {H1 : Hp} {D : Addr} {Qd : Hp → Prop} (Pv : Nat → Hp → Prop) (h0 : Pv 0 (upd H1 D (.lst []))) (hl : ∀ i H, i ≤ xs.length → Pv i H → SqT K H a xs)
    (hs : ∀ i x H Tp, xs[i]? = some x → Pv i H → H Tp = none → g (.ref Tp) (wipe σ vs) (upd H Tp (.tup [.int (i : Nat), x])) fun σ2 H2 => wipe σ2 vs = wipe σ vs ∧ tt σ2 H2 fun b H3 =>
      if b = true then te σ2 H3 fun y H4 => ∃ acc, H4 D = some (.lst acc) ∧ acc.length < sizeLine ∧ Pv (i + 1) (upd H4 D (.lst (acc ++ [y]))) else Pv (i + 1) H3) (hd : ∀ H, Pv xs.length H → Qd H) :
    ∃ W : Nat → Nat → Hp → Prop, (∃ m, W 0 m (upd H1 D (.lst []))) ∧ ∀ i m H, W i m H →
      ((UG.Iet K a).stop i H ∧ Qd H) ∨ ((UG.Iet K a).go i H ∧ ∃ Nx : Hp → Prop, (∀ H', Nx H' → ∃ m', m' < m ∧ W (i + 1) m' H') ∧ ∀ x H', (UG.Iet K a).yld i H x H' → g x (wipe σ vs) H' fun σ2 H2 => wipe σ2 vs = wipe σ vs ∧ tt σ2 H2 fun b H3 =>
        if b = true then te σ2 H3 fun y H4 => ∃ acc, H4 D = some (.lst acc) ∧ acc.length < sizeLine ∧ Nx (upd H4 D (.lst (acc ++ [y]))) else Nx H3) := by
  refine ⟨fun i m H => i ≤ xs.length ∧ m = xs.length - i ∧ Pv i H, ⟨xs.length, Nat.zero_le _, rfl, h0⟩, ?_⟩
  rintro i m H ⟨hi, rfl, p⟩
  have q := hl i H hi p
  rcases Nat.lt_or_ge i xs.length with hlt | hge
  · refine .inr ⟨⟨xs, xs[i], q, List.getElem?_eq_getElem hlt⟩, Pv (i + 1), fun H' p' => ⟨xs.length - (i + 1), by omega, hlt, rfl, p'⟩, ?_⟩
    rintro _ _ ⟨Tp, x, rfl, hTp, rfl, hx⟩
    exact hs i x H Tp (hx xs q) p hTp
  · have e : i = xs.length := Nat.le_antisymm hi hge
    subst e
    exact .inl ⟨⟨xs, q, Nat.le_refl _⟩, hd H p⟩
theorem KO.upd_fresh {pl fk b : Addr} {H : Hp} {kvs : List (List Key × V)} (hf : H fk = some (.dT kvs)) (hb : H b = none) (o : HO) : KO pl fk H (upd H b o) := (KO.refl pl fk H).fresh hb (fun z => by rw [z, hb] at hf; cases hf) o
section
variable {P : Program} {w : World} {K : PySem.W.Frag} {mg : Str → Option Value} {base : Heap}

def spBd (K : PySem.W.Frag) (C TG : Addr) (R : Bool) (n : Nat) : Sp := fun vs H Q E => ∃ p pl fk la na bv t sv wv L N ps b secs is sec, vs = [.ref p, bv, .int t, sv, wv] ∧ Lay K C L N H p pl fk la na ps ∧ Dp K H bv (.tuple (ds b)) ∧ SecV K H sv secs ∧ Pth H wv is ∧ ks b < n ∧ ks b ≤ 12 ∧ ns b ≤ 1000 ∧ secs.length + n ≤ 1000 ∧ is.length + 2 * n + 1 ≤ lim R ∧ oks L N sec b ∧ SecOk L N R sec secs ∧
  ps.length ≤ 300 ∧ ((layB L N (leave L N (fs secs)) b t ps).2.length ≤ 300 → ∀ H', Lay K C L N H' p pl fk la na (layB L N (leave L N (fs secs)) b t ps).2 → Tk H H' → KO pl fk H H' → Q (.int (layB L N (leave L N (fs secs)) b t ps).1) H') ∧ (300 < (layB L N (leave L N (fs secs)) b t ps).2.length → ∀ H', Tk H H' → KO pl fk H H' → E (.ref TG) none H')
def spSt (K : PySem.W.Frag) (C TG : Addr) (R : Bool) (n : Nat) : Sp := fun vs H Q E => ∃ p pl fk la na bv t sv wv L N ps s secs is sec, vs = [.ref p, bv, .int t, sv, wv] ∧ Lay K C L N H p pl fk la na ps ∧ Dp K H bv (St.d s) ∧ SecV K H sv secs ∧ Pth H wv is ∧ s.k < n ∧ s.k ≤ 12 ∧ s.n ≤ 1000 ∧ secs.length + n ≤ 1000 ∧ is.length + 2 * n ≤ lim R ∧ s.ok L N sec ∧ SecOk L N R sec secs ∧
  ps.length ≤ 300 ∧ ((layS L N (leave L N (fs secs)) s t ps).2.length ≤ 300 → ∀ H', Lay K C L N H' p pl fk la na (layS L N (leave L N (fs secs)) s t ps).2 → Tk H H' → KO pl fk H H' → Q (.int (layS L N (leave L N (fs secs)) s t ps).1) H') ∧ (300 < (layS L N (leave L N (fs secs)) s t ps).2.length → ∀ H', Tk H H' → KO pl fk H H' → E (.ref TG) none H')
def spLp (K : PySem.W.Frag) (C TG : Addr) (R : Bool) (n : Nat) : Sp := fun vs H Q E => ∃ p pl fk la na bv t sv wv L N ps b secs is sec, vs = [.ref p, bv, .int t, sv, wv] ∧ Lay K C L N H p pl fk la na ps ∧ Dp K H bv (.tuple (ds b)) ∧ SecV K H sv secs ∧ Pth H wv is ∧ ks b < n ∧ ks b ≤ 12 ∧ ns b ≤ 1000 ∧ secs.length + n ≤ 1000 ∧ is.length + 2 * n + 2 ≤ lim R ∧ oks L N sec b ∧ SecOk L N R sec secs ∧
  ps.length ≤ 300 ∧ ((layS L N (leave L N (fs secs)) (.lp b) t ps).2.length ≤ 300 → ∀ H', Lay K C L N H' p pl fk la na (layS L N (leave L N (fs secs)) (.lp b) t ps).2 → Tk H H' → KO pl fk H H' → Q (.int (layS L N (leave L N (fs secs)) (.lp b) t ps).1) H') ∧ (300 < (layS L N (leave L N (fs secs)) (.lp b) t ps).2.length → ∀ H', Tk H H' → KO pl fk H H' → E (.ref TG) none H')
def spLv (K : PySem.W.Frag) (C TG : Addr) : Sp := fun vs H Q E => ∃ p pl fk la na sv L N ps secs, vs = [.ref p, sv] ∧ Lay K C L N H p pl fk la na ps ∧ SecV K H sv secs ∧ (∀ c ∈ secs, oks L N true c.1 ∧ ks c.1 ≤ 12 ∧ ns c.1 ≤ 1000 ∧ c.2.length ≤ 400) ∧
  ps.length ≤ 300 ∧ ((leave L N (fs secs) ps).2.length ≤ 300 → ∀ H', Lay K C L N H' p pl fk la na (leave L N (fs secs) ps).2 → Tk H H' → KO pl fk H H' → Q (.int (leave L N (fs secs) ps).1) H') ∧ (300 < (leave L N (fs secs) ps).2.length → ∀ H', Tk H H' → KO pl fk H H' → E (.ref TG) none H')
theorem sc_lay : FnScope ["self", "body", "told", "seconds", "path", "at"] ["self", "body", "told", "seconds", "path"] (C8.fnScope (inClass (topS 38) 3)) := C8.fnScope_by (by decide +kernel)
theorem sc_statement : FnScope ["self", "statement", "told", "seconds", "path", "word", "nexts", "at", "body", "behind"] ["self", "statement", "told", "seconds", "path"] (C8.fnScope (inClass (topS 38) 4)) := C8.fnScope_by (by decide +kernel)
theorem sc_loop : FnScope ["self", "inner", "told", "seconds", "path", "fork"] ["self", "inner", "told", "seconds", "path"] (C8.fnScope (inClass (topS 38) 5)) := C8.fnScope_by (by decide +kernel)
theorem sc_leave : FnScope ["self", "seconds", "begin", "second", "path"] ["self", "seconds"] (C8.fnScope (inClass (topS 38) 6)) := C8.fnScope_by (by decide +kernel)
theorem okm_lay {TG : Addr} {R : Bool} {n e : Nat} {C f : Addr} {fd : FuncData} (T : Txt K mg C) (me : Meth K C "lay" f) (F : C8.Fun K "lay" "Layout.lay" (inClass (topS 38) 3) f fd) (b : Binds K fd ["self", "body", "told", "seconds", "path"] []) (B : Bl K mg) (c_statement : UG.MetX P w K mg base e C "statement" (spSt K C TG R n)) : UG.MetX P w K mg base (e + 1) C "lay" (spBd K C TG R n) := by
  refine UG.metX T.cl me F b sc_lay ?len ?body
  case len => rintro vs H Q E ⟨p, pl, fk, la, na, bv, t, sv, wv, L, N, ps, b, secs, is, sec, rfl, _⟩; rfl
  case body =>
    rintro cdv A outer s H vs Q E hr ⟨p, pl, fk, la, na, bv, t, sv, wv, L, N, ps, b, secs, is, sec, rfl, hL, hd, hsv, hpt, hk, hk12, hn, hsl, hil, hok, hso, h300, q, qe⟩
    refine ⟨_, (pss_cons (ps_for UG.own_def rfl (pi_revR rfl B.reversed (prg_1 rfl B.range (pe_callB call_len_seq rfl B.len PySem.boot_len (pa_cons (pv 1) pa_nil)))) (pg_name (i := 5) sc_lay.nd rfl (Or.inl rfl))
    (pss_one (ps_set (i := 2) sc_lay.nd rfl (Or.inl rfl) (UG.pe_mtX c_statement UG.pass_def hr (by omega) (pv 0) (pa_cons (pe_ix ix_tup (pv 1) (pv 5) (fun _ _ => rfl)) (pa_cons (pv 2) (pa_cons (pv 3) (pa_cons (pe_tup (StX.pa_star (pv 4) (pa_cons (pv 5) pa_nil))) pa_nil))))))))
    (pss_one (ps_ret (pv 2)))), ?_⟩
    obtain ⟨a, xs, rfl, hs, ha, hl⟩ := len_ok hd
    rw [ds_len] at hl
    have hbl := len_ns b
    refine ⟨_, rfl, a, xs, rfl, .inr hs, _, rfl, (by decide), (by decide), (by omega), (by omega), ?_⟩
    refine for_Itc (fun i σ H' => ∃ b5, σ = [some (.ref p), some (.ref a), some (.int (layB L N (leave L N (fs secs)) (b.drop (b.length - i)) t ps).1), some sv, some wv, b5] ∧ Lay K C L N H' p pl fk la na (layB L N (leave L N (fs secs)) (b.drop (b.length - i)) t ps).2 ∧ Tk H H' ∧ KO pl fk H H' ∧ (layB L N (leave L N (fs secs)) (b.drop (b.length - i)) t ps).2.length ≤ 300) ?_ ?_ ?_
    · refine ⟨none, ?_, ?_, Tk.refl H, KO.refl pl fk H, ?_⟩
      · rw [Nat.sub_zero, List.drop_length]; rfl
      · rw [Nat.sub_zero, List.drop_length]; exact hL
      · rw [Nat.sub_zero, List.drop_length]; exact h300
    · rintro i _ H1 hi ⟨b5, rfl, L1, t1, k1, l1⟩
      have hib : i < b.length := by omega
      have ev : (0 + ((((xs.length : Nat) : Int) - 0).toNat : Int) - 1 + (i : Int) * (-1)) = ((b.length - 1 - i : Nat) : Int) := by omega
      rw [ev]
      have hxi : b.length - 1 - i < xs.length := by omega
      have hx := List.getElem?_eq_getElem hxi
      generalize xs[b.length - 1 - i] = x at hx
      obtain ⟨d, hd, hdp⟩ := dps_get' ha hx
      obtain ⟨st, hsb, rfl⟩ := ds_get hd
      have e := drop_cons hib hsb
      have hm := List.mem_of_getElem? hsb
      have hkm := ks_mem hm
      have hnm := ns_mem hm
      have hle := layB_le (L := L) (N := N) (lv := leave L N (fs secs)) b (b.length - (i + 1)) t ps (grow_leave (fs secs))
      have hst : layB L N (leave L N (fs secs)) (b.drop (b.length - (i + 1))) t ps = layS L N (leave L N (fs secs)) st (layB L N (leave L N (fs secs)) (b.drop (b.length - i)) t ps).1 (layB L N (leave L N (fs secs)) (b.drop (b.length - i)) t ps).2 := by rw [e]; rfl
      obtain ⟨m, hmm, dx, vs, kvs, h1, _⟩ := id L1
      obtain ⟨pa, rfl, hpa⟩ := hpt.tk t1
      refine ⟨_, rfl, p, dx, _, rfl, h1, (lf_no _ _ _ _ (by decide +kernel) (by decide +kernel) (by decide +kernel) (by decide +kernel)), _, rfl, _, rfl, _, _, _, _, rfl, rfl, t1.sqt hs, atI_nat hx, _, rfl, _, rfl, _, rfl, pa, _, rfl, .inl (SqT.of hpa), _, rfl, ?_, fun w hw => ?_⟩
      · refine Nat.le_trans (show _ ≤ 801 by rw [List.length_append, List.length_map]; have := lim_le R; simp; omega) (by decide)
      have sw := same_new hw (.tup (is.map V.int ++ [.int ((b.length - 1 - i : Nat) : Int)]))
      have tw := t1.trans (Tk.same sw)
      refine ⟨p, pl, fk, la, na, x, _, sv, .ref w, L, N, _, st, secs, is ++ [((b.length - 1 - i : Nat) : Int)], sec, rfl, L1.same sw, tw.dp _ (tup_St st) hdp, hsv.tk tw, ⟨w, rfl, by rw [upd_same, List.map_append]; rfl⟩, by omega, by omega, by omega, hsl, (by rw [List.length_append]; simp; omega), oks_iff.mp hok st hm, hso, l1, fun hl2 H2 L2 t2 k2 => ?_, fun hgt H2 t2 k2 => qe (by rw [← hst] at hgt; omega) H2 (tw.trans t2) (k1.trans ((L1.ko sw).trans k2))⟩
      exact ⟨_, by rw [hst]; rfl, by rw [hst]; exact L2, tw.trans t2, k1.trans ((L1.ko sw).trans k2), by rw [hst]; exact hl2⟩
    · rintro σ H1 ⟨b5, rfl, L1, t1, k1, l1⟩
      have e0 : (((xs.length : Nat) : Int) - 0).toNat = b.length := by omega
      simp only [e0, Nat.sub_self, List.drop_zero] at L1 l1 ⊢
      exact ⟨_, rfl, q l1 H1 L1 t1 k1⟩
theorem okm_loop {TG : Addr} {R : Bool} {n e : Nat} {C f : Addr} {fd : FuncData} (T : Txt K mg C) (me : Meth K C "loop" f) (F : C8.Fun K "loop" "Layout.loop" (inClass (topS 38) 5) f fd) (b : Binds K fd ["self", "inner", "told", "seconds", "path"] []) (B : Bl K mg) (c_make_fork : UG.MetX P w K mg base 2 C "make_fork" (spFork K C TG)) (c_lay : UG.MetX P w K mg base e C "lay" (spBd K C TG R n)) (he : 2 ≤ e) : UG.MetX P w K mg base (e + 1) C "loop" (spLp K C TG R n) := by
  refine UG.metX T.cl me F b sc_loop ?len ?body
  case len => rintro vs H Q E ⟨p, pl, fk, la, na, bv, t, sv, wv, L, N, ps, b, secs, is, sec, rfl, _⟩; rfl
  case body =>
    rintro cdv A outer s H vs Q E hr ⟨p, pl, fk, la, na, bv, t, sv, wv, L, N, ps, b, secs, is, sec, rfl, hL, hd, hsv, hpt, hk, hk12, hn, hsl, hil, hok, hso, h300, q, qe⟩
    refine ⟨_, (pss_cons (ps_set (i := 5) sc_loop.nd rfl (Or.inl rfl) (UG.pe_mtX c_make_fork UG.pass_def hr (by omega) (pv 0) (pa_cons (pe_tup pa_nil) (pa_cons (pv 4) pa_nil))))
    (pss_cons (ps_asg (pe_tup (pa_cons pe_str (pa_cons (pe_tup (pa_cons (UG.pe_mtX c_lay UG.pass_def hr (by omega) (pv 0) (pa_cons (pv 1) (pa_cons (pv 5) (pa_cons (pv 3) (pa_cons (pe_tup (StX.pa_star (pv 4) (pa_cons pe_int pa_nil))) pa_nil))))) (pa_cons (pv 2) pa_nil))) pa_nil))) (pg_sub (pe_fld (pv 0) rfl) (pv 5) set_list))
    (pss_one (ps_ret (pv 5))))), ?_⟩
    rw [lay_lp L N (fs secs) b t ps (.tuple [.str "fork", .tuple []])] at qe q
    rw [List.length_set] at qe q
    have hg := grow_B L N b (ps.length : Nat) (ps ++ [.tuple [.str "fork", .tuple []]]) (grow_leave (L := L) (N := N) (fs secs))
    rw [List.length_append] at hg
    obtain ⟨m, hmm, dx, vs, kvs, h1, _⟩ := id hL
    refine ⟨_, rfl, p, dx, _, rfl, h1, (lf_no _ _ _ _ (by decide +kernel) (by decide +kernel) (by decide +kernel) (by decide +kernel)), (by show 0 ≤ sizeLine; decide), fun z hz => ?_⟩
    have sz := same_new hz (.tup [])
    refine ⟨_, rfl, p, pl, fk, la, na, .ref z, wv, [], is, L, N, ps, rfl, hL.same sz, .tup (SqT.of upd_same) .nil, trivial, hpt.tk (Tk.same sz), h300, fun hlt H1 L1 t1 k1 => ?_, fun hge H1 t1 k1 => qe (by simp at hg; omega) H1 ((Tk.same sz).trans t1) ((hL.ko sz).trans k1)⟩
    have t01 := (Tk.same sz).trans t1
    have k01 := (hL.ko sz).trans k1
    obtain ⟨m1, hm1, dx1, vs1, kvs1, h11, _⟩ := id L1
    obtain ⟨pa, rfl, hpa⟩ := hpt.tk t01
    refine ⟨_, rfl, p, dx1, _, rfl, h11, (lf_no _ _ _ _ (by decide +kernel) (by decide +kernel) (by decide +kernel) (by decide +kernel)), _, rfl, _, rfl, _, rfl, _, rfl, pa, _, rfl, .inl (SqT.of hpa), ?_, fun w hw => ?_⟩
    · refine Nat.le_trans (show _ ≤ 801 by rw [List.length_append, List.length_map]; have := lim_le R; simp; omega) (by decide)
    have sw := same_new hw (.tup (is.map V.int ++ [.int 0]))
    have tw := t01.trans (Tk.same sw)
    refine ⟨p, pl, fk, la, na, bv, _, sv, .ref w, L, N, _, b, secs, is ++ [0], sec, rfl, L1.same sw, tw.dp (.tuple (ds b)) (tup_ds b) hd, hsv.tk tw, ⟨w, rfl, by rw [upd_same, List.map_append]; rfl⟩, hk, hk12, hn, hsl, (by rw [List.length_append]; simp; omega), hok, hso, by rw [List.length_append]; simp; omega, fun hl2 H2 L2 t2 k2 => ?_, fun hgt H2 t2 k2 => qe hgt H2 (tw.trans t2) (k01.trans ((L1.ko sw).trans k2))⟩
    have q := q hl2
    refine ⟨_, rfl, (by show 2 ≤ sizeLine; decide), fun p1 hp1 => ⟨(by show 2 ≤ sizeLine; decide), fun p2 hp2 => ?_⟩⟩
    have sA := (same_new hp1 (.tup [.int (layB L N (leave L N (fs secs)) b (ps.length : Nat) (ps ++ [.tuple [.str "fork", .tuple []]])).1, .int t])).trans (same_new hp2 (.tup [.str "fork", .ref p1]))
    have n12 : p1 ≠ p2 := fun z => by rw [← z, upd_same] at hp2; cases hp2
    have hf : Dp K (upd (upd H2 p1 (.tup [.int (layB L N (leave L N (fs secs)) b (ps.length : Nat) (ps ++ [.tuple [.str "fork", .tuple []]])).1, .int t])) p2 (.tup [.str "fork", .ref p1])) (.ref p2) (.tuple [.str "fork", .tuple [.int (layB L N (leave L N (fs secs)) b (ps.length : Nat) (ps ++ [.tuple [.str "fork", .tuple []]])).1, .int t]]) := by
      refine .tup (SqT.of upd_same) (.cons (.str _) (.cons (.tup (SqT.of ?_) (.cons (.int _) (.cons (.int _) .nil))) .nil))
      rw [upd_ne n12]
      exact upd_same
    have L3 := L2.same sA
    have kA := L2.ko sA
    generalize upd (upd H2 p1 (.tup [.int (layB L N (leave L N (fs secs)) b (ps.length : Nat) (ps ++ [.tuple [.str "fork", .tuple []]])).1, .int t])) p2 (.tup [.str "fork", .ref p1]) = H3 at sA hf L3 kA
    obtain ⟨m3, hm3, L3'⟩ := L3
    obtain ⟨dx3, vs3, kvs3, h31, h32, h33, h34, h35, h36, h37, h38, h39, h310⟩ := id L3'
    have hl3 := dps_len h33
    refine ⟨_, rfl, p, C, dx3, _, _, rfl, h31, T.cl, T.nP, lf_places _ _ _ _, _, rfl, pl, vs3, _, ps.length, rfl, rfl, h32, ix_nat (by simp at hg; omega), ?_⟩
    have tS : Tk H3 (upd H3 pl (.lst (vs3.set ps.length (.ref p2)))) := Tk.put h32 _
    have kS : KO pl fk H3 (upd H3 pl (.lst (vs3.set ps.length (.ref p2)))) := KO.put_pl h38 h32 _
    have nf : fk ≠ pl := ne_of h38 h32 (fun z => nomatch z)
    have tf : TupD (.tuple [.str "fork", .tuple [.int (layB L N (leave L N (fs secs)) b (ps.length : Nat) (ps ++ [.tuple [.str "fork", .tuple []]])).1, .int t]]) := ⟨trivial, ⟨trivial, trivial, trivial⟩, trivial⟩
    have L4 : LayM K C L N (upd H3 pl (.lst (vs3.set ps.length (.ref p2)))) p pl fk la na ((layB L N (leave L N (fs secs)) b (ps.length : Nat) (ps ++ [.tuple [.str "fork", .tuple []]])).2.set ps.length (.tuple [.str "fork", .tuple [.int (layB L N (leave L N (fs secs)) b (ps.length : Nat) (ps ++ [.tuple [.str "fork", .tuple []]])).1, .int t]])) m3 := by
      refine L3'.put tS kS upd_same (dps_set _ (tS.dps _ h34 h33) (tS.dp _ tf hf)) ?_ (by rw [upd_ne nf]; exact h38) h39 fun e he => ?_
      · refine tupds_iff.mpr fun d hd => ?_
        rcases List.mem_or_eq_of_mem_set hd with h | h
        · exact tupds_iff.mp h34 d h
        · subst h; exact tf
      · obtain ⟨bb, ys, e1, e2, e3, e4⟩ := h310 e he
        exact ⟨bb, ys, e1, by rw [upd_ne e4]; exact e2, e3, e4⟩
    exact ⟨_, rfl, q _ ⟨m3, by rw [List.length_set]; exact hm3, L4⟩ (tw.trans (t2.trans ((Tk.same sA).trans tS))) (k01.trans ((L1.ko sw).trans (k2.trans (kA.trans kS))))⟩
theorem okm_leave {TG : Addr} {e : Nat} {C f : Addr} {fd : FuncData} (T : Txt K mg C) (me : Meth K C "leave" f) (F : C8.Fun K "leave" "Layout.leave" (inClass (topS 38) 6) f fd) (b : Binds K fd ["self", "seconds"] []) (B : Bl K mg) (c_lay : UG.MetX P w K mg base e C "lay" (spBd K C TG false 13)) : UG.MetX P w K mg base (e + 1) C "leave" (spLv K C TG) := by
  refine UG.metX T.cl me F b sc_leave ?len ?body
  case len => rintro vs H Q E ⟨p, pl, fk, la, na, sv, L, N, ps, secs, rfl, _⟩; rfl
  case body =>
    rintro cdv A outer s H vs Q E hr ⟨p, pl, fk, la, na, sv, L, N, ps, secs, rfl, hL, hsv, hso, h300, q, qe⟩
    refine ⟨_, (pss_cons (ps_set (i := 2) sc_leave.nd rfl (Or.inl rfl) pe_int)
    (pss_cons (ps_for UG.own_def rfl (pi_tup (pv 1)) (pg_tup rfl (pgs_cons (pg_name (i := 3) sc_leave.nd rfl (Or.inl rfl)) (pgs_cons (pg_name (i := 4) sc_leave.nd rfl (Or.inl rfl)) pgs_nil)))
    (pss_one (ps_set (i := 2) sc_leave.nd rfl (Or.inl rfl) (UG.pe_mtX c_lay UG.pass_def hr (by omega) (pv 0) (pa_cons (pv 3) (pa_cons (pv 2) (pa_cons (pe_tup pa_nil) (pa_cons (pv 4) pa_nil))))))))
    (pss_one (ps_ret (pv 2))))), ?_⟩
    obtain ⟨a, xs, rfl, hs, hps⟩ := hsv
    have hl := Paired.length hps
    refine ⟨_, rfl, a, rfl, ⟨_, SqT.of hs⟩, ?_⟩
    refine for_tup (xs := xs) (fun i σ H' => ∃ b3 b4, σ = [some (.ref p), some (.ref a), some (.int (leave L N (fs (secs.take i)) ps).1), b3, b4] ∧ Lay K C L N H' p pl fk la na (leave L N (fs (secs.take i)) ps).2 ∧ Tk H H' ∧ KO pl fk H H' ∧ (leave L N (fs (secs.take i)) ps).2.length ≤ 300) ?_ ?_ ?_ ?_
    · exact ⟨none, none, rfl, hL, Tk.refl H, KO.refl pl fk H, h300⟩
    · rintro i σ H' _ ⟨_, _, _, _, tk, _⟩
      exact tk.sqt (SqT.of hs)
    · rintro i x _ H1 hx ⟨b3, b4, rfl, L1, t1, k1, l1⟩
      obtain ⟨c, hc, hc1⟩ := paired_at hps hx
      obtain ⟨r, bv, wv, rfl, hr1, hb1, hw1⟩ := Sec1.tk t1 hc1
      have hm := List.mem_of_getElem? hc
      have e1 : fs (secs.take (i + 1)) = fs (secs.take i) ++ [c.1] := by rw [List.take_succ, hc]; exact fs_snoc _ c.1 c.2
      have e2 : leave L N (fs (secs.take (i + 1))) ps = layB L N (leave L N []) c.1 (leave L N (fs (secs.take i)) ps).1 (leave L N (fs (secs.take i)) ps).2 := by rw [e1, leave_app]; rfl
      have hle := leave_le (L := L) (N := N) ((fs secs).take (i + 1)) ((fs secs).drop (i + 1)) ps
      rw [List.take_append_drop, fs_take, e2] at hle
      obtain ⟨m, hmm, dx, vs, kvs, h1, _⟩ := id L1
      have hh := hso c hm
      refine ⟨r, _, rfl, SqT.of hr1, rfl, _, _, rfl, _, _, rfl, rfl, ?_⟩
      refine ⟨_, rfl, p, dx, _, rfl, h1, (lf_no _ _ _ _ (by decide +kernel) (by decide +kernel) (by decide +kernel) (by decide +kernel)), _, rfl, _, rfl, (by show 0 ≤ sizeLine; decide), fun z hz => ?_⟩
      have sz := same_new hz (.tup [])
      refine ⟨_, rfl, p, pl, fk, la, na, bv, _, .ref z, wv, L, N, _, c.1, [], c.2, true, rfl, L1.same sz, (Tk.same sz).dp (.tuple (ds c.1)) (tup_ds c.1) hb1, ⟨z, [], rfl, upd_same, .nil⟩, hw1.tk (Tk.same sz), by omega, hh.2.1, hh.2.2.1, by simp, (by have := hh.2.2.2; show _ ≤ 800; omega), hh.1, .inl rfl, l1, fun hl2 H2 L2 t2 k2 => ?_, fun hgt H2 t2 k2 => qe (Nat.lt_of_lt_of_le hgt hle) H2 (t1.trans ((Tk.same sz).trans t2)) (k1.trans ((L1.ko sz).trans k2))⟩
      exact ⟨_, _, by rw [e2]; rfl, by rw [e2]; exact L2, t1.trans ((Tk.same sz).trans t2), k1.trans ((L1.ko sz).trans k2), by rw [e2]; exact hl2⟩
    · rintro σ H1 ⟨b3, b4, rfl, L1, t1, k1, l1⟩
      rw [hl, List.take_length] at L1 l1 ⊢
      exact ⟨_, rfl, q l1 H1 L1 t1 k1⟩
theorem okm_statement0 {TG : Addr} {n e : Nat} {C f : Addr} {fd : FuncData} (T : Txt K mg C) (me : Meth K C "statement" f) (F : C8.Fun K "statement" "Layout.statement" (inClass (topS 38) 4) f fd) (b : Binds K fd ["self", "statement", "told", "seconds", "path"] []) (B : Bl K mg) (c_make : UG.MetX P w K mg base 1 C "make" (spMake K C TG)) (c_make_fork : UG.MetX P w K mg base 2 C "make_fork" (spFork K C TG)) (c_lay : UG.MetX P w K mg base e C "lay" (spBd K C TG false n)) (c_loop : UG.MetX P w K mg base e C "loop" (spLp K C TG false n)) (he : 2 ≤ e) : UG.MetX P w K mg base (e + 1) C "statement" (spSt K C TG false (n + 1)) := by
  refine UG.metX T.cl me F b sc_statement ?len ?body
  case len => rintro vs H Q E ⟨p, pl, fk, la, na, bv, t, sv, wv, L, N, ps, st, secs, is, sec, rfl, _⟩; rfl
  case body =>
    rintro cdv A outer s H vs Q E hr ⟨p, pl, fk, la, na, bv, t, sv, wv, L, N, ps, st, secs, is, sec, rfl, hL, hd, hsv, hpt, hk, hk12, hn, hsl, hil, hok, hso, h300, q, qe⟩
    refine ⟨_, (pss_cons (ps_set (i := 5) sc_statement.nd rfl (Or.inl rfl) (pe_ix ix_tup (pv 1) pe_int (fun _ _ => rfl)))
    (pss_cons (ps_if (pt_cmpR op_eq (pv 5) pe_str (nomark _)) (pss_one (ps_ret (UG.pe_mtX c_make UG.pass_def hr (by omega) (pv 0) (pa_cons (pe_tup (pa_cons pe_str (pa_cons (pe_op op_add (pe_tupIx mt_tup_index (pe_fld (pv 0) rfl) (pa_cons (pe_ix ix_tup (pv 1) pe_int (fun _ _ => rfl)) pa_nil)) pe_int) (pa_cons (pv 2) pa_nil)))) pa_nil)))) pss_nil)
    (pss_cons (ps_if (pt_cmpR op_eq (pv 5) pe_str (nomark _)) (pss_one (ps_ret (UG.pe_mtX c_make UG.pass_def hr (by omega) (pv 0) (pa_cons (pe_tup (pa_cons pe_str (pa_cons (pe_op op_sub (pe_un un_neg (pe_tupIx mt_tup_index (pe_fld (pv 0) rfl) (pa_cons (pe_ix ix_tup (pv 1) pe_int (fun _ _ => rfl)) pa_nil))) pe_int) (pa_cons (pv 2) pa_nil)))) pa_nil)))) pss_nil)
    (pss_cons (ps_if (pt_cmpR op_eq (pv 5) pe_str (nomark _)) (pss_one (ps_ret (UG.pe_mtX c_make UG.pass_def hr (by omega) (pv 0) (pa_cons (pe_tup (pa_cons pe_str (pa_cons (pe_bm PySem.F.plainAttrs_list PySem.F.slot_list_index PySem.F.type_list_index mt_index (pe_fld (pv 0) rfl) (pa_cons (pe_ix ix_tup (pv 1) pe_int (fun _ _ => rfl)) pa_nil)) (pa_cons (pv 2) pa_nil)))) pa_nil)))) pss_nil)
    (pss_cons (ps_if (pt_cmpR op_eq (pv 5) pe_str (nomark _)) (pss_cons (UG.ps_setLcX (i := 6) (te := tMeth C "lay" (spBd K C TG false n) [] E (tVar 0) (tCons (tVar 8) (tCons (tVar 2) (tCons (tVar 3) (tCons (tTup (StX.tStar K (tVar 4) (tCons (tVar 7) tNil))) tNil)))))  (own := [("at", 7), ("body", 8)]) (g := gTup K 2 (gCons (gName 7) (gCons (gName 8) gNil))) (E := E) rfl rfl UG.takes_def (fun _ _ _ _ h => h) (by rfl) sc_statement.nd rfl rfl (sw_true rfl rfl rfl (by decide +kernel)) (UG.pi_enumT rfl B.enumerate (pa_cons (pe_ix ix_tup (pv 1) pe_int (fun _ _ => rfl)) pa_nil)) (blkOk_by (own := [("at", 7), ("body", 8)]) (N := ["self", "statement", "told", "seconds", "path", "word", "nexts", "at", "body", "behind"]) (sc := (C8.fnScope (inClass (topS 38) 4))) (by decide +kernel)) (fun _ _ _ _ _ => by exact pg_tup rfl (pgs_cons (pg_name (i := 7) sc_statement.nd rfl (Or.inl rfl)) (pgs_cons (pg_name (i := 8) sc_statement.nd rfl (Or.inl rfl)) pgs_nil))) (fun _ _ _ _ _ => pts_nil) (fun _ _ _ _ _ _ hx => by exact (UG.pe_mtX c_lay hx hr (by omega) (pv 0) (pa_cons (pv 8) (pa_cons (pv 2) (pa_cons (pv 3) (pa_cons (pe_tup (StX.pa_star (pv 4) (pa_cons (pv 7) pa_nil))) pa_nil)))))))
    (pss_one (ps_ret (UG.pe_mtX c_make_fork UG.pass_def hr (by omega) (pv 0) (pa_cons (pe_callTy call_tuple_of rfl B.tuple (by decide +kernel) (pa_cons (pv 6) pa_nil)) (pa_cons (pv 4) pa_nil)))))) pss_nil)
    (pss_cons (ps_if (pt_cmpR op_eq (pv 5) pe_str (nomark _)) (pss_one (ps_ret (UG.pe_mtX c_loop UG.pass_def hr (by omega) (pv 0) (pa_cons (pe_ix ix_tup (pv 1) pe_int (fun _ _ => rfl)) (pa_cons (pv 2) (pa_cons (pv 3) (pa_cons (pv 4) pa_nil))))))) pss_nil)
    (pss_cons (ps_if (pt_cmpR op_eq (pv 5) pe_str (nomark _)) pss_never pss_nil)
    (pss_cons (ps_set (i := 9) sc_statement.nd rfl (Or.inl rfl) (UG.pe_mtX c_lay UG.pass_def hr (by omega) (pv 0) (pa_cons (pe_ix ix_tup (pv 1) pe_int (fun _ _ => rfl)) (pa_cons (pv 2) (pa_cons (pe_tup pa_nil) (pa_cons (pe_tup (StX.pa_star (pv 4) (pa_cons pe_int pa_nil))) pa_nil))))))
    (pss_one (ps_ret (UG.pe_mtX c_lay UG.pass_def hr (by omega) (pv 0) (pa_cons (pe_ix ix_tup (pv 1) pe_int (fun _ _ => rfl)) (pa_cons (pv 9) (pa_cons (pe_tup (StX.pa_star (pv 3) (pa_cons (pe_tup (pa_cons (pe_ix ix_tup (pv 1) pe_int (fun _ _ => rfl)) (pa_cons (pe_tup (StX.pa_star (pv 4) (pa_cons pe_int pa_nil))) pa_nil))) pa_nil))) (pa_cons (pe_tup (StX.pa_star (pv 4) (pa_cons pe_int pa_nil))) pa_nil))))))))))))))), ?_⟩
    have hlim : lim false ≤ 800 := by decide
    obtain ⟨m, hmm, dx, vs, kvs, h1, h2, h3, h4, h5, h6, h7, h8, h9, h10⟩ := id hL
    obtain ⟨pa, rfl, hpa⟩ := id hpt
    cases st with
    | dd x =>
      have hd0 := hd
      obtain ⟨a, xs, rfl, hs, ha, hl⟩ := len_ok hd
      cases ha with
      | cons h0 ha =>
      cases h0
      refine ⟨_, rfl, _, _, _, _, rfl, rfl, hs, at0 _ _, ?_⟩
      refine ⟨_, rfl, rfl, _, rfl, ?_⟩
      rw [dec_str]
      refine ifT (by decide +kernel) ?_
      cases ha with
      | cons hx ha =>
      cases hx
      have hin : x ∈ L := hok
      obtain ⟨g1, g2⟩ := idx_get hin
      have hfl : ∀ d : PyData, (ps ++ [d]).length = ps.length + 1 := fun d => by simp
      refine ⟨_, rfl, p, dx, _, rfl, h1, (lf_no _ _ _ _ (by decide +kernel) (by decide +kernel) (by decide +kernel) (by decide +kernel)), _, rfl, p, C, dx, _, _, rfl, h1, T.cl, T.nL, lf_letters _ _ _ _, ⟨la, _, rfl, h5⟩, _, rfl, _, _, _, _, rfl, rfl, hs, at1 _ _ _, la, L, x, _, rfl, rfl, h5.sq, g1, g2, _, _, rfl, rfl, _, rfl, (by show 3 ≤ sizeLine; decide), fun z hz => ?_⟩
      have sz := same_new hz (.tup [.str "letter", .int (idx x L + 1), .int t])
      refine ⟨p, pl, fk, la, na, .ref z, .tuple [.str "letter", .int (idx x L + 1), .int t], L, N, ps, m, rfl, (LayM.same ⟨dx, vs, kvs, h1, h2, h3, h4, h5, h6, h7, h8, h9, h10⟩ sz), .tup (SqT.of upd_same) (.cons (.str _) (.cons (.int _) (.cons (.int _) .nil))), ⟨trivial, trivial, trivial, trivial⟩, h300, fun hlt H2 L2 t2 k2 => ?_, fun hge => qe (by rw [layS, hfl]; omega) _ (Tk.same sz) (hL.ko sz)⟩
      exact q (by rw [layS, hfl]; omega) H2 ⟨m, by rw [layS, hfl]; omega, L2⟩ ((Tk.same sz).trans t2) ((hL.ko sz).trans k2)
    | ud x =>
      have hd0 := hd
      obtain ⟨a, xs, rfl, hs, ha, hl⟩ := len_ok hd
      cases ha with
      | cons h0 ha =>
      cases h0
      refine ⟨_, rfl, _, _, _, _, rfl, rfl, hs, at0 _ _, ?_⟩
      refine ⟨_, rfl, rfl, _, rfl, ?_⟩
      rw [dec_str]
      refine ifF (by decide +kernel) ?_
      refine ⟨_, rfl, rfl, _, rfl, ?_⟩
      rw [dec_str]
      refine ifT (by decide +kernel) ?_
      cases ha with
      | cons hx ha =>
      cases hx
      have hin : x ∈ L := hok
      obtain ⟨g1, g2⟩ := idx_get hin
      have hfl : ∀ d : PyData, (ps ++ [d]).length = ps.length + 1 := fun d => by simp
      refine ⟨_, rfl, p, dx, _, rfl, h1, (lf_no _ _ _ _ (by decide +kernel) (by decide +kernel) (by decide +kernel) (by decide +kernel)), _, rfl, p, C, dx, _, _, rfl, h1, T.cl, T.nL, lf_letters _ _ _ _, ⟨la, _, rfl, h5⟩, _, rfl, _, _, _, _, rfl, rfl, hs, at1 _ _ _, la, L, x, _, rfl, rfl, h5.sq, g1, g2, _, rfl, _, _, rfl, rfl, _, rfl, (by show 3 ≤ sizeLine; decide), fun z hz => ?_⟩
      have sz := same_new hz (.tup [.str "letter", .int (-idx x L - 1), .int t])
      refine ⟨p, pl, fk, la, na, .ref z, .tuple [.str "letter", .int (-idx x L - 1), .int t], L, N, ps, m, rfl, (LayM.same ⟨dx, vs, kvs, h1, h2, h3, h4, h5, h6, h7, h8, h9, h10⟩ sz), .tup (SqT.of upd_same) (.cons (.str _) (.cons (.int _) (.cons (.int _) .nil))), ⟨trivial, trivial, trivial, trivial⟩, h300, fun hlt H2 L2 t2 k2 => ?_, fun hge => qe (by rw [layS, hfl]; omega) _ (Tk.same sz) (hL.ko sz)⟩
      exact q (by rw [layS, hfl]; omega) H2 ⟨m, by rw [layS, hfl]; omega, L2⟩ ((Tk.same sz).trans t2) ((hL.ko sz).trans k2)
    | cl x =>
      have hd0 := hd
      obtain ⟨a, xs, rfl, hs, ha, hl⟩ := len_ok hd
      cases ha with
      | cons h0 ha =>
      cases h0
      refine ⟨_, rfl, _, _, _, _, rfl, rfl, hs, at0 _ _, ?_⟩
      refine ⟨_, rfl, rfl, _, rfl, ?_⟩
      rw [dec_str]
      refine ifF (by decide +kernel) ?_
      refine ⟨_, rfl, rfl, _, rfl, ?_⟩
      rw [dec_str]
      refine ifF (by decide +kernel) ?_
      refine ⟨_, rfl, rfl, _, rfl, ?_⟩
      rw [dec_str]
      refine ifT (by decide +kernel) ?_
      cases ha with
      | cons hx ha =>
      cases hx
      have hin : x ∈ N := hok
      obtain ⟨g1, g2⟩ := idx_get hin
      have hfl : ∀ d : PyData, (ps ++ [d]).length = ps.length + 1 := fun d => by simp
      refine ⟨_, rfl, p, dx, _, rfl, h1, (lf_no _ _ _ _ (by decide +kernel) (by decide +kernel) (by decide +kernel) (by decide +kernel)), _, rfl, p, C, dx, _, _, rfl, h1, T.cl, T.nN, lf_names _ _ _ _, .inl ⟨rfl, _, SqL.of h6⟩, _, rfl, _, _, _, _, rfl, rfl, hs, at1 _ _ _, na, _, .str x, N.findIdx (· == x), .str x, rfl, rfl, SqL.of h6, rfl, flat_strs _, by rw [List.getElem?_map, g1]; rfl, by rw [eqv_strs]; simp, fun m z hm hz => ?_, _, rfl, (by show 3 ≤ sizeLine; decide), fun z hz => ?_⟩
      · rw [List.getElem?_map] at hz
        cases e : N[m]? with
        | none => rw [e] at hz; cases hz
        | some y =>
          rw [e] at hz
          cases hz
          rw [eqv_strs]
          exact decide_eq_false fun z => g2 m hm (by rw [e, z])
      have sz := same_new hz (.tup [.str "call", .int (idx x N), .int t])
      refine ⟨p, pl, fk, la, na, .ref z, .tuple [.str "call", .int (idx x N), .int t], L, N, ps, m, rfl, (LayM.same ⟨dx, vs, kvs, h1, h2, h3, h4, h5, h6, h7, h8, h9, h10⟩ sz), .tup (SqT.of upd_same) (.cons (.str _) (.cons (.int _) (.cons (.int _) .nil))), ⟨trivial, trivial, trivial, trivial⟩, h300, fun hlt H2 L2 t2 k2 => ?_, fun hge => qe (by rw [layS, hfl]; omega) _ (Tk.same sz) (hL.ko sz)⟩
      exact q (by rw [layS, hfl]; omega) H2 ⟨m, by rw [layS, hfl]; omega, L2⟩ ((Tk.same sz).trans t2) ((hL.ko sz).trans k2)
    | ch bs =>
      have hd0 := hd
      obtain ⟨a, xs, rfl, hs, ha, hl⟩ := len_ok hd
      cases ha with
      | cons h0 ha =>
      cases h0
      refine ⟨_, rfl, _, _, _, _, rfl, rfl, hs, at0 _ _, ?_⟩
      refine ⟨_, rfl, rfl, _, rfl, ?_⟩
      rw [dec_str]
      refine ifF (by decide +kernel) ?_
      refine ⟨_, rfl, rfl, _, rfl, ?_⟩
      rw [dec_str]
      refine ifF (by decide +kernel) ?_
      refine ⟨_, rfl, rfl, _, rfl, ?_⟩
      rw [dec_str]
      refine ifF (by decide +kernel) ?_
      refine ⟨_, rfl, rfl, _, rfl, ?_⟩
      rw [dec_str]
      refine ifT (by decide +kernel) ?_
      cases ha with
      | @cons v1 _ _ _ hb ha =>
      cases ha
      obtain ⟨ra, rxs, rfl, hrs, hra, hrl⟩ := len_ok hb
      rw [dss_len] at hrl
      have hfl : (layS L N (leave L N (fs secs)) (.ch bs) t ps).2.length = (layBs L N (leave L N (fs secs)) bs t ps).2.length + 1 := by rw [layS, List.length_append]; rfl
      rw [hfl] at q qe
      have hkk : kss bs < n := by rw [St.k] at hk; omega
      have hnn : nss bs ≤ 1000 := by rw [St.n] at hn; omega
      refine ⟨_, rfl, _, _, _, _, rfl, rfl, hs, at1 _ _ _, ra, rxs, rfl, hrs, fun Dd hDd => ?_⟩
      have nDo : ¬ Own H pl fk Dd := hL.new_own hDd
      have nDn : Dd ≠ na := fun z => by rw [z, h6] at hDd; cases hDd
      have nDf : fk ≠ Dd := fun z => by rw [← z, h8] at hDd; cases hDd
      refine lc_enumT (xs := rxs) (fun i H' => H' Dd = some (.lst ((layBs L N (leave L N (fs secs)) (bs.take i) t ps).1.map V.int)) ∧ Lay K C L N H' p pl fk la na (layBs L N (leave L N (fs secs)) (bs.take i) t ps).2 ∧ Tk H H' ∧ KO pl fk H H' ∧ ¬ Own H' pl fk Dd ∧ (layBs L N (leave L N (fs secs)) (bs.take i) t ps).2.length ≤ 300) ?_ ?_ ?_ ?_
      · exact ⟨upd_same, hL.same (same_new hDd _), Tk.new hDd _, KO.upd_fresh h8 hDd _, fun w => nDo ((own_upd nDf).mp w), h300⟩
      · rintro i H' _ ⟨_, _, tk, _⟩
        exact tk.sqt hrs
      · rintro i x H1 Tp hx ⟨hD1, L1, t1, k1, o1, l1⟩ hTp
        obtain ⟨d, hdd, hdp⟩ := dps_get' hra hx
        obtain ⟨b, hb, rfl⟩ := dss_get hdd
        have hm := List.mem_of_getElem? hb
        have hkb := kss_mem hm
        have hnb := nss_mem hm
        have et := layBs_take (L := L) (N := N) (lv := leave L N (fs secs)) t ps hb
        have hle := layBs_le (L := L) (N := N) (lv := leave L N (fs secs)) bs (i + 1) t ps (grow_leave (fs secs))
        rw [et] at hle
        have sT := same_new hTp (.tup [.int (i : Nat), x])
        have kT := L1.ko sT
        have hDT := kT _ _ o1 hD1
        have L1T := L1.same sT
        have tT := t1.trans (Tk.same sT)
        obtain ⟨m1, hm1, dx1, vs1, kvs1, h11, _⟩ := id L1T
        obtain ⟨pb, epb, hpb⟩ := hpt.tk tT
        cases epb
        refine ⟨Tp, _, rfl, SqT.of upd_same, rfl, _, _, rfl, _, _, rfl, rfl, rfl, ?_⟩
        refine ⟨_, rfl, p, dx1, _, rfl, h11, (lf_no _ _ _ _ (by decide +kernel) (by decide +kernel) (by decide +kernel) (by decide +kernel)), _, rfl, _, rfl, _, rfl, _, rfl, pa, _, rfl, .inl (SqT.of hpb), _, rfl, ?_, fun w hw => ?_⟩
        · exact Nat.le_trans (show _ ≤ 801 by rw [List.length_append, List.length_map]; simp; omega) (by decide)
        have sw := same_new hw (.tup (is.map V.int ++ [.int (i : Nat)]))
        have tw := tT.trans (Tk.same sw)
        have hDw := (L1T.ko sw) _ _ hDT.2 hDT.1
        refine ⟨p, pl, fk, la, na, x, t, sv, .ref w, L, N, _, b, secs, is ++ [((i : Nat) : Int)], sec, rfl, L1T.same sw, tw.dp (.tuple (ds b)) (tup_ds b) hdp, hsv.tk tw, ⟨w, rfl, by rw [upd_same, List.map_append]; rfl⟩, by omega, (by rw [St.k] at hk12; omega), by omega, by omega, (by rw [List.length_append]; simp; omega), okss_iff.mp hok.2.2 b hm, hso, l1, fun hl2 H2 L2 t2 k2 => ?_, fun hgt H2 t2 k2 => qe (by simp at hle; omega) H2 (tw.trans t2) (k1.trans (kT.trans ((L1T.ko sw).trans k2)))⟩
        have hD2 := k2 _ _ hDw.2 hDw.1
        refine ⟨_, hD2.1, Nat.lt_of_le_of_lt (show _ ≤ 6 by rw [List.length_map, layBs_len, List.length_take]; have := hok.2.1; omega) (by decide), ?_, ?_, ?_, ?_, ?_, by rw [et]; exact hl2⟩
        · rw [et, List.map_append]
          exact upd_same
        · rw [et]
          exact L2.other hD2.1 hD2.2 nDn _
        · exact tw.trans (t2.trans (Tk.put hD2.1 _))
        · exact (k1.trans (kT.trans ((L1T.ko sw).trans k2))).fresh hDd nDf _
        · exact fun w => hD2.2 ((own_upd nDf).mp w)
      · rintro H1 ⟨hD1, L1, t1, k1, o1, l1⟩
        rw [hrl, List.take_length] at hD1 L1 l1
        obtain ⟨m1, hm1, dx1, vs1, kvs1, h11, _⟩ := id L1
        refine ⟨_, rfl, p, dx1, _, rfl, h11, (lf_no _ _ _ _ (by decide +kernel) (by decide +kernel) (by decide +kernel) (by decide +kernel)), _, rfl, Dd, _, rfl, .inl ⟨SqL.of hD1, fun z hz => ?_⟩⟩
        have s1 := same_new hz (.tup ((layBs L N (leave L N (fs secs)) bs t ps).1.map V.int))
        have tz := t1.trans (Tk.same s1)
        refine ⟨_, rfl, p, pl, fk, la, na, .ref z, .ref pa, (layBs L N (leave L N (fs secs)) bs t ps).1.map .int, is, L, N, _, rfl, L1.same s1, .tup (SqT.of upd_same) (dp_intsT _), tup_intsT _, hpt.tk tz, l1, fun hlt H2 L2 t2 k2 => ?_, fun hge H2 t2 k2 => qe (by omega) H2 (tz.trans t2) (k1.trans ((L1.ko s1).trans k2))⟩
        exact q (by omega) H2 L2 (tz.trans t2) (k1.trans ((L1.ko s1).trans k2))
    | lp b =>
      have hd0 := hd
      obtain ⟨a, xs, rfl, hs, ha, hl⟩ := len_ok hd
      cases ha with
      | cons h0 ha =>
      cases h0
      refine ⟨_, rfl, _, _, _, _, rfl, rfl, hs, at0 _ _, ?_⟩
      refine ⟨_, rfl, rfl, _, rfl, ?_⟩
      rw [dec_str]
      refine ifF (by decide +kernel) ?_
      refine ⟨_, rfl, rfl, _, rfl, ?_⟩
      rw [dec_str]
      refine ifF (by decide +kernel) ?_
      refine ⟨_, rfl, rfl, _, rfl, ?_⟩
      rw [dec_str]
      refine ifF (by decide +kernel) ?_
      refine ⟨_, rfl, rfl, _, rfl, ?_⟩
      rw [dec_str]
      refine ifF (by decide +kernel) ?_
      refine ⟨_, rfl, rfl, _, rfl, ?_⟩
      rw [dec_str]
      refine ifT (by decide +kernel) ?_
      cases ha with
      | @cons v1 _ _ _ hb ha =>
      refine ⟨_, rfl, p, dx, _, rfl, h1, (lf_no _ _ _ _ (by decide +kernel) (by decide +kernel) (by decide +kernel) (by decide +kernel)), _, rfl, _, _, _, _, rfl, rfl, hs, at1 _ _ _, _, rfl, _, rfl, _, rfl, p, pl, fk, la, na, v1, t, sv, .ref pa, L, N, ps, b, secs, is, sec, rfl, hL, hb, hsv, hpt, (by rw [St.k] at hk; omega), (by rw [St.k] at hk12; omega), (by rw [St.n] at hn; omega), by omega, by omega, hok, hso, h300, q, qe⟩
    | rt =>
      have hd0 := hd
      obtain ⟨a, xs, rfl, hs, ha, hl⟩ := len_ok hd
      cases ha with
      | cons h0 ha =>
      cases h0
      refine ⟨_, rfl, _, _, _, _, rfl, rfl, hs, at0 _ _, ?_⟩
      refine ⟨_, rfl, rfl, _, rfl, ?_⟩
      rw [dec_str]
      refine ifF (by decide +kernel) ?_
      refine ⟨_, rfl, rfl, _, rfl, ?_⟩
      rw [dec_str]
      refine ifF (by decide +kernel) ?_
      refine ⟨_, rfl, rfl, _, rfl, ?_⟩
      rw [dec_str]
      refine ifF (by decide +kernel) ?_
      refine ⟨_, rfl, rfl, _, rfl, ?_⟩
      rw [dec_str]
      refine ifF (by decide +kernel) ?_
      refine ⟨_, rfl, rfl, _, rfl, ?_⟩
      rw [dec_str]
      refine ifF (by decide +kernel) ?_
      refine ⟨_, rfl, rfl, _, rfl, ?_⟩
      rw [dec_str]
      refine ifT (by decide +kernel) ?_
      rcases hso with h | ⟨h, _⟩
      · have h2 : sec = false := hok
        rw [h] at h2
        cases h2
      · cases h
    | en b c =>
      have hd0 := hd
      obtain ⟨a, xs, rfl, hs, ha, hl⟩ := len_ok hd
      cases ha with
      | cons h0 ha =>
      cases h0
      refine ⟨_, rfl, _, _, _, _, rfl, rfl, hs, at0 _ _, ?_⟩
      refine ⟨_, rfl, rfl, _, rfl, ?_⟩
      rw [dec_str]
      refine ifF (by decide +kernel) ?_
      refine ⟨_, rfl, rfl, _, rfl, ?_⟩
      rw [dec_str]
      refine ifF (by decide +kernel) ?_
      refine ⟨_, rfl, rfl, _, rfl, ?_⟩
      rw [dec_str]
      refine ifF (by decide +kernel) ?_
      refine ⟨_, rfl, rfl, _, rfl, ?_⟩
      rw [dec_str]
      refine ifF (by decide +kernel) ?_
      refine ⟨_, rfl, rfl, _, rfl, ?_⟩
      rw [dec_str]
      refine ifF (by decide +kernel) ?_
      refine ⟨_, rfl, rfl, _, rfl, ?_⟩
      rw [dec_str]
      refine ifF (by decide +kernel) ?_
      cases ha with
      | @cons v1 _ _ _ hb ha =>
      cases ha with
      | @cons v2 _ _ _ hc ha =>
      cases ha
      have e1 : layS L N (leave L N (fs secs)) (.en b c) t ps = layB L N (leave L N (fs (secs ++ [(c, is ++ [1])]))) b (layB L N (leave L N []) c t ps).1 (layB L N (leave L N []) c t ps).2 := by rw [fs_snoc, leave_app, layS]; rfl
      rw [e1] at qe q
      have hg := grow_B L N b (layB L N (leave L N []) c t ps).1 (layB L N (leave L N []) c t ps).2 (grow_leave (L := L) (N := N) (fs (secs ++ [(c, is ++ [1])])))
      have hkb : ks b < n ∧ ks c < n := by rw [St.k] at hk; omega
      have hkb2 : ks b ≤ 12 ∧ ks c ≤ 12 := by rw [St.k] at hk12; omega
      have hnb : ns b ≤ 1000 ∧ ns c ≤ 1000 := by rw [St.n] at hn; omega
      refine ⟨_, rfl, p, dx, _, rfl, h1, (lf_no _ _ _ _ (by decide +kernel) (by decide +kernel) (by decide +kernel) (by decide +kernel)), _, rfl, _, _, _, _, rfl, rfl, hs, at2 _ _ _ _, _, rfl, (by show 0 ≤ sizeLine; decide), fun z hz => ?_⟩
      have sz := same_new hz (.tup [])
      have hpz := sz _ _ hpa
      refine ⟨_, rfl, pa, _, rfl, .inl (SqT.of hpz), ?_, fun w hw => ?_⟩
      · exact Nat.le_trans (show _ ≤ 801 by rw [List.length_append, List.length_map]; simp; omega) (by decide)
      have sw := sz.trans (same_new hw (.tup (is.map V.int ++ [.int 1])))
      have nzw : z ≠ w := fun q => by rw [← q, upd_same] at hw; cases hw
      refine ⟨p, pl, fk, la, na, v2, t, .ref z, .ref w, L, N, ps, c, [], is ++ [1], true, rfl, hL.same sw, dp_ext (same_ext sw) _ hc, ⟨z, [], rfl, by rw [upd_ne nzw]; exact upd_same, .nil⟩, ⟨w, rfl, by rw [upd_same, List.map_append]; rfl⟩, hkb.2, hkb2.2, hnb.2, by simp; omega, (by rw [List.length_append]; simp; omega), hok.2, .inl rfl, h300, fun hl1 H1 L1 t1 k1 => ?_, fun hgt H1 t1 k1 => qe (Nat.lt_of_lt_of_le hgt hg) H1 ((Tk.same sw).trans t1) ((hL.ko sw).trans k1)⟩
      have t01 : Tk H H1 := (Tk.same sw).trans t1
      have k01 : KO pl fk H H1 := (hL.ko sw).trans k1
      obtain ⟨sa, sxs, rfl, hss, hsp⟩ := hsv.tk t01
      have hsl2 := Paired.length hsp
      have hc1 := t01.dp (.tuple (ds c)) (tup_ds c) hc
      have hpa1 := (t01 _ _).1 hpa
      obtain ⟨m1, hm1, dx1, vs1, kvs1, h11, _⟩ := id L1
      refine ⟨_, rfl, p, dx1, _, rfl, h11, (lf_no _ _ _ _ (by decide +kernel) (by decide +kernel) (by decide +kernel) (by decide +kernel)), _, rfl, _, _, _, _, rfl, rfl, t01.sqt hs, at1 _ _ _, _, rfl, _, rfl, sa, sxs, rfl, .inl (SqT.of hss), _, rfl, _, _, _, _, rfl, rfl, t01.sqt hs, at2 _ _ _ _, _, rfl, pa, _, rfl, .inl (SqT.of hpa1), ?_, fun w1 hw1 => ?_⟩
      · exact Nat.le_trans (show _ ≤ 801 by rw [List.length_append, List.length_map]; simp; omega) (by decide)
      have s1 := same_new hw1 (.tup (is.map V.int ++ [.int 1]))
      refine ⟨(by show 2 ≤ sizeLine; decide), fun w2 hw2 => ?_⟩
      have s2 := s1.trans (same_new hw2 (.tup [v2, .ref w1]))
      have n12 : w1 ≠ w2 := fun q => by rw [← q, upd_same] at hw2; cases hw2
      refine ⟨Nat.le_trans (show (sxs ++ [V.ref w2]).length ≤ 1001 by rw [List.length_append]; simp; omega) (by decide), fun w3 hw3 => ?_⟩
      have s3 := s2.trans (same_new hw3 (.tup (sxs ++ [.ref w2])))
      have n13 : w1 ≠ w3 := fun q => by rw [← q, upd_ne n12, upd_same] at hw3; cases hw3
      have n23 : w2 ≠ w3 := fun q => by rw [← q, upd_same] at hw3; cases hw3
      have hpa3 := s3 _ _ hpa1
      refine ⟨_, rfl, pa, _, rfl, .inl (SqT.of hpa3), ?_, fun w4 hw4 => ?_⟩
      · exact Nat.le_trans (show _ ≤ 801 by rw [List.length_append, List.length_map]; simp; omega) (by decide)
      have s34 := same_new hw4 (.tup (is.map V.int ++ [.int 0]))
      have s4 := s3.trans s34
      have t4 := t01.trans (Tk.same s4)
      have hv : SecV K (upd (upd (upd (upd H1 w1 (.tup (is.map V.int ++ [.int 1]))) w2 (.tup [v2, .ref w1])) w3 (.tup (sxs ++ [.ref w2]))) w4 (.tup (is.map V.int ++ [.int 0]))) (.ref w3) (secs ++ [(c, is ++ [1])]) := by
        refine ⟨w3, sxs ++ [.ref w2], rfl, s34 _ _ upd_same, Paired.snoc (Paired.mapP hsp fun _ _ z => Sec1.tk (Tk.same s4) z) ⟨w2, v2, .ref w1, rfl, s34 _ _ (by rw [upd_ne n23]; exact upd_same), dp_ext (same_ext s4) _ hc1, w1, rfl, s34 _ _ ?_⟩⟩
        rw [upd_ne n13, upd_ne n12, upd_same, List.map_append]
        rfl
      refine ⟨p, pl, fk, la, na, v1, _, .ref w3, .ref w4, L, N, _, b, secs ++ [(c, is ++ [1])], is ++ [0], sec, rfl, L1.same s4, t4.dp (.tuple (ds b)) (tup_ds b) hb, hv, ⟨w4, rfl, by rw [upd_same, List.map_append]; rfl⟩, hkb.1, hkb2.1, hnb.1, (by rw [List.length_append]; simp; omega), (by rw [List.length_append]; simp; omega), hok.1, hso.snoc hok.2 hkb2.2 hnb.2 (by rw [List.length_append]; simp; omega), hl1, fun hl2 H2 L2 t2 k2 => ?_, fun hgt H2 t2 k2 => qe hgt H2 (t4.trans t2) (k01.trans ((L1.ko s4).trans k2))⟩
      exact q hl2 H2 L2 (t4.trans t2) (k01.trans ((L1.ko s4).trans k2))
theorem okm_statement1 {TG : Addr} {n e : Nat} {C f : Addr} {fd : FuncData} (T : Txt K mg C) (me : Meth K C "statement" f) (F : C8.Fun K "statement" "Layout.statement" (inClass (topS 38) 4) f fd) (b : Binds K fd ["self", "statement", "told", "seconds", "path"] []) (B : Bl K mg) (c_make : UG.MetX P w K mg base 1 C "make" (spMake K C TG)) (c_make_fork : UG.MetX P w K mg base 2 C "make_fork" (spFork K C TG)) (c_lay : UG.MetX P w K mg base e C "lay" (spBd K C TG true n)) (c_loop : UG.MetX P w K mg base e C "loop" (spLp K C TG true n)) (he : 2 ≤ e) (c_leave : UG.MetX P w K mg base e C "leave" (spLv K C TG)) : UG.MetX P w K mg base (e + 1) C "statement" (spSt K C TG true (n + 1)) := by
  refine UG.metX T.cl me F b sc_statement ?len ?body
  case len => rintro vs H Q E ⟨p, pl, fk, la, na, bv, t, sv, wv, L, N, ps, st, secs, is, sec, rfl, _⟩; rfl
  case body =>
    rintro cdv A outer s H vs Q E hr ⟨p, pl, fk, la, na, bv, t, sv, wv, L, N, ps, st, secs, is, sec, rfl, hL, hd, hsv, hpt, hk, hk12, hn, hsl, hil, hok, hso, h300, q, qe⟩
    refine ⟨_, (pss_cons (ps_set (i := 5) sc_statement.nd rfl (Or.inl rfl) (pe_ix ix_tup (pv 1) pe_int (fun _ _ => rfl)))
    (pss_cons (ps_if (pt_cmpR op_eq (pv 5) pe_str (nomark _)) (pss_one (ps_ret (UG.pe_mtX c_make UG.pass_def hr (by omega) (pv 0) (pa_cons (pe_tup (pa_cons pe_str (pa_cons (pe_op op_add (pe_tupIx mt_tup_index (pe_fld (pv 0) rfl) (pa_cons (pe_ix ix_tup (pv 1) pe_int (fun _ _ => rfl)) pa_nil)) pe_int) (pa_cons (pv 2) pa_nil)))) pa_nil)))) pss_nil)
    (pss_cons (ps_if (pt_cmpR op_eq (pv 5) pe_str (nomark _)) (pss_one (ps_ret (UG.pe_mtX c_make UG.pass_def hr (by omega) (pv 0) (pa_cons (pe_tup (pa_cons pe_str (pa_cons (pe_op op_sub (pe_un un_neg (pe_tupIx mt_tup_index (pe_fld (pv 0) rfl) (pa_cons (pe_ix ix_tup (pv 1) pe_int (fun _ _ => rfl)) pa_nil))) pe_int) (pa_cons (pv 2) pa_nil)))) pa_nil)))) pss_nil)
    (pss_cons (ps_if (pt_cmpR op_eq (pv 5) pe_str (nomark _)) (pss_one (ps_ret (UG.pe_mtX c_make UG.pass_def hr (by omega) (pv 0) (pa_cons (pe_tup (pa_cons pe_str (pa_cons (pe_bm PySem.F.plainAttrs_list PySem.F.slot_list_index PySem.F.type_list_index mt_index (pe_fld (pv 0) rfl) (pa_cons (pe_ix ix_tup (pv 1) pe_int (fun _ _ => rfl)) pa_nil)) (pa_cons (pv 2) pa_nil)))) pa_nil)))) pss_nil)
    (pss_cons (ps_if (pt_cmpR op_eq (pv 5) pe_str (nomark _)) (pss_cons (UG.ps_setLcX (i := 6) (te := tMeth C "lay" (spBd K C TG true n) [] E (tVar 0) (tCons (tVar 8) (tCons (tVar 2) (tCons (tVar 3) (tCons (tTup (StX.tStar K (tVar 4) (tCons (tVar 7) tNil))) tNil)))))  (own := [("at", 7), ("body", 8)]) (g := gTup K 2 (gCons (gName 7) (gCons (gName 8) gNil))) (E := E) rfl rfl UG.takes_def (fun _ _ _ _ h => h) (by rfl) sc_statement.nd rfl rfl (sw_true rfl rfl rfl (by decide +kernel)) (UG.pi_enumT rfl B.enumerate (pa_cons (pe_ix ix_tup (pv 1) pe_int (fun _ _ => rfl)) pa_nil)) (blkOk_by (own := [("at", 7), ("body", 8)]) (N := ["self", "statement", "told", "seconds", "path", "word", "nexts", "at", "body", "behind"]) (sc := (C8.fnScope (inClass (topS 38) 4))) (by decide +kernel)) (fun _ _ _ _ _ => by exact pg_tup rfl (pgs_cons (pg_name (i := 7) sc_statement.nd rfl (Or.inl rfl)) (pgs_cons (pg_name (i := 8) sc_statement.nd rfl (Or.inl rfl)) pgs_nil))) (fun _ _ _ _ _ => pts_nil) (fun _ _ _ _ _ _ hx => by exact (UG.pe_mtX c_lay hx hr (by omega) (pv 0) (pa_cons (pv 8) (pa_cons (pv 2) (pa_cons (pv 3) (pa_cons (pe_tup (StX.pa_star (pv 4) (pa_cons (pv 7) pa_nil))) pa_nil)))))))
    (pss_one (ps_ret (UG.pe_mtX c_make_fork UG.pass_def hr (by omega) (pv 0) (pa_cons (pe_callTy call_tuple_of rfl B.tuple (by decide +kernel) (pa_cons (pv 6) pa_nil)) (pa_cons (pv 4) pa_nil)))))) pss_nil)
    (pss_cons (ps_if (pt_cmpR op_eq (pv 5) pe_str (nomark _)) (pss_one (ps_ret (UG.pe_mtX c_loop UG.pass_def hr (by omega) (pv 0) (pa_cons (pe_ix ix_tup (pv 1) pe_int (fun _ _ => rfl)) (pa_cons (pv 2) (pa_cons (pv 3) (pa_cons (pv 4) pa_nil))))))) pss_nil)
    (pss_cons (ps_if (pt_cmpR op_eq (pv 5) pe_str (nomark _)) (pss_one (ps_ret (UG.pe_mtX c_leave UG.pass_def hr (by omega) (pv 0) (pa_cons (pv 3) pa_nil)))) pss_nil)
    (pss_cons (ps_set (i := 9) sc_statement.nd rfl (Or.inl rfl) (UG.pe_mtX c_lay UG.pass_def hr (by omega) (pv 0) (pa_cons (pe_ix ix_tup (pv 1) pe_int (fun _ _ => rfl)) (pa_cons (pv 2) (pa_cons (pe_tup pa_nil) (pa_cons (pe_tup (StX.pa_star (pv 4) (pa_cons pe_int pa_nil))) pa_nil))))))
    (pss_one (ps_ret (UG.pe_mtX c_lay UG.pass_def hr (by omega) (pv 0) (pa_cons (pe_ix ix_tup (pv 1) pe_int (fun _ _ => rfl)) (pa_cons (pv 9) (pa_cons (pe_tup (StX.pa_star (pv 3) (pa_cons (pe_tup (pa_cons (pe_ix ix_tup (pv 1) pe_int (fun _ _ => rfl)) (pa_cons (pe_tup (StX.pa_star (pv 4) (pa_cons pe_int pa_nil))) pa_nil))) pa_nil))) (pa_cons (pe_tup (StX.pa_star (pv 4) (pa_cons pe_int pa_nil))) pa_nil))))))))))))))), ?_⟩
    have hlim : lim true ≤ 800 := by decide
    obtain ⟨m, hmm, dx, vs, kvs, h1, h2, h3, h4, h5, h6, h7, h8, h9, h10⟩ := id hL
    obtain ⟨pa, rfl, hpa⟩ := id hpt
    cases st with
    | dd x =>
      have hd0 := hd
      obtain ⟨a, xs, rfl, hs, ha, hl⟩ := len_ok hd
      cases ha with
      | cons h0 ha =>
      cases h0
      refine ⟨_, rfl, _, _, _, _, rfl, rfl, hs, at0 _ _, ?_⟩
      refine ⟨_, rfl, rfl, _, rfl, ?_⟩
      rw [dec_str]
      refine ifT (by decide +kernel) ?_
      cases ha with
      | cons hx ha =>
      cases hx
      have hin : x ∈ L := hok
      obtain ⟨g1, g2⟩ := idx_get hin
      have hfl : ∀ d : PyData, (ps ++ [d]).length = ps.length + 1 := fun d => by simp
      refine ⟨_, rfl, p, dx, _, rfl, h1, (lf_no _ _ _ _ (by decide +kernel) (by decide +kernel) (by decide +kernel) (by decide +kernel)), _, rfl, p, C, dx, _, _, rfl, h1, T.cl, T.nL, lf_letters _ _ _ _, ⟨la, _, rfl, h5⟩, _, rfl, _, _, _, _, rfl, rfl, hs, at1 _ _ _, la, L, x, _, rfl, rfl, h5.sq, g1, g2, _, _, rfl, rfl, _, rfl, (by show 3 ≤ sizeLine; decide), fun z hz => ?_⟩
      have sz := same_new hz (.tup [.str "letter", .int (idx x L + 1), .int t])
      refine ⟨p, pl, fk, la, na, .ref z, .tuple [.str "letter", .int (idx x L + 1), .int t], L, N, ps, m, rfl, (LayM.same ⟨dx, vs, kvs, h1, h2, h3, h4, h5, h6, h7, h8, h9, h10⟩ sz), .tup (SqT.of upd_same) (.cons (.str _) (.cons (.int _) (.cons (.int _) .nil))), ⟨trivial, trivial, trivial, trivial⟩, h300, fun hlt H2 L2 t2 k2 => ?_, fun hge => qe (by rw [layS, hfl]; omega) _ (Tk.same sz) (hL.ko sz)⟩
      exact q (by rw [layS, hfl]; omega) H2 ⟨m, by rw [layS, hfl]; omega, L2⟩ ((Tk.same sz).trans t2) ((hL.ko sz).trans k2)
    | ud x =>
      have hd0 := hd
      obtain ⟨a, xs, rfl, hs, ha, hl⟩ := len_ok hd
      cases ha with
      | cons h0 ha =>
      cases h0
      refine ⟨_, rfl, _, _, _, _, rfl, rfl, hs, at0 _ _, ?_⟩
      refine ⟨_, rfl, rfl, _, rfl, ?_⟩
      rw [dec_str]
      refine ifF (by decide +kernel) ?_
      refine ⟨_, rfl, rfl, _, rfl, ?_⟩
      rw [dec_str]
      refine ifT (by decide +kernel) ?_
      cases ha with
      | cons hx ha =>
      cases hx
      have hin : x ∈ L := hok
      obtain ⟨g1, g2⟩ := idx_get hin
      have hfl : ∀ d : PyData, (ps ++ [d]).length = ps.length + 1 := fun d => by simp
      refine ⟨_, rfl, p, dx, _, rfl, h1, (lf_no _ _ _ _ (by decide +kernel) (by decide +kernel) (by decide +kernel) (by decide +kernel)), _, rfl, p, C, dx, _, _, rfl, h1, T.cl, T.nL, lf_letters _ _ _ _, ⟨la, _, rfl, h5⟩, _, rfl, _, _, _, _, rfl, rfl, hs, at1 _ _ _, la, L, x, _, rfl, rfl, h5.sq, g1, g2, _, rfl, _, _, rfl, rfl, _, rfl, (by show 3 ≤ sizeLine; decide), fun z hz => ?_⟩
      have sz := same_new hz (.tup [.str "letter", .int (-idx x L - 1), .int t])
      refine ⟨p, pl, fk, la, na, .ref z, .tuple [.str "letter", .int (-idx x L - 1), .int t], L, N, ps, m, rfl, (LayM.same ⟨dx, vs, kvs, h1, h2, h3, h4, h5, h6, h7, h8, h9, h10⟩ sz), .tup (SqT.of upd_same) (.cons (.str _) (.cons (.int _) (.cons (.int _) .nil))), ⟨trivial, trivial, trivial, trivial⟩, h300, fun hlt H2 L2 t2 k2 => ?_, fun hge => qe (by rw [layS, hfl]; omega) _ (Tk.same sz) (hL.ko sz)⟩
      exact q (by rw [layS, hfl]; omega) H2 ⟨m, by rw [layS, hfl]; omega, L2⟩ ((Tk.same sz).trans t2) ((hL.ko sz).trans k2)
    | cl x =>
      have hd0 := hd
      obtain ⟨a, xs, rfl, hs, ha, hl⟩ := len_ok hd
      cases ha with
      | cons h0 ha =>
      cases h0
      refine ⟨_, rfl, _, _, _, _, rfl, rfl, hs, at0 _ _, ?_⟩
      refine ⟨_, rfl, rfl, _, rfl, ?_⟩
      rw [dec_str]
      refine ifF (by decide +kernel) ?_
      refine ⟨_, rfl, rfl, _, rfl, ?_⟩
      rw [dec_str]
      refine ifF (by decide +kernel) ?_
      refine ⟨_, rfl, rfl, _, rfl, ?_⟩
      rw [dec_str]
      refine ifT (by decide +kernel) ?_
      cases ha with
      | cons hx ha =>
      cases hx
      have hin : x ∈ N := hok
      obtain ⟨g1, g2⟩ := idx_get hin
      have hfl : ∀ d : PyData, (ps ++ [d]).length = ps.length + 1 := fun d => by simp
      refine ⟨_, rfl, p, dx, _, rfl, h1, (lf_no _ _ _ _ (by decide +kernel) (by decide +kernel) (by decide +kernel) (by decide +kernel)), _, rfl, p, C, dx, _, _, rfl, h1, T.cl, T.nN, lf_names _ _ _ _, .inl ⟨rfl, _, SqL.of h6⟩, _, rfl, _, _, _, _, rfl, rfl, hs, at1 _ _ _, na, _, .str x, N.findIdx (· == x), .str x, rfl, rfl, SqL.of h6, rfl, flat_strs _, by rw [List.getElem?_map, g1]; rfl, by rw [eqv_strs]; simp, fun m z hm hz => ?_, _, rfl, (by show 3 ≤ sizeLine; decide), fun z hz => ?_⟩
      · rw [List.getElem?_map] at hz
        cases e : N[m]? with
        | none => rw [e] at hz; cases hz
        | some y =>
          rw [e] at hz
          cases hz
          rw [eqv_strs]
          exact decide_eq_false fun z => g2 m hm (by rw [e, z])
      have sz := same_new hz (.tup [.str "call", .int (idx x N), .int t])
      refine ⟨p, pl, fk, la, na, .ref z, .tuple [.str "call", .int (idx x N), .int t], L, N, ps, m, rfl, (LayM.same ⟨dx, vs, kvs, h1, h2, h3, h4, h5, h6, h7, h8, h9, h10⟩ sz), .tup (SqT.of upd_same) (.cons (.str _) (.cons (.int _) (.cons (.int _) .nil))), ⟨trivial, trivial, trivial, trivial⟩, h300, fun hlt H2 L2 t2 k2 => ?_, fun hge => qe (by rw [layS, hfl]; omega) _ (Tk.same sz) (hL.ko sz)⟩
      exact q (by rw [layS, hfl]; omega) H2 ⟨m, by rw [layS, hfl]; omega, L2⟩ ((Tk.same sz).trans t2) ((hL.ko sz).trans k2)
    | ch bs =>
      have hd0 := hd
      obtain ⟨a, xs, rfl, hs, ha, hl⟩ := len_ok hd
      cases ha with
      | cons h0 ha =>
      cases h0
      refine ⟨_, rfl, _, _, _, _, rfl, rfl, hs, at0 _ _, ?_⟩
      refine ⟨_, rfl, rfl, _, rfl, ?_⟩
      rw [dec_str]
      refine ifF (by decide +kernel) ?_
      refine ⟨_, rfl, rfl, _, rfl, ?_⟩
      rw [dec_str]
      refine ifF (by decide +kernel) ?_
      refine ⟨_, rfl, rfl, _, rfl, ?_⟩
      rw [dec_str]
      refine ifF (by decide +kernel) ?_
      refine ⟨_, rfl, rfl, _, rfl, ?_⟩
      rw [dec_str]
      refine ifT (by decide +kernel) ?_
      cases ha with
      | @cons v1 _ _ _ hb ha =>
      cases ha
      obtain ⟨ra, rxs, rfl, hrs, hra, hrl⟩ := len_ok hb
      rw [dss_len] at hrl
      have hfl : (layS L N (leave L N (fs secs)) (.ch bs) t ps).2.length = (layBs L N (leave L N (fs secs)) bs t ps).2.length + 1 := by rw [layS, List.length_append]; rfl
      rw [hfl] at q qe
      have hkk : kss bs < n := by rw [St.k] at hk; omega
      have hnn : nss bs ≤ 1000 := by rw [St.n] at hn; omega
      refine ⟨_, rfl, _, _, _, _, rfl, rfl, hs, at1 _ _ _, ra, rxs, rfl, hrs, fun Dd hDd => ?_⟩
      have nDo : ¬ Own H pl fk Dd := hL.new_own hDd
      have nDn : Dd ≠ na := fun z => by rw [z, h6] at hDd; cases hDd
      have nDf : fk ≠ Dd := fun z => by rw [← z, h8] at hDd; cases hDd
      refine lc_enumT (xs := rxs) (fun i H' => H' Dd = some (.lst ((layBs L N (leave L N (fs secs)) (bs.take i) t ps).1.map V.int)) ∧ Lay K C L N H' p pl fk la na (layBs L N (leave L N (fs secs)) (bs.take i) t ps).2 ∧ Tk H H' ∧ KO pl fk H H' ∧ ¬ Own H' pl fk Dd ∧ (layBs L N (leave L N (fs secs)) (bs.take i) t ps).2.length ≤ 300) ?_ ?_ ?_ ?_
      · exact ⟨upd_same, hL.same (same_new hDd _), Tk.new hDd _, KO.upd_fresh h8 hDd _, fun w => nDo ((own_upd nDf).mp w), h300⟩
      · rintro i H' _ ⟨_, _, tk, _⟩
        exact tk.sqt hrs
      · rintro i x H1 Tp hx ⟨hD1, L1, t1, k1, o1, l1⟩ hTp
        obtain ⟨d, hdd, hdp⟩ := dps_get' hra hx
        obtain ⟨b, hb, rfl⟩ := dss_get hdd
        have hm := List.mem_of_getElem? hb
        have hkb := kss_mem hm
        have hnb := nss_mem hm
        have et := layBs_take (L := L) (N := N) (lv := leave L N (fs secs)) t ps hb
        have hle := layBs_le (L := L) (N := N) (lv := leave L N (fs secs)) bs (i + 1) t ps (grow_leave (fs secs))
        rw [et] at hle
        have sT := same_new hTp (.tup [.int (i : Nat), x])
        have kT := L1.ko sT
        have hDT := kT _ _ o1 hD1
        have L1T := L1.same sT
        have tT := t1.trans (Tk.same sT)
        obtain ⟨m1, hm1, dx1, vs1, kvs1, h11, _⟩ := id L1T
        obtain ⟨pb, epb, hpb⟩ := hpt.tk tT
        cases epb
        refine ⟨Tp, _, rfl, SqT.of upd_same, rfl, _, _, rfl, _, _, rfl, rfl, rfl, ?_⟩
        refine ⟨_, rfl, p, dx1, _, rfl, h11, (lf_no _ _ _ _ (by decide +kernel) (by decide +kernel) (by decide +kernel) (by decide +kernel)), _, rfl, _, rfl, _, rfl, _, rfl, pa, _, rfl, .inl (SqT.of hpb), _, rfl, ?_, fun w hw => ?_⟩
        · exact Nat.le_trans (show _ ≤ 801 by rw [List.length_append, List.length_map]; simp; omega) (by decide)
        have sw := same_new hw (.tup (is.map V.int ++ [.int (i : Nat)]))
        have tw := tT.trans (Tk.same sw)
        have hDw := (L1T.ko sw) _ _ hDT.2 hDT.1
        refine ⟨p, pl, fk, la, na, x, t, sv, .ref w, L, N, _, b, secs, is ++ [((i : Nat) : Int)], sec, rfl, L1T.same sw, tw.dp (.tuple (ds b)) (tup_ds b) hdp, hsv.tk tw, ⟨w, rfl, by rw [upd_same, List.map_append]; rfl⟩, by omega, (by rw [St.k] at hk12; omega), by omega, by omega, (by rw [List.length_append]; simp; omega), okss_iff.mp hok.2.2 b hm, hso, l1, fun hl2 H2 L2 t2 k2 => ?_, fun hgt H2 t2 k2 => qe (by simp at hle; omega) H2 (tw.trans t2) (k1.trans (kT.trans ((L1T.ko sw).trans k2)))⟩
        have hD2 := k2 _ _ hDw.2 hDw.1
        refine ⟨_, hD2.1, Nat.lt_of_le_of_lt (show _ ≤ 6 by rw [List.length_map, layBs_len, List.length_take]; have := hok.2.1; omega) (by decide), ?_, ?_, ?_, ?_, ?_, by rw [et]; exact hl2⟩
        · rw [et, List.map_append]
          exact upd_same
        · rw [et]
          exact L2.other hD2.1 hD2.2 nDn _
        · exact tw.trans (t2.trans (Tk.put hD2.1 _))
        · exact (k1.trans (kT.trans ((L1T.ko sw).trans k2))).fresh hDd nDf _
        · exact fun w => hD2.2 ((own_upd nDf).mp w)
      · rintro H1 ⟨hD1, L1, t1, k1, o1, l1⟩
        rw [hrl, List.take_length] at hD1 L1 l1
        obtain ⟨m1, hm1, dx1, vs1, kvs1, h11, _⟩ := id L1
        refine ⟨_, rfl, p, dx1, _, rfl, h11, (lf_no _ _ _ _ (by decide +kernel) (by decide +kernel) (by decide +kernel) (by decide +kernel)), _, rfl, Dd, _, rfl, .inl ⟨SqL.of hD1, fun z hz => ?_⟩⟩
        have s1 := same_new hz (.tup ((layBs L N (leave L N (fs secs)) bs t ps).1.map V.int))
        have tz := t1.trans (Tk.same s1)
        refine ⟨_, rfl, p, pl, fk, la, na, .ref z, .ref pa, (layBs L N (leave L N (fs secs)) bs t ps).1.map .int, is, L, N, _, rfl, L1.same s1, .tup (SqT.of upd_same) (dp_intsT _), tup_intsT _, hpt.tk tz, l1, fun hlt H2 L2 t2 k2 => ?_, fun hge H2 t2 k2 => qe (by omega) H2 (tz.trans t2) (k1.trans ((L1.ko s1).trans k2))⟩
        exact q (by omega) H2 L2 (tz.trans t2) (k1.trans ((L1.ko s1).trans k2))
    | lp b =>
      have hd0 := hd
      obtain ⟨a, xs, rfl, hs, ha, hl⟩ := len_ok hd
      cases ha with
      | cons h0 ha =>
      cases h0
      refine ⟨_, rfl, _, _, _, _, rfl, rfl, hs, at0 _ _, ?_⟩
      refine ⟨_, rfl, rfl, _, rfl, ?_⟩
      rw [dec_str]
      refine ifF (by decide +kernel) ?_
      refine ⟨_, rfl, rfl, _, rfl, ?_⟩
      rw [dec_str]
      refine ifF (by decide +kernel) ?_
      refine ⟨_, rfl, rfl, _, rfl, ?_⟩
      rw [dec_str]
      refine ifF (by decide +kernel) ?_
      refine ⟨_, rfl, rfl, _, rfl, ?_⟩
      rw [dec_str]
      refine ifF (by decide +kernel) ?_
      refine ⟨_, rfl, rfl, _, rfl, ?_⟩
      rw [dec_str]
      refine ifT (by decide +kernel) ?_
      cases ha with
      | @cons v1 _ _ _ hb ha =>
      refine ⟨_, rfl, p, dx, _, rfl, h1, (lf_no _ _ _ _ (by decide +kernel) (by decide +kernel) (by decide +kernel) (by decide +kernel)), _, rfl, _, _, _, _, rfl, rfl, hs, at1 _ _ _, _, rfl, _, rfl, _, rfl, p, pl, fk, la, na, v1, t, sv, .ref pa, L, N, ps, b, secs, is, sec, rfl, hL, hb, hsv, hpt, (by rw [St.k] at hk; omega), (by rw [St.k] at hk12; omega), (by rw [St.n] at hn; omega), by omega, by omega, hok, hso, h300, q, qe⟩
    | rt =>
      have hd0 := hd
      obtain ⟨a, xs, rfl, hs, ha, hl⟩ := len_ok hd
      cases ha with
      | cons h0 ha =>
      cases h0
      refine ⟨_, rfl, _, _, _, _, rfl, rfl, hs, at0 _ _, ?_⟩
      refine ⟨_, rfl, rfl, _, rfl, ?_⟩
      rw [dec_str]
      refine ifF (by decide +kernel) ?_
      refine ⟨_, rfl, rfl, _, rfl, ?_⟩
      rw [dec_str]
      refine ifF (by decide +kernel) ?_
      refine ⟨_, rfl, rfl, _, rfl, ?_⟩
      rw [dec_str]
      refine ifF (by decide +kernel) ?_
      refine ⟨_, rfl, rfl, _, rfl, ?_⟩
      rw [dec_str]
      refine ifF (by decide +kernel) ?_
      refine ⟨_, rfl, rfl, _, rfl, ?_⟩
      rw [dec_str]
      refine ifF (by decide +kernel) ?_
      refine ⟨_, rfl, rfl, _, rfl, ?_⟩
      rw [dec_str]
      refine ifT (by decide +kernel) ?_
      have hsec : sec = false := hok
      rcases hso with h | ⟨_, h⟩
      · rw [h] at hsec; cases hsec
      · exact ⟨_, rfl, p, dx, _, rfl, h1, (lf_no _ _ _ _ (by decide +kernel) (by decide +kernel) (by decide +kernel) (by decide +kernel)), _, rfl, p, pl, fk, la, na, sv, L, N, ps, secs, rfl, hL, hsv, h, h300, q, qe⟩
    | en b c =>
      have hd0 := hd
      obtain ⟨a, xs, rfl, hs, ha, hl⟩ := len_ok hd
      cases ha with
      | cons h0 ha =>
      cases h0
      refine ⟨_, rfl, _, _, _, _, rfl, rfl, hs, at0 _ _, ?_⟩
      refine ⟨_, rfl, rfl, _, rfl, ?_⟩
      rw [dec_str]
      refine ifF (by decide +kernel) ?_
      refine ⟨_, rfl, rfl, _, rfl, ?_⟩
      rw [dec_str]
      refine ifF (by decide +kernel) ?_
      refine ⟨_, rfl, rfl, _, rfl, ?_⟩
      rw [dec_str]
      refine ifF (by decide +kernel) ?_
      refine ⟨_, rfl, rfl, _, rfl, ?_⟩
      rw [dec_str]
      refine ifF (by decide +kernel) ?_
      refine ⟨_, rfl, rfl, _, rfl, ?_⟩
      rw [dec_str]
      refine ifF (by decide +kernel) ?_
      refine ⟨_, rfl, rfl, _, rfl, ?_⟩
      rw [dec_str]
      refine ifF (by decide +kernel) ?_
      cases ha with
      | @cons v1 _ _ _ hb ha =>
      cases ha with
      | @cons v2 _ _ _ hc ha =>
      cases ha
      have e1 : layS L N (leave L N (fs secs)) (.en b c) t ps = layB L N (leave L N (fs (secs ++ [(c, is ++ [1])]))) b (layB L N (leave L N []) c t ps).1 (layB L N (leave L N []) c t ps).2 := by rw [fs_snoc, leave_app, layS]; rfl
      rw [e1] at qe q
      have hg := grow_B L N b (layB L N (leave L N []) c t ps).1 (layB L N (leave L N []) c t ps).2 (grow_leave (L := L) (N := N) (fs (secs ++ [(c, is ++ [1])])))
      have hkb : ks b < n ∧ ks c < n := by rw [St.k] at hk; omega
      have hkb2 : ks b ≤ 12 ∧ ks c ≤ 12 := by rw [St.k] at hk12; omega
      have hnb : ns b ≤ 1000 ∧ ns c ≤ 1000 := by rw [St.n] at hn; omega
      refine ⟨_, rfl, p, dx, _, rfl, h1, (lf_no _ _ _ _ (by decide +kernel) (by decide +kernel) (by decide +kernel) (by decide +kernel)), _, rfl, _, _, _, _, rfl, rfl, hs, at2 _ _ _ _, _, rfl, (by show 0 ≤ sizeLine; decide), fun z hz => ?_⟩
      have sz := same_new hz (.tup [])
      have hpz := sz _ _ hpa
      refine ⟨_, rfl, pa, _, rfl, .inl (SqT.of hpz), ?_, fun w hw => ?_⟩
      · exact Nat.le_trans (show _ ≤ 801 by rw [List.length_append, List.length_map]; simp; omega) (by decide)
      have sw := sz.trans (same_new hw (.tup (is.map V.int ++ [.int 1])))
      have nzw : z ≠ w := fun q => by rw [← q, upd_same] at hw; cases hw
      refine ⟨p, pl, fk, la, na, v2, t, .ref z, .ref w, L, N, ps, c, [], is ++ [1], true, rfl, hL.same sw, dp_ext (same_ext sw) _ hc, ⟨z, [], rfl, by rw [upd_ne nzw]; exact upd_same, .nil⟩, ⟨w, rfl, by rw [upd_same, List.map_append]; rfl⟩, hkb.2, hkb2.2, hnb.2, by simp; omega, (by rw [List.length_append]; simp; omega), hok.2, .inl rfl, h300, fun hl1 H1 L1 t1 k1 => ?_, fun hgt H1 t1 k1 => qe (Nat.lt_of_lt_of_le hgt hg) H1 ((Tk.same sw).trans t1) ((hL.ko sw).trans k1)⟩
      have t01 : Tk H H1 := (Tk.same sw).trans t1
      have k01 : KO pl fk H H1 := (hL.ko sw).trans k1
      obtain ⟨sa, sxs, rfl, hss, hsp⟩ := hsv.tk t01
      have hsl2 := Paired.length hsp
      have hc1 := t01.dp (.tuple (ds c)) (tup_ds c) hc
      have hpa1 := (t01 _ _).1 hpa
      obtain ⟨m1, hm1, dx1, vs1, kvs1, h11, _⟩ := id L1
      refine ⟨_, rfl, p, dx1, _, rfl, h11, (lf_no _ _ _ _ (by decide +kernel) (by decide +kernel) (by decide +kernel) (by decide +kernel)), _, rfl, _, _, _, _, rfl, rfl, t01.sqt hs, at1 _ _ _, _, rfl, _, rfl, sa, sxs, rfl, .inl (SqT.of hss), _, rfl, _, _, _, _, rfl, rfl, t01.sqt hs, at2 _ _ _ _, _, rfl, pa, _, rfl, .inl (SqT.of hpa1), ?_, fun w1 hw1 => ?_⟩
      · exact Nat.le_trans (show _ ≤ 801 by rw [List.length_append, List.length_map]; simp; omega) (by decide)
      have s1 := same_new hw1 (.tup (is.map V.int ++ [.int 1]))
      refine ⟨(by show 2 ≤ sizeLine; decide), fun w2 hw2 => ?_⟩
      have s2 := s1.trans (same_new hw2 (.tup [v2, .ref w1]))
      have n12 : w1 ≠ w2 := fun q => by rw [← q, upd_same] at hw2; cases hw2
      refine ⟨Nat.le_trans (show (sxs ++ [V.ref w2]).length ≤ 1001 by rw [List.length_append]; simp; omega) (by decide), fun w3 hw3 => ?_⟩
      have s3 := s2.trans (same_new hw3 (.tup (sxs ++ [.ref w2])))
      have n13 : w1 ≠ w3 := fun q => by rw [← q, upd_ne n12, upd_same] at hw3; cases hw3
      have n23 : w2 ≠ w3 := fun q => by rw [← q, upd_same] at hw3; cases hw3
      have hpa3 := s3 _ _ hpa1
      refine ⟨_, rfl, pa, _, rfl, .inl (SqT.of hpa3), ?_, fun w4 hw4 => ?_⟩
      · exact Nat.le_trans (show _ ≤ 801 by rw [List.length_append, List.length_map]; simp; omega) (by decide)
      have s34 := same_new hw4 (.tup (is.map V.int ++ [.int 0]))
      have s4 := s3.trans s34
      have t4 := t01.trans (Tk.same s4)
      have hv : SecV K (upd (upd (upd (upd H1 w1 (.tup (is.map V.int ++ [.int 1]))) w2 (.tup [v2, .ref w1])) w3 (.tup (sxs ++ [.ref w2]))) w4 (.tup (is.map V.int ++ [.int 0]))) (.ref w3) (secs ++ [(c, is ++ [1])]) := by
        refine ⟨w3, sxs ++ [.ref w2], rfl, s34 _ _ upd_same, Paired.snoc (Paired.mapP hsp fun _ _ z => Sec1.tk (Tk.same s4) z) ⟨w2, v2, .ref w1, rfl, s34 _ _ (by rw [upd_ne n23]; exact upd_same), dp_ext (same_ext s4) _ hc1, w1, rfl, s34 _ _ ?_⟩⟩
        rw [upd_ne n13, upd_ne n12, upd_same, List.map_append]
        rfl
      refine ⟨p, pl, fk, la, na, v1, _, .ref w3, .ref w4, L, N, _, b, secs ++ [(c, is ++ [1])], is ++ [0], sec, rfl, L1.same s4, t4.dp (.tuple (ds b)) (tup_ds b) hb, hv, ⟨w4, rfl, by rw [upd_same, List.map_append]; rfl⟩, hkb.1, hkb2.1, hnb.1, (by rw [List.length_append]; simp; omega), (by rw [List.length_append]; simp; omega), hok.1, hso.snoc hok.2 hkb2.2 hnb.2 (by rw [List.length_append]; simp; omega), hl1, fun hl2 H2 L2 t2 k2 => ?_, fun hgt H2 t2 k2 => qe hgt H2 (t4.trans t2) (k01.trans ((L1.ko s4).trans k2))⟩
      exact q hl2 H2 L2 (t4.trans t2) (k01.trans ((L1.ko s4).trans k2))
end
end K09


set_option Elab.async false
set_option linter.all false
set_option maxRecDepth 100000
set_option maxHeartbeats 8000000
namespace K09
open PySem PySem.Spec PyProof.Rows L2
/-- a program of which the letters' tuple is known -/
def PD (K : PySem.W.Frag) (H : Hp) (v : V) (L : List Str) (P : List (Str × List St)) : Prop := ∃ a la pv, v = .ref a ∧ SqT K H a [.ref la, pv] ∧ TupO H la (L.map V.str) ∧ Dp K H pv (.tuple (P.map procD))
theorem PD.tk {K : PySem.W.Frag} {H H' : Hp} {v : V} {L : List Str} {P : List (Str × List St)} (h : PD K H v L P) (t : Tk H H') : PD K H' v L P := by
  obtain ⟨a, la, pv, e, h1, h2, h3⟩ := h
  exact ⟨a, la, pv, e, t.sqt h1, h2.tk t, t.dp (.tuple (P.map procD)) (tup_procs P) h3⟩
theorem dp_strs {K : PySem.W.Frag} {H : Hp} : ∀ L : List Str, DpAll K H (L.map V.str) (L.map PyData.str)
  | [] => .nil
  | x :: r => .cons (.str x) (dp_strs r)
theorem PD.dp {K : PySem.W.Frag} {H : Hp} {v : V} {L : List Str} {P : List (Str × List St)} (h : PD K H v L P) : Dp K H v (progD L P) := by
  obtain ⟨a, la, pv, rfl, h1, h2, h3⟩ := h
  exact .tup h1 (.cons (.tup h2.sq (dp_strs L)) (.cons h3 .nil))
/-- the layout of a procedure -/
def layP (L N : List Str) (p : Str × List St) : Int × List PyData := layB L N (leave L N []) p.2 0 [.tuple [.str "end"]]
def layPD (L N : List Str) (p : Str × List St) : PyData := .tuple [.int (layP L N p).1, .tuple (layP L N p).2]
def layD (L : List Str) (P : List (Str × List St)) : PyData := .tuple (P.map (layPD L (P.map Prod.fst)))
theorem tup_layP (L N : List Str) (p : Str × List St) : TupDs (layP L N p).2 := tup_B L N _ _ _ (fun ps h => tup_leave [] ps h) ⟨⟨trivial, trivial⟩, trivial⟩
theorem tup_layD (L : List Str) (P : List (Str × List St)) : TupD (layD L P) := by
  refine tupds_iff.mpr fun d hd => ?_
  obtain ⟨p, _, rfl⟩ := List.mem_map.mp hd
  exact ⟨trivial, tup_layP L _ p, trivial⟩
/-- no procedure is too great -/
def Few (L : List Str) (P : List (Str × List St)) : Prop := ∀ p ∈ P, (layP L (P.map Prod.fst) p).2.length ≤ 300
theorem met_mono {P : Program} {w : World} {K : PySem.W.Frag} {mg : Str → Option Value} {base : Heap} {j k : Nat} {C : Addr} {m : Str} {sp : Sp} {dvs : List V} (c : C8.Met P w K mg base j C m sp dvs) (h : j ≤ k) : C8.Met P w K mg base k C m sp dvs := by
  obtain ⟨f, fd, ps, ds, hc, hm, F, b, d⟩ := c.ex
  exact ⟨f, fd, ps, ds, hc, hm, F.mono h, b, d⟩
/-- a layout that is laid -/
def DoneAt (K : PySem.W.Frag) (C : Addr) (H : Hp) (p pl : Addr) (bg : Int) (ps : List PyData) : Prop := ∃ dx fk vs la na, H p = some (.ins C dx (putF "begin" (.int bg) (lf la na pl fk))) ∧ H pl = some (.lst vs) ∧ DpAll K H vs ps ∧ TupDs ps
theorem DoneAt.same {K : PySem.W.Frag} {C : Addr} {H H' : Hp} {p pl : Addr} {bg : Int} {ps : List PyData} (h : DoneAt K C H p pl bg ps) (s : Same H H') : DoneAt K C H' p pl bg ps := by
  obtain ⟨dx, fk, vs, la, na, h1, h2, h3, h4⟩ := h
  exact ⟨dx, fk, vs, la, na, s _ _ h1, s _ _ h2, (Tk.same s).dps _ h4 h3, h4⟩
theorem DoneAt.other {K : PySem.W.Frag} {C : Addr} {H : Hp} {p pl D : Addr} {bg : Int} {ps : List PyData} {xs : List V} (h : DoneAt K C H p pl bg ps) (e : H D = some (.lst xs)) (n : pl ≠ D) (o : HO) : DoneAt K C (upd H D o) p pl bg ps := by
  obtain ⟨dx, fk, vs, la, na, h1, h2, h3, h4⟩ := h
  refine ⟨dx, fk, vs, la, na, ?_, by rw [upd_ne n]; exact h2, (Tk.put e o).dps _ h4 h3, h4⟩
  rw [upd_ne (fun z => by rw [z, e] at h1; cases h1)]
  exact h1
def DoneL (K : PySem.W.Frag) (C : Addr) (L N : List Str) (H : Hp) (D : Addr) (x : V) (q : Str × List St) : Prop := ∃ p pl, x = V.ref p ∧ pl ≠ D ∧ DoneAt K C H p pl (layP L N q).1 (layP L N q).2
def rTupL (K : PySem.W.Frag) : List V → Hp → VK → Prop := fun zs H Q => ∃ (a : Addr) (ws : List V), zs = [.ref a] ∧ ((SqL K H a ws ∧ ∀ r, H r = none → Q (.ref r) (upd H r (.tup ws))) ∨ (SqT K H a ws ∧ Q (.ref a) H))
section
variable {P : Program} {w : World} {K : PySem.W.Frag} {mg : Str → Option Value} {base : Heap}
theorem lay0 {C TG : Addr} (T : Txt K mg C) (B : Bl K mg) {flay : Addr} {fdlay : FuncData} (melay : Meth K C "lay" flay) (Flay : C8.Fun K "lay" "Layout.lay" (inClass (topS 38) 3) flay fdlay) (blay : Binds K fdlay ["self", "body", "told", "seconds", "path"] []) {fstatement : Addr} {fdstatement : FuncData} (mestatement : Meth K C "statement" fstatement) (Fstatement : C8.Fun K "statement" "Layout.statement" (inClass (topS 38) 4) fstatement fdstatement) (bstatement : Binds K fdstatement ["self", "statement", "told", "seconds", "path"] []) {floop : Addr} {fdloop : FuncData} (meloop : Meth K C "loop" floop) (Floop : C8.Fun K "loop" "Layout.loop" (inClass (topS 38) 5) floop fdloop) (bloop : Binds K fdloop ["self", "inner", "told", "seconds", "path"] []) (c_make : UG.MetX P w K mg base 1 C "make" (spMake K C TG)) (c_make_fork : UG.MetX P w K mg base 2 C "make_fork" (spFork K C TG)) : ∀ n : Nat, UG.MetX P w K mg base (3 * n + 2) C "lay" (spBd K C TG false n)
  | 0 => by
    refine UG.metX (k := 1) T.cl melay Flay blay sc_lay ?len ?body
    case len => rintro vs H Q E ⟨_, _, _, _, _, _, _, _, _, _, _, _, _, _, _, _, _, _, _, _, _, h, _⟩; exact absurd h (Nat.not_lt_zero _)
    case body => rintro cdv A outer s H vs Q E hr ⟨_, _, _, _, _, _, _, _, _, _, _, _, _, _, _, _, _, _, _, _, _, h, _⟩; exact absurd h (Nat.not_lt_zero _)
  | n + 1 => by
    have ih := lay0 T B melay Flay blay mestatement Fstatement bstatement meloop Floop bloop c_make c_make_fork n
    have hl := okm_loop T meloop Floop bloop B c_make_fork ih (by omega)
    have hs := okm_statement0 T mestatement Fstatement bstatement B c_make c_make_fork (UG.MetX.mono ih (Nat.le_succ _)) hl (by omega)
    exact okm_lay T melay Flay blay B hs
theorem lay1 {C TG : Addr} (T : Txt K mg C) (B : Bl K mg) {flay : Addr} {fdlay : FuncData} (melay : Meth K C "lay" flay) (Flay : C8.Fun K "lay" "Layout.lay" (inClass (topS 38) 3) flay fdlay) (blay : Binds K fdlay ["self", "body", "told", "seconds", "path"] []) {fstatement : Addr} {fdstatement : FuncData} (mestatement : Meth K C "statement" fstatement) (Fstatement : C8.Fun K "statement" "Layout.statement" (inClass (topS 38) 4) fstatement fdstatement) (bstatement : Binds K fdstatement ["self", "statement", "told", "seconds", "path"] []) {floop : Addr} {fdloop : FuncData} (meloop : Meth K C "loop" floop) (Floop : C8.Fun K "loop" "Layout.loop" (inClass (topS 38) 5) floop fdloop) (bloop : Binds K fdloop ["self", "inner", "told", "seconds", "path"] []) (c_make : UG.MetX P w K mg base 1 C "make" (spMake K C TG)) (c_make_fork : UG.MetX P w K mg base 2 C "make_fork" (spFork K C TG)) (c_leave : UG.MetX P w K mg base 42 C "leave" (spLv K C TG)) : ∀ n : Nat, UG.MetX P w K mg base (3 * n + 43) C "lay" (spBd K C TG true n)
  | 0 => by
    refine UG.metX (k := 42) T.cl melay Flay blay sc_lay ?len ?body
    case len => rintro vs H Q E ⟨_, _, _, _, _, _, _, _, _, _, _, _, _, _, _, _, _, _, _, _, _, h, _⟩; exact absurd h (Nat.not_lt_zero _)
    case body => rintro cdv A outer s H vs Q E hr ⟨_, _, _, _, _, _, _, _, _, _, _, _, _, _, _, _, _, _, _, _, _, h, _⟩; exact absurd h (Nat.not_lt_zero _)
  | n + 1 => by
    have ih := lay1 T B melay Flay blay mestatement Fstatement bstatement meloop Floop bloop c_make c_make_fork c_leave n
    have hl := okm_loop T meloop Floop bloop B c_make_fork ih (by omega)
    have hs := okm_statement1 T mestatement Fstatement bstatement B c_make c_make_fork (UG.MetX.mono ih (Nat.le_succ _)) hl (by omega) (UG.MetX.mono c_leave (by omega))
    exact okm_lay T melay Flay blay B hs

def spInit (K : PySem.W.Frag) (C TG : Addr) : Sp := fun vs H Q E => ∃ p dx la na bv L N b, vs = [.ref p, .ref la, .ref na, bv] ∧ H p = some (.ins C dx []) ∧ TupO H la (L.map V.str) ∧ H na = some (.lst (N.map V.str)) ∧ Dp K H bv (.tuple (ds b)) ∧ ks b ≤ 12 ∧ ns b ≤ 1000 ∧ oks L N false b ∧
  ((layB L N (leave L N []) b 0 [.tuple [.str "end"]]).2.length ≤ 300 → ∀ H' pl, DoneAt K C H' p pl (layB L N (leave L N []) b 0 [.tuple [.str "end"]]).1 (layB L N (leave L N []) b 0 [.tuple [.str "end"]]).2 → H pl = none → (∀ q o, q ≠ p → H q = some o → H' q = some o) → Q .non H') ∧ (300 < (layB L N (leave L N []) b 0 [.tuple [.str "end"]]).2.length → ∀ H', (∀ q o, q ≠ p → H q = some o → H' q = some o) → E (.ref TG) none H')
theorem sc___init__ : FnScope ["self", "letters", "names", "body"] ["self", "letters", "names", "body"] (C8.fnScope (inClass (topS 38) 0)) := C8.fnScope_by (by decide +kernel)
theorem okm_init {C TG f : Addr} {fd : FuncData} (T : Txt K mg C) (Mk0 : Mk K C f) (hm : mg "Layout" = some (.ref C)) (F : C8.Fun K "__init__" "Layout.__init__" (inClass (topS 38) 0) f fd) (b : Binds K fd ["self", "letters", "names", "body"] []) (B : Bl K mg) (c_lay : UG.MetX P w K mg base 82 C "lay" (spBd K C TG true 13)) : UG.MakX P w K mg base 83 "Layout" C (spInit K C TG) := by
  refine UG.makX Mk0 hm F b sc___init__ ?len ?body
  case len => rintro vs H Q E ⟨p, dx, la, na, bv, L, N, b, rfl, _⟩; rfl
  case body =>
    obtain ⟨ea, hea, hes⟩ := B.END
    rintro cdv A outer s H vs Q E hr ⟨p, dx, la, na, bv, L, N, b, rfl, hp, hla, hna, hb, hk, hn, hok, q, qe⟩
    refine ⟨_, (pss_cons (ps_fld (pv 0) (pv 1) rfl)
    (pss_cons (ps_fld (pv 0) (pv 2) rfl)
    (pss_cons (ps_fld (pv 0) (pe_lst (pa_cons (pe_glob (v := .ref ea) rfl hea rfl) pa_nil)) rfl)
    (pss_cons (ps_fld (pv 0) pe_dnewT rfl)
    (pss_one (ps_fld (pv 0) (UG.pe_mtX c_lay UG.pass_def hr (by decide) (pv 0) (pa_cons (pv 3) (pa_cons pe_int (pa_cons (pe_tup pa_nil) (pa_cons (pe_tup pa_nil) pa_nil))))) rfl)))))), ?_⟩
    have nl : la ≠ p := fun z => by obtain ⟨o, h1, _⟩ := hla; rw [z, hp] at h1; cases h1
    have nn : na ≠ p := fun z => by rw [z, hp] at hna; cases hna
    refine ⟨_, rfl, _, rfl, p, C, dx, [], rfl, hp, T.cl, T.nL, (by decide), ?_⟩
    have i1 := Tk.putI hp (.ins C dx (putF "letters" (.ref la) []))
    have k1 : ∀ q o, q ≠ p → H q = some o → upd H p (.ins C dx (putF "letters" (.ref la) [])) q = some o := fun q o n e => by rw [upd_ne n]; exact e
    have e1 : upd H p (.ins C dx (putF "letters" (.ref la) [])) p = some (.ins C dx (putF "letters" (.ref la) [])) := upd_same
    generalize upd H p (.ins C dx (putF "letters" (.ref la) [])) = H1 at i1 k1 e1
    refine ⟨_, rfl, _, rfl, p, C, dx, _, rfl, e1, T.cl, T.nN, (by show 1 < 1000; decide), ?_⟩
    have i2 := i1.trans (Tk.putI e1 (.ins C dx (putF "names" (.ref na) (putF "letters" (.ref la) []))))
    have k2 : ∀ q o, q ≠ p → H q = some o → upd H1 p (.ins C dx (putF "names" (.ref na) (putF "letters" (.ref la) []))) q = some o := fun q o n e => by rw [upd_ne n]; exact k1 q o n e
    have e2 : upd H1 p (.ins C dx (putF "names" (.ref na) (putF "letters" (.ref la) []))) p = some (.ins C dx (putF "names" (.ref na) (putF "letters" (.ref la) []))) := upd_same
    have back2 : ∀ q, q ≠ p → H1 q = none → upd H1 p (.ins C dx (putF "names" (.ref na) (putF "letters" (.ref la) []))) q = none := fun q n e => by rw [upd_ne n]; exact e
    generalize hH2 : upd H1 p (.ins C dx (putF "names" (.ref na) (putF "letters" (.ref la) []))) = H2 at i2 k2 e2
    refine ⟨(by show 1 ≤ sizeLine; decide), fun pl hpl => ?_⟩
    have npl : p ≠ pl := fun z => by rw [← z, e2] at hpl; cases hpl
    have hpl0 : H pl = none := by
      cases e : H pl with
      | none => rfl
      | some o => rw [k2 pl o (Ne.symm npl) e] at hpl; cases hpl
    have s3 := same_new hpl (.lst [.ref ea])
    have e3 := s3 _ _ e2
    refine ⟨_, rfl, p, C, dx, _, rfl, e3, T.cl, T.nP, (by have h1 := len_putF "names" (V.ref na) (putF "letters" (.ref la) []); have h2 := len_putF "letters" (V.ref la) []; simp at h2; omega), ?_⟩
    have i4 := (i2.trans (Tk.same s3)).trans (Tk.putI e3 (.ins C dx (putF "places" (.ref pl) (putF "names" (.ref na) (putF "letters" (.ref la) [])))))
    have p3 : upd H2 pl (.lst [.ref ea]) pl = some (.lst [.ref ea]) := upd_same
    generalize upd H2 pl (.lst [.ref ea]) = H3 at s3 e3 p3 i4
    have k4 : ∀ q o, q ≠ p → H q = some o → upd H3 p (.ins C dx (putF "places" (.ref pl) (putF "names" (.ref na) (putF "letters" (.ref la) [])))) q = some o := fun q o n e => by rw [upd_ne n]; exact s3 _ _ (k2 q o n e)
    have e4 : upd H3 p (.ins C dx (putF "places" (.ref pl) (putF "names" (.ref na) (putF "letters" (.ref la) [])))) p = some (.ins C dx (putF "places" (.ref pl) (putF "names" (.ref na) (putF "letters" (.ref la) [])))) := upd_same
    have p4 : upd H3 p (.ins C dx (putF "places" (.ref pl) (putF "names" (.ref na) (putF "letters" (.ref la) [])))) pl = some (.lst [.ref ea]) := by rw [upd_ne (Ne.symm npl)]; exact p3
    generalize upd H3 p (.ins C dx (putF "places" (.ref pl) (putF "names" (.ref na) (putF "letters" (.ref la) [])))) = H4 at k4 e4 p4 i4
    intro fk hfk
    have nfk : p ≠ fk := fun z => by rw [← z, e4] at hfk; cases hfk
    have hfk0 : H fk = none := by
      cases e : H fk with
      | none => rfl
      | some o => rw [k4 fk o (Ne.symm nfk) e] at hfk; cases hfk
    have s5 := same_new hfk (.dT [])
    have e5 := s5 _ _ e4
    have p5 := s5 _ _ p4
    have f5 : upd H4 fk (.dT []) fk = some (.dT []) := upd_same
    refine ⟨_, rfl, p, C, dx, _, rfl, e5, T.cl, T.nF, (by have h0 := len_putF "places" (V.ref pl) (putF "names" (.ref na) (putF "letters" (.ref la) [])); have h1 := len_putF "names" (V.ref na) (putF "letters" (.ref la) []); have h2 := len_putF "letters" (V.ref la) []; simp at h2; omega), ?_⟩
    have i6 := (i4.trans (Tk.same s5)).trans (Tk.putI e5 (.ins C dx (lf la na pl fk)))
    generalize upd H4 fk (.dT []) = H5 at s5 e5 p5 f5 i6
    have k6 : ∀ q o, q ≠ p → H q = some o → upd H5 p (.ins C dx (lf la na pl fk)) q = some o := fun q o n e => by rw [upd_ne n]; exact s5 _ _ (k4 q o n e)
    have e6 : upd H5 p (.ins C dx (lf la na pl fk)) p = some (.ins C dx (lf la na pl fk)) := upd_same
    have p6 : upd H5 p (.ins C dx (lf la na pl fk)) pl = some (.lst [.ref ea]) := by rw [upd_ne (Ne.symm npl)]; exact p5
    have f6 : upd H5 p (.ins C dx (lf la na pl fk)) fk = some (.dT []) := by rw [upd_ne (Ne.symm nfk)]; exact f5
    have hlf : putF "forks" (V.ref fk) (putF "places" (.ref pl) (putF "names" (.ref na) (putF "letters" (.ref la) []))) = lf la na pl fk := rfl
    rw [hlf]
    generalize upd H5 p (.ins C dx (lf la na pl fk)) = H6 at k6 e6 p6 f6 i6
    have own6 : ∀ a o, H a = some o → ¬ Own H6 pl fk a := fun a o e w => by
      rcases w with w | w | ⟨kv, k, y1, y2⟩
      · rw [w, hpl0] at e; cases e
      · rw [w, hfk0] at e; cases e
      · rw [f6] at y1
        cases y1
        cases y2
    have L6 : Lay K C L N H6 p pl fk la na [.tuple [.str "end"]] := ⟨0, by simp, dx, [.ref ea], [], e6, p6, .cons (.tup (hes _) (.cons (.str _) .nil)) .nil, ⟨⟨trivial, trivial⟩, trivial⟩, hla.tk i6, k6 na _ nn hna, own6 na _ hna, f6, Nat.le_refl _, fun e he => by cases he⟩
    refine ⟨_, rfl, p, dx, _, rfl, e6, (lf_no _ _ _ _ (by decide +kernel) (by decide +kernel) (by decide +kernel) (by decide +kernel)), _, rfl, (by show 0 ≤ sizeLine; decide), fun z hz => ⟨(by show 0 ≤ sizeLine; decide), fun w hw => ?_⟩⟩
    have sw := (same_new hz (.tup [])).trans (same_new hw (.tup []))
    have nzw : z ≠ w := fun q => by rw [← q, upd_same] at hw; cases hw
    refine ⟨p, pl, fk, la, na, bv, 0, .ref z, .ref w, L, N, _, b, [], [], false, rfl, L6.same sw, (i6.trans (Tk.same sw)).dp (.tuple (ds b)) (tup_ds b) hb, ⟨z, [], rfl, by rw [upd_ne nzw]; exact upd_same, .nil⟩, ⟨w, rfl, upd_same⟩, by omega, hk, hn, by simp, by decide, hok, .inr ⟨rfl, fun c hc => by cases hc⟩, by simp, fun hl9 H9 L9 t9 k9 => ?_, fun hgt H9 t9 k9 => qe hgt H9 fun q' o n e => (k9 q' o ((L6.ko sw) q' o (own6 q' o e) (k6 q' o n e)).2 ((L6.ko sw) q' o (own6 q' o e) (k6 q' o n e)).1).1⟩
    obtain ⟨m9, _, dx9, vs9, kvs9, h91, h92, h93, h94, _⟩ := id L9
    refine ⟨_, rfl, p, C, dx9, _, rfl, h91, T.cl, T.nB, (by have := len_lf la na pl fk; omega), ?_⟩
    refine q hl9 _ pl ⟨dx9, fk, vs9, la, na, upd_same, by rw [upd_ne (Ne.symm npl)]; exact h92, (Tk.putI h91 _).dps _ h94 h93, h94⟩ hpl0 fun q' o n e => ?_
    rw [upd_ne n]
    have z1 := (L6.ko sw) q' o (own6 q' o e) (k6 q' o n e)
    exact (k9 q' o z1.2 z1.1).1
def spLs (K : PySem.W.Frag) (C TG : Addr) : Sp := fun vs H Q E => ∃ v L Ps, vs = [v] ∧ PD K H v L Ps ∧ Prog L Ps ∧ (Few L Ps → ∀ H' D xs, Same H H' → H' D = some (.lst xs) → Paired (DoneL K C L (Ps.map Prod.fst) H' D) xs Ps → Q (.ref D) H') ∧ (¬ Few L Ps → ∀ H', Same H H' → E (.ref TG) none H')
theorem sc_layouts : FnScope ["program", "letters", "procedures", "names", "procedure"] ["program"] (C8.fnScope (topS 37)) := C8.fnScope_by (by decide +kernel)
theorem ok_layouts {f : Addr} {fd : FuncData} (F : C8.Def K mg "layouts" (topS 37) f fd) (b : Binds K fd ["program"] []) (B : Bl K mg) {C TG : Addr} (c_init : UG.MakX P w K mg base 83 "Layout" C (spInit K C TG)) (T : Txt K mg C) : UG.CalX P w K mg base 85 "layouts" (spLs K C TG) := by
  refine UG.calX F b sc_layouts ?len ?body
  case len => rintro vs H Q E ⟨v, L, Ps, rfl, _⟩; rfl
  case body =>
    rintro cdv A outer s H vs Q E hr ⟨v, L, Ps, rfl, ⟨a, la, pvv, rfl, hs, hla, hpv⟩, hP, q, qe⟩
    refine ⟨_, (pss_cons (ps_asg (pv 0) (pg_tup rfl (pgs_cons (pg_name (i := 1) sc_layouts.nd rfl (Or.inr rfl)) (pgs_cons (pg_name (i := 2) sc_layouts.nd rfl (Or.inl rfl)) pgs_nil))))
    (pss_cons (ps_set (i := 3) sc_layouts.nd rfl (Or.inr rfl) (pe_lc (own := [("procedure", 4)]) (g := gName 4) (te := tOp (rIxT K) (tVar 4) (tC (.int 0))) (by rfl) sc_layouts.nd (pi_tup (pv 2)) (blkOk_by (own := [("procedure", 4)]) (N := ["program", "letters", "procedures", "names", "procedure"]) (sc := (C8.fnScope (topS 37))) (by decide +kernel)) (fun _ _ _ _ _ => pg_name (i := 4) sc_layouts.nd rfl (Or.inl rfl)) (fun _ _ _ _ _ => pts_nil) (fun _ _ _ _ _ => by exact (pe_ix ix_tup (pv 4) pe_int (fun _ _ => rfl)))))
    (pss_one (ps_ret (UG.pe_lcX (own := [("procedure", 4)]) (g := gName 4) (te := tMake C (spInit K C TG) [] E (tCons (tVar 1) (tCons (tVar 3) (tCons (tOp (rIxT K) (tVar 4) (tC (.int 1))) tNil)))) (E := E) rfl rfl UG.takes_def (fun _ _ _ _ h => h) (by rfl) sc_layouts.nd (pi_tup (pv 2)) (blkOk_by (own := [("procedure", 4)]) (N := ["program", "letters", "procedures", "names", "procedure"]) (sc := (C8.fnScope (topS 37))) (by decide +kernel)) (fun _ _ _ _ _ => pg_name (i := 4) sc_layouts.nd rfl (Or.inl rfl)) (fun _ _ _ _ _ => pts_nil) (fun _ _ _ _ _ _ hx => by exact (UG.pe_mkX c_init hx hr (by decide) rfl (pa_cons (pv 1) (pa_cons (pv 3) (pa_cons (pe_ix ix_tup (pv 4) pe_int (fun _ _ => rfl)) pa_nil)))))))))), ?_⟩
    refine ⟨_, rfl, a, _, rfl, hs, rfl, _, _, rfl, _, _, rfl, rfl, ?_⟩
    obtain ⟨pa, pxs, rfl, hps, hpa, hpl⟩ := len_ok hpv
    rw [List.length_map] at hpl
    refine ⟨_, rfl, pa, rfl, ⟨_, hps⟩, fun Dd hDd => ?_⟩
    refine lc_tup (xs := pxs) (fun i H' => H' Dd = some (.lst (((Ps.take i).map Prod.fst).map V.str)) ∧ Same H H') ?_ ?_ ?_ ?_
    · exact ⟨by simpa using upd_same, same_new hDd _⟩
    · rintro i H' _ ⟨_, s5⟩
      exact (Tk.same s5).sqt hps
    · rintro i x H5 hx ⟨hv1, s5⟩
      obtain ⟨d, hd, hdp⟩ := dps_get' hpa hx
      obtain ⟨p, hp, rfl⟩ := procs_get hd
      have hd5 := (Tk.same s5).dp _ (tup_proc p) hdp
      obtain ⟨qa, qxs, rfl, hqs, hqa, hql⟩ := len_ok hd5
      cases hqa with
      | @cons v0 _ _ _ h0 hqa =>
      cases h0
      refine ⟨rfl, ?_⟩
      refine ⟨_, rfl, _, _, _, _, rfl, rfl, hqs, at0 _ _, _, hv1, ?_, ?_, ?_⟩
      · have := hP.p2
        have h3 : (Ps.take i).length ≤ Ps.length := List.length_take_le' _ _
        exact Nat.lt_of_le_of_lt (show _ ≤ 8 by rw [List.length_map, List.length_map]; omega) (by decide)
      · rw [upd_same, List.take_succ, hp]
        simp
      · intro b o e
        rw [upd_ne (fun z => by rw [z, hDd] at e; cases e)]
        exact s5 _ _ e
    · rintro H5 ⟨hv1, s5⟩
      rw [hpl, List.take_length] at hv1
      refine ⟨_, rfl, pa, rfl, ⟨_, (Tk.same s5).sqt hps⟩, fun F hF => ?_⟩
      have nDF : Dd ≠ F := fun z => by rw [← z, hv1] at hF; cases hF
      have hF0 : H F = none := by
        cases e : H F with
        | none => rfl
        | some o => rw [s5 _ _ e] at hF; cases hF
      refine lc_tup (xs := pxs) (fun i H' => Same H H' ∧ H' Dd = some (.lst ((Ps.map Prod.fst).map V.str)) ∧ (∀ p ∈ Ps.take i, (layP L (Ps.map Prod.fst) p).2.length ≤ 300) ∧ ∃ vs, H' F = some (.lst vs) ∧ Paired (DoneL K C L (Ps.map Prod.fst) H' F) vs (Ps.take i)) ?_ ?_ ?_ ?_
      · exact ⟨s5.trans (same_new hF _), by rw [upd_ne nDF]; exact hv1, (fun p hp => absurd hp (by simp)), [], upd_same, .nil⟩
      · rintro i H' _ ⟨s7, _⟩
        exact (Tk.same s7).sqt hps
      · rintro i x H7 hx ⟨s7, hD7, few7, fv, hF7, hfv⟩
        obtain ⟨d, hd, hdp⟩ := dps_get' hpa hx
        obtain ⟨p, hp, rfl⟩ := procs_get hd
        have hd7 := (Tk.same s7).dp _ (tup_proc p) hdp
        obtain ⟨qa, qxs, rfl, hqs, hqa, hql⟩ := len_ok hd7
        cases hqa with
        | @cons v0 _ _ _ h0 hqa =>
        cases h0
        cases hqa with
        | @cons v1 _ _ _ h1 hqa =>
        cases hqa
        have hpm : p ∈ Ps := List.mem_of_getElem? hp
        have hbm : p.2 ∈ nsP Ps := List.mem_map.mpr ⟨p, hpm, rfl⟩
        have hkk := kss_mem hbm
        have hnn := nss_mem hbm
        have hk12 := hP.ks
        have hn200 := hP.n
        refine ⟨rfl, ?_⟩
        refine ⟨_, rfl, _, rfl, _, rfl, _, _, _, _, rfl, rfl, hqs, at1 _ _ _, fun x dx nx ndx nex => ?_⟩
        have s8 : Same H7 (upd (upd H7 dx (.own x)) x (.ins C dx [])) := (same_new ndx (.own x)).trans (same_new (by rw [upd_ne (Ne.symm nex)]; exact nx) _)
        refine ⟨x, dx, la, Dd, v1, L, Ps.map Prod.fst, p.2, rfl, upd_same, hla.tk (Tk.same (s7.trans s8)), s8 _ _ hD7, (Tk.same s8).dp (.tuple (ds p.2)) (tup_ds p.2) h1, by omega, by omega, hP.ok _ hbm, fun hl9 H9 pl9 dn9 hpl9 k9 => ⟨rfl, ?_⟩, fun hgt H9 k9 => qe (fun few => absurd (few p hpm) (Nat.not_le_of_gt hgt)) H9 (s7.trans fun q o e => k9 q o (fun z => by rw [z, nx] at e; cases e) (s8 q o e))⟩
        have s9 : Same H7 H9 := fun q o e => k9 q o (fun z => by rw [z, nx] at e; cases e) (s8 q o e)
        have npl : pl9 ≠ F := fun z => by rw [z, s8 _ _ hF7] at hpl9; cases hpl9
        have hF9 := s9 _ _ hF7
        have hml := Paired.length hfv
        have h3 : (Ps.take i).length ≤ Ps.length := List.length_take_le' _ _
        have hp8 := hP.p2
        refine ⟨fv, hF9, Nat.lt_of_le_of_lt (show fv.length ≤ 8 by omega) (by decide), fun q o e => ?_, ?_, fun p' hp' => ?_, fv ++ [.ref x], upd_same, ?_⟩
        · rw [upd_ne (fun z => by rw [z, hF0] at e; cases e)]
          exact s9 _ _ (s7 _ _ e)
        · rw [upd_ne nDF]
          exact s9 _ _ hD7
        · rw [List.take_succ, hp] at hp'
          rcases List.mem_append.mp hp' with h | h
          · exact few7 p' h
          · cases List.mem_singleton.mp h
            exact hl9
        · rw [List.take_succ, hp]
          refine Paired.snoc (Paired.mapP hfv fun y q z => ?_) ⟨x, pl9, rfl, npl, dn9.other hF9 npl _⟩
          obtain ⟨p1, pl1, e1, n1, d1⟩ := z
          exact ⟨p1, pl1, e1, n1, (d1.same s9).other hF9 n1 _⟩
      · rintro H7 ⟨s7, hD7, few7, fv, hF7, hfv⟩
        rw [hpl, List.take_length] at hfv few7
        exact q few7 _ F fv s7 hF7 hfv
def spLO (K : PySem.W.Frag) (TG : Addr) : Sp := fun vs H Q E => ∃ v L Ps, vs = [v] ∧ PD K H v L Ps ∧ Prog L Ps ∧ (Few L Ps → ∀ H' v', Same H H' → Dp K H' v' (layD L Ps) → Q v' H') ∧ (¬ Few L Ps → ∀ H', Same H H' → E (.ref TG) none H')
theorem sc_laid_out : FnScope ["program", "layout"] ["program"] (C8.fnScope (topS 36)) := C8.fnScope_by (by decide +kernel)
theorem ok_laid_out {f : Addr} {fd : FuncData} (F : C8.Def K mg "laid_out" (topS 36) f fd) (b : Binds K fd ["program"] []) (B : Bl K mg) {C TG : Addr} (c_layouts : UG.CalX P w K mg base 85 "layouts" (spLs K C TG)) (T : Txt K mg C) : UG.CalX P w K mg base 86 "laid_out" (spLO K TG) := by
  refine UG.calX F b sc_laid_out ?len ?body
  case len => rintro vs H Q E ⟨v, L, Ps, rfl, _⟩; rfl
  case body =>
    rintro cdv A outer s H vs Q E hr ⟨v, L, Ps, rfl, hd, hP, q, qe⟩
    refine ⟨_, (pss_one (ps_ret (pe_callTy call_tuple_of rfl B.tuple (by decide +kernel) (pa_cons (pe_lc (own := [("layout", 1)]) (g := gName 1) (te := tTup (tCons (tFld K (tVar 1) "begin") (tCons (tCB (rTupL K) (tCons (tFld K (tVar 1) "places") tNil)) tNil))) (by rfl) sc_laid_out.nd (pi_list (UG.pe_cX c_layouts UG.pass_def hr (by decide) rfl (pa_cons (pv 0) pa_nil))) (blkOk_by (own := [("layout", 1)]) (N := ["program", "layout"]) (sc := (C8.fnScope (topS 36))) (by decide +kernel)) (fun _ _ _ _ _ => pg_name (i := 1) sc_laid_out.nd rfl (Or.inl rfl)) (fun _ _ _ _ _ => pts_nil) (fun _ _ _ _ _ => by exact (pe_tup (pa_cons (pe_fld (pv 1) rfl) (pa_cons (pe_callTy call_tuple_of rfl B.tuple (by decide +kernel) (pa_cons (pe_fld (pv 1) rfl) pa_nil)) pa_nil))))) pa_nil)))), ?_⟩
    refine ⟨_, rfl, v, L, Ps, rfl, hd, hP, fun hFew H1 D xs s1 hD hx => ?_, qe⟩
    have q := q hFew
    have hxl := Paired.length hx
    refine ⟨D, rfl, ⟨_, SqL.of hD⟩, fun F hF => ?_⟩
    have hF0 : ∀ a o, H1 a = some o → a ≠ F := fun a o e z => by rw [z, hF] at e; cases e
    refine lc_list (xs := xs) (fun i H' => Same H1 H' ∧ ∃ vs, H' F = some (.lst vs) ∧ DpAll K H' vs ((Ps.take i).map (layPD L (Ps.map Prod.fst)))) ?_ ?_ ?_ ?_
    · exact ⟨same_new hF _, [], upd_same, by simpa using .nil⟩
    · rintro i H' _ ⟨s2, _⟩
      exact SqL.of (s2 _ _ hD)
    · rintro i x H2 hxi ⟨s2, fv, hF2, hfv⟩
      obtain ⟨p, hp, o, pl, rfl, npl, dn⟩ := paired_at hx hxi
      obtain ⟨dx, fk, ws, la, na, g1, g2, g3, g4⟩ := dn.same s2
      refine ⟨rfl, ?_⟩
      refine ⟨_, rfl, o, C, dx, _, _, rfl, g1, T.cl, T.nB, lb_begin _ _ _ _ _, _, rfl, o, C, dx, _, _, rfl, g1, T.cl, T.nP, lb_places _ _ _ _ _, pl, _, rfl, .inl ⟨SqL.of g2, fun w hw => ⟨(by show 2 ≤ sizeLine; decide), fun y hy => ?_⟩⟩⟩
      have nwy : w ≠ y := fun z => by rw [← z, upd_same] at hy; cases hy
      have sw := (same_new hw (.tup ws)).trans (same_new hy (.tup [.int (layP L (Ps.map Prod.fst) p).1, .ref w]))
      have hF3 := sw _ _ hF2
      have hml := dps_len hfv
      rw [List.length_map] at hml
      have h3 : (Ps.take i).length ≤ Ps.length := List.length_take_le' _ _
      have hp8 := hP.p2
      refine ⟨fv, hF3, Nat.lt_of_le_of_lt (show fv.length ≤ 8 by omega) (by decide), fun b u e => ?_, fv ++ [.ref y], upd_same, ?_⟩
      · rw [upd_ne (hF0 _ _ e)]
        exact sw _ _ (s2 _ _ e)
      · rw [List.take_succ, hp]
        show DpAll K _ _ (((Ps.take i) ++ [p]).map _)
        rw [List.map_append]
        have tU := Tk.put hF3 (.lst (fv ++ [.ref y]))
        have tf : TupDs ((Ps.take i).map (layPD L (Ps.map Prod.fst))) := tupds_iff.mpr fun d hd => by
          obtain ⟨p', _, rfl⟩ := List.mem_map.mp hd
          exact ⟨trivial, tup_layP L _ p', trivial⟩
        refine dps_app (((Tk.same sw).trans tU).dps _ tf hfv) (.cons ?_ .nil)
        refine .tup (tU.sqt (SqT.of upd_same)) (.cons (.int _) (.cons (.tup (tU.sqt (SqT.of (by rw [upd_ne nwy]; exact upd_same))) ?_) .nil))
        exact ((Tk.same sw).trans tU).dps _ (tup_layP L _ p) g3
    · rintro H2 ⟨s2, fv, hF2, hfv⟩
      rw [hxl, List.take_length] at hfv
      refine ⟨F, _, rfl, .inl ⟨SqL.of hF2, fun z hz => ?_⟩⟩
      have sz := same_new hz (.tup fv)
      exact q _ _ (s1.trans (s2.trans sz)) (.tup (SqT.of upd_same) (dps_ext (same_ext sz) _ hfv))
def spPl (K : PySem.W.Frag) (TG : Addr) (Ts : List Addr) : Sp := fun vs H Q E => ∃ v L Ps, vs = [v] ∧ PD K H v L Ps ∧ Prog L Ps ∧ Tbs Ts H ∧ (Few L Ps → ∀ H' v', Go Ts H H' → Dp K H' v' (layD L Ps) → Q v' H') ∧ (¬ Few L Ps → ∀ H', Go Ts H H' → E (.ref TG) none H')
theorem sc_places : FnScope ["program"] ["program"] (C8.fnScope (topS 35)) := C8.fnScope_by (by decide +kernel)
theorem ok_places {TG : Addr} {Ts : List Addr} {f : Addr} {fd : FuncData} (F : C8.Def K mg "places" (topS 35) f fd) (b : Binds K fd ["program"] []) (B : Bl K mg) (c_checked : C8.Cal P w K mg base 18 "checked" (spCheck K Ts) []) (c_laid_out : UG.CalX P w K mg base 86 "laid_out" (spLO K TG)) : UG.CalX P w K mg base 87 "places" (spPl K TG Ts) := by
  refine UG.calX F b sc_places ?len ?body
  case len => rintro vs H Q E ⟨v, L, Ps, rfl, _⟩; rfl
  case body =>
    rintro cdv A outer s H vs Q E hr ⟨v, L, Ps, rfl, hd, hP, hTb, q, qe⟩
    refine ⟨_, (pss_cons (ps_expr (C8.pe_c c_checked hr (by decide) rfl (pa_cons (pv 0) pa_nil)))
    (pss_one (ps_ret (UG.pe_cX c_laid_out UG.pass_def hr (by decide) rfl (pa_cons (pv 0) pa_nil))))), ?_⟩
    refine ⟨_, rfl, v, L, Ps, rfl, hd.dp, hP, hTb, fun H1 g1 => ?_⟩
    exact ⟨_, rfl, v, L, Ps, rfl, hd.tk (Tk.go hTb g1), hP, fun hF H2 v2 s2 h2 => q hF H2 v2 (g1.trans (Go.of_same g1.1 s2)) h2, fun hF H2 s2 => qe hF H2 (g1.trans (Go.of_same g1.1 s2))⟩
end
end K09


set_option Elab.async false
set_option linter.all false
set_option maxRecDepth 100000
set_option maxHeartbeats 8000000
namespace K09
open PySem PySem.Spec PyProof.Rows L2
/-! ### the well of draws -/
def Wl (H : Hp) (w l : Addr) (m : Nat) : Prop := ∃ (ns : List Int) (a n : Int), H w = some (.lst [.ref l, .int a, .int n]) ∧ H l = some (.lst (ns.map V.int)) ∧ w ≠ l ∧ 0 ≤ a ∧ a < 2147483648 ∧ 0 ≤ n ∧ n + m ≤ 1000000000000000000
theorem Wl.le {H : Hp} {w l : Addr} {m k : Nat} (h : Wl H w l m) (hk : k ≤ m) : Wl H w l k := by
  obtain ⟨ns, a, n, h1, h2, h3, h4, h5, h6, h7⟩ := h
  exact ⟨ns, a, n, h1, h2, h3, h4, h5, h6, by omega⟩
theorem Wl.kp {H H' : Hp} {w l : Addr} {m : Nat} {as : List Addr} (h : Wl H w l m) (k : Kp as H H') (nw : w ∉ as) (nl : l ∉ as) : Wl H' w l m := by
  obtain ⟨ns, a, n, h1, h2, h3⟩ := h
  exact ⟨ns, a, n, k _ _ nw h1, k _ _ nl h2, h3⟩
theorem Wl.same {H H' : Hp} {w l : Addr} {m : Nat} (h : Wl H w l m) (s : Same H H') : Wl H' w l m := by
  obtain ⟨ns, a, n, h1, h2, h3⟩ := h
  exact ⟨ns, a, n, s _ _ h1, s _ _ h2, h3⟩
theorem Wl.out {H : Hp} {w l p : Addr} {m : Nat} (h : Wl H w l m) (hp : H p = none) : p ∉ [w, l] := by
  obtain ⟨ns, a, n, h1, h2, _⟩ := h
  intro z
  rcases List.mem_cons.mp z with rfl | z
  · rw [h1] at hp; cases hp
  · cases List.mem_singleton.mp z
    rw [h2] at hp; cases hp
theorem dp_ints9 {K : PySem.W.Frag} {H : Hp} : ∀ ns : List Int, DpAll K H (ns.map V.int) (ns.map PyData.int)
  | [] => .nil
  | n :: ns => .cons (.int n) (dp_ints9 ns)
theorem canAll_ints : ∀ ns : List Int, PyData.canLayAll0 (ns.map PyData.int) = true ∧ PyData.depthAll (ns.map PyData.int) = 0
  | [] => ⟨rfl, rfl⟩
  | n :: ns => by
    have ih := canAll_ints ns
    constructor
    · rw [List.map_cons, PyData.canLayAll0, ih.1]; rfl
    · rw [List.map_cons, PyData.depthAll, ih.2]; rfl
theorem shaped_ints (ns : List Int) : SeqAt.shaped (.list (ns.map PyData.int)) = true := by
  have h := canAll_ints ns
  unfold SeqAt.shaped
  rw [PyData.canLay0, h.1, PyData.depth, h.2]
  decide
theorem eqv_nil9 (ds : List PyData) : PyData.eqv (.list ds) (.list []) = ds.isEmpty := by
  cases ds <;> simp [PyData.eqv, PyData.eqvAll]
theorem seq09 {α : Type} {x : α} (l : List α) : seqIndex? 0 (x :: l).length = some 0 := by
  unfold seqIndex?
  simp
section
variable {P : Program} {w : World} {K : PySem.W.Frag} {mg : Str → Option Value} {base : Heap}
def spDraw : Sp := fun vs H Q _ => ∃ (w l : Addr) (m : Nat) (k : Int), vs = [.ref w, .int k] ∧ Wl H w l (m + 1) ∧ 1 ≤ k ∧ k ≤ 1000000 ∧ ∀ (r : Int) H', 0 ≤ r → r < k → Wl H' w l m → Kp [w, l] H H' → Tk H H' → Q (.int r) H'
theorem sc__law_draw : FnScope ["well", "many", "top"] ["well", "many"] (C8.fnScope (topS 41)) := C8.fnScope_by (by decide +kernel)
theorem ok__law_draw {f : Addr} {fd : FuncData} (F : C8.Def K mg "_law_draw" (topS 41) f fd) (b : Binds K fd ["well", "many"] []) (B : Bl K mg)  : C8.Cal P w K mg base 1 "_law_draw" spDraw [] := by
  refine C8.cal0 F b .nil sc__law_draw ?len ?body
  case len => rintro vs H Q E ⟨w, l, m, k, rfl, _⟩; rfl
  case body =>
    rintro cdv A outer s H vs Q E hr ⟨w, l, m, k, rfl, ⟨ns, a, n, hw, hl, hwl, ha0, ha1, hn0, hn1⟩, hk0, hk1, q⟩
    refine ⟨_, (pss_cons (ps_if (pt_cmpR (op_neD hr.units) (pe_ix ix_list (pv 0) pe_int (fun _ _ => rfl)) (pe_lst pa_nil) (nomark _)) (pss_cons (ps_set (i := 2) sc__law_draw.nd rfl (Or.inl rfl) (pe_ix ix_list (pe_ix ix_list (pv 0) pe_int (fun _ _ => rfl)) pe_int (fun _ _ => rfl)))
    (pss_cons (ps_if (pt_cmpR op_lt (pv 2) (pv 1) (nomark _)) (pss_one (ps_expr (pe_bm PySem.F.plainAttrs_list PySem.F.slot_list_pop PySem.F.type_list_pop mt_popAt (pe_ix ix_list (pv 0) pe_int (fun _ _ => rfl)) (pa_cons pe_int pa_nil)))) (pss_one (ps_asg (pe_op op_fdiv (pv 2) (pv 1)) (pg_sub (pe_ix ix_list (pv 0) pe_int (fun _ _ => rfl)) pe_int set_list))))
    (pss_one (ps_ret (pe_op op_mod (pe_callTy call_int1 rfl B.int (by decide +kernel) (pa_cons (pv 2) pa_nil)) (pv 1)))))) pss_nil)
    (pss_cons (ps_asg (pe_op op_add (pe_ix ix_list (pv 0) pe_int (fun _ _ => rfl)) pe_int) (pg_sub (pv 0) pe_int set_list))
    (pss_cons (ps_asg (pe_op op_mod (pe_callTy call_int1 rfl B.int (by decide +kernel) (pa_cons (pe_op op_add (pe_op op_add (pe_op op_mul (pe_ix ix_list (pv 0) pe_int (fun _ _ => rfl)) pe_int) (pe_op op_mul (pe_op op_mul pe_int (pe_ix ix_list (pv 0) pe_int (fun _ _ => rfl))) (pe_ix ix_list (pv 0) pe_int (fun _ _ => rfl)))) pe_int) pa_nil)) pe_int) (pg_sub (pv 0) pe_int set_list))
    (pss_one (ps_ret (pe_op op_mod (pe_op op_fdiv (pe_op op_mod (pe_callTy call_int1 rfl B.int (by decide +kernel) (pa_cons (pe_op op_mul (pe_ix ix_list (pv 0) pe_int (fun _ _ => rfl)) (pe_ix ix_list (pv 0) pe_int (fun _ _ => rfl))) pa_nil)) pe_int) pe_int) (pv 1))))))), ?_⟩
    refine ⟨_, rfl, w, _, _, _, rfl, rfl, SqL.of hw, at0 _ _, (by show 0 ≤ sizeLine; decide), fun p hp => ?_⟩
    have s1 := same_new hp (.lst [])
    have nw : w ≠ p := fun z => by rw [z, hp] at hw; cases hw
    have nl : l ≠ p := fun z => by rw [z, hp] at hl; cases hl
    have hw1 := s1 _ _ hw
    have hl1 := s1 _ _ hl
    refine ⟨.list (ns.map PyData.int), .list [], .lst (SqL.of hl1) (dp_ints9 ns), .lst (SqL.of upd_same) .nil, shaped_ints ns, by decide +kernel, _, rfl, ?_⟩
    rw [eqv_nil9]
    generalize upd H p (.lst []) = H1 at s1 hw1 hl1
    have k1 : Kp [w, l] H H1 := Kp.of_same s1
    have t1 : Tk H H1 := Tk.same s1
    cases ns with
    | nil =>
      refine iteF ?_
      refine ⟨_, rfl, _, _, _, _, rfl, rfl, SqL.of hw1, rfl, _, _, rfl, rfl, _, rfl, w, _, 2, 2, rfl, rfl, hw1, rfl, ?_⟩
      have hw2 : upd H1 w (.lst [.ref l, .int a, .int (n + 1)]) w = some (.lst [.ref l, .int a, .int (n + 1)]) := upd_same
      have hl2 : upd H1 w (.lst [.ref l, .int a, .int (n + 1)]) l = some (.lst (([] : List Int).map V.int)) := by rw [upd_ne (Ne.symm hwl)]; exact hl1
      have k2 : Kp [w, l] H (upd H1 w (.lst [.ref l, .int a, .int (n + 1)])) := k1.trans (Kp.put _ (by simp))
      have t2 : Tk H (upd H1 w (.lst [.ref l, .int a, .int (n + 1)])) := t1.trans (Tk.put hw1 _)
      show (fun H2 => _) (upd H1 w (.lst [.ref l, .int a, .int (n + 1)]))
      generalize upd H1 w (.lst [.ref l, .int a, .int (n + 1)]) = H2 at hw2 hl2 k2 t2
      refine ⟨_, rfl, _, _, _, _, rfl, rfl, SqL.of hw2, rfl, _, _, rfl, rfl, .inl ⟨by omega, by omega⟩, ?_⟩
      refine ⟨_, rfl, _, _, _, _, rfl, rfl, SqL.of hw2, rfl, _, _, rfl, rfl, .inl ⟨by decide, by decide⟩, ?_⟩
      refine ⟨_, rfl, _, _, _, _, rfl, rfl, SqL.of hw2, rfl, _, _, rfl, rfl, .inr ⟨by omega, by omega⟩, ?_⟩
      refine ⟨_, _, rfl, rfl, _, _, rfl, rfl, .inl ⟨_, rfl, _, _, rfl, rfl, (show (0 : Int) < 2147483647 by decide), _, rfl, w, _, 1, 1, rfl, rfl, hw2, rfl, ?_⟩⟩
      have p1 := Int.emod_nonneg (a * 48271 + 69621 * (n + 1) * (n + 1) + 40692) (show (2147483647 : Int) ≠ 0 by decide)
      have p2 := Int.emod_lt_of_pos (a * 48271 + 69621 * (n + 1) * (n + 1) + 40692) (show (0 : Int) < 2147483647 by decide)
      show (fun H2 => _) (upd H2 w (.lst [.ref l, .int ((a * 48271 + 69621 * (n + 1) * (n + 1) + 40692) % 2147483647), .int (n + 1)]))
      generalize (a * 48271 + 69621 * (n + 1) * (n + 1) + 40692) % 2147483647 = a2 at p1 p2
      have hw3 : upd H2 w (.lst [.ref l, .int a2, .int (n + 1)]) w = some (.lst [.ref l, .int a2, .int (n + 1)]) := upd_same
      have hl3 : upd H2 w (.lst [.ref l, .int a2, .int (n + 1)]) l = some (.lst (([] : List Int).map V.int)) := by rw [upd_ne (Ne.symm hwl)]; exact hl2
      have k3 : Kp [w, l] H (upd H2 w (.lst [.ref l, .int a2, .int (n + 1)])) := k2.trans (Kp.put _ (by simp))
      have t3 : Tk H (upd H2 w (.lst [.ref l, .int a2, .int (n + 1)])) := t2.trans (Tk.put hw2 _)
      show (fun H2 => _) (upd H2 w (.lst [.ref l, .int a2, .int (n + 1)]))
      generalize upd H2 w (.lst [.ref l, .int a2, .int (n + 1)]) = H3 at hw3 hl3 k3 t3
      refine ⟨_, rfl, _, _, _, _, rfl, rfl, SqL.of hw3, rfl, ?_⟩
      refine ⟨_, rfl, _, _, _, _, rfl, rfl, SqL.of hw3, rfl, _, _, rfl, rfl, .inl ⟨by omega, by omega⟩, ?_⟩
      refine .inl ⟨_, rfl, _, _, rfl, rfl, (show (0 : Int) < 2147483629 by decide), _, _, rfl, rfl, ⟨by decide, by decide⟩, _, rfl, _, _, rfl, rfl, (show (0 : Int) < k by omega), ?_⟩
      exact q _ _ (Int.emod_nonneg _ (by omega)) (Int.emod_lt_of_pos _ (by omega)) ⟨[], a2, n + 1, hw3, hl3, hwl, p1, by omega, by omega, by omega⟩ k3 t3
    | cons n0 nr =>
      refine iteT ?_
      refine ⟨_, rfl, _, _, _, _, rfl, rfl, SqL.of hw1, rfl, _, _, _, _, rfl, rfl, SqL.of hl1, (show atI (V.int n0 :: nr.map V.int) 0 = some (.int n0) from at0 _ _), ?_⟩
      have fin : ∀ (H' : Hp) (ns' : List Int), H' w = some (.lst [.ref l, .int a, .int n]) → H' l = some (.lst (ns'.map V.int)) → Kp [w, l] H H' → Tk H H' → Q (.int (n0 % k)) H' := fun H' ns' e1 e2 e3 e4 =>
        q _ _ (Int.emod_nonneg _ (by omega)) (Int.emod_lt_of_pos _ (by omega)) ⟨ns', a, n, e1, e2, hwl, ha0, ha1, hn0, by omega⟩ e3 e4
      refine ⟨_, rfl, _, rfl, _, _, rfl, rfl, _, rfl, ?_⟩
      by_cases c1 : n0 < k
      · rw [decide_eq_true c1]
        refine iteT ?_
        refine ⟨_, rfl, _, _, _, _, rfl, rfl, SqL.of hw1, rfl, .inl ⟨rfl, _, SqL.of hl1⟩, l, _, 0, 0, .int n0, rfl, rfl, hl1, by decide, by decide, seq09 _, rfl, ?_⟩
        refine ⟨_, rfl, .inl ⟨_, rfl, _, rfl, _, _, rfl, rfl, (show (0 : Int) < k by omega), ?_⟩⟩
        refine fin _ nr (by rw [upd_ne hwl]; exact hw1) upd_same (k1.trans (Kp.put _ (by simp))) (t1.trans (Tk.put hl1 _))
      · rw [decide_eq_false c1]
        refine iteF ?_
        refine ⟨_, rfl, _, rfl, _, _, rfl, rfl, ⟨by omega, by omega⟩, _, rfl, _, _, _, _, rfl, rfl, SqL.of hw1, rfl, l, _, 0, 0, rfl, rfl, hl1, ix_nat (j := 0) (by simp), ?_⟩
        refine ⟨_, rfl, .inl ⟨_, rfl, _, rfl, _, _, rfl, rfl, (show (0 : Int) < k by omega), ?_⟩⟩
        refine fin _ (n0 / k :: nr) (by rw [upd_ne hwl]; exact hw1) upd_same (k1.trans (Kp.put _ (by simp))) (t1.trans (Tk.put hl1 _))
def spWell (K : PySem.W.Frag) : Sp := fun vs H Q _ => ∃ (a : Addr) (ns : List Int), vs = [.ref a] ∧ SqL K H a (ns.map V.int) ∧ ns.length ≤ 1000 ∧ ∀ H' w l, Same H H' → H w = none → H l = none → Wl H' w l 900000000000000000 → Q (.ref w) H'
theorem sc__law_well : FnScope ["script", "stir", "cell"] ["script"] (C8.fnScope (topS 40)) := C8.fnScope_by (by decide +kernel)
theorem ok__law_well {f : Addr} {fd : FuncData} (F : C8.Def K mg "_law_well" (topS 40) f fd) (b : Binds K fd ["script"] []) (B : Bl K mg)  : C8.Cal P w K mg base 1 "_law_well" (spWell K) [] := by
  refine C8.cal0 F b .nil sc__law_well ?len ?body
  case len => rintro vs H Q E ⟨a, ns, rfl, _⟩; rfl
  case body =>
    rintro cdv A outer s H vs Q E hr ⟨a, ns, rfl, hs, hlen, q⟩
    refine ⟨_, (pss_cons (ps_set (i := 1) sc__law_well.nd rfl (Or.inl rfl) pe_int)
    (pss_cons (ps_for PassesOwn.never rfl (pi_list (pv 0)) (pg_name (i := 2) sc__law_well.nd rfl (Or.inl rfl))
    (pss_one (ps_set (i := 1) sc__law_well.nd rfl (Or.inl rfl) (pe_op op_mod (pe_callTy call_int1 rfl B.int (by decide +kernel) (pa_cons (pe_op op_add (pe_op op_add (pe_op op_mul (pv 1) pe_int) (pe_op op_mod (pe_callTy call_int1 rfl B.int (by decide +kernel) (pa_cons (pv 2) pa_nil)) pe_int)) pe_int) pa_nil)) pe_int))))
    (pss_one (ps_ret (pe_lst (pa_cons (pe_lc (own := [("cell", 2)]) (g := gName 2) (by rfl) sc__law_well.nd (pi_list (pv 0)) (blkOk_by (own := [("cell", 2)]) (N := ["script", "stir", "cell"]) (sc := (C8.fnScope (topS 40))) (by decide +kernel)) (fun _ _ _ _ _ => pg_name (i := 2) sc__law_well.nd rfl (Or.inl rfl)) (fun _ _ _ _ _ => (pts_one (pt_cmpR op_gt (pv 2) (pe_op op_pow pe_int pe_int) (nomark _)))) (fun _ _ _ _ _ => (pe_op op_sub (pe_callTy call_int1 rfl B.int (by decide +kernel) (pa_cons (pv 2) pa_nil)) (pe_op op_pow pe_int pe_int)))) (pa_cons (pv 1) (pa_cons pe_int pa_nil)))))))), ?_⟩
    refine ⟨_, rfl, a, rfl, ⟨_, hs⟩, ?_⟩
    refine for_list (xs := ns.map V.int) (fun j σ H' => H' = H ∧ ∃ (z : Int) (b2 : Option V), σ = [some (.ref a), some (.int z), b2] ∧ 0 ≤ z ∧ z < 2147483647) ⟨rfl, 7, none, rfl, by omega, by omega⟩ ?_ ?_ ?_
    · rintro i σ H' _ ⟨rfl, _⟩
      exact hs
    · rintro i x _ H2 hx ⟨rfl, z, b2, rfl, z0, z1⟩
      rw [List.getElem?_map] at hx
      obtain ⟨n, _, rfl⟩ := Option.map_eq_some_iff.mp hx
      refine ⟨_, rfl, _, _, rfl, rfl, .inl ⟨by omega, by omega⟩, _, rfl, .inl ⟨_, rfl, _, _, rfl, rfl, (show (0 : Int) < 2147483629 by decide), _, _, rfl, rfl, _, _, rfl, rfl, .inl ⟨_, rfl, _, _, rfl, rfl, (show (0 : Int) < 2147483647 by decide), ?_⟩⟩⟩
      exact ⟨rfl, _, _, rfl, Int.emod_nonneg _ (by decide), Int.emod_lt_of_pos _ (by decide)⟩
    · rintro σ H2 ⟨rfl, z, b2, rfl, z0, z1⟩
      refine ⟨_, rfl, a, rfl, ⟨_, hs⟩, ?_⟩
      intro l hl
      have s1 := same_new hl (.lst [])
      refine lc_list (xs := ns.map V.int) (fun i H' => ∃ ns' : List Int, ns'.length ≤ i ∧ H' l = some (.lst (ns'.map V.int)) ∧ ∀ p o, p ≠ l → H2 p = some o → H' p = some o) ⟨[], Nat.le_refl _, upd_same, fun p o hp e => by rw [upd_ne hp]; exact e⟩ ?_ ?_ ?_
      · rintro i H' _ ⟨_, _, _, st⟩
        rcases hs with (h | ⟨ob, h⟩) | h
        · exact .inl (.inl (st _ _ (fun z => by rw [z, hl] at h; cases h) h))
        · exact .inl (.inr ⟨ob, st _ _ (fun z => by rw [z, hl] at h; cases h) h⟩)
        · exact .inr h
      · rintro i x H3 hx ⟨ns', hn', hl3, st⟩
        rw [List.getElem?_map] at hx
        obtain ⟨n, _, rfl⟩ := Option.map_eq_some_iff.mp hx
        have hil : i < ns.length := by
          by_cases h : i < ns.length
          · exact h
          · rw [List.getElem?_eq_none_iff.mpr (by omega)] at hx; cases hx
        refine ⟨rfl, ?_⟩
        refine ⟨_, rfl, _, _, rfl, rfl, ⟨by decide, by decide, by decide⟩, _, _, rfl, rfl, _, rfl, ?_⟩
        refine ite2 (fun _ => ?_) (fun _ => ⟨ns', by omega, hl3, st⟩)
        refine ⟨_, rfl, .inl ⟨_, rfl, _, _, rfl, rfl, ⟨by decide, by decide, by decide⟩, _, _, rfl, rfl, ?_⟩⟩
        refine ⟨_, hl3, Nat.lt_of_le_of_lt (show _ ≤ 1000 by rw [List.length_map]; omega) (by decide), ns' ++ [n - 10 ^ Int.toNat 18], by rw [List.length_append]; simp; omega, ?_, fun p o hp e => by rw [upd_ne hp]; exact st p o hp e⟩
        rw [List.map_append]
        exact upd_same
      · rintro H3 ⟨ns', hn', hl3, st⟩
        refine ⟨_, rfl, (by show 3 ≤ sizeLine; decide), fun w hw => ?_⟩
        have s3 : Same H2 H3 := fun p o e => st p o (fun z => by rw [z, hl] at e; cases e) e
        have s4 := s3.trans (same_new hw (.lst [.ref l, .int z, .int 0]))
        have hwl : w ≠ l := fun e => by rw [e, hl3] at hw; cases hw
        have hw2 : H2 w = none := by
          cases e : H2 w with
          | none => rfl
          | some o => rw [s3 _ _ e] at hw; cases hw
        exact q _ w l s4 hw2 hl ⟨ns', z, 0, upd_same, by rw [upd_ne (Ne.symm hwl)]; exact hl3, hwl, z0, by omega, by omega, by omega⟩
end
end K09


set_option Elab.async false
set_option linter.all false
set_option maxRecDepth 100000
set_option maxHeartbeats 8000000
namespace K09
open PySem PySem.Spec PyProof.Rows L2
/-! ### texts of word signs -/
def Sg (n : Nat) (s : Str) : Prop := s.length ≤ n ∧ ∀ c ∈ s.cps.toList, c ∈ wordS.cps.toList
theorem Sg.le {n m : Nat} {s : Str} (h : Sg n s) (hm : n ≤ m) : Sg m s := ⟨Nat.le_trans h.1 hm, h.2⟩
theorem Sg.app {n m : Nat} {s t : Str} (h : Sg n s) (g : Sg m t) : Sg (n + m) (s ++ t) := by
  constructor
  · show (s.cps ++ t.cps).size ≤ _
    rw [Array.size_append]
    exact Nat.add_le_add h.1 g.1
  · intro c hc
    have : c ∈ (s.cps ++ t.cps).toList := hc
    rw [Array.toList_append] at this
    rcases List.mem_append.mp this with z | z
    · exact h.2 c z
    · exact g.2 c z
theorem Sg.cut {n : Nat} {s : Str} (h : Sg n s) (lo hi : Option Int) : Sg n (cutS s lo hi) := by
  refine ⟨Nat.le_trans (cutS_length s lo hi) h.1, fun c hc => ?_⟩
  have : c ∈ (s.cps.toList.drop (HT.sIx s.length 0 lo)).take (HT.sIx s.length s.length hi - HT.sIx s.length 0 lo) := by
    unfold cutS at hc
    simpa using hc
  exact h.2 c (List.mem_of_mem_drop (List.mem_of_mem_take this))
theorem Sg.ten {n : Nat} {s : Str} (h : Sg n s) : Sg 10 (cutS s none (some 10)) := by
  refine ⟨?_, (h.cut none (some 10)).2⟩
  unfold cutS
  show (List.toArray _).size ≤ 10
  rw [List.size_toArray, List.length_take]
  refine Nat.le_trans (Nat.min_le_left _ _) ?_
  show (if (10 : Int) < 0 then ((10 : Int) + (s.length : Int)).toNat else min (10 : Int).toNat s.length) - 0 ≤ 10
  rw [if_neg (by decide)]
  exact Nat.le_trans (Nat.sub_le _ _) (Nat.min_le_left _ _)
theorem Sg.nil : Sg 0 "" := ⟨Nat.le_refl _, fun c hc => by cases hc⟩
theorem Sg.one {c : Nat} (h : c ∈ wordS.cps.toList) : Sg 1 ⟨#[c]⟩ := ⟨Nat.le_refl _, fun d hd => by
  have : d ∈ [c] := hd
  cases List.mem_singleton.mp this
  exact h⟩
theorem sg_nameB {s : Str} (h : nameB s = true) : Sg 10 s := by
  unfold nameB at h
  simp only [Bool.and_eq_true, decide_eq_true_eq, List.all_eq_true] at h
  exact ⟨h.1.1.1.2, h.2⟩
theorem small_in : ∀ c ∈ smallL.cps.toList, c ∈ wordS.cps.toList := by decide +kernel
theorem kept_sg : ∀ x ∈ keptW, x.length ≤ 10 ∧ ∀ c ∈ x.cps.toList, c ∈ wordS.cps.toList := by decide +kernel
def nth9 (k : Nat) : Str := "n" ++ (toString ((k : Int)) : Str)
theorem nth_ok : ∀ k < 400, nameB (nth9 k) = true := by decide +kernel
theorem nth_inj : ((List.range 21).map nth9).Nodup := by decide +kernel
theorem len_sub {α : Type} [DecidableEq α] : ∀ {l m : List α}, l.Nodup → (∀ x ∈ l, x ∈ m) → l.length ≤ m.length
  | [], _, _, _ => Nat.zero_le _
  | x :: l, m, hn, hs => by
    have h1 := List.nodup_cons.mp hn
    have hx := hs x (by simp)
    have ih := len_sub (l := l) (m := m.erase x) h1.2 (fun y hy => (List.mem_erase_of_ne (fun e => h1.1 (by rw [← e]; exact hy))).mpr (hs y (by simp [hy])))
    rw [List.length_erase_of_mem hx] at ih
    have : 0 < m.length := List.length_pos_of_mem hx
    simp only [List.length_cons]
    omega
theorem some_free {T : List Str} (h : T.length ≤ 20) : ∃ k < 21, nth9 k ∉ T := by
  by_cases z : ∃ k < 21, nth9 k ∉ T
  · exact z
  · exfalso
    have := len_sub nth_inj (m := T) (fun x hx => by
      obtain ⟨k, hk, rfl⟩ := List.mem_map.mp hx
      by_cases e : nth9 k ∈ T
      · exact e
      · exact absurd ⟨k, List.mem_range.mp hk, e⟩ z)
    rw [List.length_map, List.length_range] at this
    omega
end K09


set_option Elab.async false
set_option linter.all false
set_option maxRecDepth 100000
set_option maxHeartbeats 8000000
namespace K09
open PySem PySem.Spec PyProof.Rows L2
def tNth : TE := tOp (fun x y H Q => ∃ i j, x = V.str i ∧ y = V.str j ∧ i.length + j.length ≤ sizeLine ∧ Q (.str (i ++ j)) H) (tC (.str "n")) (tCB (fun xs H Q => ∃ i : Int, xs = [V.int i] ∧ i.natAbs.log2 < 1920 ∧ Q (.str (toString i)) H) (tCons (tVar 7) tNil))
def ttN (K : PySem.W.Frag) : TT := tTest (tOp (rIn K true) tNth (tVar 1))
def signS9 : Str := "abcdefghijklmnopqrstuvwxyz" ++ "0123456789"
theorem sml_all : ∀ j < 26, smallL.cps.toList[j]? = some (smallL.cps.toList.getD j 0) ∧ smallL.cps.toList.getD j 0 ∈ wordS.cps.toList := by decide +kernel
theorem sgn_all : ∀ j < 36, signS9.cps.toList[j]? = some (signS9.cps.toList.getD j 0) ∧ signS9.cps.toList.getD j 0 ∈ wordS.cps.toList := by decide +kernel
theorem sml_at {r : Int} (h0 : 0 ≤ r) (h1 : r < 26) : ∃ c, atI smallL.cps.toList r = some c ∧ c ∈ wordS.cps.toList := by
  obtain ⟨a, b⟩ := sml_all r.toNat (by omega)
  have := atI_nat a
  rw [show ((r.toNat : Nat) : Int) = r by omega] at this
  exact ⟨_, this, b⟩
theorem sgn_at {r : Int} (h0 : 0 ≤ r) (h1 : r < 36) : ∃ c, atI signS9.cps.toList r = some c ∧ c ∈ wordS.cps.toList := by
  obtain ⟨a, b⟩ := sgn_all r.toNat (by omega)
  have := atI_nat a
  rw [show ((r.toNat : Nat) : Int) = r by omega] at this
  exact ⟨_, this, b⟩
theorem Wl.upd {H : Hp} {w l p : Addr} {m : Nat} {o : HO} (h : Wl H w l m) (n : p ∉ [w, l]) : Wl (upd H p o) w l m := by
  obtain ⟨ns, a, k, h1, h2, h3⟩ := h
  exact ⟨ns, a, k, by rw [upd_ne (fun z => n (by simp [z]))]; exact h1, by rw [upd_ne (fun z => n (by simp [z]))]; exact h2, h3⟩
theorem Kp.none {as : List Addr} {H H' : Hp} {p : Addr} (k : Kp as H H') (n : p ∉ as) (h : H' p = none) : H p = none := by
  cases e : H p with
  | none => rfl
  | some o => rw [k _ _ n e] at h; cases h
theorem kp_new {as : List Addr} {H H' : Hp} {p : Addr} {o : HO} (k : Kp as H H') (h : H p = Option.none) : Kp as H (L2.upd H' p o) := fun q o' n e => by
  rw [upd_ne (fun z => by rw [z, h] at e; cases e)]
  exact k _ _ n e
theorem sum_one : ∀ ys : List Str, (∀ y ∈ ys, Sg 1 y) → (ys.map (·.length)).sum + ys.length * (Str.length "") ≤ ys.length
  | [], _ => Nat.le_refl _
  | x :: r, h => by
    have ih := sum_one r fun y hy => h y (by simp [hy])
    have := (h x (by simp)).1
    have e : Str.length "" = 0 := rfl
    rw [e] at ih ⊢
    simp only [List.map_cons, List.sum_cons, List.length_cons]
    omega
theorem old_at {L : List Str} {r : Int} (h : ∀ x ∈ L, x.length ≤ 10 ∧ ∀ c ∈ x.cps.toList, c ∈ wordS.cps.toList) (h0 : 0 ≤ r) (h1 : r < L.length) : ∃ old, Sg 10 old ∧ atI (L.map V.str) r = some (.str old) := by
  have hlt : r.toNat < L.length := by omega
  refine ⟨L[r.toNat], h _ (List.getElem_mem hlt), ?_⟩
  have := atI_nat (xs := L.map V.str) (j := r.toNat) (v := .str L[r.toNat]) (by rw [List.getElem?_map, List.getElem?_eq_getElem hlt]; rfl)
  rwa [show ((r.toNat : Nat) : Int) = r by omega] at this
theorem nth_len : ∀ k < 400, (Str.ofString "n").length + (toString ((k : Nat) : Int) : Str).length ≤ 10 := by decide +kernel
theorem name_by {fd : Str} {c : Nat} {cr : List Nat} (h : Sg 10 fd) (hc : fd.cps.toList = c :: cr) (h2 : c ∈ smallL.cps.toList) (h3 : fd ∉ keptW) : nameB fd = true := by
  have hl : 1 ≤ fd.length := by
    show 1 ≤ fd.cps.size
    rw [← Array.length_toList, hc]
    simp
  have hk : (keptW.any fun z => decide (fd = z)) = false := by
    rw [List.any_eq_false]
    intro z hz
    rw [decide_eq_true_eq]
    rintro rfl
    exact h3 hz
  have ha : (fd.cps.toList.all fun c => decide (c ∈ wordS.cps.toList)) = true := by
    rw [List.all_eq_true]
    intro x hx
    exact decide_eq_true (h.2 x hx)
  unfold nameB
  rw [ha, hk, hc, decide_eq_true hl, decide_eq_true h.1]
  show (true && true && decide (c ∈ smallL.cps.toList) && !false && true) = true
  rw [decide_eq_true h2]
  rfl
theorem sg_join : ∀ ys : List Str, (∀ y ∈ ys, Sg 1 y) → Sg ys.length (Str.join "" ys)
  | [], _ => Sg.nil
  | [x], h => h x (by simp)
  | x :: z :: r, h => by
    have ih := sg_join (z :: r) fun y hy => h y (by simp [hy])
    exact (((h x (by simp)).app Sg.nil).app ih).le (by simp; omega)
section
variable {P : Program} {w : World} {K : PySem.W.Frag} {mg : Str → Option Value} {base : Heap}
def spName9 : Sp := fun vs H Q _ => ∃ (w l t : Addr) (m : Nat) (T : List Str), vs = [.ref w, .ref t] ∧ Wl H w l (m + 30) ∧ H t = some (.lst (T.map V.str)) ∧ t ∉ [w, l] ∧ T.length ≤ 20 ∧ (∀ x ∈ T, nameB x = true) ∧ ∀ (r : Str) H', nameB r = true → r ∉ T → Wl H' w l m → Kp [w, l] H H' → Tk H H' → Q (.str r) H'
theorem sc__law_name : FnScope ["well", "taken", "small", "signs", "way", "words", "found", "k", "old", "at"] ["well", "taken"] (C8.fnScope (topS 43)) := C8.fnScope_by (by decide +kernel)
theorem ok__law_name {f : Addr} {fd : FuncData} (F : C8.Def K mg "_law_name" (topS 43) f fd) (b : Binds K fd ["well", "taken"] []) (B : Bl K mg) (c_draw : C8.Cal P w K mg base 1 "_law_draw" spDraw []) : C8.Cal P w K mg base 2 "_law_name" spName9 [] := by
  refine C8.cal0 F b .nil sc__law_name ?len ?body
  case len => rintro vs H Q E ⟨w, l, t, m, T, rfl, _⟩; rfl
  case body =>
    rintro cdv A outer s H vs Q E hr ⟨w, l, t, m, T, rfl, hW, ht, htn, hT, hTn, q⟩
    refine ⟨_, (pss_cons (ps_set (i := 2) sc__law_name.nd rfl (Or.inl rfl) pe_str)
    (pss_cons (ps_asg (pe_tup (pa_cons (pe_op op_add_str (pv 2) pe_str) (pa_cons (C8.pe_c c_draw hr (by decide) rfl (pa_cons (pv 0) (pa_cons pe_int pa_nil))) pa_nil))) (pg_tup rfl (pgs_cons (pg_name (i := 3) sc__law_name.nd rfl (Or.inr rfl)) (pgs_cons (pg_name (i := 4) sc__law_name.nd rfl (Or.inl rfl)) pgs_nil))))
    (pss_cons (ps_set (i := 5) sc__law_name.nd rfl (Or.inl rfl) (pe_lst (pa_cons pe_str (pa_cons pe_str (pa_cons pe_str (pa_cons pe_str (pa_cons pe_str (pa_cons pe_str (pa_cons pe_str (pa_cons pe_str (pa_cons pe_str (pa_cons pe_str (pa_cons pe_str pa_nil)))))))))))))
    (pss_cons (ps_set (i := 6) sc__law_name.nd rfl (Or.inl rfl) (pe_ix ix_str (pv 2) (C8.pe_c c_draw hr (by decide) rfl (pa_cons (pv 0) (pa_cons pe_int pa_nil))) (fun _ _ => rfl)))
    (C8.pss_cut (ps_if (pt_cmpR op_eq (pv 4) pe_int (nomark _)) (pss_one (ps_set (i := 6) sc__law_name.nd rfl (Or.inl rfl) (pe_op op_add_str (pv 6) (pe_join pe_str (pe_lc (own := [("k", 7)]) (g := gName 7) (by rfl) sc__law_name.nd (pi_range1 rfl B.range (pa_cons (C8.pe_c c_draw hr (by decide) rfl (pa_cons (pv 0) (pa_cons pe_int pa_nil))) pa_nil)) (blkOk_by (own := [("k", 7)]) (N := ["well", "taken", "small", "signs", "way", "words", "found", "k", "old", "at"]) (sc := (C8.fnScope (topS 43))) (by decide +kernel)) (fun _ _ _ _ _ => pg_name (i := 7) sc__law_name.nd rfl (Or.inl rfl)) (fun _ _ _ _ _ => pts_nil) (fun _ _ _ _ _ => (pe_ix ix_str (pv 3) (C8.pe_c c_draw hr (by decide) rfl (pa_cons (pv 0) (pa_cons pe_int pa_nil))) (fun _ _ => rfl)))))))) pss_nil)
    (C8.pss_cut (ps_if (pt_cmpR op_gt (pv 4) pe_int (nomark _)) (pss_cons (ps_set (i := 8) sc__law_name.nd rfl (Or.inl rfl) (pe_ix ix_list (pe_op op_cat (pe_ifExp (pt_cmpR op_eq (pv 4) pe_int (nomark _)) (pv 1) (pe_lst pa_nil)) (pv 5)) (C8.pe_c c_draw hr (by decide) rfl (pa_cons (pv 0) (pa_cons (pe_op op_add (pe_callB call_len_seq rfl B.len PySem.boot_len (pa_cons (pv 5) pa_nil)) (pe_ifExp (pt_cmpR op_eq (pv 4) pe_int (nomark _)) (pe_callB call_len_seq rfl B.len PySem.boot_len (pa_cons (pv 1) pa_nil)) pe_int)) pa_nil))) (fun _ _ => rfl)))
    (pss_cons (ps_set (i := 9) sc__law_name.nd rfl (Or.inl rfl) (C8.pe_c c_draw hr (by decide) rfl (pa_cons (pv 0) (pa_cons (pe_op op_add (pe_callB call_len_str rfl B.len PySem.boot_len (pa_cons (pv 8) pa_nil)) pe_int) pa_nil))))
    (pss_one (ps_set (i := 6) sc__law_name.nd rfl (Or.inl rfl) (pe_slice sl_str (pe_op op_add_str (pe_op op_add_str (pe_slice sl_str (pv 8) po_none (po_some (pv 9))) (pe_ix ix_list (pe_lst (pa_cons pe_str (pa_cons (pe_ix ix_str (pv 3) (C8.pe_c c_draw hr (by decide) rfl (pa_cons (pv 0) (pa_cons pe_int pa_nil))) (fun _ _ => rfl)) pa_nil))) (C8.pe_c c_draw hr (by decide) rfl (pa_cons (pv 0) (pa_cons pe_int pa_nil))) (fun _ _ => rfl))) (pe_slice sl_str (pv 8) (po_some (pe_op op_add (pv 9) (C8.pe_c c_draw hr (by decide) rfl (pa_cons (pv 0) (pa_cons pe_int pa_nil))))) po_none)) po_none (po_some pe_int)))))) pss_nil)
    (C8.pss_cut (ps_if (PW.pt (pw_or (pt_cmpR op_eq (pv 6) pe_str (nomark _)) (pw_or (pt_cmpR op_notIn_sign (pe_ix ix_str (pv 6) pe_int (fun _ _ => rfl)) (pv 2) (by with_unfolding_all rfl)) (pw_or (pt_cmpR op_in_seq (pv 6) (pv 5) (by with_unfolding_all rfl)) (pw_or1 (pt_cmpR op_in_seq (pv 6) (pv 1) (by with_unfolding_all rfl))))))) (pss_one (ps_set (i := 6) sc__law_name.nd rfl (Or.inl rfl) (pe_ix ix_list (pe_lc (own := [("k", 7)]) (g := gName 7) (tt := ttN K) (te := tNth) (by rfl) sc__law_name.nd (pi_range1 rfl B.range (pa_cons pe_int pa_nil)) (blkOk_by (own := [("k", 7)]) (N := ["well", "taken", "small", "signs", "way", "words", "found", "k", "old", "at"]) (sc := (C8.fnScope (topS 43))) (by decide +kernel)) (fun _ _ _ _ _ => pg_name (i := 7) sc__law_name.nd rfl (Or.inl rfl)) (fun _ _ _ _ _ => by exact (pts_one (pt_cmpR op_notIn_seq (pe_op op_add_str pe_str (pe_callTy call_str_int rfl B.str (by decide +kernel) (pa_cons (pv 7) pa_nil))) (pv 1) (by with_unfolding_all rfl)))) (fun _ _ _ _ _ => by exact (pe_op op_add_str pe_str (pe_callTy call_str_int rfl B.str (by decide +kernel) (pa_cons (pv 7) pa_nil))))) pe_int (fun _ _ => rfl)))) pss_nil)
    (pss_one (ps_ret (pv 6)))))))))), ?_⟩
    have hwt : t ≠ w ∧ t ≠ l := by
      constructor
      · intro z; exact htn (by simp [z])
      · intro z; exact htn (by simp [z])
    refine ⟨_, rfl, smallL, "0123456789", rfl, rfl, by decide +kernel, _, rfl, w, l, m + 29, 4, rfl, hW, by decide, by decide, fun way H1 y0 y1 hW1 k1 t1 => ?_⟩
    refine ⟨(by show 2 ≤ sizeLine; decide), fun tp htp => ?_⟩
    have s2 := same_new htp (.tup [.str signS9, .int way])
    refine ⟨tp, _, rfl, SqT.of upd_same, rfl, _, _, rfl, _, _, rfl, rfl, ?_⟩
    have hW2 := hW1.same s2
    have k2 : Kp [w, l] H (upd H1 tp (.tup [.str signS9, .int way])) := k1.trans (Kp.of_same s2)
    have t2 : Tk H (upd H1 tp (.tup [.str signS9, .int way])) := t1.trans (Tk.same s2)
    show (fun H5 => _) (upd H1 tp (.tup [.str signS9, .int way]))
    generalize upd H1 tp (.tup [.str signS9, .int way]) = H2 at hW2 k2 t2
    refine ⟨(by show 11 ≤ sizeLine; decide), fun wd hwd => ?_⟩
    have s3 := same_new hwd (.lst (keptW.map V.str))
    have nwd : wd ∉ [w, l] := hW2.out hwd
    have hW3 := hW2.same s3
    have k3 := k2.trans (Kp.of_same s3)
    have t3 := t2.trans (Tk.same s3)
    have hwd3 : upd H2 wd (.lst (keptW.map V.str)) wd = some (.lst (keptW.map V.str)) := upd_same
    show (fun H5 => _) (upd H2 wd (.lst (keptW.map V.str)))
    generalize upd H2 wd (.lst (keptW.map V.str)) = H3 at hW3 k3 t3 hwd3
    refine ⟨_, rfl, _, rfl, w, l, m + 28, 26, rfl, hW3, by decide, by decide, fun r4 H4 r40 r41 hW4 k4 t4 => ?_⟩
    obtain ⟨c0, hc0, hc0w⟩ := sml_at r40 r41
    refine ⟨smallL, r4, c0, rfl, rfl, by decide +kernel, hc0, ?_⟩
    have keep : ∀ {Hx : Hp}, Kp [w, l] H Hx → Hx t = some (.lst (T.map V.str)) := fun k => k _ _ htn ht
    -- a letter, and maybe more signs
    refine ⟨fun σ' H' => ∃ (fd : Str) (b7 b8 b9 : Option V), σ' = [some (.ref w), some (.ref t), some (.str smallL), some (.str signS9), some (.int way), some (.ref wd), some (.str fd), b7, b8, b9] ∧ Sg 10 fd ∧ H' wd = some (.lst (keptW.map V.str)) ∧ Wl H' w l (m + 18) ∧ Kp [w, l] H H' ∧ Tk H H', ?_, ?_⟩
    · have hwd4 := k4 _ _ nwd hwd3
      have k04 := k3.trans k4
      have t04 := t3.trans t4
      refine ⟨_, rfl, rfl, _, rfl, ?_⟩
      rw [dec_int]
      by_cases c1 : way = 1
      · rw [decide_eq_true c1]
        refine iteT ?_
        refine ⟨_, rfl, ⟨_, rfl⟩, _, rfl, w, l, m + 27, 10, rfl, hW4, by decide, by decide, fun n H5 n0 n1 hW5 k5 t5 => ⟨n, rfl, by omega, by omega, fun D hD => ?_⟩⟩
        have nD := hW5.out hD
        have s6 := same_new hD (.lst [])
        have k06 := (k04.trans k5).trans (Kp.of_same s6)
        have t06 := (t04.trans t5).trans (Tk.same s6)
        have hwd5 := k5 _ _ nwd hwd4
        have hDn : H D = none := (k04.trans k5).none nD hD
        have nDw : wd ≠ D := fun z => by rw [← z, hwd5] at hD; cases hD
        refine lc_range (fun j H' => ∃ ys : List Str, ys.length = j ∧ (∀ y ∈ ys, Sg 1 y) ∧ H' D = some (.lst (ys.map V.str)) ∧ H' wd = some (.lst (keptW.map V.str)) ∧ Wl H' w l (m + 18 + (n.toNat - j)) ∧ Kp [w, l] H H' ∧ Tk H H') ⟨[], rfl, fun y hy => (List.not_mem_nil hy).elim, upd_same, s6 _ _ hwd5, (hW5.same s6).le (by omega), k06, t06⟩ ?_ ?_
        · rintro j H7 hj ⟨ys, yl, yg, hD7, hwd7, hW7, k7, t7⟩
          refine ⟨rfl, ?_⟩
          obtain ⟨b, hb⟩ : ∃ b, m + 18 + (n.toNat - j) = b + 1 := ⟨m + 18 + (n.toNat - j) - 1, by omega⟩
          rw [hb] at hW7
          refine ⟨_, rfl, _, rfl, w, l, b, 36, rfl, hW7, by decide, by decide, fun r H8 r0 r1 hW8 k8 t8 => ?_⟩
          obtain ⟨c, hc, hcw⟩ := sgn_at r0 r1
          refine ⟨signS9, r, c, rfl, rfl, by decide +kernel, hc, ?_⟩
          have hD8 := k8 _ _ nD hD7
          have hp := Tk.put (o := .lst (ys.map V.str ++ [.str ⟨#[c]⟩])) hD8
          refine ⟨_, hD8, Nat.lt_of_le_of_lt (show _ ≤ 9 by rw [List.length_map]; omega) (by decide), ys ++ [⟨#[c]⟩], by rw [List.length_append, yl]; rfl, fun y hy => ?_, by rw [List.map_append]; exact upd_same, by rw [upd_ne nDw]; exact k8 _ _ nwd hwd7, ?_, ?_, ?_⟩
          · rcases List.mem_append.mp hy with h | h
            · exact yg y h
            · cases List.mem_singleton.mp h
              exact Sg.one hcw
          · exact (hW8.le (by omega)).upd nD
          · exact kp_new (k7.trans k8) hDn
          · exact (t7.trans t8).trans hp
        · rintro H7 ⟨ys, yl, yg, hD7, hwd7, hW7, k7, t7⟩
          have hj := sg_join ys yg
          refine ⟨_, D, ys, rfl, rfl, .inl (SqL.of hD7), ?_, ?_⟩
          · exact Nat.le_trans (sum_one ys yg) (by omega)
          rw [TL.join_eq]
          refine ⟨_, _, rfl, rfl, Nat.le_trans (show _ ≤ 20 from ?_) (by decide), ?_⟩
          · have := hj.1
            show 1 + _ ≤ 20
            omega
          · exact ⟨_, _, _, _, rfl, ((Sg.one hc0w).app hj).le (by omega), hwd7, hW7.le (by omega), k7, t7⟩
      · rw [decide_eq_false c1]
        exact iteF ⟨_, none, none, none, rfl, (Sg.one hc0w).le (by decide), hwd4, hW4.le (by omega), k04, t04⟩
    rintro _ H5 ⟨fd, b7, b8, b9, rfl, sg5, hwd5, hW5, k5, t5⟩
    -- a word near an old one
    refine ⟨fun σ' H' => ∃ (fd : Str) (b7 b8 b9 : Option V), σ' = [some (.ref w), some (.ref t), some (.str smallL), some (.str signS9), some (.int way), some (.ref wd), some (.str fd), b7, b8, b9] ∧ Sg 10 fd ∧ H' wd = some (.lst (keptW.map V.str)) ∧ Wl H' w l (m + 13) ∧ Kp [w, l] H H' ∧ Tk H H', ?_, ?_⟩
    · refine ⟨_, rfl, _, _, rfl, rfl, _, rfl, ?_⟩
      by_cases c1 : (1 : Int) < way
      · rw [decide_eq_true c1]
        refine iteT ?_
        refine ⟨_, rfl, rfl, _, rfl, ?_⟩
        rw [dec_int]
        have hT5 := k5 _ _ htn ht
        by_cases c2 : way = 2
        · rw [decide_eq_true c2]
          refine iteT ⟨_, rfl, _, rfl, t, wd, _, _, rfl, rfl, hT5, hwd5, Nat.le_trans (show _ ≤ 31 by rw [List.length_map, List.length_map, show keptW.length = 11 from rfl]; omega) (by decide), fun p hp => ?_⟩
          have s6 := same_new hp (.lst (T.map V.str ++ keptW.map V.str))
          have np := hW5.out hp
          refine ⟨_, rfl, _, rfl, wd, _, rfl, .inl (SqL.of (s6 _ _ hwd5)), _, rfl, rfl, _, rfl, ?_⟩
          rw [dec_int, decide_eq_true c2]
          refine iteT ⟨_, rfl, t, _, rfl, .inl (SqL.of (s6 _ _ hT5)), _, _, rfl, rfl, w, l, m + 17, _, rfl, hW5.same s6, ?_, ?_, fun r H7 r0 r1 hW7 k7' t7' => ?_⟩
          · rw [List.length_map, List.length_map, show keptW.length = 11 from rfl]; omega
          · rw [List.length_map, List.length_map, show keptW.length = 11 from rfl]; omega
          rw [List.length_map, List.length_map] at r1
          have hp7 := k7' _ _ np (upd_same (H := H5) (a := p) (o := .lst (T.map V.str ++ keptW.map V.str)))
          rw [← List.map_append] at hp7
          obtain ⟨old, sgo, hat⟩ := old_at (L := T ++ keptW) (fun x hx => by
            rcases List.mem_append.mp hx with h | h
            · exact sg_nameB (hTn x h)
            · exact kept_sg x h) r0 (by rw [List.length_append]; omega)
          refine ⟨p, _, r, .str old, rfl, rfl, SqL.of hp7, hat, ?_⟩
          have k7 := (Kp.of_same (as := [w, l]) s6).trans k7'
          have t7 := (Tk.same s6).trans t7'
          refine ⟨_, rfl, _, rfl, old, rfl, Nat.le_trans sgo.1 (by decide), _, _, rfl, rfl, w, l, m + 16, (old.length : Int) + 1, rfl, hW7, by omega, by have := sgo.1; omega, fun at_ H8 a0 a1 hW8 k8 t8 => ?_⟩
          refine ⟨_, rfl, _, rfl, _, rfl, old, rfl, Nat.le_trans sgo.1 (by decide), ?_⟩
          refine ⟨_, rfl, _, rfl, w, l, m + 15, 36, rfl, hW8, by decide, by decide, fun r9 H9 r90 r91 hW9 k9 t9 => ?_⟩
          obtain ⟨c, hc, hcw⟩ := sgn_at r90 r91
          refine ⟨signS9, r9, c, rfl, rfl, by decide +kernel, hc, (by show 2 ≤ sizeLine; decide), fun q hq => ?_⟩
          have sq := same_new hq (.lst [.str "", .str ⟨#[c]⟩])
          have hWq := hW9.same sq
          have nq := hW9.out hq
          have hq1 : upd H9 q (.lst [.str "", .str ⟨#[c]⟩]) q = some (.lst [.str "", .str ⟨#[c]⟩]) := upd_same
          have kq := (k7.trans (k8.trans k9)).trans (Kp.of_same sq)
          have tq := (t7.trans (t8.trans t9)).trans (Tk.same sq)
          show (fun H5 => _) (upd H9 q (.lst [.str "", .str ⟨#[c]⟩]))
          generalize upd H9 q (.lst [.str "", .str ⟨#[c]⟩]) = Hq at hWq hq1 kq tq
          refine ⟨_, rfl, w, l, m + 14, 2, rfl, hWq, by decide, by decide, fun r3 Hr r30 r31 hWr kr tr => ?_⟩
          obtain ⟨e, se, hat3⟩ : ∃ e : Str, Sg 1 e ∧ atI [V.str "", V.str ⟨#[c]⟩] r3 = some (.str e) := by
            rcases (show r3 = 0 ∨ r3 = 1 by omega) with rfl | rfl
            · exact ⟨"", Sg.nil.le (by decide), rfl⟩
            · exact ⟨⟨#[c]⟩, Sg.one hcw, rfl⟩
          refine ⟨q, _, r3, .str e, rfl, rfl, SqL.of (kr _ _ nq hq1), hat3, ?_⟩
          have s1 := (sgo.cut none (some at_)).app se
          refine ⟨_, _, rfl, rfl, Nat.le_trans (show _ ≤ 11 from Nat.add_le_add (sgo.cut none (some at_)).1 se.1) (by decide), ?_⟩
          refine ⟨_, rfl, _, rfl, _, rfl, w, l, m + 13, 2, rfl, hWr, by decide, by decide, fun r4 Hs r40 r41 hWs ks ts => ?_⟩
          refine ⟨_, _, rfl, rfl, _, rfl, old, rfl, Nat.le_trans sgo.1 (by decide), ?_⟩
          have s2 := s1.app (sgo.cut (some (at_ + r4)) none)
          refine ⟨_, _, rfl, rfl, Nat.le_trans (show _ ≤ 21 from Nat.add_le_add s1.1 (sgo.cut (some (at_ + r4)) none).1) (by decide), ?_⟩
          refine ⟨_, rfl, _, rfl, Nat.le_trans s2.1 (by decide), ?_⟩
          exact ⟨_, _, _, _, rfl, s2.ten, (kq.trans (kr.trans ks)) _ _ nwd hwd5, hWs, k5.trans (kq.trans (kr.trans ks)), t5.trans (tq.trans (tr.trans ts))⟩
        · rw [decide_eq_false c2]
          refine iteF ⟨(by show 0 ≤ sizeLine; decide), fun p0 hp0 => ?_⟩
          have s60 := same_new hp0 (.lst [])
          refine ⟨_, rfl, p0, wd, _, _, rfl, rfl, upd_same, s60 _ _ hwd5, (by show 11 ≤ sizeLine; decide), fun p hp => ?_⟩
          have s6 := s60.trans (same_new hp (.lst ([] ++ keptW.map V.str)))
          have np := (hW5.same s60).out hp
          refine ⟨_, rfl, _, rfl, wd, _, rfl, .inl (SqL.of (s6 _ _ hwd5)), _, rfl, rfl, _, rfl, ?_⟩
          rw [dec_int, decide_eq_false c2]
          refine iteF ⟨_, _, rfl, rfl, w, l, m + 17, _, rfl, hW5.same s6, ?_, ?_, fun r H7 r0 r1 hW7 k7' t7' => ?_⟩
          · rw [List.length_map, show keptW.length = 11 from rfl]; decide
          · rw [List.length_map, show keptW.length = 11 from rfl]; decide
          rw [List.length_map] at r1
          have hp7 := k7' _ _ np (upd_same (a := p) (o := .lst ([] ++ keptW.map V.str)))
          rw [List.nil_append] at hp7
          obtain ⟨old, sgo, hat⟩ := old_at (L := keptW) kept_sg r0 (by omega)
          refine ⟨p, _, r, .str old, rfl, rfl, SqL.of hp7, hat, ?_⟩
          have k7 := (Kp.of_same (as := [w, l]) s6).trans k7'
          have t7 := (Tk.same s6).trans t7'
          refine ⟨_, rfl, _, rfl, old, rfl, Nat.le_trans sgo.1 (by decide), _, _, rfl, rfl, w, l, m + 16, (old.length : Int) + 1, rfl, hW7, by omega, by have := sgo.1; omega, fun at_ H8 a0 a1 hW8 k8 t8 => ?_⟩
          refine ⟨_, rfl, _, rfl, _, rfl, old, rfl, Nat.le_trans sgo.1 (by decide), ?_⟩
          refine ⟨_, rfl, _, rfl, w, l, m + 15, 36, rfl, hW8, by decide, by decide, fun r9 H9 r90 r91 hW9 k9 t9 => ?_⟩
          obtain ⟨c, hc, hcw⟩ := sgn_at r90 r91
          refine ⟨signS9, r9, c, rfl, rfl, by decide +kernel, hc, (by show 2 ≤ sizeLine; decide), fun q hq => ?_⟩
          have sq := same_new hq (.lst [.str "", .str ⟨#[c]⟩])
          have hWq := hW9.same sq
          have nq := hW9.out hq
          have hq1 : upd H9 q (.lst [.str "", .str ⟨#[c]⟩]) q = some (.lst [.str "", .str ⟨#[c]⟩]) := upd_same
          have kq := (k7.trans (k8.trans k9)).trans (Kp.of_same sq)
          have tq := (t7.trans (t8.trans t9)).trans (Tk.same sq)
          show (fun H5 => _) (upd H9 q (.lst [.str "", .str ⟨#[c]⟩]))
          generalize upd H9 q (.lst [.str "", .str ⟨#[c]⟩]) = Hq at hWq hq1 kq tq
          refine ⟨_, rfl, w, l, m + 14, 2, rfl, hWq, by decide, by decide, fun r3 Hr r30 r31 hWr kr tr => ?_⟩
          obtain ⟨e, se, hat3⟩ : ∃ e : Str, Sg 1 e ∧ atI [V.str "", V.str ⟨#[c]⟩] r3 = some (.str e) := by
            rcases (show r3 = 0 ∨ r3 = 1 by omega) with rfl | rfl
            · exact ⟨"", Sg.nil.le (by decide), rfl⟩
            · exact ⟨⟨#[c]⟩, Sg.one hcw, rfl⟩
          refine ⟨q, _, r3, .str e, rfl, rfl, SqL.of (kr _ _ nq hq1), hat3, ?_⟩
          have s1 := (sgo.cut none (some at_)).app se
          refine ⟨_, _, rfl, rfl, Nat.le_trans (show _ ≤ 11 from Nat.add_le_add (sgo.cut none (some at_)).1 se.1) (by decide), ?_⟩
          refine ⟨_, rfl, _, rfl, _, rfl, w, l, m + 13, 2, rfl, hWr, by decide, by decide, fun r4 Hs r40 r41 hWs ks ts => ?_⟩
          refine ⟨_, _, rfl, rfl, _, rfl, old, rfl, Nat.le_trans sgo.1 (by decide), ?_⟩
          have s2 := s1.app (sgo.cut (some (at_ + r4)) none)
          refine ⟨_, _, rfl, rfl, Nat.le_trans (show _ ≤ 21 from Nat.add_le_add s1.1 (sgo.cut (some (at_ + r4)) none).1) (by decide), ?_⟩
          refine ⟨_, rfl, _, rfl, Nat.le_trans s2.1 (by decide), ?_⟩
          exact ⟨_, _, _, _, rfl, s2.ten, (kq.trans (kr.trans ks)) _ _ nwd hwd5, hWs, k5.trans (kq.trans (kr.trans ks)), t5.trans (tq.trans (tr.trans ts))⟩
      · rw [decide_eq_false c1]
        exact iteF ⟨_, b7, b8, b9, rfl, sg5, hwd5, hW5.le (by omega), k5, t5⟩
    rintro _ H6 ⟨fd, b7, b8, b9, rfl, sg6, hwd6, hW6, k6, t6⟩
    have hT6 := k6 _ _ htn ht
    refine ⟨fun σ' H' => ∃ (fd : Str) (b7 b8 b9 : Option V), σ' = [some (.ref w), some (.ref t), some (.str smallL), some (.str signS9), some (.int way), some (.ref wd), some (.str fd), b7, b8, b9] ∧ nameB fd = true ∧ fd ∉ T ∧ Wl H' w l (m + 13) ∧ Kp [w, l] H H' ∧ Tk H H', ?_, ?_⟩
    · refine ⟨_, rfl, rfl, _, rfl, ?_⟩
      rw [dec_str]
      by_cases g1 : fd = ""
      · rw [decide_eq_true g1]
        refine iteT (iteT ?_)
        refine ⟨400, rfl, by decide, by decide, fun D hD => ?_⟩
        have hDn : H D = none := k6.none (hW6.out hD) hD
        have nDt : t ≠ D := fun z => by rw [← z, hT6] at hD; cases hD
        refine lc_range (fun j H' => ∃ ys : List Str, H' D = some (.lst (ys.map V.str)) ∧ (∀ y ∈ ys, nameB y = true ∧ y ∉ T) ∧ ((∃ k < j, nth9 k ∉ T) → ys ≠ []) ∧ ys.length ≤ j ∧ H' t = some (.lst (T.map V.str)) ∧ Wl H' w l (m + 13) ∧ Kp [w, l] H H' ∧ Tk H H') ⟨[], upd_same, fun y hy => (List.not_mem_nil hy).elim, fun ⟨k, hk, _⟩ => absurd hk (Nat.not_lt_zero _), Nat.le_refl _, by rw [upd_ne nDt]; exact hT6, hW6.upd (hW6.out hD), kp_new k6 hDn, t6.trans (Tk.same (same_new hD _))⟩ ?_ ?_
        · rintro j H7 hj ⟨ys, hD7, hys, hne, hyl, hT7, hW7, k7, t7⟩
          have hj : j < 400 := hj
          have e0 : (0 : Int) + (j : Int) = (j : Int) := Int.zero_add _
          rw [e0]
          refine ⟨rfl, ?_⟩
          have lg : ((j : Nat) : Int).natAbs.log2 < 1920 := by
            show Nat.log2 j < 1920
            exact Nat.lt_of_le_of_lt (Nat.log2_le_self j) (by omega)
          refine ⟨_, rfl, _, rfl, lg, _, _, rfl, rfl, Nat.le_trans (nth_len j hj) (by decide), _, rfl, t, _, rfl, .inl (SqL.of hT7), rfl, flat_strs T, _, rfl, ?_⟩
          have en : ((Str.ofString "n") ++ (toString ((j : Nat) : Int) : Str)) = nth9 j := rfl
          rw [inV_strs]
          by_cases cj : nth9 j ∈ T
          · rw [show decide ((Str.ofString "n") ++ (toString ((j : Nat) : Int) : Str) ∈ T) = true from decide_eq_true cj]
            refine iteF ⟨ys, hD7, hys, fun ⟨k, hk, hkT⟩ => ?_, by omega, hT7, hW7, k7, t7⟩
            refine hne ⟨k, ?_, hkT⟩
            rcases Nat.lt_or_ge k j with h | h
            · exact h
            · exact absurd (by rw [show k = j by omega]; exact cj) hkT
          · rw [show decide ((Str.ofString "n") ++ (toString ((j : Nat) : Int) : Str) ∈ T) = false from decide_eq_false cj]
            refine iteT ⟨_, rfl, _, rfl, lg, _, _, rfl, rfl, Nat.le_trans (nth_len j hj) (by decide), ?_⟩
            refine ⟨_, hD7, Nat.lt_of_le_of_lt (show _ ≤ 400 by rw [List.length_map]; omega) (by decide), ys ++ [nth9 j], by rw [List.map_append]; exact upd_same, fun y hy => ?_, fun _ => by simp, by rw [List.length_append]; simp; omega, by rw [upd_ne nDt]; exact hT7, hW7.upd (hW6.out hD), kp_new k7 hDn, t7.trans (Tk.put hD7 _)⟩
            rcases List.mem_append.mp hy with h | h
            · exact hys y h
            · cases List.mem_singleton.mp h
              exact ⟨nth_ok j hj, cj⟩
        · rintro H7 ⟨ys, hD7, hys, hne, hyl, hT7, hW7, k7, t7⟩
          obtain ⟨k, hk, hkT⟩ := some_free hT
          cases ys with
          | nil => exact absurd rfl (hne ⟨k, Nat.lt_of_lt_of_le hk (by decide), hkT⟩)
          | cons y0 r =>
            obtain ⟨n0, nT⟩ := hys y0 (by simp)
            exact ⟨D, _, 0, .str y0, rfl, rfl, SqL.of hD7, at0 _ _, y0, _, _, _, rfl, n0, nT, hW7, k7, t7⟩
      rw [decide_eq_false g1]
      refine iteF ?_
      obtain ⟨c, cr, hcr⟩ : ∃ c cr, fd.cps.toList = c :: cr := by
        cases e : fd.cps.toList with
        | nil =>
          exact absurd (by
            cases fd with
            | mk cps =>
              have : cps = #[] := Array.toList_inj.mp e
              rw [this]
              rfl) g1
        | cons c cr => exact ⟨c, cr, rfl⟩
      refine ⟨_, rfl, fd, 0, c, rfl, rfl, Nat.le_trans sg6.1 (by decide), by rw [hcr]; exact at0 _ _, _, rfl, c, smallL, rfl, rfl, _, rfl, ?_⟩
      by_cases g2 : c ∈ smallL.cps.toList
      · rw [decide_eq_true g2]
        refine iteF ?_
        refine ⟨_, rfl, _, rfl, wd, _, rfl, .inl (SqL.of hwd6), rfl, flat_strs keptW, _, rfl, ?_⟩
        rw [inV_strs]
        by_cases g3 : fd ∈ keptW
        · rw [show decide (fd ∈ keptW) = true from decide_eq_true g3]
          refine iteT (iteT ?_)
          refine ⟨400, rfl, by decide, by decide, fun D hD => ?_⟩
          have hDn : H D = none := k6.none (hW6.out hD) hD
          have nDt : t ≠ D := fun z => by rw [← z, hT6] at hD; cases hD
          refine lc_range (fun j H' => ∃ ys : List Str, H' D = some (.lst (ys.map V.str)) ∧ (∀ y ∈ ys, nameB y = true ∧ y ∉ T) ∧ ((∃ k < j, nth9 k ∉ T) → ys ≠ []) ∧ ys.length ≤ j ∧ H' t = some (.lst (T.map V.str)) ∧ Wl H' w l (m + 13) ∧ Kp [w, l] H H' ∧ Tk H H') ⟨[], upd_same, fun y hy => (List.not_mem_nil hy).elim, fun ⟨k, hk, _⟩ => absurd hk (Nat.not_lt_zero _), Nat.le_refl _, by rw [upd_ne nDt]; exact hT6, hW6.upd (hW6.out hD), kp_new k6 hDn, t6.trans (Tk.same (same_new hD _))⟩ ?_ ?_
          · rintro j H7 hj ⟨ys, hD7, hys, hne, hyl, hT7, hW7, k7, t7⟩
            have hj : j < 400 := hj
            have e0 : (0 : Int) + (j : Int) = (j : Int) := Int.zero_add _
            rw [e0]
            refine ⟨rfl, ?_⟩
            have lg : ((j : Nat) : Int).natAbs.log2 < 1920 := by
              show Nat.log2 j < 1920
              exact Nat.lt_of_le_of_lt (Nat.log2_le_self j) (by omega)
            refine ⟨_, rfl, _, rfl, lg, _, _, rfl, rfl, Nat.le_trans (nth_len j hj) (by decide), _, rfl, t, _, rfl, .inl (SqL.of hT7), rfl, flat_strs T, _, rfl, ?_⟩
            have en : ((Str.ofString "n") ++ (toString ((j : Nat) : Int) : Str)) = nth9 j := rfl
            rw [inV_strs]
            by_cases cj : nth9 j ∈ T
            · rw [show decide ((Str.ofString "n") ++ (toString ((j : Nat) : Int) : Str) ∈ T) = true from decide_eq_true cj]
              refine iteF ⟨ys, hD7, hys, fun ⟨k, hk, hkT⟩ => ?_, by omega, hT7, hW7, k7, t7⟩
              refine hne ⟨k, ?_, hkT⟩
              rcases Nat.lt_or_ge k j with h | h
              · exact h
              · exact absurd (by rw [show k = j by omega]; exact cj) hkT
            · rw [show decide ((Str.ofString "n") ++ (toString ((j : Nat) : Int) : Str) ∈ T) = false from decide_eq_false cj]
              refine iteT ⟨_, rfl, _, rfl, lg, _, _, rfl, rfl, Nat.le_trans (nth_len j hj) (by decide), ?_⟩
              refine ⟨_, hD7, Nat.lt_of_le_of_lt (show _ ≤ 400 by rw [List.length_map]; omega) (by decide), ys ++ [nth9 j], by rw [List.map_append]; exact upd_same, fun y hy => ?_, fun _ => by simp, by rw [List.length_append]; simp; omega, by rw [upd_ne nDt]; exact hT7, hW7.upd (hW6.out hD), kp_new k7 hDn, t7.trans (Tk.put hD7 _)⟩
              rcases List.mem_append.mp hy with h | h
              · exact hys y h
              · cases List.mem_singleton.mp h
                exact ⟨nth_ok j hj, cj⟩
          · rintro H7 ⟨ys, hD7, hys, hne, hyl, hT7, hW7, k7, t7⟩
            obtain ⟨k, hk, hkT⟩ := some_free hT
            cases ys with
            | nil => exact absurd rfl (hne ⟨k, Nat.lt_of_lt_of_le hk (by decide), hkT⟩)
            | cons y0 r =>
              obtain ⟨n0, nT⟩ := hys y0 (by simp)
              exact ⟨D, _, 0, .str y0, rfl, rfl, SqL.of hD7, at0 _ _, y0, _, _, _, rfl, n0, nT, hW7, k7, t7⟩
        · rw [show decide (fd ∈ keptW) = false from decide_eq_false g3]
          refine iteF ?_
          refine ⟨_, rfl, _, rfl, t, _, rfl, .inl (SqL.of hT6), rfl, flat_strs T, _, rfl, ?_⟩
          rw [inV_strs]
          by_cases g4 : fd ∈ T
          · rw [show decide (fd ∈ T) = true from decide_eq_true g4]
            refine iteT ?_
            refine ⟨400, rfl, by decide, by decide, fun D hD => ?_⟩
            have hDn : H D = none := k6.none (hW6.out hD) hD
            have nDt : t ≠ D := fun z => by rw [← z, hT6] at hD; cases hD
            refine lc_range (fun j H' => ∃ ys : List Str, H' D = some (.lst (ys.map V.str)) ∧ (∀ y ∈ ys, nameB y = true ∧ y ∉ T) ∧ ((∃ k < j, nth9 k ∉ T) → ys ≠ []) ∧ ys.length ≤ j ∧ H' t = some (.lst (T.map V.str)) ∧ Wl H' w l (m + 13) ∧ Kp [w, l] H H' ∧ Tk H H') ⟨[], upd_same, fun y hy => (List.not_mem_nil hy).elim, fun ⟨k, hk, _⟩ => absurd hk (Nat.not_lt_zero _), Nat.le_refl _, by rw [upd_ne nDt]; exact hT6, hW6.upd (hW6.out hD), kp_new k6 hDn, t6.trans (Tk.same (same_new hD _))⟩ ?_ ?_
            · rintro j H7 hj ⟨ys, hD7, hys, hne, hyl, hT7, hW7, k7, t7⟩
              have hj : j < 400 := hj
              have e0 : (0 : Int) + (j : Int) = (j : Int) := Int.zero_add _
              rw [e0]
              refine ⟨rfl, ?_⟩
              have lg : ((j : Nat) : Int).natAbs.log2 < 1920 := by
                show Nat.log2 j < 1920
                exact Nat.lt_of_le_of_lt (Nat.log2_le_self j) (by omega)
              refine ⟨_, rfl, _, rfl, lg, _, _, rfl, rfl, Nat.le_trans (nth_len j hj) (by decide), _, rfl, t, _, rfl, .inl (SqL.of hT7), rfl, flat_strs T, _, rfl, ?_⟩
              have en : ((Str.ofString "n") ++ (toString ((j : Nat) : Int) : Str)) = nth9 j := rfl
              rw [inV_strs]
              by_cases cj : nth9 j ∈ T
              · rw [show decide ((Str.ofString "n") ++ (toString ((j : Nat) : Int) : Str) ∈ T) = true from decide_eq_true cj]
                refine iteF ⟨ys, hD7, hys, fun ⟨k, hk, hkT⟩ => ?_, by omega, hT7, hW7, k7, t7⟩
                refine hne ⟨k, ?_, hkT⟩
                rcases Nat.lt_or_ge k j with h | h
                · exact h
                · exact absurd (by rw [show k = j by omega]; exact cj) hkT
              · rw [show decide ((Str.ofString "n") ++ (toString ((j : Nat) : Int) : Str) ∈ T) = false from decide_eq_false cj]
                refine iteT ⟨_, rfl, _, rfl, lg, _, _, rfl, rfl, Nat.le_trans (nth_len j hj) (by decide), ?_⟩
                refine ⟨_, hD7, Nat.lt_of_le_of_lt (show _ ≤ 400 by rw [List.length_map]; omega) (by decide), ys ++ [nth9 j], by rw [List.map_append]; exact upd_same, fun y hy => ?_, fun _ => by simp, by rw [List.length_append]; simp; omega, by rw [upd_ne nDt]; exact hT7, hW7.upd (hW6.out hD), kp_new k7 hDn, t7.trans (Tk.put hD7 _)⟩
                rcases List.mem_append.mp hy with h | h
                · exact hys y h
                · cases List.mem_singleton.mp h
                  exact ⟨nth_ok j hj, cj⟩
            · rintro H7 ⟨ys, hD7, hys, hne, hyl, hT7, hW7, k7, t7⟩
              obtain ⟨k, hk, hkT⟩ := some_free hT
              cases ys with
              | nil => exact absurd rfl (hne ⟨k, Nat.lt_of_lt_of_le hk (by decide), hkT⟩)
              | cons y0 r =>
                obtain ⟨n0, nT⟩ := hys y0 (by simp)
                exact ⟨D, _, 0, .str y0, rfl, rfl, SqL.of hD7, at0 _ _, y0, _, _, _, rfl, n0, nT, hW7, k7, t7⟩
          · rw [show decide (fd ∈ T) = false from decide_eq_false g4]
            exact iteF ⟨fd, b7, b8, b9, rfl, name_by sg6 hcr g2 g3, g4, hW6, k6, t6⟩
      · rw [decide_eq_false g2]
        refine iteT (iteT ?_)
        refine ⟨400, rfl, by decide, by decide, fun D hD => ?_⟩
        have hDn : H D = none := k6.none (hW6.out hD) hD
        have nDt : t ≠ D := fun z => by rw [← z, hT6] at hD; cases hD
        refine lc_range (fun j H' => ∃ ys : List Str, H' D = some (.lst (ys.map V.str)) ∧ (∀ y ∈ ys, nameB y = true ∧ y ∉ T) ∧ ((∃ k < j, nth9 k ∉ T) → ys ≠ []) ∧ ys.length ≤ j ∧ H' t = some (.lst (T.map V.str)) ∧ Wl H' w l (m + 13) ∧ Kp [w, l] H H' ∧ Tk H H') ⟨[], upd_same, fun y hy => (List.not_mem_nil hy).elim, fun ⟨k, hk, _⟩ => absurd hk (Nat.not_lt_zero _), Nat.le_refl _, by rw [upd_ne nDt]; exact hT6, hW6.upd (hW6.out hD), kp_new k6 hDn, t6.trans (Tk.same (same_new hD _))⟩ ?_ ?_
        · rintro j H7 hj ⟨ys, hD7, hys, hne, hyl, hT7, hW7, k7, t7⟩
          have hj : j < 400 := hj
          have e0 : (0 : Int) + (j : Int) = (j : Int) := Int.zero_add _
          rw [e0]
          refine ⟨rfl, ?_⟩
          have lg : ((j : Nat) : Int).natAbs.log2 < 1920 := by
            show Nat.log2 j < 1920
            exact Nat.lt_of_le_of_lt (Nat.log2_le_self j) (by omega)
          refine ⟨_, rfl, _, rfl, lg, _, _, rfl, rfl, Nat.le_trans (nth_len j hj) (by decide), _, rfl, t, _, rfl, .inl (SqL.of hT7), rfl, flat_strs T, _, rfl, ?_⟩
          have en : ((Str.ofString "n") ++ (toString ((j : Nat) : Int) : Str)) = nth9 j := rfl
          rw [inV_strs]
          by_cases cj : nth9 j ∈ T
          · rw [show decide ((Str.ofString "n") ++ (toString ((j : Nat) : Int) : Str) ∈ T) = true from decide_eq_true cj]
            refine iteF ⟨ys, hD7, hys, fun ⟨k, hk, hkT⟩ => ?_, by omega, hT7, hW7, k7, t7⟩
            refine hne ⟨k, ?_, hkT⟩
            rcases Nat.lt_or_ge k j with h | h
            · exact h
            · exact absurd (by rw [show k = j by omega]; exact cj) hkT
          · rw [show decide ((Str.ofString "n") ++ (toString ((j : Nat) : Int) : Str) ∈ T) = false from decide_eq_false cj]
            refine iteT ⟨_, rfl, _, rfl, lg, _, _, rfl, rfl, Nat.le_trans (nth_len j hj) (by decide), ?_⟩
            refine ⟨_, hD7, Nat.lt_of_le_of_lt (show _ ≤ 400 by rw [List.length_map]; omega) (by decide), ys ++ [nth9 j], by rw [List.map_append]; exact upd_same, fun y hy => ?_, fun _ => by simp, by rw [List.length_append]; simp; omega, by rw [upd_ne nDt]; exact hT7, hW7.upd (hW6.out hD), kp_new k7 hDn, t7.trans (Tk.put hD7 _)⟩
            rcases List.mem_append.mp hy with h | h
            · exact hys y h
            · cases List.mem_singleton.mp h
              exact ⟨nth_ok j hj, cj⟩
        · rintro H7 ⟨ys, hD7, hys, hne, hyl, hT7, hW7, k7, t7⟩
          obtain ⟨k, hk, hkT⟩ := some_free hT
          cases ys with
          | nil => exact absurd rfl (hne ⟨k, Nat.lt_of_lt_of_le hk (by decide), hkT⟩)
          | cons y0 r =>
            obtain ⟨n0, nT⟩ := hys y0 (by simp)
            exact ⟨D, _, 0, .str y0, rfl, rfl, SqL.of hD7, at0 _ _, y0, _, _, _, rfl, n0, nT, hW7, k7, t7⟩
    rintro _ H7 ⟨fd, b7, b8, b9, rfl, n7, nT7, hW7, k7, t7⟩
    exact ⟨_, rfl, q _ _ n7 nT7 (hW7.le (by omega)) k7 t7⟩
end
end K09


set_option Elab.async false
set_option linter.all false
set_option maxRecDepth 100000
set_option maxHeartbeats 8000000
namespace K09
open PySem PySem.Spec PyProof.Rows L2
section
variable {P : Program} {w : World} {K : PySem.W.Frag} {mg : Str → Option Value} {base : Heap}
def spNames9 : Sp := fun vs H Q _ => ∃ (w l : Addr) (m many : Nat), vs = [.ref w, .int (many : Int)] ∧ Wl H w l (m + 30 * many) ∧ many ≤ 20 ∧ ∀ H' a L, TupO H' a (L.map V.str) → L.length = many → Nok L → L.Nodup → Wl H' w l m → Kp [w, l] H H' → Tk H H' → Q (.ref a) H'
theorem sc__law_names : FnScope ["well", "many", "found", "k"] ["well", "many"] (C8.fnScope (topS 44)) := C8.fnScope_by (by decide +kernel)
theorem ok__law_names {f : Addr} {fd : FuncData} (F : C8.Def K mg "_law_names" (topS 44) f fd) (b : Binds K fd ["well", "many"] []) (B : Bl K mg) (c_name : C8.Cal P w K mg base 2 "_law_name" spName9 []) : C8.Cal P w K mg base 3 "_law_names" spNames9 [] := by
  refine C8.cal0 F b .nil sc__law_names ?len ?body
  case len => rintro vs H Q E ⟨w, l, m, many, rfl, _⟩; rfl
  case body =>
    rintro cdv A outer s H vs Q E hr ⟨w, l, m, many, rfl, hW, hm, q⟩
    refine ⟨_, (pss_cons (ps_set (i := 2) sc__law_names.nd rfl (Or.inl rfl) (pe_lst pa_nil))
    (pss_cons (ps_for PassesOwn.never rfl (pi_range1 rfl B.range (pa_cons (pv 1) pa_nil)) (pg_name (i := 3) sc__law_names.nd rfl (Or.inl rfl))
    (pss_one (ps_expr (pe_bm PySem.F.plainAttrs_list PySem.F.slot_list_append PySem.F.type_list_append mt_append (pv 2) (pa_cons (C8.pe_c c_name hr (by decide) rfl (pa_cons (pv 0) (pa_cons (pv 2) pa_nil))) pa_nil)))))
    (pss_one (ps_ret (pe_callTy call_tupleZ rfl B.tuple (by decide +kernel) (pa_cons (pv 2) pa_nil)))))), ?_⟩
    refine ⟨(by show 0 ≤ sizeLine; decide), fun F hF => ?_⟩
    have nF := hW.out hF
    have s1 := same_new hF (.lst [])
    refine ⟨_, rfl, (many : Int), rfl, by omega, by omega, ?_⟩
    rw [Int.toNat_natCast]
    refine for_range (lo := 0) (n := many) (fun i σ H' => ∃ (L : List Str) (b3 : Option V), σ = [some (.ref w), some (.int (many : Int)), some (.ref F), b3] ∧ H' F = some (.lst (L.map V.str)) ∧ L.length = i ∧ Nok L ∧ L.Nodup ∧ Wl H' w l (m + 30 * (many - i)) ∧ Kp [w, l] H H' ∧ Tk H H') ⟨[], none, rfl, upd_same, rfl, fun x hx => (List.not_mem_nil hx).elim, List.nodup_nil, (hW.same s1).le (by omega), Kp.of_same s1, Tk.same s1⟩ ?_ ?_
    · rintro i _ H2 hi ⟨L, b3, rfl, hF2, hL, hLn, hLd, hW2, k2, t2⟩
      obtain ⟨b, hb⟩ : ∃ b, m + 30 * (many - i) = b + 30 ∧ m + 30 * (many - (i + 1)) = b := ⟨m + 30 * (many - (i + 1)), by omega, rfl⟩
      rw [hb.1] at hW2
      rw [hb.2]
      refine ⟨_, rfl, .inl ⟨rfl, _, SqL.of hF2⟩, ?_⟩
      refine ⟨_, rfl, _, rfl, w, l, F, b, L, rfl, hW2, hF2, nF, by omega, hLn, fun r H3 hr3 hrL hW3 k3 t3 => ?_⟩
      have hF3 := k3 _ _ nF hF2
      have hFn : H F = none := hF
      refine ⟨F, _, _, rfl, rfl, hF3, Nat.lt_of_le_of_lt (show _ ≤ 20 by rw [List.length_map]; omega) (by decide), ?_⟩
      refine ⟨L ++ [r], _, rfl, by rw [List.map_append]; exact upd_same, by rw [List.length_append, hL]; rfl, fun x hx => ?_, ?_, hW3.upd nF, kp_new (k2.trans k3) hFn, (t2.trans t3).trans (Tk.put hF3 _)⟩
      · rcases List.mem_append.mp hx with h | h
        · exact hLn x h
        · cases List.mem_singleton.mp h; exact hr3
      · rw [List.nodup_append]
        refine ⟨hLd, by simp, fun x hx y hy => ?_⟩
        cases List.mem_singleton.mp hy
        rintro rfl
        exact hrL hx
    · rintro σ H2 ⟨L, b3, rfl, hF2, hL, hLn, hLd, hW2, k2, t2⟩
      refine ⟨_, rfl, F, _, rfl, SqL.of hF2, fun lt ob hlt ho1 ho2 => ?_⟩
      have sl := same_new hlt (.frz ob (.tup (L.map V.str)))
      exact q _ lt L ⟨ob, upd_same, ho1, ho2⟩ hL hLn hLd ((hW2.same sl).le (by omega)) (k2.trans (Kp.of_same sl)) (t2.trans (Tk.same sl))
end
end K09


set_option Elab.async false
set_option linter.all false
set_option maxRecDepth 100000
set_option maxHeartbeats 8000000
namespace K09
open PySem PySem.Spec PyProof.Rows L2
def CS : Nat → Nat
  | 0 => 0
  | n + 1 => 12 + 24 * CS n
def CB (n : Nat) : Nat := 1 + 4 * CS n
theorem cs_succ (n : Nat) : CS (n + 1) = 6 + 6 * CB n := by unfold CB; rw [CS]; omega
/-- what the drawing of a program holds -/
structure Drw9 (K : PySem.W.Frag) (H : Hp) (w l R h la na : Addr) (L N : List Str) (m c : Nat) : Prop where
  wl : Wl H w l c
  room : H R = some (.lst [.int (m : Int)])
  hd : SqT K H h [.ref la, .ref na]
  hl : TupO H la (L.map V.str)
  hn : TupO H na (N.map V.str)
  n1 : R ∉ [w, l]
section
variable {K : PySem.W.Frag} {H H' : Hp} {w l R h la na : Addr} {L N : List Str} {m m' c c' : Nat}
theorem Drw9.same (d : Drw9 K H w l R h la na L N m c) (s : Same H H') : Drw9 K H' w l R h la na L N m c := ⟨d.wl.same s, s _ _ d.room, (Tk.same s).sqt d.hd, d.hl.tk (Tk.same s), d.hn.tk (Tk.same s), d.n1⟩
theorem Drw9.le (d : Drw9 K H w l R h la na L N m c) (e : c' ≤ c) : Drw9 K H w l R h la na L N m c' := ⟨d.wl.le e, d.room, d.hd, d.hl, d.hn, d.n1⟩
theorem Drw9.pick (d : Drw9 K H w l R h la na L N m c) (hc : Wl H' w l c') (k : Kp [w, l] H H') (t : Tk H H') : Drw9 K H' w l R h la na L N m c' :=
  ⟨hc, k _ _ d.n1 d.room, t.sqt d.hd, d.hl.tk t, d.hn.tk t, d.n1⟩
theorem Drw9.keep (d : Drw9 K H w l R h la na L N m c) (hc : Wl H' w l c') (hr : H' R = some (.lst [.int (m' : Int)])) (t : Tk H H') : Drw9 K H' w l R h la na L N m' c' :=
  ⟨hc, hr, t.sqt d.hd, d.hl.tk t, d.hn.tk t, d.n1⟩
theorem Drw9.put (d : Drw9 K H w l R h la na L N m c) (m' : Nat) : Drw9 K (upd H R (.lst [.int (m' : Int)])) w l R h la na L N m' c :=
  d.keep (d.wl.upd d.n1) upd_same (Tk.put d.room _)
end
theorem kp9 {w l R : Addr} {H H' : Hp} (k : Kp [w, l] H H') : Kp [w, l, R] H H' := k.mono fun a h => by
  rcases List.mem_cons.mp h with rfl | h
  · simp
  · cases List.mem_singleton.mp h; simp
theorem pick_str {L : List Str} {H : Hp} {r : Int} (h0 : 0 ≤ r) (h1 : r < L.length) : ∃ x, x ∈ L ∧ atI (L.map V.str) r = some (.str x) := by
  have hlt : r.toNat < L.length := by omega
  refine ⟨L[r.toNat], List.getElem_mem hlt, ?_⟩
  have := atI_nat (xs := L.map V.str) (j := r.toNat) (v := .str L[r.toNat]) (by rw [List.getElem?_map, List.getElem?_eq_getElem hlt]; rfl)
  rwa [show ((r.toNat : Nat) : Int) = r by omega] at this
theorem pick_int {L : List Int} {r : Int} (h0 : 0 ≤ r) (h1 : r < L.length) : ∃ x, x ∈ L ∧ atI (L.map V.int) r = some (.int x) := by
  have hlt : r.toNat < L.length := by omega
  refine ⟨L[r.toNat], List.getElem_mem hlt, ?_⟩
  have := atI_nat (xs := L.map V.int) (j := r.toNat) (v := .int L[r.toNat]) (by rw [List.getElem?_map, List.getElem?_eq_getElem hlt]; rfl)
  rwa [show ((r.toNat : Nat) : Int) = r by omega] at this
theorem ds_snoc (b : List St) (s : St) : ds (b ++ [s]) = ds b ++ [s.d] := by rw [ds_map, ds_map, List.map_append]; rfl
theorem ns_snoc (b : List St) (s : St) : ns (b ++ [s]) = ns b + s.n := by rw [ns_app]; simp [ns]
theorem ks_snoc (b : List St) (s : St) : ks (b ++ [s]) = max (ks b) s.k := by rw [ks_app]; simp [ks]
theorem inV_ints (r : Int) (L : List Int) : inV (.int r) (L.map V.int) = decide (r ∈ L) := by
  induction L with
  | nil => rfl
  | cons z l ih =>
    show (eqV (.int z) (.int r) || inV (.int r) (l.map V.int)) = _
    rw [ih]
    have e : eqV (.int z) (.int r) = decide (z = r) := by
      show (z == r) = _
      by_cases h : z = r
      · subst h; simp
      · rw [decide_eq_false h]; exact beq_eq_false_iff_ne.mpr h
    rw [e]
    by_cases h : r = z
    · subst h; simp
    · simp [h, Ne.symm h]
section
variable {P : Program} {w : World} {K : PySem.W.Frag} {mg : Str → Option Value} {base : Heap}

def spDB9 (K : PySem.W.Frag) (n : Nat) : Sp := fun vs H Q _ => ∃ w l h la na R deep sec L N m c, vs = [.ref w, .int (deep : Nat), .ref h, .bl sec, .ref R] ∧ Drw9 K H w l R h la na L N m (c + CB n) ∧ m ≤ 200 ∧ deep < n ∧ 1 ≤ L.length ∧ L.length ≤ 20 ∧ 1 ≤ N.length ∧ N.length ≤ 20 ∧
  ∀ H' v b m', Dp K H' v (.tuple (ds b)) → oks L N sec b → ns b + m' = m → ks b ≤ deep + 1 → b.length ≤ 4 → Wl H' w l c → H' R = some (.lst [.int ((m' : Nat) : Int)]) → Kp [w, l, R] H H' → Tk H H' → Q v H'
def spDS9 (K : PySem.W.Frag) (n : Nat) : Sp := fun vs H Q _ => ∃ w l h la na R deep sec L N m c, vs = [.ref w, .int (deep : Nat), .ref h, .bl sec, .ref R] ∧ Drw9 K H w l R h la na L N m (c + CS n) ∧ m ≤ 200 ∧ deep < n ∧ 1 ≤ L.length ∧ L.length ≤ 20 ∧ 1 ≤ N.length ∧ N.length ≤ 20 ∧
  ∀ H' v s m', Dp K H' v (St.d s) → s.ok L N sec → s.n + m' = m + 1 → s.k ≤ deep + 1 → Wl H' w l c → H' R = some (.lst [.int ((m' : Nat) : Int)]) → Kp [w, l, R] H H' → Tk H H' → Q v H'
theorem sc__law_body : FnScope ["well", "deep", "heads", "is_second", "room", "found", "turn"] ["well", "deep", "heads", "is_second", "room"] (C8.fnScope (topS 45)) := C8.fnScope_by (by decide +kernel)
theorem sc__law_statement : FnScope ["well", "deep", "heads", "is_second", "room", "way", "many", "k", "body"] ["well", "deep", "heads", "is_second", "room"] (C8.fnScope (topS 46)) := C8.fnScope_by (by decide +kernel)
theorem ok_db9 {n e : Nat} {f : Addr} {fd : FuncData} (F : C8.Def K mg "_law_body" (topS 45) f fd) (b : Binds K fd ["well", "deep", "heads", "is_second", "room"] []) (B : Bl K mg) (c_draw : C8.Cal P w K mg base 1 "_law_draw" spDraw []) (c_stmt : C8.Cal P w K mg base e "_law_statement" (spDS9 K n) []) (he : 1 ≤ e) : C8.Cal P w K mg base (e + 1) "_law_body" (spDB9 K n) [] := by
  refine C8.cal0 F b .nil sc__law_body ?len ?body
  case len => rintro vs H Q E ⟨w, l, h, la, na, R, deep, sec, L, N, m, c, rfl, _⟩; rfl
  case body =>
    rintro cdv A outer s H vs Q E hr ⟨w, l, h, la, na, R, deep, sec, L, N, m, c, rfl, hD, hm, hdn, hL1, hL2, hN1, hN2, q⟩
    refine ⟨_, (pss_cons (ps_set (i := 5) sc__law_body.nd rfl (Or.inl rfl) (pe_tup pa_nil))
    (pss_cons (ps_for PassesOwn.never rfl (pi_range1 rfl B.range (pa_cons (C8.pe_c c_draw hr (by omega) rfl (pa_cons (pv 0) (pa_cons pe_int pa_nil))) pa_nil)) (pg_name (i := 6) sc__law_body.nd rfl (Or.inl rfl))
    (pss_one (ps_if (pt_cmpR op_gt (pe_ix ix_list (pv 4) pe_int (fun _ _ => rfl)) pe_int (nomark _)) (pss_cons (ps_asg (pe_op op_sub (pe_ix ix_list (pv 4) pe_int (fun _ _ => rfl)) pe_int) (pg_sub (pv 4) pe_int set_list))
    (pss_one (ps_set (i := 5) sc__law_body.nd rfl (Or.inl rfl) (pe_op op_catA (pv 5) (pe_tup (pa_cons (C8.pe_c c_stmt hr (by omega) rfl (pa_cons (pv 0) (pa_cons (pv 1) (pa_cons (pv 2) (pa_cons (pv 3) (pa_cons (pv 4) pa_nil)))))) pa_nil)))))) pss_nil)))
    (pss_one (ps_ret (pv 5))))), ?_⟩
    refine ⟨(by show 0 ≤ sizeLine; decide), fun f0 hf0 => ?_⟩
    have s1 := same_new hf0 (.tup [])
    have D1 := hD.same s1
    have hf1 : upd H f0 (.tup []) f0 = some (.tup []) := upd_same
    generalize upd H f0 (.tup []) = H1 at s1 D1 hf1
    refine ⟨_, rfl, w, l, c + 4 * CS n, 5, rfl, D1.wl.le (by unfold CB; omega), by omega, by omega, fun r H2 r0 r1 hc2 k2 t2 => ?_⟩
    refine ⟨r, rfl, by omega, by omega, ?_⟩
    have D2 := D1.pick hc2 k2 t2
    have k02 : Kp [w, l, R] H H2 := (Kp.of_same s1).trans (kp9 k2)
    have t02 : Tk H H2 := (Tk.same s1).trans t2
    refine for_range (lo := 0) (n := r.toNat) (fun i σ H' => ∃ b6 v b m', σ = [some (.ref w), some (.int (deep : Nat)), some (.ref h), some (.bl sec), some (.ref R), some v, b6] ∧ Dp K H' v (.tuple (ds b)) ∧ oks L N sec b ∧ ns b + m' = m ∧ ks b ≤ deep + 1 ∧ b.length ≤ i ∧ Drw9 K H' w l R h la na L N m' (c + CS n * (4 - i)) ∧ Kp [w, l, R] H H' ∧ Tk H H') ?_ ?_ ?_
    · exact ⟨none, _, [], m, rfl, .tup (t2.sqt (SqT.of hf1)) .nil, trivial, by simp [ns], by simp [ks], Nat.le_refl _, D2.le (by omega), k02, t02⟩
    · rintro i _ H3 hi ⟨b7, v, b, m', rfl, hb, ho, hn, hk, hbl, D3, k3, t3⟩
      have hi4 : i < 4 := by omega
      have ec : CS n * (4 - i) = CS n * (4 - (i + 1)) + CS n := by
        rw [show 4 - i = (4 - (i + 1)) + 1 by omega]
        exact Nat.mul_succ _ _
      refine ⟨_, rfl, R, _, _, _, rfl, rfl, SqL.of D3.room, at0 _ _, _, _, rfl, rfl, _, rfl, ?_⟩
      by_cases c1 : (0 : Int) < (m' : Int)
      · rw [decide_eq_true c1]
        refine iteT ?_
        refine ⟨_, rfl, R, _, _, _, rfl, rfl, SqL.of D3.room, at0 _ _, _, _, rfl, rfl, _, rfl, R, _, _, 0, rfl, rfl, D3.room, rfl, ?_⟩
        have D4 := D3.put (m' - 1)
        have em : ((m' : Nat) : Int) - 1 = ((m' - 1 : Nat) : Int) := by omega
        have tP := Tk.put D3.room (.lst [.int ((m' - 1 : Nat) : Int)])
        have kP : Kp [w, l, R] H3 (upd H3 R (.lst [.int ((m' - 1 : Nat) : Int)])) := Kp.put _ (by simp)
        show (fun H4 => _) (upd H3 R (.lst [.int (((m' : Nat) : Int) - 1)]))
        rw [em]
        have hb4 := tP.dp (.tuple (ds b)) (tup_ds b) hb
        generalize upd H3 R (.lst [.int ((m' - 1 : Nat) : Int)]) = H4 at D4 tP kP hb4
        refine ⟨_, rfl, _, rfl, _, rfl, _, rfl, _, rfl, _, rfl, w, l, h, la, na, R, deep, sec, L, N, m' - 1, c + CS n * (4 - (i + 1)), rfl, D4.le (by omega), by omega, hdn, hL1, hL2, hN1, hN2, fun H5 x st m5 hw hso hsn hsk hc5 hr5 k5 t5 => ?_⟩
        refine ⟨(by show 1 ≤ sizeLine; decide), fun y hy => ?_⟩
        have sy := same_new hy (.tup [x])
        have t45 : Tk H4 (upd H5 y (.tup [x])) := t5.trans (Tk.same sy)
        have hb5 := t45.dp (.tuple (ds b)) (tup_ds b) hb4
        have hw5 := (Tk.same sy).dp _ (tup_St st) hw
        obtain ⟨ba, bxs, rfl, hbs, hba, hbx⟩ := len_ok hb5
        rw [ds_len] at hbx
        have D5 := (D4.keep hc5 hr5 t5).same sy
        have hyT : SqT K (upd H5 y (.tup [x])) y [x] := SqT.of upd_same
        have k5y : Kp [w, l, R] H (upd H5 y (.tup [x])) := k3.trans (kP.trans (k5.trans (Kp.of_same sy)))
        have t5y : Tk H (upd H5 y (.tup [x])) := t3.trans (tP.trans t45)
        generalize upd H5 y (.tup [x]) = H6 at hbs hba hw5 D5 hyT k5y t5y
        have fin : oks L N sec (b ++ [st]) ∧ ns (b ++ [st]) + m5 = m ∧ ks (b ++ [st]) ≤ deep + 1 ∧ (b ++ [st]).length ≤ i + 1 := by
          refine ⟨oks_iff.mpr fun x hx => ?_, by rw [ns_snoc]; omega, by rw [ks_snoc]; omega, by simp; omega⟩
          rcases List.mem_append.mp hx with h | h
          · exact oks_iff.mp ho x h
          · cases List.mem_singleton.mp h
            exact hso
        refine ⟨ba, y, bxs, [x], rfl, rfl, hbs, hyT, Nat.le_trans (show bxs.length + 1 ≤ 6 by omega) (by decide), fun z => ?_, fun _ z => (by cases z), fun _ _ p hp => ?_⟩
        · have : b = [] := by
            cases b with
            | nil => rfl
            | cons _ _ => rw [z] at hbx; simp at hbx
          subst this
          exact ⟨_, _, [st], m5, rfl, .tup hyT (.cons hw5 .nil), fin.1, fin.2.1, fin.2.2.1, fin.2.2.2, D5, k5y, t5y⟩
        · have sp := same_new hp (.tup (bxs ++ [x]))
          refine ⟨_, _, b ++ [st], m5, rfl, .tup (SqT.of upd_same) ?_, fin.1, fin.2.1, fin.2.2.1, fin.2.2.2, D5.same sp, k5y.trans (Kp.of_same sp), t5y.trans (Tk.same sp)⟩
          rw [ds_snoc]
          exact dps_ext (same_ext sp) _ (dps_app hba (.cons hw5 .nil))
      · rw [decide_eq_false c1]
        exact iteF ⟨_, _, b, m', rfl, hb, ho, hn, hk, by omega, D3.le (by omega), k3, t3⟩
    · rintro σ H3 ⟨b7, v, b, m', rfl, hb, ho, hn, hk, hbl, D3, k3, t3⟩
      exact ⟨_, rfl, q H3 v b m' hb ho hn hk (by omega) (D3.wl.le (by omega)) D3.room k3 t3⟩
theorem tupo_sq {K : PySem.W.Frag} {H : Hp} {a : Addr} {ys : List V} (h : TupO H a ys) : SqT K H a ys := let ⟨o, h1, _⟩ := h; .inl (.inr ⟨o, h1⟩)
theorem ok_dst9 {n e : Nat} {f : Addr} {fd : FuncData} (F : C8.Def K mg "_law_statement" (topS 46) f fd) (b : Binds K fd ["well", "deep", "heads", "is_second", "room"] []) (B : Bl K mg) (c_draw : C8.Cal P w K mg base 1 "_law_draw" spDraw []) (c_body : C8.Cal P w K mg base e "_law_body" (spDB9 K n) []) (he : 1 ≤ e) : C8.Cal P w K mg base (e + 1) "_law_statement" (spDS9 K (n + 1)) [] := by
  refine C8.cal0 F b .nil sc__law_statement ?len ?body
  case len => rintro vs H Q E ⟨w, l, h, la, na, R, deep, sec, L, N, m, c, rfl, _⟩; rfl
  case body =>
    rintro cdv A outer s H vs Q E hr ⟨w, l, h, la, na, R, deep, sec, L, N, m, c, rfl, hD, hm, hdn, hL1, hL2, hN1, hN2, q⟩
    refine ⟨_, (C8.pss_cut (ps_set (i := 5) sc__law_statement.nd rfl (Or.inl rfl) (C8.pe_c c_draw hr (by omega) rfl (pa_cons (pv 0) (pa_cons (pe_ifExp (pt_cmpR op_gt (pv 1) pe_int (nomark _)) pe_int pe_int) pa_nil))))
    (pss_cons (ps_if (pt_cmpR op_eq (pv 5) pe_int (nomark _)) (pss_one (ps_ret (pe_tup (pa_cons pe_str (pa_cons (pe_ix ix_tup (pe_ix ix_tup (pv 2) pe_int (fun _ _ => rfl)) (C8.pe_c c_draw hr (by omega) rfl (pa_cons (pv 0) (pa_cons (pe_callB call_len_seq rfl B.len PySem.boot_len (pa_cons (pe_ix ix_tup (pv 2) pe_int (fun _ _ => rfl)) pa_nil)) pa_nil))) (fun _ _ => rfl)) pa_nil))))) pss_nil)
    (pss_cons (ps_if (PW.pt (pw_and (pt_cmpR op_eq (pv 5) pe_int (nomark _)) (pw_and1 (pt_not (pt_val (pv 3)))))) (pss_one (ps_ret (pe_tup (pa_cons pe_str pa_nil)))) pss_nil)
    (pss_cons (ps_if (pt_cmpR op_lt (pv 5) pe_int (nomark _)) (pss_one (ps_ret (pe_tup (pa_cons (pe_ix ix_list (pe_lst (pa_cons pe_str (pa_cons pe_str pa_nil))) (C8.pe_c c_draw hr (by omega) rfl (pa_cons (pv 0) (pa_cons pe_int pa_nil))) (fun _ _ => rfl)) (pa_cons (pe_ix ix_tup (pe_ix ix_tup (pv 2) pe_int (fun _ _ => rfl)) (C8.pe_c c_draw hr (by omega) rfl (pa_cons (pv 0) (pa_cons (pe_callB call_len_seq rfl B.len PySem.boot_len (pa_cons (pe_ix ix_tup (pv 2) pe_int (fun _ _ => rfl)) pa_nil)) pa_nil))) (fun _ _ => rfl)) pa_nil))))) pss_nil)
    (pss_cons (ps_if (pt_cmpR op_lt (pv 5) pe_int (nomark _)) (pss_cons (ps_set (i := 6) sc__law_statement.nd rfl (Or.inl rfl) (pe_ix ix_list (pe_lst (pa_cons pe_int (pa_cons pe_int (pa_cons pe_int (pa_cons pe_int pa_nil))))) (C8.pe_c c_draw hr (by omega) rfl (pa_cons (pv 0) (pa_cons pe_int pa_nil))) (fun _ _ => rfl)))
    (pss_one (ps_ret (pe_tup (pa_cons pe_str (pa_cons (pe_callTy call_tuple_of rfl B.tuple (by decide +kernel) (pa_cons (pe_lc (own := [("k", 7)]) (g := gName 7) (te := tCall (spDB9 K n) [] C8.E0 (tCons (tVar 0) (tCons (tOp (rI0 fun i j => .int (i - j)) (tVar 1) (tC (.int 1))) (tCons (tVar 2) (tCons (tVar 3) (tCons (tVar 4) tNil)))))) (by rfl) sc__law_statement.nd (pi_range1 rfl B.range (pa_cons (pv 6) pa_nil)) (blkOk_by (own := [("k", 7)]) (N := ["well", "deep", "heads", "is_second", "room", "way", "many", "k", "body"]) (sc := (C8.fnScope (topS 46))) (by decide +kernel)) (fun _ _ _ _ _ => pg_name (i := 7) sc__law_statement.nd rfl (Or.inl rfl)) (fun _ _ _ _ _ => pts_nil) (fun _ _ _ _ _ => by exact (C8.pe_c c_body hr (by omega) rfl (pa_cons (pv 0) (pa_cons (pe_op op_sub (pv 1) pe_int) (pa_cons (pv 2) (pa_cons (pv 3) (pa_cons (pv 4) pa_nil)))))))) pa_nil)) pa_nil)))))) pss_nil)
    (pss_cons (ps_if (pt_cmpR op_eq (pv 5) pe_int (nomark _)) (pss_one (ps_ret (pe_tup (pa_cons pe_str (pa_cons (C8.pe_c c_body hr (by omega) rfl (pa_cons (pv 0) (pa_cons (pe_op op_sub (pv 1) pe_int) (pa_cons (pv 2) (pa_cons (pv 3) (pa_cons (pv 4) pa_nil)))))) pa_nil))))) pss_nil)
    (pss_cons (ps_set (i := 8) sc__law_statement.nd rfl (Or.inl rfl) (C8.pe_c c_body hr (by omega) rfl (pa_cons (pv 0) (pa_cons (pe_op op_sub (pv 1) pe_int) (pa_cons (pv 2) (pa_cons (pv 3) (pa_cons (pv 4) pa_nil)))))))
    (pss_one (ps_ret (pe_tup (pa_cons pe_str (pa_cons (pv 8) (pa_cons (C8.pe_c c_body hr (by omega) rfl (pa_cons (pv 0) (pa_cons (pe_op op_sub (pv 1) pe_int) (pa_cons (pv 2) (pa_cons pe_bl (pa_cons (pv 4) pa_nil)))))) pa_nil))))))))))))), ?_⟩
    have cs := cs_succ n
    refine ⟨fun σ' H' => ∃ r : Int, σ' = [some (.ref w), some (.int (deep : Nat)), some (.ref h), some (.bl sec), some (.ref R), some (.int r), none, none, none] ∧ 0 ≤ r ∧ r < 11 ∧ (5 ≤ r → 0 < deep) ∧ Drw9 K H' w l R h la na L N m (c + 5 + 6 * CB n) ∧ Kp [w, l, R] H H' ∧ Tk H H', ?_, ?_⟩
    · refine ⟨_, rfl, _, rfl, _, _, rfl, rfl, _, rfl, ?_⟩
      by_cases c1 : (0 : Int) < (deep : Nat)
      · rw [decide_eq_true c1]
        refine iteT ⟨w, l, c + 5 + 6 * CB n, 11, rfl, hD.wl.le (by omega), by omega, by omega, fun r H1 r0 r1 hc1 k1 t1 => ?_⟩
        exact ⟨r, rfl, r0, r1, fun _ => by omega, hD.pick hc1 k1 t1, kp9 k1, t1⟩
      · rw [decide_eq_false c1]
        refine iteF ⟨w, l, c + 5 + 6 * CB n, 5, rfl, hD.wl.le (by omega), by omega, by omega, fun r H1 r0 r1 hc1 k1 t1 => ?_⟩
        exact ⟨r, rfl, r0, by omega, fun _ => by omega, hD.pick hc1 k1 t1, kp9 k1, t1⟩
    rintro _ H1 ⟨r, rfl, r0, r12, rd, D1, k1, t1⟩
    refine ⟨_, rfl, rfl, _, rfl, ?_⟩
    rw [dec_int]
    by_cases c3 : r = 3
    · rw [decide_eq_true c3]
      refine iteT ⟨_, rfl, h, _, _, _, rfl, rfl, D1.hd, at1 _ _ _, _, rfl, _, rfl, h, _, _, _, rfl, rfl, D1.hd, at1 _ _ _, na, _, rfl, .inr (tupo_sq D1.hn), w, l, c, _, rfl, D1.wl.le (by omega), by rw [List.length_map]; omega, by rw [List.length_map]; omega, fun r2 H2 r20 r21 hc2 k2 t2 => ?_⟩
      have D2 := D1.pick hc2 k2 t2
      rw [List.length_map] at r21
      obtain ⟨x, hx, hat⟩ := pick_str (L := N) (H := H2) r20 r21
      refine ⟨na, _, _, _, rfl, rfl, tupo_sq D2.hn, hat, (by show 2 ≤ sizeLine; decide), fun p hp => ?_⟩
      have sp := same_new hp (.tup [.str "call", .str x])
      exact q _ _ (.cl x) m (.tup (SqT.of upd_same) (.cons (.str _) (.cons (.str _) .nil))) hx (by simp [St.n]; omega) (by simp [St.k]) (D2.same sp).wl (D2.same sp).room (k1.trans ((kp9 k2).trans (Kp.of_same sp))) (t1.trans (t2.trans (Tk.same sp)))
    rw [decide_eq_false c3]
    refine iteF ?_
    have ret : ∀ X : Prop, (sec = false → r = 4 → False) ∨ (sec = false ∧ r = 4) := fun _ => by
      by_cases h : sec = false ∧ r = 4
      · exact .inr h
      · exact .inl fun a b => h ⟨a, b⟩
    rcases ret True with c4 | ⟨c4, c4b⟩
    rotate_left
    · refine ⟨_, rfl, rfl, _, rfl, ?_⟩
      rw [dec_int, decide_eq_true c4b]
      refine iteT ⟨_, rfl, _, rfl, ?_⟩
      subst c4
      refine iteT ⟨(by show 1 ≤ sizeLine; decide), fun p hp => ?_⟩
      have sp := same_new hp (.tup [.str "return"])
      exact q _ _ .rt m (.tup (SqT.of upd_same) (.cons (.str _) .nil)) rfl (by simp [St.n]; omega) (by simp [St.k]) ((D1.same sp).wl.le (by omega)) (D1.same sp).room (k1.trans (Kp.of_same sp)) (t1.trans (Tk.same sp))
    refine ⟨_, rfl, rfl, _, rfl, ?_⟩
    rw [dec_int]
    have go4 : ∀ {A B : Prop}, B → ((if decide (r = 4) = true then (∃ v, ([some (.ref w), some (.int (deep : Nat)), some (.ref h), some (.bl sec), some (.ref R), some (.int r), none, none, none] : L2.St)[3]? = some (some v) ∧ ∃ k, v = .bl k ∧ if (!k) = true then A else B) else B)) := fun {A B} b => by
      by_cases h : r = 4
      · rw [if_pos (by simpa using h)]
        refine ⟨_, rfl, _, rfl, ?_⟩
        cases sec with
        | true => exact iteF b
        | false => exact (c4 rfl h).elim
      · rw [if_neg (by simpa using h)]
        exact b
    refine go4 ?_
    refine ⟨_, rfl, _, _, rfl, rfl, _, rfl, ?_⟩
    by_cases c5 : r < 5
    · rw [decide_eq_true c5]
      refine iteT ?_
      refine ⟨(by show 2 ≤ sizeLine; decide), fun l5 hl5 => ?_⟩
      have s5 := same_new hl5 (.lst [.str "do", .str "undo"])
      have D5 := D1.same s5
      have hl6 : upd H1 l5 (.lst [.str "do", .str "undo"]) l5 = some (.lst ((["do", "undo"] : List Str).map V.str)) := upd_same
      have nl5 := D1.wl.out hl5
      refine ⟨_, rfl, w, l, c + 1, 2, rfl, D5.wl.le (by omega), by omega, by omega, fun r6 H6 r60 r61 hc6 k6 t6 => ?_⟩
      have D6 := D5.pick hc6 k6 t6
      obtain ⟨wd, hwd, hatw⟩ := pick_str (L := ["do", "undo"]) (H := H6) r60 r61
      refine ⟨l5, _, _, _, rfl, rfl, SqL.of (k6 _ _ nl5 hl6), hatw, ?_⟩
      refine ⟨_, rfl, h, _, _, _, rfl, rfl, D6.hd, at0 _ _, _, rfl, _, rfl, h, _, _, _, rfl, rfl, D6.hd, at0 _ _, la, _, rfl, .inr (tupo_sq D6.hl), w, l, c, _, rfl, D6.wl, by rw [List.length_map]; omega, by rw [List.length_map]; omega, fun r7 H7 r70 r71 hc7 k7 t7 => ?_⟩
      have D7 := D6.pick hc7 k7 t7
      rw [List.length_map] at r71
      obtain ⟨x, hx, hat⟩ := pick_str (L := L) (H := H7) r70 r71
      refine ⟨la, _, _, _, rfl, rfl, tupo_sq D7.hl, hat, (by show 2 ≤ sizeLine; decide), fun p hp => ?_⟩
      have sp := same_new hp (.tup [.str wd, .str x])
      have kk : Kp [w, l, R] H (upd H7 p (.tup [.str wd, .str x])) := k1.trans ((Kp.of_same s5).trans ((kp9 k6).trans ((kp9 k7).trans (Kp.of_same sp))))
      have tt : Tk H (upd H7 p (.tup [.str wd, .str x])) := t1.trans ((Tk.same s5).trans (t6.trans (t7.trans (Tk.same sp))))
      simp at hwd
      rcases hwd with rfl | rfl
      · exact q _ _ (.dd x) m (.tup (SqT.of upd_same) (.cons (.str _) (.cons (.str _) .nil))) hx (by simp [St.n]; omega) (by simp [St.k]) (D7.same sp).wl (D7.same sp).room kk tt
      · exact q _ _ (.ud x) m (.tup (SqT.of upd_same) (.cons (.str _) (.cons (.str _) .nil))) hx (by simp [St.n]; omega) (by simp [St.k]) (D7.same sp).wl (D7.same sp).room kk tt
    rw [decide_eq_false c5]
    refine iteF ?_
    have hd0 : 0 < deep := rd (by omega)
    refine ⟨_, rfl, _, _, rfl, rfl, _, rfl, ?_⟩
    by_cases c7 : r < 7
    · rw [decide_eq_true c7]
      refine iteT ?_
      refine ⟨(by show 4 ≤ sizeLine; decide), fun l3 hl3 => ?_⟩
      have s3 := same_new hl3 (.lst [.int 2, .int 2, .int 3, .int 6])
      have D3 := D1.same s3
      have hl4 : upd H1 l3 (.lst [.int 2, .int 2, .int 3, .int 6]) l3 = some (.lst (([2, 2, 3, 6] : List Int).map V.int)) := upd_same
      have nl3 := D1.wl.out hl3
      refine ⟨_, rfl, w, l, c + 6 * CB n, 4, rfl, D3.wl.le (by omega), by omega, by omega, fun r3 H4 r30 r31 hc4 k4 t4 => ?_⟩
      have D4 := D3.pick hc4 k4 t4
      obtain ⟨mm, hmm, hat⟩ := pick_int (L := [2, 2, 3, 6]) r30 r31
      have hmm2 : 2 ≤ mm ∧ mm ≤ 6 := by simp at hmm; omega
      have k04 : Kp [w, l, R] H H4 := k1.trans ((Kp.of_same s3).trans (kp9 k4))
      have t04 : Tk H H4 := t1.trans ((Tk.same s3).trans t4)
      refine ⟨l3, _, _, _, rfl, rfl, SqL.of (k4 _ _ nl3 hl4), hat, ?_⟩
      refine ⟨_, rfl, mm, rfl, by omega, by omega, fun Dd hDd => ?_⟩
      have nDw := D4.wl.out hDd
      have nDR : Dd ≠ R := fun z => by have := D4.room; rw [← z, hDd] at this; cases this
      have nD3 : Dd ∉ [w, l, R] := fun z => by
        rcases List.mem_cons.mp z with rfl | z
        · exact nDw (by simp)
        · rcases List.mem_cons.mp z with rfl | z
          · exact nDw (by simp)
          · exact nDR (List.mem_singleton.mp z)
      have hDH : H Dd = none := k04.none nD3 hDd
      refine lc_range (fun j H' => ∃ vs bs m', H' Dd = some (.lst vs) ∧ DpAll K H' vs (dss bs) ∧ okss L N sec bs ∧ nss bs + m' = m ∧ kss bs ≤ deep ∧ bs.length = j ∧ Drw9 K H' w l R h la na L N m' (c + CB n * (6 - j)) ∧ Kp [w, l, R] H H' ∧ Tk H H') ?_ ?_ ?_
      · refine ⟨[], [], m, upd_same, .nil, trivial, by simp [nss], by simp [kss], rfl, (D4.same (same_new hDd _)).le (by omega), k04.trans (Kp.new _ hDd), t04.trans (Tk.new hDd _)⟩
      · rintro j H5 hj ⟨vs, bs, m', h51, h52, h53, h54, h55, h56, D5, k5, t5⟩
        refine ⟨rfl, ?_⟩
        have hjm : j < mm.toNat := hj
        have ec : CB n * (6 - j) = CB n * (6 - (j + 1)) + CB n := by
          rw [show 6 - j = (6 - (j + 1)) + 1 by omega]
          exact Nat.mul_succ _ _
        refine ⟨_, rfl, _, rfl, _, _, rfl, rfl, _, rfl, _, rfl, _, rfl, w, l, h, la, na, R, deep - 1, sec, L, N, m', c + CB n * (6 - (j + 1)), (by rw [show (((deep - 1 : Nat)) : Int) = (deep : Int) - 1 by omega]; rfl), D5.le (by omega), by omega, by omega, hL1, hL2, hN1, hN2, fun H6 v b m6 hv hvo hvn hvk _ hc6 hr6 k6 t6 => ?_⟩
        have h61 := k6 _ _ nD3 h51
        have tD := Tk.put h61 (.lst (vs ++ [v]))
        have D6 := D5.keep hc6 hr6 t6
        have D7 : Drw9 K (upd H6 Dd (.lst (vs ++ [v]))) w l R h la na L N m6 (c + CB n * (6 - (j + 1))) := D6.keep (D6.wl.upd nDw) (by rw [upd_ne (Ne.symm nDR)]; exact D6.room) tD
        have hvl := dps_len h52
        rw [dss_len] at hvl
        refine ⟨vs, h61, Nat.lt_of_le_of_lt (show vs.length ≤ 6 by omega) (by decide), vs ++ [v], bs ++ [b], m6, upd_same, ?_, ?_, ?_, ?_, by rw [List.length_append, h56]; rfl, D7, kp_new (k5.trans k6) hDH, t5.trans (t6.trans tD)⟩
        · rw [dss_snoc]
          exact dps_app (tD.dps _ (tup_dss bs) (t6.dps _ (tup_dss bs) h52)) (.cons (tD.dp (.tuple (ds b)) (tup_ds b) hv) .nil)
        · refine okss_iff.mpr fun x hx => (List.mem_append.mp hx).elim (okss_iff.mp h53 x) fun z => ?_
          cases List.mem_singleton.mp z
          exact hvo
        · rw [nss_app]; simp [nss]; omega
        · have e1 : ∀ (x y : List (List St)), kss (x ++ y) = max (kss x) (kss y) := fun x y => by
            induction x with
            | nil => simp [kss]
            | cons z l ih => rw [List.cons_append, kss, kss, ih]; omega
          rw [e1]
          simp [kss]
          omega
      · rintro H5 ⟨vs, bs, m', h51, h52, h53, h54, h55, h56, D5, k5, t5⟩
        refine ⟨Dd, _, rfl, .inl ⟨SqL.of h51, fun z hz => ⟨(by show 2 ≤ sizeLine; decide), fun x hx => ?_⟩⟩⟩
        have nzw : z ≠ x := fun qq => by rw [← qq, upd_same] at hx; cases hx
        have sP := (same_new hz (.tup vs)).trans (same_new hx (.tup [.str "choose", .ref z]))
        refine q _ _ (.ch bs) m' (.tup (SqT.of upd_same) (.cons (.str _) (.cons (.tup (SqT.of (by rw [upd_ne nzw]; exact upd_same)) ((Tk.same sP).dps _ (tup_dss bs) h52)) .nil))) ⟨by omega, by omega, h53⟩ (by rw [St.n]; omega) (by rw [St.k]; omega) ((D5.same sP).wl.le (by omega)) (D5.same sP).room (k5.trans (Kp.of_same sP)) (t5.trans (Tk.same sP))
    rw [decide_eq_false c7]
    refine iteF ?_
    refine ⟨_, rfl, rfl, _, rfl, ?_⟩
    rw [dec_int]
    by_cases c11 : r = 7
    · rw [decide_eq_true c11]
      refine iteT ?_
      refine ⟨_, rfl, _, rfl, _, _, rfl, rfl, _, rfl, _, rfl, _, rfl, w, l, h, la, na, R, deep - 1, sec, L, N, m, c, (by rw [show (((deep - 1 : Nat)) : Int) = (deep : Int) - 1 by omega]; rfl), D1.le (by omega), hm, by omega, hL1, hL2, hN1, hN2, fun H4 v b m4 hv hvo hvn hvk _ hc4 hr4 k4 t4 => ⟨(by show 2 ≤ sizeLine; decide), fun p hp => ?_⟩⟩
      have D4 := D1.keep hc4 hr4 t4
      have sp := same_new hp (.tup [.str "loop", v])
      exact q _ _ (.lp b) m4 (.tup (SqT.of upd_same) (.cons (.str _) (.cons ((Tk.same sp).dp (.tuple (ds b)) (tup_ds b) hv) .nil))) hvo (by rw [St.n]; omega) (by rw [St.k]; omega) (D4.same sp).wl (D4.same sp).room (k1.trans (k4.trans (Kp.of_same sp))) (t1.trans (t4.trans (Tk.same sp)))
    rw [decide_eq_false c11]
    refine iteF ?_
    refine ⟨_, rfl, _, rfl, _, _, rfl, rfl, _, rfl, _, rfl, _, rfl, w, l, h, la, na, R, deep - 1, sec, L, N, m, c + CB n, (by rw [show (((deep - 1 : Nat)) : Int) = (deep : Int) - 1 by omega]; rfl), D1.le (by omega), hm, by omega, hL1, hL2, hN1, hN2, fun H4 v b m4 hv hvo hvn hvk _ hc4 hr4 k4 t4 => ?_⟩
    have D4 := D1.keep hc4 hr4 t4
    refine ⟨_, rfl, _, rfl, _, rfl, _, _, rfl, rfl, _, rfl, _, rfl, w, l, h, la, na, R, deep - 1, true, L, N, m4, c, (by rw [show (((deep - 1 : Nat)) : Int) = (deep : Int) - 1 by omega]; rfl), D4, by omega, by omega, hL1, hL2, hN1, hN2, fun H5 v5 b5 m5 hv5 hvo5 hvn5 hvk5 _ hc5 hr5 k5 t5 => ⟨(by show 3 ≤ sizeLine; decide), fun p hp => ?_⟩⟩
    have D5 := D4.keep hc5 hr5 t5
    have sp := same_new hp (.tup [.str "ensure", v, v5])
    exact q _ _ (.en b b5) m5 (.tup (SqT.of upd_same) (.cons (.str _) (.cons ((t5.trans (Tk.same sp)).dp (.tuple (ds b)) (tup_ds b) hv) (.cons ((Tk.same sp).dp (.tuple (ds b5)) (tup_ds b5) hv5) .nil)))) ⟨hvo, hvo5⟩ (by rw [St.n]; omega) (by rw [St.k]; omega) (D5.same sp).wl (D5.same sp).room (k1.trans (k4.trans (k5.trans (Kp.of_same sp)))) (t1.trans (t4.trans (t5.trans (Tk.same sp))))
end
end K09


set_option Elab.async false
set_option linter.all false
set_option maxRecDepth 100000
set_option maxHeartbeats 8000000
namespace K09
open PySem PySem.Spec PyProof.Rows L2
section
variable {P : Program} {w : World} {K : PySem.W.Frag} {mg : Str → Option Value} {base : Heap}
theorem drw9 {fb fs : Addr} {fdb fds : FuncData} (Fb : C8.Def K mg "_law_body" (topS 45) fb fdb) (bb : Binds K fdb ["well", "deep", "heads", "is_second", "room"] []) (Fs : C8.Def K mg "_law_statement" (topS 46) fs fds) (bs : Binds K fds ["well", "deep", "heads", "is_second", "room"] []) (B : Bl K mg) (c_draw : C8.Cal P w K mg base 1 "_law_draw" spDraw []) :
    ∀ n : Nat, C8.Cal P w K mg base (2 * n + 3) "_law_body" (spDB9 K n) []
  | 0 => by
    refine ok_db9 Fb bb B c_draw ?_ (by omega)
    refine C8.cal0 (k := 1) Fs bs .nil sc__law_statement ?len ?body
    case len => rintro vs H Q E ⟨_, _, _, _, _, _, _, _, _, _, _, _, _, _, _, h, _⟩; exact absurd h (Nat.not_lt_zero _)
    case body => rintro cdv A outer s H vs Q E hr ⟨_, _, _, _, _, _, _, _, _, _, _, _, _, _, _, h, _⟩; exact absurd h (Nat.not_lt_zero _)
  | n + 1 => by
    have := ok_db9 (n := n + 1) Fb bb B c_draw (ok_dst9 Fs bs B c_draw (drw9 Fb bb Fs bs B c_draw n) (by omega)) (by omega)
    rw [show 2 * (n + 1) + 3 = 2 * n + 3 + 1 + 1 by omega]
    exact this
def CP : Nat := 1300 + 8 * (1 + CB 8)
def spPlan (K : PySem.W.Frag) : Sp := fun vs H Q _ => ∃ (w l : Addr) (c size : Nat), vs = [.ref w, .int (size : Int)] ∧ Wl H w l (c + CP) ∧ size ≤ 40 ∧ ∀ H' v L Ps, PD K H' v L Ps → Prog L Ps → kss (nsP Ps) ≤ 8 → nss (nsP Ps) ≤ size → Wl H' w l c → Kp [w, l] H H' → Tk H H' → Q v H'
theorem sc__law_plan : FnScope ["well", "size", "letters", "names", "room", "heads", "procedures", "name"] ["well", "size"] (C8.fnScope (topS 47)) := C8.fnScope_by (by decide +kernel)
theorem ok__law_plan {f : Addr} {fd : FuncData} (F : C8.Def K mg "_law_plan" (topS 47) f fd) (b : Binds K fd ["well", "size"] []) (B : Bl K mg) (c_draw : C8.Cal P w K mg base 1 "_law_draw" spDraw []) (c_names : C8.Cal P w K mg base 3 "_law_names" spNames9 []) (c_body : C8.Cal P w K mg base 19 "_law_body" (spDB9 K 8) []) : C8.Cal P w K mg base 20 "_law_plan" (spPlan K) [] := by
  refine C8.cal0 F b .nil sc__law_plan ?len ?body
  case len => rintro vs H Q E ⟨w, l, c, size, rfl, _⟩; rfl
  case body =>
    rintro cdv A outer s H vs Q E hr ⟨w, l, c, size, rfl, hW, hsz, q⟩
    refine ⟨_, (pss_cons (ps_set (i := 2) sc__law_plan.nd rfl (Or.inl rfl) (C8.pe_c c_names hr (by decide) rfl (pa_cons (pv 0) (pa_cons (pe_op op_add pe_int (C8.pe_c c_draw hr (by decide) rfl (pa_cons (pv 0) (pa_cons (pe_ix ix_list (pe_lst (pa_cons pe_int (pa_cons pe_int (pa_cons pe_int pa_nil)))) (C8.pe_c c_draw hr (by decide) rfl (pa_cons (pv 0) (pa_cons pe_int pa_nil))) (fun _ _ => rfl)) pa_nil)))) pa_nil))))
    (pss_cons (ps_set (i := 3) sc__law_plan.nd rfl (Or.inl rfl) (C8.pe_c c_names hr (by decide) rfl (pa_cons (pv 0) (pa_cons (pe_op op_add pe_int (C8.pe_c c_draw hr (by decide) rfl (pa_cons (pv 0) (pa_cons (pe_ix ix_list (pe_lst (pa_cons pe_int (pa_cons pe_int (pa_cons pe_int pa_nil)))) (C8.pe_c c_draw hr (by decide) rfl (pa_cons (pv 0) (pa_cons pe_int pa_nil))) (fun _ _ => rfl)) pa_nil)))) pa_nil))))
    (pss_cons (ps_asg (pe_tup (pa_cons (pe_lst (pa_cons (pv 1) pa_nil)) (pa_cons (pe_tup (pa_cons (pv 2) (pa_cons (pv 3) pa_nil))) pa_nil))) (pg_tup rfl (pgs_cons (pg_name (i := 4) sc__law_plan.nd rfl (Or.inr rfl)) (pgs_cons (pg_name (i := 5) sc__law_plan.nd rfl (Or.inr rfl)) pgs_nil))))
    (pss_cons (ps_set (i := 6) sc__law_plan.nd rfl (Or.inl rfl) (pe_callTy call_tuple_of rfl B.tuple (by decide +kernel) (pa_cons (pe_lc (own := [("name", 7)]) (g := gName 7) (te := tTup (tCons (tVar 7) (tCons (tCall (spDB9 K 8) [] C8.E0 (tCons (tVar 0) (tCons (tOp (rIxL K) (tLst (tCons (tC (.int 2)) (tCons (tC (.int 4)) (tCons (tC (.int 7)) tNil)))) (tCall spDraw [] C8.E0 (tCons (tVar 0) (tCons (tC (.int 3)) tNil)))) (tCons (tVar 5) (tCons (tC (.bl false)) (tCons (tVar 4) tNil)))))) tNil))) (by rfl) sc__law_plan.nd (pi_tup (pv 3)) (blkOk_by (own := [("name", 7)]) (N := ["well", "size", "letters", "names", "room", "heads", "procedures", "name"]) (sc := (C8.fnScope (topS 47))) (by decide +kernel)) (fun _ _ _ _ _ => pg_name (i := 7) sc__law_plan.nd rfl (Or.inl rfl)) (fun _ _ _ _ _ => pts_nil) (fun _ _ _ _ _ => by exact (pe_tup (pa_cons (pv 7) (pa_cons (C8.pe_c c_body hr (by decide) rfl (pa_cons (pv 0) (pa_cons (pe_ix ix_list (pe_lst (pa_cons pe_int (pa_cons pe_int (pa_cons pe_int pa_nil)))) (C8.pe_c c_draw hr (by decide) rfl (pa_cons (pv 0) (pa_cons pe_int pa_nil))) (fun _ _ => rfl)) (pa_cons (pv 5) (pa_cons pe_bl (pa_cons (pv 4) pa_nil)))))) pa_nil))))) pa_nil)))
    (pss_one (ps_ret (pe_tup (pa_cons (pv 2) (pa_cons (pv 6) pa_nil))))))))), ?_⟩
    unfold CP at hW
    obtain ⟨X, hX⟩ : ∃ X, X = c + 8 * (1 + CB 8) := ⟨_, rfl⟩
    have hW1 : Wl H w l (X + 1300) := hW.le (by omega)
    have k1 : Kp [w, l] H H := Kp.refl H
    have t1 : Tk H H := Tk.refl H
    refine ⟨_, rfl, ?_⟩
    refine ⟨_, rfl, (by show 3 ≤ sizeLine; decide), fun p1 hp1 => ?_⟩
    have sp1 := same_new hp1 (.lst [.int 2, .int 5, .int 20])
    have np1 := hW1.out hp1
    have hq1 : upd H p1 (.lst [.int 2, .int 5, .int 20]) p1 = some (.lst (([2, 5, 20] : List Int).map V.int)) := upd_same
    have hWa1 := hW1.same sp1
    generalize upd H p1 (.lst [.int 2, .int 5, .int 20]) = Ha1 at sp1 hq1 hWa1
    refine ⟨_, rfl, w, l, X + 1299, 3, rfl, hWa1.le (by omega), by decide, by decide, fun r1 Hb1 rr01 rr11 hWb1 kb1 tb1 => ?_⟩
    obtain ⟨mm1, hmm1, hat1⟩ := pick_int (L := [2, 5, 20]) rr01 rr11
    have hmx1 : 1 ≤ mm1 ∧ mm1 ≤ 20 := by simp at hmm1; omega
    refine ⟨p1, _, r1, .int mm1, rfl, rfl, SqL.of (kb1 _ _ np1 hq1), hat1, w, l, X + 1298, mm1, rfl, hWb1, by omega, by omega, fun ra1 Hc1 ra01 ra11 hWc1 kc1 tc1 => ?_⟩
    refine ⟨_, _, rfl, rfl, w, l, X + 698, (1 + ra1).toNat, by rw [show (((1 + ra1).toNat : Nat) : Int) = 1 + ra1 by omega]; rfl, hWc1.le (by omega), by omega, fun H2 la L hL Ll Ln Ld hW2 kd1 td1 => ?_⟩
    have k2 : Kp [w, l] H H2 := k1.trans ((Kp.of_same sp1).trans (kb1.trans (kc1.trans kd1)))
    have t2 : Tk H H2 := t1.trans ((Tk.same sp1).trans (tb1.trans (tc1.trans td1)))
    refine ⟨_, rfl, ?_⟩
    refine ⟨_, rfl, (by show 3 ≤ sizeLine; decide), fun p2 hp2 => ?_⟩
    have sp2 := same_new hp2 (.lst [.int 2, .int 3, .int 8])
    have np2 := hW2.out hp2
    have hq2 : upd H2 p2 (.lst [.int 2, .int 3, .int 8]) p2 = some (.lst (([2, 3, 8] : List Int).map V.int)) := upd_same
    have hWa2 := hW2.same sp2
    generalize upd H2 p2 (.lst [.int 2, .int 3, .int 8]) = Ha2 at sp2 hq2 hWa2
    refine ⟨_, rfl, w, l, X + 697, 3, rfl, hWa2.le (by omega), by decide, by decide, fun r2 Hb2 rr02 rr12 hWb2 kb2 tb2 => ?_⟩
    obtain ⟨mm2, hmm2, hat2⟩ := pick_int (L := [2, 3, 8]) rr02 rr12
    have hmx2 : 1 ≤ mm2 ∧ mm2 ≤ 8 := by simp at hmm2; omega
    refine ⟨p2, _, r2, .int mm2, rfl, rfl, SqL.of (kb2 _ _ np2 hq2), hat2, w, l, X + 696, mm2, rfl, hWb2, by omega, by omega, fun ra2 Hc2 ra02 ra12 hWc2 kc2 tc2 => ?_⟩
    refine ⟨_, _, rfl, rfl, w, l, X + 96, (1 + ra2).toNat, by rw [show (((1 + ra2).toNat : Nat) : Int) = 1 + ra2 by omega]; rfl, hWc2.le (by omega), by omega, fun H3 na N hN Nl Nn Nd hW3 kd2 td2 => ?_⟩
    have k3 : Kp [w, l] H H3 := k2.trans ((Kp.of_same sp2).trans (kb2.trans (kc2.trans kd2)))
    have t3 : Tk H H3 := t2.trans ((Tk.same sp2).trans (tb2.trans (tc2.trans td2)))
    have hla3 := hL.tk ((Tk.same sp2).trans (tb2.trans (tc2.trans td2)))
    refine ⟨_, rfl, (by show 1 ≤ sizeLine; decide), fun R hR => ?_⟩
    have sR := same_new hR (.lst [.int (size : Int)])
    refine ⟨_, rfl, _, rfl, (by show 2 ≤ sizeLine; decide), fun hd hhd => ⟨(by show 2 ≤ sizeLine; decide), fun tp htp => ?_⟩⟩
    have sH := same_new hhd (.tup [.ref la, .ref na])
    have sT := same_new htp (.tup [.ref R, .ref hd])
    have sA := sR.trans (sH.trans sT)
    have nR := hW3.out hR
    have hRH : H R = none := k3.none nR hR
    refine ⟨tp, _, rfl, SqT.of upd_same, rfl, _, _, rfl, _, _, rfl, rfl, ?_⟩
    have D6 : Drw9 K (upd (upd (upd H3 R (.lst [.int (size : Int)])) hd (.tup [.ref la, .ref na])) tp (.tup [.ref R, .ref hd])) w l R hd la na L N size (c + (1 + CB 8) * (8 - 0)) :=
      ⟨(hW3.same sA).le (by omega), (sH.trans sT) _ _ upd_same, (Tk.same sT).sqt (SqT.of upd_same), hla3.tk (Tk.same sA), hN.tk (Tk.same sA), nR⟩
    have k6 := k3.trans (Kp.of_same sA)
    have t6 := t3.trans (Tk.same sA)
    generalize upd (upd (upd H3 R (.lst [.int (size : Int)])) hd (.tup [.ref la, .ref na])) tp (.tup [.ref R, .ref hd]) = H6 at D6 k6 t6
    have hN8 : N.length ≤ 8 := by rw [Nl]; omega
    have hN1 : 1 ≤ N.length := by rw [Nl]; omega
    have hL20 : L.length ≤ 20 := by rw [Ll]; omega
    have hL1 : 1 ≤ L.length := by rw [Ll]; omega
    refine ⟨_, rfl, na, rfl, ⟨_, tupo_sq D6.hn⟩, fun Dd hDd => ?_⟩
    have nD := D6.wl.out hDd
    have nDR : Dd ≠ R := fun z => by have := D6.room; rw [← z, hDd] at this; cases this
    have hDH : H Dd = none := k6.none nD hDd
    have nD3 : Dd ∉ [w, l, R] := fun z => by
      rcases List.mem_cons.mp z with rfl | z
      · exact nD (by simp)
      · rcases List.mem_cons.mp z with rfl | z
        · exact nD (by simp)
        · exact nDR (List.mem_singleton.mp z)
    have sD := same_new hDd (.lst [])
    refine lc_tup (xs := N.map V.str) (fun i H' => ∃ vs Ps m', Ps.map Prod.fst = N.take i ∧ H' Dd = some (.lst vs) ∧ DpAll K H' vs (Ps.map procD) ∧ (∀ x ∈ nsP Ps, oks L N false x ∧ ks x ≤ 8) ∧ nss (nsP Ps) + m' = size ∧ Drw9 K H' w l R hd la na L N m' (c + (1 + CB 8) * (8 - i)) ∧ Kp [w, l] H H' ∧ Tk H H') ⟨[], [], size, by simp, upd_same, .nil, fun x hx => (List.not_mem_nil hx).elim, by simp [nsP, nss], D6.same sD, k6.trans (Kp.of_same sD), t6.trans (Tk.same sD)⟩ ?_ ?_ ?_
    · rintro i H' _ ⟨_, _, _, _, _, _, _, _, D, _, _⟩
      exact tupo_sq D.hn
    · rintro i x H8 hx ⟨vs, Ps, m', hfst, hv1, hv2, hoks, hns, D8, k8, t8⟩
      obtain ⟨nm, hnm, rfl⟩ : ∃ y, N[i]? = some y ∧ x = .str y := by
        rw [List.getElem?_map] at hx
        cases e : N[i]? with
        | none => rw [e] at hx; cases hx
        | some s => rw [e] at hx; exact ⟨s, rfl, (Option.some.inj hx).symm⟩
      have hil := (List.getElem?_eq_some_iff.mp hnm).1
      have ec : (1 + CB 8) * (8 - i) = (1 + CB 8) * (8 - (i + 1)) + (1 + CB 8) := by
        rw [show 8 - i = (8 - (i + 1)) + 1 by omega]
        exact Nat.mul_succ _ _
      refine ⟨rfl, ?_⟩
      refine ⟨_, rfl, _, rfl, (by show 3 ≤ sizeLine; decide), fun p hp => ?_⟩
      have sp := same_new hp (.lst [.int 2, .int 4, .int 7])
      have np := D8.wl.out hp
      have hq : upd H8 p (.lst [.int 2, .int 4, .int 7]) p = some (.lst (([2, 4, 7] : List Int).map V.int)) := upd_same
      have Dp8 := D8.same sp
      have kp8 := k8.trans (Kp.of_same sp)
      have tp8 := t8.trans (Tk.same sp)
      have hv1p := sp _ _ hv1
      have hv2p := (Tk.same sp).dps _ (tup_procs Ps) hv2
      generalize upd H8 p (.lst [.int 2, .int 4, .int 7]) = H9 at hq Dp8 kp8 tp8 hv1p hv2p
      refine ⟨_, rfl, w, l, c + (1 + CB 8) * (8 - (i + 1)) + CB 8, 3, rfl, Dp8.wl.le (by omega), by decide, by decide, fun r Ha r0 r1 hWa ka ta => ?_⟩
      obtain ⟨dp, hdp, hat⟩ := pick_int (L := [2, 4, 7]) r0 r1
      have hdp2 : 2 ≤ dp ∧ dp ≤ 7 := by simp at hdp; omega
      have Da := Dp8.pick hWa ka ta
      refine ⟨p, _, r, .int dp, rfl, rfl, SqL.of (ka _ _ np hq), hat, ?_⟩
      refine ⟨_, rfl, _, rfl, w, l, hd, la, na, R, dp.toNat, false, L, N, m', c + (1 + CB 8) * (8 - (i + 1)), by rw [show ((dp.toNat : Nat) : Int) = dp by omega]; rfl, Da, by omega, by omega, hL1, hL20, hN1, by omega, fun Hb v b m9 hv hvo hvn hvk _ hcb hrb kb tb => ?_⟩
      refine ⟨(by show 2 ≤ sizeLine; decide), fun z hz => ?_⟩
      have sz := same_new hz (.tup [.str nm, v])
      have Db := (Da.keep hcb hrb tb).same sz
      have hvb := sz _ _ (kb _ _ nD3 (ka _ _ nD hv1p))
      have tAll := ta.trans (tb.trans (Tk.same sz))
      have hfl : Ps.length = i := by
        have := congrArg List.length hfst
        rw [List.length_map, List.length_take] at this
        omega
      have hvl := dps_len hv2
      rw [List.length_map] at hvl
      have tD := Tk.put hvb (.lst (vs ++ [.ref z]))
      have kR : Kp [w, l] Ha Hb ∨ True := .inr trivial
      have kab : Kp [w, l] H Hb := fun qq o n e => by
        have e2 := (kp8.trans ka) _ _ n e
        refine kb _ _ (fun h => ?_) e2
        rcases List.mem_cons.mp h with rfl | h
        · exact n (by simp)
        · rcases List.mem_cons.mp h with rfl | h
          · exact n (by simp)
          · rw [List.mem_singleton.mp h, hRH] at e; cases e
      refine ⟨vs, hvb, Nat.lt_of_le_of_lt (show vs.length ≤ 8 by omega) (by decide), vs ++ [.ref z], Ps ++ [(nm, b)], m9, ?_, upd_same, ?_, ?_, ?_, ?_, kp_new (kab.trans (Kp.of_same sz)) hDH, (tp8.trans tAll).trans tD⟩
      · rw [List.map_append, hfst, List.take_succ, hnm]
        rfl
      · rw [List.map_append]
        refine dps_app ((tAll.trans tD).dps _ (tup_procs Ps) hv2p) (.cons ?_ .nil)
        exact .tup (tD.sqt (SqT.of upd_same)) (.cons (.str _) (.cons (((Tk.same sz).trans tD).dp (.tuple (ds b)) (tup_ds b) hv) .nil))
      · intro x hx
        unfold nsP at hx
        rw [List.map_append] at hx
        rcases List.mem_append.mp hx with h | h
        · exact hoks x h
        · cases List.mem_singleton.mp h
          exact ⟨hvo, (show ks b ≤ 8 by omega)⟩
      · unfold nsP at hns ⊢
        rw [List.map_append, nss_app]
        simp [nss]
        omega
      · exact Db.keep (Db.wl.upd nD) (by rw [upd_ne (Ne.symm nDR)]; exact Db.room) tD
    · rintro H8 ⟨vs, Ps, m', hfst, hv1, hv2, hoks, hns, D8, k8, t8⟩
      rw [List.length_map, List.take_length] at hfst
      refine ⟨Dd, _, rfl, .inl ⟨SqL.of hv1, fun pt hpt => ?_⟩⟩
      have s9 := same_new hpt (.tup vs)
      refine ⟨_, rfl, _, rfl, (by show 2 ≤ sizeLine; decide), fun ra hra => ?_⟩
      have sa := same_new hra (.tup [.ref la, .ref pt])
      have sAll := s9.trans sa
      have hkk : ∀ (bl : List (List St)), (∀ b ∈ bl, ks b ≤ 8) → kss bl ≤ 8 := fun bl => by
        induction bl with
        | nil => intro _; simp [kss]
        | cons z l ih =>
          intro h
          have h1 := h z (by simp)
          have h2 := ih fun b hb => h b (by simp [hb])
          rw [kss]
          omega
      have hk8 := hkk (nsP Ps) fun b hb => (hoks b hb).2
      have hlen : Ps.length = N.length := by rw [← hfst, List.length_map]
      have PG : Prog L Ps := ⟨by omega, by omega, by omega, by omega, Ln, by rw [hfst]; exact Nn, Ld, by rw [hfst]; exact Nd, fun b hb => by rw [hfst]; exact (hoks b hb).1, wdbs_n _ (by omega), by omega, by omega⟩
      refine q _ _ L Ps ⟨ra, la, .ref pt, rfl, SqT.of upd_same, D8.hl.tk (Tk.same sAll), .tup (SqT.of (sa _ _ upd_same)) ((Tk.same sAll).dps _ (tup_procs Ps) hv2)⟩ PG hk8 (by omega) ((D8.wl.le (by omega)).same sAll) (k8.trans (Kp.of_same sAll)) (t8.trans (Tk.same sAll))
end
end K09


set_option Elab.async false
set_option linter.all false
set_option maxRecDepth 100000
set_option maxHeartbeats 8000000
namespace K09
open PySem PySem.Spec PyProof.Rows L2
theorem sql_kp {K : PySem.W.Frag} {H H' : Hp} {a : Addr} {as : List Addr} {xs : List V} (h : SqL K H a xs) (k : Kp as H H') (n : a ∉ as) : SqL K H' a xs := by
  rcases h with (h | ⟨o, h⟩) | h
  · exact .inl (.inl (k _ _ n h))
  · exact .inl (.inr ⟨o, k _ _ n h⟩)
  · exact .inr h
/-! ### names for names -/
theorem Tk.putD {H : Hp} {a : Addr} {kvs : List (Key × V)} (h : H a = some (.dK kvs)) (o : HO) : Tk H (upd H a o) := fun p ys => by
  constructor
  · intro e
    rw [upd_ne (fun z => by rw [z, h] at e; cases e)]
    exact e
  · intro u e
    rw [upd_ne (fun z => by rw [z, h] at e; cases e)]
    exact e
theorem atI_lastB {α : Type} {xs : List α} {v : α} : atI (xs ++ [v]) (-1) = some v := by
  unfold atI ixN
  rw [List.length_append, if_neg (by decide), if_pos (by simp; omega)]
  show (xs ++ [v])[(-1 + ((xs.length + [v].length : Nat) : Int)).toNat]? = some v
  rw [show (-1 + ((xs.length + [v].length : Nat) : Int)).toNat = xs.length by simp; omega]
  simp
theorem look_mem {M : List (Str × Str)} {x y : Str} (h : M.lookup x = some y) : x ∈ M.map Prod.fst := by
  induction M with
  | nil => cases h
  | cons p r ih =>
    rw [List.lookup_cons] at h
    rw [List.map_cons]
    by_cases e : x = p.1
    · rw [e]; exact List.mem_cons_self
    · rw [beq_eq_false_iff_ne.mpr e] at h
      exact List.mem_cons_of_mem _ (ih h)
theorem look_none {M : List (Str × Str)} {x : Str} (h : M.lookup x = none) : x ∉ M.map Prod.fst := by
  intro z
  obtain ⟨p, hp, rfl⟩ := List.mem_map.mp z
  rw [List.lookup_eq_none_iff] at h
  have := h p hp
  simp at this
def DM (M : List (Str × Str)) : List (Key × V) := M.map fun p => ((Sum.inr p.1 : Key), V.str p.2)
theorem dm_val (M : List (Str × Str)) (x : Str) : valV (DM M) (Sum.inr x : Key) = (M.lookup x).map V.str := by
  unfold valV DM
  induction M with
  | nil => rfl
  | cons p r ih =>
    rw [List.map_cons, List.find?_cons, List.lookup_cons]
    by_cases h : x = p.1
    · subst h
      simp
    · have e1 : decide ((Sum.inr p.1 : Key) = Sum.inr x) = false := decide_eq_false (fun z => h (Sum.inr.inj z).symm)
      have e2 : (x == p.1) = false := beq_eq_false_iff_ne.mpr h
      rw [e1, e2]
      exact ih
theorem dm_put {M : List (Str × Str)} {x y : Str} (h : M.lookup x = none) : putK (DM M) (Sum.inr x : Key) (.str y) = DM (M ++ [(x, y)]) := by
  have e : ((DM M).any fun kv => decide (kv.1 = (Sum.inr x : Key))) = false := by
    rw [List.any_eq_false]
    intro kv hkv
    unfold DM at hkv
    obtain ⟨p, hp, rfl⟩ := List.mem_map.mp hkv
    rw [decide_eq_true_eq]
    intro z
    have hz := Sum.inr.inj z
    rw [List.lookup_eq_none_iff] at h
    have := h p hp
    simp [hz] at this
  unfold putK
  rw [e]
  show DM M ++ [_] = _
  unfold DM
  rw [List.map_append]
  rfl
section
variable {P : Program} {w : World} {K : PySem.W.Frag} {mg : Str → Option Value} {base : Heap}
def spPairing (K : PySem.W.Frag) : Sp := fun vs H Q _ => ∃ (w l x : Addr) (c : Nat) (X S : List Str), vs = [.ref w, .ref x] ∧ Wl H w l (c + 600) ∧ SqL K H x (X.map V.str) ∧ x ∉ [w, l] ∧ S.length ≤ 20 ∧ (∀ y ∈ X, y ∈ S) ∧ ∀ H' d M, H' d = some (.dK (DM M)) → H d = none → (∀ y ∈ X, y ∈ M.map Prod.fst) → (M.map Prod.fst).Nodup → (M.map Prod.snd).Nodup → Nok (M.map Prod.snd) → (∀ y ∈ M.map Prod.fst, y ∈ X) → Wl H' w l c → Kp [w, l] H H' → Tk H H' → Q (.ref d) H'
theorem sc__law_pairing : FnScope ["well", "names", "found", "taken", "old"] ["well", "names"] (C8.fnScope (topS 48)) := C8.fnScope_by (by decide +kernel)
theorem ok__law_pairing {f : Addr} {fd : FuncData} (F : C8.Def K mg "_law_pairing" (topS 48) f fd) (b : Binds K fd ["well", "names"] []) (B : Bl K mg) (c_name : C8.Cal P w K mg base 2 "_law_name" spName9 []) : C8.Cal P w K mg base 3 "_law_pairing" (spPairing K) [] := by
  refine C8.cal0 F b .nil sc__law_pairing ?len ?body
  case len => rintro vs H Q E ⟨w, l, x, c, X, S, rfl, _⟩; rfl
  case body =>
    rintro cdv A outer s H vs Q E hr ⟨w, l, x, c, X, S, rfl, hW, hx, nx, hS, hXS, q⟩
    refine ⟨_, (pss_cons (ps_par (i := 2) (j := 3) rfl sc__law_pairing.nd rfl rfl (by decide) rfl rfl (pa_cons pe_dnewK (pa_cons (pe_lst pa_nil) pa_nil)) (by with_unfolding_all rfl))
    (pss_cons (ps_for PassesOwn.never rfl (pi_list (pv 1)) (pg_name (i := 4) sc__law_pairing.nd rfl (Or.inl rfl))
    (pss_one (ps_if (pt_cmp (pc_dnotin (hu_of hr) (pv 4) (pv 2))) (pss_cons (ps_expr (pe_bm PySem.F.plainAttrs_list PySem.F.slot_list_append PySem.F.type_list_append mt_append (pv 3) (pa_cons (C8.pe_c c_name hr (by decide) rfl (pa_cons (pv 0) (pa_cons (pv 3) pa_nil))) pa_nil)))
    (pss_one (ps_dput (hu_of hr) (pv 2) (pv 4) (pe_ix ix_list (pv 3) (pe_un un_neg pe_int) (fun _ _ => rfl)) rfl))) pss_nil)))
    (pss_one (ps_ret (pv 2))))), ?_⟩
    intro d hd
    refine ⟨(by show 0 ≤ sizeLine; decide), fun t ht => ⟨_, _, rfl, ?_⟩⟩
    have sd := same_new hd (.dK [])
    have st := same_new ht (.lst [])
    have s2 := sd.trans st
    have nd := hW.out hd
    have nt := (hW.same sd).out ht
    have ndt : d ≠ t := fun z => by rw [← z, upd_same] at ht; cases ht
    have htH : H t = none := by
      cases e : H t with
      | none => rfl
      | some o => rw [sd _ _ e] at ht; cases ht
    have hd2 := st _ _ (upd_same (H := H) (a := d) (o := .dK []))
    have hx2 : ∀ (H' : Hp), Kp [w, l] H H' → SqL K H' x (X.map V.str) := fun H' k => sql_kp hx k nx
    refine ⟨_, rfl, x, rfl, ⟨_, hx2 _ (Kp.of_same s2)⟩, ?_⟩
    refine for_list (xs := X.map V.str) (fun i σ H' => ∃ (M : List (Str × Str)) (b4 : Option V), σ = [some (.ref w), some (.ref x), some (.ref d), some (.ref t), b4] ∧ H' d = some (.dK (DM M)) ∧ H' t = some (.lst ((M.map Prod.snd).map V.str)) ∧ (∀ y ∈ X.take i, y ∈ M.map Prod.fst) ∧ (M.map Prod.fst).Nodup ∧ (M.map Prod.snd).Nodup ∧ Nok (M.map Prod.snd) ∧ (∀ y ∈ M.map Prod.fst, y ∈ X) ∧ Wl H' w l (c + 30 * (20 - M.length)) ∧ Kp [w, l] H H' ∧ Tk H H')
      ⟨[], none, rfl, hd2, upd_same, by simp, List.nodup_nil, List.nodup_nil, fun y hy => (List.not_mem_nil hy).elim, by simp, (hW.same s2).le (by simp), Kp.of_same s2, Tk.same s2⟩ ?_ ?_ ?_
    · rintro i σ H' _ ⟨_, _, _, _, _, _, _, _, _, _, _, k, _⟩
      exact hx2 _ k
    · rintro i y _ H5 hy ⟨M, b4, rfl, hd5, ht5, hXM, hM1, hM2, hM3, hMX, hW5, k5, t5⟩
      obtain ⟨nm, hnm, rfl⟩ : ∃ z, X[i]? = some z ∧ y = .str z := by
        rw [List.getElem?_map] at hy
        cases e : X[i]? with
        | none => rw [e] at hy; cases hy
        | some s => rw [e] at hy; exact ⟨s, rfl, (Option.some.inj hy).symm⟩
      have hil := (List.getElem?_eq_some_iff.mp hnm).1
      have htake : X.take (i + 1) = X.take i ++ [nm] := by rw [List.take_succ, hnm]; rfl
      have hnmX : nm ∈ X := List.mem_of_getElem? hnm
      refine ⟨_, rfl, _, rfl, d, _, rfl, DGet.k (k := Sum.inr nm) hd5, _, rfl, ?_⟩
      rw [dm_val]
      cases e : M.lookup nm with
      | some y =>
        refine iteF ⟨M, _, rfl, hd5, ht5, fun z hz => ?_, hM1, hM2, hM3, hMX, hW5, k5, t5⟩
        rw [htake] at hz
        rcases List.mem_append.mp hz with h | h
        · exact hXM z h
        · cases List.mem_singleton.mp h
          exact look_mem e
      | none =>
        have nK : nm ∉ M.map Prod.fst := look_none e
        have hlt : M.length + 1 ≤ 20 := by
          have := len_sub (l := nm :: M.map Prod.fst) (m := S) (List.nodup_cons.mpr ⟨nK, hM1⟩) (fun z hz => by
            rcases List.mem_cons.mp hz with rfl | h
            · exact hXS _ hnmX
            · exact hXS z (hMX z h))
          rw [List.length_cons, List.length_map] at this
          omega
        obtain ⟨b, hb1, hb2⟩ : ∃ b, c + 30 * (20 - M.length) = b + 30 ∧ b = c + 30 * (20 - (M.length + 1)) := ⟨_, by omega, rfl⟩
        rw [hb1] at hW5
        refine iteT ⟨_, rfl, .inl ⟨rfl, _, SqL.of ht5⟩, _, rfl, _, rfl, w, l, t, b, M.map Prod.snd, rfl, hW5, ht5, nt, by rw [List.length_map]; omega, hM3, fun r H6 hr6 hrM hW6 k6 t6 => ?_⟩
        have ht6 := k6 _ _ nt ht5
        have hd6 := k6 _ _ nd hd5
        refine ⟨t, _, _, rfl, rfl, ht6, Nat.lt_of_le_of_lt (show _ ≤ 20 by rw [List.length_map, List.length_map]; omega) (by decide), ?_⟩
        have hd7 : upd H6 t (.lst ((M.map Prod.snd).map V.str ++ [.str r])) d = some (.dK (DM M)) := by rw [upd_ne ndt]; exact hd6
        refine ⟨_, rfl, 1, rfl, t, _, _, _, rfl, rfl, SqL.of upd_same, atI_lastB, ?_⟩
        refine ⟨_, rfl, _, rfl, d, _, rfl, DPut.k (k := Sum.inr nm) hd7 (Nat.lt_of_le_of_lt (show _ ≤ 20 by unfold DM; rw [List.length_map]; omega) (by decide)), ?_⟩
        rw [dm_put e]
        refine ⟨M ++ [(nm, r)], _, rfl, upd_same, ?_, fun z hz => ?_, ?_, ?_, ?_, fun z hz => ?_, ?_, kp_new (kp_new (k5.trans k6) htH) hd, ((t5.trans t6).trans (Tk.put ht6 _)).trans (Tk.putD hd7 _)⟩
        · rw [upd_ne (Ne.symm ndt), upd_same, List.map_append, List.map_append]
          rfl
        · rw [htake] at hz
          rw [List.map_append]
          rcases List.mem_append.mp hz with h | h
          · exact List.mem_append_left _ (hXM z h)
          · cases List.mem_singleton.mp h
            exact List.mem_append_right _ (by simp)
        · rw [List.map_append, List.nodup_append]
          refine ⟨hM1, by simp, fun z hz y hy => ?_⟩
          have : y = nm := by simpa using hy
          rw [this]
          rintro rfl
          exact nK hz
        · rw [List.map_append, List.nodup_append]
          refine ⟨hM2, by simp, fun z hz y hy => ?_⟩
          have : y = r := by simpa using hy
          rw [this]
          rintro rfl
          exact hrM hz
        · intro z hz
          rw [List.map_append] at hz
          rcases List.mem_append.mp hz with h | h
          · exact hM3 z h
          · have : z = r := by simpa using h
            rw [this]; exact hr6
        · rw [List.map_append] at hz
          rcases List.mem_append.mp hz with h | h
          · exact hMX z h
          · have : z = nm := by simpa using h
            rw [this]; exact hnmX
        · rw [List.length_append]
          rw [hb2] at hW6
          exact ((hW6.upd nt).upd nd)
    · rintro σ H5 ⟨M, b4, rfl, hd5, ht5, hXM, hM1, hM2, hM3, hMX, hW5, k5, t5⟩
      rw [List.length_map, List.take_length] at hXM
      exact ⟨_, rfl, q H5 d M hd5 hd hXM hM1 hM2 hM3 hMX (hW5.le (by omega)) k5 t5⟩
end
end K09


set_option Elab.async false
set_option linter.all false
set_option maxRecDepth 100000
set_option maxHeartbeats 8000000
namespace K09
open PySem PySem.Spec PyProof.Rows L2
def NO (K : PySem.W.Frag) (L N : List Str) (k : Nat) (H : Hp) (v : V) : Prop := ∃ (p la lb : Addr) (A B : List Str), v = .ref p ∧ SqT K H p [.ref la, .ref lb] ∧ H la = some (.lst (A.map V.str)) ∧ H lb = some (.lst (B.map V.str)) ∧ (∀ y ∈ A, y ∈ L) ∧ (∀ y ∈ B, y ∈ N) ∧ A.length ≤ k ∧ B.length ≤ k
theorem NO.same {K : PySem.W.Frag} {L N : List Str} {k : Nat} {H H' : Hp} {v : V} (h : NO K L N k H v) (s : Same H H') : NO K L N k H' v := by
  obtain ⟨p, la, lb, A, B, e, h1, h2, h3, h4⟩ := h
  exact ⟨p, la, lb, A, B, e, (Tk.same s).sqt h1, s _ _ h2, s _ _ h3, h4⟩
theorem NO.le {K : PySem.W.Frag} {L N : List Str} {k j : Nat} {H : Hp} {v : V} (h : NO K L N k H v) (e : k ≤ j) : NO K L N j H v := by
  obtain ⟨p, la, lb, A, B, e', h1, h2, h3, h4, h5, h6, h7⟩ := h
  exact ⟨p, la, lb, A, B, e', h1, h2, h3, h4, h5, by omega, by omega⟩
theorem n_of_bs (s : St) : s.n = 1 + nss s.bs := by
  cases s <;> simp [St.n, St.bs, nss]
theorem k_of_bs (s : St) : ∀ b ∈ s.bs, ks b < s.k := by
  intro b hb
  cases s with
  | ch bs => have := kss_mem (b := bs) hb; rw [St.k]; omega
  | lp c => have : b = c := by simpa [St.bs] using hb
            rw [this, St.k]; omega
  | en c e =>
    have : b = c ∨ b = e := by simpa [St.bs] using hb
    rw [St.k]
    rcases this with rfl | rfl <;> omega
  | _ => simp [St.bs] at hb
theorem nss_take {b : List (List St)} {i : Nat} {c : List St} (h : b[i]? = some c) : nss (b.take (i + 1)) = nss (b.take i) + ns c := by
  rw [List.take_succ, h]
  show nss (b.take i ++ [c]) = _
  rw [nss_app]
  simp [nss]
section
variable {P : Program} {w : World} {K : PySem.W.Frag} {mg : Str → Option Value} {base : Heap}
def spNO (K : PySem.W.Frag) (n : Nat) : Sp := fun vs H Q _ => ∃ v b L N sec, vs = [v] ∧ Dp K H v (.tuple (ds b)) ∧ ks b < n ∧ ns b ≤ 1000 ∧ oks L N sec b ∧ ∀ H' v', Same H H' → NO K L N (ns b) H' v' → Q v' H'
theorem sc__law_names_of : FnScope ["body", "found", "statement", "bodies", "inner", "more"] ["body"] (C8.fnScope (topS 49)) := C8.fnScope_by (by decide +kernel)
theorem ok_no {n : Nat} {f : Addr} {fd : FuncData} (F : C8.Def K mg "_law_names_of" (topS 49) f fd) (b : Binds K fd ["body"] []) (B : Bl K mg) (c_no : C8.Cal P w K mg base (n + 1) "_law_names_of" (spNO K n) []) : C8.Cal P w K mg base (n + 2) "_law_names_of" (spNO K (n + 1)) [] := by
  refine C8.cal0 F b .nil sc__law_names_of ?len ?body
  case len => rintro vs H Q E ⟨v, b, L, N, sec, rfl, _⟩; rfl
  case body =>
    rintro cdv A outer s H vs Q E hr ⟨v, b, L, N, sec, rfl, hd, hk, hn, hok, q⟩
    refine ⟨_, (pss_cons (ps_set (i := 1) sc__law_names_of.nd rfl (Or.inl rfl) (pe_tup (pa_cons (pe_lst pa_nil) (pa_cons (pe_lst pa_nil) pa_nil))))
    (pss_cons (ps_for PassesOwn.never rfl (pi_tup (pv 0)) (pg_name (i := 2) sc__law_names_of.nd rfl (Or.inl rfl))
    (pss_cons (ps_set (i := 3) sc__law_names_of.nd rfl (Or.inl rfl) (pe_tup pa_nil))
    (C8.pss_cut (ps_if (pt_cmpR op_in_seq (pe_ix ix_tup (pv 2) pe_int (fun _ _ => rfl)) (pe_tup (pa_cons pe_str (pa_cons pe_str pa_nil))) (by with_unfolding_all rfl)) (pss_one (ps_set (i := 1) sc__law_names_of.nd rfl (Or.inl rfl) (pe_tup (pa_cons (pe_op op_cat (pe_ix ix_tup (pv 1) pe_int (fun _ _ => rfl)) (pe_lst (pa_cons (pe_ix ix_tup (pv 2) pe_int (fun _ _ => rfl)) pa_nil))) (pa_cons (pe_ix ix_tup (pv 1) pe_int (fun _ _ => rfl)) pa_nil))))) (pss_one (ps_if (pt_cmpR op_eq (pe_ix ix_tup (pv 2) pe_int (fun _ _ => rfl)) pe_str (nomark _)) (pss_one (ps_set (i := 1) sc__law_names_of.nd rfl (Or.inl rfl) (pe_tup (pa_cons (pe_ix ix_tup (pv 1) pe_int (fun _ _ => rfl)) (pa_cons (pe_op op_cat (pe_ix ix_tup (pv 1) pe_int (fun _ _ => rfl)) (pe_lst (pa_cons (pe_ix ix_tup (pv 2) pe_int (fun _ _ => rfl)) pa_nil))) pa_nil))))) (pss_one (ps_if (pt_cmpR op_eq (pe_ix ix_tup (pv 2) pe_int (fun _ _ => rfl)) pe_str (nomark _)) (pss_one (ps_set (i := 3) sc__law_names_of.nd rfl (Or.inl rfl) (pe_ix ix_tup (pv 2) pe_int (fun _ _ => rfl)))) (pss_one (ps_set (i := 3) sc__law_names_of.nd rfl (Or.inl rfl) (pe_slice sl_tupA (pv 2) (po_some pe_int) po_none))))))))
    (pss_one (ps_for PassesOwn.never rfl (pi_tup (pv 3)) (pg_name (i := 4) sc__law_names_of.nd rfl (Or.inl rfl))
    (pss_cons (ps_set (i := 5) sc__law_names_of.nd rfl (Or.inl rfl) (C8.pe_c c_no hr (by omega) rfl (pa_cons (pv 4) pa_nil)))
    (pss_one (ps_set (i := 1) sc__law_names_of.nd rfl (Or.inl rfl) (pe_tup (pa_cons (pe_op op_cat (pe_ix ix_tup (pv 1) pe_int (fun _ _ => rfl)) (pe_ix ix_tup (pv 5) pe_int (fun _ _ => rfl))) (pa_cons (pe_op op_cat (pe_ix ix_tup (pv 1) pe_int (fun _ _ => rfl)) (pe_ix ix_tup (pv 5) pe_int (fun _ _ => rfl))) pa_nil)))))))))))
    (pss_one (ps_ret (pv 1))))), ?_⟩
    obtain ⟨a, xs, rfl, hs, ha, hl⟩ := len_ok hd
    have hlb : xs.length = b.length := by rw [hl, ds_len]
    refine ⟨(by show 0 ≤ sizeLine; decide), fun la hla => ⟨(by show 0 ≤ sizeLine; decide), fun lb hlb' => ⟨(by show 2 ≤ sizeLine; decide), fun p hp => ?_⟩⟩⟩
    have sa := same_new hla (.lst [])
    have sb := same_new hlb' (.lst [])
    have sp := same_new hp (.tup [.ref la, .ref lb])
    have s0 := sa.trans (sb.trans sp)
    have hno0 : NO K L N 0 (upd (upd (upd H la (.lst [])) lb (.lst [])) p (.tup [.ref la, .ref lb])) (.ref p) := ⟨p, la, lb, [], [], rfl, SqT.of upd_same, (sb.trans sp) _ _ upd_same, sp _ _ upd_same, fun y hy => (List.not_mem_nil hy).elim, fun y hy => (List.not_mem_nil hy).elim, Nat.le_refl _, Nat.le_refl _⟩
    refine ⟨_, rfl, a, rfl, ⟨_, (Tk.same s0).sqt hs⟩, ?_⟩
    refine for_tup (xs := xs) (fun i σ H' => ∃ fv b2 b3 b4 b5, σ = [some (.ref a), some fv, b2, b3, b4, b5] ∧ NO K L N (ns (b.take i)) H' fv ∧ Same H H') ⟨_, none, none, none, none, rfl, by simpa [ns] using hno0, s0⟩ ?_ ?_ ?_
    · rintro i σ H' _ ⟨_, _, _, _, _, _, _, s1⟩
      exact (Tk.same s1).sqt hs
    · rintro i x _ H1 hx ⟨fv, b2, b3, b4, b5, rfl, hno, s1⟩
      obtain ⟨dd, hdd, hdp⟩ := dps_get' ha hx
      obtain ⟨st, hsb, rfl⟩ := ds_get hdd
      have hsm : st ∈ b := List.mem_of_getElem? hsb
      have hso : st.ok L N sec := oks_iff.mp hok st hsm
      have hsk := ks_mem hsm
      have hnt := ns_take hsb
      have hnb0 := ns_take_le b i
      have hdp1 := (Tk.same s1).dp _ (tup_St st) hdp
      refine ⟨(by show 0 ≤ sizeLine; decide), fun bt hbt => ?_⟩
      have s2 := same_new hbt (.tup [])
      have hbt2 : SqT K (upd H1 bt (.tup [])) bt [] := SqT.of upd_same
      have hno2 := hno.same s2
      have hdp2 := (Tk.same s2).dp _ (tup_St st) hdp1
      have s02 := s1.trans s2
      generalize upd H1 bt (.tup []) = H2 at hbt2 hno2 hdp2 s02
      refine ⟨fun σ' H' => ∃ fv bv b4 b5 sv, σ' = [some (.ref a), some fv, some sv, some bv, b4, b5] ∧ NO K L N (ns (b.take i) + 1) H' fv ∧ Dp K H' bv (.tuple (dss st.bs)) ∧ Same H H', ?_, ?_⟩
      · cases st with
        | dd x =>
          obtain ⟨sa, sxs, rfl, hss, hsa, hsl⟩ := len_ok hdp2
          cases hsa with
          | cons h0 hsa =>
          cases h0
          refine ⟨_, rfl, _, _, _, _, rfl, rfl, hss, at0 _ _, (by show 2 ≤ sizeLine; decide), fun z1 hz1 => ⟨z1, _, rfl, .inr (SqT.of upd_same), rfl, rfl, _, rfl, ?_⟩⟩
          have sz := same_new hz1 (.tup [.str "do", .str "undo"])
          have hss1 := (Tk.same sz).sqt hss
          obtain ⟨p, la, lb, A1, B1, rfl, hp, hA, hB, hA1, hB1, hA2, hB2⟩ := hno2.same sz
          have hbt3 := (Tk.same sz).sqt hbt2
          have s03 := s02.trans sz
          have sz2 := sz
          generalize upd H2 z1 (.tup [.str "do", .str "undo"]) = H3 at hss1 hp hA hB hbt3 s03 sz2
          refine ifT (by decide +kernel) ?_
          cases hsa with
          | cons h1 hsa =>
          cases h1
          refine ⟨_, rfl, p, _, _, _, rfl, rfl, hp, at0 _ _, _, rfl, _, _, _, _, rfl, rfl, hss1, at1 _ _ _, (by show 1 ≤ sizeLine; decide), fun z2 hz2 => ?_⟩
          have s4 := same_new hz2 (.lst [.str x])
          refine ⟨la, z2, _, _, rfl, rfl, s4 _ _ hA, upd_same, Nat.le_trans (show _ ≤ 1001 by rw [List.length_map]; simp; omega) (by decide), fun z3 hz3 => ?_⟩
          have s5 := s4.trans (same_new hz3 (.lst (A1.map V.str ++ [.str x])))
          refine ⟨_, rfl, p, _, _, _, rfl, rfl, (Tk.same s5).sqt hp, at1 _ _ _, (by show 2 ≤ sizeLine; decide), fun z4 hz4 => ?_⟩
          have s6 := same_new hz4 (.tup [.ref z3, .ref lb])
          have hz3' := s6 _ _ (upd_same (H := upd H3 z2 (.lst [.str x])) (a := z3) (o := .lst (A1.map V.str ++ [.str x])))
          refine ⟨_, _, _, _, _, rfl, ⟨z4, z3, lb, A1 ++ [x], B1, rfl, SqT.of upd_same, by rw [hz3', List.map_append]; rfl, (s5.trans s6) _ _ hB, fun y hy => ?_, hB1, by rw [List.length_append]; simp; omega, by omega⟩, .tup ((Tk.same (s5.trans s6)).sqt hbt3) .nil, s03.trans (s5.trans s6)⟩
          rcases List.mem_append.mp hy with h | h
          · exact hA1 y h
          · cases List.mem_singleton.mp h
            exact hso
        | ud x =>
          obtain ⟨sa, sxs, rfl, hss, hsa, hsl⟩ := len_ok hdp2
          cases hsa with
          | cons h0 hsa =>
          cases h0
          refine ⟨_, rfl, _, _, _, _, rfl, rfl, hss, at0 _ _, (by show 2 ≤ sizeLine; decide), fun z1 hz1 => ⟨z1, _, rfl, .inr (SqT.of upd_same), rfl, rfl, _, rfl, ?_⟩⟩
          have sz := same_new hz1 (.tup [.str "do", .str "undo"])
          have hss1 := (Tk.same sz).sqt hss
          obtain ⟨p, la, lb, A1, B1, rfl, hp, hA, hB, hA1, hB1, hA2, hB2⟩ := hno2.same sz
          have hbt3 := (Tk.same sz).sqt hbt2
          have s03 := s02.trans sz
          have sz2 := sz
          generalize upd H2 z1 (.tup [.str "do", .str "undo"]) = H3 at hss1 hp hA hB hbt3 s03 sz2
          refine ifT (by decide +kernel) ?_
          cases hsa with
          | cons h1 hsa =>
          cases h1
          refine ⟨_, rfl, p, _, _, _, rfl, rfl, hp, at0 _ _, _, rfl, _, _, _, _, rfl, rfl, hss1, at1 _ _ _, (by show 1 ≤ sizeLine; decide), fun z2 hz2 => ?_⟩
          have s4 := same_new hz2 (.lst [.str x])
          refine ⟨la, z2, _, _, rfl, rfl, s4 _ _ hA, upd_same, Nat.le_trans (show _ ≤ 1001 by rw [List.length_map]; simp; omega) (by decide), fun z3 hz3 => ?_⟩
          have s5 := s4.trans (same_new hz3 (.lst (A1.map V.str ++ [.str x])))
          refine ⟨_, rfl, p, _, _, _, rfl, rfl, (Tk.same s5).sqt hp, at1 _ _ _, (by show 2 ≤ sizeLine; decide), fun z4 hz4 => ?_⟩
          have s6 := same_new hz4 (.tup [.ref z3, .ref lb])
          have hz3' := s6 _ _ (upd_same (H := upd H3 z2 (.lst [.str x])) (a := z3) (o := .lst (A1.map V.str ++ [.str x])))
          refine ⟨_, _, _, _, _, rfl, ⟨z4, z3, lb, A1 ++ [x], B1, rfl, SqT.of upd_same, by rw [hz3', List.map_append]; rfl, (s5.trans s6) _ _ hB, fun y hy => ?_, hB1, by rw [List.length_append]; simp; omega, by omega⟩, .tup ((Tk.same (s5.trans s6)).sqt hbt3) .nil, s03.trans (s5.trans s6)⟩
          rcases List.mem_append.mp hy with h | h
          · exact hA1 y h
          · cases List.mem_singleton.mp h
            exact hso
        | cl x =>
          obtain ⟨sa, sxs, rfl, hss, hsa, hsl⟩ := len_ok hdp2
          cases hsa with
          | cons h0 hsa =>
          cases h0
          refine ⟨_, rfl, _, _, _, _, rfl, rfl, hss, at0 _ _, (by show 2 ≤ sizeLine; decide), fun z1 hz1 => ⟨z1, _, rfl, .inr (SqT.of upd_same), rfl, rfl, _, rfl, ?_⟩⟩
          have sz := same_new hz1 (.tup [.str "do", .str "undo"])
          have hss1 := (Tk.same sz).sqt hss
          obtain ⟨p, la, lb, A1, B1, rfl, hp, hA, hB, hA1, hB1, hA2, hB2⟩ := hno2.same sz
          have hbt3 := (Tk.same sz).sqt hbt2
          have s03 := s02.trans sz
          have sz2 := sz
          generalize upd H2 z1 (.tup [.str "do", .str "undo"]) = H3 at hss1 hp hA hB hbt3 s03 sz2
          refine ifF (by decide +kernel) ?_
          refine ⟨_, rfl, _, _, _, _, rfl, rfl, hss1, at0 _ _, rfl, _, rfl, ?_⟩
          rw [dec_str]
          refine ifT (by decide +kernel) ?_
          cases hsa with
          | cons h1 hsa =>
          cases h1
          refine ⟨_, rfl, p, _, _, _, rfl, rfl, hp, at0 _ _, _, rfl, p, _, _, _, rfl, rfl, hp, at1 _ _ _, _, rfl, _, _, _, _, rfl, rfl, hss1, at1 _ _ _, (by show 1 ≤ sizeLine; decide), fun z2 hz2 => ?_⟩
          have s4 := same_new hz2 (.lst [.str x])
          refine ⟨lb, z2, _, _, rfl, rfl, s4 _ _ hB, upd_same, Nat.le_trans (show _ ≤ 1001 by rw [List.length_map]; simp; omega) (by decide), fun z3 hz3 => ?_⟩
          have s5 := s4.trans (same_new hz3 (.lst (B1.map V.str ++ [.str x])))
          refine ⟨(by show 2 ≤ sizeLine; decide), fun z4 hz4 => ?_⟩
          have s6 := same_new hz4 (.tup [.ref la, .ref z3])
          have hz3' := s6 _ _ (upd_same (H := upd H3 z2 (.lst [.str x])) (a := z3) (o := .lst (B1.map V.str ++ [.str x])))
          refine ⟨_, _, _, _, _, rfl, ⟨z4, la, z3, A1, B1 ++ [x], rfl, SqT.of upd_same, (s5.trans s6) _ _ hA, by rw [hz3', List.map_append]; rfl, hA1, fun y hy => ?_, by omega, by rw [List.length_append]; simp; omega⟩, .tup ((Tk.same (s5.trans s6)).sqt hbt3) .nil, s03.trans (s5.trans s6)⟩
          rcases List.mem_append.mp hy with h | h
          · exact hB1 y h
          · cases List.mem_singleton.mp h
            exact hso
        | ch bs =>
          obtain ⟨sa, sxs, rfl, hss, hsa, hsl⟩ := len_ok hdp2
          cases hsa with
          | cons h0 hsa =>
          cases h0
          refine ⟨_, rfl, _, _, _, _, rfl, rfl, hss, at0 _ _, (by show 2 ≤ sizeLine; decide), fun z1 hz1 => ⟨z1, _, rfl, .inr (SqT.of upd_same), rfl, rfl, _, rfl, ?_⟩⟩
          have sz := same_new hz1 (.tup [.str "do", .str "undo"])
          have hss1 := (Tk.same sz).sqt hss
          obtain ⟨p, la, lb, A1, B1, rfl, hp, hA, hB, hA1, hB1, hA2, hB2⟩ := hno2.same sz
          have hbt3 := (Tk.same sz).sqt hbt2
          have s03 := s02.trans sz
          have sz2 := sz
          generalize upd H2 z1 (.tup [.str "do", .str "undo"]) = H3 at hss1 hp hA hB hbt3 s03 sz2
          have hnoX : NO K L N (ns (b.take i) + 1) H3 (.ref p) := ⟨p, la, lb, A1, B1, rfl, hp, hA, hB, hA1, hB1, by omega, by omega⟩
          refine ifF (by decide +kernel) ?_
          refine ⟨_, rfl, _, _, _, _, rfl, rfl, hss1, at0 _ _, rfl, _, rfl, ?_⟩
          rw [dec_str]
          refine ifF (by decide +kernel) ?_
          refine ⟨_, rfl, _, _, _, _, rfl, rfl, hss1, at0 _ _, rfl, _, rfl, ?_⟩
          rw [dec_str]
          refine ifT (by decide +kernel) ?_
          cases hsa with
          | cons h1 hsa =>
          exact ⟨_, rfl, _, _, _, _, rfl, rfl, hss1, at1 _ _ _, _, _, _, _, _, rfl, hnoX, (Tk.same sz2).dp (.tuple (dss bs)) (tup_dss bs) h1, s03⟩
        | lp c =>
          obtain ⟨sa, sxs, rfl, hss, hsa, hsl⟩ := len_ok hdp2
          cases hsa with
          | cons h0 hsa =>
          cases h0
          refine ⟨_, rfl, _, _, _, _, rfl, rfl, hss, at0 _ _, (by show 2 ≤ sizeLine; decide), fun z1 hz1 => ⟨z1, _, rfl, .inr (SqT.of upd_same), rfl, rfl, _, rfl, ?_⟩⟩
          have sz := same_new hz1 (.tup [.str "do", .str "undo"])
          have hss1 := (Tk.same sz).sqt hss
          obtain ⟨p, la, lb, A1, B1, rfl, hp, hA, hB, hA1, hB1, hA2, hB2⟩ := hno2.same sz
          have hbt3 := (Tk.same sz).sqt hbt2
          have s03 := s02.trans sz
          have sz2 := sz
          generalize upd H2 z1 (.tup [.str "do", .str "undo"]) = H3 at hss1 hp hA hB hbt3 s03 sz2
          have hnoX : NO K L N (ns (b.take i) + 1) H3 (.ref p) := ⟨p, la, lb, A1, B1, rfl, hp, hA, hB, hA1, hB1, by omega, by omega⟩
          refine ifF (by decide +kernel) ?_
          refine ⟨_, rfl, _, _, _, _, rfl, rfl, hss1, at0 _ _, rfl, _, rfl, ?_⟩
          rw [dec_str]
          refine ifF (by decide +kernel) ?_
          refine ⟨_, rfl, _, _, _, _, rfl, rfl, hss1, at0 _ _, rfl, _, rfl, ?_⟩
          rw [dec_str]
          refine ifF (by decide +kernel) ?_
          cases hsa with
          | @cons v1 _ _ _ h1 hsa =>
          cases hsa
          refine ⟨_, rfl, 1, rfl, _, _, rfl, hss1, fun w => ?_, fun _ r hr2 => ?_⟩
          · exact absurd w.1 (by show ¬ (HT.sIx 2 0 (some 1) = 0); decide)
          · have s4 := same_new hr2 (.tup [v1])
            exact ⟨_, _, _, _, _, rfl, hnoX.same s4, .tup (SqT.of upd_same) (.cons ((Tk.same (sz2.trans s4)).dp (.tuple (ds c)) (tup_ds c) h1) .nil), s03.trans s4⟩
        | rt =>
          obtain ⟨sa, sxs, rfl, hss, hsa, hsl⟩ := len_ok hdp2
          cases hsa with
          | cons h0 hsa =>
          cases h0
          refine ⟨_, rfl, _, _, _, _, rfl, rfl, hss, at0 _ _, (by show 2 ≤ sizeLine; decide), fun z1 hz1 => ⟨z1, _, rfl, .inr (SqT.of upd_same), rfl, rfl, _, rfl, ?_⟩⟩
          have sz := same_new hz1 (.tup [.str "do", .str "undo"])
          have hss1 := (Tk.same sz).sqt hss
          obtain ⟨p, la, lb, A1, B1, rfl, hp, hA, hB, hA1, hB1, hA2, hB2⟩ := hno2.same sz
          have hbt3 := (Tk.same sz).sqt hbt2
          have s03 := s02.trans sz
          have sz2 := sz
          generalize upd H2 z1 (.tup [.str "do", .str "undo"]) = H3 at hss1 hp hA hB hbt3 s03 sz2
          have hnoX : NO K L N (ns (b.take i) + 1) H3 (.ref p) := ⟨p, la, lb, A1, B1, rfl, hp, hA, hB, hA1, hB1, by omega, by omega⟩
          refine ifF (by decide +kernel) ?_
          refine ⟨_, rfl, _, _, _, _, rfl, rfl, hss1, at0 _ _, rfl, _, rfl, ?_⟩
          rw [dec_str]
          refine ifF (by decide +kernel) ?_
          refine ⟨_, rfl, _, _, _, _, rfl, rfl, hss1, at0 _ _, rfl, _, rfl, ?_⟩
          rw [dec_str]
          refine ifF (by decide +kernel) ?_
          cases hsa
          refine ⟨_, rfl, 1, rfl, _, _, rfl, hss1, fun w => ?_, fun _ r hr2 => ?_⟩
          · exact absurd w.1 (by show ¬ (HT.sIx 1 0 (some 1) = 0); decide)
          · have s4 := same_new hr2 (.tup [])
            exact ⟨_, _, _, _, _, rfl, hnoX.same s4, .tup (SqT.of upd_same) .nil, s03.trans s4⟩
        | en c e =>
          obtain ⟨sa, sxs, rfl, hss, hsa, hsl⟩ := len_ok hdp2
          cases hsa with
          | cons h0 hsa =>
          cases h0
          refine ⟨_, rfl, _, _, _, _, rfl, rfl, hss, at0 _ _, (by show 2 ≤ sizeLine; decide), fun z1 hz1 => ⟨z1, _, rfl, .inr (SqT.of upd_same), rfl, rfl, _, rfl, ?_⟩⟩
          have sz := same_new hz1 (.tup [.str "do", .str "undo"])
          have hss1 := (Tk.same sz).sqt hss
          obtain ⟨p, la, lb, A1, B1, rfl, hp, hA, hB, hA1, hB1, hA2, hB2⟩ := hno2.same sz
          have hbt3 := (Tk.same sz).sqt hbt2
          have s03 := s02.trans sz
          have sz2 := sz
          generalize upd H2 z1 (.tup [.str "do", .str "undo"]) = H3 at hss1 hp hA hB hbt3 s03 sz2
          have hnoX : NO K L N (ns (b.take i) + 1) H3 (.ref p) := ⟨p, la, lb, A1, B1, rfl, hp, hA, hB, hA1, hB1, by omega, by omega⟩
          refine ifF (by decide +kernel) ?_
          refine ⟨_, rfl, _, _, _, _, rfl, rfl, hss1, at0 _ _, rfl, _, rfl, ?_⟩
          rw [dec_str]
          refine ifF (by decide +kernel) ?_
          refine ⟨_, rfl, _, _, _, _, rfl, rfl, hss1, at0 _ _, rfl, _, rfl, ?_⟩
          rw [dec_str]
          refine ifF (by decide +kernel) ?_
          cases hsa with
          | @cons v1 _ _ _ h1 hsa =>
          cases hsa with
          | @cons v2 _ _ _ h2 hsa =>
          cases hsa
          refine ⟨_, rfl, 1, rfl, _, _, rfl, hss1, fun w => ?_, fun _ r hr2 => ?_⟩
          · exact absurd w.1 (by show ¬ (HT.sIx 3 0 (some 1) = 0); decide)
          · have s4 := same_new hr2 (.tup [v1, v2])
            exact ⟨_, _, _, _, _, rfl, hnoX.same s4, .tup (SqT.of upd_same) (.cons ((Tk.same (sz2.trans s4)).dp (.tuple (ds c)) (tup_ds c) h1) (.cons ((Tk.same (sz2.trans s4)).dp (.tuple (ds e)) (tup_ds e) h2) .nil)), s03.trans s4⟩
      · rintro _ H3 ⟨fv, bv, b4, b5, sv, rfl, hno3, hbv, s3⟩
        obtain ⟨ba, bxs, rfl, hbs, hba, hbl⟩ := len_ok hbv
        refine ⟨_, rfl, ba, rfl, ⟨_, hbs⟩, ?_⟩
        refine for_tup (xs := bxs) (fun j σ H' => ∃ fv b4 b5, σ = [some (.ref a), some fv, some sv, some (.ref ba), b4, b5] ∧ NO K L N (ns (b.take i) + 1 + nss (st.bs.take j)) H' fv ∧ Same H3 H') ⟨fv, b4, b5, rfl, by simpa [nss] using hno3, fun _ _ e => e⟩ ?_ ?_ ?_
        · rintro j σ H' _ ⟨_, _, _, _, _, s4⟩
          exact (Tk.same s4).sqt hbs
        · rintro j y _ H4 hy ⟨fv, b4, b5, rfl, hno4, s4⟩
          obtain ⟨dd, hdd, hdp5⟩ := dps_get' hba hy
          obtain ⟨c, hcb, rfl⟩ : ∃ c, st.bs[j]? = some c ∧ dd = .tuple (ds c) := by
            rw [dss_map, List.getElem?_map] at hdd
            cases e : st.bs[j]? with
            | none => rw [e] at hdd; cases hdd
            | some c => rw [e] at hdd; exact ⟨c, rfl, (Option.some.inj hdd).symm⟩
          have hcm : c ∈ st.bs := List.mem_of_getElem? hcb
          obtain ⟨sec', hco⟩ := ok_bs hso c hcm
          have hck := k_of_bs st c hcm
          have hcn := nss_mem hcm
          have hsn := n_of_bs st
          have hnb := ns_take_le b (i + 1)
          refine ⟨_, rfl, y, c, L, N, sec', rfl, (Tk.same s4).dp (.tuple (ds c)) (tup_ds c) hdp5, by omega, by omega, hco, fun H5 mv s5 hmv => ?_⟩
          obtain ⟨p, la, lb, A1, B1, rfl, hp, hA, hB, hA1, hB1, hA2, hB2⟩ := hno4.same s5
          obtain ⟨mp, ma, mb, A2, B2, rfl, hmp, hmA, hmB, gA, gB, lA, lB⟩ := hmv
          have hta := nss_take hcb
          have htb := nss_take_le st.bs (j + 1)
          refine ⟨_, rfl, p, _, _, _, rfl, rfl, hp, at0 _ _, _, rfl, mp, _, _, _, rfl, rfl, hmp, at0 _ _, la, ma, _, _, rfl, rfl, hA, hmA, Nat.le_trans (show _ ≤ 3000 by rw [List.length_map, List.length_map]; omega) (by decide), fun z1 hz1 => ?_⟩
          have s6 := same_new hz1 (.lst (A1.map V.str ++ A2.map V.str))
          refine ⟨_, rfl, p, _, _, _, rfl, rfl, (Tk.same s6).sqt hp, at1 _ _ _, _, rfl, mp, _, _, _, rfl, rfl, (Tk.same s6).sqt hmp, at1 _ _ _, lb, mb, _, _, rfl, rfl, s6 _ _ hB, s6 _ _ hmB, Nat.le_trans (show _ ≤ 3000 by rw [List.length_map, List.length_map]; omega) (by decide), fun z2 hz2 => ⟨(by show 2 ≤ sizeLine; decide), fun z3 hz3 => ?_⟩⟩
          have s7 := same_new hz2 (.lst (B1.map V.str ++ B2.map V.str))
          have s8 := same_new hz3 (.tup [.ref z1, .ref z2])
          have e1 := (s7.trans s8) _ _ (upd_same (H := H5) (a := z1) (o := .lst (A1.map V.str ++ A2.map V.str)))
          have e2 := s8 _ _ (upd_same (a := z2) (o := .lst (B1.map V.str ++ B2.map V.str)))
          refine ⟨_, _, _, rfl, ⟨z3, z1, z2, A1 ++ A2, B1 ++ B2, rfl, SqT.of upd_same, by rw [e1, List.map_append], by rw [e2, List.map_append], fun q hq => ?_, fun q hq => ?_, by rw [List.length_append]; omega, by rw [List.length_append]; omega⟩, s4.trans (s5.trans (s6.trans (s7.trans s8)))⟩
          · exact (List.mem_append.mp hq).elim (hA1 q) (gA q)
          · exact (List.mem_append.mp hq).elim (hB1 q) (gB q)
        · rintro σ H4 ⟨fv, b4, b5, rfl, hno4, s4⟩
          have hj : bxs.length = st.bs.length := by rw [hbl, dss_len]
          rw [hj, List.take_length] at hno4
          have := n_of_bs st
          exact ⟨_, _, _, _, _, rfl, hno4.le (by omega), s3.trans s4⟩
    · rintro σ H1 ⟨fv, b2, b3, b4, b5, rfl, hno, s1⟩
      rw [hlb, List.take_length] at hno
      exact ⟨_, rfl, q H1 _ s1 hno⟩
end
end K09


set_option Elab.async false
set_option linter.all false
set_option maxRecDepth 100000
set_option maxHeartbeats 8000000
namespace K09
open PySem PySem.Spec PyProof.Rows L2
theorem no_pad : True := trivial
mutual
def St.ren (f g : Str → Str) : St → St
  | .dd x => .dd (f x)
  | .ud x => .ud (f x)
  | .cl x => .cl (g x)
  | .ch bs => .ch (renss f g bs)
  | .lp b => .lp (rens f g b)
  | .rt => .rt
  | .en b c => .en (rens f g b) (rens f g c)
def rens (f g : Str → Str) : List St → List St
  | [] => []
  | s :: r => s.ren f g :: rens f g r
def renss (f g : Str → Str) : List (List St) → List (List St)
  | [] => []
  | b :: r => rens f g b :: renss f g r
end
theorem rens_map (f g : Str → Str) : ∀ b : List St, rens f g b = b.map (St.ren f g)
  | [] => rfl
  | s :: r => by rw [rens, rens_map f g r]; rfl
theorem renss_map (f g : Str → Str) : ∀ b : List (List St), renss f g b = b.map (rens f g)
  | [] => rfl
  | s :: r => by rw [renss, renss_map f g r]; rfl
mutual
theorem ren_n (f g : Str → Str) : ∀ s : St, (s.ren f g).n = s.n ∧ (s.ren f g).k = s.k
  | .dd _ | .ud _ | .cl _ | .rt => ⟨rfl, rfl⟩
  | .ch bs => by have := ren_nss f g bs; simp [St.ren, St.n, St.k, this.1, this.2]
  | .lp b => by have := ren_ns f g b; simp [St.ren, St.n, St.k, this.1, this.2]
  | .en b c => by have := ren_ns f g b; have h := ren_ns f g c; simp [St.ren, St.n, St.k, this.1, this.2, h.1, h.2]
theorem ren_ns (f g : Str → Str) : ∀ b : List St, ns (rens f g b) = ns b ∧ ks (rens f g b) = ks b
  | [] => ⟨rfl, rfl⟩
  | s :: r => by have := ren_n f g s; have h := ren_ns f g r; simp [rens, ns, ks, this.1, this.2, h.1, h.2]
theorem ren_nss (f g : Str → Str) : ∀ b : List (List St), nss (renss f g b) = nss b ∧ kss (renss f g b) = kss b
  | [] => ⟨rfl, rfl⟩
  | s :: r => by have := ren_ns f g s; have h := ren_nss f g r; simp [renss, nss, kss, this.1, this.2, h.1, h.2]
end
mutual
theorem ren_ok {L N L' N' : List Str} {f g : Str → Str} (hf : ∀ x ∈ L, f x ∈ L') (hg : ∀ x ∈ N, g x ∈ N') : ∀ (s : St) (sec : Bool), s.ok L N sec → (s.ren f g).ok L' N' sec
  | .dd x, _, h => hf x h
  | .ud x, _, h => hf x h
  | .cl x, _, h => hg x h
  | .ch bs, sec, h => by
    have hl : (renss f g bs).length = bs.length := by rw [renss_map, List.length_map]
    exact ⟨by rw [hl]; exact h.1, by rw [hl]; exact h.2.1, ren_okss hf hg bs sec h.2.2⟩
  | .lp b, sec, h => ren_oks hf hg b sec h
  | .rt, _, h => h
  | .en b c, sec, h => ⟨ren_oks hf hg b sec h.1, ren_oks hf hg c true h.2⟩
theorem ren_oks {L N L' N' : List Str} {f g : Str → Str} (hf : ∀ x ∈ L, f x ∈ L') (hg : ∀ x ∈ N, g x ∈ N') : ∀ (b : List St) (sec : Bool), oks L N sec b → oks L' N' sec (rens f g b)
  | [], _, _ => trivial
  | s :: r, sec, h => ⟨ren_ok hf hg s sec h.1, ren_oks hf hg r sec h.2⟩
theorem ren_okss {L N L' N' : List Str} {f g : Str → Str} (hf : ∀ x ∈ L, f x ∈ L') (hg : ∀ x ∈ N, g x ∈ N') : ∀ (b : List (List St)) (sec : Bool), okss L N sec b → okss L' N' sec (renss f g b)
  | [], _, _ => trivial
  | s :: r, sec, h => ⟨ren_oks hf hg s sec h.1, ren_okss hf hg r sec h.2⟩
end
theorem rens_snoc (f g : Str → Str) (b : List St) (s : St) : rens f g (b ++ [s]) = rens f g b ++ [s.ren f g] := by rw [rens_map, rens_map, List.map_append]; rfl
theorem tail0 (x : V) : cutV [x] (some 1) none = [] := rfl
theorem renss_snoc (f g : Str → Str) (b : List (List St)) (s : List St) : renss f g (b ++ [s]) = renss f g b ++ [rens f g s] := by rw [renss_map, renss_map, List.map_append]; rfl
/-- what a dict of names tells -/
def fn (M : List (Str × Str)) (x : Str) : Str := (M.lookup x).getD ""
theorem fn_val {M : List (Str × Str)} {x : Str} (h : x ∈ M.map Prod.fst) : valV (DM M) (Sum.inr x : Key) = some (.str (fn M x)) := by
  rw [dm_val]
  unfold fn
  cases e : M.lookup x with
  | none => exact absurd h (look_none e)
  | some y => rfl
section
variable {P : Program} {w : World} {K : PySem.W.Frag} {mg : Str → Option Value} {base : Heap}
def spTB (K : PySem.W.Frag) (n : Nat) : Sp := fun vs H Q _ => ∃ v pr d0 d1 b L N sec M0 M1, vs = [v, .ref pr] ∧ Dp K H v (.tuple (ds b)) ∧ H pr = some (.lst [.ref d0, .ref d1]) ∧ H d0 = some (.dK (DM M0)) ∧ H d1 = some (.dK (DM M1)) ∧ (∀ x ∈ L, x ∈ M0.map Prod.fst) ∧ (∀ x ∈ N, x ∈ M1.map Prod.fst) ∧ ks b < n ∧ b.length ≤ 1000 ∧ ns b ≤ 1000 ∧ oks L N sec b ∧ ∀ H' v', Same H H' → Dp K H' v' (.tuple (ds (rens (fn M0) (fn M1) b))) → Q v' H'
theorem sc__law_turned_body : FnScope ["body", "pairs", "found", "statement", "word", "inner"] ["body", "pairs"] (C8.fnScope (topS 50)) := C8.fnScope_by (by decide +kernel)
theorem ok_tb {n : Nat} {f : Addr} {fd : FuncData} (F : C8.Def K mg "_law_turned_body" (topS 50) f fd) (b : Binds K fd ["body", "pairs"] []) (B : Bl K mg) (c_tb : C8.Cal P w K mg base (n + 1) "_law_turned_body" (spTB K n) []) : C8.Cal P w K mg base (n + 2) "_law_turned_body" (spTB K (n + 1)) [] := by
  refine C8.cal0 F b .nil sc__law_turned_body ?len ?body
  case len => rintro vs H Q E ⟨v, pr, d0, d1, b, L, N, sec, M0, M1, rfl, _⟩; rfl
  case body =>
    rintro cdv A outer s H vs Q E hr ⟨v, pr, d0, d1, b, L, N, sec, M0, M1, rfl, hd, hpr, hd0, hd1, hL0, hN1, hk, hbl, hn, hok, q⟩
    refine ⟨_, (pss_cons (ps_set (i := 2) sc__law_turned_body.nd rfl (Or.inl rfl) (pe_lst pa_nil))
    (pss_cons (ps_for PassesOwn.never rfl (pi_tup (pv 0)) (pg_name (i := 3) sc__law_turned_body.nd rfl (Or.inl rfl))
    (pss_cons (ps_set (i := 4) sc__law_turned_body.nd rfl (Or.inl rfl) (pe_ix ix_tup (pv 3) pe_int (fun _ _ => rfl)))
    (pss_one (ps_if (pt_cmpR op_in_seq (pv 4) (pe_tup (pa_cons pe_str (pa_cons pe_str pa_nil))) (by with_unfolding_all rfl)) (pss_one (ps_expr (pe_bm PySem.F.plainAttrs_list PySem.F.slot_list_append PySem.F.type_list_append mt_append (pv 2) (pa_cons (pe_tup (pa_cons (pv 4) (pa_cons (pe_dget (hu_of hr) (pe_ix ix_list (pv 1) pe_int (fun _ _ => rfl)) (pe_ix ix_tup (pv 3) pe_int (fun _ _ => rfl)) (fun _ _ => rfl)) pa_nil))) pa_nil)))) (pss_one (ps_if (pt_cmpR op_eq (pv 4) pe_str (nomark _)) (pss_one (ps_expr (pe_bm PySem.F.plainAttrs_list PySem.F.slot_list_append PySem.F.type_list_append mt_append (pv 2) (pa_cons (pe_tup (pa_cons (pv 4) (pa_cons (pe_dget (hu_of hr) (pe_ix ix_list (pv 1) pe_int (fun _ _ => rfl)) (pe_ix ix_tup (pv 3) pe_int (fun _ _ => rfl)) (fun _ _ => rfl)) pa_nil))) pa_nil)))) (pss_one (ps_if (pt_cmpR op_eq (pv 4) pe_str (nomark _)) (pss_one (ps_expr (pe_bm PySem.F.plainAttrs_list PySem.F.slot_list_append PySem.F.type_list_append mt_append (pv 2) (pa_cons (pe_tup (pa_cons (pv 4) (pa_cons (pe_callTy call_tuple_of rfl B.tuple (by decide +kernel) (pa_cons (pe_lc (own := [("inner", 5)]) (g := gName 5) (te := tCall (spTB K n) [] C8.E0 (tCons (tVar 5) (tCons (tVar 1) tNil))) (by rfl) sc__law_turned_body.nd (pi_tup (pe_ix ix_tup (pv 3) pe_int (fun _ _ => rfl))) (blkOk_by (own := [("inner", 5)]) (N := ["body", "pairs", "found", "statement", "word", "inner"]) (sc := (C8.fnScope (topS 50))) (by decide +kernel)) (fun _ _ _ _ _ => pg_name (i := 5) sc__law_turned_body.nd rfl (Or.inl rfl)) (fun _ _ _ _ _ => pts_nil) (fun _ _ _ _ _ => by exact (C8.pe_c c_tb hr (by omega) rfl (pa_cons (pv 5) (pa_cons (pv 1) pa_nil))))) pa_nil)) pa_nil))) pa_nil)))) (pss_one (ps_expr (pe_bm PySem.F.plainAttrs_list PySem.F.slot_list_append PySem.F.type_list_append mt_append (pv 2) (pa_cons (pe_op op_catA (pe_tup (pa_cons (pv 4) pa_nil)) (pe_callTy call_tuple_of rfl B.tuple (by decide +kernel) (pa_cons (pe_lc (own := [("inner", 5)]) (g := gName 5) (te := tCall (spTB K n) [] C8.E0 (tCons (tVar 5) (tCons (tVar 1) tNil))) (by rfl) sc__law_turned_body.nd (pi_tup (pe_slice sl_tupA (pv 3) (po_some pe_int) po_none)) (blkOk_by (own := [("inner", 5)]) (N := ["body", "pairs", "found", "statement", "word", "inner"]) (sc := (C8.fnScope (topS 50))) (by decide +kernel)) (fun _ _ _ _ _ => pg_name (i := 5) sc__law_turned_body.nd rfl (Or.inl rfl)) (fun _ _ _ _ _ => pts_nil) (fun _ _ _ _ _ => by exact (C8.pe_c c_tb hr (by omega) rfl (pa_cons (pv 5) (pa_cons (pv 1) pa_nil))))) pa_nil))) pa_nil))))))))))))
    (pss_one (ps_ret (pe_callTy call_tuple_of rfl B.tuple (by decide +kernel) (pa_cons (pv 2) pa_nil)))))), ?_⟩
    obtain ⟨a, xs, rfl, hs, ha, hl⟩ := len_ok hd
    have hlb : xs.length = b.length := by rw [hl, ds_len]
    refine ⟨(by show 0 ≤ sizeLine; decide), fun F hF => ?_⟩
    have s0 := same_new hF (.lst [])
    have nF : ∀ q o, H q = some o → q ≠ F := fun q o e z => by rw [z, hF] at e; cases e
    refine ⟨_, rfl, a, rfl, ⟨_, (Tk.same s0).sqt hs⟩, ?_⟩
    refine for_tup (xs := xs) (fun i σ H' => ∃ b3 b4 b5 vs, σ = [some (.ref a), some (.ref pr), some (.ref F), b3, b4, b5] ∧ H' F = some (.lst vs) ∧ DpAll K H' vs (ds (rens (fn M0) (fn M1) (b.take i))) ∧ Same H H') ⟨none, none, none, [], rfl, upd_same, .nil, s0⟩ ?_ ?_ ?_
    · rintro i σ H' _ ⟨_, _, _, _, _, _, _, s1⟩
      exact (Tk.same s1).sqt hs
    · rintro i x _ H1 hx ⟨b3, b4, b5, vs, rfl, hF1, hv1, s1⟩
      obtain ⟨dd, hdd, hdp⟩ := dps_get' ha hx
      obtain ⟨st, hsb, rfl⟩ := ds_get hdd
      have hsm : st ∈ b := List.mem_of_getElem? hsb
      have hso : st.ok L N sec := oks_iff.mp hok st hsm
      have hsk := ks_mem hsm
      have hnt := ns_take hsb
      have hnb := ns_take_le b (i + 1)
      have hsn := n_of_bs st
      have hdp1 := (Tk.same s1).dp _ (tup_St st) hdp
      have hil := (List.getElem?_eq_some_iff.mp hsb).1
      have hvl := dps_len hv1
      rw [ds_len, rens_map, List.length_map, List.length_take] at hvl
      have htake : b.take (i + 1) = b.take i ++ [st] := by rw [List.take_succ, hsb]; rfl
      cases st with
        | dd x =>
          obtain ⟨sa, sxs, rfl, hss, hsa, hsl⟩ := len_ok hdp1
          cases hsa with
          | cons h0 hsa =>
          cases h0
          refine ⟨_, rfl, _, _, _, _, rfl, rfl, hss, at0 _ _, ?_⟩
          refine ⟨_, rfl, (by show 2 ≤ sizeLine; decide), fun z1 hz1 => ⟨z1, _, rfl, .inr (SqT.of upd_same), rfl, rfl, _, rfl, ?_⟩⟩
          have sz := same_new hz1 (.tup [.str "do", .str "undo"])
          have hss1 := (Tk.same sz).sqt hss
          have hF2 := sz _ _ hF1
          have hv2 := (Tk.same sz).dps _ (tup_ds _) hv1
          have s02 := s1.trans sz
          have t12 : Tk H1 (upd H1 z1 (.tup [.str "do", .str "undo"])) := Tk.same sz
          generalize upd H1 z1 (.tup [.str "do", .str "undo"]) = H2 at hss1 hF2 hv2 s02 t12
          refine ifT (by decide +kernel) ?_
          cases hsa with
          | cons h1 hsa =>
          cases h1
          have dg : DGet H2 d0 (.str x) (some (.str (fn M0 x))) := by
            have := DGet.k (k := Sum.inr x) (s02 _ _ hd0)
            rw [fn_val (hL0 x hso)] at this
            exact this
          refine ⟨_, rfl, .inl ⟨rfl, _, SqL.of hF2⟩, _, rfl, _, rfl, pr, _, _, _, rfl, rfl, SqL.of (s02 _ _ hpr), at0 _ _, _, rfl, _, _, _, _, rfl, rfl, hss1, at1 _ _ _, d0, _, rfl, dg, (by show 2 ≤ sizeLine; decide), fun z3 hz3 => ?_⟩
          have s3 := same_new hz3 (.tup [.str "do", .str (fn M0 x)])
          refine ⟨F, _, _, rfl, rfl, (s3) _ _ hF2, Nat.lt_of_le_of_lt (show vs.length ≤ 1000 by omega) (by decide), ?_⟩
          have tP := Tk.put ((s3) _ _ hF2) (.lst (vs ++ [.ref z3]))
          refine ⟨_, _, _, vs ++ [.ref z3], rfl, upd_same, ?_, fun qq oo e => by rw [upd_ne (nF qq oo e)]; exact (s02.trans (s3)) _ _ e⟩
          rw [htake, rens_snoc, ds_snoc]
          refine dps_app (((Tk.same (s3)).trans tP).dps _ (tup_ds _) hv2) (.cons ?_ .nil)
          exact .tup (tP.sqt (SqT.of upd_same)) (.cons (.str _) (.cons (.str _) .nil))
        | ud x =>
          obtain ⟨sa, sxs, rfl, hss, hsa, hsl⟩ := len_ok hdp1
          cases hsa with
          | cons h0 hsa =>
          cases h0
          refine ⟨_, rfl, _, _, _, _, rfl, rfl, hss, at0 _ _, ?_⟩
          refine ⟨_, rfl, (by show 2 ≤ sizeLine; decide), fun z1 hz1 => ⟨z1, _, rfl, .inr (SqT.of upd_same), rfl, rfl, _, rfl, ?_⟩⟩
          have sz := same_new hz1 (.tup [.str "do", .str "undo"])
          have hss1 := (Tk.same sz).sqt hss
          have hF2 := sz _ _ hF1
          have hv2 := (Tk.same sz).dps _ (tup_ds _) hv1
          have s02 := s1.trans sz
          have t12 : Tk H1 (upd H1 z1 (.tup [.str "do", .str "undo"])) := Tk.same sz
          generalize upd H1 z1 (.tup [.str "do", .str "undo"]) = H2 at hss1 hF2 hv2 s02 t12
          refine ifT (by decide +kernel) ?_
          cases hsa with
          | cons h1 hsa =>
          cases h1
          have dg : DGet H2 d0 (.str x) (some (.str (fn M0 x))) := by
            have := DGet.k (k := Sum.inr x) (s02 _ _ hd0)
            rw [fn_val (hL0 x hso)] at this
            exact this
          refine ⟨_, rfl, .inl ⟨rfl, _, SqL.of hF2⟩, _, rfl, _, rfl, pr, _, _, _, rfl, rfl, SqL.of (s02 _ _ hpr), at0 _ _, _, rfl, _, _, _, _, rfl, rfl, hss1, at1 _ _ _, d0, _, rfl, dg, (by show 2 ≤ sizeLine; decide), fun z3 hz3 => ?_⟩
          have s3 := same_new hz3 (.tup [.str "undo", .str (fn M0 x)])
          refine ⟨F, _, _, rfl, rfl, (s3) _ _ hF2, Nat.lt_of_le_of_lt (show vs.length ≤ 1000 by omega) (by decide), ?_⟩
          have tP := Tk.put ((s3) _ _ hF2) (.lst (vs ++ [.ref z3]))
          refine ⟨_, _, _, vs ++ [.ref z3], rfl, upd_same, ?_, fun qq oo e => by rw [upd_ne (nF qq oo e)]; exact (s02.trans (s3)) _ _ e⟩
          rw [htake, rens_snoc, ds_snoc]
          refine dps_app (((Tk.same (s3)).trans tP).dps _ (tup_ds _) hv2) (.cons ?_ .nil)
          exact .tup (tP.sqt (SqT.of upd_same)) (.cons (.str _) (.cons (.str _) .nil))
        | cl x =>
          obtain ⟨sa, sxs, rfl, hss, hsa, hsl⟩ := len_ok hdp1
          cases hsa with
          | cons h0 hsa =>
          cases h0
          refine ⟨_, rfl, _, _, _, _, rfl, rfl, hss, at0 _ _, ?_⟩
          refine ⟨_, rfl, (by show 2 ≤ sizeLine; decide), fun z1 hz1 => ⟨z1, _, rfl, .inr (SqT.of upd_same), rfl, rfl, _, rfl, ?_⟩⟩
          have sz := same_new hz1 (.tup [.str "do", .str "undo"])
          have hss1 := (Tk.same sz).sqt hss
          have hF2 := sz _ _ hF1
          have hv2 := (Tk.same sz).dps _ (tup_ds _) hv1
          have s02 := s1.trans sz
          have t12 : Tk H1 (upd H1 z1 (.tup [.str "do", .str "undo"])) := Tk.same sz
          generalize upd H1 z1 (.tup [.str "do", .str "undo"]) = H2 at hss1 hF2 hv2 s02 t12
          refine ifF (by decide +kernel) ?_
          refine ⟨_, rfl, rfl, _, rfl, ?_⟩
          rw [dec_str]
          refine ifT (by decide +kernel) ?_
          cases hsa with
          | cons h1 hsa =>
          cases h1
          have dg : DGet H2 d1 (.str x) (some (.str (fn M1 x))) := by
            have := DGet.k (k := Sum.inr x) (s02 _ _ hd1)
            rw [fn_val (hN1 x hso)] at this
            exact this
          refine ⟨_, rfl, .inl ⟨rfl, _, SqL.of hF2⟩, _, rfl, _, rfl, pr, _, _, _, rfl, rfl, SqL.of (s02 _ _ hpr), at1 _ _ _, _, rfl, _, _, _, _, rfl, rfl, hss1, at1 _ _ _, d1, _, rfl, dg, (by show 2 ≤ sizeLine; decide), fun z3 hz3 => ?_⟩
          have s3 := same_new hz3 (.tup [.str "call", .str (fn M1 x)])
          refine ⟨F, _, _, rfl, rfl, (s3) _ _ hF2, Nat.lt_of_le_of_lt (show vs.length ≤ 1000 by omega) (by decide), ?_⟩
          have tP := Tk.put ((s3) _ _ hF2) (.lst (vs ++ [.ref z3]))
          refine ⟨_, _, _, vs ++ [.ref z3], rfl, upd_same, ?_, fun qq oo e => by rw [upd_ne (nF qq oo e)]; exact (s02.trans (s3)) _ _ e⟩
          rw [htake, rens_snoc, ds_snoc]
          refine dps_app (((Tk.same (s3)).trans tP).dps _ (tup_ds _) hv2) (.cons ?_ .nil)
          exact .tup (tP.sqt (SqT.of upd_same)) (.cons (.str _) (.cons (.str _) .nil))
        | ch bs =>
          obtain ⟨sa, sxs, rfl, hss, hsa, hsl⟩ := len_ok hdp1
          cases hsa with
          | cons h0 hsa =>
          cases h0
          refine ⟨_, rfl, _, _, _, _, rfl, rfl, hss, at0 _ _, ?_⟩
          refine ⟨_, rfl, (by show 2 ≤ sizeLine; decide), fun z1 hz1 => ⟨z1, _, rfl, .inr (SqT.of upd_same), rfl, rfl, _, rfl, ?_⟩⟩
          have sz := same_new hz1 (.tup [.str "do", .str "undo"])
          have hss1 := (Tk.same sz).sqt hss
          have hF2 := sz _ _ hF1
          have hv2 := (Tk.same sz).dps _ (tup_ds _) hv1
          have s02 := s1.trans sz
          have t12 : Tk H1 (upd H1 z1 (.tup [.str "do", .str "undo"])) := Tk.same sz
          generalize upd H1 z1 (.tup [.str "do", .str "undo"]) = H2 at hss1 hF2 hv2 s02 t12
          refine ifF (by decide +kernel) ?_
          refine ⟨_, rfl, rfl, _, rfl, ?_⟩
          rw [dec_str]
          refine ifF (by decide +kernel) ?_
          refine ⟨_, rfl, rfl, _, rfl, ?_⟩
          rw [dec_str]
          refine ifT (by decide +kernel) ?_
          cases hsa with
          | @cons v1 _ _ _ h1 hsa =>
          cases hsa
          obtain ⟨ba, bxs, rfl, hbs, hba, hbl'⟩ := len_ok (show Dp K H2 v1 (.tuple (dss (St.ch bs).bs)) from t12.dp (.tuple (dss bs)) (tup_dss bs) h1)
          have bs6 := hso.2.1
          have sB : Same H2 H2 := fun _ _ e => e
          refine ⟨_, rfl, .inl ⟨rfl, _, SqL.of hF2⟩, _, rfl, _, rfl, _, _, _, _, rfl, rfl, hss1, at1 _ _ _, ba, rfl, ⟨_, hbs⟩, fun D hD => ?_⟩
          have hblen : bxs.length = ((St.ch bs).bs).length := by rw [dps_len hba, dss_len]
          refine lc_tup (xs := bxs) (fun j H' => ∃ ws, H' D = some (.lst ws) ∧ DpAll K H' ws (dss (renss (fn M0) (fn M1) (((St.ch bs).bs).take j))) ∧ Same H2 H') ⟨[], upd_same, .nil, same_new hD _⟩ ?_ ?_ ?_
          · rintro j H' _ ⟨_, _, _, s5⟩
            exact (Tk.same s5).sqt hbs
          · rintro j y H5 hy ⟨ws, hw1, hw2, s5⟩
            obtain ⟨dd, hdd, hdp5⟩ := dps_get' hba hy
            obtain ⟨cc, hcb, rfl⟩ : ∃ cc, ((St.ch bs).bs)[j]? = some cc ∧ dd = .tuple (ds cc) := by
              rw [dss_map, List.getElem?_map] at hdd
              cases e : ((St.ch bs).bs)[j]? with
              | none => rw [e] at hdd; cases hdd
              | some cc => rw [e] at hdd; exact ⟨cc, rfl, (Option.some.inj hdd).symm⟩
            have hcm : cc ∈ (St.ch bs).bs := List.mem_of_getElem? hcb
            obtain ⟨sec', hco⟩ := ok_bs hso cc hcm
            have hck := k_of_bs _ cc hcm
            have hcn := nss_mem hcm
            have hjl := (List.getElem?_eq_some_iff.mp hcb).1
            have hb6 : ((St.ch bs).bs).length ≤ 6 := bs6
            have sB5 := s02.trans (sB.trans s5)
            have hlc := len_ns cc
            refine ⟨rfl, _, rfl, _, rfl, y, pr, d0, d1, cc, L, N, sec', M0, M1, rfl, (Tk.same s5).dp (.tuple (ds cc)) (tup_ds cc) hdp5, sB5 _ _ hpr, sB5 _ _ hd0, sB5 _ _ hd1, hL0, hN1, by omega, by omega, by omega, hco, fun H6 v6 s6 hv6 => ?_⟩
            have hw6 := s6 _ _ hw1
            have tD := Tk.put hw6 (.lst (ws ++ [v6]))
            have hwl := dps_len hw2
            rw [dss_len, renss_map, List.length_map, List.length_take] at hwl
            have nD : ∀ q o, H2 q = some o → q ≠ D := fun q o e z => by rw [z, hD] at e; cases e
            refine ⟨ws, hw6, Nat.lt_of_le_of_lt (show ws.length ≤ 6 by omega) (by decide), ws ++ [v6], upd_same, ?_, fun q o e => by rw [upd_ne (nD q o e)]; exact s6 _ _ (s5 _ _ e)⟩
            rw [List.take_succ, hcb]
            show DpAll K _ _ (dss (renss (fn M0) (fn M1) (((St.ch bs).bs).take j ++ [cc])))
            rw [renss_snoc, dss_snoc]
            exact dps_app (((Tk.same s6).trans tD).dps _ (tup_dss _) hw2) (.cons (tD.dp (.tuple (ds (rens (fn M0) (fn M1) cc))) (tup_ds _) hv6) .nil)
          rintro H5 ⟨ws, hw1, hw2, s5⟩
          rw [hblen, List.take_length] at hw2
          refine ⟨D, _, rfl, .inl ⟨SqL.of hw1, fun z3 hz3 => ⟨(by show 2 ≤ sizeLine; decide), fun z4 hz4 => ?_⟩⟩⟩
          have s3 := same_new hz3 (.tup ws)
          have s4 := same_new hz4 (.tup [.str "choose", .ref z3])
          refine ⟨F, _, _, rfl, rfl, (s5.trans (s3.trans s4)) _ _ hF2, Nat.lt_of_le_of_lt (show vs.length ≤ 1000 by omega) (by decide), ?_⟩
          have tP := Tk.put ((s5.trans (s3.trans s4)) _ _ hF2) (.lst (vs ++ [.ref z4]))
          refine ⟨_, _, _, vs ++ [.ref z4], rfl, upd_same, ?_, fun qq oo e => by rw [upd_ne (nF qq oo e)]; exact (s02.trans (s5.trans (s3.trans s4))) _ _ e⟩
          rw [htake, rens_snoc, ds_snoc]
          refine dps_app (((Tk.same (s5.trans (s3.trans s4))).trans tP).dps _ (tup_ds _) hv2) (.cons ?_ .nil)
          exact .tup (tP.sqt (SqT.of upd_same)) (.cons (.str _) (.cons (.tup (((Tk.same s4).trans tP).sqt (SqT.of upd_same)) ((((Tk.same s3).trans (Tk.same s4)).trans tP).dps _ (tup_dss _) hw2)) .nil))
        | lp c =>
          obtain ⟨sa, sxs, rfl, hss, hsa, hsl⟩ := len_ok hdp1
          cases hsa with
          | cons h0 hsa =>
          cases h0
          refine ⟨_, rfl, _, _, _, _, rfl, rfl, hss, at0 _ _, ?_⟩
          refine ⟨_, rfl, (by show 2 ≤ sizeLine; decide), fun z1 hz1 => ⟨z1, _, rfl, .inr (SqT.of upd_same), rfl, rfl, _, rfl, ?_⟩⟩
          have sz := same_new hz1 (.tup [.str "do", .str "undo"])
          have hss1 := (Tk.same sz).sqt hss
          have hF2 := sz _ _ hF1
          have hv2 := (Tk.same sz).dps _ (tup_ds _) hv1
          have s02 := s1.trans sz
          have t12 : Tk H1 (upd H1 z1 (.tup [.str "do", .str "undo"])) := Tk.same sz
          generalize upd H1 z1 (.tup [.str "do", .str "undo"]) = H2 at hss1 hF2 hv2 s02 t12
          refine ifF (by decide +kernel) ?_
          refine ⟨_, rfl, rfl, _, rfl, ?_⟩
          rw [dec_str]
          refine ifF (by decide +kernel) ?_
          refine ⟨_, rfl, rfl, _, rfl, ?_⟩
          rw [dec_str]
          refine ifF (by decide +kernel) ?_
          cases hsa with
          | @cons v1 _ _ _ h1 hsa =>
          cases hsa
          have hbaX : DpAll K H2 [v1] (dss (St.lp c).bs) := (.cons (t12.dp (.tuple (ds c)) (tup_ds c) h1) .nil)
          refine ⟨_, rfl, .inl ⟨rfl, _, SqL.of hF2⟩, _, rfl, (by show 1 ≤ sizeLine; decide), fun z2 hz2 => ?_⟩
          have sz2 := same_new hz2 (.tup [.str "loop"])
          refine ⟨_, rfl, 1, rfl, _, _, rfl, (Tk.same sz2).sqt hss1, fun w => absurd w.1 (by show ¬ (HT.sIx 2 0 (some 1) = 0); decide), fun _ ba hba' => ?_⟩
          rw [tail1]
          have sba := same_new hba' (.tup [v1])
          have sB := sz2.trans sba
          have hbs : SqT K (upd (upd H2 z2 (.tup [.str "loop"])) ba (.tup [v1])) ba [v1] := SqT.of upd_same
          have hz2B : SqT K (upd (upd H2 z2 (.tup [.str "loop"])) ba (.tup [v1])) z2 [.str "loop"] := (Tk.same sba).sqt (SqT.of upd_same)
          have hba : DpAll K (upd (upd H2 z2 (.tup [.str "loop"])) ba (.tup [v1])) [v1] (dss (St.lp c).bs) := (Tk.same sB).dps _ (tup_dss _) hbaX
          show (fun HX => _) (upd (upd H2 z2 (.tup [.str "loop"])) ba (.tup [v1]))
          generalize upd (upd H2 z2 (.tup [.str "loop"])) ba (.tup [v1]) = HB at sB hbs hba hz2B
          obtain ⟨bxs, ebx⟩ : ∃ l : List V, l = [v1] := ⟨_, rfl⟩
          rw [← ebx] at hbs hba
          have bs6 : (St.lp c).bs.length ≤ 6 := by simp [St.bs]
          refine ⟨ba, rfl, ⟨_, hbs⟩, fun D hD => ?_⟩
          have hblen : bxs.length = ((St.lp c).bs).length := by rw [dps_len hba, dss_len]
          refine lc_tup (xs := bxs) (fun j H' => ∃ ws, H' D = some (.lst ws) ∧ DpAll K H' ws (dss (renss (fn M0) (fn M1) (((St.lp c).bs).take j))) ∧ Same HB H') ⟨[], upd_same, .nil, same_new hD _⟩ ?_ ?_ ?_
          · rintro j H' _ ⟨_, _, _, s5⟩
            exact (Tk.same s5).sqt hbs
          · rintro j y H5 hy ⟨ws, hw1, hw2, s5⟩
            obtain ⟨dd, hdd, hdp5⟩ := dps_get' hba hy
            obtain ⟨cc, hcb, rfl⟩ : ∃ cc, ((St.lp c).bs)[j]? = some cc ∧ dd = .tuple (ds cc) := by
              rw [dss_map, List.getElem?_map] at hdd
              cases e : ((St.lp c).bs)[j]? with
              | none => rw [e] at hdd; cases hdd
              | some cc => rw [e] at hdd; exact ⟨cc, rfl, (Option.some.inj hdd).symm⟩
            have hcm : cc ∈ (St.lp c).bs := List.mem_of_getElem? hcb
            obtain ⟨sec', hco⟩ := ok_bs hso cc hcm
            have hck := k_of_bs _ cc hcm
            have hcn := nss_mem hcm
            have hjl := (List.getElem?_eq_some_iff.mp hcb).1
            have hb6 : ((St.lp c).bs).length ≤ 6 := bs6
            have sB5 := s02.trans (sB.trans s5)
            have hlc := len_ns cc
            refine ⟨rfl, _, rfl, _, rfl, y, pr, d0, d1, cc, L, N, sec', M0, M1, rfl, (Tk.same s5).dp (.tuple (ds cc)) (tup_ds cc) hdp5, sB5 _ _ hpr, sB5 _ _ hd0, sB5 _ _ hd1, hL0, hN1, by omega, by omega, by omega, hco, fun H6 v6 s6 hv6 => ?_⟩
            have hw6 := s6 _ _ hw1
            have tD := Tk.put hw6 (.lst (ws ++ [v6]))
            have hwl := dps_len hw2
            rw [dss_len, renss_map, List.length_map, List.length_take] at hwl
            have nD : ∀ q o, HB q = some o → q ≠ D := fun q o e z => by rw [z, hD] at e; cases e
            refine ⟨ws, hw6, Nat.lt_of_le_of_lt (show ws.length ≤ 6 by omega) (by decide), ws ++ [v6], upd_same, ?_, fun q o e => by rw [upd_ne (nD q o e)]; exact s6 _ _ (s5 _ _ e)⟩
            rw [List.take_succ, hcb]
            show DpAll K _ _ (dss (renss (fn M0) (fn M1) (((St.lp c).bs).take j ++ [cc])))
            rw [renss_snoc, dss_snoc]
            exact dps_app (((Tk.same s6).trans tD).dps _ (tup_dss _) hw2) (.cons (tD.dp (.tuple (ds (rens (fn M0) (fn M1) cc))) (tup_ds _) hv6) .nil)
          rintro H5 ⟨ws, hw1, hw2, s5⟩
          rw [hblen, List.take_length] at hw2
          refine ⟨D, _, rfl, .inl ⟨SqL.of hw1, fun z3 hz3 => ?_⟩⟩
          have s3 := same_new hz3 (.tup ws)
          have hwl := dps_len hw2
          refine ⟨z2, z3, _, ws, rfl, rfl, (Tk.same (s5.trans s3)).sqt hz2B, SqT.of upd_same, Nat.le_trans (show 1 + ws.length ≤ 7 by rw [hwl, dss_len, renss_map, List.length_map]; omega) (by decide), fun z => (by cases z), fun _ z => ?_, fun _ _ z4 hz4 => ?_⟩
          · rw [z] at hwl; exact absurd hwl (by simp [dss, renss, St.bs])
          have s4 := same_new hz4 (.tup (([.str "loop"] : List V) ++ ws))
          refine ⟨F, _, _, rfl, rfl, (sB.trans (s5.trans (s3.trans s4))) _ _ hF2, Nat.lt_of_le_of_lt (show vs.length ≤ 1000 by omega) (by decide), ?_⟩
          have tP := Tk.put ((sB.trans (s5.trans (s3.trans s4))) _ _ hF2) (.lst (vs ++ [.ref z4]))
          refine ⟨_, _, _, vs ++ [.ref z4], rfl, upd_same, ?_, fun qq oo e => by rw [upd_ne (nF qq oo e)]; exact (s02.trans (sB.trans (s5.trans (s3.trans s4)))) _ _ e⟩
          rw [htake, rens_snoc, ds_snoc]
          refine dps_app (((Tk.same (sB.trans (s5.trans (s3.trans s4)))).trans tP).dps _ (tup_ds _) hv2) (.cons ?_ .nil)
          exact .tup (tP.sqt (SqT.of upd_same)) (.cons (.str _) ((((Tk.same s3).trans (Tk.same s4)).trans tP).dps (dss (renss (fn M0) (fn M1) (St.lp c).bs)) (tup_dss _) hw2))
        | rt =>
          obtain ⟨sa, sxs, rfl, hss, hsa, hsl⟩ := len_ok hdp1
          cases hsa with
          | cons h0 hsa =>
          cases h0
          refine ⟨_, rfl, _, _, _, _, rfl, rfl, hss, at0 _ _, ?_⟩
          refine ⟨_, rfl, (by show 2 ≤ sizeLine; decide), fun z1 hz1 => ⟨z1, _, rfl, .inr (SqT.of upd_same), rfl, rfl, _, rfl, ?_⟩⟩
          have sz := same_new hz1 (.tup [.str "do", .str "undo"])
          have hss1 := (Tk.same sz).sqt hss
          have hF2 := sz _ _ hF1
          have hv2 := (Tk.same sz).dps _ (tup_ds _) hv1
          have s02 := s1.trans sz
          have t12 : Tk H1 (upd H1 z1 (.tup [.str "do", .str "undo"])) := Tk.same sz
          generalize upd H1 z1 (.tup [.str "do", .str "undo"]) = H2 at hss1 hF2 hv2 s02 t12
          refine ifF (by decide +kernel) ?_
          refine ⟨_, rfl, rfl, _, rfl, ?_⟩
          rw [dec_str]
          refine ifF (by decide +kernel) ?_
          refine ⟨_, rfl, rfl, _, rfl, ?_⟩
          rw [dec_str]
          refine ifF (by decide +kernel) ?_
          cases hsa
          have hbaX : DpAll K H2 [] (dss (St.rt).bs) := .nil
          refine ⟨_, rfl, .inl ⟨rfl, _, SqL.of hF2⟩, _, rfl, (by show 1 ≤ sizeLine; decide), fun z2 hz2 => ?_⟩
          have sz2 := same_new hz2 (.tup [.str "return"])
          refine ⟨_, rfl, 1, rfl, _, _, rfl, (Tk.same sz2).sqt hss1, fun w => absurd w.1 (by show ¬ (HT.sIx 1 0 (some 1) = 0); decide), fun _ ba hba' => ?_⟩
          rw [tail0]
          have sba := same_new hba' (.tup [])
          have sB := sz2.trans sba
          have hbs : SqT K (upd (upd H2 z2 (.tup [.str "return"])) ba (.tup [])) ba [] := SqT.of upd_same
          have hz2B : SqT K (upd (upd H2 z2 (.tup [.str "return"])) ba (.tup [])) z2 [.str "return"] := (Tk.same sba).sqt (SqT.of upd_same)
          have hba : DpAll K (upd (upd H2 z2 (.tup [.str "return"])) ba (.tup [])) [] (dss (St.rt).bs) := (Tk.same sB).dps _ (tup_dss _) hbaX
          show (fun HX => _) (upd (upd H2 z2 (.tup [.str "return"])) ba (.tup []))
          generalize upd (upd H2 z2 (.tup [.str "return"])) ba (.tup []) = HB at sB hbs hba hz2B
          obtain ⟨bxs, ebx⟩ : ∃ l : List V, l = [] := ⟨_, rfl⟩
          rw [← ebx] at hbs hba
          have bs6 : (St.rt).bs.length ≤ 6 := by simp [St.bs]
          refine ⟨ba, rfl, ⟨_, hbs⟩, fun D hD => ?_⟩
          have hblen : bxs.length = ((St.rt).bs).length := by rw [dps_len hba, dss_len]
          refine lc_tup (xs := bxs) (fun j H' => ∃ ws, H' D = some (.lst ws) ∧ DpAll K H' ws (dss (renss (fn M0) (fn M1) (((St.rt).bs).take j))) ∧ Same HB H') ⟨[], upd_same, .nil, same_new hD _⟩ ?_ ?_ ?_
          · rintro j H' _ ⟨_, _, _, s5⟩
            exact (Tk.same s5).sqt hbs
          · rintro j y H5 hy ⟨ws, hw1, hw2, s5⟩
            obtain ⟨dd, hdd, hdp5⟩ := dps_get' hba hy
            obtain ⟨cc, hcb, rfl⟩ : ∃ cc, ((St.rt).bs)[j]? = some cc ∧ dd = .tuple (ds cc) := by
              rw [dss_map, List.getElem?_map] at hdd
              cases e : ((St.rt).bs)[j]? with
              | none => rw [e] at hdd; cases hdd
              | some cc => rw [e] at hdd; exact ⟨cc, rfl, (Option.some.inj hdd).symm⟩
            have hcm : cc ∈ (St.rt).bs := List.mem_of_getElem? hcb
            obtain ⟨sec', hco⟩ := ok_bs hso cc hcm
            have hck := k_of_bs _ cc hcm
            have hcn := nss_mem hcm
            have hjl := (List.getElem?_eq_some_iff.mp hcb).1
            have hb6 : ((St.rt).bs).length ≤ 6 := bs6
            have sB5 := s02.trans (sB.trans s5)
            have hlc := len_ns cc
            refine ⟨rfl, _, rfl, _, rfl, y, pr, d0, d1, cc, L, N, sec', M0, M1, rfl, (Tk.same s5).dp (.tuple (ds cc)) (tup_ds cc) hdp5, sB5 _ _ hpr, sB5 _ _ hd0, sB5 _ _ hd1, hL0, hN1, by omega, by omega, by omega, hco, fun H6 v6 s6 hv6 => ?_⟩
            have hw6 := s6 _ _ hw1
            have tD := Tk.put hw6 (.lst (ws ++ [v6]))
            have hwl := dps_len hw2
            rw [dss_len, renss_map, List.length_map, List.length_take] at hwl
            have nD : ∀ q o, HB q = some o → q ≠ D := fun q o e z => by rw [z, hD] at e; cases e
            refine ⟨ws, hw6, Nat.lt_of_le_of_lt (show ws.length ≤ 6 by omega) (by decide), ws ++ [v6], upd_same, ?_, fun q o e => by rw [upd_ne (nD q o e)]; exact s6 _ _ (s5 _ _ e)⟩
            rw [List.take_succ, hcb]
            show DpAll K _ _ (dss (renss (fn M0) (fn M1) (((St.rt).bs).take j ++ [cc])))
            rw [renss_snoc, dss_snoc]
            exact dps_app (((Tk.same s6).trans tD).dps _ (tup_dss _) hw2) (.cons (tD.dp (.tuple (ds (rens (fn M0) (fn M1) cc))) (tup_ds _) hv6) .nil)
          rintro H5 ⟨ws, hw1, hw2, s5⟩
          rw [hblen, List.take_length] at hw2
          refine ⟨D, _, rfl, .inl ⟨SqL.of hw1, fun z3 hz3 => ?_⟩⟩
          have s3 := same_new hz3 (.tup ws)
          have hwl := dps_len hw2
          have hw0 : ws = [] := List.eq_nil_of_length_eq_zero hwl
          refine ⟨z2, z3, _, ws, rfl, rfl, (Tk.same (s5.trans s3)).sqt hz2B, SqT.of upd_same, by rw [hw0]; decide, fun z => (by cases z), fun _ _ => ?_, fun _ z => absurd hw0 z⟩
          refine ⟨F, _, _, rfl, rfl, (sB.trans (s5.trans s3)) _ _ hF2, Nat.lt_of_le_of_lt (show vs.length ≤ 1000 by omega) (by decide), ?_⟩
          have tP := Tk.put ((sB.trans (s5.trans s3)) _ _ hF2) (.lst (vs ++ [.ref z2]))
          refine ⟨_, _, _, vs ++ [.ref z2], rfl, upd_same, ?_, fun qq oo e => by rw [upd_ne (nF qq oo e)]; exact (s02.trans (sB.trans (s5.trans s3))) _ _ e⟩
          rw [htake, rens_snoc, ds_snoc]
          refine dps_app (((Tk.same (sB.trans (s5.trans s3))).trans tP).dps _ (tup_ds _) hv2) (.cons ?_ .nil)
          exact .tup (((Tk.same (s5.trans s3)).trans tP).sqt hz2B) (.cons (.str _) .nil)
        | en c e =>
          obtain ⟨sa, sxs, rfl, hss, hsa, hsl⟩ := len_ok hdp1
          cases hsa with
          | cons h0 hsa =>
          cases h0
          refine ⟨_, rfl, _, _, _, _, rfl, rfl, hss, at0 _ _, ?_⟩
          refine ⟨_, rfl, (by show 2 ≤ sizeLine; decide), fun z1 hz1 => ⟨z1, _, rfl, .inr (SqT.of upd_same), rfl, rfl, _, rfl, ?_⟩⟩
          have sz := same_new hz1 (.tup [.str "do", .str "undo"])
          have hss1 := (Tk.same sz).sqt hss
          have hF2 := sz _ _ hF1
          have hv2 := (Tk.same sz).dps _ (tup_ds _) hv1
          have s02 := s1.trans sz
          have t12 : Tk H1 (upd H1 z1 (.tup [.str "do", .str "undo"])) := Tk.same sz
          generalize upd H1 z1 (.tup [.str "do", .str "undo"]) = H2 at hss1 hF2 hv2 s02 t12
          refine ifF (by decide +kernel) ?_
          refine ⟨_, rfl, rfl, _, rfl, ?_⟩
          rw [dec_str]
          refine ifF (by decide +kernel) ?_
          refine ⟨_, rfl, rfl, _, rfl, ?_⟩
          rw [dec_str]
          refine ifF (by decide +kernel) ?_
          cases hsa with
          | @cons v1 _ _ _ h1 hsa =>
          cases hsa with
          | @cons v2 _ _ _ h2 hsa =>
          cases hsa
          have hbaX : DpAll K H2 [v1, v2] (dss (St.en c e).bs) := (.cons (t12.dp (.tuple (ds c)) (tup_ds c) h1) (.cons (t12.dp (.tuple (ds e)) (tup_ds e) h2) .nil))
          refine ⟨_, rfl, .inl ⟨rfl, _, SqL.of hF2⟩, _, rfl, (by show 1 ≤ sizeLine; decide), fun z2 hz2 => ?_⟩
          have sz2 := same_new hz2 (.tup [.str "ensure"])
          refine ⟨_, rfl, 1, rfl, _, _, rfl, (Tk.same sz2).sqt hss1, fun w => absurd w.1 (by show ¬ (HT.sIx 3 0 (some 1) = 0); decide), fun _ ba hba' => ?_⟩
          rw [tail2]
          have sba := same_new hba' (.tup [v1, v2])
          have sB := sz2.trans sba
          have hbs : SqT K (upd (upd H2 z2 (.tup [.str "ensure"])) ba (.tup [v1, v2])) ba [v1, v2] := SqT.of upd_same
          have hz2B : SqT K (upd (upd H2 z2 (.tup [.str "ensure"])) ba (.tup [v1, v2])) z2 [.str "ensure"] := (Tk.same sba).sqt (SqT.of upd_same)
          have hba : DpAll K (upd (upd H2 z2 (.tup [.str "ensure"])) ba (.tup [v1, v2])) [v1, v2] (dss (St.en c e).bs) := (Tk.same sB).dps _ (tup_dss _) hbaX
          show (fun HX => _) (upd (upd H2 z2 (.tup [.str "ensure"])) ba (.tup [v1, v2]))
          generalize upd (upd H2 z2 (.tup [.str "ensure"])) ba (.tup [v1, v2]) = HB at sB hbs hba hz2B
          obtain ⟨bxs, ebx⟩ : ∃ l : List V, l = [v1, v2] := ⟨_, rfl⟩
          rw [← ebx] at hbs hba
          have bs6 : (St.en c e).bs.length ≤ 6 := by simp [St.bs]
          refine ⟨ba, rfl, ⟨_, hbs⟩, fun D hD => ?_⟩
          have hblen : bxs.length = ((St.en c e).bs).length := by rw [dps_len hba, dss_len]
          refine lc_tup (xs := bxs) (fun j H' => ∃ ws, H' D = some (.lst ws) ∧ DpAll K H' ws (dss (renss (fn M0) (fn M1) (((St.en c e).bs).take j))) ∧ Same HB H') ⟨[], upd_same, .nil, same_new hD _⟩ ?_ ?_ ?_
          · rintro j H' _ ⟨_, _, _, s5⟩
            exact (Tk.same s5).sqt hbs
          · rintro j y H5 hy ⟨ws, hw1, hw2, s5⟩
            obtain ⟨dd, hdd, hdp5⟩ := dps_get' hba hy
            obtain ⟨cc, hcb, rfl⟩ : ∃ cc, ((St.en c e).bs)[j]? = some cc ∧ dd = .tuple (ds cc) := by
              rw [dss_map, List.getElem?_map] at hdd
              cases e : ((St.en c e).bs)[j]? with
              | none => rw [e] at hdd; cases hdd
              | some cc => rw [e] at hdd; exact ⟨cc, rfl, (Option.some.inj hdd).symm⟩
            have hcm : cc ∈ (St.en c e).bs := List.mem_of_getElem? hcb
            obtain ⟨sec', hco⟩ := ok_bs hso cc hcm
            have hck := k_of_bs _ cc hcm
            have hcn := nss_mem hcm
            have hjl := (List.getElem?_eq_some_iff.mp hcb).1
            have hb6 : ((St.en c e).bs).length ≤ 6 := bs6
            have sB5 := s02.trans (sB.trans s5)
            have hlc := len_ns cc
            refine ⟨rfl, _, rfl, _, rfl, y, pr, d0, d1, cc, L, N, sec', M0, M1, rfl, (Tk.same s5).dp (.tuple (ds cc)) (tup_ds cc) hdp5, sB5 _ _ hpr, sB5 _ _ hd0, sB5 _ _ hd1, hL0, hN1, by omega, by omega, by omega, hco, fun H6 v6 s6 hv6 => ?_⟩
            have hw6 := s6 _ _ hw1
            have tD := Tk.put hw6 (.lst (ws ++ [v6]))
            have hwl := dps_len hw2
            rw [dss_len, renss_map, List.length_map, List.length_take] at hwl
            have nD : ∀ q o, HB q = some o → q ≠ D := fun q o e z => by rw [z, hD] at e; cases e
            refine ⟨ws, hw6, Nat.lt_of_le_of_lt (show ws.length ≤ 6 by omega) (by decide), ws ++ [v6], upd_same, ?_, fun q o e => by rw [upd_ne (nD q o e)]; exact s6 _ _ (s5 _ _ e)⟩
            rw [List.take_succ, hcb]
            show DpAll K _ _ (dss (renss (fn M0) (fn M1) (((St.en c e).bs).take j ++ [cc])))
            rw [renss_snoc, dss_snoc]
            exact dps_app (((Tk.same s6).trans tD).dps _ (tup_dss _) hw2) (.cons (tD.dp (.tuple (ds (rens (fn M0) (fn M1) cc))) (tup_ds _) hv6) .nil)
          rintro H5 ⟨ws, hw1, hw2, s5⟩
          rw [hblen, List.take_length] at hw2
          refine ⟨D, _, rfl, .inl ⟨SqL.of hw1, fun z3 hz3 => ?_⟩⟩
          have s3 := same_new hz3 (.tup ws)
          have hwl := dps_len hw2
          refine ⟨z2, z3, _, ws, rfl, rfl, (Tk.same (s5.trans s3)).sqt hz2B, SqT.of upd_same, Nat.le_trans (show 1 + ws.length ≤ 7 by rw [hwl, dss_len, renss_map, List.length_map]; omega) (by decide), fun z => (by cases z), fun _ z => ?_, fun _ _ z4 hz4 => ?_⟩
          · rw [z] at hwl; exact absurd hwl (by simp [dss, renss, St.bs])
          have s4 := same_new hz4 (.tup (([.str "ensure"] : List V) ++ ws))
          refine ⟨F, _, _, rfl, rfl, (sB.trans (s5.trans (s3.trans s4))) _ _ hF2, Nat.lt_of_le_of_lt (show vs.length ≤ 1000 by omega) (by decide), ?_⟩
          have tP := Tk.put ((sB.trans (s5.trans (s3.trans s4))) _ _ hF2) (.lst (vs ++ [.ref z4]))
          refine ⟨_, _, _, vs ++ [.ref z4], rfl, upd_same, ?_, fun qq oo e => by rw [upd_ne (nF qq oo e)]; exact (s02.trans (sB.trans (s5.trans (s3.trans s4)))) _ _ e⟩
          rw [htake, rens_snoc, ds_snoc]
          refine dps_app (((Tk.same (sB.trans (s5.trans (s3.trans s4)))).trans tP).dps _ (tup_ds _) hv2) (.cons ?_ .nil)
          exact .tup (tP.sqt (SqT.of upd_same)) (.cons (.str _) ((((Tk.same s3).trans (Tk.same s4)).trans tP).dps (dss (renss (fn M0) (fn M1) (St.en c e).bs)) (tup_dss _) hw2))
    · rintro σ H1 ⟨b3, b4, b5, vs, rfl, hF1, hv1, s1⟩
      rw [hlb, List.take_length] at hv1
      refine ⟨_, rfl, F, _, rfl, .inl ⟨SqL.of hF1, fun z hz => ?_⟩⟩
      have sz := same_new hz (.tup vs)
      exact q _ _ (s1.trans sz) (.tup (SqT.of upd_same) ((Tk.same sz).dps _ (tup_ds _) hv1))
end
end K09


set_option Elab.async false
set_option linter.all false
set_option maxRecDepth 100000
set_option maxHeartbeats 8000000
namespace K09
open PySem PySem.Spec PyProof.Rows L2
/-! ### what does not change a layout -/
theorem layB_one (L N : List Str) (lv : List PyData → Int × List PyData) (s : St) (t : Int) (ps : List PyData) : layB L N lv [s] t ps = layS L N lv s t ps := by
  rw [layB, layB]
/-- an ensure with an empty second body lays its body alone -/
theorem lay_en (L N : List Str) (lv : List PyData → Int × List PyData) (b : List St) (t : Int) (ps : List PyData) : layS L N lv (.en b []) t ps = layB L N lv b t ps := by
  rw [layS]
  simp only [layB]
/-- a row of statements within such an ensure -/
theorem lay_wrap (L N : List Str) (lv : List PyData → Int × List PyData) (a b c : List St) (t : Int) (ps : List PyData) : layB L N lv (a ++ (.en b [] :: c)) t ps = layB L N lv (a ++ (b ++ c)) t ps := by
  rw [layB_app, layB_app L N lv a (b ++ c), layB_app L N lv b c]
  rw [layB, lay_en]
/-- a return at the end of a procedure -/
theorem lay_ret (L N : List Str) (b : List St) (ps : List PyData) : layB L N (fun ps => (0, ps)) (b ++ [.rt]) 0 ps = layB L N (fun ps => (0, ps)) b 0 ps := by
  rw [layB_app, layB_one]
  rfl
/-- statements that are laid alike, whatever is left behind them -/
def Alike (L N : List Str) (a b : List St) : Prop := ∀ lv t ps, layB L N lv a t ps = layB L N lv b t ps
theorem Alike.refl {L N : List Str} (a : List St) : Alike L N a a := fun _ _ _ => rfl
theorem Alike.wrap {L N : List Str} (a b c : List St) : Alike L N (a ++ (.en b [] :: c)) (a ++ (b ++ c)) := fun lv t ps => lay_wrap L N lv a b c t ps
theorem Alike.mid {L N : List Str} {s u : St} (h : Alike L N [s] [u]) (a c : List St) : Alike L N (a ++ s :: c) (a ++ u :: c) := fun lv t ps => by
  rw [layB_app, layB_app L N lv a (u :: c)]
  have := h lv (layB L N lv c t ps).1 (layB L N lv c t ps).2
  rw [layB_one, layB_one] at this
  rw [layB, layB, this]
theorem Alike.lp {L N : List Str} {a b : List St} (h : Alike L N a b) : Alike L N [.lp a] [.lp b] := fun lv t ps => by
  rw [layB_one, layB_one, layS, layS, h]
theorem Alike.en1 {L N : List Str} {a b : List St} (h : Alike L N a b) (c : List St) : Alike L N [.en a c] [.en b c] := fun lv t ps => by
  rw [layB_one, layB_one, layS, layS, h]
theorem Alike.en2 {L N : List Str} {a b : List St} (h : Alike L N a b) (c : List St) : Alike L N [.en c a] [.en c b] := fun lv t ps => by
  rw [layB_one, layB_one, layS, layS]
  have e : (fun ps : List PyData => (0, ps)) = (fun ps : List PyData => ((0 : Int), ps)) := rfl
  simp only [h (fun ps => (0, ps))]
theorem layBs_mid {L N : List Str} {lv : List PyData → Int × List PyData} {a b : List St} (h : Alike L N a b) : ∀ (xs ys : List (List St)) (t : Int) (ps : List PyData), layBs L N lv (xs ++ a :: ys) t ps = layBs L N lv (xs ++ b :: ys) t ps
  | [], ys, t, ps => by
    rw [List.nil_append, List.nil_append, layBs, layBs, h]
  | x :: xs, ys, t, ps => by
    rw [List.cons_append, List.cons_append, layBs, layBs, layBs_mid h xs ys]
theorem Alike.ch {L N : List Str} {a b : List St} (h : Alike L N a b) (xs ys : List (List St)) : Alike L N [.ch (xs ++ a :: ys)] [.ch (xs ++ b :: ys)] := fun lv t ps => by
  rw [layB_one, layB_one, layS, layS, layBs_mid h]
/-! ### other names -/
def Inj (f : Str → Str) (L : List Str) : Prop := ∀ x ∈ L, ∀ y ∈ L, f x = f y → x = y
theorem idx_ren {f : Str → Str} : ∀ {L : List Str} {x : Str}, Inj f L → x ∈ L → idx (f x) (L.map f) = idx x L
  | [], _, _, h => by cases h
  | y :: r, x, hi, h => by
    unfold idx
    rw [List.map_cons, List.findIdx_cons, List.findIdx_cons]
    by_cases e : y = x
    · subst e
      simp
    · have e2 : f y ≠ f x := fun z => e (hi y (by simp) x h z)
      have hr : x ∈ r := by
        rcases List.mem_cons.mp h with z | z
        · exact absurd z.symm e
        · exact z
      have ih := idx_ren (L := r) (x := x) (fun a ha b hb => hi a (by simp [ha]) b (by simp [hb])) hr
      unfold idx at ih
      rw [beq_eq_false_iff_ne.mpr e, beq_eq_false_iff_ne.mpr e2]
      simp only [cond_false]
      omega
mutual
theorem lay_ren {L N : List Str} {f g : Str → Str} (hf : Inj f L) (hg : Inj g N) : ∀ (s : St) (sec : Bool) (lv : List PyData → Int × List PyData) (t : Int) (ps : List PyData), s.ok L N sec → layS (L.map f) (N.map g) lv (s.ren f g) t ps = layS L N lv s t ps
  | .dd x, _, lv, t, ps, h => by rw [St.ren, layS, layS, idx_ren hf h]
  | .ud x, _, lv, t, ps, h => by rw [St.ren, layS, layS, idx_ren hf h]
  | .cl x, _, lv, t, ps, h => by rw [St.ren, layS, layS, idx_ren hg h]
  | .ch bs, sec, lv, t, ps, h => by rw [St.ren, layS, layS, lay_renss hf hg bs sec lv t ps h.2.2]
  | .lp b, sec, lv, t, ps, h => by rw [St.ren, layS, layS, lay_rens hf hg b sec lv _ _ h]
  | .rt, _, lv, t, ps, _ => by rw [St.ren, layS, layS]
  | .en b c, sec, lv, t, ps, h => by
    rw [St.ren, layS, layS]
    have e : (fun ps => let q := lv ps; layB (L.map f) (N.map g) (fun ps => (0, ps)) (rens f g c) q.1 q.2) = (fun ps => let q := lv ps; layB L N (fun ps => (0, ps)) c q.1 q.2) := by
      funext ps
      exact lay_rens hf hg c true _ _ _ h.2
    rw [e, lay_rens hf hg c true _ _ _ h.2]
    simp only [lay_rens hf hg b sec _ _ _ h.1]
theorem lay_rens {L N : List Str} {f g : Str → Str} (hf : Inj f L) (hg : Inj g N) : ∀ (b : List St) (sec : Bool) (lv : List PyData → Int × List PyData) (t : Int) (ps : List PyData), oks L N sec b → layB (L.map f) (N.map g) lv (rens f g b) t ps = layB L N lv b t ps
  | [], _, _, _, _, _ => by rw [rens, layB, layB]
  | s :: r, sec, lv, t, ps, h => by
    rw [rens, layB, layB, lay_rens hf hg r sec lv t ps h.2]
    simp only [lay_ren hf hg s sec _ _ _ h.1]
theorem lay_renss {L N : List Str} {f g : Str → Str} (hf : Inj f L) (hg : Inj g N) : ∀ (b : List (List St)) (sec : Bool) (lv : List PyData → Int × List PyData) (t : Int) (ps : List PyData), okss L N sec b → layBs (L.map f) (N.map g) lv (renss f g b) t ps = layBs L N lv b t ps
  | [], _, _, _, _, _ => by rw [renss, layBs, layBs]
  | s :: r, sec, lv, t, ps, h => by
    rw [renss, layBs, layBs, lay_rens hf hg s sec lv t ps h.1]
    simp only [lay_renss hf hg r sec _ _ _ h.2]
end
/-- the names that a pairing gives are as unlike as the old ones -/
theorem fn_inj {M : List (Str × Str)} {L : List Str} (h1 : (M.map Prod.fst).Nodup) (h2 : (M.map Prod.snd).Nodup) (hL : ∀ x ∈ L, x ∈ M.map Prod.fst) : Inj (fn M) L := by
  have key : ∀ x ∈ M.map Prod.fst, (x, fn M x) ∈ M := fun x hx => by
    unfold fn
    cases e : M.lookup x with
    | none => exact absurd hx (look_none e)
    | some y =>
      obtain ⟨l1, l2, e2, _⟩ := List.lookup_eq_some_iff.mp e
      rw [e2]
      simp
  have two : ∀ {M : List (Str × Str)} {x y z : Str}, (M.map Prod.snd).Nodup → (x, z) ∈ M → (y, z) ∈ M → x = y := by
    intro M
    induction M with
    | nil => intro x y z _ h; cases h
    | cons p r ih =>
      intro x y z hn hx hy
      rw [List.map_cons, List.nodup_cons] at hn
      rcases List.mem_cons.mp hx with ex | hx
      · rcases List.mem_cons.mp hy with ey | hy
        · rw [← ex] at ey; exact (Prod.mk.inj ey).1.symm
        · exact absurd (List.mem_map.mpr ⟨(y, z), hy, by rw [← ex]⟩) hn.1
      · rcases List.mem_cons.mp hy with ey | hy
        · exact absurd (List.mem_map.mpr ⟨(x, z), hx, by rw [← ey]⟩) hn.1
        · exact ih hn.2 hx hy
  intro x hx y hy e
  have a := key x (hL x hx)
  have b := key y (hL y hy)
  rw [← e] at b
  exact two h2 a b
end K09


set_option Elab.async false
set_option linter.all false
set_option maxRecDepth 100000
set_option maxHeartbeats 8000000
namespace K09
open PySem PySem.Spec PyProof.Rows L2
/-! ### sums and slices of tuples, as data -/
theorem catA_dp {K : PySem.W.Frag} {H : Hp} {x y : V} {d1 d2 : List PyData} {Q : VK} (hx : Dp K H x (.tuple d1)) (hy : Dp K H y (.tuple d2)) (hl : d1.length + d2.length ≤ 1000) (t1 : TupDs d1) (t2 : TupDs d2)
    (q : ∀ v H', Same H H' → Dp K H' v (.tuple (d1 ++ d2)) → Q v H') : rCatA K x y H Q := by
  obtain ⟨a, xs, rfl, hs, ha, la⟩ := len_ok hx
  obtain ⟨b, ys, rfl, hb, hb2, lb⟩ := len_ok hy
  refine ⟨a, b, xs, ys, rfl, rfl, hs, hb, Nat.le_trans (by omega) (show 1000 ≤ sizeLine by decide), fun z => ?_, fun _ z => ?_, fun _ _ p hp => ?_⟩
  · have : d1 = [] := List.eq_nil_of_length_eq_zero (by rw [← la, z]; rfl)
    subst this
    exact q _ H (Same.refl H) (.tup hb hb2)
  · have : d2 = [] := List.eq_nil_of_length_eq_zero (by rw [← lb, z]; rfl)
    subst this
    rw [List.append_nil] at q
    exact q _ H (Same.refl H) (.tup hs ha)
  · have sp := same_new hp (.tup (xs ++ ys))
    exact q _ _ sp (.tup (SqT.of upd_same) (dps_app ((Tk.same sp).dps _ t1 ha) ((Tk.same sp).dps _ t2 hb2)))
theorem dps_take {K : PySem.W.Frag} {H : Hp} : ∀ {xs : List V} {d : List PyData} (i : Nat), DpAll K H xs d → DpAll K H (xs.take i) (d.take i)
  | _, _, 0, _ => by simpa using .nil
  | _, _, _ + 1, .nil => .nil
  | _, _, i + 1, .cons h r => .cons h (dps_take i r)
theorem dps_drop {K : PySem.W.Frag} {H : Hp} : ∀ {xs : List V} {d : List PyData} (i : Nat), DpAll K H xs d → DpAll K H (xs.drop i) (d.drop i)
  | _, _, 0, h => h
  | _, _, _ + 1, .nil => .nil
  | _, _, i + 1, .cons _ r => dps_drop i r
theorem tup_take : ∀ {d : List PyData} (i : Nat), TupDs d → TupDs (d.take i)
  | _, 0, _ => by rw [List.take_zero]; exact trivial
  | [], _ + 1, _ => trivial
  | _ :: _, i + 1, h => ⟨h.1, tup_take i h.2⟩
theorem tup_drop : ∀ {d : List PyData} (i : Nat), TupDs d → TupDs (d.drop i)
  | _, 0, h => h
  | [], _ + 1, h => h
  | _ :: _, i + 1, h => tup_drop i h.2
/-- t[lo:hi], lo and hi within the tuple -/
theorem sliceA_dp {K : PySem.W.Frag} {H : Hp} {x : V} {d : List PyData} {Q : VK} {lo hi : Option Int} {i j : Nat} (hx : Dp K H x (.tuple d)) (td : TupDs d) (hi1 : HT.sIx d.length 0 lo = i) (hj : HT.sIx d.length d.length hi = j)
    (q : ∀ v H', Same H H' → Dp K H' v (.tuple ((d.drop i).take (j - i))) → Q v H') : rSlA K x lo hi H Q := by
  obtain ⟨a, xs, rfl, hs, ha, la⟩ := len_ok hx
  refine ⟨a, xs, rfl, hs, fun z => ?_, fun _ p hp => ?_⟩
  · rw [la, hi1, hj] at z
    rw [z.1, z.2] at q
    have e : (d.drop 0).take (d.length - 0) = d := by simp
    rw [e] at q
    exact q _ H (Same.refl H) (.tup hs ha)
  · have sp := same_new hp (.tup (cutV xs lo hi))
    refine q _ _ sp (.tup (SqT.of upd_same) ?_)
    have e : cutV xs lo hi = (xs.drop i).take (j - i) := by
      unfold cutV
      rw [la, hi1, hj]
    have h2 := dps_take (j - i) (dps_drop i ((Tk.same sp).dps _ td ha))
    rw [← e] at h2
    exact h2
theorem sIx_lo {n i : Nat} (h : i ≤ n) : HT.sIx n 0 (some (i : Int)) = i := by
  rw [HT.sIx_nat]; omega
theorem sIx_hi {n i : Nat} (h : i ≤ n) : HT.sIx n n (some (i : Int)) = i := by
  rw [HT.sIx_nat]; omega
theorem ds_take (b : List St) (i : Nat) : (ds b).take i = ds (b.take i) := by rw [ds_map, ds_map, List.map_take]
theorem ds_drop (b : List St) (i : Nat) : (ds b).drop i = ds (b.drop i) := by rw [ds_map, ds_map, List.map_drop]
theorem dss_take (b : List (List St)) (i : Nat) : (dss b).take i = dss (b.take i) := by rw [dss_map, dss_map, List.map_take]
theorem dss_drop (b : List (List St)) (i : Nat) : (dss b).drop i = dss (b.drop i) := by rw [dss_map, dss_map, List.map_drop]
theorem ds_app (a b : List St) : ds (a ++ b) = ds a ++ ds b := by rw [ds_map, ds_map, ds_map, List.map_append]
theorem dss_app (a b : List (List St)) : dss (a ++ b) = dss a ++ dss b := by rw [dss_map, dss_map, dss_map, List.map_append]
end K09


set_option Elab.async false
set_option linter.all false
set_option maxRecDepth 100000
set_option maxHeartbeats 8000000
namespace K09
open PySem PySem.Spec PyProof.Rows L2
section
variable {P : Program} {w : World} {K : PySem.W.Frag} {mg : Str → Option Value} {base : Heap}
theorem no_all {f : Addr} {fd : FuncData} (F : C8.Def K mg "_law_names_of" (topS 49) f fd) (b : Binds K fd ["body"] []) (B : Bl K mg) : ∀ n : Nat, C8.Cal P w K mg base (n + 1) "_law_names_of" (spNO K n) []
  | 0 => by
    refine C8.cal0 (k := 0) F b .nil sc__law_names_of ?len ?body
    case len => rintro vs H Q E ⟨_, _, _, _, _, _, _, h, _⟩; exact absurd h (Nat.not_lt_zero _)
    case body => rintro cdv A outer s H vs Q E hr ⟨_, _, _, _, _, _, _, h, _⟩; exact absurd h (Nat.not_lt_zero _)
  | n + 1 => ok_no F b B (no_all F b B n)
theorem tb_all {f : Addr} {fd : FuncData} (F : C8.Def K mg "_law_turned_body" (topS 50) f fd) (b : Binds K fd ["body", "pairs"] []) (B : Bl K mg) : ∀ n : Nat, C8.Cal P w K mg base (n + 1) "_law_turned_body" (spTB K n) []
  | 0 => by
    refine C8.cal0 (k := 0) F b .nil sc__law_turned_body ?len ?body
    case len => rintro vs H Q E ⟨_, _, _, _, _, _, _, _, _, _, _, _, _, _, _, _, _, h, _⟩; exact absurd h (Nat.not_lt_zero _)
    case body => rintro cdv A outer s H vs Q E hr ⟨_, _, _, _, _, _, _, _, _, _, _, _, _, _, _, _, _, h, _⟩; exact absurd h (Nat.not_lt_zero _)
  | n + 1 => ok_tb F b B (tb_all F b B n)
end
end K09


set_option Elab.async false
set_option linter.all false
set_option maxRecDepth 100000
set_option maxHeartbeats 8000000
namespace K09
open PySem PySem.Spec PyProof.Rows L2
def LS (L : List Str) (k : Nat) (H : Hp) (a : Addr) (X : List Str) : Prop := H a = some (.lst (X.map V.str)) ∧ (∀ y ∈ X, y ∈ L) ∧ (∀ y ∈ L, y ∈ X) ∧ X.length ≤ k
section
variable {P : Program} {w : World} {K : PySem.W.Frag} {mg : Str → Option Value} {base : Heap}
def spPairs (K : PySem.W.Frag) : Sp := fun vs H Q _ => ∃ (w l : Addr) (v : V) (c : Nat) (L : List Str) (Ps : List (Str × List St)), vs = [.ref w, v] ∧ Wl H w l (c + 1200) ∧ PD K H v L Ps ∧ Prog L Ps ∧ kss (nsP Ps) ≤ 12 ∧ ∀ H' pr d0 d1 M0 M1, H' pr = some (.lst [.ref d0, .ref d1]) → H' d0 = some (.dK (DM M0)) → H' d1 = some (.dK (DM M1)) → (∀ y ∈ L, y ∈ M0.map Prod.fst) → (∀ y ∈ Ps.map Prod.fst, y ∈ M1.map Prod.fst) →
  (M0.map Prod.fst).Nodup → (M0.map Prod.snd).Nodup → Nok (M0.map Prod.snd) → (M1.map Prod.fst).Nodup → (M1.map Prod.snd).Nodup → Nok (M1.map Prod.snd) → Wl H' w l c → Kp [w, l] H H' → Tk H H' → Q (.ref pr) H'
theorem sc__law_pairs : FnScope ["well", "plan", "some", "procedure", "name", "body", "more"] ["well", "plan"] (C8.fnScope (topS 52)) := C8.fnScope_by (by decide +kernel)
theorem ok__law_pairs {f : Addr} {fd : FuncData} (F : C8.Def K mg "_law_pairs" (topS 52) f fd) (b : Binds K fd ["well", "plan"] []) (B : Bl K mg) (hlist : mg "list" = none) (c_no : C8.Cal P w K mg base 14 "_law_names_of" (spNO K 13) []) (c_pairing : C8.Cal P w K mg base 3 "_law_pairing" (spPairing K) []) : C8.Cal P w K mg base 15 "_law_pairs" (spPairs K) [] := by
  refine C8.cal0 F b .nil sc__law_pairs ?len ?body
  case len => rintro vs H Q E ⟨w, l, v, c, L, Ps, rfl, _⟩; rfl
  case body =>
    rintro cdv A outer s H vs Q E hr ⟨w, l, v, c, L, Ps, rfl, hW, hpd, hP, hkk, q⟩
    refine ⟨_, (pss_cons (ps_set (i := 2) sc__law_pairs.nd rfl (Or.inl rfl) (pe_lst (pa_cons (pe_callTy call_list_of rfl hlist (by decide +kernel) (pa_cons (pe_ix ix_tup (pv 1) pe_int (fun _ _ => rfl)) pa_nil)) (pa_cons (pe_lc (own := [("procedure", 3)]) (g := gName 3) (te := tOp (rIxT K) (tVar 3) (tC (.int 0))) (by rfl) sc__law_pairs.nd (pi_tup (pe_ix ix_tup (pv 1) pe_int (fun _ _ => rfl))) (blkOk_by (own := [("procedure", 3)]) (N := ["well", "plan", "some", "procedure", "name", "body", "more"]) (sc := (C8.fnScope (topS 52))) (by decide +kernel)) (fun _ _ _ _ _ => pg_name (i := 3) sc__law_pairs.nd rfl (Or.inl rfl)) (fun _ _ _ _ _ => pts_nil) (fun _ _ _ _ _ => by exact (pe_ix ix_tup (pv 3) pe_int (fun _ _ => rfl)))) pa_nil))))
    (pss_cons (ps_for PassesOwn.never rfl (pi_tup (pe_ix ix_tup (pv 1) pe_int (fun _ _ => rfl))) (pg_tup rfl (pgs_cons (pg_name (i := 4) sc__law_pairs.nd rfl (Or.inl rfl)) (pgs_cons (pg_name (i := 5) sc__law_pairs.nd rfl (Or.inl rfl)) pgs_nil)))
    (pss_cons (ps_set (i := 6) sc__law_pairs.nd rfl (Or.inl rfl) (C8.pe_c c_no hr (by decide) rfl (pa_cons (pv 5) pa_nil)))
    (pss_one (ps_set (i := 2) sc__law_pairs.nd rfl (Or.inl rfl) (pe_lst (pa_cons (pe_op op_cat (pe_ix ix_list (pv 2) pe_int (fun _ _ => rfl)) (pe_ix ix_tup (pv 6) pe_int (fun _ _ => rfl))) (pa_cons (pe_op op_cat (pe_ix ix_list (pv 2) pe_int (fun _ _ => rfl)) (pe_ix ix_tup (pv 6) pe_int (fun _ _ => rfl))) pa_nil)))))))
    (pss_one (ps_ret (pe_lst (pa_cons (C8.pe_c c_pairing hr (by decide) rfl (pa_cons (pv 0) (pa_cons (pe_ix ix_list (pv 2) pe_int (fun _ _ => rfl)) pa_nil))) (pa_cons (C8.pe_c c_pairing hr (by decide) rfl (pa_cons (pv 0) (pa_cons (pe_ix ix_list (pv 2) pe_int (fun _ _ => rfl)) pa_nil))) pa_nil))))))), ?_⟩
    obtain ⟨pga, la, pvv, rfl, hps0, hla, hpv⟩ := id hpd
    obtain ⟨pa, pxs, rfl, hps, hpa, hpl⟩ := len_ok hpv
    rw [List.length_map] at hpl
    have hNlen : (Ps.map Prod.fst).length ≤ 8 := by rw [List.length_map]; exact hP.p2
    have hp2 := hP.p2
    have hl2 := hP.l2
    have hn2 := hP.n
    refine ⟨_, rfl, _, _, _, _, rfl, rfl, hps0, at0 _ _, la, _, rfl, .inr (tupo_sq hla), fun x0 hx0 => ?_⟩
    have s1 := same_new hx0 (.lst (L.map V.str))
    refine ⟨_, rfl, _, _, _, _, rfl, rfl, (Tk.same s1).sqt hps0, at1 _ _ _, pa, rfl, ⟨_, (Tk.same s1).sqt hps⟩, fun D hD => ?_⟩
    have hDn : H D = none := by
      cases e : H D with
      | none => rfl
      | some o => rw [s1 _ _ e] at hD; cases hD
    refine lc_tup (xs := pxs) (fun i H' => H' D = some (.lst (((Ps.take i).map Prod.fst).map V.str)) ∧ Same (upd H x0 (.lst (L.map V.str))) H') ?_ ?_ ?_ ?_
    · exact ⟨by simpa using upd_same, same_new hD _⟩
    · rintro i H' _ ⟨_, s5⟩
      exact (Tk.same (s1.trans s5)).sqt hps
    · rintro i x H5 hx ⟨hv1, s5⟩
      obtain ⟨d, hd, hdp⟩ := dps_get' hpa hx
      obtain ⟨p, hp, rfl⟩ := procs_get hd
      have hd5 := (Tk.same (s1.trans s5)).dp _ (tup_proc p) hdp
      obtain ⟨qa, qxs, rfl, hqs, hqa, hql⟩ := len_ok hd5
      cases hqa with
      | @cons v0 _ _ _ h0 hqa =>
      cases h0
      refine ⟨rfl, ?_⟩
      refine ⟨_, rfl, _, _, _, _, rfl, rfl, hqs, at0 _ _, _, hv1, ?_, ?_, ?_⟩
      · have h3 : (Ps.take i).length ≤ Ps.length := List.length_take_le' _ _
        exact Nat.lt_of_le_of_lt (show _ ≤ 8 by rw [List.length_map, List.length_map]; omega) (by decide)
      · rw [upd_same, List.take_succ, hp]
        simp
      · intro qq oo e
        rw [upd_ne (fun z => by rw [z, hD] at e; cases e)]
        exact s5 _ _ e
    rintro H2 ⟨hD2, s2⟩
    rw [hpl, List.take_length] at hD2
    refine ⟨(by show 2 ≤ sizeLine; decide), fun sm hsm => ?_⟩
    have s3 := same_new hsm (.lst [.ref x0, .ref D])
    have hsmn : H sm = none := by
      cases e : H sm with
      | none => rfl
      | some o => rw [s2 _ _ (s1 _ _ e)] at hsm; cases hsm
    have s03 := s1.trans (s2.trans s3)
    have hx3 := (s2.trans s3) _ _ (upd_same (H := H) (a := x0) (o := .lst (L.map V.str)))
    have hD3 := s3 _ _ hD2
    refine ⟨_, rfl, _, _, _, _, rfl, rfl, (Tk.same s03).sqt hps0, at1 _ _ _, pa, rfl, ⟨_, (Tk.same s03).sqt hps⟩, ?_⟩
    refine for_tup (xs := pxs) (fun i σ H' => ∃ sm x0 x1 X0 X1 b3 b4 b5 b6, σ = [some (.ref w), some (.ref pga), some (.ref sm), b3, b4, b5, b6] ∧ H' sm = some (.lst [.ref x0, .ref x1]) ∧ LS L (20 + nss ((nsP Ps).take i)) H' x0 X0 ∧ LS (Ps.map Prod.fst) (8 + nss ((nsP Ps).take i)) H' x1 X1 ∧ H sm = none ∧ H x0 = none ∧ H x1 = none ∧ Same H H') ?_ ?_ ?_ ?_
    · exact ⟨sm, x0, D, L, Ps.map Prod.fst, _, _, _, _, rfl, upd_same, ⟨hx3, fun y hy => hy, fun y hy => hy, by omega⟩, ⟨hD3, fun y hy => hy, fun y hy => hy, by omega⟩, hsmn, hx0, hDn, s03⟩
    · rintro i σ H' _ ⟨_, _, _, _, _, _, _, _, _, _, _, _, _, _, _, _, s5⟩
      exact (Tk.same s5).sqt hps
    · rintro i x _ H4 hx ⟨sm, x0, x1, X0, X1, b3, b4, b5, b6, rfl, hsm4, hL4, hN4, e1, e2, e3, s4⟩
      obtain ⟨d, hd, hdp⟩ := dps_get' hpa hx
      obtain ⟨p, hp, rfl⟩ := procs_get hd
      have hd5 := (Tk.same s4).dp _ (tup_proc p) hdp
      obtain ⟨qa, qxs, rfl, hqs, hqa, hql⟩ := len_ok hd5
      cases hqa with
      | @cons v0 _ _ _ h0 hqa =>
      cases h0
      cases hqa with
      | @cons v1 _ _ _ h1 hqa =>
      cases hqa
      have hpm : p ∈ Ps := List.mem_of_getElem? hp
      have hbm : p.2 ∈ nsP Ps := List.mem_map.mpr ⟨p, hpm, rfl⟩
      have hbi : (nsP Ps)[i]? = some p.2 := by unfold nsP; rw [List.getElem?_map, hp]; rfl
      have hkk2 := kss_mem hbm
      have hnn := nss_mem hbm
      have hta := nss_take hbi
      have htb := nss_take_le (nsP Ps) (i + 1)
      refine ⟨qa, _, rfl, hqs, rfl, _, _, rfl, _, _, rfl, rfl, ?_⟩
      refine ⟨_, rfl, v1, p.2, L, Ps.map Prod.fst, false, rfl, h1, by omega, by omega, hP.ok _ hbm, fun H5 mv s5 hmv => ?_⟩
      obtain ⟨mp, ma, mb, A2, B2, rfl, hmp, hmA, hmB, gA, gB, lA, lB⟩ := hmv
      have hsm5 := s5 _ _ hsm4
      refine ⟨_, rfl, sm, _, _, _, rfl, rfl, SqL.of hsm5, at0 _ _, _, rfl, mp, _, _, _, rfl, rfl, hmp, at0 _ _, x0, ma, _, _, rfl, rfl, s5 _ _ hL4.1, hmA, Nat.le_trans (show _ ≤ 3000 by rw [List.length_map, List.length_map]; have := hL4.2.2.2; omega) (by decide), fun z1 hz1 => ?_⟩
      have s6 := same_new hz1 (.lst (X0.map V.str ++ A2.map V.str))
      refine ⟨_, rfl, sm, _, _, _, rfl, rfl, SqL.of (s6 _ _ hsm5), at1 _ _ _, _, rfl, mp, _, _, _, rfl, rfl, (Tk.same s6).sqt hmp, at1 _ _ _, x1, mb, _, _, rfl, rfl, s6 _ _ (s5 _ _ hN4.1), s6 _ _ hmB, Nat.le_trans (show _ ≤ 3000 by rw [List.length_map, List.length_map]; have := hN4.2.2.2; omega) (by decide), fun z2 hz2 => ⟨(by show 2 ≤ sizeLine; decide), fun z3 hz3 => ?_⟩⟩
      have s7 := same_new hz2 (.lst (X1.map V.str ++ B2.map V.str))
      have s8 := same_new hz3 (.lst [.ref z1, .ref z2])
      have f1 := (s7.trans s8) _ _ (upd_same (H := H5) (a := z1) (o := .lst (X0.map V.str ++ A2.map V.str)))
      have f2 := s8 _ _ (upd_same (a := z2) (o := .lst (X1.map V.str ++ B2.map V.str)))
      have sAll := s4.trans (s5.trans (s6.trans (s7.trans s8)))
      have newN : ∀ {z : Addr} {Hx : Hp}, Same H Hx → Hx z = none → H z = none := fun {z Hx} sx hz => by
        cases e : H z with
        | none => rfl
        | some o => rw [sx _ _ e] at hz; cases hz
      refine ⟨z3, z1, z2, X0 ++ A2, X1 ++ B2, _, _, _, _, rfl, upd_same, ⟨by rw [f1, List.map_append], fun y hy => (List.mem_append.mp hy).elim (hL4.2.1 y) (gA y), fun y hy => List.mem_append_left _ (hL4.2.2.1 y hy), by rw [List.length_append]; have := hL4.2.2.2; omega⟩, ⟨by rw [f2, List.map_append], fun y hy => (List.mem_append.mp hy).elim (hN4.2.1 y) (gB y), fun y hy => List.mem_append_left _ (hN4.2.2.1 y hy), by rw [List.length_append]; have := hN4.2.2.2; omega⟩, newN (s4.trans (s5.trans (s6.trans s7))) hz3, newN (s4.trans s5) hz1, newN (s4.trans (s5.trans s6)) hz2, sAll⟩
    · rintro σ H4 ⟨sm, x0, x1, X0, X1, b3, b4, b5, b6, rfl, hsm4, hL4, hN4, e1, e2, e3, s4⟩
      have nsm := hW.out e1
      have nx0 := hW.out e2
      have nx1 := hW.out e3
      refine ⟨_, rfl, _, rfl, sm, _, _, _, rfl, rfl, SqL.of hsm4, at0 _ _, w, l, x0, c + 600, X0, L, rfl, (hW.same s4).le (by omega), SqL.of hL4.1, nx0, hP.l2, hL4.2.1, fun H6 d0 M0 hd0 hd0n g1 g2 g3 g4 g5 hW6 k6 t6 => ?_⟩
      refine ⟨_, rfl, _, rfl, sm, _, _, _, rfl, rfl, SqL.of (k6 _ _ nsm hsm4), at1 _ _ _, w, l, x1, c, X1, Ps.map Prod.fst, rfl, hW6, SqL.of (k6 _ _ nx1 hN4.1), nx1, by omega, hN4.2.1, fun H7 d1 M1 hd1 hd1n j1 j2 j3 j4 j5 hW7 k7 t7 => ?_⟩
      have nd0 := (hW.same s4).out hd0n
      refine ⟨(by show 2 ≤ sizeLine; decide), fun pr hpr => ?_⟩
      have s8 := same_new hpr (.lst [.ref d0, .ref d1])
      exact q _ pr d0 d1 M0 M1 upd_same (s8 _ _ (k7 _ _ nd0 hd0)) (s8 _ _ hd1) (fun y hy => g1 y (hL4.2.2.1 y hy)) (fun y hy => j1 y (hN4.2.2.1 y hy)) g2 g3 g4 j2 j3 j4 (hW7.same s8) ((Kp.of_same s4).trans (k6.trans (k7.trans (Kp.of_same s8)))) ((Tk.same s4).trans (t6.trans (t7.trans (Tk.same s8))))
end
end K09


set_option Elab.async false
set_option linter.all false
set_option maxRecDepth 100000
set_option maxHeartbeats 8000000
namespace K09
open PySem PySem.Spec PyProof.Rows L2
/-- the program with other names -/
def renL (M0 : List (Str × Str)) (L : List Str) : List Str := L.map (fn M0)
def renP (M0 M1 : List (Str × Str)) (Ps : List (Str × List St)) : List (Str × List St) := Ps.map fun p => (fn M1 p.1, rens (fn M0) (fn M1) p.2)
theorem dget_fn {H : Hp} {d : Addr} {M : List (Str × Str)} {x : Str} (hd : H d = some (.dK (DM M))) (h : x ∈ M.map Prod.fst) : DGet H d (.str x) (some (.str (fn M x))) := by
  have := DGet.k (k := Sum.inr x) hd
  rw [fn_val h] at this
  exact this
section
variable {P : Program} {w : World} {K : PySem.W.Frag} {mg : Str → Option Value} {base : Heap}

def spTP (K : PySem.W.Frag) : Sp := fun vs H Q _ => ∃ v pr d0 d1 L Ps M0 M1, vs = [v, .ref pr] ∧ PD K H v L Ps ∧ Prog L Ps ∧ H pr = some (.lst [.ref d0, .ref d1]) ∧ H d0 = some (.dK (DM M0)) ∧ H d1 = some (.dK (DM M1)) ∧ (∀ x ∈ L, x ∈ M0.map Prod.fst) ∧ (∀ x ∈ Ps.map Prod.fst, x ∈ M1.map Prod.fst) ∧
  ∀ H' v', Same H H' → PD K H' v' (renL M0 L) (renP M0 M1 Ps) → Q v' H'
theorem sc__law_turned_plan : FnScope ["plan", "pairs", "letters", "letter", "name", "body"] ["plan", "pairs"] (C8.fnScope (topS 51)) := C8.fnScope_by (by decide +kernel)
theorem ok__law_turned_plan {f : Addr} {fd : FuncData} (F : C8.Def K mg "_law_turned_plan" (topS 51) f fd) (b : Binds K fd ["plan", "pairs"] []) (B : Bl K mg) (c_tb : C8.Cal P w K mg base 14 "_law_turned_body" (spTB K 13) []) : C8.Cal P w K mg base 15 "_law_turned_plan" (spTP K) [] := by
  refine C8.cal0 F b .nil sc__law_turned_plan ?len ?body
  case len => rintro vs H Q E ⟨v, pr, d0, d1, L, Ps, M0, M1, rfl, _⟩; rfl
  case body =>
    rintro cdv A outer s H vs Q E hr ⟨v, pr, d0, d1, L, Ps, M0, M1, rfl, ⟨a, la, pvv, rfl, hs, hla, hpv⟩, hP, hpr, hd0, hd1, hL, hN, q⟩
    refine ⟨_, (pss_cons (ps_set (i := 2) sc__law_turned_plan.nd rfl (Or.inl rfl) (pe_callTy call_tupleZ rfl B.tuple (by decide +kernel) (pa_cons (pe_lc (own := [("letter", 3)]) (g := gName 3) (te := tDGet (tOp (rIxL K) (tVar 1) (tC (.int 0))) (tVar 3)) (by rfl) sc__law_turned_plan.nd (pi_tup (pe_ix ix_tup (pv 0) pe_int (fun _ _ => rfl))) (blkOk_by (own := [("letter", 3)]) (N := ["plan", "pairs", "letters", "letter", "name", "body"]) (sc := (C8.fnScope (topS 51))) (by decide +kernel)) (fun _ _ _ _ _ => pg_name (i := 3) sc__law_turned_plan.nd rfl (Or.inl rfl)) (fun _ _ _ _ _ => pts_nil) (fun _ _ _ _ _ => by exact (pe_dget (hu_of hr) (pe_ix ix_list (pv 1) pe_int (fun _ _ => rfl)) (pv 3) (fun _ _ => rfl)))) pa_nil)))
    (pss_one (ps_ret (pe_tup (pa_cons (pv 2) (pa_cons (pe_callTy call_tuple_of rfl B.tuple (by decide +kernel) (pa_cons (pe_lc (own := [("name", 4), ("body", 5)]) (g := gTup K 2 (gCons (gName 4) (gCons (gName 5) gNil))) (te := tTup (tCons (tDGet (tOp (rIxL K) (tVar 1) (tC (.int 1))) (tVar 4)) (tCons (tCall (spTB K 13) [] C8.E0 (tCons (tVar 5) (tCons (tVar 1) tNil))) tNil))) (by rfl) sc__law_turned_plan.nd (pi_tup (pe_ix ix_tup (pv 0) pe_int (fun _ _ => rfl))) (blkOk_by (own := [("name", 4), ("body", 5)]) (N := ["plan", "pairs", "letters", "letter", "name", "body"]) (sc := (C8.fnScope (topS 51))) (by decide +kernel)) (fun _ _ _ _ _ => by exact pg_tup rfl (pgs_cons (pg_name (i := 4) sc__law_turned_plan.nd rfl (Or.inl rfl)) (pgs_cons (pg_name (i := 5) sc__law_turned_plan.nd rfl (Or.inl rfl)) pgs_nil))) (fun _ _ _ _ _ => pts_nil) (fun _ _ _ _ _ => by exact (pe_tup (pa_cons (pe_dget (hu_of hr) (pe_ix ix_list (pv 1) pe_int (fun _ _ => rfl)) (pv 4) (fun _ _ => rfl)) (pa_cons (C8.pe_c c_tb hr (by decide) rfl (pa_cons (pv 5) (pa_cons (pv 1) pa_nil))) pa_nil))))) pa_nil)) pa_nil)))))), ?_⟩
    obtain ⟨pa, pxs, rfl, hps, hpa, hpl⟩ := len_ok hpv
    rw [List.length_map] at hpl
    refine ⟨_, rfl, _, _, _, _, rfl, rfl, hs, at0 _ _, la, rfl, ⟨_, hla.sq⟩, fun D1 hD1 => ?_⟩
    refine lc_tup (xs := L.map V.str) (fun i H' => H' D1 = some (.lst (((L.take i).map (fn M0)).map V.str)) ∧ Same H H') ?_ ?_ ?_ ?_
    · exact ⟨by simpa using upd_same, same_new hD1 _⟩
    · rintro i H' _ ⟨_, s1⟩
      exact (hla.tk (Tk.same s1)).sq
    · rintro i x H1 hx ⟨hv1, s1⟩
      rw [List.getElem?_map] at hx
      cases hy : L[i]? with
      | none => rw [hy] at hx; cases hx
      | some y =>
      rw [hy] at hx
      cases hx
      have hm := hL y (List.mem_of_getElem? hy)
      refine ⟨rfl, _, rfl, _, _, _, _, rfl, rfl, SqL.of (s1 _ _ hpr), at0 _ _, _, rfl, d0, _, rfl, dget_fn (s1 _ _ hd0) hm, _, hv1, ?_, ?_, ?_⟩
      · have := hP.l2
        have h3 : (L.take i).length ≤ L.length := List.length_take_le' _ _
        exact Nat.lt_of_le_of_lt (show _ ≤ 20 by rw [List.length_map, List.length_map]; omega) (by decide)
      · rw [upd_same, List.take_succ, hy]
        simp
      · intro b o e
        rw [upd_ne (fun z => by rw [z, hD1] at e; cases e)]
        exact s1 _ _ e
    · rintro H1 ⟨hv1, s1⟩
      rw [List.length_map, List.take_length] at hv1
      refine ⟨D1, _, rfl, SqL.of hv1, fun r ob hr0 oc od => ?_⟩
      have sr := s1.trans (same_new hr0 (.frz ob (.tup (((L.map (fn M0)).map V.str)))))
      have hto : TupO (upd H1 r (.frz ob (.tup ((L.map (fn M0)).map V.str)))) r ((renL M0 L).map V.str) := ⟨ob, upd_same, oc, od⟩
      generalize upd H1 r (.frz ob (.tup ((L.map (fn M0)).map V.str))) = H2 at sr hto
      refine ⟨_, rfl, ?_⟩
      refine ⟨_, rfl, _, _, _, _, rfl, rfl, (Tk.same sr).sqt hs, at1 _ _ _, pa, rfl, ⟨_, (Tk.same sr).sqt hps⟩, fun D2 hD2 => ?_⟩
      have hD20 : ∀ b o, H2 b = some o → b ≠ D2 := fun b o e z => by rw [z, hD2] at e; cases e
      refine lc_tup (xs := pxs) (fun i H' => Same H2 H' ∧ ∃ vs, H' D2 = some (.lst vs) ∧ DpAll K H' vs ((renP M0 M1 (Ps.take i)).map procD)) ?_ ?_ ?_ ?_
      · exact ⟨same_new hD2 _, [], upd_same, by simpa [renP] using .nil⟩
      · rintro i H' _ ⟨s2, _⟩
        exact (Tk.same (sr.trans s2)).sqt hps
      · rintro i x H3 hx ⟨s2, fv, hF, hfv⟩
        obtain ⟨d, hd, hdp⟩ := dps_get' hpa hx
        obtain ⟨p, hp, rfl⟩ := procs_get hd
        have s3 := sr.trans s2
        have hd3 := (Tk.same s3).dp _ (tup_proc p) hdp
        obtain ⟨qa, qxs, rfl, hqs, hqa, hql⟩ := len_ok hd3
        cases hqa with
        | @cons v0 _ _ _ h0 hqa =>
        cases h0
        cases hqa with
        | @cons v1 _ _ _ h1 hqa =>
        cases hqa
        have hpm : p ∈ Ps := List.mem_of_getElem? hp
        have hbm : p.2 ∈ nsP Ps := List.mem_map.mpr ⟨p, hpm, rfl⟩
        have hkk := kss_mem hbm
        have hnn := nss_mem hbm
        have hbl := len_ns p.2
        have hk12 := hP.ks
        have hn200 := hP.n
        refine ⟨qa, _, rfl, hqs, rfl, _, _, rfl, _, _, rfl, rfl, rfl, ?_⟩
        refine ⟨_, rfl, _, _, _, _, rfl, rfl, SqL.of (s3 _ _ hpr), at1 _ _ _, _, rfl, d1, _, rfl, dget_fn (s3 _ _ hd1) (hN p.1 (List.mem_map.mpr ⟨p, hpm, rfl⟩)), _, rfl, _, rfl, v1, pr, d0, d1, p.2, L, Ps.map Prod.fst, false, M0, M1, rfl, h1, s3 _ _ hpr, s3 _ _ hd0, s3 _ _ hd1, hL, hN, by omega, by omega, by omega, hP.ok _ hbm, fun H4 v4 s4 h4 => ?_⟩
        refine ⟨(by show 2 ≤ sizeLine; decide), fun y hy => ?_⟩
        have sy := s4.trans (same_new hy (.tup [.str (fn M1 p.1), v4]))
        have hF5 := sy _ _ hF
        have hml := dps_len hfv
        have hml2 : fv.length ≤ 8 := by
          rw [hml, List.length_map, renP, List.length_map]
          have := List.length_take_le' i Ps
          have := hP.p2
          omega
        have tU := Tk.put hF5 (.lst (fv ++ [.ref y]))
        refine ⟨fv, hF5, Nat.lt_of_le_of_lt hml2 (by decide), fun b o e => ?_, fv ++ [.ref y], upd_same, ?_⟩
        · rw [upd_ne (hD20 _ _ e)]
          exact sy _ _ (s2 _ _ e)
        · have e2 : (renP M0 M1 (Ps.take (i + 1))).map procD = (renP M0 M1 (Ps.take i)).map procD ++ [procD (fn M1 p.1, rens (fn M0) (fn M1) p.2)] := by
            rw [List.take_succ, hp]
            simp [renP]
          rw [e2]
          refine dps_app (((Tk.same sy).trans tU).dps _ (tup_procs _) hfv) (.cons ?_ .nil)
          refine .tup (tU.sqt (SqT.of upd_same)) (.cons (.str _) (.cons ?_ .nil))
          exact ((Tk.same (same_new hy _)).trans tU).dp (.tuple (ds (rens (fn M0) (fn M1) p.2))) (tup_ds _) h4
      · rintro H3 ⟨s2, fv, hF, hfv⟩
        rw [hpl, List.take_length] at hfv
        refine ⟨D2, _, rfl, .inl ⟨SqL.of hF, fun z hz => ⟨(by show 2 ≤ sizeLine; decide), fun y hy => ?_⟩⟩⟩
        have sz := same_new hz (.tup fv)
        have sy := same_new hy (.tup [.ref r, .ref z])
        have nzy : z ≠ y := fun w => by rw [← w, upd_same] at hy; cases hy
        refine q _ _ (sr.trans (s2.trans (sz.trans sy))) ⟨y, r, .ref z, rfl, SqT.of upd_same, hto.tk (Tk.same (s2.trans (sz.trans sy))), .tup (SqT.of (by rw [upd_ne nzy]; exact upd_same)) ?_⟩
        exact dps_ext (same_ext (sz.trans sy)) _ hfv
end
end K09


set_option Elab.async false
set_option linter.all false
set_option maxRecDepth 100000
set_option maxHeartbeats 8000000
namespace K09
open PySem PySem.Spec PyProof.Rows L2
theorem oks_app {L N : List Str} {sec : Bool} {a b : List St} : oks L N sec (a ++ b) ↔ oks L N sec a ∧ oks L N sec b := by
  rw [oks_iff, oks_iff, oks_iff]
  exact List.forall_mem_append
theorem okss_app {L N : List Str} {sec : Bool} {a b : List (List St)} : okss L N sec (a ++ b) ↔ okss L N sec a ∧ okss L N sec b := by
  rw [okss_iff, okss_iff, okss_iff]
  exact List.forall_mem_append
theorem kss_app : ∀ a b : List (List St), kss (a ++ b) = max (kss a) (kss b)
  | [], _ => by simp [kss]
  | x :: r, b => by
    rw [List.cons_append, kss, kss, kss_app r b]
    omega
theorem split_at {α : Type} {b : List α} {k : Nat} {s : α} (h : b[k]? = some s) : b = b.take k ++ s :: b.drop (k + 1) := by
  obtain ⟨hk, e⟩ := List.getElem?_eq_some_iff.mp h
  rw [← e, List.getElem_cons_drop, List.take_append_drop]
/-- a body with another statement or a new one at one place: what the wrapping keeps -/
structure Wr (L N : List Str) (sec : Bool) (b b' : List St) : Prop where
  a : Alike L N b' b
  ok : oks L N sec b'
  n : ns b' = ns b + 1
  k : ks b' ≤ ks b + 1
structure Wr1 (L N : List Str) (sec : Bool) (s s' : St) : Prop where
  a : Alike L N [s'] [s]
  ok : s'.ok L N sec
  n : s'.n = s.n + 1
  k : s'.k ≤ s.k + 1
theorem Wr.of1 {L N : List Str} {sec : Bool} {b : List St} {k : Nat} {s s' : St} (h : b[k]? = some s) (hb : oks L N sec b) (w : Wr1 L N sec s s') : Wr L N sec b (b.take k ++ s' :: b.drop (k + 1)) := by
  have e := split_at h
  generalize b.take k = x at e
  generalize b.drop (k + 1) = y at e
  subst e
  obtain ⟨o1, o2, o3⟩ := oks_app.mp hb
  refine ⟨w.a.mid x y, oks_app.mpr ⟨o1, w.ok, o3⟩, ?_, ?_⟩
  · have := w.n
    rw [ns_app, ns_app, ns, ns]; omega
  · have := w.k
    rw [ks_app, ks_app, ks, ks]; omega
theorem Wr.put {L N : List Str} {sec : Bool} {b : List St} {lo hi : Nat} (h1 : lo ≤ hi) (hb : oks L N sec b) : Wr L N sec b (b.take lo ++ .en ((b.drop lo).take (hi - lo)) [] :: b.drop hi) := by
  have e : b = b.take lo ++ ((b.drop lo).take (hi - lo) ++ b.drop hi) := by
    have e2 : b.drop hi = (b.drop lo).drop (hi - lo) := by rw [List.drop_drop]; congr 1; omega
    rw [e2, List.take_append_drop, List.take_append_drop]
  generalize b.take lo = x at e
  generalize (b.drop lo).take (hi - lo) = m at e
  generalize b.drop hi = y at e
  subst e
  obtain ⟨o1, o2⟩ := oks_app.mp hb
  obtain ⟨o2, o3⟩ := oks_app.mp o2
  refine ⟨Alike.wrap x m y, oks_app.mpr ⟨o1, ⟨o2, trivial⟩, o3⟩, ?_, ?_⟩
  · rw [ns_app, ns_app, ns_app, ns, St.n, ns]; omega
  · rw [ks_app, ks_app, ks_app, ks, St.k, ks]; omega
theorem Wr.ch {L N : List Str} {sec : Bool} {bs : List (List St)} {j : Nat} {b b' : List St} (h : bs[j]? = some b) (ho : (St.ch bs).ok L N sec) (w : Wr L N sec b b') : Wr1 L N sec (.ch bs) (.ch (bs.take j ++ b' :: bs.drop (j + 1))) := by
  have e := split_at h
  generalize bs.take j = x at e
  generalize bs.drop (j + 1) = y at e
  subst e
  obtain ⟨l1, l2, o⟩ := ho
  obtain ⟨o1, o2, o3⟩ := okss_app.mp o
  refine ⟨w.a.ch x y, ⟨by simpa using l1, by simpa using l2, okss_app.mpr ⟨o1, w.ok, o3⟩⟩, ?_, ?_⟩
  · have := w.n
    rw [St.n, St.n, nss_app, nss_app, nss, nss]; omega
  · have := w.k
    rw [St.k, St.k, kss_app, kss_app, kss, kss]; omega
theorem Wr.lp {L N : List Str} {sec : Bool} {b b' : List St} (w : Wr L N sec b b') : Wr1 L N sec (.lp b) (.lp b') := by
  have h1 := w.n
  have h2 := w.k
  exact ⟨w.a.lp, w.ok, by rw [St.n, St.n]; omega, by rw [St.k, St.k]; omega⟩
theorem Wr.en1 {L N : List Str} {sec : Bool} {b b' c : List St} (w : Wr L N sec b b') (hc : oks L N true c) : Wr1 L N sec (.en b c) (.en b' c) := by
  have h1 := w.n
  have h2 := w.k
  exact ⟨w.a.en1 c, ⟨w.ok, hc⟩, by rw [St.n, St.n]; omega, by rw [St.k, St.k]; omega⟩
theorem Wr.en2 {L N : List Str} {sec : Bool} {b c c' : List St} (w : Wr L N true c c') (hb : oks L N sec b) : Wr1 L N sec (.en b c) (.en b c') := by
  have h1 := w.n
  have h2 := w.k
  exact ⟨w.a.en2 b, ⟨hb, w.ok⟩, by rw [St.n, St.n]; omega, by rw [St.k, St.k]; omega⟩
def St.word : St → Str
  | .dd _ => "do"
  | .ud _ => "undo"
  | .cl _ => "call"
  | .ch _ => "choose"
  | .lp _ => "loop"
  | .rt => "return"
  | .en _ _ => "ensure"
def St.isO : St → Bool
  | .ch _ | .lp _ | .en _ _ => true
  | _ => false
theorem head_of {K : PySem.W.Frag} {H : Hp} {v : V} {s : St} (h : Dp K H v s.d) : ∃ a xs, v = V.ref a ∧ SqT K H a xs ∧ atI xs 0 = some (.str s.word) := by
  cases s <;> (obtain ⟨a, xs, rfl, hs, ha, hl⟩ := len_ok h; cases ha with | cons h0 ha => cases h0; exact ⟨a, _, rfl, hs, at0 _ _⟩)
theorem word_in : ∀ s : St, inV (.str s.word) [V.str "choose", V.str "loop", V.str "ensure"] = s.isO
  | .dd _ => (by decide +kernel : inV (.str "do") [V.str "choose", V.str "loop", V.str "ensure"] = false)
  | .ud _ => (by decide +kernel : inV (.str "undo") [V.str "choose", V.str "loop", V.str "ensure"] = false)
  | .cl _ => (by decide +kernel : inV (.str "call") [V.str "choose", V.str "loop", V.str "ensure"] = false)
  | .ch _ => (by decide +kernel : inV (.str "choose") [V.str "choose", V.str "loop", V.str "ensure"] = true)
  | .lp _ => (by decide +kernel : inV (.str "loop") [V.str "choose", V.str "loop", V.str "ensure"] = true)
  | .rt => (by decide +kernel : inV (.str "return") [V.str "choose", V.str "loop", V.str "ensure"] = false)
  | .en _ _ => (by decide +kernel : inV (.str "ensure") [V.str "choose", V.str "loop", V.str "ensure"] = true)
/-- the indexes of the statements with bodies -/
def outs (b : List St) (i : Nat) : List Nat := (List.range i).filter fun k => (b[k]?).any St.isO
theorem outs_succ (b : List St) (i : Nat) {s : St} (h : b[i]? = some s) : outs b (i + 1) = if s.isO = true then outs b i ++ [i] else outs b i := by
  unfold outs
  rw [List.range_succ, List.filter_append]
  have e : [i].filter (fun k => (b[k]?).any St.isO) = if s.isO = true then [i] else [] := by
    rw [List.filter_cons, show ((b[i]?).any St.isO) = s.isO by rw [h]; rfl]
    cases s.isO <;> rfl
  rw [e]
  split <;> simp
theorem outs_get {b : List St} {i j : Nat} {k : Nat} (h : (outs b i)[j]? = some k) : ∃ s, b[k]? = some s ∧ s.isO = true := by
  have hm := List.mem_of_getElem? h
  unfold outs at hm
  have := (List.mem_filter.mp hm).2
  cases e : b[k]? with
  | none => rw [e] at this; cases this
  | some s => rw [e] at this; exact ⟨s, rfl, this⟩
theorem outs_len (b : List St) (i : Nat) : (outs b i).length ≤ i := by
  have := List.length_filter_le (fun k => (b[k]?).any St.isO) (List.range i)
  rw [List.length_range] at this
  exact this
def ixI (ks : List Nat) : List Int := ks.map fun k : Nat => ((k : Nat) : Int)
def ixV (ks : List Nat) : List V := (ixI ks).map V.int
def ttO (K : PySem.W.Frag) : TT := tTest (tOp (rIn K false) (tOp (rIxT K) (tOp (rIxT K) (tVar 1) (tVar 4)) (tC (.int 0))) (tTup (tCons (tC (.str "choose")) (tCons (tC (.str "loop")) (tCons (tC (.str "ensure")) tNil)))))
theorem slTo {K : PySem.W.Frag} {H : Hp} {x : V} {d : List PyData} {Q : VK} {i : Nat} (hx : Dp K H x (.tuple d)) (td : TupDs d) (h : i ≤ d.length) (q : ∀ v H', Same H H' → Dp K H' v (.tuple (d.take i)) → Q v H') : rSlA K x none (some (i : Int)) H Q :=
  sliceA_dp (i := 0) (j := i) hx td rfl (sIx_hi h) fun v H' s hv => q v H' s (by rw [List.drop_zero, Nat.sub_zero] at hv; exact hv)
theorem slFrom {K : PySem.W.Frag} {H : Hp} {x : V} {d : List PyData} {Q : VK} {i : Nat} (hx : Dp K H x (.tuple d)) (td : TupDs d) (h : i ≤ d.length) (q : ∀ v H', Same H H' → Dp K H' v (.tuple (d.drop i)) → Q v H') : rSlA K x (some (i : Int)) none H Q :=
  sliceA_dp (i := i) (j := d.length) hx td (sIx_lo h) rfl fun v H' s hv => q v H' s (by rw [List.take_of_length_le (by rw [List.length_drop]; exact Nat.le_refl _)] at hv; exact hv)
theorem slMid {K : PySem.W.Frag} {H : Hp} {x : V} {d : List PyData} {Q : VK} {i j : Nat} (hx : Dp K H x (.tuple d)) (td : TupDs d) (h1 : i ≤ d.length) (h2 : j ≤ d.length) (q : ∀ v H', Same H H' → Dp K H' v (.tuple ((d.drop i).take (j - i))) → Q v H') : rSlA K x (some (i : Int)) (some (j : Int)) H Q :=
  sliceA_dp (i := i) (j := j) hx td (sIx_lo h1) (sIx_hi h2) q
/-- the bodies of a loop or an ensure, by their index in the statement -/
theorem pick_body {L N : List Str} {sec : Bool} : ∀ {s : St}, s.isO = true → (∀ bs, s ≠ .ch bs) → s.ok L N sec → ∃ dl, s.d = .tuple dl ∧ TupDs dl ∧ 2 ≤ dl.length ∧ dl.length ≤ 3 ∧ ∀ r, r + 1 < dl.length → ∃ bj secj, dl[1 + r]? = some (.tuple (ds bj)) ∧ oks L N secj bj ∧ ns bj ≤ s.n ∧
    ∀ b', Wr L N secj bj b' → ∃ s', s'.d = .tuple (dl.take (1 + r) ++ [.tuple (ds b')] ++ dl.drop (1 + r + 1)) ∧ Wr1 L N sec s s'
  | .ch bs, _, h, _ => absurd rfl (h bs)
  | .lp b, _, _, ho => ⟨_, rfl, ⟨trivial, tup_ds b, trivial⟩, by simp, by simp, fun r hr => by
    have e : r = 0 := by simp at hr; omega
    subst e
    exact ⟨b, sec, rfl, ho, by rw [St.n]; omega, fun b' w => ⟨.lp b', rfl, w.lp⟩⟩⟩
  | .en b c, _, _, ho => ⟨_, rfl, ⟨trivial, tup_ds b, tup_ds c, trivial⟩, by simp, by simp, fun r hr => by
    have e : r = 0 ∨ r = 1 := by simp at hr; omega
    rcases e with rfl | rfl
    · exact ⟨b, sec, rfl, ho.1, by rw [St.n]; omega, fun b' w => ⟨.en b' c, rfl, w.en1 ho.2⟩⟩
    · exact ⟨c, true, rfl, ho.2, by rw [St.n]; omega, fun b' w => ⟨.en b b', rfl, w.en2 ho.1⟩⟩⟩
theorem dec_gt0 (i : Int) : decide ((0 : Int) < i) = true ∨ decide ((0 : Int) < i) = false := by cases decide ((0 : Int) < i) <;> simp
section
variable {P : Program} {w : World} {K : PySem.W.Frag} {mg : Str → Option Value} {base : Heap}

def spWr (K : PySem.W.Frag) (n : Nat) : Sp := fun vs H Q _ => ∃ w l bv deep c L N b sec, vs = [.ref w, bv, .int (deep : Nat)] ∧ Wl H w l (c + (3 * n + 2)) ∧ deep < n ∧ Dp K H bv (.tuple (ds b)) ∧ ns b ≤ 100 ∧ oks L N sec b ∧
  ∀ H' v' b', Dp K H' v' (.tuple (ds b')) → Wr L N sec b b' → Wl H' w l c → Kp [w, l] H H' → Tk H H' → Q v' H'
theorem sc__law_wrapped : FnScope ["well", "body", "deep", "outer", "k", "statement", "j", "inner", "low", "high"] ["well", "body", "deep"] (C8.fnScope (topS 53)) := C8.fnScope_by (by decide +kernel)
theorem ok_wr {n e : Nat} {f : Addr} {fd : FuncData} (F : C8.Def K mg "_law_wrapped" (topS 53) f fd) (b : Binds K fd ["well", "body", "deep"] []) (B : Bl K mg) (c_draw : C8.Cal P w K mg base 1 "_law_draw" spDraw []) (c_wr : C8.Cal P w K mg base e "_law_wrapped" (spWr K n) []) (he : 1 ≤ e) : C8.Cal P w K mg base (e + 1) "_law_wrapped" (spWr K (n + 1)) [] := by
  refine C8.cal0 F b .nil sc__law_wrapped ?len ?body
  case len => rintro vs H Q E ⟨w, l, bv, deep, c, L, N, b, sec, rfl, _⟩; rfl
  case body =>
    rintro cdv A outer s H vs Q E hr ⟨w, l, bv, deep, c, L, N, b, sec, rfl, hW, hdn, hd, hn, hok, q⟩
    refine ⟨_, (pss_cons (ps_setLc (i := 3)  (own := [("k", 4)]) (tt := ttO K) (g := gName 4) (by rfl) sc__law_wrapped.nd rfl rfl (sw_true rfl rfl rfl (by decide +kernel)) (pi_range1 rfl B.range (pa_cons (pe_callB call_len_seq rfl B.len PySem.boot_len (pa_cons (pv 1) pa_nil)) pa_nil)) (blkOk_by (own := [("k", 4)]) (N := ["well", "body", "deep", "outer", "k", "statement", "j", "inner", "low", "high"]) (sc := (C8.fnScope (topS 53))) (by decide +kernel)) (fun _ _ _ _ _ => pg_name (i := 4) sc__law_wrapped.nd rfl (Or.inl rfl)) (fun _ _ _ _ _ => by exact (pts_one (pt_cmpR op_in_seq (pe_ix ix_tup (pe_ix ix_tup (pv 1) (pv 4) (fun _ _ => rfl)) pe_int (fun _ _ => rfl)) (pe_tup (pa_cons pe_str (pa_cons pe_str (pa_cons pe_str pa_nil)))) (by with_unfolding_all rfl)))) (fun _ _ _ _ _ => (pv 4)))
    (C8.pss_cut (ps_if (PW.pt (pw_and (pt_cmpR (op_neD hr.units) (pv 3) (pe_lst pa_nil) (nomark _)) (pw_and (pt_cmpR op_gt (pv 2) pe_int (nomark _)) (pw_and1 (pt_cmpR op_gt (C8.pe_c c_draw hr (by omega) rfl (pa_cons (pv 0) (pa_cons pe_int pa_nil))) pe_int (nomark _)))))) (pss_cons (ps_set (i := 4) sc__law_wrapped.nd rfl (Or.inl rfl) (pe_ix ix_list (pv 3) (C8.pe_c c_draw hr (by omega) rfl (pa_cons (pv 0) (pa_cons (pe_callB call_len_seq rfl B.len PySem.boot_len (pa_cons (pv 3) pa_nil)) pa_nil))) (fun _ _ => rfl)))
    (pss_cons (ps_set (i := 5) sc__law_wrapped.nd rfl (Or.inl rfl) (pe_ix ix_tup (pv 1) (pv 4) (fun _ _ => rfl)))
    (C8.pss_cut (ps_if (pt_cmpR op_eq (pe_ix ix_tup (pv 5) pe_int (fun _ _ => rfl)) pe_str (nomark _)) (pss_cons (ps_set (i := 6) sc__law_wrapped.nd rfl (Or.inl rfl) (C8.pe_c c_draw hr (by omega) rfl (pa_cons (pv 0) (pa_cons (pe_callB call_len_seq rfl B.len PySem.boot_len (pa_cons (pe_ix ix_tup (pv 5) pe_int (fun _ _ => rfl)) pa_nil)) pa_nil))))
    (pss_cons (ps_set (i := 7) sc__law_wrapped.nd rfl (Or.inl rfl) (C8.pe_c c_wr hr (by omega) rfl (pa_cons (pv 0) (pa_cons (pe_ix ix_tup (pe_ix ix_tup (pv 5) pe_int (fun _ _ => rfl)) (pv 6) (fun _ _ => rfl)) (pa_cons (pe_op op_sub (pv 2) pe_int) pa_nil)))))
    (pss_one (ps_set (i := 5) sc__law_wrapped.nd rfl (Or.inl rfl) (pe_tup (pa_cons pe_str (pa_cons (pe_op op_catA (pe_op op_catA (pe_slice sl_tupA (pe_ix ix_tup (pv 5) pe_int (fun _ _ => rfl)) po_none (po_some (pv 6))) (pe_tup (pa_cons (pv 7) pa_nil))) (pe_slice sl_tupA (pe_ix ix_tup (pv 5) pe_int (fun _ _ => rfl)) (po_some (pe_op op_add (pv 6) pe_int)) po_none)) pa_nil))))))) (pss_cons (ps_set (i := 6) sc__law_wrapped.nd rfl (Or.inl rfl) (pe_op op_add pe_int (C8.pe_c c_draw hr (by omega) rfl (pa_cons (pv 0) (pa_cons (pe_op op_sub (pe_callB call_len_seq rfl B.len PySem.boot_len (pa_cons (pv 5) pa_nil)) pe_int) pa_nil)))))
    (pss_one (ps_set (i := 5) sc__law_wrapped.nd rfl (Or.inl rfl) (pe_op op_catA (pe_op op_catA (pe_slice sl_tupA (pv 5) po_none (po_some (pv 6))) (pe_tup (pa_cons (C8.pe_c c_wr hr (by omega) rfl (pa_cons (pv 0) (pa_cons (pe_ix ix_tup (pv 5) (pv 6) (fun _ _ => rfl)) (pa_cons (pe_op op_sub (pv 2) pe_int) pa_nil)))) pa_nil))) (pe_slice sl_tupA (pv 5) (po_some (pe_op op_add (pv 6) pe_int)) po_none))))))
    (pss_one (ps_ret (pe_op op_catA (pe_op op_catA (pe_slice sl_tupA (pv 1) po_none (po_some (pv 4))) (pe_tup (pa_cons (pv 5) pa_nil))) (pe_slice sl_tupA (pv 1) (po_some (pe_op op_add (pv 4) pe_int)) po_none))))))) pss_nil)
    (pss_cons (ps_set (i := 8) sc__law_wrapped.nd rfl (Or.inl rfl) (C8.pe_c c_draw hr (by omega) rfl (pa_cons (pv 0) (pa_cons (pe_op op_add (pe_callB call_len_seq rfl B.len PySem.boot_len (pa_cons (pv 1) pa_nil)) pe_int) pa_nil))))
    (pss_cons (ps_set (i := 9) sc__law_wrapped.nd rfl (Or.inl rfl) (pe_op op_add (pv 8) (C8.pe_c c_draw hr (by omega) rfl (pa_cons (pv 0) (pa_cons (pe_op op_add (pe_op op_sub (pe_callB call_len_seq rfl B.len PySem.boot_len (pa_cons (pv 1) pa_nil)) (pv 8)) pe_int) pa_nil)))))
    (pss_one (ps_ret (pe_op op_catA (pe_op op_catA (pe_slice sl_tupA (pv 1) po_none (po_some (pv 8))) (pe_tup (pa_cons (pe_tup (pa_cons pe_str (pa_cons (pe_slice sl_tupA (pv 1) (po_some (pv 8)) (po_some (pv 9))) (pa_cons (pe_tup pa_nil) pa_nil)))) pa_nil))) (pe_slice sl_tupA (pv 1) (po_some (pv 9)) po_none)))))))), ?_⟩
    obtain ⟨ba, bxs, rfl, hbs, hba, hbl⟩ := len_ok hd
    rw [ds_len] at hbl
    have hbn := len_ns b
    have hbl60 : bxs.length ≤ 100 := by omega
    refine ⟨_, rfl, ba, bxs, rfl, .inr hbs, _, rfl, by omega, by omega, fun O hO => ?_⟩
    have hO0 : ∀ x o, H x = some o → x ≠ O := fun x o e z => by rw [z, hO] at e; cases e
    refine lc_range (lo := 0) (n := ((bxs.length : Int)).toNat) (fun i H' => H' O = some (.lst (ixV (outs b i))) ∧ Same H H') ?_ ?_ ?_
    · exact ⟨upd_same, same_new hO _⟩
    · rintro i H1 hi ⟨hv1, s1⟩
      have hib : i < bxs.length := by omega
      have hx := List.getElem?_eq_getElem hib
      generalize bxs[i] = x at hx
      obtain ⟨d, hdd, hdp⟩ := dps_get' hba hx
      obtain ⟨st, hst, rfl⟩ := ds_get hdd
      obtain ⟨sa, sxs, rfl, hss, hs0⟩ := head_of ((Tk.same s1).dp _ (tup_St st) hdp)
      have ei : ((0 : Int) + (i : Nat)) = ((i : Nat) : Int) := by omega
      rw [ei]
      refine ⟨rfl, ?_⟩
      refine ⟨_, rfl, _, rfl, _, _, _, _, rfl, rfl, (Tk.same s1).sqt hbs, atI_nat hx, _, _, _, _, rfl, rfl, hss, hs0, (by show 3 ≤ sizeLine; decide), fun p hp => ⟨p, _, rfl, .inr (SqT.of upd_same), rfl, rfl, _, rfl, ?_⟩⟩
      have s2 := s1.trans (same_new hp (.tup [.str "choose", .str "loop", .str "ensure"]))
      have hv2 := (same_new hp (.tup [.str "choose", .str "loop", .str "ensure"])) _ _ hv1
      show (if (if false = true then _ else inV (.str st.word) [V.str "choose", V.str "loop", V.str "ensure"]) = true then _ else _)
      rw [if_neg Bool.false_ne_true, word_in]
      have es := outs_succ b i hst
      cases ho : st.isO with
      | false =>
        rw [ho, if_neg Bool.false_ne_true] at es
        refine ifF rfl ⟨?_, s2⟩
        rw [es]
        exact hv2
      | true =>
        rw [ho, if_pos rfl] at es
        refine ifT rfl ⟨_, rfl, _, hv2, ?_, ?_, fun y o e => ?_⟩
        · have := outs_len b i
          exact Nat.lt_of_le_of_lt (show _ ≤ 100 by rw [ixV, ixI, List.length_map, List.length_map]; omega) (by decide)
        · rw [es]
          unfold ixV ixI
          rw [List.map_append, List.map_append]
          exact upd_same
        · rw [upd_ne (hO0 _ _ e)]
          exact s2 _ _ e
    · rintro H1 ⟨hv1, s1⟩
      have en : ((bxs.length : Int)).toNat = b.length := by omega
      rw [en] at hv1
      generalize hks : outs b b.length = ks at hv1
      have hkl : ks.length ≤ 100 := by have := outs_len b b.length; rw [hks] at this; omega
      have hW1 := hW.same s1
      have hd1 := (Tk.same s1).dp (.tuple (ds b)) (tup_ds b) hd
      have k1 : Kp [w, l] H H1 := Kp.of_same s1
      have hwO : ∀ H', Kp [w, l] H1 H' → ∀ o, H1 O = some o → H' O = some o := fun H' k o e => k _ _ (by
        obtain ⟨ns', a', n', hw0, hl0, _⟩ := id hW
        intro z
        rcases List.mem_cons.mp z with z | z
        · exact hO0 _ _ hw0 z.symm
        · exact hO0 _ _ hl0 (List.mem_singleton.mp z).symm) e
      refine ⟨fun σ' H' => σ' = [some (.ref w), some (.ref ba), some (.int (deep : Nat)), some (.ref O), none, none, none, none, none, none] ∧ Wl H' w l (c + 2) ∧ Kp [w, l] H H' ∧ Tk H H', ?_, ?_⟩
      · refine ⟨_, rfl, (by show 0 ≤ sizeLine; decide), fun p0 hp0 => ⟨.list ((ixI ks).map PyData.int), .list [], .lst (SqL.of ((same_new hp0 _) _ _ hv1)) (dp_ints9 _), .lst (SqL.of upd_same) .nil, shaped_ints _, by decide +kernel, _, rfl, ?_⟩⟩
        rw [eqv_nil9]
        have sp := same_new hp0 (.lst [])
        have hv2 := sp _ _ hv1
        have hW2 := hW1.same sp
        have k2 : Kp [w, l] H1 (upd H1 p0 (.lst [])) := Kp.of_same sp
        have t2 : Tk H (upd H1 p0 (.lst [])) := Tk.same (s1.trans sp)
        generalize upd H1 p0 (.lst []) = H2 at hv2 hW2 k2 t2
        cases hk : ks with
        | nil => exact ifF rfl (ifF rfl ⟨rfl, hW2.le (by omega), k1.trans k2, t2⟩)
        | cons k0 kr =>
        rw [← hk]
        refine ifT (by rw [hk]; rfl) ?_
        refine ⟨_, rfl, _, _, rfl, rfl, _, rfl, ?_⟩
        by_cases hdp : (0 : Int) < (deep : Nat)
        rotate_left
        · rw [decide_eq_false hdp]
          exact iteF (iteF ⟨rfl, hW2.le (by omega), k1.trans k2, t2⟩)
        rw [decide_eq_true hdp]
        refine iteT ?_
        refine ⟨_, rfl, w, l, c + (3 * n + 4), 3, rfl, hW2.le (by omega), by decide, by decide, fun r H3 r0 r1 hW3 k3 t3 => ⟨_, _, rfl, rfl, _, rfl, ?_⟩⟩
        rcases dec_gt0 r with hz | hz
        rotate_left
        · rw [hz]
          exact iteF ⟨rfl, hW3.le (by omega), k1.trans (k2.trans k3), t2.trans t3⟩
        rw [hz]
        refine iteT ?_
        have hv3 := hwO H3 (k2.trans k3) _ hv1
        have hkl2 : (ixV ks).length = ks.length := by unfold ixV ixI; rw [List.length_map, List.length_map]
        have hk1 : 1 ≤ ks.length := by rw [hk]; simp
        refine ⟨_, rfl, _, rfl, _, rfl, O, _, rfl, .inl (SqL.of hv3), w, l, c + (3 * n + 3), ((ixV ks).length : Nat), rfl, hW3.le (by omega), by omega, by omega, fun r2 H4 z0 z1 hW4 k4 t4 => ?_⟩
        obtain ⟨j2, rfl⟩ : ∃ j2 : Nat, r2 = (j2 : Int) := ⟨r2.toNat, by omega⟩
        have hj2 : j2 < ks.length := by omega
        have hkj := List.getElem?_eq_getElem hj2
        generalize ks[j2] = k at hkj
        obtain ⟨st, hst, hio⟩ := outs_get (by rw [hks]; exact hkj)
        have hkb : k < b.length := (List.getElem?_eq_some_iff.mp hst).1
        have hv4 := hwO H4 (k2.trans (k3.trans k4)) _ hv1
        have hvx : (ixV ks)[j2]? = some (V.int (k : Int)) := by unfold ixV ixI; rw [List.getElem?_map, List.getElem?_map, hkj]; rfl
        refine ⟨O, _, _, _, rfl, rfl, SqL.of hv4, atI_nat hvx, ?_⟩
        have t04 : Tk H H4 := t2.trans (t3.trans t4)
        have k04 : Kp [w, l] H H4 := k1.trans (k2.trans (k3.trans k4))
        have hxk : k < bxs.length := by omega
        have hx := List.getElem?_eq_getElem hxk
        generalize bxs[k] = x at hx
        obtain ⟨d, hdd, hdp0⟩ := dps_get' hba hx
        obtain ⟨st2, hst2, rfl⟩ := ds_get hdd
        rw [hst] at hst2
        cases hst2
        have hso := oks_iff.mp hok st (List.mem_of_getElem? hst)
        have hsn := ns_mem (List.mem_of_getElem? hst)
        refine ⟨_, rfl, _, rfl, _, _, _, _, rfl, rfl, t04.sqt hbs, atI_nat hx, ?_⟩
        refine ⟨fun σ' H' => ∃ v st' x6 x7, σ' = [some (.ref w), some (.ref ba), some (.int (deep : Nat)), some (.ref O), some (.int (k : Nat)), some v, x6, x7, none, none] ∧ Dp K H' v st'.d ∧ Wr1 L N sec st st' ∧ Wl H' w l c ∧ Kp [w, l] H H' ∧ Tk H H', ?_, ?_⟩
        · have hst4 := t04.dp _ (tup_St st) hdp0
          obtain ⟨sa, sxs, rfl, hss, hs0⟩ := head_of hst4
          refine ⟨_, rfl, _, _, _, _, rfl, rfl, hss, hs0, rfl, _, rfl, ?_⟩
          rw [dec_str]
          have em : ((deep : Nat) : Int) - 1 = ((deep - 1 : Nat) : Int) := by omega
          by_cases hch : ∃ bs, st = .ch bs
          · obtain ⟨bs, rfl⟩ := hch
            refine ifT (by show decide ((("choose" : Str)) = "choose") = true; decide +kernel) ?_
            obtain ⟨sa2, sxs2, e2, hss2, hsa, hsl⟩ := len_ok hst4
            cases e2
            cases hsa with
            | @cons w0 _ _ _ q0 hsa =>
            cases q0
            cases hsa with
            | @cons v1 _ _ _ hb1 hsa =>
            cases hsa
            obtain ⟨ra, rxs, rfl, hrs, hra, hrl⟩ := len_ok hb1
            rw [dss_len] at hrl
            have hb2 : 2 ≤ bs.length := hso.1
            have hb6 : bs.length ≤ 6 := hso.2.1
            refine ⟨_, rfl, _, rfl, _, _, _, _, rfl, rfl, hss2, at1 _ _ _, ra, rxs, rfl, .inr hrs, w, l, c + (3 * n + 2), (rxs.length : Nat), rfl, hW4.le (by omega), by omega, by omega, fun r3 H5 y0 y1 hW5 k5 t5 => ?_⟩
            obtain ⟨j, rfl⟩ : ∃ j : Nat, r3 = (j : Int) := ⟨r3.toNat, by omega⟩
            have hj : j < rxs.length := by omega
            have hxj := List.getElem?_eq_getElem hj
            generalize rxs[j] = xj at hxj
            obtain ⟨dj, hdj, hdpj⟩ := dps_get' hra hxj
            obtain ⟨bj, hbj, rfl⟩ := dss_get hdj
            have hjm := List.mem_of_getElem? hbj
            have hjn := nss_mem hjm
            rw [St.n] at hsn
            refine ⟨_, rfl, _, rfl, _, _, _, _, rfl, rfl, t5.sqt hss2, at1 _ _ _, _, rfl, _, _, _, _, rfl, rfl, t5.sqt hrs, atI_nat hxj, _, rfl, _, _, rfl, rfl, ?_⟩
            refine ⟨w, l, xj, deep - 1, c, L, N, bj, sec, by show [V.ref w, xj, V.int (((deep : Nat) : Int) - 1)] = _; rw [em], hW5, by omega, t5.dp (.tuple (ds bj)) (tup_ds bj) hdpj, by omega, okss_iff.mp hso.2.2 bj hjm, fun H6 v6 b6 hv6 wr6 hW6 k6 t6 => ?_⟩
            have t56 := t5.trans t6
            have hb6' := t56.dp (.tuple (dss bs)) (tup_dss bs) (.tup hrs hra)
            have hjl : j ≤ (dss bs).length := by rw [dss_len]; omega
            refine ⟨_, rfl, _, _, _, _, rfl, rfl, t56.sqt hss2, at1 _ _ _, _, rfl, _, rfl, slTo hb6' (tup_dss bs) hjl fun vA HA sA hA => ?_⟩
            refine ⟨_, rfl, (by show 1 ≤ sizeLine; decide), fun z hz => ?_⟩
            have sz := same_new hz (.tup [v6])
            refine catA_dp ((Tk.same sz).dp (.tuple ((dss bs).take j)) (tup_take j (tup_dss bs)) hA) (.tup (SqT.of upd_same) (.cons ((Tk.same (sA.trans sz)).dp (.tuple (ds b6)) (tup_ds b6) hv6) .nil)) (by rw [List.length_take, dss_len]; simp; omega) (tup_take j (tup_dss bs)) ⟨tup_ds b6, trivial⟩ fun vB HB sB hB => ?_
            have sAB := sA.trans (sz.trans sB)
            have ej : ((j : Nat) : Int) + 1 = ((j + 1 : Nat) : Int) := by omega
            refine ⟨_, rfl, _, _, _, _, rfl, rfl, (t56.trans (Tk.same sAB)).sqt hss2, at1 _ _ _, _, rfl, _, _, rfl, rfl, _, rfl, ?_⟩
            rw [ej]
            dsimp only [tNoPart]
            refine slFrom (i := j + 1) ((Tk.same sAB).dp (.tuple (dss bs)) (tup_dss bs) hb6') (tup_dss bs) (by rw [dss_len]; omega) fun vC HC sC hC => ?_
            have tB : TupDs ((dss bs).take j ++ [.tuple (ds b6)]) := tupds_iff.mpr fun d hd => (List.mem_append.mp hd).elim (tupds_iff.mp (tup_take j (tup_dss bs)) d) fun z => by
              cases List.mem_singleton.mp z
              exact tup_ds b6
            refine catA_dp ((Tk.same sC).dp (.tuple _) tB hB) hC (by rw [List.length_append, List.length_take, List.length_drop, dss_len]; simp; omega) tB (tup_drop (j + 1) (tup_dss bs)) fun vR HR sR hR => ?_
            have eb : (dss bs).take j ++ [.tuple (ds b6)] ++ (dss bs).drop (j + 1) = dss (bs.take j ++ b6 :: bs.drop (j + 1)) := by
              rw [dss_take, dss_drop, dss_app, List.append_assoc]
              rfl
            rw [eb] at hR
            refine ⟨(by show 2 ≤ sizeLine; decide), fun y hy => ?_⟩
            have sy := same_new hy (.tup [.str "choose", vR])
            have sAll := sAB.trans (sC.trans (sR.trans sy))
            refine ⟨.ref y, .ch (bs.take j ++ b6 :: bs.drop (j + 1)), _, _, rfl, .tup (SqT.of upd_same) (.cons (.str _) (.cons ((Tk.same sy).dp (.tuple (dss _)) (tup_dss _) hR) .nil)), Wr.ch hbj hso wr6, hW6.same sAll, k04.trans (k5.trans (k6.trans (Kp.of_same sAll))), t04.trans (t56.trans (Tk.same sAll))⟩
          · have hno : ∀ bs, st ≠ .ch bs := fun bs e => hch ⟨bs, e⟩
            refine ifF ?_ ?_
            · cases st with
              | ch bs => exact absurd rfl (hno bs)
              | dd _ => cases hio
              | ud _ => cases hio
              | cl _ => cases hio
              | rt => cases hio
              | lp _ => show decide ((("loop" : Str)) = "choose") = false; decide +kernel
              | en _ _ => show decide ((("ensure" : Str)) = "choose") = false; decide +kernel
            obtain ⟨dl, hdl, tdl, l2, l3, pick⟩ := pick_body hio hno hso
            rw [hdl] at hst4
            obtain ⟨sa2, sxs2, e2, hss2, hsa, hsl⟩ := len_ok hst4
            cases e2
            refine ⟨_, rfl, _, rfl, _, sxs2, rfl, .inr hss2, _, _, rfl, rfl, w, l, c + (3 * n + 2), ((sxs2.length : Int) - 1), rfl, hW4.le (by omega), by omega, by omega, fun r3 H5 y0 y1 hW5 k5 t5 => ?_⟩
            obtain ⟨j, rfl⟩ : ∃ j : Nat, r3 = (j : Int) := ⟨r3.toNat, by omega⟩
            have hj : j + 1 < dl.length := by omega
            obtain ⟨bj, secj, hbj, hoj, hnj, back⟩ := pick j hj
            have hj1 : 1 + j < sxs2.length := by omega
            have hxj := List.getElem?_eq_getElem hj1
            generalize sxs2[1 + j] = xj at hxj
            obtain ⟨dj, hdj, hdpj⟩ := dps_get' hsa hxj
            rw [hbj] at hdj
            cases hdj
            have e1j : (1 : Int) + (j : Nat) = ((1 + j : Nat) : Int) := by omega
            refine ⟨_, _, rfl, rfl, ?_⟩
            show gName 6 (.int ((1 : Int) + (j : Nat))) _ _ _
            rw [e1j]
            have hst5 := t5.dp (.tuple dl) tdl hst4
            refine ⟨_, rfl, _, rfl, _, rfl, slTo hst5 tdl (by omega) fun vA HA sA hA => ?_⟩
            have t5A := t5.trans (Tk.same sA)
            refine ⟨_, rfl, _, rfl, _, rfl, _, _, _, _, rfl, rfl, t5A.sqt hss2, atI_nat hxj, _, rfl, _, _, rfl, rfl, ?_⟩
            refine ⟨w, l, xj, deep - 1, c, L, N, bj, secj, by show [V.ref w, xj, V.int (((deep : Nat) : Int) - 1)] = _; rw [em], hW5.same sA, by omega, t5A.dp (.tuple (ds bj)) (tup_ds bj) hdpj, by omega, hoj, fun H6 v6 b6 hv6 wr6 hW6 k6 t6 => ?_⟩
            obtain ⟨st', hd', wr'⟩ := back b6 wr6
            refine ⟨(by show 1 ≤ sizeLine; decide), fun z hz => ?_⟩
            have sz := same_new hz (.tup [v6])
            have tA : TupDs (dl.take (1 + j)) := tup_take (1 + j) tdl
            refine catA_dp ((t6.trans (Tk.same sz)).dp (.tuple _) tA hA) (.tup (SqT.of upd_same) (.cons ((Tk.same sz).dp (.tuple (ds b6)) (tup_ds b6) hv6) .nil)) (by rw [List.length_take]; simp; omega) tA ⟨tup_ds b6, trivial⟩ fun vB HB sB hB => ?_
            have sAB := sz.trans sB
            have ej : ((1 + j : Nat) : Int) + 1 = ((1 + j + 1 : Nat) : Int) := by omega
            have t6B := t6.trans (Tk.same sAB)
            refine ⟨_, rfl, _, rfl, _, _, rfl, rfl, _, rfl, ?_⟩
            rw [ej]
            dsimp only [tNoPart]
            refine slFrom (i := 1 + j + 1) ((t5A.trans t6B).dp (.tuple dl) tdl hst4) tdl (by omega) fun vC HC sC hC => ?_
            have tB : TupDs (dl.take (1 + j) ++ [.tuple (ds b6)]) := tupds_iff.mpr fun d hd => (List.mem_append.mp hd).elim (tupds_iff.mp tA d) fun z => by
              cases List.mem_singleton.mp z
              exact tup_ds b6
            refine catA_dp ((Tk.same sC).dp (.tuple _) tB hB) hC (by rw [List.length_append, List.length_take, List.length_drop]; simp; omega) tB (tup_drop (1 + j + 1) tdl) fun vR HR sR hR => ?_
            rw [← hd'] at hR
            have sAll := sAB.trans (sC.trans sR)
            exact ⟨vR, st', _, _, rfl, hR, wr', hW6.same sAll, k04.trans (k5.trans ((Kp.of_same sA).trans (k6.trans (Kp.of_same sAll)))), t04.trans (t5A.trans (t6.trans (Tk.same sAll)))⟩
        · rintro _ H5 ⟨v, st', x6, x7, rfl, hv, wr, hW5, k5, t5⟩
          have hd5 := t5.dp (.tuple (ds b)) (tup_ds b) hd
          have hkl5 : k ≤ (ds b).length := by rw [ds_len]; omega
          refine ⟨_, rfl, _, rfl, _, rfl, slTo hd5 (tup_ds b) hkl5 fun vA HA sA hA => ?_⟩
          refine ⟨_, rfl, (by show 1 ≤ sizeLine; decide), fun z hz => ?_⟩
          have sz := same_new hz (.tup [v])
          refine catA_dp ((Tk.same sz).dp (.tuple ((ds b).take k)) (tup_take k (tup_ds b)) hA) (.tup (SqT.of upd_same) (.cons ((Tk.same (sA.trans sz)).dp _ (tup_St st') hv) .nil)) (by rw [List.length_take, ds_len]; simp; omega) (tup_take k (tup_ds b)) ⟨tup_St st', trivial⟩ fun vB HB sB hB => ?_
          have sAB := sA.trans (sz.trans sB)
          have ek : ((k : Nat) : Int) + 1 = ((k + 1 : Nat) : Int) := by omega
          refine ⟨_, rfl, _, rfl, _, _, rfl, rfl, _, rfl, ?_⟩
          rw [ek]
          dsimp only [tNoPart]
          refine slFrom (i := k + 1) ((Tk.same sAB).dp (.tuple (ds b)) (tup_ds b) hd5) (tup_ds b) (by rw [ds_len]; omega) fun vC HC sC hC => ?_
          have tB : TupDs ((ds b).take k ++ [st'.d]) := tupds_iff.mpr fun d hd => (List.mem_append.mp hd).elim (tupds_iff.mp (tup_take k (tup_ds b)) d) fun z => by
            cases List.mem_singleton.mp z
            exact tup_St st'
          refine catA_dp ((Tk.same sC).dp (.tuple _) tB hB) hC (by rw [List.length_append, List.length_take, List.length_drop, ds_len]; simp; omega) tB (tup_drop (k + 1) (tup_ds b)) fun vR HR sR hR => ?_
          have eb : (ds b).take k ++ [st'.d] ++ (ds b).drop (k + 1) = ds (b.take k ++ st' :: b.drop (k + 1)) := by
            rw [ds_take, ds_drop, ds_app, List.append_assoc]
            rfl
          rw [eb] at hR
          have sAll := sAB.trans (sC.trans sR)
          exact q _ _ _ hR (Wr.of1 hst hok wr) (hW5.same sAll) (k5.trans (Kp.of_same sAll)) (t5.trans (Tk.same sAll))
      · rintro _ H2 ⟨rfl, hW2, k2, t2⟩
        have hd2 := t2.dp (.tuple (ds b)) (tup_ds b) hd
        obtain ⟨ba2, bxs2, e2, hbs2, _, hbl2⟩ := len_ok hd2
        cases e2
        rw [ds_len] at hbl2
        refine ⟨_, rfl, _, rfl, ba, bxs2, rfl, .inr hbs2, _, _, rfl, rfl, w, l, c + 1, ((bxs2.length : Int) + 1), rfl, hW2, by omega, by omega, fun r H3 r0 r1 hW3 k3 t3 => ?_⟩
        obtain ⟨lo, rfl⟩ : ∃ lo : Nat, r = (lo : Int) := ⟨r.toNat, by omega⟩
        refine ⟨_, rfl, _, rfl, _, rfl, ba, bxs2, rfl, .inr (t3.sqt hbs2), _, rfl, _, _, rfl, rfl, _, _, rfl, rfl, w, l, c, ((bxs2.length : Int) - (lo : Nat) + 1), rfl, hW3, by omega, by omega, fun r2 H4 z0 z1 hW4 k4 t4 => ?_⟩
        obtain ⟨df, rfl⟩ : ∃ df : Nat, r2 = (df : Int) := ⟨r2.toNat, by omega⟩
        have eh : ((lo : Nat) : Int) + (df : Nat) = ((lo + df : Nat) : Int) := by omega
        refine ⟨_, _, rfl, rfl, ?_⟩
        show gName 9 (.int (((lo : Nat) : Int) + (df : Nat))) _ _ _
        rw [eh]
        have t34 := t3.trans t4
        have hd4 := t34.dp (.tuple (ds b)) (tup_ds b) hd2
        have hlo : lo ≤ (ds b).length := by rw [ds_len]; omega
        have hhi : lo + df ≤ (ds b).length := by rw [ds_len]; omega
        refine ⟨_, rfl, _, rfl, _, rfl, slTo hd4 (tup_ds b) hlo fun vA HA sA hA => ?_⟩
        refine ⟨_, rfl, _, rfl, _, rfl, _, rfl, _, rfl, slMid ((Tk.same sA).dp (.tuple (ds b)) (tup_ds b) hd4) (tup_ds b) hlo hhi fun vM HM sM hM => ?_⟩
        refine ⟨(by show 0 ≤ sizeLine; decide), fun z hz => ⟨(by show 3 ≤ sizeLine; decide), fun y hy => ⟨(by show 1 ≤ sizeLine; decide), fun x hx => ?_⟩⟩⟩
        have nzy : z ≠ y := fun q => by rw [← q, upd_same] at hy; cases hy
        have nyx : y ≠ x := fun q => by rw [← q, upd_same] at hx; cases hx
        have nzx : z ≠ x := fun q => by rw [← q, upd_ne nzy, upd_same] at hx; cases hx
        have s3 := (same_new hz (.tup [])).trans ((same_new hy (.tup [.str "ensure", vM, .ref z])).trans (same_new hx (.tup [.ref y])))
        have tM : TupDs (((ds b).drop lo).take (lo + df - lo)) := tup_take _ (tup_drop lo (tup_ds b))
        have eM : ((ds b).drop lo).take (lo + df - lo) = ds ((b.drop lo).take (lo + df - lo)) := by rw [ds_drop, ds_take]
        have hy3 : Dp K (upd (upd (upd HM z (.tup [])) y (.tup [.str "ensure", vM, .ref z])) x (.tup [.ref y])) (.ref y) (St.d (.en ((b.drop lo).take (lo + df - lo)) [])) := by
          refine .tup (SqT.of (by rw [upd_ne nyx]; exact upd_same)) (.cons (.str _) (.cons ?_ (.cons (.tup (SqT.of (by rw [upd_ne nzx, upd_ne nzy]; exact upd_same)) .nil) .nil)))
          rw [← eM]
          exact (Tk.same s3).dp (.tuple _) tM hM
        have te : TupD (St.d (.en ((b.drop lo).take (lo + df - lo)) [])) := tup_St _
        refine catA_dp ((Tk.same (sM.trans s3)).dp (.tuple ((ds b).take lo)) (tup_take lo (tup_ds b)) hA) (.tup (SqT.of upd_same) (.cons hy3 .nil)) (by rw [List.length_take, ds_len]; simp; omega) (tup_take lo (tup_ds b)) ⟨te, trivial⟩ fun vB HB sB hB => ?_
        have sAB := sA.trans (sM.trans (s3.trans sB))
        refine ⟨_, rfl, _, rfl, _, rfl, ?_⟩
        dsimp only [tNoPart]
        refine slFrom (i := lo + df) ((Tk.same sAB).dp (.tuple (ds b)) (tup_ds b) hd4) (tup_ds b) hhi fun vC HC sC hC => ?_
        have tB : TupDs ((ds b).take lo ++ [St.d (.en ((b.drop lo).take (lo + df - lo)) [])]) := tupds_iff.mpr fun d hd => (List.mem_append.mp hd).elim (tupds_iff.mp (tup_take lo (tup_ds b)) d) fun z => by
          cases List.mem_singleton.mp z
          exact te
        refine catA_dp ((Tk.same sC).dp (.tuple _) tB hB) hC (by rw [List.length_append, List.length_take, List.length_drop, ds_len]; simp; omega) tB (tup_drop (lo + df) (tup_ds b)) fun vR HR sR hR => ?_
        have eb : (ds b).take lo ++ [St.d (.en ((b.drop lo).take (lo + df - lo)) [])] ++ (ds b).drop (lo + df) = ds (b.take lo ++ .en ((b.drop lo).take (lo + df - lo)) [] :: b.drop (lo + df)) := by
          rw [ds_take, ds_drop, ds_app, List.append_assoc]
          rfl
        rw [eb] at hR
        have sAll := sAB.trans (sC.trans sR)
        exact q _ _ _ hR (Wr.put (by omega) hok) (hW4.same sAll) (k2.trans (k3.trans (k4.trans (Kp.of_same sAll)))) (t2.trans (t34.trans (Tk.same sAll)))
end
end K09


set_option Elab.async false
set_option linter.all false
set_option maxRecDepth 100000
set_option maxHeartbeats 8000000
namespace K09
open PySem PySem.Spec PyProof.Rows L2
theorem kit_list : ∀ n ∈ ["NoneType", "bool", "int", "str", "list", "tuple", "dict"], kitB n "list" = some (isiN "list" n) := by decide +kernel
section
variable {X : Cx}
theorem call_isL : CallR X (.builtin "isinstance") (rIsD X.K "list") := by
  intro pins sh σ H xs us Q J r hyp
  obtain ⟨v, d, rfl, hd, q⟩ := hyp
  exact call_isi pins sh σ H _ us Q J r ⟨v, .ty "list", _, _, _, rfl, .ty "list", dp_ty hd, kit_ty (kit_list (tyN d) (by cases d <;> simp [tyN])), q⟩
theorem pe_isL {e : Expr} {te : TE} {p1 p2 p3 : Pos} (B : Bl X.K X.mg) (he : PE X e te) (hg : Gl X "isinstance") (hx : Gl X "list") (hm : X.mg "list" = none)
    (hs1 : starEach [e, .Name "list" p3] X.env = (false, eval e X.env) :: starEach [.Name "list" p3] X.env := by rfl)
    (hs2 : starEach [.Name "list" p3] X.env = (false, eval (.Name "list" p3) X.env) :: starEach [] X.env := by rfl) (hpl : (backTo p2 (starEach [.Name "list" p3] X.env)).any (·.1) = false := by rfl) :
    PE X (.Call (.Name "isinstance" p1) [e, .Name "list" p3] [] p2) (tCB (rIsD X.K "list") (tCons te (tCons (tC (.ty "list")) tNil))) :=
  pe_callB (pos := p2) (p := p1) call_isL hg B.isi (by decide +kernel) (pa_cons he (pa_cons (pe_bltn (v := .ty "list") (pos := p3) hx hm (by decide +kernel) rfl (by decide) (by decide)) pa_nil hs2) hs1) (by decide) (by decide) hs1 hpl
/-- x is True, x is False of what is no truth value -/
theorem op_isBO : OpR X (compareOp .Is) (fun x y H Q => ∃ c : Bool, y = .bl c ∧ (match x with | .int _ => True | .str _ => True | .ref _ => True | _ => False) ∧ Q (.bl false) H) := by
  intro pins sh σ H x y v u Q J rx ry hyp
  obtain ⟨c, rfl, hx, q⟩ := hyp
  have eu : u = Value.bool c := ry
  subst eu
  show wpAny _ _ ((isSame v (Value.bool c)) >>= fun z => pure (Value.bool z)) _ _ sh
  have go : ∀ {v : Value}, plainIs v (Value.bool c) = true → (v == Value.bool c) = false → wpAny (model X.prog X.w) X.A ((isSame v (Value.bool c)) >>= fun z => pure (Value.bool z)) (EP X pins σ Q) X.xe sh := fun h1 h2 =>
    wpAny_bind (wpAny_isSame_plain h1 (by rw [h2]; exact wpAny_pure (fin_bl J q rfl)))
  cases x with
  | int i => obtain ⟨t, rfl⟩ := rx; exact go rfl rfl
  | str z => obtain ⟨t, rfl⟩ := rx; exact go rfl rfl
  | ref a => cases rx; exact go rfl rfl
  | _ => exact hx.elim
end
def Sd : Nat → PyData → Prop
  | 0, _ => False
  | n + 1, d => d = .none ∨ (∃ i, d = .int i) ∨ (∃ s, d = .str s ∧ (PyData.str s).canLay0 = true) ∨ ∃ ds, d = .tuple ds ∧ ds.length ≤ 5000 ∧ ∀ e ∈ ds, Sd n e
/-- a place -/
def Pl (d : PyData) : Prop := d = .none ∨ (∃ w, d = .tuple [.str w] ∧ (PyData.str w).canLay0 = true) ∨ (∃ w a b, d = .tuple [.str w, .int a, .int b] ∧ (PyData.str w).canLay0 = true) ∨ ∃ (w : Str) (ns : List Int), d = .tuple [.str w, .tuple (ns.map PyData.int)] ∧ ns.length ≤ 6 ∧ (PyData.str w).canLay0 = true
theorem pl0 : Pl .none := Or.inl rfl
theorem pl1 (w : Str) (o : (PyData.str w).canLay0 = true) : Pl (.tuple [.str w]) := Or.inr (Or.inl ⟨w, rfl, o⟩)
theorem pl3 (w : Str) (a b : Int) (o : (PyData.str w).canLay0 = true) : Pl (.tuple [.str w, .int a, .int b]) := Or.inr (Or.inr (Or.inl ⟨w, a, b, rfl, o⟩))
theorem plf (w : Str) (ns : List Int) (h : ns.length ≤ 6) (o : (PyData.str w).canLay0 = true) : Pl (.tuple [.str w, .tuple (ns.map PyData.int)]) := Or.inr (Or.inr (Or.inr ⟨w, ns, rfl, h, o⟩))
def Pls (ps : List PyData) : Prop := ∀ d ∈ ps, Pl d
theorem Pls.snoc {ps : List PyData} {d : PyData} (h : Pls ps) (hd : Pl d) : Pls (ps ++ [d]) := fun e he => (List.mem_append.mp he).elim (h e) fun z => by
  cases List.mem_singleton.mp z
  exact hd
theorem layBs_len1 {L N : List Str} {lv : List PyData → Int × List PyData} (bs : List (List St)) (t : Int) (ps : List PyData) : (layBs L N lv bs t ps).1.length = bs.length := layBs_len bs t ps
mutual
theorem pl_S (L N : List Str) : ∀ (s : St) (sec : Bool) {lv : List PyData → Int × List PyData} (t : Int) (ps : List PyData), s.ok L N sec → (∀ ps, Pls ps → Pls (lv ps).2) → Pls ps → Pls (layS L N lv s t ps).2
  | .dd _, _, _, _, _, _, _, p | .ud _, _, _, _, _, _, _, p | .cl _, _, _, _, _, _, _, p => p.snoc (pl3 _ _ _ (by decide +kernel))
  | .ch bs, sec, lv, t, ps, o, h, p => (pl_Bs L N bs sec t ps o.2.2 h p).snoc (plf _ _ (by rw [layBs_len]; exact o.2.1) (by decide +kernel))
  | .lp b, sec, lv, t, ps, o, h, p => by
    have := pl_B L N b sec (ps.length : Nat) (ps ++ [.none]) o h (p.snoc pl0)
    intro d hd
    rcases List.mem_or_eq_of_mem_set hd with h | h
    · exact this d h
    · subst h
      exact plf _ [_, _] (by simp) (by decide +kernel)
  | .rt, _, lv, t, ps, _, h, p => h ps p
  | .en b c, sec, lv, t, ps, o, h, p => by
    have h0 : ∀ ps : List PyData, Pls ps → Pls ((fun ps => ((0 : Int), ps)) ps).2 := fun _ h => h
    rw [layS]
    exact pl_B L N b sec _ _ o.1 (fun ps p => pl_B L N c true _ _ o.2 h0 (h ps p)) (pl_B L N c true t ps o.2 h0 p)
theorem pl_B (L N : List Str) : ∀ (b : List St) (sec : Bool) {lv : List PyData → Int × List PyData} (t : Int) (ps : List PyData), oks L N sec b → (∀ ps, Pls ps → Pls (lv ps).2) → Pls ps → Pls (layB L N lv b t ps).2
  | [], _, _, _, _, _, _, p => p
  | s :: r, sec, lv, t, ps, o, h, p => by
    rw [layB]
    exact pl_S L N s sec _ _ o.1 h (pl_B L N r sec t ps o.2 h p)
theorem pl_Bs (L N : List Str) : ∀ (b : List (List St)) (sec : Bool) {lv : List PyData → Int × List PyData} (t : Int) (ps : List PyData), okss L N sec b → (∀ ps, Pls ps → Pls (lv ps).2) → Pls ps → Pls (layBs L N lv b t ps).2
  | [], _, _, _, _, _, _, p => p
  | s :: r, sec, lv, t, ps, o, h, p => by
    rw [layBs]
    exact pl_Bs L N r sec t _ o.2 h (pl_B L N s sec t ps o.1 h p)
end
theorem sd_pl {d : PyData} (h : Pl d) : Sd 3 d := by
  rcases h with rfl | ⟨w, rfl, o⟩ | ⟨w, a, b, rfl, o⟩ | ⟨w, ns, rfl, hl, o⟩
  · exact .inl rfl
  · refine .inr (.inr (.inr ⟨_, rfl, by simp, fun e he => ?_⟩))
    cases List.mem_singleton.mp he
    exact .inr (.inr (.inl ⟨_, rfl, o⟩))
  · refine .inr (.inr (.inr ⟨_, rfl, by simp, fun e he => ?_⟩))
    simp at he
    rcases he with rfl | rfl | rfl
    · exact .inr (.inr (.inl ⟨_, rfl, o⟩))
    · exact .inr (.inl ⟨_, rfl⟩)
    · exact .inr (.inl ⟨_, rfl⟩)
  · refine .inr (.inr (.inr ⟨_, rfl, by simp, fun e he => ?_⟩))
    simp at he
    rcases he with rfl | rfl
    · exact .inr (.inr (.inl ⟨_, rfl, o⟩))
    · refine .inr (.inr (.inr ⟨_, rfl, by rw [List.length_map]; omega, fun e he => ?_⟩))
      obtain ⟨i, _, rfl⟩ := List.mem_map.mp he
      exact .inr (.inl ⟨_, rfl⟩)
theorem sd_layD {L : List Str} {P : List (Str × List St)} (hP : Prog L P) (hF : Few L P) : Sd 6 (layD L P) := by
  have p2 := hP.p2
  refine .inr (.inr (.inr ⟨_, rfl, by rw [List.length_map]; omega, fun e he => ?_⟩))
  obtain ⟨p, hp, rfl⟩ := List.mem_map.mp he
  refine .inr (.inr (.inr ⟨_, rfl, by simp, fun e he => ?_⟩))
  simp at he
  rcases he with rfl | rfl
  · exact .inr (.inl ⟨_, rfl⟩)
  · have hpl : Pls (layP L (P.map Prod.fst) p).2 := pl_B L _ p.2 false _ _ (hP.ok p.2 (List.mem_map.mpr ⟨p, hp, rfl⟩)) (fun _ h => h) (fun d hd => by
      cases List.mem_singleton.mp hd
      exact pl1 _ (by decide +kernel))
    have hl := hF p hp
    exact .inr (.inr (.inr ⟨_, rfl, by omega, fun e he => sd_pl (hpl e he)⟩))
section
variable {P : Program} {w : World} {K : PySem.W.Frag} {mg : Str → Option Value} {base : Heap}

def spSameT (K : PySem.W.Frag) (n : Nat) : Sp := fun vs H Q _ => ∃ v w d, vs = [v, w] ∧ Dp K H v d ∧ Dp K H w d ∧ Sd n d ∧ ∀ H', Same H H' → Q (.bl true) H'
theorem sc__law_same : FnScope ["found", "due", "k"] ["found", "due"] (C8.fnScope (topS 42)) := C8.fnScope_by (by decide +kernel)
theorem ok_same {n : Nat} {f : Addr} {fd : FuncData} (F : C8.Def K mg "_law_same" (topS 42) f fd) (b : Binds K fd ["found", "due"] []) (B : Bl K mg) (hlist : mg "list" = none) (c__law_same : C8.Cal P w K mg base (n + 1) "_law_same" (spSameT K n) []) : C8.Cal P w K mg base (n + 2) "_law_same" (spSameT K (n + 1)) [] := by
  refine C8.cal0 F b .nil sc__law_same ?len ?body
  case len => rintro vs H Q E ⟨v, w, d, rfl, _⟩; rfl
  case body =>
    rintro cdv A outer s H vs Q E hr ⟨v, w', d, rfl, hv, hw, sd, q⟩
    refine ⟨_, (pss_cons (ps_if (pt_cmpR op_isN (pv 1) pe_non (nomark _)) (pss_one (ps_ret (pe_cmpR op_isN (pv 0) pe_non (nomark _)))) pss_nil)
    (pss_cons (ps_if (pt_cmpR op_isBO (pv 1) pe_bl (nomark _)) (pss_one (ps_ret (pe_cmpR op_isBO (pv 0) pe_bl (nomark _)))) pss_nil)
    (pss_cons (ps_if (pt_cmpR op_isBO (pv 1) pe_bl (nomark _)) (pss_one (ps_ret (pe_cmpR op_isBO (pv 0) pe_bl (nomark _)))) pss_nil)
    (pss_cons (ps_if (pt_val (pe_isD (c := "int") B (pv 1) rfl rfl B.int (by decide +kernel) (by decide))) (pss_one (ps_ret (pe_and (pe_isD (c := "int") B (pv 0) rfl rfl B.int (by decide +kernel) (by decide)) (pe_and (pe_not (pe_isD (c := "bool") B (pv 0) rfl rfl B.bool (by decide +kernel) (by decide))) (pe_one (pe_cmpR op_eq (pv 0) (pv 1) (nomark _))))))) pss_nil)
    (pss_cons (ps_if (pt_val (pe_isD (c := "str") B (pv 1) rfl rfl B.str (by decide +kernel) (by decide))) (pss_one (ps_ret (pe_and (pe_isD (c := "str") B (pv 0) rfl rfl B.str (by decide +kernel) (by decide)) (pe_one (pe_cmpR op_eq (pv 0) (pv 1) (nomark _)))))) pss_nil)
    (pss_cons (ps_if (PW.pt (pw_or (pt_cmpR op_ne (pe_isD (c := "tuple") B (pv 1) rfl rfl B.tuple (by decide +kernel) (by decide)) (pe_isD (c := "tuple") B (pv 0) rfl rfl B.tuple (by decide +kernel) (by decide)) (nomark _)) (pw_or1 (pt_cmpR op_ne (pe_isL B (pv 1) rfl rfl hlist) (pe_isL B (pv 0) rfl rfl hlist) (nomark _))))) (pss_one (ps_ret pe_bl)) pss_nil)
    (pss_cons (ps_if (pt_cmpR op_ne (pe_callB call_len_seq rfl B.len PySem.boot_len (pa_cons (pv 0) pa_nil)) (pe_callB call_len_seq rfl B.len PySem.boot_len (pa_cons (pv 1) pa_nil)) (nomark _)) (pss_one (ps_ret pe_bl)) pss_nil)
    (pss_one (ps_ret (pe_callB (cr_all rfl) rfl B.all (by decide +kernel) (pa_cons (pe_lc (own := [("k", 2)]) (g := gName 2) (te := tCall (spSameT K n) [] C8.E0 (tCons (tOp (rIxT K) (tVar 0) (tVar 2)) (tCons (tOp (rIxT K) (tVar 1) (tVar 2)) tNil))) (by rfl) sc__law_same.nd (pi_range1 rfl B.range (pa_cons (pe_callB call_len_seq rfl B.len PySem.boot_len (pa_cons (pv 1) pa_nil)) pa_nil)) (blkOk_by (own := [("k", 2)]) (N := ["found", "due", "k"]) (sc := (C8.fnScope (topS 42))) (by decide +kernel)) (fun _ _ _ _ _ => pg_name (i := 2) sc__law_same.nd rfl (Or.inl rfl)) (fun _ _ _ _ _ => pts_nil) (fun _ _ _ _ _ => by exact (C8.pe_c c__law_same hr (by omega) rfl (pa_cons (pe_ix ix_tup (pv 0) (pv 2) (fun _ _ => rfl)) (pa_cons (pe_ix ix_tup (pv 1) (pv 2) (fun _ _ => rfl)) pa_nil))))) pa_nil))))))))))), ?_⟩
    rcases sd with rfl | ⟨i, rfl⟩ | ⟨z, rfl, _⟩ | ⟨ds, rfl, hl, hds⟩
    · cases hv
      cases hw
      refine ⟨_, rfl, rfl, _, rfl, ?_⟩
      refine iteT ⟨_, rfl, rfl, ?_⟩
      rw [decide_eq_true rfl]
      exact q H (Same.refl H)
    · cases hv
      cases hw
      refine ⟨_, rfl, rfl, _, rfl, ?_⟩
      refine iteF ?_
      refine ⟨_, rfl, true, rfl, trivial, _, rfl, iteF ?_⟩
      refine ⟨_, rfl, false, rfl, trivial, _, rfl, iteF ?_⟩
      refine ⟨_, rfl, .int i, .int i, rfl, .int i, _, rfl, iteT ?_⟩
      refine ⟨_, rfl, .int i, .int i, rfl, .int i, _, rfl, iteT ?_⟩
      refine ⟨_, rfl, .int i, .int i, rfl, .int i, _, rfl, ?_⟩
      refine ⟨_, rfl, ?_⟩
      refine iteT ?_
      refine ⟨_, rfl, _, rfl, rfl, ?_⟩
      rw [decide_eq_true rfl]
      exact q H (Same.refl H)
    · cases hv
      cases hw
      refine ⟨_, rfl, rfl, _, rfl, ?_⟩
      refine iteF ?_
      refine ⟨_, rfl, true, rfl, trivial, _, rfl, iteF ?_⟩
      refine ⟨_, rfl, false, rfl, trivial, _, rfl, iteF ?_⟩
      refine ⟨_, rfl, .str z, .str z, rfl, .str z, _, rfl, iteF ?_⟩
      refine ⟨_, rfl, .str z, .str z, rfl, .str z, _, rfl, iteT ?_⟩
      refine ⟨_, rfl, .str z, .str z, rfl, .str z, _, rfl, iteT ?_⟩
      refine ⟨_, rfl, _, rfl, rfl, ?_⟩
      rw [decide_eq_true rfl]
      exact q H (Same.refl H)
    · cases hv with
      | @tup a xs _ hs ha =>
      cases hw with
      | @tup b ys _ ht hb =>
      refine ⟨_, rfl, rfl, _, rfl, ?_⟩
      refine iteF ?_
      refine ⟨_, rfl, true, rfl, trivial, _, rfl, iteF ?_⟩
      refine ⟨_, rfl, false, rfl, trivial, _, rfl, iteF ?_⟩
      refine ⟨_, rfl, .ref b, .tuple ds, rfl, .tup ht hb, _, rfl, iteF ?_⟩
      refine ⟨_, rfl, .ref b, .tuple ds, rfl, .tup ht hb, _, rfl, iteF ?_⟩
      have la := dps_len ha
      have lb := dps_len hb
      refine ⟨_, rfl, .ref b, .tuple ds, rfl, .tup ht hb, _, rfl, .ref a, .tuple ds, rfl, .tup hs ha, rfl, _, rfl, iteF ?_⟩
      refine ⟨_, rfl, .ref b, .tuple ds, rfl, .tup ht hb, _, rfl, .ref a, .tuple ds, rfl, .tup hs ha, rfl, _, rfl, iteF ?_⟩
      refine ⟨_, rfl, a, xs, rfl, .inr hs, _, rfl, b, ys, rfl, .inr ht, rfl, _, rfl, ?_⟩
      rw [show (!decide (V.int ((xs.length : Nat) : Int) = V.int ((ys.length : Nat) : Int))) = false by rw [la, lb, decide_eq_true rfl]; rfl]
      refine iteF ?_
      refine ⟨_, rfl, b, ys, rfl, .inr ht, _, rfl, by omega, by omega, fun D hD => ?_⟩
      rw [Int.toNat_natCast]
      refine lc_range (fun j H' => H' D = some (.lst (List.replicate j (V.bl true))) ∧ Same H H') ⟨upd_same, same_new hD _⟩ ?_ ?_
      · rintro j H1 hj ⟨hD1, s1⟩
        refine ⟨rfl, ?_⟩
        have ea : xs[j]? = some (xs[j]'(by omega)) := List.getElem?_eq_getElem (by omega)
        have eb : ys[j]? = some (ys[j]'(by omega)) := List.getElem?_eq_getElem (by omega)
        obtain ⟨d1, hd1, hp1⟩ := dps_get' ha ea
        obtain ⟨d2, hd2, hp2⟩ := dps_get' hb eb
        rw [hd1] at hd2
        cases hd2
        have i1 : atI xs (0 + (j : Int)) = some (xs[j]'(by omega)) := by
          rw [show (0 : Int) + (j : Int) = ((j : Nat) : Int) by omega]
          exact atI_nat ea
        have i2 : atI ys (0 + (j : Int)) = some (ys[j]'(by omega)) := by
          rw [show (0 : Int) + (j : Int) = ((j : Nat) : Int) by omega]
          exact atI_nat eb
        refine ⟨_, rfl, _, rfl, a, xs, _, _, rfl, rfl, sqt_ext (same_ext s1) hs, i1, _, rfl, _, rfl, b, ys, _, _, rfl, rfl, sqt_ext (same_ext s1) ht, i2, _, _, d1, rfl, dp_ext (same_ext s1) _ hp1, dp_ext (same_ext s1) _ hp2, hds d1 (List.mem_of_getElem? hd1), fun H2 s2 => ?_⟩
        refine ⟨_, s2 _ _ hD1, Nat.lt_of_le_of_lt (show _ ≤ 5000 by rw [List.length_replicate]; omega) (by decide), ?_, fun p o h => ?_⟩
        · rw [List.replicate_succ']
          exact upd_same
        · have : p ≠ D := fun z => by rw [z, hD] at h; cases h
          rw [upd_ne this]
          exact s2 _ _ (s1 _ _ h)
      · rintro H1 ⟨hD1, s1⟩
        refine ⟨D, List.replicate ys.length true, rfl, SqL.of (by rw [hD1, List.map_replicate]), ?_⟩
        rw [show (List.replicate ys.length true).all id = true by rw [List.all_eq_true]; intro z hz; rw [List.eq_of_mem_replicate hz]; rfl]
        exact q H1 s1
theorem same_all {f : Addr} {fd : FuncData} (F : C8.Def K mg "_law_same" (topS 42) f fd) (b : Binds K fd ["found", "due"] []) (B : Bl K mg) (hlist : mg "list" = none) : ∀ n : Nat, C8.Cal P w K mg base (n + 1) "_law_same" (spSameT K n) []
  | 0 => by
    refine C8.cal0 F b .nil sc__law_same ?len ?body
    case len => rintro vs H Q E ⟨_, _, _, _, _, _, sd, _⟩; exact sd.elim
    case body => rintro cdv A outer s H vs Q E hr ⟨_, _, _, _, _, _, sd, _⟩; exact sd.elim
  | n + 1 => ok_same F b B hlist (same_all F b B hlist n)
end
end K09


set_option Elab.async false
set_option linter.all false
set_option maxRecDepth 100000
set_option maxHeartbeats 8000000
namespace K09
open PySem PySem.Spec PyProof.Rows L2
theorem takes_none {X : Cx} : Takes X (fun _ _ _ _ => False) := fun _ _ x => by
  obtain ⟨a, B, sI, pins, σ, H, cls, d, h1, h2, h3, h4, h5, h6, h7, h8, z⟩ := x
  exact z.elim
theorem lay_all {n : Nat} : ∀ {ds : List PyData}, (∀ e ∈ ds, e.canLay0 = true ∧ e.depth ≤ n) → PyData.canLayAll0 ds = true ∧ PyData.depthAll ds ≤ n
  | [], _ => ⟨rfl, Nat.zero_le _⟩
  | d :: r, h => by
    obtain ⟨a, b⟩ := h d (by simp)
    obtain ⟨a2, b2⟩ := lay_all (ds := r) fun e he => h e (List.mem_cons_of_mem _ he)
    constructor
    · rw [PyData.canLayAll0, a, a2]; rfl
    · rw [PyData.depthAll]; omega
theorem lay_sd : ∀ (n : Nat) {d : PyData}, Sd n d → d.canLay0 = true ∧ d.depth ≤ n
  | 0, _, h => h.elim
  | n + 1, d, h => by
    rcases h with rfl | ⟨i, rfl⟩ | ⟨z, rfl, o⟩ | ⟨ds, rfl, _, hds⟩
    · exact ⟨rfl, by simp [PyData.depth]⟩
    · exact ⟨rfl, by simp [PyData.depth]⟩
    · exact ⟨o, by simp [PyData.depth]⟩
    · obtain ⟨a, b⟩ := lay_all fun e he => lay_sd n (hds e he)
      refine ⟨by rw [PyData.canLay0]; exact a, ?_⟩
      rw [PyData.depth]
      omega
theorem shaped_sd {d : PyData} (h : Sd 6 d) : SeqAt.shaped d = true := by
  obtain ⟨a, b⟩ := lay_sd 6 h
  unfold SeqAt.shaped
  rw [a, decide_eq_true (show d.depth ≤ 64 by omega)]
  rfl
/-- how the law's handlers meet the error -/
structure ExT (K : PySem.W.Frag) (mg : Str → Option Value) (TG DE : Addr) : Prop where
  g : mg "TooGreat" = some (.ref TG)
  d : mg "DeedError" = some (.ref DE)
  m : PySem.W.exmOne K (.ref TG) (.ref TG) = some true
section
variable {P : Program} {w : World} {K : PySem.W.Frag} {mg : Str → Option Value} {base : Heap}

/-- what the law knows of a program's places -/
def Told (K : PySem.W.Frag) (H : Hp) (L : List Str) (Ps : List (Str × List St)) (v : V) : Prop := (Few L Ps ∧ Dp K H v (layD L Ps)) ∨ (¬ Few L Ps ∧ v = .str "great")
def spLaid (K : PySem.W.Frag) (Ts : List Addr) : Sp := fun vs H Q _ => ∃ v L Ps, vs = [v] ∧ PD K H v L Ps ∧ Prog L Ps ∧ Tbs Ts H ∧ ∀ H' v', Go Ts H H' → Told K H' L Ps v' → Q v' H'
theorem sc__law_laid : FnScope ["plan", "found"] ["plan"] (C8.fnScope (topS 54)) := C8.fnScope_by (by decide +kernel)
theorem ok__law_laid {TG DE : Addr} {Ts : List Addr} {f : Addr} {fd : FuncData} (F : C8.Def K mg "_law_laid" (topS 54) f fd) (b : Binds K fd ["plan"] []) (B : Bl K mg) (X : ExT K mg TG DE)
    {fS : Addr} {fdS : FuncData} (FS : FnOk P w K mg base (L2.CX P w) 87 fS fdS ["program"] (spPl K TG Ts)) (mS : mg "places" = some (.ref fS)) (kS : PySem.W.keepIn K (.ref fS) = true) (kbS : KBinds K fdS ["program"] ["program"] (fun us ws => us ++ ws) (fun vs zs => vs ++ zs)) : C8.Cal P w K mg base 88 "_law_laid" (spLaid K Ts) [] := by
  refine C8.cal0 F b .nil sc__law_laid ?len ?body
  case len => rintro vs H Q E ⟨v, L, Ps, rfl, _⟩; rfl
  case body =>
    rintro cdv A outer s H vs Q E hr ⟨v, L, Ps, rfl, hd, hP, hTb, q⟩
    refine ⟨_, (pss_cons (ps_set (i := 1) sc__law_laid.nd rfl (Or.inl rfl) pe_str)
      (pss_cons (ps_try_many rfl rfl takes_none (fun W pn xe tk _ => pss_one (ps_set (i := 1) sc__law_laid.nd rfl (Or.inl rfl) (UG.pe_callKS FS (hr.mono (by decide)) rfl mS kS kbS (fun σ => passAt tk σ) (pk_cons (pv 0) pk_nil))))
        (.cons ⟨rfl, by decide, .inl X.g⟩ (fun a oe cls d pn _ _ => pss_one (ps_set (i := 1) sc__law_laid.nd rfl (Or.inl rfl) pe_str)) (.cons ⟨rfl, by decide, .inl X.d⟩ (fun a oe cls d pn _ _ => pss_one (ps_set (i := 1) sc__law_laid.nd rfl (Or.inl rfl) pe_str)) .nil)))
      (pss_one (ps_ret (pv 1))))), ?_⟩
    refine ⟨_, rfl, v, L, Ps, rfl, hd, hP, hTb, fun hF H1 v1 g1 h1 => ⟨_, rfl, q H1 v1 g1 (.inl ⟨hF, h1⟩)⟩, fun hF H1 g1 => ⟨true, X.m, fun _ a ha => ⟨_, rfl, q H1 _ g1 (.inr ⟨hF, rfl⟩)⟩, fun z => nomatch z⟩⟩
end
end K09


set_option Elab.async false
set_option linter.all false
set_option maxRecDepth 100000
set_option maxHeartbeats 8000000
namespace K09
open PySem PySem.Spec PyProof.Rows L2
/-! ### programs with the same places -/
structure Wq (L N : List Str) (b b' : List St) : Prop where
  lay : layB L N (leave L N []) b' 0 [.tuple [.str "end"]] = layB L N (leave L N []) b 0 [.tuple [.str "end"]]
  ok : oks L N false b'
  n : ns b' = ns b + 1
  k : ks b' ≤ ks b + 1
theorem Wq.of_wr {L N : List Str} {b b' : List St} (w : Wr L N false b b') : Wq L N b b' := ⟨w.a _ _ _, w.ok, w.n, w.k⟩
theorem Wq.ret {L N : List Str} {b : List St} (h : oks L N false b) : Wq L N b (b ++ [.rt]) := by
  refine ⟨lay_ret L N b _, oks_app.mpr ⟨h, ⟨rfl, trivial⟩⟩, ?_, ?_⟩
  · rw [ns_app]; rfl
  · have : ks [St.rt] = 1 := rfl
    rw [ks_app]; omega
/-- two programs of which the same is told -/
def Alk (L L' : List Str) (Ps Ps' : List (Str × List St)) : Prop := layD L' Ps' = layD L Ps ∧ (Few L' Ps' ↔ Few L Ps)
theorem Alk.refl (L : List Str) (Ps : List (Str × List St)) : Alk L L Ps Ps := ⟨rfl, Iff.rfl⟩
theorem Alk.trans {L L1 L2 : List Str} {Ps P1 P2 : List (Str × List St)} (a : Alk L L1 Ps P1) (b : Alk L1 L2 P1 P2) : Alk L L2 Ps P2 := ⟨b.1.trans a.1, b.2.trans a.2⟩
/-- by the layouts of the procedures -/
theorem Alk.of {L L' : List Str} {Ps Ps' : List (Str × List St)} (h : Ps'.map (layP L' (Ps'.map Prod.fst)) = Ps.map (layP L (Ps.map Prod.fst))) : Alk L L' Ps Ps' := by
  have e1 : ∀ (L : List Str) (Ps : List (Str × List St)), Ps.map (layPD L (Ps.map Prod.fst)) = (Ps.map (layP L (Ps.map Prod.fst))).map fun q => PyData.tuple [.int q.1, .tuple q.2] := fun L Ps => by
    rw [List.map_map]
    rfl
  have e2 : ∀ (L : List Str) (Ps : List (Str × List St)), Few L Ps ↔ ∀ q ∈ Ps.map (layP L (Ps.map Prod.fst)), q.2.length ≤ 300 := fun L Ps => by
    unfold Few
    rw [List.forall_mem_map]
  constructor
  · unfold layD
    rw [e1, e1, h]
  · rw [e2, e2, h]
theorem put_split {α : Type} {b : List α} {k : Nat} {s s' : α} (h : b[k]? = some s) : ∃ x y, b = x ++ s :: y ∧ b.take k ++ s' :: b.drop (k + 1) = x ++ s' :: y := ⟨_, _, split_at h, rfl⟩
theorem prog_put {L : List Str} {Ps : List (Str × List St)} {at_ : Nat} {p : Str × List St} {b' : List St} (hP : Prog L Ps) (h : Ps[at_]? = some p) (w : Wq L (Ps.map Prod.fst) p.2 b') (hk : kss (nsP Ps) ≤ 11) (hn : nss (nsP Ps) ≤ 59) :
    Prog L (Ps.take at_ ++ (p.1, b') :: Ps.drop (at_ + 1)) ∧ kss (nsP (Ps.take at_ ++ (p.1, b') :: Ps.drop (at_ + 1))) ≤ kss (nsP Ps) + 1 ∧ nss (nsP (Ps.take at_ ++ (p.1, b') :: Ps.drop (at_ + 1))) = nss (nsP Ps) + 1 ∧ Alk L L Ps (Ps.take at_ ++ (p.1, b') :: Ps.drop (at_ + 1)) := by
  obtain ⟨x, y, e, e2⟩ := put_split (s' := (p.1, b')) h
  rw [e2]
  subst e
  have en : (x ++ (p.1, b') :: y).map Prod.fst = (x ++ p :: y).map Prod.fst := by simp
  have el : (x ++ (p.1, b') :: y).length = (x ++ p :: y).length := by simp
  have e3 : nsP (x ++ (p.1, b') :: y) = nsP x ++ b' :: nsP y := by unfold nsP; rw [List.map_append]; rfl
  have e4 : nsP (x ++ p :: y) = nsP x ++ p.2 :: nsP y := by unfold nsP; rw [List.map_append]; rfl
  have wk := w.k
  have wn := w.n
  have hkk : kss (nsP (x ++ (p.1, b') :: y)) ≤ kss (nsP (x ++ p :: y)) + 1 := by
    rw [e3, e4, kss_app, kss_app, kss, kss]; omega
  have hnn : nss (nsP (x ++ (p.1, b') :: y)) = nss (nsP (x ++ p :: y)) + 1 := by
    rw [e3, e4, nss_app, nss_app, nss, nss]; omega
  refine ⟨⟨hP.l1, hP.l2, by rw [el]; exact hP.p1, by rw [el]; exact hP.p2, hP.okL, by rw [en]; exact hP.okN, hP.ndL, by rw [en]; exact hP.ndN, ?_, wdbs_n _ (by omega), by omega, by omega⟩, hkk, hnn, Alk.of ?_⟩
  · intro b hb
    rw [en]
    rw [e3] at hb
    rcases List.mem_append.mp hb with hb | hb
    · exact hP.ok b (by rw [e4]; exact List.mem_append_left _ hb)
    · rcases List.mem_cons.mp hb with rfl | hb
      · exact w.ok
      · exact hP.ok b (by rw [e4]; exact List.mem_append_right _ (List.mem_cons_of_mem _ hb))
  · rw [en]
    have wl := w.lay
    generalize (x ++ p :: y).map Prod.fst = N at wl
    rw [List.map_append, List.map_append, List.map_cons, List.map_cons]
    rw [show layP L N (p.1, b') = layP L N p from wl]
theorem fn_in {M : List (Str × Str)} {x : Str} (h : x ∈ M.map Prod.fst) : fn M x ∈ M.map Prod.snd := by
  induction M with
  | nil => cases h
  | cons p r ih =>
    unfold fn
    rw [List.lookup_cons]
    cases e : (x == p.1) with
    | true => exact List.mem_cons_self
    | false =>
      rcases List.mem_cons.mp (show x ∈ p.1 :: r.map Prod.fst from h) with z | z
      · rw [z] at e
        simp at e
      · exact List.mem_cons_of_mem _ (ih z)
theorem nodup_map {f : Str → Str} : ∀ {L : List Str}, Inj f L → L.Nodup → (L.map f).Nodup
  | [], _, _ => List.nodup_nil
  | x :: r, hi, hn => by
    rw [List.map_cons, List.nodup_cons]
    obtain ⟨h1, h2⟩ := List.nodup_cons.mp hn
    refine ⟨fun hm => ?_, nodup_map (fun a ha b hb => hi a (List.mem_cons_of_mem _ ha) b (List.mem_cons_of_mem _ hb)) h2⟩
    obtain ⟨y, hy, e⟩ := List.mem_map.mp hm
    exact h1 (by rw [hi x List.mem_cons_self y (List.mem_cons_of_mem _ hy) e.symm]; exact hy)
theorem prog_ren {L : List Str} {Ps : List (Str × List St)} {M0 M1 : List (Str × Str)} (hP : Prog L Ps) (hn : nss (nsP Ps) ≤ 60) (hL : ∀ y ∈ L, y ∈ M0.map Prod.fst) (hN : ∀ y ∈ Ps.map Prod.fst, y ∈ M1.map Prod.fst)
    (a1 : (M0.map Prod.fst).Nodup) (a2 : (M0.map Prod.snd).Nodup) (a3 : Nok (M0.map Prod.snd)) (b1 : (M1.map Prod.fst).Nodup) (b2 : (M1.map Prod.snd).Nodup) (b3 : Nok (M1.map Prod.snd)) :
    Prog (renL M0 L) (renP M0 M1 Ps) ∧ Alk L (renL M0 L) Ps (renP M0 M1 Ps) := by
  have i0 := fn_inj a1 a2 hL
  have i1 := fn_inj b1 b2 hN
  have en : (renP M0 M1 Ps).map Prod.fst = (Ps.map Prod.fst).map (fn M1) := by unfold renP; rw [List.map_map, List.map_map]; rfl
  have eb : nsP (renP M0 M1 Ps) = renss (fn M0) (fn M1) (nsP Ps) := by unfold nsP renP; rw [renss_map, List.map_map, List.map_map]; rfl
  have ns_ := ren_nss (fn M0) (fn M1) (nsP Ps)
  have hk := hP.ks
  refine ⟨⟨by unfold renL; rw [List.length_map]; exact hP.l1, by unfold renL; rw [List.length_map]; exact hP.l2, by unfold renP; rw [List.length_map]; exact hP.p1, by unfold renP; rw [List.length_map]; exact hP.p2, ?_, ?_, nodup_map i0 hP.ndL, ?_, ?_, ?_, ?_, ?_⟩, Alk.of ?_⟩
  · intro x hx
    obtain ⟨y, hy, rfl⟩ := List.mem_map.mp hx
    exact a3 _ (fn_in (hL y hy))
  · intro x hx
    rw [en] at hx
    obtain ⟨y, hy, rfl⟩ := List.mem_map.mp hx
    exact b3 _ (fn_in (hN y hy))
  · rw [en]
    exact nodup_map i1 hP.ndN
  · intro b hb
    rw [eb, renss_map] at hb
    obtain ⟨b0, hb0, rfl⟩ := List.mem_map.mp hb
    rw [en]
    exact ren_oks (fun x hx => List.mem_map.mpr ⟨x, hx, rfl⟩) (fun x hx => List.mem_map.mpr ⟨x, hx, rfl⟩) b0 false (hP.ok b0 hb0)
  · exact wdbs_n _ (by rw [eb, ns_.1]; exact hn)
  · rw [eb, ns_.2]; exact hk
  · rw [eb, ns_.1]; omega
  · rw [en]
    unfold renP
    rw [List.map_map]
    refine List.map_congr_left fun p hp => ?_
    exact lay_rens i0 i1 p.2 false _ 0 _ (hP.ok p.2 (List.mem_map.mpr ⟨p, hp, rfl⟩))
/-! ### what is told of such programs -/
def ToldD (L : List Str) (Ps : List (Str × List St)) (d : PyData) : Prop := (Few L Ps ∧ d = layD L Ps) ∨ (¬ Few L Ps ∧ d = .str "great")
theorem ToldD.alk {L L' : List Str} {Ps Ps' : List (Str × List St)} {d : PyData} (h : ToldD L Ps d) (a : Alk L L' Ps Ps') : ToldD L' Ps' d := by
  rcases h with ⟨h1, h2⟩ | ⟨h1, h2⟩
  · exact .inl ⟨a.2.mpr h1, by rw [h2, a.1]⟩
  · exact .inr ⟨fun z => h1 (a.2.mp z), h2⟩
theorem Told.dp {K : PySem.W.Frag} {H : Hp} {L : List Str} {Ps : List (Str × List St)} {v : V} {d : PyData} (h : Told K H L Ps v) (hd : ToldD L Ps d) : Dp K H v d := by
  rcases h with ⟨h1, h2⟩ | ⟨h1, rfl⟩
  · rcases hd with ⟨_, rfl⟩ | ⟨z, _⟩
    · exact h2
    · exact absurd h1 z
  · rcases hd with ⟨z, _⟩ | ⟨_, rfl⟩
    · exact absurd z h1
    · exact .str _
theorem toldD_ex (L : List Str) (Ps : List (Str × List St)) : ∃ d, ToldD L Ps d := by
  rcases Classical.em (Few L Ps) with h | h
  · exact ⟨_, .inl ⟨h, rfl⟩⟩
  · exact ⟨_, .inr ⟨h, rfl⟩⟩
theorem ToldD.sd {L : List Str} {Ps : List (Str × List St)} {d : PyData} (hP : Prog L Ps) (h : ToldD L Ps d) : Sd 6 d := by
  rcases h with ⟨h1, rfl⟩ | ⟨_, rfl⟩
  · exact sd_layD hP h1
  · exact .inr (.inr (.inl ⟨_, rfl, by decide +kernel⟩))
theorem ToldD.tup {L : List Str} {Ps : List (Str × List St)} {d : PyData} (h : ToldD L Ps d) : TupD d := by
  rcases h with ⟨_, rfl⟩ | ⟨_, rfl⟩
  · exact tup_layD L Ps
  · trivial
theorem ToldD.other {L : List Str} {Ps : List (Str × List St)} {d : PyData} (h : ToldD L Ps d) : PyData.eqv d (.str "other") = false := by
  rcases h with ⟨_, rfl⟩ | ⟨_, rfl⟩
  · rfl
  · decide +kernel
end K09


set_option Elab.async false
set_option linter.all false
set_option maxRecDepth 100000
set_option maxHeartbeats 8000000
namespace K09
open PySem PySem.Spec PyProof.Rows L2
/-! ### the end, where the law's own body stands under no guard -/
section
variable {P : Program} {w : World} {K : PySem.W.Frag} {mg mb : Str → Option Value} {fa a : Addr} {cs : List (Addr × Addr)} {s₁ : Shared} {vs : List Value} {ns : List Int}
/-- what is tracked at the call: the script and the tables, or the tables alone -/
structure Few0 (P : Program) (w : World) (K : PySem.W.Frag) (a : Addr) (cs : List (Addr × Addr)) (ns : List Int) (h : Heap) (H : Hp) : Prop where
  tb : ∀ p ∈ cs, H p.2 = some (.tbl #[])
  sq : SqL K H a (ns.map V.int)
  hok : HOk P w H h
  only : ∀ b o, H b = some o → (b ∈ cs.map (·.2) ∧ o = .tbl #[]) ∨ (b = a ∧ b ∉ cs.map (·.2) ∧ ∃ u, o = .frz u (.lst (ns.map V.int)))
  noK : ∀ b, H b ≠ none → K.lookup b = none
theorem few_is (KX : K.In s₁.heap) (hT : ∀ p ∈ cs, s₁.heap.get? p.2 = some { cls := .none, data := .fields #[] }) (nT : ∀ p ∈ cs, K.lookup p.2 = none)
    (ha : s₁.heap.get? a = some { cls := .type "list", data := .seq vs.toArray }) (hi : IntsAre vs ns) (hl : ns.length ≤ sizeLine) : ∃ H : Hp, Few0 P w K a cs ns s₁.heap H := by
  have rv := vals_ints hi
  have tabAt : ∀ b, b ∈ cs.map (·.2) → s₁.heap.get? b = some { cls := .none, data := .fields #[] } := by
    intro b hb
    obtain ⟨p, hp, rfl⟩ := List.mem_map.mp hb
    exact hT p hp
  have apart : a ∉ cs.map (·.2) := by
    intro hb
    have two := (tabAt a hb).symm.trans ha
    cases two
  have memP : ∀ p ∈ cs, p.2 ∈ cs.map (·.2) := fun p hp => List.mem_map.mpr ⟨p, hp, rfl⟩
  let Tt : Hp := fun b => if b ∈ cs.map (·.2) then some (.tbl #[]) else none
  have ttIn : ∀ b, b ∈ cs.map (·.2) → Tt b = some (.tbl #[]) := fun b hb => if_pos hb
  have ttOut : ∀ b, b ∉ cs.map (·.2) → Tt b = none := fun b hb => if_neg hb
  cases hk : K.lookup a with
  | some o =>
    have ho := (KX a o hk).symm.trans ha
    cases ho
    refine ⟨Tt, fun p hp => ttIn _ (memP p hp), .inr ⟨_, vs.toArray, _, hk, rfl, rfl, rfl, ?_, by simpa using rv⟩, fun b u e => ?_, fun b u e => ?_, fun b nb => ?_⟩
    · rw [List.size_toArray, hi.length]
      exact hl
    all_goals by_cases hb : b ∈ cs.map (·.2)
    · rw [ttIn b hb] at e; cases e; exact tabAt b hb
    · rw [ttOut b hb] at e; cases e
    · rw [ttIn b hb] at e; cases e; exact .inl ⟨hb, rfl⟩
    · rw [ttOut b hb] at e; cases e
    · obtain ⟨p, hp, rfl⟩ := List.mem_map.mp hb
      exact nT p hp
    · exact absurd (ttOut b hb) nb
  | none =>
    let ob : Obj := { cls := .type "list", data := .seq vs.toArray }
    have hne : ∀ b, b ∈ cs.map (·.2) → b ≠ a := fun b hb z => apart (z ▸ hb)
    let Ht : Hp := fun b => if b = a then some (.frz ob (.lst (ns.map V.int))) else Tt b
    have atA : Ht a = some (.frz ob (.lst (ns.map V.int))) := if_pos rfl
    have off : ∀ b, b ≠ a → Ht b = Tt b := fun b hb => if_neg hb
    refine ⟨Ht, fun p hp => (off _ (hne _ (memP p hp))).trans (ttIn _ (memP p hp)), .inl (.inr ⟨ob, atA⟩), fun b u e => ?_, fun b u e => ?_, fun b nb => ?_⟩
    all_goals by_cases hba : b = a
    · subst hba
      rw [atA] at e; cases e
      exact ⟨ha, by rw [List.length_map]; exact hl, vs, _, rv, ha⟩
    · rw [off b hba] at e
      by_cases hb : b ∈ cs.map (·.2)
      · rw [ttIn b hb] at e; cases e; exact tabAt b hb
      · rw [ttOut b hb] at e; cases e
    · subst hba
      rw [atA] at e; cases e
      exact .inr ⟨rfl, apart, ob, rfl⟩
    · rw [off b hba] at e
      by_cases hb : b ∈ cs.map (·.2)
      · rw [ttIn b hb] at e; cases e; exact .inl ⟨hb, rfl⟩
      · rw [ttOut b hb] at e; cases e
    · subst hba; exact hk
    · rw [off b hba] at nb
      by_cases hb : b ∈ cs.map (·.2)
      · obtain ⟨p, hp, rfl⟩ := List.mem_map.mp hb
        exact nT p hp
      · exact absurd (ttOut b hb) nb
/-- what the call needs around it -/
theorem env_few {H : Hp} (X : Few0 P w K a cs ns s₁.heap H) (KX : K.In s₁.heap) (hns : s₁.heap.Ns mainGlobals mg) (hb : s₁.heap.Ns builtinsNs mb) (hbb : ∀ x : Str, x ≠ "__name__" → mb x = bootBuiltins x) (hlim : s₁.heap.NoLimit) (hg : s₁.gens = #[])
    (ha : s₁.heap.get? a = some { cls := .type "list", data := .seq vs.toArray }) (hT : ∀ p ∈ cs, s₁.heap.get? p.2 = some { cls := .none, data := .fields #[] }) (C : ∀ p ∈ cs, PySem.W.CodeHd s₁.heap p.1 p.2)
    (hbm : ∃ (bm : Addr) (ob : Obj), mg "__builtins__" = some (.ref bm) ∧ bm ≠ builtinsNs ∧ s₁.heap.get? bm = some ob ∧ ob.cls = .type "module" ∧ ob.dict = some builtinsNs ∧ ob.data = .plain) :
    K.In (hidT s₁.heap H) ∧ (hidT s₁.heap H).Ns mainGlobals mg ∧ (∀ p ∈ cs, LamX.TabB (hidT s₁.heap H) mg p.1 p.2) ∧ Env0 P w K mg (hidT s₁.heap H) callerA [] s₁ H := by
  have stays : ∀ {b : Addr} {o : Obj}, s₁.heap.get? b = some o → H b = none → (hidT s₁.heap H).get? b = some o := fun h n => hidT_get h n
  -- neither the script's kind nor a table's
  have free : ∀ {b : Addr} {o : Obj}, s₁.heap.get? b = some o → (∀ xs n, o.data ≠ .seq xs n) → o.data ≠ .fields #[] → H b = none := by
    intro b o h h1 h2
    cases e : H b with
    | none => rfl
    | some u =>
      exfalso
      rcases X.only b u e with ⟨hm, _⟩ | ⟨rfl, _, _⟩
      · obtain ⟨p, hp, rfl⟩ := List.mem_map.mp hm
        rw [hT p hp] at h; cases h
        exact h2 rfl
      · rw [ha] at h; cases h
        exact h1 _ _ rfl
  have nsKept : ∀ {b : Addr} {m : Str → Option Value}, s₁.heap.Ns b m → (hidT s₁.heap H).Ns b m := by
    rintro b m ⟨o, es, ep, h, hd, r⟩
    exact ⟨o, es, ep, stays h (free h (fun xs n z => by rw [hd] at z; cases z) (fun z => by rw [hd] at z; cases z)), hd, r⟩
  have hK : K.In (hidT s₁.heap H) := by
    intro b o h
    refine stays (KX b o h) ?_
    cases e : H b with
    | none => rfl
    | some u => exact absurd (X.noK b (by rw [e]; intro z; cases z)) (by rw [h]; intro z; cases z)
  obtain ⟨mc, l1, l2⟩ := hlim
  refine ⟨hK, nsKept hns, fun p hp => ⟨?_, ?_, fun z => ?_⟩, ⟨rfl, ⟨hK, nsKept hns, ⟨mb, nsKept hb, hbb⟩, mc, nsKept l1, l2⟩, fun b o h => of_hidT h, Nat.le_of_eq (hidT_size _ _), trivial, fun b hb => (List.not_mem_nil hb).elim, X.hok, .of_eq hg⟩⟩
  · obtain ⟨o, us, file, tf, flags, tg, inF, text, tt, h, c1, c2, c3, c4⟩ := C p hp
    refine ⟨o, us, file, tf, flags, tg, inF, text, tt, stays h (free h (fun xs n z => ?_) fun z => ?_), c1, c2, c3, c4⟩
    · rw [c2] at z; cases z
    · rw [c2] at z; cases z
      simp at c3
  · obtain ⟨bm, ob, b1, b2, b3, b4, b5, b6⟩ := hbm
    refine ⟨bm, ob, b1, b2, fun z => ?_, fun z => ?_, stays b3 (free b3 (fun xs n z => ?_) fun z => ?_), b4, b5, b6⟩
    · obtain ⟨o, es, ep, h, hd, _⟩ := hns
      rw [z, h] at b3; cases b3
      rw [hd] at b6; cases b6
    · rw [z, hT p hp] at b3; cases b3
      cases b6
    · rw [b6] at z; cases z
    · rw [b6] at z; cases z
  · obtain ⟨o, es, ep, h, hd, _⟩ := hns
    rw [z, hT p hp] at h; cases h
    cases hd
/-- the end of the call -/
theorem end_few {H : Hp} (X : Few0 P w K a cs ns s₁.heap H) (hT : ∀ p ∈ cs, s₁.heap.get? p.2 = some { cls := .none, data := .fields #[] }) (C : ∀ p ∈ cs, PySem.W.CodeHd s₁.heap p.1 p.2) {r : Result} {s' : Shared}
    (h : CR C8.CX0 [] P w H s₁ (fun v _ => v = .bl true) (fun _ _ _ => False) r s') : r = .ok (.ret (.bool true)) ∧ OldK s₁.heap s'.heap ∧ s'.os = s₁.os ∧ AllBare s'.gens := by
  match r, h with
  | .error _, h => exact h.elim
  | .ok .next, h => exact False.elim h
  | .ok .brk, h => exact False.elim h
  | .ok .cont, h => exact False.elim h
  | .ok (.ret u), h =>
    obtain ⟨v, H', os, bare, un, hok', ru, hv⟩ := h
    have hv' : v = .bl true := hv
    subst hv'
    have hu : u = Value.bool true := ru
    subst hu
    have same : ∀ b o, b ∉ cs.map (·.2) → s₁.heap.get? b = some o → s'.heap.get? b = some o := by
      intro b o nb h
      cases e : H b with
      | none => exact un.keep b o h e (fun z => (List.not_mem_nil z).elim) (fun z => (List.not_mem_nil z).elim)
      | some t =>
        rcases X.only b t e with ⟨z, _⟩ | ⟨_, _, ob, rfl⟩
        · exact absurd z nb
        · have before := (X.hok b _ e).1
          have after := (hok' b _ (un.frzs b ob _ e)).1
          rw [before] at h; cases h
          exact after
    have more : ∀ p ∈ cs, ∃ xs : Array Value, s'.heap.get? p.2 = some { cls := .none, data := .fields xs } := by
      intro p hp
      obtain ⟨xs, e⟩ := un.tbls p.2 #[] (X.tb p hp)
      exact ⟨_, hok' p.2 _ e⟩
    refine ⟨rfl, ⟨fun b o h => ?_, fun b o h => ?_⟩, os, bare⟩
    · by_cases hb : b ∈ cs.map (·.2)
      · obtain ⟨p, hp, rfl⟩ := List.mem_map.mp hb
        obtain ⟨xs, e⟩ := more p hp
        rw [hT p hp] at h; cases h
        exact .inr (.inl ⟨((C p hp).tab (hT p hp)).isCodeTable, rfl, #[], xs, rfl, by rw [Array.empty_append]; exact e⟩)
      · exact .inl (same b o hb h)
    · by_cases hb : b ∈ cs.map (·.2)
      · obtain ⟨p, hp, rfl⟩ := List.mem_map.mp hb
        obtain ⟨xs, e⟩ := more p hp
        exact ⟨_, e⟩
      · exact ⟨o, same b o hb h⟩
end
end K09


set_option Elab.async false
set_option linter.all false
set_option maxRecDepth 100000
set_option maxHeartbeats 8000000
namespace K09
open PySem PySem.Spec PyProof.Rows L2
theorem name9 {i : Nat} {v : V} {σ : L2.St} {H : Hp} {Q : L2.St → Hp → Prop} (h : Q (σ.set i (some v)) H) : gName i v σ H Q := h
theorem wl_go {Ts : List Addr} {H H' : Hp} {w l m : Nat} (h : Wl H w l m) (t : Tbs Ts H) (g : Go Ts H H') : Wl H' w l m := by
  obtain ⟨ns, a, n, h1, h2, _⟩ := id h
  refine h.kp g.2 (fun z => ?_) fun z => ?_
  · obtain ⟨ps, h3, _⟩ := t _ z
    rw [h1] at h3; cases h3
  · obtain ⟨ps, h3, _⟩ := t _ z
    rw [h2] at h3; cases h3
theorem tbs_wl {Ts : List Addr} {H H' : Hp} {w l m : Nat} (t : Tbs Ts H) (h : Wl H w l m) (k : Kp [w, l] H H') : Tbs Ts H' := fun T hT => by
  obtain ⟨ns, a, n, h1, h2, _⟩ := id h
  obtain ⟨ps, h3, h4⟩ := t T hT
  refine ⟨ps, k _ _ (fun z => ?_) h3, h4⟩
  rcases List.mem_cons.mp z with z | z
  · rw [z, h1] at h3; cases h3
  · rw [List.mem_singleton.mp z, h2] at h3; cases h3
section
variable {P : Program} {w : World} {K : PySem.W.Frag} {mg : Str → Option Value} {base : Heap}
theorem call_own {x : Str} {st : Stmt} {f : Addr} {fd : FuncData} {N : List Str} {p : Str} {k : Nat} {s : Shared} {H : Hp} {u : Value} {v : V} {Q : VK} (F : C8.Fun K x x st f fd) (S : FnScope N [p] (C8.fnScope st)) (room : Room (k + 1) callerA)
    (E0 : Env0 P w K mg base callerA [] s H) (bnd : BindsTo s fd ⟨[u], []⟩ [(p, u)]) (rel : RelV v u)
    (own : ∀ cdv : Value, Room k (callerA.deeper (envOfC x (C8.fnScope st) s.heap.objs.size f cdv)) →
      ∃ t, PSs (cxOf C8.CX0 P w K mg base N x (C8.fnScope st) f cdv callerA [] s H C8.E0).nox (C8.fnBody st) t ∧ t { nx := fun _ H' => Q .non H', rt := Q } (start N [v]) H) :
    codeAny (model P w) callerA (.call (.ref f) ⟨[u], []⟩) (CR C8.CX0 [] P w H s Q C8.E0) s := by
  obtain ⟨oc, od, dV, kV, doc, pm, an, cdv, ct, osl, rfl, look, code⟩ := F.ex
  have inK : K.In s.heap := E0.mod.kin.keeps (fun b o e => (E0.bs b o e).1)
  have free : s.heap.NoLimit := E0.mod.nolimit.keeps (fun b o e => (E0.bs b o e).1)
  refine codeAny_call_function room.depth (inK _ _ look) rfl S.co S.gen rfl (PySem.W.codeRec_of inK code) (bnd _ _ _ _ ?_)
  refine wpAny_newFunctionEnv_cells S.kind ?_ ?_
  · intro y hy
    cases List.mem_singleton.mp hy
    exact (S.par p (by simp)).imp id fun q => ⟨q, PySem.W.cellsFrom_some _ _ _ (.inl q)⟩
  intro env he s1 came
  subst he
  obtain ⟨t, ht, hq⟩ := own cdv (room.deeper _)
  refine ⟨free.keeps came.toInCall.keep, codeAny_func ?_⟩
  have I1 : Inv (cxOf C8.CX0 P w K mg base N x (C8.fnScope st) f cdv callerA [] s H C8.E0) [] (start N [v]) H s1 := inv_start (us := [u]) S room.hd E0 rfl (.cons rel .nil) came
  refine wpAny_mono (ht.nox.run [] s1 (start N [v]) H _ I1 hq) (fun fl s' ended => ?_) (fun e s' z => z)
  match fl, ended with
  | .ret _, ⟨v', σ', H', J, rv, q⟩ => exact ⟨v', H', J.os, J.bare, J.base, J.hok, rv, q⟩
  | .next, ⟨σ', H', J, q⟩ => exact ⟨.non, H', J.os, J.bare, J.base, J.hok, rfl, q⟩
  | .brk, ⟨_, _, _, q⟩ => exact q.elim
  | .cont, ⟨_, _, _, q⟩ => exact q.elim

theorem sc_law : FnScope ["script", "well", "turn", "plan", "due", "k", "letters", "procedures", "at", "name", "body"] ["script"] (C8.fnScope (topS 55)) := C8.fnScope_by (by decide +kernel)
/-- where the law stands between two turns of the inner loop -/
structure At9 (K : PySem.W.Frag) (Ts : List Addr) (H : Hp) (w l : Addr) (v due : V) (L : List Str) (Ps P0 : List (Str × List St)) (d : PyData) (j c : Nat) : Prop where
  wl : Wl H w l c
  tb : Tbs Ts H
  pd : PD K H v L Ps
  pr : Prog L Ps
  kk : kss (nsP Ps) ≤ 8 + j
  nn : nss (nsP Ps) ≤ 40 + j
  al : Alk L L P0 Ps
  du : Dp K H due d
theorem ok_law {f : Addr} {fd : FuncData} (F : C8.Fun K "law" "law" (topS 55) f fd) (B : Bl K mg) {Ts : List Addr} (c_well : C8.Cal P w K mg base 1 "_law_well" (spWell K) []) (c_draw : C8.Cal P w K mg base 1 "_law_draw" spDraw []) (c_plan : C8.Cal P w K mg base 20 "_law_plan" (spPlan K) []) (c_laid : C8.Cal P w K mg base 88 "_law_laid" (spLaid K Ts) [])
    (c_wr : C8.Cal P w K mg base 9 "_law_wrapped" (spWr K 8) []) (c_check : C8.Cal P w K mg base 17 "check" (spCheck K Ts) []) (c_same : C8.Cal P w K mg base 7 "_law_same" (spSameT K 6) []) (c_tp : C8.Cal P w K mg base 15 "_law_turned_plan" (spTP K) []) (c_pairs : C8.Cal P w K mg base 15 "_law_pairs" (spPairs K) [])
    {s : Shared} {H : Hp} {x : Addr} {ns : List Int} (hln : ns.length ≤ 1000) (E0 : Env0 P w K mg base callerA [] s H) (bnd : BindsTo s fd ⟨[.ref x], []⟩ [("script", .ref x)]) (hx : SqL K H x (ns.map V.int)) (hT : Tbs Ts H) :
    codeAny (model P w) callerA (.call (.ref f) ⟨[.ref x], []⟩) (CR C8.CX0 [] P w H s (fun v _ => v = .bl true) C8.E0) s := by
  refine call_own (k := 88) (v := .ref x) F sc_law ⟨rfl, by decide +kernel, by decide +kernel⟩ E0 bnd rfl fun cdv hr => ?_
  refine ⟨_, (pss_cons (ps_set (i := 1) sc_law.nd rfl (Or.inl rfl) (C8.pe_c c_well hr (by decide) rfl (pa_cons (pv 0) pa_nil)))
    (pss_cons (ps_for PassesOwn.never rfl (pi_range1 rfl B.range (pa_cons pe_int pa_nil)) (pg_name (i := 2) sc_law.nd rfl (Or.inl rfl))
    (pss_cons (ps_set (i := 3) sc_law.nd rfl (Or.inl rfl) (C8.pe_c c_plan hr (by decide) rfl (pa_cons (pv 1) (pa_cons (pe_ix ix_list (pe_lst (pa_cons pe_int (pa_cons pe_int (pa_cons pe_int (pa_cons pe_int pa_nil))))) (pv 2) (fun _ _ => rfl)) pa_nil))))
    (pss_cons (ps_set (i := 4) sc_law.nd rfl (Or.inl rfl) (C8.pe_c c_laid hr (by decide) rfl (pa_cons (pv 3) pa_nil)))
    (pss_cons (ps_if (pt_cmpR (op_eqD hr.units) (pv 4) pe_str (nomark _)) (pss_one (ps_ret pe_bl)) pss_nil)
    (pss_cons (ps_for PassesOwn.never rfl (pi_range1 rfl B.range (pa_cons pe_int pa_nil)) (pg_name (i := 5) sc_law.nd rfl (Or.inl rfl))
    (pss_cons (ps_asg (pv 3) (pg_tup rfl (pgs_cons (pg_name (i := 6) sc_law.nd rfl (Or.inl rfl)) (pgs_cons (pg_name (i := 7) sc_law.nd rfl (Or.inl rfl)) pgs_nil))))
    (pss_cons (ps_set (i := 8) sc_law.nd rfl (Or.inl rfl) (C8.pe_c c_draw hr (by decide) rfl (pa_cons (pv 1) (pa_cons (pe_callB call_len_seq rfl B.len PySem.boot_len (pa_cons (pv 7) pa_nil)) pa_nil))))
    (pss_cons (ps_asg (pe_ix ix_tup (pv 7) (pv 8) (fun _ _ => rfl)) (pg_tup rfl (pgs_cons (pg_name (i := 9) sc_law.nd rfl (Or.inl rfl)) (pgs_cons (pg_name (i := 10) sc_law.nd rfl (Or.inl rfl)) pgs_nil))))
    (C8.pss_cut (ps_set (i := 10) sc_law.nd rfl (Or.inl rfl) (pe_ifExp (pt_cmpR op_eq (C8.pe_c c_draw hr (by decide) rfl (pa_cons (pv 1) (pa_cons pe_int pa_nil))) pe_int (nomark _)) (pe_op op_catA (pv 10) (pe_tup (pa_cons (pe_tup (pa_cons pe_str pa_nil)) pa_nil))) (C8.pe_c c_wr hr (by decide) rfl (pa_cons (pv 1) (pa_cons (pv 10) (pa_cons pe_int pa_nil))))))
    (pss_cons (ps_set (i := 3) sc_law.nd rfl (Or.inl rfl) (pe_tup (pa_cons (pv 6) (pa_cons (pe_op op_catA (pe_op op_catA (pe_slice sl_tupA (pv 7) po_none (po_some (pv 8))) (pe_tup (pa_cons (pe_tup (pa_cons (pv 9) (pa_cons (pv 10) pa_nil))) pa_nil))) (pe_slice sl_tupA (pv 7) (po_some (pe_op op_add (pv 8) pe_int)) po_none)) pa_nil))))
    (pss_one (ps_if (PW.pt (pw_or (pt_cmpR op_notN (C8.pe_c c_check hr (by decide) rfl (pa_cons (pv 3) pa_nil)) pe_non (nomark _)) (pw_or1 (pt_not (pt_val (C8.pe_c c_same hr (by decide) rfl (pa_cons (C8.pe_c c_laid hr (by decide) rfl (pa_cons (pv 3) pa_nil)) (pa_cons (pv 4) pa_nil)))))))) (pss_one (ps_ret pe_bl)) pss_nil))))))))
    (pss_one (ps_if (pt_not (pt_val (C8.pe_c c_same hr (by decide) rfl (pa_cons (C8.pe_c c_laid hr (by decide) rfl (pa_cons (C8.pe_c c_tp hr (by decide) rfl (pa_cons (pv 3) (pa_cons (C8.pe_c c_pairs hr (by decide) rfl (pa_cons (pv 1) (pa_cons (pv 3) pa_nil))) pa_nil))) pa_nil)) (pa_cons (pv 4) pa_nil))))) (pss_one (ps_ret pe_bl)) pss_nil)))))))
    (pss_one (ps_ret pe_bl)))), ?_⟩
  refine ⟨_, rfl, x, ns, rfl, hx, hln, fun H1 w l s1 hw0 hl0 hW1 => ?_⟩
  refine name9 ?_
  refine ⟨_, rfl, by decide, by decide, ?_⟩
  have hT1 := hT.same s1
  have big : 4 * (CP + 1400) ≤ 900000000000000000 := by decide +kernel
  refine for_range (lo := 0) (n := 4) (fun i σ H' => (∃ b2 b3 b4 b5 b6 b7 b8 b9 b10, σ = [some (.ref x), some (.ref w), b2, b3, b4, b5, b6, b7, b8, b9, b10]) ∧ Wl H' w l ((4 - i) * (CP + 1400)) ∧ Tbs Ts H') ⟨⟨_, _, _, _, _, _, _, _, _, rfl⟩, hW1.le (by omega), hT1⟩ ?_ ?_
  · rintro i σ H2 hi ⟨⟨b2, b3, b4, b5, b6, b7, b8, b9, b10, rfl⟩, hW2, hT2⟩
    have ec : (4 - i) * (CP + 1400) = (4 - (i + 1)) * (CP + 1400) + (CP + 1400) := by
      rw [show 4 - i = (4 - (i + 1)) + 1 by omega, Nat.succ_mul]
    rw [ec] at hW2
    generalize (4 - (i + 1)) * (CP + 1400) = c0 at hW2
    refine name9 ?_
    obtain ⟨size, hsz, hat⟩ : ∃ m : Nat, m ≤ 40 ∧ atI (([6, 15, 25, 40] : List Int).map V.int) (0 + (i : Int)) = some (.int (m : Int)) := by
      rcases (show i = 0 ∨ i = 1 ∨ i = 2 ∨ i = 3 by omega) with rfl | rfl | rfl | rfl
      · exact ⟨6, by decide, rfl⟩
      · exact ⟨15, by decide, rfl⟩
      · exact ⟨25, by decide, rfl⟩
      · exact ⟨40, by decide, rfl⟩
    refine ⟨_, rfl, (by show 4 ≤ sizeLine; decide), fun dl hdl => ⟨_, rfl, dl, ([6, 15, 25, 40] : List Int).map V.int, _, .int (size : Int), rfl, rfl, SqL.of upd_same, hat, ?_⟩⟩
    have sd := same_new hdl (.lst [.int 6, .int 15, .int 25, .int 40])
    refine ⟨w, l, c0 + 1400, size, rfl, (hW2.same sd).le (by omega), hsz, fun H3 v L Ps hpd hP hk8 hns hW3 k3 t3 => ?_⟩
    have hT3 := tbs_wl (hT2.same sd) (hW2.same sd) k3
    refine name9 ?_
    refine ⟨_, rfl, v, L, Ps, rfl, hpd, hP, hT3, fun H4 due g4 hto => ?_⟩
    refine name9 ?_
    obtain ⟨d, hd⟩ := toldD_ex L Ps
    have hdue := hto.dp hd
    have hsd := hd.sd hP
    have htd := hd.tup
    refine ⟨_, rfl, d, .str "other", hdue, .str _, shaped_sd hsd, by decide +kernel, _, rfl, ?_⟩
    rw [hd.other]
    refine iteF ?_
    refine ⟨_, rfl, by decide, by decide, ?_⟩
    refine for_range (lo := 0) (n := 4) (fun j σ H' => (∃ v' b2 b5 b6 b7 b8 b9 b10 Ps', σ = [some (.ref x), some (.ref w), b2, some v', some due, b5, b6, b7, b8, b9, b10] ∧ At9 K Ts H' w l v' due L Ps' Ps d j (c0 + 1200 + (4 - j) * 40))) ⟨_, _, _, _, _, _, _, _, Ps, rfl, ⟨(wl_go hW3 hT3 g4).le (by omega), g4.1, hpd.tk (Tk.go hT3 g4), hP, by omega, by omega, Alk.refl L Ps, hdue⟩⟩ ?_ ?_
    · rintro j σ H5 hj ⟨v5, b2', b5', b6', b7', b8', b9', b10', Ps5, rfl, A5⟩
      obtain ⟨hW5, hT5, hpd5, hP5, hk5, hn5, al5, hdu5⟩ := A5
      have ec2 : (4 - j) * 40 = (4 - (j + 1)) * 40 + 40 := by omega
      rw [ec2] at hW5
      generalize (4 - (j + 1)) * 40 = c1 at hW5
      refine name9 ?_
      obtain ⟨a, la, pvv, rfl, hs, hla, hpv⟩ := id hpd5
      obtain ⟨pa, pxs, rfl, hps, hpa, hpl⟩ := len_ok hpv
      rw [List.length_map] at hpl
      have p1 := hP5.p1
      have p2 := hP5.p2
      refine ⟨_, rfl, a, _, rfl, hs, rfl, _, _, rfl, ?_⟩
      refine name9 ?_
      refine ⟨_, _, rfl, ?_⟩
      refine name9 ?_
      refine ⟨rfl, ?_⟩
      refine ⟨_, rfl, _, rfl, pa, pxs, rfl, .inr hps, w, l, c0 + 1200 + c1 + 39, (pxs.length : Nat), rfl, hW5.le (by omega), by omega, by omega, fun r H6 r0 r1 hW6 k6 t6 => ?_⟩
      obtain ⟨at_, rfl⟩ : ∃ n : Nat, r = (n : Int) := ⟨r.toNat, by omega⟩
      have hT6 := tbs_wl hT5 hW5 k6
      refine name9 ?_
      have hxa : at_ < pxs.length := by omega
      have hxx := List.getElem?_eq_getElem hxa
      generalize pxs[at_] = xp at hxx
      obtain ⟨dd, hdd, hdp⟩ := dps_get' hpa hxx
      obtain ⟨p, hp, rfl⟩ := procs_get hdd
      have hd6 := t6.dp _ (tup_proc p) hdp
      obtain ⟨qa, qxs, rfl, hqs, hqa, hql⟩ := len_ok hd6
      cases hqa with
      | @cons v0 _ _ _ h0 hqa =>
      cases h0
      cases hqa with
      | @cons bv _ _ _ hb1 hqa =>
      cases hqa
      refine ⟨_, rfl, _, rfl, _, _, _, _, rfl, rfl, t6.sqt hps, atI_nat hxx, ?_⟩
      refine ⟨qa, _, rfl, hqs, rfl, _, _, rfl, ?_⟩
      refine name9 ?_
      refine ⟨_, _, rfl, ?_⟩
      refine name9 ?_
      refine ⟨rfl, ?_⟩
      have hpm : p ∈ Ps5 := List.mem_of_getElem? hp
      have hbm : p.2 ∈ nsP Ps5 := List.mem_map.mpr ⟨p, hpm, rfl⟩
      have hok := hP5.ok _ hbm
      have hbn := nss_mem hbm
      have hbk := kss_mem hbm
      have hbl := len_ns p.2
      refine ⟨fun σ' H' => ∃ bv' b', σ' = [some (.ref x), some (.ref w), b2', some (.ref a), some due, some (.int (0 + (j : Int))), some (.ref la), some (.ref pa), some (.int (at_ : Nat)), some (.str p.1), some bv'] ∧ Dp K H' bv' (.tuple (ds b')) ∧ Wq L (Ps5.map Prod.fst) p.2 b' ∧ Wl H' w l (c0 + 1200 + c1) ∧ Kp [w, l] H6 H' ∧ Tk H6 H', ?_, ?_⟩
      · refine ⟨_, rfl, w, l, c0 + 1200 + c1 + 38, 4, rfl, hW6.le (by omega), by decide, by decide, fun r2 H7 z0 z1 hW7 k7 t7 => ⟨rfl, _, rfl, ?_⟩⟩
        rw [dec_int]
        have hb7 := t7.dp (.tuple (ds p.2)) (tup_ds p.2) hb1
        rcases Bool.eq_false_or_eq_true (r2 == 0) with hz | hz
        · refine ifT hz ?_
          refine ⟨_, rfl, (by show 1 ≤ sizeLine; decide), fun z hz1 => ⟨(by show 1 ≤ sizeLine; decide), fun y hy => ?_⟩⟩
          have sy := (same_new hz1 (.tup [.str "return"])).trans (same_new hy (.tup [.ref z]))
          have nzy : z ≠ y := fun q => by rw [← q, upd_same] at hy; cases hy
          refine catA_dp ((Tk.same sy).dp (.tuple (ds p.2)) (tup_ds p.2) hb7) (.tup (SqT.of upd_same) (.cons (d := St.rt.d) (.tup (SqT.of (by rw [upd_ne nzy]; exact upd_same)) (.cons (.str _) .nil)) .nil)) (by rw [ds_len]; simp; omega) (tup_ds p.2) ⟨tup_St .rt, trivial⟩ fun vR HR sR hR => ?_
          refine name9 ?_
          have sAll := sy.trans sR
          refine ⟨vR, p.2 ++ [.rt], rfl, ?_, Wq.ret hok, (hW7.same sAll).le (by omega), k7.trans (Kp.of_same sAll), t7.trans (Tk.same sAll)⟩
          rw [ds_app]
          exact hR
        · refine ifF hz ?_
          refine ⟨_, rfl, _, rfl, w, l, bv, 7, c0 + 1200 + c1, L, Ps5.map Prod.fst, p.2, false, rfl, hW7.le (by omega), by decide, hb7, by omega, hok, fun H8 v8 b8 hv8 wr8 hW8 k8 t8 => ?_⟩
          refine name9 ?_
          exact ⟨v8, b8, rfl, hv8, Wq.of_wr wr8, hW8, k7.trans k8, t7.trans t8⟩
      · rintro _ H8 ⟨bv8, b8, rfl, hv8, wq, hW8, k8, t8⟩
        have t58 := t6.trans t8
        have hT8 := tbs_wl hT6 hW6 k8
        have hpv8 := t58.dp (.tuple (Ps5.map procD)) (tup_procs Ps5) hpv
        have hal : at_ ≤ (Ps5.map procD).length := by rw [List.length_map]; omega
        refine ⟨_, rfl, _, rfl, _, rfl, _, rfl, slTo hpv8 (tup_procs Ps5) hal fun vA HA sA hA => ?_⟩
        refine ⟨_, rfl, _, rfl, (by show 2 ≤ sizeLine; decide), fun z hz => ⟨(by show 1 ≤ sizeLine; decide), fun y hy => ?_⟩⟩
        have nzy : z ≠ y := fun q => by rw [← q, upd_same] at hy; cases hy
        have sy := (same_new hz (.tup [.str p.1, bv8])).trans (same_new hy (.tup [.ref z]))
        refine catA_dp ((Tk.same sy).dp (.tuple ((Ps5.map procD).take at_)) (tup_take at_ (tup_procs Ps5)) hA) (.tup (SqT.of upd_same) (.cons (d := procD (p.1, b8)) (.tup (SqT.of (by rw [upd_ne nzy]; exact upd_same)) (.cons (.str _) (.cons ((Tk.same (sA.trans sy)).dp (.tuple (ds b8)) (tup_ds b8) hv8) .nil))) .nil)) (by rw [List.length_take, List.length_map]; simp; omega) (tup_take at_ (tup_procs Ps5)) ⟨tup_proc (p.1, b8), trivial⟩ fun vB HB sB hB => ?_
        have sAB := sA.trans (sy.trans sB)
        have ea : ((at_ : Nat) : Int) + 1 = ((at_ + 1 : Nat) : Int) := by omega
        refine ⟨_, rfl, _, rfl, _, _, rfl, rfl, _, rfl, ?_⟩
        rw [ea]
        dsimp only [tNoPart]
        refine slFrom (i := at_ + 1) ((Tk.same sAB).dp (.tuple (Ps5.map procD)) (tup_procs Ps5) hpv8) (tup_procs Ps5) (by rw [List.length_map]; omega) fun vC HC sC hC => ?_
        have tB : TupDs ((Ps5.map procD).take at_ ++ [procD (p.1, b8)]) := tupds_iff.mpr fun d hd => (List.mem_append.mp hd).elim (tupds_iff.mp (tup_take at_ (tup_procs Ps5)) d) fun z => by
          cases List.mem_singleton.mp z
          exact tup_proc (p.1, b8)
        refine catA_dp ((Tk.same sC).dp (.tuple _) tB hB) hC (by rw [List.length_append, List.length_take, List.length_drop, List.length_map]; simp; omega) tB (tup_drop (at_ + 1) (tup_procs Ps5)) fun vR HR sR hR => ?_
        have eb : (Ps5.map procD).take at_ ++ [procD (p.1, b8)] ++ (Ps5.map procD).drop (at_ + 1) = (Ps5.take at_ ++ (p.1, b8) :: Ps5.drop (at_ + 1)).map procD := by
          rw [← List.map_take, ← List.map_drop, List.append_assoc, List.map_append]
          rfl
        rw [eb] at hR
        obtain ⟨hP9, hk9, hn9, al9⟩ := prog_put hP5 hp wq (by omega) (by omega)
        generalize Ps5.take at_ ++ (p.1, b8) :: Ps5.drop (at_ + 1) = Ps9 at hR hP9 hk9 hn9 al9
        refine ⟨(by show 2 ≤ sizeLine; decide), fun q hq => ?_⟩
        have sq := same_new hq (.tup [.ref la, vR])
        have sAll := sAB.trans (sC.trans (sR.trans sq))
        have hpd9 : PD K (upd HR q (.tup [.ref la, vR])) (.ref q) L Ps9 := ⟨q, la, vR, rfl, SqT.of upd_same, hla.tk (t58.trans (Tk.same sAll)), (Tk.same sq).dp (.tuple (Ps9.map procD)) (tup_procs Ps9) hR⟩
        have hW9 := hW8.same sAll
        have hT9 := hT8.same sAll
        have hdu9 := (t58.trans (Tk.same sAll)).dp d htd hdu5
        generalize upd HR q (.tup [.ref la, vR]) = H9 at hpd9 hW9 hT9 hdu9
        refine name9 ?_
        have al95 := al5.trans al9
        refine ⟨_, rfl, _, L, Ps9, rfl, hpd9.dp, hP9, hT9, fun Ha ga => ⟨rfl, _, rfl, ?_⟩⟩
        refine iteF ?_
        have hpda := hpd9.tk (Tk.go hT9 ga)
        refine ⟨_, rfl, _, L, Ps9, rfl, hpda, hP9, ga.1, fun Hb vb gb tob => ?_⟩
        have tb := (Tk.go hT9 ga).trans (Tk.go ga.1 gb)
        have hdub := tb.dp d htd hdu9
        refine ⟨_, rfl, vb, due, d, rfl, tob.dp (hd.alk al95), hdub, hsd, fun Hc sc => ⟨_, rfl, ?_⟩⟩
        refine iteF ?_
        have tc := tb.trans (Tk.same sc)
        refine ⟨_, _, _, _, _, _, _, _, Ps9, rfl, ⟨?_, gb.1.same sc, hpd9.tk tc, hP9, by omega, by omega, al95, tc.dp d htd hdu9⟩⟩
        exact ((wl_go (wl_go hW9 hT9 ga) ga.1 gb).same sc).le (by omega)
    · rintro σ H5 ⟨v5, b2', b5', b6', b7', b8', b9', b10', Ps5, rfl, A5⟩
      obtain ⟨hW5, hT5, hpd5, hP5, hk5, hn5, al5, hdu5⟩ := A5
      refine ⟨_, rfl, _, rfl, _, rfl, w, l, v5, c0, L, Ps5, rfl, hW5.le (by omega), hpd5, hP5, by omega, fun H6 pr d0 d1 M0 M1 hpr hd0 hd1 hL hN a1 a2 a3 b1 b2 b3 hW6 k6 t6 => ?_⟩
      have hT6 := tbs_wl hT5 hW5 k6
      have hpd6 := hpd5.tk t6
      obtain ⟨hP7, al7⟩ := prog_ren hP5 (by omega) hL hN a1 a2 a3 b1 b2 b3
      refine ⟨v5, pr, d0, d1, L, Ps5, M0, M1, rfl, hpd6, hP5, hpr, hd0, hd1, hL, hN, fun H7 v7 s7 hpd7 => ?_⟩
      refine ⟨v7, _, _, rfl, hpd7, hP7, hT6.same s7, fun H8 v8 g8 to8 => ?_⟩
      have t8 := t6.trans ((Tk.same s7).trans (Tk.go (hT6.same s7) g8))
      refine ⟨_, rfl, v8, due, d, rfl, to8.dp (hd.alk (al5.trans al7)), t8.dp d htd hdu5, hsd, fun H9 s9 => ⟨_, rfl, ?_⟩⟩
      refine iteF ?_
      exact ⟨⟨_, _, _, _, _, _, _, _, _, rfl⟩, ((wl_go (hW6.same s7) (hT6.same s7) g8).same s9).le (by omega), g8.1.same s9⟩
  · rintro σ H2 ⟨⟨b2, b3, b4, b5, b6, b7, b8, b9, b10, rfl⟩, hW2, hT2⟩
    rfl
end
end K09


set_option Elab.async false
set_option linter.all false
set_option maxRecDepth 100000
set_option maxHeartbeats 8000000
namespace K09
open PySem PySem.Spec PyProof.Rows L2
theorem exm_own {K : PySem.W.Frag} {C : Addr} (b : PySem.W.subIn K (.ref C) (.type "BaseException") = some true) (i : PySem.W.isClsIn K C = true) (t : PySem.W.typeIn K (.ref C) = some (.type "type")) (s : PySem.W.subIn K (.ref C) (.ref C) = some true) : PySem.W.exmOne K (.ref C) (.ref C) = some true := by
  have h : (PySem.W.clsIn K C).isSome = true := by
    cases e : PySem.W.clsIn K C with
    | some _ => rfl
    | none => simp [PySem.W.isClsIn, e] at i
  unfold PySem.W.exmOne
  rw [b, if_pos (by decide)]
  unfold PySem.W.kitCls
  simp only [h, t]
  rw [if_pos (by decide)]
  exact s
section
variable {P : Program} {w : World} {K : PySem.W.Frag} {mg : Str → Option Value} {base : Heap}
theorem fn_placesX {TG : Addr} {Ts : List Addr} {f : Addr} {fd : FuncData} (F : C8.Def K mg "places" (topS 35) f fd) (B : Bl K mg) (c_checked : C8.Cal P w K mg base 18 "checked" (spCheck K Ts) []) (c_laid_out : UG.CalX P w K mg base 86 "laid_out" (spLO K TG)) : FnOk P w K mg base (L2.CX P w) 87 f fd ["program"] (spPl K TG Ts) := by
  refine UG.fnX F.fn sc_places ?len ?body
  case len => rintro vs H Q E ⟨v, L, Ps, rfl, _⟩; rfl
  case body =>
    rintro cdv A outer s H vs Q E hr ⟨v, L, Ps, rfl, hd, hP, hTb, q, qe⟩
    refine ⟨_, (pss_cons (ps_expr (C8.pe_c c_checked hr (by decide) rfl (pa_cons (pv 0) pa_nil)))
    (pss_one (ps_ret (UG.pe_cX c_laid_out UG.pass_def hr (by decide) rfl (pa_cons (pv 0) pa_nil))))), ?_⟩
    refine ⟨_, rfl, v, L, Ps, rfl, hd.dp, hP, hTb, fun H1 g1 => ?_⟩
    exact ⟨_, rfl, v, L, Ps, rfl, hd.tk (Tk.go hTb g1), hP, fun hF H2 v2 s2 h2 => q hF H2 v2 (g1.trans (Go.of_same g1.1 s2)) h2, fun hF H2 s2 => qe hF H2 (g1.trans (Go.of_same g1.1 s2))⟩
theorem wr_all {f : Addr} {fd : FuncData} (F : C8.Def K mg "_law_wrapped" (topS 53) f fd) (b : Binds K fd ["well", "body", "deep"] []) (B : Bl K mg) (c_draw : C8.Cal P w K mg base 1 "_law_draw" spDraw []) : ∀ n : Nat, C8.Cal P w K mg base (n + 1) "_law_wrapped" (spWr K n) []
  | 0 => by
    refine C8.cal0 F b .nil sc__law_wrapped ?len ?body
    case len => rintro vs H Q E ⟨_, _, _, _, _, _, _, _, _, rfl, _⟩; rfl
    case body => rintro cdv A outer s H vs Q E hr ⟨_, _, _, _, _, _, _, _, _, _, _, h, _⟩; exact absurd h (Nat.not_lt_zero _)
  | n + 1 => ok_wr F b B c_draw (wr_all F b B c_draw n) (by omega)
end
end K09


set_option Elab.async false
set_option linter.all false
set_option maxRecDepth 100000
set_option maxHeartbeats 8000000
namespace K09
open PySem PySem.Spec PyProof.Rows L2
theorem walk {l : PySem.W.OpenLaw} {n : Nat} {q : Program} {loose : List Str} {XP : (Str → Option Value) → Heap → Prop} {YP : World → Heap → Prop} {d : DefRec} {K : Params → PySem.W.Frag} {x : Str}
    (hn : l.most = some n) (hn2 : n ≤ 1000) (hdf : d.params.defaults = []) (hY : ∀ (w : World) (h : Heap), YP w h → (K w.params).In h)
    (F : ∀ (w : World) (lo : List Str) (mean : ExcName → Option Value) (mg mb : Str → Option Value) (fa : Addr) (h : Heap), Top q lo mean mg mb h → (K w.params).In h → mg d.name = some (.ref fa) →
      ∃ cs : List (Addr × Addr), (∀ p ∈ cs, h.get? p.2 = some { cls := .none, data := .fields #[] }) ∧ (∀ p ∈ cs, (K w.params).lookup p.2 = none) ∧ (∀ p ∈ cs, PySem.W.CodeHd h p.1 p.2) ∧
        ∀ (base : Heap) (s : Shared) (H : Hp) (a : Addr) (ns : List Int), (∀ p ∈ cs, LamX.TabB base mg p.1 p.2) → Env0 l.prog w (K w.params) mg base callerA [] s H → (∀ p ∈ cs, H p.2 = some (.tbl #[])) → SqL (K w.params) H a (ns.map V.int) → ns.length ≤ 1000 →
          codeAny (model l.prog w) callerA (.call (.ref fa) ⟨[.ref a], []⟩) (CR C8.CX0 [] l.prog w H s (fun v _ => v = .bl true) C8.E0) s) :
    PySem.W.WalkO q loose XP YP l.row.toRowW d [] (fun f vs => PySem.call f vs) := by
  refine Att.attach_callB hn hdf fun w s₀ s₁ mg mb fa o pm cd doc a vs ns G Y ho hd hcd hmg hobj hints hlen hbits hg => ?_
  have KX := hY w _ Y
  obtain ⟨cs, hT, nT, C, run⟩ := F w _ _ mg mb fa _ G.T KX hmg
  obtain ⟨H, X⟩ := few_is (P := l.prog) (w := w) KX hT nT hobj hints (Nat.le_trans (Nat.le_trans hlen hn2) (by decide))
  obtain ⟨_, _, tb, e0⟩ := env_few X KX G.T.g G.T.b G.T.builtins G.T.nolimit hg hobj hT C G.T.bmain
  exact codeAny_mono (run _ s₁ H a ns tb e0 X.tb X.sq (by omega)) fun r s' h => end_few X hT C h
theorem in_kit {K : PySem.W.Frag} {c T fa : Addr} {x : Str} {oc kV dc pm ct oct : Value} {od an odt : Option Addr} {sl slt : Array (Option Value)} {vst : Array Value} {st : Stmt} (a : PySem.W.nsIn K mainGlobals x = some (some (.ref fa)))
    (l : K.lookup fa = some ⟨oc, od, .func (PySem.W.fnOf x x (C8.fnArgs st) (C8.fnBody st) (C8.fnScope st) .none kV dc pm an (.ref c) ct), sl⟩) (t1 : K.lookup c = some ⟨oct, odt, .fields vst, slt⟩) (t2 : vst[11]? = some (.ref T)) : PySem.W.tabIn K x = some (c, T) := by
  unfold PySem.W.tabIn
  rw [a]
  simp only [l]
  show (match K.lookup c with | some ⟨_, _, .fields vs, _⟩ => (match (vs[11]? : Option Value) with | some (.ref P) => some (c, P) | _ => none) | _ => none) = some (c, T)
  rw [t1]
  simp only [t2]
theorem all_mk {l : PySem.W.OpenLaw} {w : World} {K : PySem.W.Frag} {h : Heap} {mg mb : Str → Option Value} {fa : Addr} {q : Program} {lo : List Str} {mean : ExcName → Option Value} (TT : Top q lo mean mg mb h) (X : K.In h) (hfa : mg "law" = some (.ref fa))
    {f6 : Addr} {oc6 kV6 dc6 pm6 ct6 : Value} {cd6 : Value} {od6 an6 : Option Addr} {sl6 : Array (Option Value)}
    {f12 : Addr} {oc12 kV12 dc12 pm12 ct12 : Value} {c12 : Addr} {od12 an12 : Option Addr} {sl12 : Array (Option Value)}
    {f21 : Addr} {oc21 kV21 dc21 pm21 ct21 : Value} {c21 : Addr} {od21 an21 : Option Addr} {sl21 : Array (Option Value)}
    {f22 : Addr} {oc22 kV22 dc22 pm22 ct22 : Value} {cd22 : Value} {od22 an22 : Option Addr} {sl22 : Array (Option Value)}
    {f23 : Addr} {oc23 kV23 dc23 pm23 ct23 : Value} {cd23 : Value} {od23 an23 : Option Addr} {sl23 : Array (Option Value)}
    {f24 : Addr} {oc24 kV24 dc24 pm24 ct24 : Value} {cd24 : Value} {od24 an24 : Option Addr} {sl24 : Array (Option Value)}
    {f25 : Addr} {oc25 kV25 dc25 pm25 ct25 : Value} {cd25 : Value} {od25 an25 : Option Addr} {sl25 : Array (Option Value)}
    {f27 : Addr} {oc27 kV27 dc27 pm27 ct27 : Value} {cd27 : Value} {od27 an27 : Option Addr} {sl27 : Array (Option Value)}
    {f28 : Addr} {oc28 kV28 dc28 pm28 ct28 : Value} {cd28 : Value} {od28 an28 : Option Addr} {sl28 : Array (Option Value)}
    {f29 : Addr} {oc29 kV29 dc29 pm29 ct29 : Value} {cd29 : Value} {od29 an29 : Option Addr} {sl29 : Array (Option Value)}
    {f30 : Addr} {oc30 kV30 dc30 pm30 ct30 : Value} {cd30 : Value} {od30 an30 : Option Addr} {sl30 : Array (Option Value)}
    {f31 : Addr} {oc31 kV31 dc31 pm31 ct31 : Value} {cd31 : Value} {od31 an31 : Option Addr} {sl31 : Array (Option Value)}
    {f35 : Addr} {oc35 kV35 dc35 pm35 ct35 : Value} {cd35 : Value} {od35 an35 : Option Addr} {sl35 : Array (Option Value)}
    {f36 : Addr} {oc36 kV36 dc36 pm36 ct36 : Value} {cd36 : Value} {od36 an36 : Option Addr} {sl36 : Array (Option Value)}
    {f37 : Addr} {oc37 kV37 dc37 pm37 ct37 : Value} {cd37 : Value} {od37 an37 : Option Addr} {sl37 : Array (Option Value)}
    {f40 : Addr} {oc40 kV40 dc40 pm40 ct40 : Value} {cd40 : Value} {od40 an40 : Option Addr} {sl40 : Array (Option Value)}
    {f41 : Addr} {oc41 kV41 dc41 pm41 ct41 : Value} {cd41 : Value} {od41 an41 : Option Addr} {sl41 : Array (Option Value)}
    {f42 : Addr} {oc42 kV42 dc42 pm42 ct42 : Value} {cd42 : Value} {od42 an42 : Option Addr} {sl42 : Array (Option Value)}
    {f43 : Addr} {oc43 kV43 dc43 pm43 ct43 : Value} {cd43 : Value} {od43 an43 : Option Addr} {sl43 : Array (Option Value)}
    {f44 : Addr} {oc44 kV44 dc44 pm44 ct44 : Value} {cd44 : Value} {od44 an44 : Option Addr} {sl44 : Array (Option Value)}
    {f45 : Addr} {oc45 kV45 dc45 pm45 ct45 : Value} {cd45 : Value} {od45 an45 : Option Addr} {sl45 : Array (Option Value)}
    {f46 : Addr} {oc46 kV46 dc46 pm46 ct46 : Value} {cd46 : Value} {od46 an46 : Option Addr} {sl46 : Array (Option Value)}
    {f47 : Addr} {oc47 kV47 dc47 pm47 ct47 : Value} {cd47 : Value} {od47 an47 : Option Addr} {sl47 : Array (Option Value)}
    {f48 : Addr} {oc48 kV48 dc48 pm48 ct48 : Value} {cd48 : Value} {od48 an48 : Option Addr} {sl48 : Array (Option Value)}
    {f49 : Addr} {oc49 kV49 dc49 pm49 ct49 : Value} {cd49 : Value} {od49 an49 : Option Addr} {sl49 : Array (Option Value)}
    {f50 : Addr} {oc50 kV50 dc50 pm50 ct50 : Value} {cd50 : Value} {od50 an50 : Option Addr} {sl50 : Array (Option Value)}
    {f51 : Addr} {oc51 kV51 dc51 pm51 ct51 : Value} {cd51 : Value} {od51 an51 : Option Addr} {sl51 : Array (Option Value)}
    {f52 : Addr} {oc52 kV52 dc52 pm52 ct52 : Value} {cd52 : Value} {od52 an52 : Option Addr} {sl52 : Array (Option Value)}
    {f53 : Addr} {oc53 kV53 dc53 pm53 ct53 : Value} {cd53 : Value} {od53 an53 : Option Addr} {sl53 : Array (Option Value)}
    {f54 : Addr} {oc54 kV54 dc54 pm54 ct54 : Value} {cd54 : Value} {od54 an54 : Option Addr} {sl54 : Array (Option Value)}
    {f55 : Addr} {oc55 kV55 dc55 pm55 ct55 : Value} {cd55 : Value} {od55 an55 : Option Addr} {sl55 : Array (Option Value)}
    {fm0 : Addr} {ocm0 kVm0 dcm0 pmm0 ctm0 : Value} {cdm0 : Value} {odm0 anm0 : Option Addr} {slm0 : Array (Option Value)}
    {fm1 : Addr} {ocm1 kVm1 dcm1 pmm1 ctm1 : Value} {cdm1 : Value} {odm1 anm1 : Option Addr} {slm1 : Array (Option Value)}
    {fm2 : Addr} {ocm2 kVm2 dcm2 pmm2 ctm2 : Value} {cdm2 : Value} {odm2 anm2 : Option Addr} {slm2 : Array (Option Value)}
    {fm3 : Addr} {ocm3 kVm3 dcm3 pmm3 ctm3 : Value} {cdm3 : Value} {odm3 anm3 : Option Addr} {slm3 : Array (Option Value)}
    {fm4 : Addr} {ocm4 kVm4 dcm4 pmm4 ctm4 : Value} {cdm4 : Value} {odm4 anm4 : Option Addr} {slm4 : Array (Option Value)}
    {fm5 : Addr} {ocm5 kVm5 dcm5 pmm5 ctm5 : Value} {cdm5 : Value} {odm5 anm5 : Option Addr} {slm5 : Array (Option Value)}
    {fm6 : Addr} {ocm6 kVm6 dcm6 pmm6 ctm6 : Value} {cdm6 : Value} {odm6 anm6 : Option Addr} {slm6 : Array (Option Value)}
    {uMOST_SIGNS : Tok} {uMOST_LETTERS : Tok} {uMOST_PROCEDURES : Tok} {uLEAST_BODIES : Tok} {uMOST_BODIES : Tok} {uMOST_IN_BODY : Tok} {uMOST_STATEMENTS : Tok} {uLONGEST_CHAIN : Tok} {uMOST_PLACES : Tok} {uS uW : Tok} {kw en CL TG DE : Addr} {odkw oden : Option Addr} {itkw iten : Array Value} {nkw nen : Nat} {slkw slen : Array (Option Value)}
    {T12 : Addr} {oct12 : Value} {odt12 : Option Addr} {vst12 : Array Value} {slt12 : Array (Option Value)} {d12 : DefRec} {T21 : Addr} {oct21 : Value} {odt21 : Option Addr} {vst21 : Array Value} {slt21 : Array (Option Value)} {d21 : DefRec} 
    (a6 : PySem.W.nsIn K mainGlobals "is_row" = some (some (.ref f6))) (l6 : K.lookup f6 = some ⟨oc6, od6, .func (PySem.W.fnOf "is_row" "is_row" (C8.fnArgs (topS 6)) (C8.fnBody (topS 6)) (C8.fnScope (topS 6)) .none kV6 dc6 pm6 an6 cd6 ct6), sl6⟩) (c6h : PySem.W.codeIn K cd6 "is_row" = true) (k6 : PySem.W.keepIn K (.ref f6) = true)
    (a12 : PySem.W.nsIn K mainGlobals "is_name" = some (some (.ref f12))) (l12 : K.lookup f12 = some ⟨oc12, od12, .func (PySem.W.fnOf "is_name" "is_name" (C8.fnArgs (topS 12)) (C8.fnBody (topS 12)) (C8.fnScope (topS 12)) .none kV12 dc12 pm12 an12 (.ref c12) ct12), sl12⟩) (c12h : PySem.W.codeIn K (.ref c12) "is_name" = true) (k12 : PySem.W.keepIn K (.ref f12) = true)
    (a21 : PySem.W.nsIn K mainGlobals "is_program" = some (some (.ref f21))) (l21 : K.lookup f21 = some ⟨oc21, od21, .func (PySem.W.fnOf "is_program" "is_program" (C8.fnArgs (topS 21)) (C8.fnBody (topS 21)) (C8.fnScope (topS 21)) .none kV21 dc21 pm21 an21 (.ref c21) ct21), sl21⟩) (c21h : PySem.W.codeIn K (.ref c21) "is_program" = true) (k21 : PySem.W.keepIn K (.ref f21) = true)
    (a22 : PySem.W.nsIn K mainGlobals "_are_bodies" = some (some (.ref f22))) (l22 : K.lookup f22 = some ⟨oc22, od22, .func (PySem.W.fnOf "_are_bodies" "_are_bodies" (C8.fnArgs (topS 22)) (C8.fnBody (topS 22)) (C8.fnScope (topS 22)) .none kV22 dc22 pm22 an22 cd22 ct22), sl22⟩) (c22h : PySem.W.codeIn K cd22 "_are_bodies" = true) (k22 : PySem.W.keepIn K (.ref f22) = true)
    (a23 : PySem.W.nsIn K mainGlobals "_is_statement" = some (some (.ref f23))) (l23 : K.lookup f23 = some ⟨oc23, od23, .func (PySem.W.fnOf "_is_statement" "_is_statement" (C8.fnArgs (topS 23)) (C8.fnBody (topS 23)) (C8.fnScope (topS 23)) .none kV23 dc23 pm23 an23 cd23 ct23), sl23⟩) (c23h : PySem.W.codeIn K cd23 "_is_statement" = true) (k23 : PySem.W.keepIn K (.ref f23) = true)
    (a24 : PySem.W.nsIn K mainGlobals "bodies_of" = some (some (.ref f24))) (l24 : K.lookup f24 = some ⟨oc24, od24, .func (PySem.W.fnOf "bodies_of" "bodies_of" (C8.fnArgs (topS 24)) (C8.fnBody (topS 24)) (C8.fnScope (topS 24)) .none kV24 dc24 pm24 an24 cd24 ct24), sl24⟩) (c24h : PySem.W.codeIn K cd24 "bodies_of" = true) (k24 : PySem.W.keepIn K (.ref f24) = true)
    (a25 : PySem.W.nsIn K mainGlobals "want_program" = some (some (.ref f25))) (l25 : K.lookup f25 = some ⟨oc25, od25, .func (PySem.W.fnOf "want_program" "want_program" (C8.fnArgs (topS 25)) (C8.fnBody (topS 25)) (C8.fnScope (topS 25)) .none kV25 dc25 pm25 an25 cd25 ct25), sl25⟩) (c25h : PySem.W.codeIn K cd25 "want_program" = true) (k25 : PySem.W.keepIn K (.ref f25) = true)
    (a27 : PySem.W.nsIn K mainGlobals "check" = some (some (.ref f27))) (l27 : K.lookup f27 = some ⟨oc27, od27, .func (PySem.W.fnOf "check" "check" (C8.fnArgs (topS 27)) (C8.fnBody (topS 27)) (C8.fnScope (topS 27)) .none kV27 dc27 pm27 an27 cd27 ct27), sl27⟩) (c27h : PySem.W.codeIn K cd27 "check" = true) (k27 : PySem.W.keepIn K (.ref f27) = true)
    (a28 : PySem.W.nsIn K mainGlobals "_first_double" = some (some (.ref f28))) (l28 : K.lookup f28 = some ⟨oc28, od28, .func (PySem.W.fnOf "_first_double" "_first_double" (C8.fnArgs (topS 28)) (C8.fnBody (topS 28)) (C8.fnScope (topS 28)) .none kV28 dc28 pm28 an28 cd28 ct28), sl28⟩) (c28h : PySem.W.codeIn K cd28 "_first_double" = true) (k28 : PySem.W.keepIn K (.ref f28) = true)
    (a29 : PySem.W.nsIn K mainGlobals "_body_fault" = some (some (.ref f29))) (l29 : K.lookup f29 = some ⟨oc29, od29, .func (PySem.W.fnOf "_body_fault" "_body_fault" (C8.fnArgs (topS 29)) (C8.fnBody (topS 29)) (C8.fnScope (topS 29)) .none kV29 dc29 pm29 an29 cd29 ct29), sl29⟩) (c29h : PySem.W.codeIn K cd29 "_body_fault" = true) (k29 : PySem.W.keepIn K (.ref f29) = true)
    (a30 : PySem.W.nsIn K mainGlobals "_find_statements" = some (some (.ref f30))) (l30 : K.lookup f30 = some ⟨oc30, od30, .func (PySem.W.fnOf "_find_statements" "_find_statements" (C8.fnArgs (topS 30)) (C8.fnBody (topS 30)) (C8.fnScope (topS 30)) .none kV30 dc30 pm30 an30 cd30 ct30), sl30⟩) (c30h : PySem.W.codeIn K cd30 "_find_statements" = true) (k30 : PySem.W.keepIn K (.ref f30) = true)
    (a31 : PySem.W.nsIn K mainGlobals "checked" = some (some (.ref f31))) (l31 : K.lookup f31 = some ⟨oc31, od31, .func (PySem.W.fnOf "checked" "checked" (C8.fnArgs (topS 31)) (C8.fnBody (topS 31)) (C8.fnScope (topS 31)) .none kV31 dc31 pm31 an31 cd31 ct31), sl31⟩) (c31h : PySem.W.codeIn K cd31 "checked" = true) (k31 : PySem.W.keepIn K (.ref f31) = true)
    (a35 : PySem.W.nsIn K mainGlobals "places" = some (some (.ref f35))) (l35 : K.lookup f35 = some ⟨oc35, od35, .func (PySem.W.fnOf "places" "places" (C8.fnArgs (topS 35)) (C8.fnBody (topS 35)) (C8.fnScope (topS 35)) .none kV35 dc35 pm35 an35 cd35 ct35), sl35⟩) (c35h : PySem.W.codeIn K cd35 "places" = true) (k35 : PySem.W.keepIn K (.ref f35) = true)
    (a36 : PySem.W.nsIn K mainGlobals "laid_out" = some (some (.ref f36))) (l36 : K.lookup f36 = some ⟨oc36, od36, .func (PySem.W.fnOf "laid_out" "laid_out" (C8.fnArgs (topS 36)) (C8.fnBody (topS 36)) (C8.fnScope (topS 36)) .none kV36 dc36 pm36 an36 cd36 ct36), sl36⟩) (c36h : PySem.W.codeIn K cd36 "laid_out" = true) (k36 : PySem.W.keepIn K (.ref f36) = true)
    (a37 : PySem.W.nsIn K mainGlobals "layouts" = some (some (.ref f37))) (l37 : K.lookup f37 = some ⟨oc37, od37, .func (PySem.W.fnOf "layouts" "layouts" (C8.fnArgs (topS 37)) (C8.fnBody (topS 37)) (C8.fnScope (topS 37)) .none kV37 dc37 pm37 an37 cd37 ct37), sl37⟩) (c37h : PySem.W.codeIn K cd37 "layouts" = true) (k37 : PySem.W.keepIn K (.ref f37) = true)
    (a40 : PySem.W.nsIn K mainGlobals "_law_well" = some (some (.ref f40))) (l40 : K.lookup f40 = some ⟨oc40, od40, .func (PySem.W.fnOf "_law_well" "_law_well" (C8.fnArgs (topS 40)) (C8.fnBody (topS 40)) (C8.fnScope (topS 40)) .none kV40 dc40 pm40 an40 cd40 ct40), sl40⟩) (c40h : PySem.W.codeIn K cd40 "_law_well" = true) (k40 : PySem.W.keepIn K (.ref f40) = true)
    (a41 : PySem.W.nsIn K mainGlobals "_law_draw" = some (some (.ref f41))) (l41 : K.lookup f41 = some ⟨oc41, od41, .func (PySem.W.fnOf "_law_draw" "_law_draw" (C8.fnArgs (topS 41)) (C8.fnBody (topS 41)) (C8.fnScope (topS 41)) .none kV41 dc41 pm41 an41 cd41 ct41), sl41⟩) (c41h : PySem.W.codeIn K cd41 "_law_draw" = true) (k41 : PySem.W.keepIn K (.ref f41) = true)
    (a42 : PySem.W.nsIn K mainGlobals "_law_same" = some (some (.ref f42))) (l42 : K.lookup f42 = some ⟨oc42, od42, .func (PySem.W.fnOf "_law_same" "_law_same" (C8.fnArgs (topS 42)) (C8.fnBody (topS 42)) (C8.fnScope (topS 42)) .none kV42 dc42 pm42 an42 cd42 ct42), sl42⟩) (c42h : PySem.W.codeIn K cd42 "_law_same" = true) (k42 : PySem.W.keepIn K (.ref f42) = true)
    (a43 : PySem.W.nsIn K mainGlobals "_law_name" = some (some (.ref f43))) (l43 : K.lookup f43 = some ⟨oc43, od43, .func (PySem.W.fnOf "_law_name" "_law_name" (C8.fnArgs (topS 43)) (C8.fnBody (topS 43)) (C8.fnScope (topS 43)) .none kV43 dc43 pm43 an43 cd43 ct43), sl43⟩) (c43h : PySem.W.codeIn K cd43 "_law_name" = true) (k43 : PySem.W.keepIn K (.ref f43) = true)
    (a44 : PySem.W.nsIn K mainGlobals "_law_names" = some (some (.ref f44))) (l44 : K.lookup f44 = some ⟨oc44, od44, .func (PySem.W.fnOf "_law_names" "_law_names" (C8.fnArgs (topS 44)) (C8.fnBody (topS 44)) (C8.fnScope (topS 44)) .none kV44 dc44 pm44 an44 cd44 ct44), sl44⟩) (c44h : PySem.W.codeIn K cd44 "_law_names" = true) (k44 : PySem.W.keepIn K (.ref f44) = true)
    (a45 : PySem.W.nsIn K mainGlobals "_law_body" = some (some (.ref f45))) (l45 : K.lookup f45 = some ⟨oc45, od45, .func (PySem.W.fnOf "_law_body" "_law_body" (C8.fnArgs (topS 45)) (C8.fnBody (topS 45)) (C8.fnScope (topS 45)) .none kV45 dc45 pm45 an45 cd45 ct45), sl45⟩) (c45h : PySem.W.codeIn K cd45 "_law_body" = true) (k45 : PySem.W.keepIn K (.ref f45) = true)
    (a46 : PySem.W.nsIn K mainGlobals "_law_statement" = some (some (.ref f46))) (l46 : K.lookup f46 = some ⟨oc46, od46, .func (PySem.W.fnOf "_law_statement" "_law_statement" (C8.fnArgs (topS 46)) (C8.fnBody (topS 46)) (C8.fnScope (topS 46)) .none kV46 dc46 pm46 an46 cd46 ct46), sl46⟩) (c46h : PySem.W.codeIn K cd46 "_law_statement" = true) (k46 : PySem.W.keepIn K (.ref f46) = true)
    (a47 : PySem.W.nsIn K mainGlobals "_law_plan" = some (some (.ref f47))) (l47 : K.lookup f47 = some ⟨oc47, od47, .func (PySem.W.fnOf "_law_plan" "_law_plan" (C8.fnArgs (topS 47)) (C8.fnBody (topS 47)) (C8.fnScope (topS 47)) .none kV47 dc47 pm47 an47 cd47 ct47), sl47⟩) (c47h : PySem.W.codeIn K cd47 "_law_plan" = true) (k47 : PySem.W.keepIn K (.ref f47) = true)
    (a48 : PySem.W.nsIn K mainGlobals "_law_pairing" = some (some (.ref f48))) (l48 : K.lookup f48 = some ⟨oc48, od48, .func (PySem.W.fnOf "_law_pairing" "_law_pairing" (C8.fnArgs (topS 48)) (C8.fnBody (topS 48)) (C8.fnScope (topS 48)) .none kV48 dc48 pm48 an48 cd48 ct48), sl48⟩) (c48h : PySem.W.codeIn K cd48 "_law_pairing" = true) (k48 : PySem.W.keepIn K (.ref f48) = true)
    (a49 : PySem.W.nsIn K mainGlobals "_law_names_of" = some (some (.ref f49))) (l49 : K.lookup f49 = some ⟨oc49, od49, .func (PySem.W.fnOf "_law_names_of" "_law_names_of" (C8.fnArgs (topS 49)) (C8.fnBody (topS 49)) (C8.fnScope (topS 49)) .none kV49 dc49 pm49 an49 cd49 ct49), sl49⟩) (c49h : PySem.W.codeIn K cd49 "_law_names_of" = true) (k49 : PySem.W.keepIn K (.ref f49) = true)
    (a50 : PySem.W.nsIn K mainGlobals "_law_turned_body" = some (some (.ref f50))) (l50 : K.lookup f50 = some ⟨oc50, od50, .func (PySem.W.fnOf "_law_turned_body" "_law_turned_body" (C8.fnArgs (topS 50)) (C8.fnBody (topS 50)) (C8.fnScope (topS 50)) .none kV50 dc50 pm50 an50 cd50 ct50), sl50⟩) (c50h : PySem.W.codeIn K cd50 "_law_turned_body" = true) (k50 : PySem.W.keepIn K (.ref f50) = true)
    (a51 : PySem.W.nsIn K mainGlobals "_law_turned_plan" = some (some (.ref f51))) (l51 : K.lookup f51 = some ⟨oc51, od51, .func (PySem.W.fnOf "_law_turned_plan" "_law_turned_plan" (C8.fnArgs (topS 51)) (C8.fnBody (topS 51)) (C8.fnScope (topS 51)) .none kV51 dc51 pm51 an51 cd51 ct51), sl51⟩) (c51h : PySem.W.codeIn K cd51 "_law_turned_plan" = true) (k51 : PySem.W.keepIn K (.ref f51) = true)
    (a52 : PySem.W.nsIn K mainGlobals "_law_pairs" = some (some (.ref f52))) (l52 : K.lookup f52 = some ⟨oc52, od52, .func (PySem.W.fnOf "_law_pairs" "_law_pairs" (C8.fnArgs (topS 52)) (C8.fnBody (topS 52)) (C8.fnScope (topS 52)) .none kV52 dc52 pm52 an52 cd52 ct52), sl52⟩) (c52h : PySem.W.codeIn K cd52 "_law_pairs" = true) (k52 : PySem.W.keepIn K (.ref f52) = true)
    (a53 : PySem.W.nsIn K mainGlobals "_law_wrapped" = some (some (.ref f53))) (l53 : K.lookup f53 = some ⟨oc53, od53, .func (PySem.W.fnOf "_law_wrapped" "_law_wrapped" (C8.fnArgs (topS 53)) (C8.fnBody (topS 53)) (C8.fnScope (topS 53)) .none kV53 dc53 pm53 an53 cd53 ct53), sl53⟩) (c53h : PySem.W.codeIn K cd53 "_law_wrapped" = true) (k53 : PySem.W.keepIn K (.ref f53) = true)
    (a54 : PySem.W.nsIn K mainGlobals "_law_laid" = some (some (.ref f54))) (l54 : K.lookup f54 = some ⟨oc54, od54, .func (PySem.W.fnOf "_law_laid" "_law_laid" (C8.fnArgs (topS 54)) (C8.fnBody (topS 54)) (C8.fnScope (topS 54)) .none kV54 dc54 pm54 an54 cd54 ct54), sl54⟩) (c54h : PySem.W.codeIn K cd54 "_law_laid" = true) (k54 : PySem.W.keepIn K (.ref f54) = true)
    (a55 : PySem.W.nsIn K mainGlobals "law" = some (some (.ref f55))) (l55 : K.lookup f55 = some ⟨oc55, od55, .func (PySem.W.fnOf "law" "law" (C8.fnArgs (topS 55)) (C8.fnBody (topS 55)) (C8.fnScope (topS 55)) .none kV55 dc55 pm55 an55 cd55 ct55), sl55⟩) (c55h : PySem.W.codeIn K cd55 "law" = true) (k55 : PySem.W.keepIn K (.ref f55) = true)
    (am0 : PySem.W.findIn K (.ref CL) "__init__" = some (some (.ref fm0))) (im0 : PySem.W.isFn K (.ref fm0) = true) (lm0 : K.lookup fm0 = some ⟨ocm0, odm0, .func (PySem.W.fnOf "__init__" "Layout.__init__" (C8.fnArgs (inClass (topS 38) 0)) (C8.fnBody (inClass (topS 38) 0)) (C8.fnScope (inClass (topS 38) 0)) .none kVm0 dcm0 pmm0 anm0 cdm0 ctm0), slm0⟩) (cm0h : PySem.W.codeIn K cdm0 "Layout.__init__" = true) (km0 : PySem.W.keepIn K (.ref fm0) = true)
    (am1 : PySem.W.findIn K (.ref CL) "make" = some (some (.ref fm1))) (im1 : PySem.W.isFn K (.ref fm1) = true) (lm1 : K.lookup fm1 = some ⟨ocm1, odm1, .func (PySem.W.fnOf "make" "Layout.make" (C8.fnArgs (inClass (topS 38) 1)) (C8.fnBody (inClass (topS 38) 1)) (C8.fnScope (inClass (topS 38) 1)) .none kVm1 dcm1 pmm1 anm1 cdm1 ctm1), slm1⟩) (cm1h : PySem.W.codeIn K cdm1 "Layout.make" = true) (km1 : PySem.W.keepIn K (.ref fm1) = true)
    (am2 : PySem.W.findIn K (.ref CL) "make_fork" = some (some (.ref fm2))) (im2 : PySem.W.isFn K (.ref fm2) = true) (lm2 : K.lookup fm2 = some ⟨ocm2, odm2, .func (PySem.W.fnOf "make_fork" "Layout.make_fork" (C8.fnArgs (inClass (topS 38) 2)) (C8.fnBody (inClass (topS 38) 2)) (C8.fnScope (inClass (topS 38) 2)) .none kVm2 dcm2 pmm2 anm2 cdm2 ctm2), slm2⟩) (cm2h : PySem.W.codeIn K cdm2 "Layout.make_fork" = true) (km2 : PySem.W.keepIn K (.ref fm2) = true)
    (am3 : PySem.W.findIn K (.ref CL) "lay" = some (some (.ref fm3))) (im3 : PySem.W.isFn K (.ref fm3) = true) (lm3 : K.lookup fm3 = some ⟨ocm3, odm3, .func (PySem.W.fnOf "lay" "Layout.lay" (C8.fnArgs (inClass (topS 38) 3)) (C8.fnBody (inClass (topS 38) 3)) (C8.fnScope (inClass (topS 38) 3)) .none kVm3 dcm3 pmm3 anm3 cdm3 ctm3), slm3⟩) (cm3h : PySem.W.codeIn K cdm3 "Layout.lay" = true) (km3 : PySem.W.keepIn K (.ref fm3) = true)
    (am4 : PySem.W.findIn K (.ref CL) "statement" = some (some (.ref fm4))) (im4 : PySem.W.isFn K (.ref fm4) = true) (lm4 : K.lookup fm4 = some ⟨ocm4, odm4, .func (PySem.W.fnOf "statement" "Layout.statement" (C8.fnArgs (inClass (topS 38) 4)) (C8.fnBody (inClass (topS 38) 4)) (C8.fnScope (inClass (topS 38) 4)) .none kVm4 dcm4 pmm4 anm4 cdm4 ctm4), slm4⟩) (cm4h : PySem.W.codeIn K cdm4 "Layout.statement" = true) (km4 : PySem.W.keepIn K (.ref fm4) = true)
    (am5 : PySem.W.findIn K (.ref CL) "loop" = some (some (.ref fm5))) (im5 : PySem.W.isFn K (.ref fm5) = true) (lm5 : K.lookup fm5 = some ⟨ocm5, odm5, .func (PySem.W.fnOf "loop" "Layout.loop" (C8.fnArgs (inClass (topS 38) 5)) (C8.fnBody (inClass (topS 38) 5)) (C8.fnScope (inClass (topS 38) 5)) .none kVm5 dcm5 pmm5 anm5 cdm5 ctm5), slm5⟩) (cm5h : PySem.W.codeIn K cdm5 "Layout.loop" = true) (km5 : PySem.W.keepIn K (.ref fm5) = true)
    (am6 : PySem.W.findIn K (.ref CL) "leave" = some (some (.ref fm6))) (im6 : PySem.W.isFn K (.ref fm6) = true) (lm6 : K.lookup fm6 = some ⟨ocm6, odm6, .func (PySem.W.fnOf "leave" "Layout.leave" (C8.fnArgs (inClass (topS 38) 6)) (C8.fnBody (inClass (topS 38) 6)) (C8.fnScope (inClass (topS 38) 6)) .none kVm6 dcm6 pmm6 anm6 cdm6 ctm6), slm6⟩) (cm6h : PySem.W.codeIn K cdm6 "Layout.leave" = true) (km6 : PySem.W.keepIn K (.ref fm6) = true)
    (zisinstance : PySem.W.nsIn K mainGlobals "isinstance" = some none) (zint : PySem.W.nsIn K mainGlobals "int" = some none) (zbool : PySem.W.nsIn K mainGlobals "bool" = some none) (zstr : PySem.W.nsIn K mainGlobals "str" = some none) (ztuple : PySem.W.nsIn K mainGlobals "tuple" = some none) (zlen : PySem.W.nsIn K mainGlobals "len" = some none) (zabs : PySem.W.nsIn K mainGlobals "abs" = some none) (zall : PySem.W.nsIn K mainGlobals "all" = some none) (zrange : PySem.W.nsIn K mainGlobals "range" = some none) (zenumerate : PySem.W.nsIn K mainGlobals "enumerate" = some none) (zreversed : PySem.W.nsIn K mainGlobals "reversed" = some none) (zrepr : PySem.W.nsIn K mainGlobals "repr" = some none) (zlist : PySem.W.nsIn K mainGlobals "list" = some none) 
    (mMOST_SIGNS : PySem.W.nsIn K mainGlobals "MOST_SIGNS" = some (some (.int 10 uMOST_SIGNS))) (mMOST_LETTERS : PySem.W.nsIn K mainGlobals "MOST_LETTERS" = some (some (.int 20 uMOST_LETTERS))) (mMOST_PROCEDURES : PySem.W.nsIn K mainGlobals "MOST_PROCEDURES" = some (some (.int 8 uMOST_PROCEDURES))) (mLEAST_BODIES : PySem.W.nsIn K mainGlobals "LEAST_BODIES" = some (some (.int 2 uLEAST_BODIES))) (mMOST_BODIES : PySem.W.nsIn K mainGlobals "MOST_BODIES" = some (some (.int 6 uMOST_BODIES))) (mMOST_IN_BODY : PySem.W.nsIn K mainGlobals "MOST_IN_BODY" = some (some (.int 60 uMOST_IN_BODY))) (mMOST_STATEMENTS : PySem.W.nsIn K mainGlobals "MOST_STATEMENTS" = some (some (.int 200 uMOST_STATEMENTS))) (mLONGEST_CHAIN : PySem.W.nsIn K mainGlobals "LONGEST_CHAIN" = some (some (.int 12 uLONGEST_CHAIN))) (mMOST_PLACES : PySem.W.nsIn K mainGlobals "MOST_PLACES" = some (some (.int 300 uMOST_PLACES))) 
    (mS : PySem.W.nsIn K mainGlobals "SMALL_LETTERS" = some (some (.str smallL uS))) (mW : PySem.W.nsIn K mainGlobals "WORD_SIGNS" = some (some (.str wordS uW)))
    (mK : PySem.W.nsIn K mainGlobals "KEPT_WORDS" = some (some (.ref kw))) (mE : PySem.W.nsIn K mainGlobals "END" = some (some (.ref en))) (mL : PySem.W.nsIn K mainGlobals "Layout" = some (some (.ref CL)))
    (lK : K.lookup kw = some ⟨.type "tuple", odkw, .seq itkw nkw, slkw⟩) (lE : K.lookup en = some ⟨.type "tuple", oden, .seq iten nen, slen⟩)
    (pgC : PySem.W.plainGet K CL Str.empty = true) (hdC : PySem.W.hasDictIn K CL = true) (poC : PySem.W.plainOver K CL = true) (saC : PySem.W.findIn K (.ref CL) "__setattr__" = some (some (.builtin "object.__setattr__"))) (mkC : PySem.W.makesIn K CL = true) (kcC : PySem.W.keepIn K (.ref CL) = true)
    (n1 : PySem.W.findIn K (.ref CL) "letters" = some none) (n2 : PySem.W.findIn K (.ref CL) "names" = some none) (n3 : PySem.W.findIn K (.ref CL) "places" = some none) (n4 : PySem.W.findIn K (.ref CL) "forks" = some none) (n5 : PySem.W.findIn K (.ref CL) "begin" = some none)
    (gT : PySem.W.nsIn K mainGlobals "TooGreat" = some (some (.ref TG))) (gD : PySem.W.nsIn K mainGlobals "DeedError" = some (some (.ref DE))) (xT : PySem.W.excIn K TG [.type "ValueError", .type "Exception", .type "BaseException", .type "object"] "ValueError.__new__" = true) (kT : PySem.W.keepIn K (.ref TG) = true) (bT : PySem.W.subIn K (.ref TG) (.type "BaseException") = some true) (tT : PySem.W.typeIn K (.ref TG) = some (.type "type")) (iT : PySem.W.isClsIn K TG = true) (sT : PySem.W.subIn K (.ref TG) (.ref TG) = some true)
    (vK : Vals (keptW.map V.str) itkw.toList) (vE : Vals [V.str "end"] iten.toList) (wK : itkw.size ≤ sizeLine) (wE : iten.size ≤ sizeLine)
    (t112 : K.lookup c12 = some ⟨oct12, odt12, .fields vst12, slt12⟩) (t212 : vst12[11]? = some (.ref T12)) (t312 : K.lookup T12 = none) (t412 : (recsOf q).find? (fun e => e.name == ("is_name" : Str)) = some d12)
    (t121 : K.lookup c21 = some ⟨oct21, odt21, .fields vst21, slt21⟩) (t221 : vst21[11]? = some (.ref T21)) (t321 : K.lookup T21 = none) (t421 : (recsOf q).find? (fun e => e.name == ("is_program" : Str)) = some d21)
     : ∃ cs : List (Addr × Addr), (∀ p ∈ cs, h.get? p.2 = some { cls := .none, data := .fields #[] }) ∧ (∀ p ∈ cs, K.lookup p.2 = none) ∧ (∀ p ∈ cs, PySem.W.CodeHd h p.1 p.2) ∧
        ∀ (base : Heap) (s : Shared) (H : Hp) (a : Addr) (ns : List Int), (∀ p ∈ cs, LamX.TabB base mg p.1 p.2) → Env0 l.prog w K mg base callerA [] s H → (∀ p ∈ cs, H p.2 = some (.tbl #[])) → SqL K H a (ns.map V.int) → ns.length ≤ 1000 →
          codeAny (model l.prog w) callerA (.call (.ref fa) ⟨[.ref a], []⟩) (CR C8.CX0 [] l.prog w H s (fun v _ => v = .bl true) C8.E0) s := by
  have G := TT.g
  have e := hfa.symm.trans (PySem.W.mg_of X G a55)
  cases e
  have F6 : C8.Def K mg "is_row" (topS 6) _ _ := ⟨⟨_, _, _, _, _, _, _, _, _, _, rfl, l6, c6h⟩, PySem.W.mg_of X G a6, k6⟩
  have b6 := C8.Fun.binds F6.fn rfl (ps := ["thing", "low", "high"]) fun _ _ _ _ _ _ us hl => match us, hl with | [_, _, _], _ => rfl
  have F12 : C8.Def K mg "is_name" (topS 12) _ _ := ⟨⟨_, _, _, _, _, _, _, _, _, _, rfl, l12, c12h⟩, PySem.W.mg_of X G a12, k12⟩
  have b12 := C8.Fun.binds F12.fn rfl (ps := ["thing"]) fun _ _ _ _ _ _ us hl => match us, hl with | [_], _ => rfl
  have F21 : C8.Def K mg "is_program" (topS 21) _ _ := ⟨⟨_, _, _, _, _, _, _, _, _, _, rfl, l21, c21h⟩, PySem.W.mg_of X G a21, k21⟩
  have b21 := C8.Fun.binds F21.fn rfl (ps := ["thing"]) fun _ _ _ _ _ _ us hl => match us, hl with | [_], _ => rfl
  have F22 : C8.Def K mg "_are_bodies" (topS 22) _ _ := ⟨⟨_, _, _, _, _, _, _, _, _, _, rfl, l22, c22h⟩, PySem.W.mg_of X G a22, k22⟩
  have b22 := C8.Fun.binds F22.fn rfl (ps := ["bodies"]) fun _ _ _ _ _ _ us hl => match us, hl with | [_], _ => rfl
  have F23 : C8.Def K mg "_is_statement" (topS 23) _ _ := ⟨⟨_, _, _, _, _, _, _, _, _, _, rfl, l23, c23h⟩, PySem.W.mg_of X G a23, k23⟩
  have b23 := C8.Fun.binds F23.fn rfl (ps := ["thing"]) fun _ _ _ _ _ _ us hl => match us, hl with | [_], _ => rfl
  have F24 : C8.Def K mg "bodies_of" (topS 24) _ _ := ⟨⟨_, _, _, _, _, _, _, _, _, _, rfl, l24, c24h⟩, PySem.W.mg_of X G a24, k24⟩
  have b24 := C8.Fun.binds F24.fn rfl (ps := ["statement"]) fun _ _ _ _ _ _ us hl => match us, hl with | [_], _ => rfl
  have F25 : C8.Def K mg "want_program" (topS 25) _ _ := ⟨⟨_, _, _, _, _, _, _, _, _, _, rfl, l25, c25h⟩, PySem.W.mg_of X G a25, k25⟩
  have b25 := C8.Fun.binds F25.fn rfl (ps := ["program"]) fun _ _ _ _ _ _ us hl => match us, hl with | [_], _ => rfl
  have F27 : C8.Def K mg "check" (topS 27) _ _ := ⟨⟨_, _, _, _, _, _, _, _, _, _, rfl, l27, c27h⟩, PySem.W.mg_of X G a27, k27⟩
  have b27 := C8.Fun.binds F27.fn rfl (ps := ["program"]) fun _ _ _ _ _ _ us hl => match us, hl with | [_], _ => rfl
  have F28 : C8.Def K mg "_first_double" (topS 28) _ _ := ⟨⟨_, _, _, _, _, _, _, _, _, _, rfl, l28, c28h⟩, PySem.W.mg_of X G a28, k28⟩
  have b28 := C8.Fun.binds F28.fn rfl (ps := ["names"]) fun _ _ _ _ _ _ us hl => match us, hl with | [_], _ => rfl
  have F29 : C8.Def K mg "_body_fault" (topS 29) _ _ := ⟨⟨_, _, _, _, _, _, _, _, _, _, rfl, l29, c29h⟩, PySem.W.mg_of X G a29, k29⟩
  have b29 := C8.Fun.binds F29.fn rfl (ps := ["body", "letters", "names"]) fun _ _ _ _ _ _ us hl => match us, hl with | [_, _, _], _ => rfl
  have F30 : C8.Def K mg "_find_statements" (topS 30) _ _ := ⟨⟨_, _, _, _, _, _, _, _, _, _, rfl, l30, c30h⟩, PySem.W.mg_of X G a30, k30⟩
  have b30 := C8.Fun.binds F30.fn rfl (ps := ["body", "is_second", "found"]) fun _ _ _ _ _ _ us hl => match us, hl with | [_, _, _], _ => rfl
  have F31 : C8.Def K mg "checked" (topS 31) _ _ := ⟨⟨_, _, _, _, _, _, _, _, _, _, rfl, l31, c31h⟩, PySem.W.mg_of X G a31, k31⟩
  have b31 := C8.Fun.binds F31.fn rfl (ps := ["program"]) fun _ _ _ _ _ _ us hl => match us, hl with | [_], _ => rfl
  have F35 : C8.Def K mg "places" (topS 35) _ _ := ⟨⟨_, _, _, _, _, _, _, _, _, _, rfl, l35, c35h⟩, PySem.W.mg_of X G a35, k35⟩
  have b35 := C8.Fun.binds F35.fn rfl (ps := ["program"]) fun _ _ _ _ _ _ us hl => match us, hl with | [_], _ => rfl
  have F36 : C8.Def K mg "laid_out" (topS 36) _ _ := ⟨⟨_, _, _, _, _, _, _, _, _, _, rfl, l36, c36h⟩, PySem.W.mg_of X G a36, k36⟩
  have b36 := C8.Fun.binds F36.fn rfl (ps := ["program"]) fun _ _ _ _ _ _ us hl => match us, hl with | [_], _ => rfl
  have F37 : C8.Def K mg "layouts" (topS 37) _ _ := ⟨⟨_, _, _, _, _, _, _, _, _, _, rfl, l37, c37h⟩, PySem.W.mg_of X G a37, k37⟩
  have b37 := C8.Fun.binds F37.fn rfl (ps := ["program"]) fun _ _ _ _ _ _ us hl => match us, hl with | [_], _ => rfl
  have F40 : C8.Def K mg "_law_well" (topS 40) _ _ := ⟨⟨_, _, _, _, _, _, _, _, _, _, rfl, l40, c40h⟩, PySem.W.mg_of X G a40, k40⟩
  have b40 := C8.Fun.binds F40.fn rfl (ps := ["script"]) fun _ _ _ _ _ _ us hl => match us, hl with | [_], _ => rfl
  have F41 : C8.Def K mg "_law_draw" (topS 41) _ _ := ⟨⟨_, _, _, _, _, _, _, _, _, _, rfl, l41, c41h⟩, PySem.W.mg_of X G a41, k41⟩
  have b41 := C8.Fun.binds F41.fn rfl (ps := ["well", "many"]) fun _ _ _ _ _ _ us hl => match us, hl with | [_, _], _ => rfl
  have F42 : C8.Def K mg "_law_same" (topS 42) _ _ := ⟨⟨_, _, _, _, _, _, _, _, _, _, rfl, l42, c42h⟩, PySem.W.mg_of X G a42, k42⟩
  have b42 := C8.Fun.binds F42.fn rfl (ps := ["found", "due"]) fun _ _ _ _ _ _ us hl => match us, hl with | [_, _], _ => rfl
  have F43 : C8.Def K mg "_law_name" (topS 43) _ _ := ⟨⟨_, _, _, _, _, _, _, _, _, _, rfl, l43, c43h⟩, PySem.W.mg_of X G a43, k43⟩
  have b43 := C8.Fun.binds F43.fn rfl (ps := ["well", "taken"]) fun _ _ _ _ _ _ us hl => match us, hl with | [_, _], _ => rfl
  have F44 : C8.Def K mg "_law_names" (topS 44) _ _ := ⟨⟨_, _, _, _, _, _, _, _, _, _, rfl, l44, c44h⟩, PySem.W.mg_of X G a44, k44⟩
  have b44 := C8.Fun.binds F44.fn rfl (ps := ["well", "many"]) fun _ _ _ _ _ _ us hl => match us, hl with | [_, _], _ => rfl
  have F45 : C8.Def K mg "_law_body" (topS 45) _ _ := ⟨⟨_, _, _, _, _, _, _, _, _, _, rfl, l45, c45h⟩, PySem.W.mg_of X G a45, k45⟩
  have b45 := C8.Fun.binds F45.fn rfl (ps := ["well", "deep", "heads", "is_second", "room"]) fun _ _ _ _ _ _ us hl => match us, hl with | [_, _, _, _, _], _ => rfl
  have F46 : C8.Def K mg "_law_statement" (topS 46) _ _ := ⟨⟨_, _, _, _, _, _, _, _, _, _, rfl, l46, c46h⟩, PySem.W.mg_of X G a46, k46⟩
  have b46 := C8.Fun.binds F46.fn rfl (ps := ["well", "deep", "heads", "is_second", "room"]) fun _ _ _ _ _ _ us hl => match us, hl with | [_, _, _, _, _], _ => rfl
  have F47 : C8.Def K mg "_law_plan" (topS 47) _ _ := ⟨⟨_, _, _, _, _, _, _, _, _, _, rfl, l47, c47h⟩, PySem.W.mg_of X G a47, k47⟩
  have b47 := C8.Fun.binds F47.fn rfl (ps := ["well", "size"]) fun _ _ _ _ _ _ us hl => match us, hl with | [_, _], _ => rfl
  have F48 : C8.Def K mg "_law_pairing" (topS 48) _ _ := ⟨⟨_, _, _, _, _, _, _, _, _, _, rfl, l48, c48h⟩, PySem.W.mg_of X G a48, k48⟩
  have b48 := C8.Fun.binds F48.fn rfl (ps := ["well", "names"]) fun _ _ _ _ _ _ us hl => match us, hl with | [_, _], _ => rfl
  have F49 : C8.Def K mg "_law_names_of" (topS 49) _ _ := ⟨⟨_, _, _, _, _, _, _, _, _, _, rfl, l49, c49h⟩, PySem.W.mg_of X G a49, k49⟩
  have b49 := C8.Fun.binds F49.fn rfl (ps := ["body"]) fun _ _ _ _ _ _ us hl => match us, hl with | [_], _ => rfl
  have F50 : C8.Def K mg "_law_turned_body" (topS 50) _ _ := ⟨⟨_, _, _, _, _, _, _, _, _, _, rfl, l50, c50h⟩, PySem.W.mg_of X G a50, k50⟩
  have b50 := C8.Fun.binds F50.fn rfl (ps := ["body", "pairs"]) fun _ _ _ _ _ _ us hl => match us, hl with | [_, _], _ => rfl
  have F51 : C8.Def K mg "_law_turned_plan" (topS 51) _ _ := ⟨⟨_, _, _, _, _, _, _, _, _, _, rfl, l51, c51h⟩, PySem.W.mg_of X G a51, k51⟩
  have b51 := C8.Fun.binds F51.fn rfl (ps := ["plan", "pairs"]) fun _ _ _ _ _ _ us hl => match us, hl with | [_, _], _ => rfl
  have F52 : C8.Def K mg "_law_pairs" (topS 52) _ _ := ⟨⟨_, _, _, _, _, _, _, _, _, _, rfl, l52, c52h⟩, PySem.W.mg_of X G a52, k52⟩
  have b52 := C8.Fun.binds F52.fn rfl (ps := ["well", "plan"]) fun _ _ _ _ _ _ us hl => match us, hl with | [_, _], _ => rfl
  have F53 : C8.Def K mg "_law_wrapped" (topS 53) _ _ := ⟨⟨_, _, _, _, _, _, _, _, _, _, rfl, l53, c53h⟩, PySem.W.mg_of X G a53, k53⟩
  have b53 := C8.Fun.binds F53.fn rfl (ps := ["well", "body", "deep"]) fun _ _ _ _ _ _ us hl => match us, hl with | [_, _, _], _ => rfl
  have F54 : C8.Def K mg "_law_laid" (topS 54) _ _ := ⟨⟨_, _, _, _, _, _, _, _, _, _, rfl, l54, c54h⟩, PySem.W.mg_of X G a54, k54⟩
  have b54 := C8.Fun.binds F54.fn rfl (ps := ["plan"]) fun _ _ _ _ _ _ us hl => match us, hl with | [_], _ => rfl
  have F55 : C8.Def K mg "law" (topS 55) _ _ := ⟨⟨_, _, _, _, _, _, _, _, _, _, rfl, l55, c55h⟩, PySem.W.mg_of X G a55, k55⟩
  have b55 := C8.Fun.binds F55.fn rfl (ps := ["script"]) fun _ _ _ _ _ _ us hl => match us, hl with | [_], _ => rfl
  have Fm0 : C8.Fun K "__init__" "Layout.__init__" (inClass (topS 38) 0) _ _ := ⟨_, _, _, _, _, _, _, _, _, _, rfl, lm0, cm0h⟩
  have bm0 := C8.Fun.binds Fm0 rfl (ps := ["self", "letters", "names", "body"]) fun _ _ _ _ _ _ us hl => match us, hl with | [_, _, _, _], _ => rfl
  have Fm1 : C8.Fun K "make" "Layout.make" (inClass (topS 38) 1) _ _ := ⟨_, _, _, _, _, _, _, _, _, _, rfl, lm1, cm1h⟩
  have bm1 := C8.Fun.binds Fm1 rfl (ps := ["self", "place"]) fun _ _ _ _ _ _ us hl => match us, hl with | [_, _], _ => rfl
  have Fm2 : C8.Fun K "make_fork" "Layout.make_fork" (inClass (topS 38) 2) _ _ := ⟨_, _, _, _, _, _, _, _, _, _, rfl, lm2, cm2h⟩
  have bm2 := C8.Fun.binds Fm2 rfl (ps := ["self", "nexts", "path"]) fun _ _ _ _ _ _ us hl => match us, hl with | [_, _, _], _ => rfl
  have Fm3 : C8.Fun K "lay" "Layout.lay" (inClass (topS 38) 3) _ _ := ⟨_, _, _, _, _, _, _, _, _, _, rfl, lm3, cm3h⟩
  have bm3 := C8.Fun.binds Fm3 rfl (ps := ["self", "body", "told", "seconds", "path"]) fun _ _ _ _ _ _ us hl => match us, hl with | [_, _, _, _, _], _ => rfl
  have Fm4 : C8.Fun K "statement" "Layout.statement" (inClass (topS 38) 4) _ _ := ⟨_, _, _, _, _, _, _, _, _, _, rfl, lm4, cm4h⟩
  have bm4 := C8.Fun.binds Fm4 rfl (ps := ["self", "statement", "told", "seconds", "path"]) fun _ _ _ _ _ _ us hl => match us, hl with | [_, _, _, _, _], _ => rfl
  have Fm5 : C8.Fun K "loop" "Layout.loop" (inClass (topS 38) 5) _ _ := ⟨_, _, _, _, _, _, _, _, _, _, rfl, lm5, cm5h⟩
  have bm5 := C8.Fun.binds Fm5 rfl (ps := ["self", "inner", "told", "seconds", "path"]) fun _ _ _ _ _ _ us hl => match us, hl with | [_, _, _, _, _], _ => rfl
  have Fm6 : C8.Fun K "leave" "Layout.leave" (inClass (topS 38) 6) _ _ := ⟨_, _, _, _, _, _, _, _, _, _, rfl, lm6, cm6h⟩
  have bm6 := C8.Fun.binds Fm6 rfl (ps := ["self", "seconds"]) fun _ _ _ _ _ _ us hl => match us, hl with | [_, _], _ => rfl
  have B : Bl K mg := ⟨PySem.W.mg_none_of X G zisinstance, PySem.W.mg_none_of X G zint, PySem.W.mg_none_of X G zbool, PySem.W.mg_none_of X G zstr, PySem.W.mg_none_of X G ztuple, PySem.W.mg_none_of X G zlen, PySem.W.mg_none_of X G zabs, PySem.W.mg_none_of X G zall, PySem.W.mg_none_of X G zrange, PySem.W.mg_none_of X G zenumerate, PySem.W.mg_none_of X G zreversed, PySem.W.mg_none_of X G zrepr, ⟨_, PySem.W.mg_of X G mMOST_SIGNS⟩, ⟨_, PySem.W.mg_of X G mMOST_LETTERS⟩, ⟨_, PySem.W.mg_of X G mMOST_PROCEDURES⟩, ⟨_, PySem.W.mg_of X G mLEAST_BODIES⟩, ⟨_, PySem.W.mg_of X G mMOST_BODIES⟩, ⟨_, PySem.W.mg_of X G mMOST_IN_BODY⟩, ⟨_, PySem.W.mg_of X G mMOST_STATEMENTS⟩, ⟨_, PySem.W.mg_of X G mLONGEST_CHAIN⟩, ⟨_, PySem.W.mg_of X G mMOST_PLACES⟩, ⟨_, PySem.W.mg_of X G mS⟩, ⟨_, PySem.W.mg_of X G mW⟩, ⟨kw, PySem.W.mg_of X G mK, fun H => .inr ⟨_, itkw, nkw, lK, rfl, rfl, wK, vK⟩⟩, ⟨en, PySem.W.mg_of X G mE, fun H => .inr ⟨_, iten, nen, lE, rfl, rfl, wE, vE⟩⟩⟩
  have T : Txt K mg CL := ⟨⟨pgC, hdC, poC, saC⟩, n1, n2, n3, n4, n5⟩
  have tb12 := PySem.W.tab_of TT X t412 (in_kit a12 l12 t112 t212)
  have tb21 := PySem.W.tab_of TT X t421 (in_kit a21 l21 t121 t221)
  refine ⟨[(c12, T12), (c21, T21)], ?hT, ?nT, ?hC, fun base s H a ns tabs e0 free sq hln => ?run⟩
  case hT =>
    intro p hp
    rcases List.mem_cons.mp hp with rfl | hp
    · exact tb12.2
    · cases List.mem_singleton.mp hp
      exact tb21.2
  case nT =>
    intro p hp
    rcases List.mem_cons.mp hp with rfl | hp
    · exact t312
    · cases List.mem_singleton.mp hp
      exact t321
  case hC =>
    intro p hp
    rcases List.mem_cons.mp hp with rfl | hp
    · exact tb12.1
    · cases List.mem_singleton.mp hp
      exact tb21.1
  case run =>
    have hTs : Tbs [T12, T21] H := fun T' hT' => by
      rcases List.mem_cons.mp hT' with rfl | hT'
      · exact ⟨#[], free (c12, _) (by simp), trivial⟩
      · cases List.mem_singleton.mp hT'
        exact ⟨#[], free (c21, _) (by simp), trivial⟩
    have c_row := ok_is_row (P := l.prog) (w := w) (base := base) F6 b6 B
    have f_name := ok_is_name (P := l.prog) (w := w) (Ts := [T12, T21]) (T := T12) l12 c12h (tabs (c12, T12) (by simp)) (by simp) B
    have c_name : C8.Cal l.prog w K mg base 4 "is_name" (spName K [T12, T21]) [] := ⟨_, _, _, _, f_name, F12.mgf, k12, b12, .nil⟩
    have c_bod := ok_bodies_of (P := l.prog) (w := w) (base := base) F24 b24 B
    have c_stm := ok__is_statement F23 b23 B c_row c_name
    have c_bods := ok__are_bodies F22 b22 B c_row c_stm c_bod
    have f_prog := ok_is_program (P := l.prog) (w := w) (Ts := [T12, T21]) (T := T21) l21 c21h (tabs (c21, T21) (by simp)) (by simp) B c_row c_name c_bods
    have c_prog : C8.Cal l.prog w K mg base 8 "is_program" (spProg K [T12, T21]) [] := ⟨_, _, _, _, f_prog, F21.mgf, k21, b21, .nil⟩
    have c_want := ok_want_program F25 b25 B c_prog
    have c_fdT := ok_fdT (P := l.prog) (w := w) (base := base) F28 b28 B
    have c_fdL := ok_fdL (P := l.prog) (w := w) (base := base) F28 b28 B
    have c_fs := fs_all F30 b30 B c_bod 13
    have c_bf := ok__body_fault F29 b29 B c_fs
    have c_check := ok_check F27 b27 B c_want c_fdT c_fdL c_bf
    have c_checked := ok_checked F31 b31 B c_check
    have R : RsT K mg TG := ⟨PySem.W.mg_of X G gT, xT, kT, bT, tT⟩
    have XE : ExT K mg TG DE := ⟨PySem.W.mg_of X G gT, PySem.W.mg_of X G gD, exm_own bT iT tT sT⟩
    have hlist : mg "list" = none := PySem.W.mg_none_of X G zlist
    have c_make := okm_make (P := l.prog) (w := w) (base := base) T ⟨am1, im1, km1⟩ Fm1 bm1 B R
    have c_mf := okm_make_fork T ⟨am2, im2, km2⟩ Fm2 bm2 B c_make
    have c_b0 := lay0 T B ⟨am3, im3, km3⟩ Fm3 bm3 ⟨am4, im4, km4⟩ Fm4 bm4 ⟨am5, im5, km5⟩ Fm5 bm5 c_make c_mf 13
    have c_leave := okm_leave T ⟨am6, im6, km6⟩ Fm6 bm6 B c_b0
    have c_b1 := lay1 T B ⟨am3, im3, km3⟩ Fm3 bm3 ⟨am4, im4, km4⟩ Fm4 bm4 ⟨am5, im5, km5⟩ Fm5 bm5 c_make c_mf c_leave 13
    have c_init := okm_init T ⟨mkC, am0, im0, kcC⟩ (PySem.W.mg_of X G mL) Fm0 bm0 B c_b1
    have c_ls := ok_layouts F37 b37 B c_init T
    have c_lo := ok_laid_out F36 b36 B c_ls T
    have c_plX := ok_places F35 b35 B c_checked c_lo
    have f_pl := fn_placesX F35 B c_checked c_lo
    have c_well := ok__law_well (P := l.prog) (w := w) (base := base) F40 b40 B
    have c_draw := ok__law_draw (P := l.prog) (w := w) (base := base) F41 b41 B
    have c_same := same_all (P := l.prog) (w := w) (base := base) F42 b42 B hlist 6
    have c_name := ok__law_name F43 b43 B c_draw
    have c_names := ok__law_names F44 b44 B c_name
    have c_body := drw9 F45 b45 F46 b46 B c_draw 8
    have c_plan := ok__law_plan F47 b47 B c_draw c_names c_body
    have c_pairing := ok__law_pairing F48 b48 B c_name
    have c_no := no_all (P := l.prog) (w := w) (base := base) F49 b49 B 13
    have c_tb := tb_all (P := l.prog) (w := w) (base := base) F50 b50 B 13
    have c_tp := ok__law_turned_plan F51 b51 B c_tb
    have c_pairs := ok__law_pairs F52 b52 B hlist c_no c_pairing
    have c_wr := wr_all F53 b53 B c_draw 8
    have c_laid := ok__law_laid F54 b54 B XE f_pl F35.mgf k35 ?kb
    case kb =>
      refine ⟨fun s us ws _ hl => ?_, fun r rz => r.append rz⟩
      match us, ws, hl with
      | [], [_], _ => exact .of_eq rfl
      | [_], [], _ => exact .of_eq rfl
      | [], [], hl => cases hl
      | [_], _ :: _, hl => simp at hl
      | [], _ :: _ :: _, hl => simp at hl
      | _ :: _ :: _, _, hl => simp at hl
    exact ok_law F55.fn B c_well c_draw c_plan c_laid c_wr c_check c_same c_tp c_pairs hln e0 (.of_eq rfl) sq hTs
end K09


open PySem PySem.W PyProof.Rows
set_option maxRecDepth 100000 in
set_option maxHeartbeats 0 in
theorem PySem.Challenge.cw_undoneall_k09_whole_texts_with_the_same_holds : PySem.Challenge.rw_undoneall_k09_whole_texts_with_the_same.Holds := by
  w_on; o_law; k_head; (case hw => w_witness2)
  k_fill
  refine K09.walk (l := PySem.Challenge.rw_undoneall_k09_whole_texts_with_the_same) (n := 63) (x := "script") rfl (by decide) rfl (fun w h Y => PySem.W.kIn_of Y) ?F
  case F =>
    intro w lo mean mg mb fa h TT KX hmg
    refine' K09.all_mk TT KX hmg ?a6 ?l6 ?c6h ?k6 ?a12 ?l12 ?c12h ?k12 ?a21 ?l21 ?c21h ?k21 ?a22 ?l22 ?c22h ?k22 ?a23 ?l23 ?c23h ?k23 ?a24 ?l24 ?c24h ?k24 ?a25 ?l25 ?c25h ?k25 ?a27 ?l27 ?c27h ?k27 ?a28 ?l28 ?c28h ?k28 ?a29 ?l29 ?c29h ?k29 ?a30 ?l30 ?c30h ?k30 ?a31 ?l31 ?c31h ?k31 ?a35 ?l35 ?c35h ?k35 ?a36 ?l36 ?c36h ?k36 ?a37 ?l37 ?c37h ?k37 ?a40 ?l40 ?c40h ?k40 ?a41 ?l41 ?c41h ?k41 ?a42 ?l42 ?c42h ?k42 ?a43 ?l43 ?c43h ?k43 ?a44 ?l44 ?c44h ?k44 ?a45 ?l45 ?c45h ?k45 ?a46 ?l46 ?c46h ?k46 ?a47 ?l47 ?c47h ?k47 ?a48 ?l48 ?c48h ?k48 ?a49 ?l49 ?c49h ?k49 ?a50 ?l50 ?c50h ?k50 ?a51 ?l51 ?c51h ?k51 ?a52 ?l52 ?c52h ?k52 ?a53 ?l53 ?c53h ?k53 ?a54 ?l54 ?c54h ?k54 ?a55 ?l55 ?c55h ?k55 ?am0 ?im0 ?lm0 ?cm0h ?km0 ?am1 ?im1 ?lm1 ?cm1h ?km1 ?am2 ?im2 ?lm2 ?cm2h ?km2 ?am3 ?im3 ?lm3 ?cm3h ?km3 ?am4 ?im4 ?lm4 ?cm4h ?km4 ?am5 ?im5 ?lm5 ?cm5h ?km5 ?am6 ?im6 ?lm6 ?cm6h ?km6 ?zisinstance ?zint ?zbool ?zstr ?ztuple ?zlen ?zabs ?zall ?zrange ?zenumerate ?zreversed ?zrepr ?zlist ?mMOST_SIGNS ?mMOST_LETTERS ?mMOST_PROCEDURES ?mLEAST_BODIES ?mMOST_BODIES ?mMOST_IN_BODY ?mMOST_STATEMENTS ?mLONGEST_CHAIN ?mMOST_PLACES ?mS ?mW ?mK ?mE ?mL ?lK ?lE ?pgC ?hdC ?poC ?saC ?mkC ?kcC ?n1 ?n2 ?n3 ?n4 ?n5 ?gT ?gD ?xT ?kT ?bT ?tT ?iT ?sT ?vK ?vE ?wK ?wE ?t112 ?t212 ?t312 ?t412 ?t121 ?t221 ?t321 ?t421
    (case mL => k_is)
    (case a6 => k_is)
    (case l6 => k_is)
    (case c6h => k_is)
    (case k6 => k_is)
    (case a12 => k_is)
    (case l12 => k_is)
    (case c12h => k_is)
    (case k12 => k_is)
    (case a21 => k_is)
    (case l21 => k_is)
    (case c21h => k_is)
    (case k21 => k_is)
    (case a22 => k_is)
    (case l22 => k_is)
    (case c22h => k_is)
    (case k22 => k_is)
    (case a23 => k_is)
    (case l23 => k_is)
    (case c23h => k_is)
    (case k23 => k_is)
    (case a24 => k_is)
    (case l24 => k_is)
    (case c24h => k_is)
    (case k24 => k_is)
    (case a25 => k_is)
    (case l25 => k_is)
    (case c25h => k_is)
    (case k25 => k_is)
    (case a27 => k_is)
    (case l27 => k_is)
    (case c27h => k_is)
    (case k27 => k_is)
    (case a28 => k_is)
    (case l28 => k_is)
    (case c28h => k_is)
    (case k28 => k_is)
    (case a29 => k_is)
    (case l29 => k_is)
    (case c29h => k_is)
    (case k29 => k_is)
    (case a30 => k_is)
    (case l30 => k_is)
    (case c30h => k_is)
    (case k30 => k_is)
    (case a31 => k_is)
    (case l31 => k_is)
    (case c31h => k_is)
    (case k31 => k_is)
    (case a35 => k_is)
    (case l35 => k_is)
    (case c35h => k_is)
    (case k35 => k_is)
    (case a36 => k_is)
    (case l36 => k_is)
    (case c36h => k_is)
    (case k36 => k_is)
    (case a37 => k_is)
    (case l37 => k_is)
    (case c37h => k_is)
    (case k37 => k_is)
    (case a40 => k_is)
    (case l40 => k_is)
    (case c40h => k_is)
    (case k40 => k_is)
    (case a41 => k_is)
    (case l41 => k_is)
    (case c41h => k_is)
    (case k41 => k_is)
    (case a42 => k_is)
    (case l42 => k_is)
    (case c42h => k_is)
    (case k42 => k_is)
    (case a43 => k_is)
    (case l43 => k_is)
    (case c43h => k_is)
    (case k43 => k_is)
    (case a44 => k_is)
    (case l44 => k_is)
    (case c44h => k_is)
    (case k44 => k_is)
    (case a45 => k_is)
    (case l45 => k_is)
    (case c45h => k_is)
    (case k45 => k_is)
    (case a46 => k_is)
    (case l46 => k_is)
    (case c46h => k_is)
    (case k46 => k_is)
    (case a47 => k_is)
    (case l47 => k_is)
    (case c47h => k_is)
    (case k47 => k_is)
    (case a48 => k_is)
    (case l48 => k_is)
    (case c48h => k_is)
    (case k48 => k_is)
    (case a49 => k_is)
    (case l49 => k_is)
    (case c49h => k_is)
    (case k49 => k_is)
    (case a50 => k_is)
    (case l50 => k_is)
    (case c50h => k_is)
    (case k50 => k_is)
    (case a51 => k_is)
    (case l51 => k_is)
    (case c51h => k_is)
    (case k51 => k_is)
    (case a52 => k_is)
    (case l52 => k_is)
    (case c52h => k_is)
    (case k52 => k_is)
    (case a53 => k_is)
    (case l53 => k_is)
    (case c53h => k_is)
    (case k53 => k_is)
    (case a54 => k_is)
    (case l54 => k_is)
    (case c54h => k_is)
    (case k54 => k_is)
    (case a55 => k_is)
    (case l55 => k_is)
    (case c55h => k_is)
    (case k55 => k_is)
    (case am0 => k_is)
    (case im0 => k_is)
    (case lm0 => k_is)
    (case cm0h => k_is)
    (case km0 => k_is)
    (case am1 => k_is)
    (case im1 => k_is)
    (case lm1 => k_is)
    (case cm1h => k_is)
    (case km1 => k_is)
    (case am2 => k_is)
    (case im2 => k_is)
    (case lm2 => k_is)
    (case cm2h => k_is)
    (case km2 => k_is)
    (case am3 => k_is)
    (case im3 => k_is)
    (case lm3 => k_is)
    (case cm3h => k_is)
    (case km3 => k_is)
    (case am4 => k_is)
    (case im4 => k_is)
    (case lm4 => k_is)
    (case cm4h => k_is)
    (case km4 => k_is)
    (case am5 => k_is)
    (case im5 => k_is)
    (case lm5 => k_is)
    (case cm5h => k_is)
    (case km5 => k_is)
    (case am6 => k_is)
    (case im6 => k_is)
    (case lm6 => k_is)
    (case cm6h => k_is)
    (case km6 => k_is)
    (case zisinstance => k_is)
    (case zint => k_is)
    (case zbool => k_is)
    (case zstr => k_is)
    (case ztuple => k_is)
    (case zlen => k_is)
    (case zabs => k_is)
    (case zall => k_is)
    (case zrange => k_is)
    (case zenumerate => k_is)
    (case zreversed => k_is)
    (case zrepr => k_is)
    (case zlist => k_is)
    (case mMOST_SIGNS => k_is)
    (case mMOST_LETTERS => k_is)
    (case mMOST_PROCEDURES => k_is)
    (case mLEAST_BODIES => k_is)
    (case mMOST_BODIES => k_is)
    (case mMOST_IN_BODY => k_is)
    (case mMOST_STATEMENTS => k_is)
    (case mLONGEST_CHAIN => k_is)
    (case mMOST_PLACES => k_is)
    (case mS => k_is)
    (case mW => k_is)
    (case mK => k_is)
    (case mE => k_is)
    (case lK => k_is)
    (case lE => k_is)
    (case pgC => k_is)
    (case hdC => k_is)
    (case poC => k_is)
    (case saC => k_is)
    (case mkC => k_is)
    (case kcC => k_is)
    (case n1 => k_is)
    (case n2 => k_is)
    (case n3 => k_is)
    (case n4 => k_is)
    (case n5 => k_is)
    (case gT => k_is)
    (case gD => k_is)
    (case xT => k_exc)
    (case kT => k_is)
    (case bT => k_is)
    (case tT => k_is)
    (case iT => k_is)
    (case sT => k_is)
    (case t112 => k_is)
    (case t121 => k_is)
    (case vK => exact .cons ⟨_, rfl⟩ (.cons ⟨_, rfl⟩ (.cons ⟨_, rfl⟩ (.cons ⟨_, rfl⟩ (.cons ⟨_, rfl⟩ (.cons ⟨_, rfl⟩ (.cons ⟨_, rfl⟩ (.cons ⟨_, rfl⟩ (.cons ⟨_, rfl⟩ (.cons ⟨_, rfl⟩ (.cons ⟨_, rfl⟩ .nil)))))))))))
    (case vE => exact .cons ⟨_, rfl⟩ .nil)
    (case wK => show 11 ≤ _; decide)
    (case wE => show 1 ≤ _; decide)
    (case t212 => rfl)
    (case t312 => first | rfl | kernel_rfl | decide)
    (case t412 => rfl)
    (case t221 => rfl)
    (case t321 => first | rfl | kernel_rfl | decide)
    (case t421 => rfl)

