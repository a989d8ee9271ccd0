import PyProof.Rows.All
import Wide.All
import OpenK.AllK
import Wide.FinOn
import HandS.ForMost
import HandS.Codes
import HandS.IsInst
import HandS.Wide
import HandS.Style
import HandS.Conv
import HandS.EndTab
import HandS.Star
import HandS.Strs
import HandS.Rev
import HandS.AnyAll
import HandS.GenOver
import PyProof.GenQ
import HandS.Lambda
import HandS.Iter
import HandS.TupMul
import KE.GoesMore
import KE.GoesEnum
import HandS.TupAny
import PyProof.DictMoreH
import HandS.Dict
import HandS.RevRange
import PyProof.ReprRoads
import PyProof.ReprBulk
import PySem.Challenge.RW_undoneall_k12_whole_places
set_option Elab.async false
set_option linter.all false
set_option maxRecDepth 100000
set_option maxHeartbeats 4000000
/-! all(elt for target in iter), whatever PI walks: the element is judged in the generator's own frame -/
namespace UG
open PySem PySem.Spec PyProof.Rows L2

abbrev gcx (X : Cx) (A : Around) (N : List Str) (s : Shared) (H : Hp) (env : Env) (fp : List Addr) : Cx :=
  { X with
    A := A, N := N, s_0 := s, H_0 := H, env := env, outer := X.stack,
    stack := env :: X.stack, ex := fp, fn := fun _ => false,
    calm := true, pn := [], xe := fun _ _ => False }

structure GenSc (scope : Scope) : Prop where
  kind : scope.kind = .function
  co : scope.isCoroutine = false
  cell : ∀ y ∈ scope.names, y.2 ≠ .cell
  free : ∀ y ∈ scope.names, y.2 ≠ .free
  dot : scope.names.lookup (".0" : Str) = some NameKind.local

/-- the generator's environment -/
abbrev gev (X : Cx) (scope : Scope) (C : Addr) (code : Value) : Env :=
  genEnv scope (cloFrom X.env.cells scope.names []) C code builtinsNs X.env

section
variable {X : Cx} {pins : List (Addr × Obj)} {σ : L2.St} {H : Hp} {s : Shared} {scope : Scope}

theorem gev_cells (S : GenSc scope) {C : Addr} {code : Value} {x : Str} {c : Addr}
    (e : (gev X scope C code).cells.lookup x = some c) : False := by
  have m := PySem.mem_of_lookup e
  rcases cloFrom_mem (show (x, c) ∈ cloFrom X.env.cells scope.names [] from m) with z | ⟨z, _⟩
  · cases z
  · exact S.free _ z rfl

theorem gev_kind (S : GenSc scope) {C : Addr} {code : Value} {x : Str}
    (h : (gev X scope C code).kindOf x = some .cell ∨ (gev X scope C code).kindOf x = some .free) : False := by
  rcases h with h | h
  · exact S.cell _ (PySem.mem_of_lookup (show scope.names.lookup x = some NameKind.cell from h)) rfl
  · exact S.free _ (PySem.mem_of_lookup (show scope.names.lookup x = some NameKind.free from h)) rfl

theorem stk_lt (I : Inv X pins σ H s) {b : Addr} (hb : b ∈ frs X.stack) : b < s.heap.objs.size := by
  rcases List.mem_cons.mp (I.stkSub b hb) with e | z
  · rw [e]; exact I.lt
  · rcases Nat.lt_or_ge b s.heap.objs.size with h | h
    · exact h
    · exact absurd z (I.nofs h)

/-- the generator's frame, as it begins -/
theorem gen_begin (I : Inv X pins σ H s) (S : GenSc scope) {fp : List Addr} {N : List Str} {A' : Around} {code : Value} {s5 : Shared} {a : Addr} {go : Obj} {m : Str → Option Value}
    (hfp : ∀ b ∈ fp, FpOk X pins H b ∧ b < s.heap.objs.size) (hhd : A'.handled = none)
    (hfr : A'.frames = some (gev X scope s.heap.objs.size code :: X.stack))
    (kp : ∀ b o, s.heap.get? b = some o → s5.heap.get? b = some o) (hos : s5.os = s.os) (hb5 : AllBare s5.gens)
    (hns : s5.heap.Ns s.heap.objs.size m) (ha : s.heap.objs.size < a) (hgo : s5.heap.get? a = some go) (hdat : ∀ v, go.data ≠ .cell v) :
    Inv (gcx X A' N s H (gev X scope s.heap.objs.size code) fp) [(a, go)] (N.map fun _ => none) H s5 := by
  have okG : (gcx X A' N s H (gev X scope s.heap.objs.size code) fp).Ok := by
    refine ⟨I.ok.mod, S.kind, I.ok.glob, rfl, Nat.le_refl _, ?_, ?_, ?_, fun _ => hhd, hfr, .inr ⟨rfl, rfl⟩, ?_, I.bs, Nat.le_trans I.ok.bsz I.sz, ?_, ?_, I.stack, I.stkFree⟩
    · intro x y c e _
      exact (gev_cells S e).elim
    · intro x h
      exact (gev_kind S h).elim
    · intro x c h _
      cases h
    · intro b hb
      refine ⟨Nat.ne_of_lt (hfp b hb).2, ?_⟩
      intro x c e
      exact (gev_cells S e).elim
    · intro b o e hb
      rcases (hfp b hb).1.2.2.2.1 with z | z
      · exact I.ok.noex b o e z
      · have h1 := Heap.lt_size e
        have h2 := I.ok.bsz
        exact absurd (Nat.lt_of_lt_of_le h1 (Nat.le_trans h2 z)) (Nat.lt_irrefl _)
    · intro b hb z
      rcases List.mem_cons.mp (I.stkSub b z) with y | y
      · exact (hfp b hb).1.2.1 y
      · exact (hfp b hb).1.2.2.1 y
  refine ⟨okG, hos, hb5, Un.kept kp, ⟨m, hns, ?_⟩, ?_, I.hok.fresh (Nat.le_refl _), ?_, ?_, I.hok.kept kp, ?_⟩
  · intro i x v _ e _
    rw [List.getElem?_map] at e
    cases q : (gcx X A' N s H (gev X scope s.heap.objs.size code) fp).N[i]? with
    | none =>
      have q' : N[i]? = none := q
      rw [q'] at e; cases e
    | some y =>
      have q' : N[i]? = some y := q
      rw [q'] at e; cases e
  · intro x c e
    exact (gev_cells S e).elim
  · intro x c e
    exact (gev_cells S e).elim
  · intro p hp
    have e : p = (a, go) := by simpa using hp
    subst e
    refine ⟨hgo, I.hok.fresh (Nat.le_of_lt ha), Nat.ne_of_gt ha, ?_, hdat⟩
    intro z
    exact absurd (Nat.lt_trans ha (stk_lt I z)) (Nat.lt_irrefl _)
  · show (N.map _).length = N.length
    rw [List.length_map]

/-- what is held of the callers' frame when the generator's is left -/
theorem gen_back {fp : List Addr} {N : List Str} {A' : Around} {env : Env} {s' : Shared} {H' : Hp} {σ' : L2.St} {pg : List (Addr × Obj)}
    (I : Inv X pins σ H s) (hfp : ∀ b ∈ fp, FpOk X pins H b) (J : Inv (gcx X A' N s H env fp) pg σ' H' s') : Inv X pins σ H' s' :=
  I.call' (ch := fp) J.os J.base J.hok J.bare fun b hb => by
    obtain ⟨_, h1, _, h3, h4, h5⟩ := hfp b hb
    exact ⟨h3, h1, h4, h5⟩
end
end UG


set_option Elab.async false
set_option linter.all false
set_option maxRecDepth 100000
set_option maxHeartbeats 4000000
namespace UG
open PySem PySem.Spec PyProof.Rows L2

/-- the generator's loop code -/
abbrev geLoop (elt tg iter : Expr) (scope : Scope) (gpos : Pos) (it : Addr) (env : Env) : Code :=
  .compLoop (.GeneratorExp elt [⟨tg, iter, [], 0⟩] scope gpos) 0 (.ref it) .none env
abbrev geStart (elt tg iter : Expr) (scope : Scope) (gpos : Pos) (it : Addr) (env : Env) : Code :=
  .compStart (.GeneratorExp elt [⟨tg, iter, [], 0⟩] scope gpos) 0 (.ref it) .none env

theorem over_loopG {A : Around} {elt tg iter : Expr} {scope : Scope} {gpos : Pos} {it : Addr} {env : Env} :
    A.over (geLoop elt tg iter scope gpos it env) [] = A.deeper env := by
  obtain ⟨hd, d, fr, gs, u⟩ := A
  simp [Around.over, Around.deeper, marksOver, frameCount, unitsOf, envsOf, guardsOf, pushEnvs, pushGuards, Code.envs, Code.env?, Code.isFrame, Code.guards, Code.isGuard, Code.weight, Code.frames, Code.isCreation, Code.isCaller, Code.cUnits]
theorem over_startG {A : Around} {elt tg iter : Expr} {scope : Scope} {gpos : Pos} {it : Addr} {env : Env} :
    A.over (geStart elt tg iter scope gpos it env) [] = A.deeper env := by
  obtain ⟨hd, d, fr, gs, u⟩ := A
  simp [Around.over, Around.deeper, marksOver, frameCount, unitsOf, envsOf, guardsOf, pushEnvs, pushGuards, Code.envs, Code.env?, Code.isFrame, Code.guards, Code.isGuard, Code.weight, Code.frames, Code.isCreation, Code.isCaller, Code.cUnits]

/-- what the reading asks of the loop -/
structure Way (J : It) (g : TG) (te : TE) (σ0 : L2.St) (Q : VK) (top : Nat) (W : Nat → Hp → Prop) : Prop where
  turn : ∀ i H, W i H → (J.stop i H ∧ Q (.bl true) H) ∨ (i < top ∧ J.go i H ∧ ∀ x H', J.yld i H x H' → g x σ0 H' fun σ2 H2 => te σ2 H2 fun y H3 =>
    ∃ b : Bool, y = .bl b ∧ if b = true then W (i + 1) H3 else Q (.bl false) H3)

section
variable {X : Cx} {N : List Str} {s4 : Shared} {H4 : Hp} {env : Env} {fp : List Addr} {a : Addr} {go : Obj}
/-- the protocol: a truth comes out; behind a True one the walk goes on -/
def GY (X : Cx) (B : Around) (N : List Str) (s4 : Shared) (H4 : Hp) (env : Env) (fp : List Addr) (a : Addr) (go : Obj) (Q : VK) : Protocol := fun m s₀ v s kap =>
  ∃ (b : Bool) (H3 : Hp) (σ3 : L2.St), v = .bool b ∧ Inv (gcx X B N s4 H4 env fp) [(a, go)] σ3 H3 s ∧ (b = false → Q (.bl false) H3) ∧
    (b = true → ∀ s'' : Shared, s''.os = s.os → AllBare s''.gens → s''.heap = s.heap → kap (.send .none) s'')
def GP (X : Cx) (B : Around) (N : List Str) (s4 : Shared) (H4 : Hp) (env : Env) (fp : List Addr) (a : Addr) (go : Obj) (Q : VK) : Nat → Shared → Shared → Prop := fun _ _ s1 =>
  ∃ (H3 : Hp) (σ3 : L2.St), Inv (gcx X B N s4 H4 env fp) [(a, go)] σ3 H3 s1 ∧ Q (.bl true) H3

theorem inv_same {X' : Cx} {pins : List (Addr × Obj)} {σ : L2.St} {H : Hp} {s s'' : Shared} (I : Inv X' pins σ H s) (h1 : s''.os = s.os) (h2 : AllBare s''.gens) (h3 : s''.heap = s.heap) : Inv X' pins σ H s'' := by
  obtain ⟨hh, g, d, t, o⟩ := s''
  cases h1
  cases h3
  exact ⟨I.ok, I.os, h2, I.base, I.loc, I.cell, I.free, I.freeC, I.pin, I.hok, I.len⟩

theorem seg_walk {B : Around} {elt tg iter : Expr} {scope : Scope} {gpos : Pos} {it : Addr} {tn : Nat → Heap → Prop} {J : It} {g : TG} {te : TE} {Q : VK} {top : Nat} {W : Nat → Hp → Prop}
    (hco : env.scope.isCoroutine = false)
    (T : Turn X.prog X.w X.K tg J fp it tn) (hg : PG (gcx X (B.deeper env) N s4 H4 env fp) tg g) (he : PE (gcx X (B.deeper env) N s4 H4 env fp) elt te)
    (hfa : a ∉ fp) (way : Way J g te (N.map fun _ => none) Q top W) :
    ∀ (n i : Nat) (s₀ s : Shared) (H : Hp), top - i ≤ n → Inv (gcx X (B.deeper env) N s4 H4 env fp) [(a, go)] (N.map fun _ => none) H s → tn i s.heap → (∀ b ∈ fp, H b = none) → W i H →
      ∃ k, k ≤ n ∧ Seg (model X.prog X.w) B (fun n s₀ r s₁ => r = .ok .next ∧ GP X (B.deeper env) N s4 H4 env fp a go Q n s₀ s₁) (GY X (B.deeper env) N s4 H4 env fp a go Q) n s₀
        (geLoop elt tg iter scope gpos it env) ((model X.prog X.w).den (geLoop elt tg iter scope gpos it env)) [] s := by
  have stat : ∀ {pl : List (Addr × Obj)} {σ' : L2.St} {H' : Hp} {s' : Shared}, Inv (gcx X (B.deeper env) N s4 H4 env fp) pl σ' H' s' → (∀ b ∈ fp, H' b = none) → (∀ p ∈ pl, p.1 = a) → ∀ b ∈ fp, FpOk (gcx X (B.deeper env) N s4 H4 env fp) pl H' b := by
    intro pl σ' H' s' I' hn hpl b hb
    refine ⟨hn b hb, (I'.ok.exf b hb).1, I'.ok.exfs b hb, .inl hb, (I'.ok.exf b hb).2, ?_⟩
    intro p hp z
    have hp' : p ∈ pl := by simpa using hp
    rw [hpl p hp'] at z
    exact hfa (z ▸ hb)
  have one : ∀ p ∈ [(a, go)], p.1 = a := by
    intro p hp
    have e : p = (a, go) := by simpa using hp
    rw [e]
  intro n
  induction n with
  | zero =>
    intro i s₀ s H hi I st nf w
    refine ⟨0, Nat.le_refl _, ?_⟩
    rcases way.turn i H w with ⟨stop, q⟩ | ⟨lt, _⟩
    · show Seg _ B _ _ _ s₀ _ ((compTurn (.GeneratorExp elt [⟨tg, iter, [], 0⟩] scope gpos) 0 (.ref it) .none env).onRaise (leaving env)) [] s
      rw [compTurn_gen, Sem.onRaise_eq_wrap]
      refine seg_bind_wrap (wpAny_standAt ?_)
      refine seg_bind_wrap ?_
      rw [over_loopG]
      have td := T.done (gcx X (B.deeper env) N s4 H4 env fp) rfl rfl rfl rfl i [(a, go)] s _ H (fun _ _ => False) I (stat I nf one) st stop
      refine thnF td ?_
      rintro r s6 ⟨rfl, I6⟩
      exact seg_end (.ok .next) ⟨rfl, H, _, I6, q⟩
    · omega
  | succ n ih =>
    intro i s₀ s H hi I st nf w
    refine ⟨n + 1, Nat.le_refl _, ?_⟩
    show Seg _ B _ _ _ s₀ _ ((compTurn (.GeneratorExp elt [⟨tg, iter, [], 0⟩] scope gpos) 0 (.ref it) .none env).onRaise (leaving env)) [] s
    rw [compTurn_gen, Sem.onRaise_eq_wrap]
    refine seg_bind_wrap (wpAny_standAt ?_)
    refine seg_bind_wrap ?_
    rw [over_loopG]
    rcases way.turn i H w with ⟨stop, q⟩ | ⟨lt, jgo, step⟩
    · have td := T.done (gcx X (B.deeper env) N s4 H4 env fp) rfl rfl rfl rfl i [(a, go)] s _ H (fun _ _ => False) I (stat I nf one) st stop
      refine thnF td ?_
      rintro r s6 ⟨rfl, I6⟩
      exact seg_end (.ok .next) ⟨rfl, H, _, I6, q⟩
    · have ti := T.item (gcx X (B.deeper env) N s4 H4 env fp) rfl rfl rfl rfl i [(a, go)] s _ H (fun _ _ => False) I (stat I nf one) st jgo
      refine thnF ti ?_
      rintro r s6 ⟨u, rfl, h6⟩
      refine seg_bind_wrap ?_
      rw [over_loopG]
      refine thnF h6 ?_
      rintro _ s7 ⟨x, H7, I7, r7, y7, st7, n7⟩
      have I7' := I7.pinned (stat I7 n7 one) (T.obj _ _ st7)
      refine seg_bind_wrap ?_
      rw [over_loopG]
      refine thnF (hg.run _ s7 _ H7 x u _ I7' r7 (step x H7 y7)) ?_
      rintro _ s8 ⟨σ8, H8, I8, q8⟩
      simp only [List.forIn_nil]
      refine seg_bind_wrap (wpAny_pure ?_)
      simp only [if_true]
      have hy : ∀ v, yieldOut env v = yieldValue v := fun v => by simp only [yieldOut, hco, Bool.false_eq_true, if_false]
      simp only [hy]
      rw [Sem.bind_eq_wrap', Sem.bind_eq_wrap', Sem.wrap_wrap, Sem.wrap_wrap]
      refine seg_wrap ?_
      rw [over_loopG]
      refine thnF (he.run _ s8 σ8 H8 _ I8 q8) ?_
      rintro yv s9 ⟨y, H9, I9, r9, b, rfl, q9⟩
      have ey : yv = Value.bool b := r9
      subst ey
      -- the iterator's objects stand as they stood
      have pin' : ∀ c ∈ fp, ∀ o, s7.heap.get? c = some o → s9.heap.get? c = some o ∧ H9 c = none := fun c hc o e =>
        let z := I9.pin (c, o) (List.mem_append_right _ (List.mem_append_right _ (mem_pinsAt hc e)))
        ⟨z.1, z.2.1⟩
      have st9 : tn (i + 1) s9.heap := T.keep _ _ _ st7 fun c hc o e => (pin' c hc o e).1
      have n9 : ∀ c ∈ fp, H9 c = none := fun c hc => by
        obtain ⟨o, e, _⟩ := T.obj _ _ st7 c hc
        exact (pin' c hc o e).2
      have I9' : Inv (gcx X (B.deeper env) N s4 H4 env fp) [(a, go)] σ8 H9 s9 := I9.unpinned (pins := [(a, go)])
      refine seg_at (seg_yield rfl rfl rfl ⟨b, H9, σ8, rfl, I9', fun hb => ?_, fun hb s'' h1 h2 h3 => ?_⟩)
      · rw [hb] at q9
        simpa using q9
      · rw [hb] at q9
        have q9' : W (i + 1) H9 := by simpa using q9
        have Iw : Inv (gcx X (B.deeper env) N s4 H4 env fp) [(a, go)] (N.map fun _ => none) H9 s9 := I9'.weak (by rw [I9'.len, List.length_map]) fun j v e => by
          rw [List.getElem?_map] at e
          cases q : N[j]? with
          | none => rw [q] at e; cases e
          | some y => rw [q] at e; cases e
        obtain ⟨k, _, z⟩ := ih (i + 1) s'' s'' H9 (by omega) (inv_same Iw h1 h2 h3) (by rw [h3]; exact st9) n9 q9'
        refine seg_again rfl z
end
end UG


set_option Elab.async false
set_option linter.all false
set_option maxRecDepth 100000
set_option maxHeartbeats 4000000
namespace UG
open PySem PySem.Spec PyProof.Rows L2

section
variable {X : Cx} {N : List Str} {s4 : Shared} {H4 : Hp} {env : Env} {fp : List Addr} {a : Addr} {go : Obj}

theorem bare_set {s : Shared} {g : Nat} {x : GenState} (h : AllBare s.gens) (hx : x.bare = true) : AllBare (s.setGen g x).gens := by
  intro y hy
  have hy' : y ∈ s.gens.setIfInBounds g x := hy
  rcases Array.mem_or_eq_of_mem_setIfInBounds hy' with z | z
  · exact h y z
  · rw [z]; exact hx

theorem get_set {s : Shared} {g : Nat} {x : GenState} (h : g + 1 ≤ (s.setGen g x).gens.size) : (s.setGen g x).gens[g]? = some x := by
  have h1 : (s.setGen g x).gens.size = s.gens.size := GenW.setGen_size s g x
  have h2 : g < s.gens.size := by omega
  show (s.gens.setIfInBounds g x)[g]? = some x
  simp [h2]

/-- the consumer: all's own loop over the generator at a -/
theorem all_turns {A : Around} {g : Nat} {Q : VK} {R : Result → Shared → Prop} (hh : A.handled = none) (hroom : A.depth < recursionLimit)
    (hIG : ∀ (s : Shared), s.heap.get? a = some go → s.heap.IsGen a g)
    (hR : ∀ (b : Bool) (s : Shared) (H3 : Hp) (σ3 : L2.St), Inv (gcx X ((A.in1.in1).deeper env) N s4 H4 env fp) [(a, go)] σ3 H3 s → Q (.bl b) H3 → R (.ok (.ret (.bool b))) s) :
    ∀ (n : Nat) (s : Shared) (gs : GenState) (σ3 : L2.St) (H3 : Hp), s.gens[g]? = some gs → Inv (gcx X ((A.in1.in1).deeper env) N s4 H4 env fp) [(a, go)] σ3 H3 s →
      gs.Goes (model X.prog X.w) A.in1.in1 (fun n s₀ r s₁ => r = .ok .next ∧ GP X ((A.in1.in1).deeper env) N s4 H4 env fp a go Q n s₀ s₁) (GY X ((A.in1.in1).deeper env) N s4 H4 env fp a go Q) n (.send .none) (s.setGen g .running) →
      codeAny (model X.prog X.w) A (.builtin "all.loop" ⟨[.ref a], []⟩) R s := by
  intro n
  induction n with
  | zero =>
    intro s gs σ3 H3 hgs I hgo
    refine codeAny_builtin F.entry_all_loop ?_
    rw [Around.under_plainId F.plain_all_loop _]
    have hsz : g + 1 ≤ s.gens.size := by
      obtain ⟨h1, _⟩ := Array.getElem?_eq_some_iff.mp hgs
      exact h1
    have pa := (I.pin (a, go) (by simp)).1
    show wpAny _ A.in1 (pyNext (.ref a) >>= _) _ _ s
    refine wpAny_bind (GenW.wpAny_gsz hsz ?_)
    refine wpAny_pyNext_genexpQ (P := GP X ((A.in1.in1).deeper env) N s4 H4 env fp a go Q) hh I.nolimit hroom (hIG s pa) hgs hgo ?_ ?_
    · intro v s₁ gs' hb hY hsz1
      obtain ⟨b, H5, σ5, rfl, I5, q1, q2⟩ := hY
      cases b with
      | true => exact (q2 rfl s₁ rfl I5.bare rfl).elim
      | false =>
        refine wpAny_bind (wpAny_holding (wpAny_truthy_bool ?_))
        refine wpAny_bind (wpAny_letGo ?_)
        refine wpAny_bind (wpAny_rule (wpAny_pure ?_))
        exact hR false _ H5 σ5 (inv_same I5 rfl (bare_set I5.bare hb) rfl) (q1 rfl)
    · intro s₁ hp h' hk hsz1
      obtain ⟨H5, σ5, I5, q5⟩ := hp
      refine wpAny_bind (wpAny_rule (wpAny_pure ?_))
      refine hR true _ H5 σ5 ?_ q5
      have I6 := inv_same (s'' := s₁.setGen g .finished) I5 rfl (bare_set I5.bare rfl) rfl
      exact I6.kept (t' := s₁.toks) hk
  | succ n ih =>
    intro s gs σ3 H3 hgs I hgo
    refine codeAny_builtin F.entry_all_loop ?_
    rw [Around.under_plainId F.plain_all_loop _]
    have hsz : g + 1 ≤ s.gens.size := by
      obtain ⟨h1, _⟩ := Array.getElem?_eq_some_iff.mp hgs
      exact h1
    have pa := (I.pin (a, go) (by simp)).1
    show wpAny _ A.in1 (pyNext (.ref a) >>= _) _ _ s
    refine wpAny_bind (GenW.wpAny_gsz hsz ?_)
    refine wpAny_pyNext_genexpQ (P := GP X ((A.in1.in1).deeper env) N s4 H4 env fp a go Q) hh I.nolimit hroom (hIG s pa) hgs hgo ?_ ?_
    · intro v s₁ gs' hb hY hsz1
      obtain ⟨b, H5, σ5, rfl, I5, q1, q2⟩ := hY
      cases b with
      | true =>
        refine wpAny_bind (wpAny_holding (wpAny_truthy_bool ?_))
        refine wpAny_bind (wpAny_letGo ?_)
        simp only [if_true]
        refine wpAny_pure ⟨plainId_quiet F.plain_all_loop _, ?_⟩
        refine ih (s₁.setGen g gs') gs' σ5 H5 (get_set hsz1) (inv_same I5 rfl (bare_set I5.bare hb) rfl) ?_
        exact q2 rfl ((s₁.setGen g gs').setGen g .running) rfl (bare_set (bare_set I5.bare hb) rfl) rfl
      | false =>
        refine wpAny_bind (wpAny_holding (wpAny_truthy_bool ?_))
        refine wpAny_bind (wpAny_letGo ?_)
        refine wpAny_bind (wpAny_rule (wpAny_pure ?_))
        exact hR false _ H5 σ5 (inv_same I5 rfl (bare_set I5.bare hb) rfl) (q1 rfl)
    · intro s₁ hp h' hk hsz1
      obtain ⟨H5, σ5, I5, q5⟩ := hp
      refine wpAny_bind (wpAny_rule (wpAny_pure ?_))
      refine hR true _ H5 σ5 ?_ q5
      have I6 := inv_same (s'' := s₁.setGen g .finished) I5 rfl (bare_set I5.bare rfl) rfl
      exact I6.kept (t' := s₁.toks) hk
end
end UG


set_option Elab.async false
set_option linter.all false
set_option maxRecDepth 100000
set_option maxHeartbeats 4000000
namespace UG
open PySem PySem.Spec PyProof.Rows L2

def tAllG (P : Addr) (wi : TI) (g : TG) (te : TE) (σ0 : L2.St) : TE := fun σ H Q => wi σ H fun J H1 =>
  GxR.TabG H1 P ∧ ∃ (top : Nat) (W : Nat → Hp → Prop), Way J g te σ0 Q top W ∧ ∀ H2, GxR.Tabbed P H1 H2 → W 0 H2

section
variable {X : Cx}
theorem pe_allG {c P : Addr} {elt tg iter : Expr} {p pos gpos : Pos} {scope : Scope} {wi : TI} {g : TG} {te : TE} {N : List Str} {k : Nat}
    (hr : Room (k + 1) X.A) (hg : Gl X "all") (hm : X.mg "all" = none) (hb : bootBuiltins "all" = some (.builtin "all")) (TB : LamX.TabB X.base X.mg c P) (hcode : X.env.code = .ref c)
    (S : GenSc scope) (hi : PI X tg iter wi)
    (hgt : ∀ (A' : Around) (s : Shared) (H : Hp) (C : Addr) (code : Value) (fp : List Addr), Room k A' → PG (gcx X A' N s H (gev X scope C code) fp) tg g)
    (hel : ∀ (A' : Around) (s : Shared) (H : Hp) (C : Addr) (code : Value) (fp : List Addr), Room k A' → PE (gcx X A' N s H (gev X scope C code) fp) elt te)
    (hs : ∀ v, genFold iter X.env v = pure v := by intro _; rfl)
    (he : starEach [.GeneratorExp elt [⟨tg, iter, [], 0⟩] scope gpos] X.env = (false, eval (.GeneratorExp elt [⟨tg, iter, [], 0⟩] scope gpos) X.env) :: starEach [] X.env := by rfl) :
    PE X (.Call (.Name "all" p) [.GeneratorExp elt [⟨tg, iter, [], 0⟩] scope gpos] [] pos) (tAllG P wi g te (N.map fun _ => none)) := by
  refine ⟨fun pins s σ H Q I h => ?_⟩
  refine wpAny_Call_Name_kw (ld_blt I hg hm hb ?_)
  refine PyProof.Rows.callWith_builtin1 ?_ he (by rfl)
  rw [he]
  show wpAny _ _ (spliced ((false, eval (.GeneratorExp elt [⟨tg, iter, [], 0⟩] scope gpos) X.env) :: backTo pos (starEach [] X.env))) _ _ s
  refine Calls.spliced_cons ?_
  have hclos := closure_ok (scope := scope) (env := X.env) fun y hy e => (S.free y hy e).elim
  refine wpAny_GeneratorExp_make S.co hclos S.cell S.dot S.kind (by have := hr.dp; omega) ?_ hs
  refine thn (hi.run pins s σ H _ I h) fun xv s1 hx => thn hx fun itv s2 h2 => ?_
  obtain ⟨it, fp, tn, J, H2, e, I2, T, st2, f2, ⟨ps, hP, ht⟩, top, W, way, w0⟩ := h2
  subst e
  refine ⟨I2.nolimit, ?_⟩
  have hPs : s2.heap.get? P = some { cls := .none, data := .fields ps } := I2.hok P _ hP
  have hPlt : P < s2.heap.objs.size := Heap.lt_size hPs
  have cd : PySem.W.CodeHd s2.heap c P := TB.code.keeps I2.bk
  have szF : ∀ b ∈ fp, b < s2.heap.objs.size := fun b hbf => by
    obtain ⟨o, e, _⟩ := T.obj _ _ st2 b hbf
    exact Heap.lt_size e
  have nPf : ∀ b ∈ fp, b ≠ P := fun b hbf z => by
    have q := (f2 b hbf).1
    rw [z, hP] at q
    cases q
  -- behind the making of the code object
  have cont : ∀ (code : Value) (h3 : Heap) (tk : Nat) (more : Array Value), (∀ b o, b ≠ P → s2.heap.get? b = some o → h3.get? b = some o) → s2.heap.objs.size ≤ h3.objs.size →
      h3.get? P = some { cls := .none, data := .fields (ps ++ more) } → TriplesOk (ps ++ more).toList →
      wpAny (model X.prog X.w) X.A (builtinsFor X.env.globals X.env.builtins) (fun bi s₄ => ∀ h', h'.Ns s₄.heap.objs.size (fun y => if y = (".0" : Str) then some (.ref it) else none) →
        Heap.SameBut s₄.heap.objs.size (s₄.heap.push { cls := .type "frame", data := .dict #[] }) h' →
        wpAny (model X.prog X.w) X.A (spliced (backTo pos (starEach [] X.env))) (fun ws s5 => wpAny (model X.prog X.w) X.A (call (.builtin "all") (.ref h'.objs.size :: ws)) (EP X pins σ Q) X.xe s5) X.xe
          { s₄ with
            gens := s₄.gens.push (.fresh (.compStart (.GeneratorExp elt [⟨tg, iter, [], 0⟩] scope gpos) 0 (.ref it) .none (genEnv scope (cloFrom X.env.cells scope.names []) s₄.heap.objs.size code bi X.env))),
            toks := s₄.toks + 1 + 1 + 1,
            heap := h'.push { cls := .type "generator", data := .fields #[.int s₄.gens.size 0, .str "<genexpr>" (s₄.toks + 1), .str (X.env.qual ++ "<genexpr>") (s₄.toks + 1 + 1)] } }) X.xe { s2 with heap := h3, toks := tk } := by
    intro code h3 tk more k3 sz3 hP3 ht3
    obtain ⟨bm, ob, e1, e2, e3, e4, e5, e6, e7, e8⟩ := TB.bm
    have nsG : h3.Ns X.env.globals X.mg := by
      rw [I2.ok.glob]
      obtain ⟨o, es, ep, ho, r⟩ := I2.mod.glob.keeps I2.bk
      exact ⟨o, es, ep, k3 _ o TB.gP ho, r⟩
    refine wpAny_builtinsFor (m := X.mg) nsG e1 e2 (k3 _ _ e4 (I2.bk _ _ e5)) e6 e7 e8 ?_
    intro h' hn' hsb
    have I4 : Inv X pins σ (upd H2 P (.tbl (ps ++ more))) { s2 with heap := h3, toks := tk } :=
      GxR.inv_tab (g' := s2.gens) (d' := s2.drawn) I2 hP k3 hP3 I2.bare
    generalize hs4 : ({ s2 with heap := h3, toks := tk } : Shared) = s4 at I4 hn' hsb ⊢
    have h4 : s4.heap = h3 := by rw [← hs4]
    have st4 : tn 0 s4.heap := T.keep _ _ _ st2 fun b hbf o e => by rw [h4]; exact k3 b o (nPf b hbf) e
    have f4 : ∀ b ∈ fp, FpOk X pins (upd H2 P (.tbl (ps ++ more))) b ∧ b < s4.heap.objs.size := fun b hbf => by
      refine ⟨⟨by rw [upd_ne (nPf b hbf)]; exact (f2 b hbf).1, (f2 b hbf).2⟩, ?_⟩
      rw [h4]
      exact Nat.lt_of_lt_of_le (szF b hbf) sz3
    have szh : h'.objs.size = s4.heap.objs.size + 1 := by rw [hsb.1, Heap.size_push]
    have kp' : ∀ b o, s4.heap.get? b = some o → h'.get? b = some o := fun b o e => hsb.extBut b o (Nat.ne_of_lt (Heap.lt_size e)) (Heap.get?_push_of_some _ e)
    generalize hgo : ({ cls := .type "generator", data := .fields #[.int s4.gens.size 0, .str "<genexpr>" (s4.toks + 1), .str (X.env.qual ++ "<genexpr>") (s4.toks + 1 + 1)] } : Obj) = go
    generalize hs5 : ({ s4 with
            gens := s4.gens.push (.fresh (.compStart (.GeneratorExp elt [⟨tg, iter, [], 0⟩] scope gpos) 0 (.ref it) .none (genEnv scope (cloFrom X.env.cells scope.names []) s4.heap.objs.size code builtinsNs X.env))),
            toks := s4.toks + 1 + 1 + 1,
            heap := h'.push go } : Shared) = s5
    have h5 : s5.heap = h'.push go := by rw [← hs5]
    have kp5 : ∀ b o, s4.heap.get? b = some o → s5.heap.get? b = some o := fun b o e => by rw [h5]; exact Heap.get?_push_of_some _ (kp' b o e)
    have ga : s5.heap.get? h'.objs.size = some go := by rw [h5]; exact Heap.get?_push_size _ (by rw [← hgo] <;> rfl)
    have bare5 : AllBare s5.gens := by
      rw [← hs5]
      exact I4.bare.push rfl
    have g5 : s5.gens[s4.gens.size]? = some (.fresh (geStart elt tg iter scope gpos it (gev X scope s4.heap.objs.size code))) := by
      rw [← hs5]
      exact Array.getElem?_push_size ..
    have hA' : Room k ((X.A.in1.in1).deeper (gev X scope s4.heap.objs.size code)) := by
      refine ⟨hr.hd, ?_, ?_⟩
      · have := hr.dp
        show X.A.depth + 1 + 3 * k + 5 < _
        omega
      · have := hr.un
        show X.A.units + 1 + 1 + 3 + 16 * k + 200 < _
        omega
    have J5 := gen_begin (N := N) (fp := fp) (A' := (X.A.in1.in1).deeper (gev X scope s4.heap.objs.size code)) (s5 := s5) (a := h'.objs.size) (go := go) I4 S f4 hr.hd
      (Around.frames_deeper (A := X.A.in1.in1) I4.ok.frames) kp5 (by rw [← hs5]) bare5 (by rw [h5]; exact hn'.push _) (by rw [szh]; exact Nat.lt_succ_self _) ga (by rw [← hgo]; intro v z; cases z)
    refine Calls.spliced_nil ?_
    refine call_function_tree F.kind_all F.plain_all F.entry_all (F.args_all1 _) ?_
    unfold Builtin.«all»
    refine wpAny_bind (m := oneArg "all" _) (wpAny_pure ?_)
    have isG : s5.heap.IsGen h'.objs.size s4.gens.size := ⟨go, _, _, ga, by rw [← hgo], by rw [← hgo], by rw [← hgo]⟩
    refine wpAny_bind (wpAny_pyIter_gen isG ?_)
    refine wpAny_pure ⟨plainId_quiet F.plain_all_loop _, ?_⟩
    have w4 : W 0 (upd H2 P (.tbl (ps ++ more))) := w0 _ ⟨⟨_, upd_same, ht3⟩, fun b hbn => upd_ne hbn⟩
    refine all_turns (X := X) (N := N) (s4 := s4) (H4 := upd H2 P (.tbl (ps ++ more))) (env := gev X scope s4.heap.objs.size code) (fp := fp) (a := h'.objs.size) (go := go) (g := s4.gens.size) (Q := Q)
      hr.hd (by have := hr.dp; show X.A.depth < _; omega) (fun s6 h6 => ⟨go, _, _, h6, by rw [← hgo], by rw [← hgo], by rw [← hgo]⟩) ?_ top s5 _ _ _ g5 J5 ?_
    · intro b s6 H6 σ6 I6 q6
      exact ⟨.bl b, H6, gen_back I4 (fun b hbf => (f4 b hbf).1) I6, rfl, q6⟩
    · refine ⟨rfl, ?_⟩
      have J6 := inv_same (s'' := s5.setGen s4.gens.size .running) J5 rfl (bare_set J5.bare rfl) rfl
      have st5 : tn 0 s5.heap := T.keep _ _ _ st4 fun b _ o e => kp5 b o e
      have nf : ∀ b ∈ fp, upd H2 P (.tbl (ps ++ more)) b = none := fun b hbf => (f4 b hbf).1.1
      have faN : h'.objs.size ∉ fp := fun z => by
        have q := (f4 _ z).2
        rw [szh] at q
        exact Nat.lt_irrefl _ (Nat.lt_trans (Nat.lt_succ_self _) q)
      have loop : ∀ s₀, ∃ k, k ≤ top ∧ _ := fun s₀ => seg_walk (X := X) (B := X.A.in1.in1) (N := N) (s4 := s4) (H4 := upd H2 P (.tbl (ps ++ more))) (env := gev X scope s4.heap.objs.size code) (fp := fp) (a := h'.objs.size) (go := go)
        (gpos := gpos) (elt := elt) (iter := iter) (scope := scope) (Q := Q) (top := top) (W := W) S.co T (hgt _ _ _ _ _ _ hA') (hel _ _ _ _ _ _ hA') faN way top 0 s₀ (s5.setGen s4.gens.size .running) _ (Nat.sub_le _ _) J6 st5 nf w4
      obtain ⟨_, _, loop⟩ := loop (s5.setGen s4.gens.size .running)
      show Seg _ _ _ _ _ _ _ ((compStart (.GeneratorExp elt [⟨tg, iter, [], 0⟩] scope gpos) 0 (.ref it) .none (gev X scope s4.heap.objs.size code)).onRaise (leaving (gev X scope s4.heap.objs.size code))) [] _
      unfold compStart
      rw [Sem.onRaise_eq_wrap]
      show Seg _ _ _ _ _ _ _ ((ask >>= _).wrap _ _ _ _) [] _
      refine seg_bind_wrap (wpAny_askSetting ?_)
      split
      · exact seg_again rfl loop
      · refine seg_bind_wrap (wpAny_rule ?_)
        show Seg _ _ _ _ _ _ _ ((standAt iter.pos >>= _).wrap _ _ _ _) [] _
        refine seg_bind_wrap (wpAny_standAt ?_)
        refine seg_bind_wrap ?_
        exact T.self _ 0 _ _ _ st5 (seg_again rfl loop)
  cases hf : codeAmong gpos ps.toList with
  | none =>
    refine wpAny_genexprCodeX hcode (cd.code hPs ht) (cd.tab hPs) hf ?_
    intro c' h3 tk hx hge hlt hco' _ htab' _
    obtain ⟨o1, vs, f1, tf, fl, tg', inF, tx, tt, op, _, _, _, _, _, _, _, _, _, htr, _⟩ := hco'
    exact cont _ h3 tk _ (fun b o hbn e => hx b o hbn e) (Nat.le_trans hge (Nat.le_of_lt hlt)) htab'.2 htr
  | some cv =>
    refine wpAny_genexprCode_hit hcode (cd.code hPs ht) hf ?_
    have z := cont cv s2.heap s2.toks #[] (fun _ _ _ e => e) (Nat.le_refl _) (by rw [Array.append_empty]; exact hPs) (by rw [Array.append_empty]; exact ht)
    exact z
end
end UG


set_option Elab.async false
set_option linter.all false
set_option maxRecDepth 100000
set_option maxHeartbeats 4000000
/-! enumerate(t), t a tuple; t * n to some thousands -/
namespace UG
open PySem PySem.Spec PyProof.Rows L2

theorem enum_new1 {v : Value} {o : Obj} {H : Heap → Prop} (B : Begins v o H) :
    Meets (Builtin.«enumerate.__new__» ⟨[.type "enumerate", v], []⟩) (fun _ R s => H s.heap ∧
      R (.ok (.ret (.ref (s.heap.push o).objs.size))) { s with heap := (s.heap.push o).push { cls := .type "enumerate", data := .fields #[.none, .bool false, .ref s.heap.objs.size, rawInt 0, .none, .none] } }) :=
  .of_wp fun prog w A R s h => by
    obtain ⟨hp, g, d, tk, os⟩ := s
    obtain ⟨h1, h⟩ := h
    have hsub := sub_enumerate
    have goes : ∀ {A' : Around} {E : Value → Shared → Prop} {Q : Value → Shared → Prop}, Q (.ref hp.objs.size) ⟨hp.push o, g, d, tk, os⟩ → wpAny (model prog w) A' (pyIter v) Q E ⟨hp, g, d, tk, os⟩ :=
      fun q => B.iter prog w _ _ ⟨hp, g, d, tk, os⟩ _ h1 q
    wp_walk using goes
    refine wpAny_stack_any fun st => wpAny_pure ?_
    split
    · rename_i c _ _ _ _ _
      cases (c == Value.type "enumerate")
      all_goals (wp_walk using goes; exact ⟨_, rfl, h⟩)
    · wp_walk using goes
      exact ⟨_, rfl, h⟩

section
variable {prog : Program} {w : World} {A : Around} {E : Value → Shared → Prop} {s : Shared}
theorem enum_call1 {v : Value} {o : Obj} {H : Heap → Prop} {Q : Value → Shared → Prop} (B : Begins v o H) (h1 : H s.heap)
    (h : ∀ h', IsEnum h' (s.heap.objs.size + 1) s.heap.objs.size 0 .none → h'.get? s.heap.objs.size = some o →
      (∀ b o, s.heap.get? b = some o → h'.get? b = some o) → Q (.ref (s.heap.objs.size + 1)) { s with heap := h' }) :
    wpAny (model prog w) A (call (.type "enumerate") [v]) Q E s := by
  refine callType_new F.called_enumerate (by decide) (F.typeCall_enumerate_1 _) (F.newCall_enumerate_1 _)
    (fun obj => F.args_object_init_2 obj _) F.entry_enumerate_new (enum_new1 B) ⟨h1, ?_⟩
  have sz : (s.heap.push o).objs.size = s.heap.objs.size + 1 := Heap.size_push ..
  show _ ∧ _
  rw [sz]
  have atE := Heap.get?_push_size (s.heap.push o) (o := { cls := .type "enumerate", data := .fields #[.none, .bool false, .ref s.heap.objs.size, rawInt 0, .none, .none] }) rfl
  rw [sz] at atE
  refine ⟨⟨_, atE, rfl⟩, h _ atE (Heap.get?_push_of_some _ (Heap.get?_push_size _ B.free)) ?_⟩
  intro b o' e
  exact Heap.get?_push_of_some _ (Heap.get?_push_of_some _ e)
end

/-- the tuple at a, each item in a new pair -/
def Iet (K : PySem.W.Frag) (a : Addr) : It :=
  ⟨fun i H => ∃ (xs : List V) (x : V), SqT K H a xs ∧ xs[i]? = some x,
   fun i H v H' => ∃ T x, v = .ref T ∧ H T = none ∧ H' = upd H T (.tup [.int (i : Nat), x]) ∧ ∀ xs, SqT K H a xs → xs[i]? = some x,
   fun i H => ∃ xs : List V, SqT K H a xs ∧ xs.length ≤ i⟩

theorem turn_enumT {P : Program} {w : World} {K : PySem.W.Frag} {elts : List Expr} {kk : Nat} {tpos : Pos} (a e it : Addr) :
    Turn P w K (.Tuple elts kk tpos) (Iet K a) [e, it] e (fun i h => (∃ old, IsEnum h e it ((i : Nat) : Int) old) ∧ h.IsTupleIter it a i ∧ e ≠ it) where
  mem := by simp
  obj := by
    intro i h st b hb
    obtain ⟨⟨old, he⟩, ⟨o, ho, hc, hd⟩, _⟩ := st
    rcases (show b = e ∨ b = it by simpa using hb) with z | z
    · subst z
      exact ⟨_, he, fun v q => nomatch q⟩
    · subst z
      refine ⟨o, ho, ?_⟩
      intro v q
      rw [hd] at q
      cases q
  keep := by
    intro i h h' st k
    obtain ⟨⟨old, he⟩, hi, hne⟩ := st
    exact ⟨⟨old, k e (by simp) _ he⟩, hi.at fun o q => k it (by simp) o q, hne⟩
  item := by
    intro X hP hw hK hc i pins s σ H E I hf st hg
    subst hP hw hK
    obtain ⟨⟨old, he⟩, hit, hne⟩ := st
    obtain ⟨xs, x, hq, hx⟩ := hg
    obtain ⟨its, rv, p, hz⟩ := I.tuple hq
    obtain ⟨u, hu, ru⟩ := rv.get hx
    have hel : e < s.heap.objs.size := Heap.lt_size he
    have hil : it < s.heap.objs.size := by
      obtain ⟨_, q, _⟩ := hit
      exact Heap.lt_size q
    have pT : s.heap.IsTuple a its.toArray := p
    have nEa : e ≠ a := by
      intro z
      obtain ⟨o, ho, _, n, hd⟩ := pT
      have he' := he
      unfold IsEnum at he'
      rw [z, ho] at he'
      cases he'
      cases hd
    have nIa : a ≠ it := by
      intro z
      obtain ⟨o, ho, _, n, hd⟩ := pT
      obtain ⟨o2, ho2, _, hd2⟩ := hit
      rw [z, ho2] at ho
      cases ho
      rw [hd2] at hd
      cases hd
    have D := Draws.tuple (prog := X.prog) (w := X.w) (A := X.A.in1) (I.ok.hd hc) it a nIa its.toArray
    have hi : i < its.toArray.size := by
      have l1 := (List.getElem?_eq_some_iff.mp hx).1
      have l2 := rv.length
      simp
      omega
    refine wpAny_pyNext_enum_itemD D he ⟨hit, pT⟩ hi hne (by simp; exact ⟨hne, nEa⟩) fun y h' tk hy ho hst' hT hsz hk => ?_
    have ey : y = u := by
      have q : its.toArray[i]? = some y := hy
      rw [List.getElem?_toArray] at q
      exact Option.some.inj (q.symm.trans hu)
    subst ey
    refine ⟨_, rfl, wpAny_letOwnedTupleGo_enum (s := { s with heap := h', toks := tk + 1 }) ho fun h'' he' sb => ?_⟩
    have hT2 : h''.get? s.heap.objs.size = some { cls := .type "tuple", data := .seq #[.int i tk, y] } := (sb.2 _ (Nat.ne_of_gt hel)).trans hT
    have new : ObjOk X.prog X.w (upd H s.heap.objs.size (.tup [.int (i : Nat), x])) h'' s.heap.objs.size (.tup [.int (i : Nat), x]) :=
      ⟨by show 2 ≤ sizeLine; decide, [.int i tk, y], .cons ⟨_, rfl⟩ (.cons ru .nil), ⟨_, hT2, rfl, _, rfl⟩⟩
    have kk2 : ∀ b o, b ∉ [e, it] → s.heap.get? b = some o → h''.get? b = some o := by
      intro b o hb q
      have b1 : b ≠ e := fun z => hb (by simp [z])
      have b2 : b ≠ it := fun z => hb (by simp [z])
      exact (sb.2 b b1).trans (hk b o b1 b2 q)
    have I1 : Inv X pins σ (upd H s.heap.objs.size (.tup [.int (i : Nat), x])) { s with heap := h'', toks := tk + 1 } :=
      I.turnedNew (ch := [e, it]) kk2 hf (Nat.le_refl _) new
    refine ⟨.ref s.heap.objs.size, _, I1, rfl, ⟨_, x, rfl, I.hok.fresh (Nat.le_refl _), rfl, fun ys hy => by rw [I.tuple_inj hy hq]; exact hx⟩, ⟨⟨y, ?_⟩, hst'.1.at fun o q => (sb.2 it (Ne.symm hne)).trans q, hne⟩, ?_⟩
    · have e1 : ((i + 1 : Nat) : Int) = (i : Int) + 1 := by omega
      rw [e1]
      exact he'
    · intro b hb
      have hb' : b < s.heap.objs.size := by
        rcases (show b = e ∨ b = it by simpa using hb) with z | z
        · rw [z]; exact hel
        · rw [z]; exact hil
      rw [upd_ne (Nat.ne_of_lt hb')]
      exact (hf b hb).1
  done := by
    intro X hP hw hK hc i pins s σ H E I hf st hg
    subst hP hw hK
    obtain ⟨⟨old, he⟩, hit, hne⟩ := st
    obtain ⟨xs, hq, hx⟩ := hg
    obtain ⟨its, rv, p, hz⟩ := I.tuple hq
    have pT : s.heap.IsTuple a its.toArray := p
    have nIa : a ≠ it := by
      intro z
      obtain ⟨o, ho, _, n, hd⟩ := pT
      obtain ⟨o2, ho2, _, hd2⟩ := hit
      rw [z, ho2] at ho
      cases ho
      rw [hd2] at hd
      cases hd
    obtain ⟨f0, f1, f2, f3, f4, f5⟩ := hf it (by simp)
    have hl := rv.length
    have D : Draws X.prog X.w X.A.in1 it [it, a] i (fun _ _ => False) (fun j h => j = i ∧ h.IsTupleIter it a i ∧ h.IsTuple a its.toArray) :=
      { live := fun _ _ st => let ⟨o, ho, _⟩ := st.2.1; ⟨o, ho⟩
        frame := fun _ _ _ st hk => ⟨st.1, st.2.1.at fun o e => hk it (by simp) o e, st.2.2.at fun o e => hk a (by simp) o e⟩
        item := fun j s Q E hj st hQ => absurd st.1 (Nat.ne_of_lt hj)
        done := fun s Q E st hE => wpAny_nextOf_tuple_end (I.ok.hd hc) st.2.1 st.2.2 (by simp; omega) hE }
    exact wpAny_pyNext_enum_endD D he ⟨rfl, hit, pT⟩ fun h' eb => ⟨rfl, I.turned (t' := s.toks) (fun b o hb q => eb b o hb q) f0 f1 f3 f4 f5⟩
  self := by
    intro A i s Q E st h
    obtain ⟨⟨_, he⟩, _⟩ := st
    exact wpAny_pyIter_enum he h

def iEnumT (K : PySem.W.Frag) (ta : TA) : TI := fun σ H R => ta σ H fun vs H1 => ∃ a xs, vs = [.ref a] ∧ SqT K H1 a xs ∧ R (Iet K a) H1
theorem pi_enumT {X : Cx} {e : Expr} {ta : TA} {p pos tpos : Pos} {elts : List Expr} {kk : Nat} (hg : Gl X "enumerate") (hm : X.mg "enumerate" = none) (ha : PA X [e] ta)
    (hs : starEach [e] X.env = [(false, eval e X.env)] := by rfl) :
    PI X (.Tuple elts kk tpos) (.Call (.Name "enumerate" p) [e] [] pos) (iEnumT X.K ta) := by
  refine ⟨fun pins s σ H R I h => ?_⟩
  refine Call_ (ld_blt I hg hm boot_enumerate (PyProof.Rows.callWith_type1 (thn (ha.run pos pins s σ H _ I h) ?_) hs rfl))
  rintro us s1 ⟨vs, H1, I1, r1, a, xs, rfl, hq, q⟩
  obtain ⟨its, rv, p', hz⟩ := I1.tuple hq
  cases r1 with
  | cons r rr =>
    cases rr
    cases r
    have pT : s1.heap.IsTuple a its.toArray := p'
    refine enum_call1 (begins_tuple a its.toArray) pT fun h' he hit hk => wpAny_pyIter_enum he ?_
    have I2 : Inv X pins σ H1 { s1 with heap := h' } := I1.kept (t' := s1.toks) hk
    refine ⟨s1.heap.objs.size + 1, [s1.heap.objs.size + 1, s1.heap.objs.size], _, _, H1, rfl, I2, turn_enumT a (s1.heap.objs.size + 1) s1.heap.objs.size, ⟨⟨.none, he⟩, ⟨_, hit, rfl, rfl⟩, Nat.succ_ne_self _⟩, ?_, q⟩
    intro b hb
    have hle : s1.heap.objs.size ≤ b := by
      rcases (show b = s1.heap.objs.size + 1 ∨ b = s1.heap.objs.size by simpa using hb) with z | z
      · rw [z]; exact Nat.le_succ _
      · rw [z]; exact Nat.le_refl _
    exact I1.fpOk hle (I1.hok.fresh hle)
end UG


set_option Elab.async false
set_option linter.all false
set_option maxRecDepth 100000
set_option maxHeartbeats 4000000
namespace UG
open PySem PySem.Spec PyProof.Rows L2

/-! ### t[::-1], t a tuple -/
theorem fm_congr {α β : Type} {f g : α → Option β} : ∀ {l : List α}, (∀ x ∈ l, f x = g x) → l.filterMap f = l.filterMap g
  | [], _ => rfl
  | x :: r, h => by
    rw [List.filterMap_cons, List.filterMap_cons, h x List.mem_cons_self, fm_congr fun y hy => h y (List.mem_cons_of_mem _ hy)]
theorem adj_back (n : Nat) : Builtin.Slice.sliceAdjust none none (-1) (n : Int) = ((n : Int) - 1, -1) := rfl
theorem plc_back (n : Nat) : Builtin.Slice.slicePlaces ((n : Int) - 1) (-1) (-1) = n := by
  unfold Builtin.Slice.slicePlaces
  rw [if_neg (by decide)]
  by_cases h : (n : Int) - 1 > -1
  · rw [if_pos h]
    have e : ((n : Int) - 1 - -1 - 1) / (- -1) + 1 = (n : Int) := by
      rw [show (- -1 : Int) = 1 by decide, Int.ediv_one]
      omega
    rw [e]
    rfl
  · rw [if_neg h]
    have e : n = 0 := by omega
    subst e
    rfl
section
variable {prog : Program} {w : World} {A : Around} {E : Value → Shared → Prop} {s : Shared}
theorem applied_back {sl : Addr} {vl vu vs : Value} {n : Nat} {Q : Int × Int × Nat → Shared → Prop} (hs : s.heap.IsSliceOf sl vl vu vs) (pl : IsPart vl none) (pu : IsPart vu none) (ps : IsPart vs (some (-1)))
    (h : Q ((n : Int) - 1, -1, n) s) : wpAny (model prog w) A (Builtin.Slice.sliceApplied (.ref sl) (pure (n : Int))) Q E s := by
  obtain ⟨ob, hob, hc, hd⟩ := id hs
  unfold Builtin.Slice.sliceApplied Builtin.Slice.sliceFields
  refine wpAny_bind (wpAny_bind (wpAny_field hob hd (x := vl) rfl (wpAny_bind (wpAny_field hob hd (x := vu) rfl (wpAny_bind (wpAny_field hob hd (x := vs) rfl (wpAny_pure ?_)))))))
  refine wpAny_bind (HT.slicePart_ ps ?_)
  show wpAny _ _ (if ((-1 : Int) == 0) = true then _ else _) _ _ s
  rw [if_neg (by decide)]
  refine wpAny_bind (HT.slicePart_ pl (wpAny_bind (HT.slicePart_ pu (wpAny_bind (wpAny_pure ?_)))))
  show wpAny _ _ (match Builtin.Slice.sliceAdjust none none (-1) (n : Int) with | (lo, hi) => pure (lo, (-1 : Int), Builtin.Slice.slicePlaces lo hi (-1))) _ _ s
  rw [adj_back]
  show wpAny _ _ (pure ((n : Int) - 1, (-1 : Int), Builtin.Slice.slicePlaces ((n : Int) - 1) (-1) (-1))) _ _ s
  rw [plc_back]
  exact wpAny_pure h
theorem pick_back (xs : Array Value) : ((List.range xs.size).filterMap fun (m : Nat) => xs[((xs.size : Int) - 1 + (m : Int) * -1).toNat]?).toArray = xs.toList.reverse.toArray := by
  have e : ∀ m ∈ List.range xs.size, (fun (m : Nat) => xs[((xs.size : Int) - 1 + (m : Int) * -1).toNat]?) m = (fun m => xs[xs.size - 1 - m]?) m := by
    intro m hm
    have hm' := List.mem_range.mp hm
    have q : ((xs.size : Int) - 1 + (m : Int) * -1).toNat = xs.size - 1 - m := by omega
    show xs[((xs.size : Int) - 1 + (m : Int) * -1).toNat]? = _
    rw [q]
  have e2 : (List.range xs.size).filterMap (fun (m : Nat) => xs[((xs.size : Int) - 1 + (m : Int) * -1).toNat]?) = (List.range xs.size).filterMap (fun m => xs[xs.size - 1 - m]?) := fm_congr e
  rw [e2]
  have e3 : (List.range xs.size).filterMap (fun m => xs[xs.size - 1 - m]?) = ((List.range xs.size).map (fun k => xs.size - 1 - k)).filterMap (xs[·]?) := by
    rw [List.filterMap_map]
    rfl
  rw [e3, PySem.W.krv_range, List.filterMap_reverse, PySem.W.krv_all]
theorem getItem_tupBack {t sl : Addr} {items : Array Value} {vl vu vs : Value} {Q : Value → Shared → Prop} (ht : IsTup s.heap t items) (hs : s.heap.IsSliceOf sl vl vu vs) (pl : IsPart vl none) (pu : IsPart vu none) (ps : IsPart vs (some (-1)))
    (h : Q (.ref s.heap.objs.size) { s with heap := s.heap.push { cls := .type "tuple", data := .seq items.toList.reverse.toArray } })
    (hsz : items.size ≤ sizeLine) : wpAny (model prog w) A (getItem (.ref t) (.ref sl)) Q E s := by
  obtain ⟨os, hos, hcs, hds⟩ := id hs
  have tS : s.TypeIs (.ref sl) "slice" := ⟨os, hos, hcs⟩
  unfold getItem
  try with_reducible refine wpAny_holding ?_
  first | refine wpAny_bind (wpAny_pure ?_) | skip
  refine wpAny_bind (wpAny_sequenceKey ht.typeIs (by decide) ?_)
  refine wpAny_bind (wpAny_callSpecial?_slot (name := Str.ofString "__getitem__") ht.typeIs PyProof.Rows.slot_tuple_getitem (wpAny_call_entry PyProof.Rows.slot_tuple_getitem ht.typeIs entry_tuple_getitem ?_ (args_tuple_getitem _ _)))
  show wpAny _ _ (Builtin.Tuple.tupleItemsOf (.ref t) >>= _) _ _ s
  refine wpAny_bind (tupleItemsOf_ ht ?_)
  refine wpAny_bind (wpAny_typeOf tS ?_)
  rw [if_pos (by decide)]
  refine wpAny_bind (applied_back hs pl pu ps ?_)
  have no : ¬ ((((items.size : Int) - 1) == 0 && (-1 : Int) == 1 && items.size == items.size) = true) := by
    intro q
    rw [Bool.and_eq_true, Bool.and_eq_true] at q
    exact absurd q.1.2 (by decide)
  show wpAny _ _ (if (((items.size : Int) - 1) == 0 && (-1 : Int) == 1 && items.size == items.size) = true then _ else _) _ _ s
  rw [if_neg no]
  rw [pick_back]
  have fit : sizeOk (.seq items.toList.reverse.toArray) := by
    show items.toList.reverse.toArray.size ≤ sizeLine
    simpa using hsz
  exact wpAny_bind (m := Builtin.Tuple.tupleExact _) (wpAny_newObj_type (wpAny_pure ⟨_, rfl, wpAny_pure h⟩) fit)
end
section
variable {X : Cx}
def tRevT (K : PySem.W.Frag) (te : TE) : TE := fun σ H Q => te σ H fun x H1 => ∃ a xs, x = .ref a ∧ SqT K H1 a xs ∧ ∀ p, H1 p = none → Q (.ref p) (upd H1 p (.tup xs.reverse))
theorem pe_revT {e : Expr} {te : TE} {k : Nat} {p1 p2 p3 pos : Pos} (he : PE X e te) : PE X (.Subscript e (.Slice none none (some (.UnaryOp .USub (.Constant (.int 1) k p1) p2)) p3) pos) (tRevT X.K te) := by
  refine ⟨fun pins s σ H Q I h => ?_⟩
  refine Subscript_ (thn (he.run pins s σ H _ I h) ?_)
  rintro v s1 ⟨x, H1, I1, r1, a, xs, rfl, hx, q⟩
  cases r1
  have part : PO X (some (.UnaryOp .USub (.Constant (.int 1) k p1) p2)) (tPart (tUn (rU fun i => .int (-i)) (tC (.int 1)))) := po_some (pe_un un_neg pe_int)
  refine wpAny_Slice (thn (po_none.run pins s1 σ H1 (fun o H2 => o = none ∧ H2 = H1) I1 ⟨rfl, rfl⟩) ?_)
  rintro vl s2 ⟨l, H2, I2, pl, rfl, rfl⟩
  refine thn (po_none.run pins s2 σ H2 (fun o H3 => o = none ∧ H3 = H2) I2 ⟨rfl, rfl⟩) ?_
  rintro vu s3 ⟨u, H3, I3, pu, rfl, rfl⟩
  refine thn (part.run pins s3 σ H3 (fun o H4 => o = some (-1) ∧ H4 = H3) I3 ⟨1, rfl, -1, rfl, rfl, rfl⟩) ?_
  rintro vs s4 ⟨o, H4, I4, ps, rfl, rfl⟩
  have I5 : Inv X pins σ H4 { s4 with heap := s4.heap.push { cls := .type "slice", data := .fields #[vl, vu, vs] } } := I4.kept (t' := s4.toks) fun b ob e => Heap.get?_push_of_some _ e
  obtain ⟨its, r, ht, hz⟩ := I5.tuple hx
  have hl := r.length
  show wpAny _ X.A (subscriptTail e (.Slice none none (some (.UnaryOp .USub (.Constant (.int 1) k p1) p2)) p3) (.ref a) (.ref s4.heap.objs.size)) _ X.xe { s4 with heap := s4.heap.push { cls := .type "slice", data := .fields #[vl, vu, vs] } }
  refine tail_any (ops := [.ref a, .ref s4.heap.objs.size]) ht.typeIs PyProof.Rows.slot_tuple_getitem.lookup ?_ (by with_unfolding_all rfl)
  refine getItem_tupBack ht (Heap.IsSliceOf.new _ vl vu vs) pl pu ps ?_ (by rw [List.size_toArray]; omega)
  refine ⟨.ref _, _, I5.laid (t' := s4.toks) (o := .tup xs.reverse) (fun b ob e => Heap.get?_push_of_some _ e) (Nat.le_refl _) ?_, rfl, q _ (I5.hok.fresh (Nat.le_refl _))⟩
  exact ⟨by rw [List.length_reverse]; exact hz, _, r.reverse, IsTup.new _ _⟩

/-- t * n, some million items at most -/
def rRepB (K : PySem.W.Frag) : R2 := fun x y H Q => ∃ l k xs, x = .ref l ∧ y = .int k ∧ SqT K H l xs ∧ xs ≠ [] ∧ 2 ≤ k ∧ k ≤ 1000000 ∧ ((xs.length : Nat) : Int) * k ≤ 1000000 ∧
  ∀ p, H p = none → Q (.ref p) (upd H p (.tup (List.replicate k.toNat xs).flatten))
theorem op_repB : OpR X (binaryOp .Mult) (rRepB X.K) := by
  intro pins s σ H x y v u Q I rx ry h
  obtain ⟨l, k, xs, rfl, rfl, hT, hne, h1, h2, hz, q⟩ := h
  cases rx
  obtain ⟨t, rfl⟩ := ry
  obtain ⟨its, r, ⟨⟨cls, dd, data, sl⟩, ho, hc, n, hd⟩, hs⟩ := I.tuple hT
  simp only at hc hd
  subst hc hd
  have len : its.length = xs.length := r.length.symm
  have its0 : its ≠ [] := by
    rintro rfl
    exact hne (List.eq_nil_of_length_eq_zero len.symm)
  have emp : its.toArray.isEmpty = false := by
    cases its with
    | nil => exact absurd rfl its0
    | cons a b => rfl
  have sz : its.toArray.size = xs.length := by rw [List.size_toArray, len]
  have kk : ((k.toNat : Nat) : Int) = k := by omega
  have prod : k.toNat * xs.length ≤ 1000000 := by
    have q1 : ((k.toNat * xs.length : Nat) : Int) ≤ 1000000 := by
      rw [Int.natCast_mul, kk, Int.mul_comm]
      exact hz
    omega
  have bound : ((its.toArray.size : Nat) : Int) * k ≤ 1000000 := by rw [sz]; exact hz
  have flat : (List.replicate k.toNat its).flatten.length ≤ sizeLine := by
    rw [PyProof.Rows.lm_len_rep_flat, len, sizeLine_eq]
    omega
  have a0 : (decide (k < -(2 ^ 63)) || decide (k ≥ 2 ^ 63)) = false := by
    rw [decide_eq_false (by omega), decide_eq_false (by omega)] <;> rfl
  have a1 : (its.toArray.isEmpty || k == 1) = false := by
    rw [emp, Bool.false_or]
    exact beq_eq_false_iff_ne.mpr (by omega)
  have a2 : (decide (k ≤ 0) || its.toArray.isEmpty) = false := by
    rw [emp, Bool.or_false]
    exact decide_eq_false (by omega)
  have a4 : Builtin.Tuple.tupleTooMany (((its.toArray.size : Nat) : Int) * k) = false := by
    unfold Builtin.Tuple.tupleTooMany
    rw [sizeLine_eq]
    exact decide_eq_false (by omega)
  have mul := tuple_mulW l its.toArray n dd sl k t a0 a1 a2 (by omega) a4 (by rw [size_rep, List.size_toArray]; exact flat)
  have fin : EP X pins σ Q (Value.ref s.heap.objs.size) { s with heap := s.heap.push { cls := Value.type "tuple", data := Data.seq (List.foldl (fun x1 x2 => x1 ++ x2) #[] (List.replicate k.toNat its.toArray)) }, toks := s.toks } := by
    rw [size_rep]
    refine ⟨.ref s.heap.objs.size, _, I.laid (t' := s.toks) (o := .tup (List.replicate k.toNat xs).flatten) (fun b ob e => Heap.get?_push_of_some _ e) (Nat.le_refl _) ?_, rfl, q _ (I.hok.fresh (Nat.le_refl _))⟩
    refine ⟨?_, _, r.rep k.toNat, IsTup.new _ _⟩
    rw [PyProof.Rows.lm_len_rep_flat, sizeLine_eq]
    omega
  have tl : s.TypeIs (.ref l) "tuple" := ⟨_, ho, rfl⟩
  exact wpAny_binaryOp_repeat_ref (T := "tuple") (U := "int") (by decide) tl (fun s' => typeIs_int s' k t) noFill_tuple_mul F.fills_int_mul F.slot_int_rmul repeat_tuple F.slot_int_index.lookup
    (call_meets F.slot_int_rmul (typeIs_int s k t) F.entry_int_rmul (F.args_int_rmul_2 _ _) (int_rmul_tuple k t l its.toArray n dd sl) ⟨ho, rfl, tl, call_meets F.slot_tuple_mul tl F.entry_tuple_mul (F.args_tuple_mul_2 _ _) mul ⟨ho, fin⟩⟩)
end
end UG


set_option Elab.async false
set_option linter.all false
set_option maxRecDepth 100000
set_option maxHeartbeats 4000000
namespace K12
open PySem PySem.Spec PyProof.Rows L2

def topS (i : Nat) : Stmt := PySem.Challenge.pw_undoneall_k12_whole_places.main.body.getD i (.Pass ⟨0, 0, 0, 0⟩)

/-! ### data -/
def tyN : PyData → String
  | .none => "NoneType"
  | .bool _ => "bool"
  | .int _ => "int"
  | .str _ => "str"
  | .list _ => "list"
  | .tuple _ => "tuple"
  | .dict _ => "dict"
theorem dp_ty {K : PySem.W.Frag} {H : Hp} {v : V} {d : PyData} (h : Dp K H v d) : TyX K H v (.type (tyN d)) := by
  cases h with
  | non => exact .base .non
  | bl b => exact .base (.bl b)
  | int i => exact .base (.int i)
  | str x => exact .base (.str x)
  | lst hs _ =>
    rcases hs with (h | ⟨o, h⟩) | ⟨o, its, n, hk, hc, _⟩
    · exact .base (.lst h)
    · exact .base (.frz h)
    · exact .kList hk hc
  | tup hs _ =>
    rcases hs with (h | ⟨o, h⟩) | ⟨o, its, n, hk, hc, _⟩
    · exact .base (.tup h)
    · exact .fTuple h
    · exact .kTuple hk hc
/-- all but tables stay -/
theorem sq_ext {K : PySem.W.Frag} {H H' : Hp} {a : Addr} {xs : List V} (e : LamX.ExtN H H') (h : SqL K H a xs) : SqL K H' a xs := by
  rcases h with (h | ⟨o, h⟩) | h
  · exact .inl (.inl (e _ _ h (fun _ z => by cases z)))
  · exact .inl (.inr ⟨o, e _ _ h (fun _ z => by cases z)⟩)
  · exact .inr h
theorem sqt_ext {K : PySem.W.Frag} {H H' : Hp} {a : Addr} {xs : List V} (e : LamX.ExtN H H') (h : SqT K H a xs) : SqT K H' a xs := by
  rcases h with (h | ⟨o, h⟩) | h
  · exact .inl (.inl (e _ _ h (fun _ z => by cases z)))
  · exact .inl (.inr ⟨o, e _ _ h (fun _ z => by cases z)⟩)
  · exact .inr h
mutual
theorem dp_ext {K : PySem.W.Frag} {H H' : Hp} (e : LamX.ExtN H H') : ∀ (d : PyData) {v : V}, Dp K H v d → Dp K H' v d
  | .none, _, h => by cases h; exact .non
  | .bool _, _, h => by cases h; exact .bl _
  | .int _, _, h => by cases h; exact .int _
  | .str _, _, h => by cases h; exact .str _
  | .list ds, _, h => by
    cases h with
    | lst hs ha => exact .lst (sq_ext e hs) (dps_ext e ds ha)
  | .tuple ds, _, h => by
    cases h with
    | tup hs ha => exact .tup (sqt_ext e hs) (dps_ext e ds ha)
  | .dict _, _, h => by cases h
theorem dps_ext {K : PySem.W.Frag} {H H' : Hp} (e : LamX.ExtN H H') : ∀ (ds : List PyData) {vs : List V}, DpAll K H vs ds → DpAll K H' vs ds
  | [], _, h => by cases h; exact .nil
  | d :: ds, _, h => by
    cases h with
    | cons h1 h2 => exact .cons (dp_ext e d h1) (dps_ext e ds h2)
end
theorem same_ext {H H' : Hp} (h : Same H H') : LamX.ExtN H H' := fun b o e _ => h b o e
theorem dps_len {K : PySem.W.Frag} {H : Hp} : ∀ {vs : List V} {ds : List PyData}, DpAll K H vs ds → vs.length = ds.length
  | _, _, .nil => rfl
  | _, _, .cons _ t => congrArg Nat.succ (dps_len t)
theorem dps_get {K : PySem.W.Frag} {H : Hp} : ∀ {vs : List V} {ds : List PyData} {i : Nat} {d : PyData}, DpAll K H vs ds → ds[i]? = some d → ∃ v, vs[i]? = some v ∧ Dp K H v d
  | _, _, _, _, .nil, e => by simp at e
  | _, _, 0, _, .cons h t, e => by
    simp at e
    subst e
    exact ⟨_, rfl, h⟩
  | _, _, i + 1, _, .cons h t, e => by
    obtain ⟨v, h1, h2⟩ := dps_get (i := i) t (by simpa using e)
    exact ⟨v, by simpa using h1, h2⟩
theorem dps_get' {K : PySem.W.Frag} {H : Hp} {vs : List V} {ds : List PyData} {i : Nat} {v : V} (h : DpAll K H vs ds) (e : vs[i]? = some v) : ∃ d, ds[i]? = some d ∧ Dp K H v d := by
  have hl := dps_len h
  have hi := (List.getElem?_eq_some_iff.mp e).1
  have e2 : ds[i]? = some (ds[i]'(by omega)) := List.getElem?_eq_getElem (by omega)
  obtain ⟨v', h1, h2⟩ := dps_get h e2
  rw [e] at h1
  cases h1
  exact ⟨_, e2, h2⟩
theorem same_new {H : Hp} {p : Addr} (h : H p = none) (o : HO) : Same H (upd H p o) := fun b u q => by rw [upd_ne (ne_of_none q h)]; exact q

/-! ### what the judges tell -/
def rowD (d : PyData) (lo hi : Int) : Bool := match d with
  | .tuple ds => decide (lo ≤ (ds.length : Int)) && decide ((ds.length : Int) ≤ hi)
  | _ => false
def smallL : Str := "abcdefghijklmnopqrstuvwxyz"
def wordS : Str := "abcdefghijklmnopqrstuvwxyz0123456789"
def keptW : List Str := ["call", "choose", "do", "ensure", "finally", "letters", "loop", "or", "proc", "return", "undo"]

/-! ### the module's facts -/
structure Bl (K : PySem.W.Frag) (mg : Str → Option Value) : Prop where
  isi : mg "isinstance" = none
  int : mg "int" = none
  bool : mg "bool" = none
  str : mg "str" = none
  tuple : mg "tuple" = none
  len : mg "len" = none
  abs : mg "abs" = none
  all : mg "all" = none
  range : mg "range" = none
  enumerate : mg "enumerate" = none
  reversed : mg "reversed" = none
  repr : mg "repr" = none
  MOST_SIGNS : ∃ t, mg "MOST_SIGNS" = some (.int 10 t)
  MOST_LETTERS : ∃ t, mg "MOST_LETTERS" = some (.int 20 t)
  MOST_PROCEDURES : ∃ t, mg "MOST_PROCEDURES" = some (.int 8 t)
  LEAST_BODIES : ∃ t, mg "LEAST_BODIES" = some (.int 2 t)
  MOST_BODIES : ∃ t, mg "MOST_BODIES" = some (.int 6 t)
  MOST_IN_BODY : ∃ t, mg "MOST_IN_BODY" = some (.int 60 t)
  MOST_STATEMENTS : ∃ t, mg "MOST_STATEMENTS" = some (.int 200 t)
  LONGEST_CHAIN : ∃ t, mg "LONGEST_CHAIN" = some (.int 12 t)
  MOST_PLACES : ∃ t, mg "MOST_PLACES" = some (.int 300 t)
  SMALL_LETTERS : ∃ t, mg "SMALL_LETTERS" = some (.str smallL t)
  WORD_SIGNS : ∃ t, mg "WORD_SIGNS" = some (.str wordS t)
  KEPT_WORDS : ∃ a, mg "KEPT_WORDS" = some (.ref a) ∧ ∀ H, SqT K H a (keptW.map V.str)
  END : ∃ a, mg "END" = some (.ref a) ∧ ∀ H, SqT K H a [.str "end"]

def isiN (c n : String) : Bool := n == c || (c == "int" && n == "bool")
def isiD (c : String) (d : PyData) : Bool := isiN c (tyN d)
theorem kit_names : ∀ n ∈ ["NoneType", "bool", "int", "str", "list", "tuple", "dict"], ∀ c ∈ ["int", "bool", "str", "tuple"], kitB n c = some (isiN c n) := by decide +kernel
theorem kit_d {K : PySem.W.Frag} (d : PyData) {c : String} (hc : c ∈ ["int", "bool", "str", "tuple"]) : PySem.W.kitOne K (.type (tyN d)) (.type c) = some (isiD c d) :=
  kit_ty (kit_names (tyN d) (by cases d <;> simp [tyN]) c hc)
section
variable {X : Cx}
/-- isinstance(x, T) of data -/
def rIsD (K : PySem.W.Frag) (c : String) : List V → Hp → VK → Prop := fun xs H Q => ∃ v d, xs = [v, .ty c] ∧ Dp K H v d ∧ Q (.bl (isiD c d)) H
theorem call_isD (c : String) (hc : c ∈ ["int", "bool", "str", "tuple"]) : CallR X (.builtin "isinstance") (rIsD X.K c) := by
  intro pins s σ H xs us Q I r h
  obtain ⟨v, d, rfl, hd, q⟩ := h
  exact call_isi pins s σ H _ us Q I r ⟨v, .ty c, _, _, _, rfl, .ty c, dp_ty hd, kit_d d hc, q⟩
/-- isinstance(e, T) as a value -/
theorem pe_isD {e : Expr} {te : TE} {c : String} {x : Str} {p1 p2 p3 : Pos} (B : Bl X.K X.mg) (he : PE X e te) (hg : Gl X "isinstance") (hx : Gl X x) (hm : X.mg x = none) (hb : bootBuiltins x = some (.type c)) (hc : c ∈ ["int", "bool", "str", "tuple"])
    (hn : x ≠ "__name__" := by decide) (hdb : (x == ("__debug__" : Str)) = false := by decide) (hs1 : starEach [e, .Name x p3] X.env = (false, eval e X.env) :: starEach [.Name x p3] X.env := by rfl)
    (hs2 : starEach [.Name x p3] X.env = (false, eval (.Name x p3) X.env) :: starEach [] X.env := by rfl) (hpl : (backTo p2 (starEach [.Name x p3] X.env)).any (·.1) = false := by rfl) :
    PE X (.Call (.Name "isinstance" p1) [e, .Name x p3] [] p2) (tCB (rIsD X.K c) (tCons te (tCons (tC (.ty c)) tNil))) :=
  pe_callB (pos := p2) (p := p1) (call_isD c hc) hg B.isi (by decide +kernel) (pa_cons he (pa_cons (pe_bltn (v := .ty c) (pos := p3) hx hm hb rfl hn hdb) pa_nil hs2) hs1) (by decide) (by decide) hs1 hpl
end
end K12


set_option Elab.async false
set_option linter.all false
set_option maxRecDepth 100000
set_option maxHeartbeats 8000000
namespace K12
open PySem PySem.Spec PyProof.Rows L2
/-! ### the heap without some addresses -/
def cutL (as : List Addr) (H : Hp) : Hp := fun p => if p ∈ as then none else H p
theorem cutL_ext {as : List Addr} {H : Hp} : Same (cutL as H) H := fun p o h => by
  unfold cutL at h
  split at h
  · cases h
  · exact h
theorem cutL_get {as : List Addr} {H : Hp} {p : Addr} (n : p ∉ as) : cutL as H p = H p := if_neg n
/-- all but some addresses stays -/
def Kp (as : List Addr) (H H' : Hp) : Prop := ∀ p o, p ∉ as → H p = some o → H' p = some o
theorem Kp.refl {as : List Addr} (H : Hp) : Kp as H H := fun _ _ _ h => h
theorem Kp.trans {as : List Addr} {H H' H2 : Hp} (a : Kp as H H') (b : Kp as H' H2) : Kp as H H2 := fun p o x h => b p o x (a p o x h)
theorem Kp.of_same {as : List Addr} {H H' : Hp} (s : Same H H') : Kp as H H' := fun p o _ h => s p o h
theorem Kp.put {as : List Addr} {H : Hp} {a : Addr} (o : HO) (ha : a ∈ as) : Kp as H (upd H a o) := fun p o' x h => by
  rw [upd_ne (fun z => x (by rw [z]; exact ha))]
  exact h
theorem Kp.new {as : List Addr} {H : Hp} {a : Addr} (o : HO) (ha : H a = none) : Kp as H (upd H a o) := Kp.of_same (same_new ha o)
theorem Kp.mono {as bs : List Addr} {H H' : Hp} (h : Kp as H H') (s : ∀ a ∈ as, a ∈ bs) : Kp bs H H' := fun p o x e => h p o (fun z => x (s p z)) e
theorem Kp.cut {as : List Addr} {H H' : Hp} (h : Kp as H H') : Same (cutL as H) (cutL as H') := fun p o x => by
  unfold cutL at x ⊢
  split at x
  · cases x
  · next n =>
    rw [if_neg n]
    exact h p o n x
theorem Kp.same {as : List Addr} {H H' H0 : Hp} (s : Same H0 (cutL as H)) (h : Kp as H H') : Same H0 (cutL as H') := s.trans h.cut
theorem cut_same {as : List Addr} {H H' : Hp} (s : Same H H') (n : ∀ a ∈ as, H a = none) : Same H (cutL as H') := fun p o e => by
  rw [cutL_get (fun z => by rw [n p z] at e; cases e)]
  exact s p o e
theorem cut_back {as : List Addr} {H H0 : Hp} (s : Same H0 (cutL as H)) : Same H0 H := s.trans cutL_ext
theorem cut_le {as bs : List Addr} {H : Hp} (s : ∀ a ∈ as, a ∈ bs) : Same (cutL bs H) (cutL as H) := fun p o e => by
  by_cases h : p ∈ bs
  · unfold cutL at e; rw [if_pos h] at e; cases e
  · rw [cutL_get h] at e
    rw [cutL_get (fun z => h (s p z))]
    exact e
theorem cut_upd {as : List Addr} {H : Hp} {a : Addr} {o : HO} (n : a ∉ as) : cutL as (upd H a o) a = some o := by rw [cutL_get n]; exact upd_same
theorem sameE {H H' : Hp} (s : Same H H') : LamX.ExtN H H' := same_ext s
/-! ### programs -/
inductive St where
  | dd (x : Str)
  | ud (x : Str)
  | cl (x : Str)
  | ch (bs : List (List St))
  | lp (b : List St)
  | rt
  | en (b c : List St)
mutual
def St.d : St → PyData
  | .dd x => .tuple [.str "do", .str x]
  | .ud x => .tuple [.str "undo", .str x]
  | .cl x => .tuple [.str "call", .str x]
  | .ch bs => .tuple [.str "choose", .tuple (dss bs)]
  | .lp b => .tuple [.str "loop", .tuple (ds b)]
  | .rt => .tuple [.str "return"]
  | .en b c => .tuple [.str "ensure", .tuple (ds b), .tuple (ds c)]
def ds : List St → List PyData
  | [] => []
  | s :: r => s.d :: ds r
def dss : List (List St) → List PyData
  | [] => []
  | b :: r => .tuple (ds b) :: dss r
end
theorem ds_map : ∀ b : List St, ds b = b.map St.d
  | [] => rfl
  | s :: r => by rw [ds, ds_map r]; rfl
theorem dss_map : ∀ b : List (List St), dss b = b.map fun b => .tuple (ds b)
  | [] => rfl
  | s :: r => by rw [dss, dss_map r]; rfl
theorem ds_len (b : List St) : (ds b).length = b.length := by rw [ds_map, List.length_map]
theorem dss_len (b : List (List St)) : (dss b).length = b.length := by rw [dss_map, List.length_map]
/-- the bodies of a statement -/
def St.bs : St → List (List St)
  | .ch bs => bs
  | .lp b => [b]
  | .en b c => [b, c]
  | _ => []
-- how many statements
mutual
def St.n : St → Nat
  | .ch bs => 1 + nss bs
  | .lp b => 1 + ns b
  | .en b c => 1 + (ns b + ns c)
  | _ => 1
def ns : List St → Nat
  | [] => 0
  | s :: r => s.n + ns r
def nss : List (List St) → Nat
  | [] => 0
  | b :: r => ns b + nss r
end
-- the longest chain
mutual
def St.k : St → Nat
  | .ch bs => 1 + kss bs
  | .lp b => 1 + ks b
  | .en b c => 1 + max (ks b) (ks c)
  | _ => 1
def ks : List St → Nat
  | [] => 0
  | s :: r => max s.k (ks r)
def kss : List (List St) → Nat
  | [] => 0
  | b :: r => max (ks b) (kss r)
end
theorem n_bs : ∀ s : St, s.n = 1 + nss s.bs
  | .dd _ | .ud _ | .cl _ | .rt | .ch _ => rfl
  | .lp b => by simp [St.n, St.bs, nss]
  | .en b c => by simp [St.n, St.bs, nss]
theorem k_bs : ∀ s : St, s.k = 1 + kss s.bs
  | .dd _ | .ud _ | .cl _ | .rt | .ch _ => rfl
  | .lp b => by simp [St.k, St.bs, kss]
  | .en b c => by simp [St.k, St.bs, kss]
theorem n_pos (s : St) : 1 ≤ s.n := by rw [n_bs]; omega
theorem len_ns : ∀ b : List St, b.length ≤ ns b
  | [] => Nat.le_refl _
  | s :: r => by
    have := len_ns r
    have := n_pos s
    rw [List.length_cons, ns]
    omega
theorem ns_mem : ∀ {b : List St} {s : St}, s ∈ b → s.n ≤ ns b
  | s :: r, _, h => by
    rw [ns]
    rcases List.mem_cons.mp h with rfl | h
    · omega
    · have := ns_mem h; omega
theorem nss_mem : ∀ {b : List (List St)} {s : List St}, s ∈ b → ns s ≤ nss b
  | s :: r, _, h => by
    rw [nss]
    rcases List.mem_cons.mp h with rfl | h
    · omega
    · have := nss_mem h; omega
theorem ks_mem : ∀ {b : List St} {s : St}, s ∈ b → s.k ≤ ks b
  | s :: r, _, h => by
    rw [ks]
    rcases List.mem_cons.mp h with rfl | h
    · omega
    · have := ks_mem h; omega
theorem kss_mem : ∀ {b : List (List St)} {s : List St}, s ∈ b → ks s ≤ kss b
  | s :: r, _, h => by
    rw [kss]
    rcases List.mem_cons.mp h with rfl | h
    · omega
    · have := kss_mem h; omega
theorem ks_pos : ∀ {b : List St}, b ≠ [] → 1 ≤ ks b
  | s :: r, _ => by rw [ks, k_bs]; omega
theorem ns_app : ∀ a b : List St, ns (a ++ b) = ns a + ns b
  | [], b => by simp [ns]
  | s :: r, b => by rw [List.cons_append, ns, ns, ns_app r b]; omega
theorem ks_app : ∀ a b : List St, ks (a ++ b) = max (ks a) (ks b)
  | [], b => by simp [ks]
  | s :: r, b => by rw [List.cons_append, ks, ks, ks_app r b]; omega
-- names that are there, choices of two to six, returns where they are let
mutual
def St.ok (L N : List Str) (sec : Bool) : St → Prop
  | .dd x => x ∈ L
  | .ud x => x ∈ L
  | .cl x => x ∈ N
  | .ch bs => 2 ≤ bs.length ∧ bs.length ≤ 6 ∧ okss L N sec bs
  | .lp b => oks L N sec b
  | .rt => sec = false
  | .en b c => oks L N sec b ∧ oks L N true c
def oks (L N : List Str) (sec : Bool) : List St → Prop
  | [] => True
  | s :: r => s.ok L N sec ∧ oks L N sec r
def okss (L N : List Str) (sec : Bool) : List (List St) → Prop
  | [] => True
  | b :: r => oks L N sec b ∧ okss L N sec r
end
theorem oks_iff {L N : List Str} {sec : Bool} : ∀ {b : List St}, oks L N sec b ↔ ∀ s ∈ b, s.ok L N sec
  | [] => by simp [oks]
  | s :: r => by rw [oks, oks_iff (b := r)]; simp
theorem okss_iff {L N : List Str} {sec : Bool} : ∀ {b : List (List St)}, okss L N sec b ↔ ∀ s ∈ b, oks L N sec s
  | [] => by simp [okss]
  | s :: r => by rw [okss, okss_iff (b := r)]; simp
-- a body that is let within a second body is let anywhere
mutual
theorem ok_weak {L N : List Str} (sec : Bool) : ∀ s : St, s.ok L N true → s.ok L N sec
  | .dd _, h | .ud _, h | .cl _, h => h
  | .ch bs, h => ⟨h.1, h.2.1, okss_weak sec bs h.2.2⟩
  | .lp b, h => oks_weak sec b h
  | .rt, h => by cases h
  | .en b c, h => ⟨oks_weak sec b h.1, h.2⟩
theorem oks_weak {L N : List Str} (sec : Bool) : ∀ b : List St, oks L N true b → oks L N sec b
  | [], _ => trivial
  | s :: r, h => ⟨ok_weak sec s h.1, oks_weak sec r h.2⟩
theorem okss_weak {L N : List Str} (sec : Bool) : ∀ b : List (List St), okss L N true b → okss L N sec b
  | [], _ => trivial
  | s :: r, h => ⟨oks_weak sec s h.1, okss_weak sec r h.2⟩
end
/-! ### the layout -/
def idx (x : Str) (L : List Str) : Int := ((L.findIdx (· == x) : Nat) : Int)
mutual
def layS (L N : List Str) (lv : List PyData → Int × List PyData) : St → Int → List PyData → Int × List PyData
  | .dd x, t, ps => ((ps.length : Nat), ps ++ [.tuple [.str "letter", .int (idx x L + 1), .int t]])
  | .ud x, t, ps => ((ps.length : Nat), ps ++ [.tuple [.str "letter", .int (-idx x L - 1), .int t]])
  | .cl x, t, ps => ((ps.length : Nat), ps ++ [.tuple [.str "call", .int (idx x N), .int t]])
  | .ch bs, t, ps => let r := layBs L N lv bs t ps; ((r.2.length : Nat), r.2 ++ [.tuple [.str "fork", .tuple (r.1.map .int)]])
  | .lp b, t, ps => let r := layB L N lv b (ps.length : Nat) (ps ++ [.none]); ((ps.length : Nat), r.2.set ps.length (.tuple [.str "fork", .tuple [.int r.1, .int t]]))
  | .rt, _, ps => lv ps
  | .en b c, t, ps => let r := layB L N (fun ps => (0, ps)) c t ps; layB L N (fun ps => let q := lv ps; layB L N (fun ps => (0, ps)) c q.1 q.2) b r.1 r.2
/-- from the last statement to the first -/
def layB (L N : List Str) (lv : List PyData → Int × List PyData) : List St → Int → List PyData → Int × List PyData
  | [], t, ps => (t, ps)
  | s :: r, t, ps => let q := layB L N lv r t ps; layS L N lv s q.1 q.2
def layBs (L N : List Str) (lv : List PyData → Int × List PyData) : List (List St) → Int → List PyData → List Int × List PyData
  | [], _, ps => ([], ps)
  | b :: r, t, ps => let q := layB L N lv b t ps; let z := layBs L N lv r t q.2; (q.1 :: z.1, z.2)
end
def lv0 : List PyData → Int × List PyData := fun ps => (0, ps)
/-- the second bodies, the outermost first -/
def leave (L N : List Str) (secs : List (List St)) (ps : List PyData) : Int × List PyData := secs.foldl (fun q c => layB L N lv0 c q.1 q.2) (0, ps)
theorem leave_nil (L N : List Str) : leave L N [] = lv0 := rfl
theorem leave_app (L N : List Str) (secs : List (List St)) (c : List St) : leave L N (secs ++ [c]) = fun ps => let q := leave L N secs ps; layB L N lv0 c q.1 q.2 := by
  funext ps
  unfold leave
  rw [List.foldl_append]
  rfl
theorem layB_app (L N : List Str) (lv : List PyData → Int × List PyData) : ∀ (a b : List St) (t : Int) (ps : List PyData), layB L N lv (a ++ b) t ps = (let q := layB L N lv b t ps; layB L N lv a q.1 q.2)
  | [], b, t, ps => rfl
  | s :: r, b, t, ps => by
    rw [List.cons_append, layB, layB_app L N lv r b t ps]
    rfl
theorem layBs_app (L N : List Str) (lv : List PyData → Int × List PyData) : ∀ (a b : List (List St)) (t : Int) (ps : List PyData), layBs L N lv (a ++ b) t ps = (let q := layBs L N lv a t ps; let z := layBs L N lv b t q.2; (q.1 ++ z.1, z.2))
  | [], b, t, ps => rfl
  | s :: r, b, t, ps => by
    rw [List.cons_append, layBs, layBs_app L N lv r b t]
    rfl
end K12


set_option Elab.async false
set_option linter.all false
set_option maxRecDepth 100000
set_option maxHeartbeats 8000000
namespace K12
open PySem PySem.Spec PyProof.Rows L2
/-! ### tables -/
def genC (sc : Scope) : Bool := decide (sc.kind = .function) && !sc.isCoroutine && sc.names.all (fun y => !decide (y.2 = .cell)) && sc.names.all (fun y => !decide (y.2 = .free)) && decide (sc.names.lookup (".0" : Str) = some NameKind.local)
theorem gensc_by {sc : Scope} (h : genC sc = true) : UG.GenSc sc := by
  unfold genC at h
  simp only [Bool.and_eq_true, Bool.not_eq_true', decide_eq_true_eq, List.all_eq_true, decide_eq_false_iff_not] at h
  obtain ⟨⟨⟨⟨h1, h2⟩, h3⟩, h4⟩, h5⟩ := h
  exact ⟨h1, h2, h3, h4, h5⟩
def Keep (T : Addr) (H H' : Hp) : Prop := LamX.ExtN H H' ∧ GxR.TabG H' T
theorem keep_tabbed {T : Addr} {H H' : Hp} (h : GxR.TabG H T) (t : GxR.Tabbed T H H') : Keep T H H' := by
  refine ⟨fun b o e n => ?_, t.1⟩
  by_cases hb : b = T
  · obtain ⟨ps, hp, _⟩ := h
    rw [hb, hp] at e
    exact absurd (Option.some.inj e).symm (n ps)
  · rw [t.2 b hb]; exact e
theorem tabG_upd {T p : Addr} {H : Hp} {o : HO} (h : GxR.TabG H T) (hp : H p = none) : GxR.TabG (upd H p o) T := by
  obtain ⟨ps, h1, h2⟩ := h
  exact ⟨ps, by rw [upd_ne (ne_of_none h1 hp)]; exact h1, h2⟩
theorem inV_str (k : Str) : ∀ zs : List Str, inV (.str k) (zs.map V.str) = zs.any fun z => decide (k = z)
  | [] => rfl
  | z :: r => by
    have ih := inV_str k r
    show (eqV (.str z) (.str k) || inV (.str k) (r.map V.str)) = _
    rw [ih, List.any_cons]
    congr 1
    show (z == k) = decide (k = z)
    by_cases h : k = z
    · subst h; simp
    · rw [decide_eq_false h]; exact beq_eq_false_iff_ne.mpr (Ne.symm h)
theorem at0 {α : Type} (x : α) (r : List α) : atI (x :: r) 0 = some x := atI_nat (j := 0) rfl
theorem at1 {α : Type} (x y : α) (r : List α) : atI (x :: y :: r) 1 = some y := atI_nat (j := 1) rfl
theorem at2 {α : Type} (x y z : α) (r : List α) : atI (x :: y :: z :: r) 2 = some z := atI_nat (j := 2) rfl
theorem dec_str (k z : Str) : decide (V.str k = V.str z) = decide (k = z) := by
  by_cases h : k = z
  · subst h; simp
  · rw [decide_eq_false h, decide_eq_false (fun y => h (V.str.inj y))]
theorem dec_int (k z : Int) : decide (V.int k = V.int z) = decide (k = z) := by
  by_cases h : k = z
  · subst h; simp
  · rw [decide_eq_false h, decide_eq_false (fun y => h (V.int.inj y))]
theorem str_of {d : PyData} (h : isiD "str" d = true) : ∃ k, d = .str k := by
  cases d with
  | str k => exact ⟨k, rfl⟩
  | _ => exact absurd (show false = true from h) Bool.false_ne_true

theorem tup_of {d : PyData} (h : isiD "tuple" d = true) : ∃ ds, d = .tuple ds := by
  cases d with
  | tuple ds => exact ⟨ds, rfl⟩
  | _ => exact absurd (show false = true from h) Bool.false_ne_true
theorem len_ok {K : PySem.W.Frag} {H : Hp} {v : V} {ds : List PyData} (h : Dp K H v (.tuple ds)) : ∃ a xs, v = .ref a ∧ SqT K H a xs ∧ DpAll K H xs ds ∧ xs.length = ds.length := by
  cases h with
  | tup hs ha => exact ⟨_, _, rfl, hs, ha, dps_len ha⟩
/-- the tables of code objects -/
def Tbs (Ts : List Addr) (H : Hp) : Prop := ∀ T ∈ Ts, GxR.TabG H T
/-- all but the tables stays -/
def Go (Ts : List Addr) (H H' : Hp) : Prop := Tbs Ts H' ∧ Kp Ts H H'
theorem Tbs.same {Ts : List Addr} {H H' : Hp} (h : Tbs Ts H) (s : Same H H') : Tbs Ts H' := fun T hT => by
  obtain ⟨ps, h1, h2⟩ := h T hT
  exact ⟨ps, s _ _ h1, h2⟩
theorem Go.refl {Ts : List Addr} {H : Hp} (h : Tbs Ts H) : Go Ts H H := ⟨h, Kp.refl H⟩
theorem Go.trans {Ts : List Addr} {H H' H2 : Hp} (a : Go Ts H H') (b : Go Ts H' H2) : Go Ts H H2 := ⟨b.1, a.2.trans b.2⟩
theorem Go.of_same {Ts : List Addr} {H H' : Hp} (h : Tbs Ts H) (s : Same H H') : Go Ts H H' := ⟨h.same s, Kp.of_same s⟩
theorem Go.of_tab {Ts : List Addr} {T : Addr} {H H' : Hp} (h : Tbs Ts H) (hT : T ∈ Ts) (t : GxR.Tabbed T H H') : Go Ts H H' := by
  refine ⟨fun T' hT' => ?_, fun p o n e => ?_⟩
  · by_cases z : T' = T
    · rw [z]; exact t.1
    · obtain ⟨ps, h1, h2⟩ := h T' hT'
      exact ⟨ps, by rw [t.2 _ z]; exact h1, h2⟩
  · rw [t.2 p (fun z => n (by rw [z]; exact hT))]
    exact e
/-- tables are no data -/
theorem ext_cut {Ts ms : List Addr} {H : Hp} (h : Tbs Ts H) (n : ∀ a ∈ ms, H a = none) : LamX.ExtN H (cutL (ms ++ Ts) H) := fun p o e no => by
  rw [cutL_get]
  · exact e
  · intro z
    rcases List.mem_append.mp z with z | z
    · rw [n p z] at e; cases e
    · obtain ⟨ps, h1, _⟩ := h p z
      rw [h1] at e
      cases e
      exact no _ rfl
theorem ext_cut0 {Ts : List Addr} {H : Hp} (h : Tbs Ts H) : LamX.ExtN H (cutL Ts H) := ext_cut (ms := []) h (fun _ z => by cases z)
theorem Go.ext {Ts : List Addr} {H H' : Hp} (h : Tbs Ts H) (g : Go Ts H H') : LamX.ExtN H H' := (ext_cut0 h).trans ((same_ext g.2.cut).trans (same_ext cutL_ext))
theorem tbs_cut {Ts ms : List Addr} {H : Hp} {p : Addr} {o : HO} (h : Tbs Ts H) (hp : H p = none) : p ∉ Ts := fun z => by
  obtain ⟨ps, h1, _⟩ := h p z
  rw [h1] at hp; cases hp
/-! ### names -/
def nameB (s : Str) : Bool := decide (1 ≤ s.length) && decide (s.length ≤ 10) && (match s.cps.toList with | [] => false | c :: _ => decide (c ∈ smallL.cps.toList)) && !(keptW.any fun z => decide (s = z)) && s.cps.toList.all fun c => decide (c ∈ wordS.cps.toList)
def nameD : PyData → Bool
  | .str s => nameB s
  | _ => false
def strD : PyData → Prop
  | .str s => s.length ≤ sizeLine
  | _ => True
theorem nd1 : (["sign"] : List Str).Nodup := by decide +kernel
section
variable {P : Program} {w : World} {K : PySem.W.Frag} {mg : Str → Option Value} {base : Heap}

def spRow (K : PySem.W.Frag) : Sp := fun vs H Q _ => ∃ v d lo hi, vs = [v, .int lo, .int hi] ∧ Dp K H v d ∧ Q (.bl (rowD d lo hi)) H
theorem sc_is_row : FnScope ["thing", "low", "high"] ["thing", "low", "high"] (C8.fnScope (topS 6)) := C8.fnScope_by (by decide +kernel)
theorem ok_is_row {f : Addr} {fd : FuncData} (F : C8.Def K mg "is_row" (topS 6) f fd) (b : Binds K fd ["thing", "low", "high"] []) (B : Bl K mg)  : C8.Cal P w K mg base 1 "is_row" (spRow K) [] := by
  refine C8.cal0 F b .nil sc_is_row ?len ?body
  case len => rintro vs H Q E ⟨v, d, lo, hi, rfl, _⟩; rfl
  case body =>
    rintro cdv A outer s H vs Q E hr ⟨v, d, lo, hi, rfl, hd, q⟩
    refine ⟨_, (pss_one (ps_ret (pe_and (pe_isD (c := "tuple") B (pv 0) rfl rfl B.tuple (by decide +kernel) (by decide)) (pe_one (pe_chain op_le op_le (pv 1) (pe_callB call_len_seq rfl B.len PySem.boot_len (pa_cons (pv 0) pa_nil)) (pv 2)))))), ?_⟩
    refine ⟨_, rfl, v, d, rfl, hd, _, rfl, ?_⟩
    cases h : isiD "tuple" d with
    | false =>
      refine iteF ?_
      have e : rowD d lo hi = false := by
        cases d with
        | tuple ds => exact absurd (show true = false from h) (by decide)
        | _ => rfl
      rw [e] at q
      exact q
    | true =>
      obtain ⟨ds, rfl⟩ := tup_of h
      obtain ⟨a, xs, rfl, hs, ha, hl⟩ := len_ok hd
      refine iteT ⟨_, rfl, _, rfl, a, xs, rfl, .inr hs, _, _, rfl, rfl, _, rfl, ?_⟩
      rw [hl]
      have q' : Q (.bl (decide (lo ≤ (ds.length : Int)) && decide ((ds.length : Int) ≤ hi))) H := q
      cases h1 : decide (lo ≤ (ds.length : Int)) with
      | true =>
        rw [h1] at q'
        exact iteT ⟨_, rfl, _, _, rfl, rfl, q'⟩
      | false =>
        rw [h1] at q'
        exact iteF q'
def spName (K : PySem.W.Frag) (Ts : List Addr) : Sp := fun vs H Q _ => ∃ v d, vs = [v] ∧ Dp K H v d ∧ strD d ∧ Tbs Ts H ∧ ∀ H', Go Ts H H' → Q (.bl (nameD d)) H'
theorem sc_is_name : FnScope ["thing"] ["thing"] (C8.fnScope (topS 12)) := C8.fnScope_by (by decide +kernel)
theorem ok_is_name {Ts : List Addr} {f c T : Addr} {oc : Value} {od an : Option Addr} {kV doc pm ct : Value} {osl : Array (Option Value)}
    (lk : K.lookup f = some ⟨oc, od, .func (PySem.W.fnOf "is_name" "is_name" (C8.fnArgs (topS 12)) (C8.fnBody (topS 12)) (C8.fnScope (topS 12)) .none kV doc pm an (.ref c) ct), osl⟩) (hcd : PySem.W.codeIn K (.ref c) "is_name" = true)
    (TB : LamX.TabB base mg c T) (hT : T ∈ Ts) (B : Bl K mg) :
    FnOk P w K mg base C8.CX0 4 f (PySem.W.fnOf "is_name" "is_name" (C8.fnArgs (topS 12)) (C8.fnBody (topS 12)) (C8.fnScope (topS 12)) .none kV doc pm an (.ref c) ct) ["thing"] (spName K Ts) := by
  obtain ⟨ka, hka, hks⟩ := B.KEPT_WORDS
  refine fn_of lk hcd sc_is_name (by rintro vs H Q E ⟨v, d, rfl, _⟩; rfl) ?_
  intro A outer s H vs Q E hr hsp
  suffices h : ∃ t, PSs (cxOf C8.CX0 P w K mg base ["thing"] "is_name" (C8.fnScope (topS 12)) f (.ref c) A outer s H E).nox (C8.fnBody (topS 12)) t ∧ t { nx := fun _ H' => Q .non H', rt := Q } (start ["thing"] vs) H by
    obtain ⟨t, h1, h2⟩ := h
    exact ⟨t, h1.nox, h2⟩
  obtain ⟨v, d, rfl, hd, hsd, hTb, q⟩ := hsp
  refine ⟨_, pss_cons (ps_if (PW.pt (pw_or (pt_not (pt_val (pe_isD (c := "str") B (pv 0) rfl rfl B.str (by decide +kernel) (by decide)))) (pw_or1 (pt_not (pt_chain op_le op_le pe_int (pe_callB call_len_str rfl B.len PySem.boot_len (pa_cons (pv 0) pa_nil)) (pe_glob (v := .int 10) rfl B.MOST_SIGNS.choose_spec ⟨_, rfl⟩)))))) (pss_one (ps_ret pe_bl)) pss_nil)
    (pss_cons (ps_if (PW.pt (pw_or (pt_cmpR op_notIn_sign (pe_ix ix_str (pv 0) pe_int (fun _ _ => rfl)) (pe_glob (v := .str smallL) rfl B.SMALL_LETTERS.choose_spec ⟨_, rfl⟩) (by with_unfolding_all rfl)) (pw_or1 (pt_cmpR op_in_seq (pv 0) (pe_glob (v := .ref ka) rfl hka rfl) (by with_unfolding_all rfl))))) (pss_one (ps_ret pe_bl)) pss_nil)
    (pss_one (ps_ret (UG.pe_allG (P := T) (N := ["sign"]) (k := 0) (g := gName 0) (hr.mono (by decide)) rfl B.all (by decide +kernel) TB rfl (gensc_by (by decide +kernel)) (pi_str (pv 0))
      (fun _ _ _ _ _ _ _ => by exact pg_name (i := 0) nd1 rfl (Or.inl rfl))
      (fun _ _ _ _ _ _ _ => by exact pe_cmpR op_in_sign (pv 0) (pe_glob (v := .str wordS) rfl B.WORD_SIGNS.choose_spec ⟨_, rfl⟩) (by with_unfolding_all rfl)))))), ?_⟩
  have qH := q H (Go.refl hTb)
  refine ⟨_, rfl, v, d, rfl, hd, _, rfl, ?_⟩
  cases hstr : isiD "str" d with
  | false =>
    refine iteT ?_
    have e : nameD d = false := by
      cases d with
      | str k => exact absurd (show true = false from hstr) (by decide)
      | _ => rfl
    rw [e] at qH
    exact qH
  | true =>
    obtain ⟨k, rfl⟩ := str_of hstr
    cases hd
    refine iteF ?_
    have eD : nameD (.str k) = nameB k := rfl
    rw [eD] at qH
    refine ⟨_, rfl, k, rfl, hsd, _, _, rfl, rfl, _, rfl, ?_⟩
    cases h1 : decide ((1 : Int) ≤ ((k.length : Nat) : Int)) with
    | false =>
      refine iteF ⟨_, rfl, ?_⟩
      refine iteT ?_
      have e : nameB k = false := by
        have : decide (1 ≤ k.length) = false := by rw [decide_eq_false_iff_not] at h1 ⊢; omega
        unfold nameB
        rw [this]
        rfl
      rw [e] at qH
      exact qH
    | true =>
      refine iteT ⟨_, _, rfl, rfl, _, rfl, ?_⟩
      have h1' := of_decide_eq_true h1
      by_cases h2 : ((k.length : Nat) : Int) ≤ 10
      · rw [decide_eq_true h2]
        refine iteF ?_
        have l1 : decide (1 ≤ k.length) = true := by rw [decide_eq_true_eq]; omega
        have l2 : decide (k.length ≤ 10) = true := by rw [decide_eq_true_eq]; omega
        cases hc : k.cps.toList with
        | nil =>
          have : k.length = 0 := by
            show k.cps.size = 0
            rw [← Array.length_toList, hc]; rfl
          omega
        | cons c r =>
          have eN : nameB k = (decide (c ∈ smallL.cps.toList) && !(keptW.any fun z => decide (k = z)) && k.cps.toList.all fun c => decide (c ∈ wordS.cps.toList)) := by
            unfold nameB
            rw [l1, l2, hc]
            rfl
          refine ⟨_, rfl, k, 0, c, rfl, rfl, hsd, by rw [hc]; exact at0 _ _, c, smallL, rfl, rfl, _, rfl, ?_⟩
          cases h3 : decide (c ∈ smallL.cps.toList) with
          | false =>
            refine iteT ?_
            rw [h3] at eN
            rw [eN] at qH
            exact qH
          | true =>
            refine iteF ?_
            refine ⟨_, rfl, ka, _, rfl, .inr (hks H), rfl, by decide +kernel, _, rfl, ?_⟩
            show if inV (.str k) (keptW.map V.str) = true then _ else _
            rw [inV_str]
            cases h4 : (keptW.any fun z => decide (k = z)) with
            | true =>
              refine iteT ?_
              rw [h3, h4] at eN
              rw [eN] at qH
              exact qH
            | false =>
              refine iteF ?_
              rw [h3, h4] at eN
              have eN' : nameB k = k.cps.toList.all fun c => decide (c ∈ wordS.cps.toList) := eN
              rw [eD, eN'] at q
              refine ⟨_, rfl, k, rfl, hTb T hT, k.cps.size, fun i H' => i ≤ k.cps.size ∧ Go Ts H H' ∧ ∀ j e, j < i → k.cps[j]? = some e → decide (e ∈ wordS.cps.toList) = true, ⟨?_⟩, ?_⟩
              · rintro i H1 ⟨hi, hk, hall⟩
                by_cases hlt : i < k.cps.size
                · refine .inr ⟨hlt, hlt, ?_⟩
                  rintro x H' ⟨rfl, e, he, rfl⟩
                  refine ⟨_, rfl, e, wordS, rfl, rfl, _, rfl, ?_⟩
                  cases hb : decide (e ∈ wordS.cps.toList) with
                  | true =>
                    refine iteT ⟨hlt, hk, fun j e' hj he' => ?_⟩
                    rcases Nat.lt_succ_iff_lt_or_eq.mp hj with h | h
                    · exact hall j e' h he'
                    · subst h
                      rw [he] at he'
                      cases he'
                      exact hb
                  | false =>
                    refine iteF ?_
                    have := q _ hk
                    rw [show (k.cps.toList.all fun c => decide (c ∈ wordS.cps.toList)) = false from by
                      rw [List.all_eq_false]
                      exact ⟨e, by rw [Array.mem_toList_iff]; exact Array.mem_of_getElem? he, by rw [hb]; decide⟩] at this
                    exact this
                · have ei : i = k.cps.size := by omega
                  refine .inl ⟨by show k.cps.size ≤ i; omega, ?_⟩
                  have := q H1 hk
                  rw [show (k.cps.toList.all fun c => decide (c ∈ wordS.cps.toList)) = true from by
                    rw [List.all_eq_true]
                    intro e he
                    obtain ⟨j, hj, ej⟩ := List.getElem_of_mem he
                    exact hall j e (by rw [ei]; simpa using hj) (by rw [← ej]; simp at hj; simp [hj])] at this
                  exact this
              · intro H2 t2
                exact ⟨Nat.zero_le _, Go.of_tab hTb hT t2, fun j e hj => absurd hj (Nat.not_lt_zero _)⟩
      · rw [decide_eq_false h2]
        refine iteT ?_
        have e : nameB k = false := by
          have : decide (k.length ≤ 10) = false := by rw [decide_eq_false_iff_not]; omega
          unfold nameB
          rw [this, Bool.and_false]
          rfl
        rw [e] at qH
        exact qH
end
end K12


set_option Elab.async false
set_option linter.all false
set_option maxRecDepth 100000
set_option maxHeartbeats 8000000
namespace K12
open PySem PySem.Spec PyProof.Rows L2
theorem ifT {c : Bool} {p q : Prop} (h : c = true) (x : p) : if c = true then p else q := by rw [if_pos h]; exact x
theorem ifF {c : Bool} {p q : Prop} (h : c = false) (x : q) : if c = true then p else q := by rw [if_neg (by rw [h]; decide)]; exact x
-- bodies of at most sixty
mutual
def St.wd : St → Prop
  | .ch bs => wdbs bs
  | .lp b => b.length ≤ 60 ∧ wdl b
  | .en b c => (b.length ≤ 60 ∧ wdl b) ∧ c.length ≤ 60 ∧ wdl c
  | _ => True
def wdl : List St → Prop
  | [] => True
  | s :: r => s.wd ∧ wdl r
def wdbs : List (List St) → Prop
  | [] => True
  | b :: r => (b.length ≤ 60 ∧ wdl b) ∧ wdbs r
end
theorem wdl_iff : ∀ {b : List St}, wdl b ↔ ∀ s ∈ b, s.wd
  | [] => by simp [wdl]
  | s :: r => by rw [wdl, wdl_iff (b := r)]; simp
theorem wdbs_iff : ∀ {b : List (List St)}, wdbs b ↔ ∀ s ∈ b, s.length ≤ 60 ∧ wdl s
  | [] => by simp [wdbs]
  | s :: r => by rw [wdbs, wdbs_iff (b := r)]; simp
theorem wd_bs : ∀ {s : St}, s.wd → wdbs s.bs
  | .dd _, _ | .ud _, _ | .cl _, _ | .rt, _ => trivial
  | .ch _, h => h
  | .lp b, h => ⟨h, trivial⟩
  | .en b c, h => ⟨h.1, h.2, trivial⟩
mutual
theorem wd_n : ∀ s : St, s.n ≤ 60 → s.wd
  | .dd _, _ | .ud _, _ | .cl _, _ | .rt, _ => trivial
  | .ch bs, h => wdbs_n bs (by rw [St.n] at h; omega)
  | .lp b, h => by
    rw [St.n] at h
    exact ⟨Nat.le_trans (len_ns b) (by omega), wdl_n b (by omega)⟩
  | .en b c, h => by
    rw [St.n] at h
    exact ⟨⟨Nat.le_trans (len_ns b) (by omega), wdl_n b (by omega)⟩, Nat.le_trans (len_ns c) (by omega), wdl_n c (by omega)⟩
theorem wdl_n : ∀ b : List St, ns b ≤ 60 → wdl b
  | [], _ => trivial
  | s :: r, h => by
    rw [ns] at h
    exact ⟨wd_n s (by omega), wdl_n r (by omega)⟩
theorem wdbs_n : ∀ b : List (List St), nss b ≤ 60 → wdbs b
  | [], _ => trivial
  | s :: r, h => by
    rw [nss] at h
    exact ⟨⟨Nat.le_trans (len_ns s) (by omega), wdl_n s (by omega)⟩, wdbs_n r (by omega)⟩
end
theorem ok_bs {L N : List Str} {sec : Bool} : ∀ {s : St}, s.ok L N sec → ∀ b ∈ s.bs, ∃ sec', oks L N sec' b
  | .dd _, _, b, hb | .ud _, _, b, hb | .cl _, _, b, hb | .rt, _, b, hb => by cases hb
  | .ch _, h, b, hb => ⟨sec, okss_iff.mp h.2.2 b hb⟩
  | .lp b, h, b', hb => by
    cases List.mem_singleton.mp hb
    exact ⟨sec, h⟩
  | .en b c, h, b', hb => by
    rcases List.mem_cons.mp hb with rfl | hb
    · exact ⟨sec, h.1⟩
    · cases List.mem_singleton.mp hb
      exact ⟨true, h.2⟩
def Nok (L : List Str) : Prop := ∀ x ∈ L, nameB x = true
theorem nameB_len {x : Str} (h : nameB x = true) : x.length ≤ 10 := by
  unfold nameB at h
  simp only [Bool.and_eq_true, decide_eq_true_eq] at h
  exact h.1.1.1.2
theorem nameB_str {x : Str} (h : nameB x = true) : x.length ≤ sizeLine := Nat.le_trans (nameB_len h) (by decide)
theorem tail1 (x y : V) : cutV [x, y] (some 1) none = [y] := rfl
theorem tail2 (x y z : V) : cutV [x, y, z] (some 1) none = [y, z] := rfl
section
variable {P : Program} {w : World} {K : PySem.W.Frag} {mg : Str → Option Value} {base : Heap}

def spBod (K : PySem.W.Frag) : Sp := fun vs H Q _ => ∃ v s, vs = [v] ∧ Dp K H v (St.d s) ∧ ∀ v' H', Same H H' → Dp K H' v' (.tuple (dss s.bs)) → Q v' H'
theorem sc_bodies_of : FnScope ["statement"] ["statement"] (C8.fnScope (topS 24)) := C8.fnScope_by (by decide +kernel)
theorem ok_bodies_of {f : Addr} {fd : FuncData} (F : C8.Def K mg "bodies_of" (topS 24) f fd) (b : Binds K fd ["statement"] []) (B : Bl K mg)  : C8.Cal P w K mg base 1 "bodies_of" (spBod K) [] := by
  refine C8.cal0 F b .nil sc_bodies_of ?len ?body
  case len => rintro vs H Q E ⟨v, s, rfl, _⟩; rfl
  case body =>
    rintro cdv A outer s H vs Q E hr ⟨v, st, rfl, hd, q⟩
    refine ⟨_, (pss_cons (ps_if (pt_cmpR op_eq (pe_ix ix_tup (pv 0) pe_int (fun _ _ => rfl)) pe_str (nomark _)) (pss_one (ps_ret (pe_ix ix_tup (pv 0) pe_int (fun _ _ => rfl)))) pss_nil)
    (pss_cons (ps_if (pt_cmpR op_in_seq (pe_ix ix_tup (pv 0) pe_int (fun _ _ => rfl)) (pe_tup (pa_cons pe_str (pa_cons pe_str pa_nil))) (by with_unfolding_all rfl)) (pss_one (ps_ret (pe_slice sl_tupA (pv 0) (po_some pe_int) po_none))) pss_nil)
    (pss_one (ps_ret (pe_tup pa_nil))))), ?_⟩
    cases st with
    | dd x =>
      obtain ⟨a, xs, rfl, hs, ha, hl⟩ := len_ok hd
      cases ha with
      | cons h0 ha =>
      cases h0
      refine ⟨_, rfl, _, _, _, _, rfl, rfl, hs, at0 _ _, rfl, _, rfl, ?_⟩
      rw [dec_str]
      refine ifF (by decide +kernel) ?_
      refine ⟨_, rfl, _, _, _, _, rfl, rfl, hs, at0 _ _, (by show 2 ≤ sizeLine; decide), fun p hp => ⟨p, _, rfl, .inr (SqT.of upd_same), rfl, rfl, _, rfl, ?_⟩⟩
      refine ifF (by decide +kernel) ?_
      refine ⟨(by show 0 ≤ sizeLine; decide), fun p2 hp2 => ?_⟩
      exact q _ _ ((same_new hp _).trans (same_new hp2 _)) (.tup (SqT.of upd_same) .nil)
    | ud x =>
      obtain ⟨a, xs, rfl, hs, ha, hl⟩ := len_ok hd
      cases ha with
      | cons h0 ha =>
      cases h0
      refine ⟨_, rfl, _, _, _, _, rfl, rfl, hs, at0 _ _, rfl, _, rfl, ?_⟩
      rw [dec_str]
      refine ifF (by decide +kernel) ?_
      refine ⟨_, rfl, _, _, _, _, rfl, rfl, hs, at0 _ _, (by show 2 ≤ sizeLine; decide), fun p hp => ⟨p, _, rfl, .inr (SqT.of upd_same), rfl, rfl, _, rfl, ?_⟩⟩
      refine ifF (by decide +kernel) ?_
      refine ⟨(by show 0 ≤ sizeLine; decide), fun p2 hp2 => ?_⟩
      exact q _ _ ((same_new hp _).trans (same_new hp2 _)) (.tup (SqT.of upd_same) .nil)
    | cl x =>
      obtain ⟨a, xs, rfl, hs, ha, hl⟩ := len_ok hd
      cases ha with
      | cons h0 ha =>
      cases h0
      refine ⟨_, rfl, _, _, _, _, rfl, rfl, hs, at0 _ _, rfl, _, rfl, ?_⟩
      rw [dec_str]
      refine ifF (by decide +kernel) ?_
      refine ⟨_, rfl, _, _, _, _, rfl, rfl, hs, at0 _ _, (by show 2 ≤ sizeLine; decide), fun p hp => ⟨p, _, rfl, .inr (SqT.of upd_same), rfl, rfl, _, rfl, ?_⟩⟩
      refine ifF (by decide +kernel) ?_
      refine ⟨(by show 0 ≤ sizeLine; decide), fun p2 hp2 => ?_⟩
      exact q _ _ ((same_new hp _).trans (same_new hp2 _)) (.tup (SqT.of upd_same) .nil)
    | rt =>
      obtain ⟨a, xs, rfl, hs, ha, hl⟩ := len_ok hd
      cases ha with
      | cons h0 ha =>
      cases h0
      refine ⟨_, rfl, _, _, _, _, rfl, rfl, hs, at0 _ _, rfl, _, rfl, ?_⟩
      rw [dec_str]
      refine ifF (by decide +kernel) ?_
      refine ⟨_, rfl, _, _, _, _, rfl, rfl, hs, at0 _ _, (by show 2 ≤ sizeLine; decide), fun p hp => ⟨p, _, rfl, .inr (SqT.of upd_same), rfl, rfl, _, rfl, ?_⟩⟩
      refine ifF (by decide +kernel) ?_
      refine ⟨(by show 0 ≤ sizeLine; decide), fun p2 hp2 => ?_⟩
      exact q _ _ ((same_new hp _).trans (same_new hp2 _)) (.tup (SqT.of upd_same) .nil)
    | ch bs =>
      obtain ⟨a, xs, rfl, hs, ha, hl⟩ := len_ok hd
      cases ha with
      | cons h0 ha =>
      cases h0
      refine ⟨_, rfl, _, _, _, _, rfl, rfl, hs, at0 _ _, rfl, _, rfl, ?_⟩
      rw [dec_str]
      refine ifT (by decide +kernel) ?_
      cases ha with
      | cons h1 ha =>
        exact ⟨_, rfl, _, _, _, _, rfl, rfl, hs, at1 _ _ _, q _ H (Same.refl H) h1⟩
    | lp b =>
      obtain ⟨a, xs, rfl, hs, ha, hl⟩ := len_ok hd
      cases ha with
      | cons h0 ha =>
      cases h0
      refine ⟨_, rfl, _, _, _, _, rfl, rfl, hs, at0 _ _, rfl, _, rfl, ?_⟩
      rw [dec_str]
      refine ifF (by decide +kernel) ?_
      refine ⟨_, rfl, _, _, _, _, rfl, rfl, hs, at0 _ _, (by show 2 ≤ sizeLine; decide), fun p hp => ⟨p, _, rfl, .inr (SqT.of upd_same), rfl, rfl, _, rfl, ?_⟩⟩
      refine ifT (by decide +kernel) ?_
      cases ha with
      | @cons v1 _ _ _ h1 ha =>
        cases ha
        have hs' := sqt_ext (same_ext (same_new hp (.tup [.str "loop", .str "ensure"]))) hs
        refine ⟨_, rfl, 1, rfl, _, _, rfl, hs', fun w => ?_, fun _ r hr2 => ?_⟩
        · exact absurd w.1 (by show ¬ (HT.sIx 2 0 (some 1) = 0); decide)
        · have s2 := (same_new hp (.tup [.str "loop", .str "ensure"])).trans (same_new hr2 (.tup [v1]))
          exact q _ _ s2 (.tup (SqT.of upd_same) (.cons (dp_ext (same_ext s2) _ h1) .nil))
    | en b c =>
      obtain ⟨a, xs, rfl, hs, ha, hl⟩ := len_ok hd
      cases ha with
      | cons h0 ha =>
      cases h0
      refine ⟨_, rfl, _, _, _, _, rfl, rfl, hs, at0 _ _, rfl, _, rfl, ?_⟩
      rw [dec_str]
      refine ifF (by decide +kernel) ?_
      refine ⟨_, rfl, _, _, _, _, rfl, rfl, hs, at0 _ _, (by show 2 ≤ sizeLine; decide), fun p hp => ⟨p, _, rfl, .inr (SqT.of upd_same), rfl, rfl, _, rfl, ?_⟩⟩
      refine ifT (by decide +kernel) ?_
      cases ha with
      | @cons v1 _ _ _ h1 ha =>
        cases ha with
        | @cons v2 _ _ _ h2 ha =>
        cases ha
        have hs' := sqt_ext (same_ext (same_new hp (.tup [.str "loop", .str "ensure"]))) hs
        refine ⟨_, rfl, 1, rfl, _, _, rfl, hs', fun w => ?_, fun _ r hr2 => ?_⟩
        · exact absurd w.1 (by show ¬ (HT.sIx 3 0 (some 1) = 0); decide)
        · have s2 := (same_new hp (.tup [.str "loop", .str "ensure"])).trans (same_new hr2 (.tup [v1, v2]))
          exact q _ _ s2 (.tup (SqT.of upd_same) (.cons (dp_ext (same_ext s2) _ h1) (.cons (dp_ext (same_ext s2) _ h2) .nil)))

def spStm (K : PySem.W.Frag) (Ts : List Addr) : Sp := fun vs H Q _ => ∃ v s L N sec, vs = [v] ∧ Dp K H v (St.d s) ∧ s.ok L N sec ∧ Nok L ∧ Nok N ∧ Tbs Ts H ∧ ∀ H', Go Ts H H' → Q (.bl true) H'
theorem sc__is_statement : FnScope ["thing", "word"] ["thing"] (C8.fnScope (topS 23)) := C8.fnScope_by (by decide +kernel)
theorem ok__is_statement {Ts : List Addr} {f : Addr} {fd : FuncData} (F : C8.Def K mg "_is_statement" (topS 23) f fd) (b : Binds K fd ["thing"] []) (B : Bl K mg) (c_is_row : C8.Cal P w K mg base 1 "is_row" (spRow K) []) (c_is_name : C8.Cal P w K mg base 4 "is_name" (spName K Ts) []) : C8.Cal P w K mg base 5 "_is_statement" (spStm K Ts) [] := by
  refine C8.cal0 F b .nil sc__is_statement ?len ?body
  case len => rintro vs H Q E ⟨v, s, L, N, sec, rfl, _⟩; rfl
  case body =>
    rintro cdv A outer s H vs Q E hr ⟨v, st, L, N, sec, rfl, hd, hok, hL, hN, hTb, q⟩
    refine ⟨_, (pss_cons (ps_if (PW.pt (pw_or (pt_not (pt_val (C8.pe_c c_is_row hr (by decide) rfl (pa_cons (pv 0) (pa_cons pe_int (pa_cons pe_int pa_nil)))))) (pw_or1 (pt_not (pt_val (pe_isD (c := "str") B (pe_ix ix_tup (pv 0) pe_int (fun _ _ => rfl)) rfl rfl B.str (by decide +kernel) (by decide))))))) (pss_one (ps_ret pe_bl)) pss_nil)
    (pss_cons (ps_set (i := 1) sc__is_statement.nd rfl (Or.inl rfl) (pe_ix ix_tup (pv 0) pe_int (fun _ _ => rfl)))
    (pss_cons (ps_if (pt_cmpR op_in_seq (pv 1) (pe_tup (pa_cons pe_str (pa_cons pe_str (pa_cons pe_str pa_nil)))) (by with_unfolding_all rfl)) (pss_one (ps_ret (pe_and (pe_cmpR op_eq (pe_callB call_len_seq rfl B.len PySem.boot_len (pa_cons (pv 0) pa_nil)) pe_int (nomark _)) (pe_one (C8.pe_c c_is_name hr (by decide) rfl (pa_cons (pe_ix ix_tup (pv 0) pe_int (fun _ _ => rfl)) pa_nil)))))) pss_nil)
    (pss_cons (ps_if (pt_cmpR op_eq (pv 1) pe_str (nomark _)) (pss_one (ps_ret (pe_and (pe_cmpR op_eq (pe_callB call_len_seq rfl B.len PySem.boot_len (pa_cons (pv 0) pa_nil)) pe_int (nomark _)) (pe_one (C8.pe_c c_is_row hr (by decide) rfl (pa_cons (pe_ix ix_tup (pv 0) pe_int (fun _ _ => rfl)) (pa_cons (pe_glob (v := .int 2) rfl B.LEAST_BODIES.choose_spec ⟨_, rfl⟩) (pa_cons (pe_glob (v := .int 6) rfl B.MOST_BODIES.choose_spec ⟨_, rfl⟩) pa_nil)))))))) pss_nil)
    (pss_cons (ps_if (pt_cmpR op_eq (pv 1) pe_str (nomark _)) (pss_one (ps_ret (pe_cmpR op_eq (pe_callB call_len_seq rfl B.len PySem.boot_len (pa_cons (pv 0) pa_nil)) pe_int (nomark _)))) pss_nil)
    (pss_cons (ps_if (pt_cmpR op_eq (pv 1) pe_str (nomark _)) (pss_one (ps_ret (pe_cmpR op_eq (pe_callB call_len_seq rfl B.len PySem.boot_len (pa_cons (pv 0) pa_nil)) pe_int (nomark _)))) pss_nil)
    (pss_one (ps_ret (pe_and (pe_cmpR op_eq (pv 1) pe_str (nomark _)) (pe_one (pe_cmpR op_eq (pe_callB call_len_seq rfl B.len PySem.boot_len (pa_cons (pv 0) pa_nil)) pe_int (nomark _)))))))))))), ?_⟩
    cases st with
    | dd x =>
      have hd0 := hd
      obtain ⟨a, xs, rfl, hs, ha, hl⟩ := len_ok hd
      cases ha with
      | cons h0 ha =>
      cases h0
      refine ⟨_, rfl, _, _, 1, 3, rfl, hd0, _, rfl, ?_⟩
      refine iteF ?_
      refine ⟨_, rfl, _, _, _, _, rfl, rfl, hs, at0 _ _, _, _, rfl, .str _, _, rfl, ?_⟩
      refine iteF ?_
      refine ⟨_, rfl, _, _, _, _, rfl, rfl, hs, at0 _ _, ?_⟩
      refine ⟨_, rfl, (by show 3 ≤ sizeLine; decide), fun p hp => ⟨p, _, rfl, .inr (SqT.of upd_same), rfl, rfl, _, rfl, ?_⟩⟩
      have sN := same_new hp (.tup [.str "do", .str "undo", .str "call"])
      have hs' := sqt_ext (same_ext sN) hs
      have gN := Go.of_same hTb sN
      refine ifT (by decide +kernel) ?_
      cases ha with
      | cons h1 ha =>
      cases h1
      cases ha
      have hx : nameB x = true := hL x hok
      refine ⟨_, rfl, a, _, rfl, .inr hs', rfl, _, rfl, ?_⟩
      rw [dec_int]
      refine iteT ?_
      refine ⟨_, rfl, _, _, _, _, rfl, rfl, hs', at1 _ _ _, _, .str x, rfl, .str x, nameB_str hx, gN.1, fun H2 g2 => ?_⟩
      rw [show nameD (.str x) = true from hx]
      exact q _ (gN.trans g2)
    | ud x =>
      have hd0 := hd
      obtain ⟨a, xs, rfl, hs, ha, hl⟩ := len_ok hd
      cases ha with
      | cons h0 ha =>
      cases h0
      refine ⟨_, rfl, _, _, 1, 3, rfl, hd0, _, rfl, ?_⟩
      refine iteF ?_
      refine ⟨_, rfl, _, _, _, _, rfl, rfl, hs, at0 _ _, _, _, rfl, .str _, _, rfl, ?_⟩
      refine iteF ?_
      refine ⟨_, rfl, _, _, _, _, rfl, rfl, hs, at0 _ _, ?_⟩
      refine ⟨_, rfl, (by show 3 ≤ sizeLine; decide), fun p hp => ⟨p, _, rfl, .inr (SqT.of upd_same), rfl, rfl, _, rfl, ?_⟩⟩
      have sN := same_new hp (.tup [.str "do", .str "undo", .str "call"])
      have hs' := sqt_ext (same_ext sN) hs
      have gN := Go.of_same hTb sN
      refine ifT (by decide +kernel) ?_
      cases ha with
      | cons h1 ha =>
      cases h1
      cases ha
      have hx : nameB x = true := hL x hok
      refine ⟨_, rfl, a, _, rfl, .inr hs', rfl, _, rfl, ?_⟩
      rw [dec_int]
      refine iteT ?_
      refine ⟨_, rfl, _, _, _, _, rfl, rfl, hs', at1 _ _ _, _, .str x, rfl, .str x, nameB_str hx, gN.1, fun H2 g2 => ?_⟩
      rw [show nameD (.str x) = true from hx]
      exact q _ (gN.trans g2)
    | cl x =>
      have hd0 := hd
      obtain ⟨a, xs, rfl, hs, ha, hl⟩ := len_ok hd
      cases ha with
      | cons h0 ha =>
      cases h0
      refine ⟨_, rfl, _, _, 1, 3, rfl, hd0, _, rfl, ?_⟩
      refine iteF ?_
      refine ⟨_, rfl, _, _, _, _, rfl, rfl, hs, at0 _ _, _, _, rfl, .str _, _, rfl, ?_⟩
      refine iteF ?_
      refine ⟨_, rfl, _, _, _, _, rfl, rfl, hs, at0 _ _, ?_⟩
      refine ⟨_, rfl, (by show 3 ≤ sizeLine; decide), fun p hp => ⟨p, _, rfl, .inr (SqT.of upd_same), rfl, rfl, _, rfl, ?_⟩⟩
      have sN := same_new hp (.tup [.str "do", .str "undo", .str "call"])
      have hs' := sqt_ext (same_ext sN) hs
      have gN := Go.of_same hTb sN
      refine ifT (by decide +kernel) ?_
      cases ha with
      | cons h1 ha =>
      cases h1
      cases ha
      have hx : nameB x = true := hN x hok
      refine ⟨_, rfl, a, _, rfl, .inr hs', rfl, _, rfl, ?_⟩
      rw [dec_int]
      refine iteT ?_
      refine ⟨_, rfl, _, _, _, _, rfl, rfl, hs', at1 _ _ _, _, .str x, rfl, .str x, nameB_str hx, gN.1, fun H2 g2 => ?_⟩
      rw [show nameD (.str x) = true from hx]
      exact q _ (gN.trans g2)
    | rt =>
      have hd0 := hd
      obtain ⟨a, xs, rfl, hs, ha, hl⟩ := len_ok hd
      cases ha with
      | cons h0 ha =>
      cases h0
      refine ⟨_, rfl, _, _, 1, 3, rfl, hd0, _, rfl, ?_⟩
      refine iteF ?_
      refine ⟨_, rfl, _, _, _, _, rfl, rfl, hs, at0 _ _, _, _, rfl, .str _, _, rfl, ?_⟩
      refine iteF ?_
      refine ⟨_, rfl, _, _, _, _, rfl, rfl, hs, at0 _ _, ?_⟩
      refine ⟨_, rfl, (by show 3 ≤ sizeLine; decide), fun p hp => ⟨p, _, rfl, .inr (SqT.of upd_same), rfl, rfl, _, rfl, ?_⟩⟩
      have sN := same_new hp (.tup [.str "do", .str "undo", .str "call"])
      have hs' := sqt_ext (same_ext sN) hs
      have gN := Go.of_same hTb sN
      refine ifF (by decide +kernel) ?_
      refine ⟨_, rfl, rfl, _, rfl, ?_⟩
      rw [dec_str]
      refine ifF (by decide +kernel) ?_
      refine ⟨_, rfl, rfl, _, rfl, ?_⟩
      rw [dec_str]
      refine ifF (by decide +kernel) ?_
      refine ⟨_, rfl, rfl, _, rfl, ?_⟩
      rw [dec_str]
      refine ifF (by decide +kernel) ?_
      refine ⟨_, rfl, rfl, _, rfl, ?_⟩
      rw [dec_str]
      refine ifT (by decide +kernel) ?_
      refine ⟨_, rfl, a, _, rfl, .inr hs', rfl, ?_⟩
      rw [dec_int, hl]
      exact q _ gN
    | ch bs =>
      have hd0 := hd
      obtain ⟨a, xs, rfl, hs, ha, hl⟩ := len_ok hd
      cases ha with
      | cons h0 ha =>
      cases h0
      refine ⟨_, rfl, _, _, 1, 3, rfl, hd0, _, rfl, ?_⟩
      refine iteF ?_
      refine ⟨_, rfl, _, _, _, _, rfl, rfl, hs, at0 _ _, _, _, rfl, .str _, _, rfl, ?_⟩
      refine iteF ?_
      refine ⟨_, rfl, _, _, _, _, rfl, rfl, hs, at0 _ _, ?_⟩
      refine ⟨_, rfl, (by show 3 ≤ sizeLine; decide), fun p hp => ⟨p, _, rfl, .inr (SqT.of upd_same), rfl, rfl, _, rfl, ?_⟩⟩
      have sN := same_new hp (.tup [.str "do", .str "undo", .str "call"])
      have hs' := sqt_ext (same_ext sN) hs
      have gN := Go.of_same hTb sN
      refine ifF (by decide +kernel) ?_
      refine ⟨_, rfl, rfl, _, rfl, ?_⟩
      rw [dec_str]
      refine ifT (by decide +kernel) ?_
      cases ha with
      | cons h1 ha =>
      cases ha
      refine ⟨_, rfl, a, _, rfl, .inr hs', rfl, _, rfl, ?_⟩
      rw [dec_int]
      refine iteT ?_
      refine ⟨_, rfl, _, _, _, _, rfl, rfl, hs', at1 _ _ _, _, _, 2, 6, rfl, dp_ext (same_ext sN) _ h1, ?_⟩
      have hb := hok.1
      have hb2 := hok.2.1
      rw [show rowD (.tuple (dss bs)) 2 6 = true by
        show (decide ((2 : Int) ≤ ((dss bs).length : Int)) && decide (((dss bs).length : Int) ≤ 6)) = true
        rw [dss_len, Bool.and_eq_true, decide_eq_true_eq, decide_eq_true_eq]
        omega]
      exact q _ gN
    | lp b =>
      have hd0 := hd
      obtain ⟨a, xs, rfl, hs, ha, hl⟩ := len_ok hd
      cases ha with
      | cons h0 ha =>
      cases h0
      refine ⟨_, rfl, _, _, 1, 3, rfl, hd0, _, rfl, ?_⟩
      refine iteF ?_
      refine ⟨_, rfl, _, _, _, _, rfl, rfl, hs, at0 _ _, _, _, rfl, .str _, _, rfl, ?_⟩
      refine iteF ?_
      refine ⟨_, rfl, _, _, _, _, rfl, rfl, hs, at0 _ _, ?_⟩
      refine ⟨_, rfl, (by show 3 ≤ sizeLine; decide), fun p hp => ⟨p, _, rfl, .inr (SqT.of upd_same), rfl, rfl, _, rfl, ?_⟩⟩
      have sN := same_new hp (.tup [.str "do", .str "undo", .str "call"])
      have hs' := sqt_ext (same_ext sN) hs
      have gN := Go.of_same hTb sN
      refine ifF (by decide +kernel) ?_
      refine ⟨_, rfl, rfl, _, rfl, ?_⟩
      rw [dec_str]
      refine ifF (by decide +kernel) ?_
      refine ⟨_, rfl, rfl, _, rfl, ?_⟩
      rw [dec_str]
      refine ifT (by decide +kernel) ?_
      refine ⟨_, rfl, a, _, rfl, .inr hs', rfl, ?_⟩
      rw [dec_int, hl]
      exact q _ gN
    | en b c =>
      have hd0 := hd
      obtain ⟨a, xs, rfl, hs, ha, hl⟩ := len_ok hd
      cases ha with
      | cons h0 ha =>
      cases h0
      refine ⟨_, rfl, _, _, 1, 3, rfl, hd0, _, rfl, ?_⟩
      refine iteF ?_
      refine ⟨_, rfl, _, _, _, _, rfl, rfl, hs, at0 _ _, _, _, rfl, .str _, _, rfl, ?_⟩
      refine iteF ?_
      refine ⟨_, rfl, _, _, _, _, rfl, rfl, hs, at0 _ _, ?_⟩
      refine ⟨_, rfl, (by show 3 ≤ sizeLine; decide), fun p hp => ⟨p, _, rfl, .inr (SqT.of upd_same), rfl, rfl, _, rfl, ?_⟩⟩
      have sN := same_new hp (.tup [.str "do", .str "undo", .str "call"])
      have hs' := sqt_ext (same_ext sN) hs
      have gN := Go.of_same hTb sN
      refine ifF (by decide +kernel) ?_
      refine ⟨_, rfl, rfl, _, rfl, ?_⟩
      rw [dec_str]
      refine ifF (by decide +kernel) ?_
      refine ⟨_, rfl, rfl, _, rfl, ?_⟩
      rw [dec_str]
      refine ifF (by decide +kernel) ?_
      refine ⟨_, rfl, rfl, _, rfl, ?_⟩
      rw [dec_str]
      refine ifT (by decide +kernel) ?_
      refine ⟨_, rfl, a, _, rfl, .inr hs', rfl, ?_⟩
      rw [dec_int, hl]
      exact q _ gN
end
end K12


set_option Elab.async false
set_option linter.all false
set_option maxRecDepth 100000
set_option maxHeartbeats 8000000
namespace K12
open PySem PySem.Spec PyProof.Rows L2
/-! ### what stands in tuples stays -/
def Tk (H H' : Hp) : Prop := ∀ p xs, (H p = some (.tup xs) → H' p = some (.tup xs)) ∧ ∀ o, H p = some (.frz o (.tup xs)) → H' p = some (.frz o (.tup xs))
theorem Tk.refl (H : Hp) : Tk H H := fun _ _ => ⟨id, fun _ => id⟩
theorem Tk.trans {H H1 H2 : Hp} (a : Tk H H1) (b : Tk H1 H2) : Tk H H2 := fun p xs => ⟨fun h => (b p xs).1 ((a p xs).1 h), fun o h => (b p xs).2 o ((a p xs).2 o h)⟩
theorem Tk.same {H H' : Hp} (s : Same H H') : Tk H H' := fun p xs => ⟨fun h => s _ _ h, fun o h => s _ _ h⟩
theorem Tk.new {H : Hp} {a : Addr} (h : H a = none) (o : HO) : Tk H (upd H a o) := Tk.same (same_new h o)
theorem Tk.put {H : Hp} {a : Addr} {xs : List V} (h : H a = some (.lst xs)) (o : HO) : Tk H (upd H a o) := fun p ys => by
  constructor
  · intro e
    rw [upd_ne (fun z => by rw [z, h] at e; cases e)]
    exact e
  · intro u e
    rw [upd_ne (fun z => by rw [z, h] at e; cases e)]
    exact e
theorem Tk.putI {H : Hp} {a C dx : Addr} {fs : List (Str × V)} (h : H a = some (.ins C dx fs)) (o : HO) : Tk H (upd H a o) := fun p ys => by
  constructor
  · intro e
    rw [upd_ne (fun z => by rw [z, h] at e; cases e)]
    exact e
  · intro u e
    rw [upd_ne (fun z => by rw [z, h] at e; cases e)]
    exact e
theorem Tk.go {Ts : List Addr} {H H' : Hp} (t : Tbs Ts H) (g : Go Ts H H') : Tk H H' := fun p xs => by
  have n : ∀ o, H p = some o → (∀ ps, o ≠ .tbl ps) → p ∉ Ts := fun o e no z => by
    obtain ⟨ps, h1, _⟩ := t p z
    rw [h1] at e
    cases e
    exact no _ rfl
  exact ⟨fun e => g.2 _ _ (n _ e (fun ps z => by cases z)) e, fun o e => g.2 _ _ (n _ e (fun ps z => by cases z)) e⟩
-- data of tuples alone
mutual
def TupD : PyData → Prop
  | .list _ => False
  | .dict _ => False
  | .tuple xs => TupDs xs
  | _ => True
def TupDs : List PyData → Prop
  | [] => True
  | d :: r => TupD d ∧ TupDs r
end
theorem tupds_iff : ∀ {b : List PyData}, TupDs b ↔ ∀ s ∈ b, TupD s
  | [] => by simp [TupDs]
  | s :: r => by rw [TupDs, tupds_iff (b := r)]; simp
theorem Tk.sqt {K : PySem.W.Frag} {H H' : Hp} {a : Addr} {xs : List V} (t : Tk H H') (h : SqT K H a xs) : SqT K H' a xs := by
  rcases h with (h | ⟨o, h⟩) | h
  · exact .inl (.inl ((t _ _).1 h))
  · exact .inl (.inr ⟨o, (t _ _).2 o h⟩)
  · exact .inr h
mutual
theorem Tk.dp {K : PySem.W.Frag} {H H' : Hp} (t : Tk H H') : ∀ (d : PyData) {v : V}, TupD d → Dp K H v d → Dp K H' v d
  | .none, _, _, h => by cases h; exact .non
  | .bool _, _, _, h => by cases h; exact .bl _
  | .int _, _, _, h => by cases h; exact .int _
  | .str _, _, _, h => by cases h; exact .str _
  | .list _, _, n, _ => n.elim
  | .tuple ds, _, n, h => by
    cases h with
    | tup hs ha => exact .tup (t.sqt hs) (Tk.dps t ds n ha)
  | .dict _, _, n, _ => n.elim
theorem Tk.dps {K : PySem.W.Frag} {H H' : Hp} (t : Tk H H') : ∀ (ds : List PyData) {vs : List V}, TupDs ds → DpAll K H vs ds → DpAll K H' vs ds
  | [], _, _, h => by cases h; exact .nil
  | d :: ds, _, n, h => by
    cases h with
    | cons h1 h2 => exact .cons (Tk.dp t d n.1 h1) (Tk.dps t ds n.2 h2)
end
mutual
theorem tup_St : ∀ s : St, TupD s.d
  | .dd _ | .ud _ | .cl _ => ⟨trivial, trivial, trivial⟩
  | .ch bs => ⟨trivial, tup_dss bs, trivial⟩
  | .lp b => ⟨trivial, tup_ds b, trivial⟩
  | .rt => ⟨trivial, trivial⟩
  | .en b c => ⟨trivial, tup_ds b, tup_ds c, trivial⟩
theorem tup_ds : ∀ b : List St, TupDs (ds b)
  | [] => trivial
  | s :: r => ⟨tup_St s, tup_ds r⟩
theorem tup_dss : ∀ b : List (List St), TupDs (dss b)
  | [] => trivial
  | b :: r => ⟨tup_ds b, tup_dss r⟩
end
end K12


set_option Elab.async false
set_option linter.all false
set_option maxRecDepth 100000
set_option maxHeartbeats 8000000
namespace K12
open PySem PySem.Spec PyProof.Rows L2
-- how many bodies
mutual
def St.m : St → Nat
  | .ch bs => mss bs
  | .lp b => 1 + ms b
  | .en b c => (1 + ms b) + (1 + ms c)
  | _ => 0
def ms : List St → Nat
  | [] => 0
  | s :: r => s.m + ms r
def mss : List (List St) → Nat
  | [] => 0
  | b :: r => (1 + ms b) + mss r
end
theorem m_bs : ∀ s : St, s.m = mss s.bs
  | .dd _ | .ud _ | .cl _ | .rt | .ch _ => rfl
  | .lp b => by simp [St.m, St.bs, mss]
  | .en b c => by simp [St.m, St.bs, mss]
theorem mss_app : ∀ a b : List (List St), mss (a ++ b) = mss a + mss b
  | [], b => by simp [mss]
  | s :: r, b => by rw [List.cons_append, mss, mss, mss_app r b]; omega
theorem nss_app : ∀ a b : List (List St), nss (a ++ b) = nss a + nss b
  | [], b => by simp [nss]
  | s :: r, b => by rw [List.cons_append, nss, nss, nss_app r b]; omega
theorem len_mss : ∀ b : List (List St), b.length ≤ mss b
  | [] => Nat.le_refl _
  | s :: r => by
    have := len_mss r
    rw [List.length_cons, mss]
    omega
theorem mss_flat : ∀ b : List St, mss (b.flatMap St.bs) = ms b
  | [] => rfl
  | s :: r => by rw [List.flatMap_cons, mss_app, mss_flat r, ms, m_bs]
theorem mss_take : ∀ (l : List (List St)) (j : Nat), mss (l.take j) ≤ mss l
  | [], j => by simp
  | b :: r, 0 => by simp [mss]
  | b :: r, j + 1 => by
    have := mss_take r j
    rw [List.take_succ_cons, mss, mss]
    omega
theorem ms_take : ∀ {b : List St} {i : Nat} {s : St}, b[i]? = some s → ms (b.take i) + s.m ≤ ms b
  | [], i, s, h => by simp at h
  | x :: r, 0, s, h => by
    simp at h
    subst h
    simp [ms]
  | x :: r, i + 1, s, h => by
    have := ms_take (b := r) (i := i) (s := s) (by simpa using h)
    rw [List.take_succ_cons, ms, ms]
    omega
theorem nss_flat : ∀ b : List St, nss (b.flatMap St.bs) + b.length = ns b
  | [] => rfl
  | s :: r => by
    have := nss_flat r
    rw [List.flatMap_cons, nss_app, ns, n_bs, List.length_cons]
    omega
/-- the stack of bodies and their depths -/
inductive Stk (K : PySem.W.Frag) (H : Hp) : List V → List (List St × Nat) → Prop
  | nil : Stk K H [] []
  | snoc {vs : List V} {st : List (List St × Nat)} {p : Addr} {x : V} {b : List St} {d : Nat} : Stk K H vs st → SqT K H p [x, .int (d : Int)] → Dp K H x (.tuple (ds b)) → Stk K H (vs ++ [.ref p]) (st ++ [(b, d)])
theorem Stk.tk {K : PySem.W.Frag} {H H' : Hp} (e : Tk H H') {vs : List V} {st : List (List St × Nat)} (h : Stk K H vs st) : Stk K H' vs st := by
  induction h with
  | nil => exact .nil
  | snoc _ hp hx ih => exact .snoc ih (e.sqt hp) (e.dp _ (tup_ds _) hx)
theorem Stk.len {K : PySem.W.Frag} {H : Hp} {vs : List V} {st : List (List St × Nat)} (h : Stk K H vs st) : vs.length = st.length := by
  induction h with
  | nil => rfl
  | snoc _ _ _ ih => simp [ih]
def push (d : Nat) (bs : List (List St)) : List (List St × Nat) := bs.map fun b => (b, d)
theorem push_fst (d : Nat) (bs : List (List St)) : (push d bs).map Prod.fst = bs := by
  unfold push
  rw [List.map_map]
  exact List.map_id' bs
theorem push_app (d : Nat) (a b : List (List St)) : push d (a ++ b) = push d a ++ push d b := by
  unfold push
  rw [List.map_append]
theorem push_mem {d : Nat} {bs : List (List St)} {e : List St × Nat} (h : e ∈ push d bs) : e.1 ∈ bs ∧ e.2 = d := by
  unfold push at h
  obtain ⟨b, hb, rfl⟩ := List.mem_map.mp h
  exact ⟨hb, rfl⟩
theorem ext_kp {Ts ms : List Addr} {H H' : Hp} (h : Tbs Ts H) (n : ∀ a ∈ ms, H a = none) (k : Kp (ms ++ Ts) H H') : LamX.ExtN H H' := (ext_cut h n).trans ((same_ext k.cut).trans (same_ext cutL_ext))
theorem go_of {Ts ms : List Addr} {H H' : Hp} (n : ∀ a ∈ ms, H a = none) (t : Tbs Ts H') (k : Kp (ms ++ Ts) H H') : Go Ts H H' := ⟨t, fun p o hp e => k p o (fun z => by
  rcases List.mem_append.mp z with z | z
  · rw [n p z] at e; cases e
  · exact hp z) e⟩
theorem kp_go {Ts ms : List Addr} {H H' : Hp} (g : Go Ts H H') : Kp (ms ++ Ts) H H' := g.2.mono fun _ h => List.mem_append_right _ h
theorem tbs_upd {Ts : List Addr} {H : Hp} {a : Addr} {o o' : HO} (h : Tbs Ts H) (e : H a = some o) (n : ∀ ps, o ≠ .tbl ps) : Tbs Ts (upd H a o') := fun T hT => by
  obtain ⟨ps, h1, h2⟩ := h T hT
  refine ⟨ps, ?_, h2⟩
  rw [upd_ne (fun z => by rw [z, e] at h1; cases h1; exact n _ rfl)]
  exact h1
theorem tbs_new {Ts : List Addr} {H : Hp} {a : Addr} {o' : HO} (h : Tbs Ts H) (e : H a = none) : Tbs Ts (upd H a o') := h.same (same_new e _)
def Gd (L N : List Str) (e : List St × Nat) : Prop := ks e.1 + e.2 ≤ 13 ∧ (e.1.length ≤ 60 ∧ wdl e.1) ∧ ∃ sec, oks L N sec e.1
/-- the state of the walk -/
def AbI (K : PySem.W.Frag) (Ts : List Addr) (H0 : Hp) (Wd : Addr) (st : List (List St × Nat)) (H' : Hp) : Prop :=
  Tbs Ts H' ∧ Kp ([Wd] ++ Ts) H0 H' ∧ Tk H0 H' ∧ ∃ vs, H' Wd = some (.lst vs) ∧ Stk K H' vs st
theorem AbI.kp {K : PySem.W.Frag} {Ts : List Addr} {H0 H' H2 : Hp} {Wd : Addr} {st : List (List St × Nat)} (a : AbI K Ts H0 Wd st H') (nW : Wd ∉ Ts) (g : Go Ts H' H2) : AbI K Ts H0 Wd st H2 := by
  obtain ⟨t, k, tk, vs, h1, h2⟩ := a
  have t2 := Tk.go t g
  exact ⟨g.1, k.trans (kp_go g), tk.trans t2, vs, g.2 _ _ nW h1, h2.tk t2⟩
/-- one more on the stack -/
theorem AbI.push1 {K : PySem.W.Frag} {Ts : List Addr} {H0 H' : Hp} {Wd p : Addr} {st : List (List St × Nat)} {x : V} {b : List St} {d : Nat} {vs : List V} (a : AbI K Ts H0 Wd st H') (hp : H' p = none)
    (hv : (upd H' p (.tup [x, .int (d : Int)])) Wd = some (.lst vs)) (hx : Dp K H' x (.tuple (ds b))) : AbI K Ts H0 Wd (st ++ [(b, d)]) (upd (upd H' p (.tup [x, .int (d : Int)])) Wd (.lst (vs ++ [.ref p]))) := by
  obtain ⟨t, k, tk, vs', h1, h2⟩ := a
  have np : p ≠ Wd := fun z => by rw [← z, hp] at h1; cases h1
  have s1 := same_new hp (.tup [x, .int (d : Int)])
  have t1 : Tbs Ts (upd H' p (.tup [x, .int (d : Int)])) := t.same s1
  have hv' := hv
  rw [upd_ne (Ne.symm np), h1] at hv
  cases hv
  have t2 : Tk H' (upd (upd H' p (.tup [x, .int (d : Int)])) Wd (.lst (vs ++ [.ref p]))) := (Tk.same s1).trans (Tk.put hv' _)
  refine ⟨?_, k.trans ((Kp.of_same s1).trans (Kp.put _ (by simp))), tk.trans t2, _, upd_same, ?_⟩
  · exact tbs_upd t1 hv' (fun ps z => by cases z)
  · refine .snoc (h2.tk t2) (SqT.of ?_) (t2.dp _ (tup_ds b) hx)
    rw [upd_ne np]
    exact upd_same
section
variable {P : Program} {w : World} {K : PySem.W.Frag} {mg : Str → Option Value} {base : Heap}

def spAB (K : PySem.W.Frag) (Ts : List Addr) : Sp := fun vs H Q _ => ∃ a xs bl L N, vs = [.ref a] ∧ SqL K H a xs ∧ DpAll K H xs (dss bl) ∧ nss bl ≤ 200 ∧ mss bl ≤ 10000 ∧ kss bl ≤ 12 ∧ wdbs bl ∧ (∀ b ∈ bl, ∃ sec, oks L N sec b) ∧ Nok L ∧ Nok N ∧ Tbs Ts H ∧ ∀ H', Go Ts H H' → Q (.bl true) H'
theorem sc__are_bodies : FnScope ["bodies", "count", "waiting", "body", "depth", "statement", "inner"] ["bodies"] (C8.fnScope (topS 22)) := C8.fnScope_by (by decide +kernel)
theorem ok__are_bodies {Ts : List Addr} {f : Addr} {fd : FuncData} (F : C8.Def K mg "_are_bodies" (topS 22) f fd) (b : Binds K fd ["bodies"] []) (B : Bl K mg) (c_is_row : C8.Cal P w K mg base 1 "is_row" (spRow K) []) (c__is_statement : C8.Cal P w K mg base 5 "_is_statement" (spStm K Ts) []) (c_bodies_of : C8.Cal P w K mg base 1 "bodies_of" (spBod K) []) : C8.Cal P w K mg base 6 "_are_bodies" (spAB K Ts) [] := by
  refine C8.cal0 F b .nil sc__are_bodies ?len ?body
  case len => rintro vs H Q E ⟨a, xs, bl, L, N, rfl, _⟩; rfl
  case body =>
    rintro cdv A outer s H vs Q E hr ⟨a, xs, bl, L, N, rfl, hs, ha, hn, hm0, hk, hw, hok, hL, hN, hTb, q⟩
    refine ⟨_, (pss_cons (ps_set (i := 1) sc__are_bodies.nd rfl (Or.inl rfl) pe_int)
    (pss_cons (ps_setLc (i := 2) (own := [("body", 3)]) (g := gName 3) (by rfl) sc__are_bodies.nd rfl rfl (sw_true rfl rfl rfl (by decide +kernel)) (pi_list (pv 0)) (blkOk_by (own := [("body", 3)]) (N := ["bodies", "count", "waiting", "body", "depth", "statement", "inner"]) (sc := (C8.fnScope (topS 22))) (by decide +kernel)) (fun _ _ _ _ _ => pg_name (i := 3) sc__are_bodies.nd rfl (Or.inl rfl)) (fun _ _ _ _ _ => pts_nil) (fun _ _ _ _ _ => (pe_tup (pa_cons (pv 3) (pa_cons pe_int pa_nil)))))
    (pss_cons (ps_while PassesOwn.never (pt_truth (pv 2) (by intro _; rfl)) (pss_cons (ps_asg (pe_bm0 PySem.F.plainAttrs_list PySem.F.slot_list_pop PySem.F.type_list_pop mt_pop (pv 2)) (pg_tup rfl (pgs_cons (pg_name (i := 3) sc__are_bodies.nd rfl (Or.inl rfl)) (pgs_cons (pg_name (i := 4) sc__are_bodies.nd rfl (Or.inl rfl)) pgs_nil))))
    (pss_cons (ps_if (pt_not (pt_val (C8.pe_c c_is_row hr (by decide) rfl (pa_cons (pv 3) (pa_cons pe_int (pa_cons (pe_glob (v := .int 60) rfl B.MOST_IN_BODY.choose_spec ⟨_, rfl⟩) pa_nil)))))) (pss_one (ps_ret pe_bl)) pss_nil)
    (pss_cons (ps_aug (i := 1) sc__are_bodies.nd rfl (Or.inl rfl) (pe_callB call_len_seq rfl B.len PySem.boot_len (pa_cons (pv 3) pa_nil)) ip_add)
    (pss_cons (ps_if (PW.pt (pw_or (pt_cmpR op_gt (pv 1) (pe_glob (v := .int 200) rfl B.MOST_STATEMENTS.choose_spec ⟨_, rfl⟩) (nomark _)) (pw_or1 (PW.pt (pw_and (pt_truth (pv 3) (by intro _; rfl)) (pw_and1 (pt_cmpR op_gt (pv 4) (pe_glob (v := .int 12) rfl B.LONGEST_CHAIN.choose_spec ⟨_, rfl⟩) (nomark _)))))))) (pss_one (ps_ret pe_bl)) pss_nil)
    (pss_one (ps_for PassesOwn.never rfl (pi_tup (pv 3)) (pg_name (i := 5) sc__are_bodies.nd rfl (Or.inl rfl))
    (pss_cons (ps_if (pt_not (pt_val (C8.pe_c c__is_statement hr (by decide) rfl (pa_cons (pv 5) pa_nil)))) (pss_one (ps_ret pe_bl)) pss_nil)
    (pss_one (ps_for PassesOwn.never rfl (pi_tup (C8.pe_c c_bodies_of hr (by decide) rfl (pa_cons (pv 5) pa_nil))) (pg_name (i := 6) sc__are_bodies.nd rfl (Or.inl rfl))
    (pss_one (ps_expr (pe_bm PySem.F.plainAttrs_list PySem.F.slot_list_append PySem.F.type_list_append mt_append (pv 2) (pa_cons (pe_tup (pa_cons (pv 6) (pa_cons (pe_op op_add (pv 4) pe_int) pa_nil))) pa_nil))))))))))))))
    (pss_one (ps_ret pe_bl))))), ?_⟩
    have hbl := len_mss bl
    have hxl : xs.length = bl.length := by rw [dps_len ha, dss_len]
    refine ⟨_, rfl, a, rfl, ⟨_, hs⟩, fun Wd hWd => ?_⟩
    have nW : Wd ∉ Ts := tbs_cut (ms := []) (o := .rng 0 0) hTb hWd
    have nWs : ∀ p ∈ [Wd], H p = none := fun p hp => by cases List.mem_singleton.mp hp; exact hWd
    refine lc_list (xs := xs) (fun i H' => AbI K Ts H Wd (push 1 (bl.take i)) H') ?_ ?_ ?_ ?_
    · exact ⟨tbs_new hTb hWd, Kp.new _ hWd, Tk.new hWd _, [], upd_same, by rw [List.take_zero]; exact .nil⟩
    · rintro i H' _ ⟨_, k, _⟩
      exact sq_ext (ext_kp hTb nWs k) hs
    · rintro i x H1 hx hI
      obtain ⟨t, k, tk, vs, h1, h2⟩ := id hI
      obtain ⟨d, hd, hp⟩ := dps_get' ha hx
      rw [dss_map, List.getElem?_map] at hd
      obtain ⟨b, hb, rfl⟩ : ∃ b, bl[i]? = some b ∧ d = .tuple (ds b) := by
        cases e : bl[i]? with
        | none => rw [e] at hd; cases hd
        | some b => rw [e] at hd; exact ⟨b, rfl, (Option.some.inj hd).symm⟩
      have hdc := tk.dp (.tuple (ds b)) (tup_ds b) hp
      refine ⟨rfl, ?_⟩
      refine ⟨_, rfl, (by show 2 ≤ sizeLine; decide), fun p hp => ?_⟩
      have np : p ≠ Wd := fun z => by rw [← z, hp] at h1; cases h1
      refine ⟨vs, by rw [upd_ne (Ne.symm np)]; exact h1, ?_, ?_⟩
      · have hv := h2.len
        have hl2 : (push 1 (bl.take i)).length ≤ bl.length := by unfold push; rw [List.length_map]; exact List.length_take_le' _ _
        exact Nat.lt_of_le_of_lt (show vs.length ≤ 10000 by omega) (by decide)
      · have e : push 1 (bl.take (i + 1)) = push 1 (bl.take i) ++ [(b, 1)] := by
          rw [List.take_succ, hb, push_app]
          rfl
        rw [e]
        exact hI.push1 hp (by rw [upd_ne (Ne.symm np)]; exact h1) hdc
    · intro H1 hI
      rw [hxl, List.take_length] at hI
      have good0 : ∀ e ∈ push 1 bl, Gd L N e := fun e he => by
        obtain ⟨h1, h2⟩ := push_mem he
        refine ⟨?_, wdbs_iff.mp hw _ h1, hok _ h1⟩
        have := kss_mem h1
        omega
      refine ⟨fun m σ H' => ∃ (c : Nat) (st : List (List St × Nat)) (b3 b4 b5 b6 : Option V), m = mss (st.map Prod.fst) ∧ σ = [some (.ref a), some (.int (c : Int)), some (.ref Wd), b3, b4, b5, b6] ∧ AbI K Ts H Wd st H' ∧ c + nss (st.map Prod.fst) ≤ 200 ∧ mss (st.map Prod.fst) ≤ 10000 ∧ ∀ e ∈ st, Gd L N e,
        ⟨_, 0, _, none, none, none, none, rfl, rfl, hI, by rw [push_fst]; omega, by rw [push_fst]; exact hm0, good0⟩, ?_⟩
      rintro m σ H2 ⟨c, st, b3, b4, b5, b6, rfl, rfl, hI, hc, hm, hg⟩
      obtain ⟨t, k, tk, vs, h1, h2⟩ := id hI
      refine ⟨_, rfl, _, .inl ⟨_, SqL.of h1, rfl⟩, ?_⟩
      cases h2 with
      | nil =>
        refine ifF rfl ?_
        exact q H2 (go_of nWs t k)
      | @snoc vs' st' p x b d hst hp hx =>
        refine ifT (by simp) ?_
        refine ⟨fun σ' H' => ∃ (c : Nat) (st : List (List St × Nat)) (b3 b4 b5 b6 : Option V), mss (st.map Prod.fst) < mss ((st' ++ [(b, d)]).map Prod.fst) ∧ σ' = [some (.ref a), some (.int (c : Int)), some (.ref Wd), b3, b4, b5, b6] ∧ AbI K Ts H Wd st H' ∧ c + nss (st.map Prod.fst) ≤ 200 ∧ mss (st.map Prod.fst) ≤ 10000 ∧ ∀ e ∈ st, Gd L N e, ?_, ?_⟩
        · rintro σ' H' ⟨c, st, b3, b4, b5, b6, e1, e2, e3, e4, e5, e6⟩
          exact ⟨_, e1, c, st, b3, b4, b5, b6, rfl, e2, e3, e4, e5, e6⟩
        rw [List.map_append, nss_app] at hc
        rw [List.map_append, mss_app] at hm ⊢
        have hc : c + (nss (st'.map Prod.fst) + ns b) ≤ 200 := by
          have e : nss ([(b, d)].map Prod.fst) = ns b := by simp [nss]
          omega
        have em : mss ([(b, d)].map Prod.fst) = 1 + ms b := by simp [mss]
        rw [em] at hm ⊢
        have hgb := hg (b, d) (by simp)
        have hg' : ∀ e ∈ st', Gd L N e := fun e he => hg e (by simp [he])
        refine ⟨_, rfl, .inl ⟨rfl, _, SqL.of h1⟩, Wd, _, .ref p, rfl, rfl, h1, by simp, ?_⟩
        have tk3 : Tk H2 (upd H2 Wd (.lst (vs' ++ [V.ref p]).dropLast)) := Tk.put h1 _
        have I3 : AbI K Ts H Wd st' (upd H2 Wd (.lst (vs' ++ [V.ref p]).dropLast)) := ⟨tbs_upd t h1 (fun ps z => by cases z), k.trans (Kp.put _ (by simp)), tk.trans tk3, vs', by rw [List.dropLast_concat]; exact upd_same, hst.tk tk3⟩
        have hp3 := tk3.sqt hp
        have hx3 := tk3.dp (.tuple (ds b)) (tup_ds b) hx
        show (fun H3 => _) (upd H2 Wd (.lst (vs' ++ [V.ref p]).dropLast))
        generalize upd H2 Wd (.lst (vs' ++ [V.ref p]).dropLast) = H3 at I3 hp3 hx3
        clear tk3
        have hx3' := hx3
        obtain ⟨xa, xxs, rfl, hsx, hax, hlx⟩ := len_ok hx3
        refine ⟨p, _, rfl, hp3, rfl, _, _, rfl, _, _, rfl, rfl, ?_⟩
        have hrow : rowD (.tuple (ds b)) 0 60 = true := by
          have h60 : b.length ≤ 60 := hgb.2.1.1
          show (decide ((0 : Int) ≤ ((ds b).length : Int)) && decide (((ds b).length : Int) ≤ 60)) = true
          rw [ds_len, Bool.and_eq_true, decide_eq_true_eq, decide_eq_true_eq]
          omega
        refine ⟨_, rfl, _, _, 0, 60, rfl, hx3', _, rfl, ?_⟩
        rw [hrow]
        refine iteF ?_
        refine ⟨_, rfl, _, rfl, xa, xxs, rfl, .inr hsx, _, _, rfl, rfl, ?_⟩
        refine ⟨_, rfl, _, _, rfl, rfl, _, rfl, ?_⟩
        have hlb : xxs.length = b.length := by rw [hlx, ds_len]
        have hcb := len_ns b
        rw [hlb]
        rw [show decide ((200 : Int) < (c : Int) + (b.length : Int)) = false from decide_eq_false (by omega)]
        refine iteF ?_
        refine ⟨_, rfl, !xxs.isEmpty, .inr (.inl ⟨xxs, hsx, rfl⟩), ?_⟩
        have fin : xxs.isEmpty = true ∨ (xxs.isEmpty = false ∧ d ≤ 12) := by
          cases xxs with
          | nil => exact .inl rfl
          | cons x0 r =>
            refine .inr ⟨rfl, ?_⟩
            have : b ≠ [] := fun z => by rw [z] at hlb; simp at hlb
            have := ks_pos this
            have h13 : ks b + d ≤ 13 := hgb.1
            omega
        rcases fin with e | ⟨e, hd12⟩
        case' inl =>
          rw [e]
          refine iteF ?_
        case' inr =>
          rw [e]
          refine iteT ⟨_, rfl, _, _, rfl, rfl, _, rfl, ?_⟩
          rw [show decide ((12 : Int) < (d : Int)) = false from decide_eq_false (by omega)]
          refine iteF ?_
        all_goals
          refine ⟨_, rfl, xa, rfl, ⟨_, hsx⟩, ?_⟩
          refine for_tup (xs := xxs) (fun i σ H' => ∃ b5 b6, σ = [some (.ref a), some (.int ((c : Int) + (b.length : Int))), some (.ref Wd), some (.ref xa), some (.int (d : Int)), b5, b6] ∧ AbI K Ts H Wd (st' ++ push (d + 1) ((b.take i).flatMap St.bs)) H' ∧ Tk H3 H') ?_ ?_ ?_ ?_
          · exact ⟨b5, b6, rfl, by rw [List.take_zero]; simpa [push] using I3, Tk.refl _⟩
          · rintro i σ H' _ ⟨_, _, _, _, kk⟩
            exact kk.sqt hsx
          · rintro i x _ H4 hx ⟨b5', b6', rfl, I4, kk4⟩
            obtain ⟨dd, hdd, hdp⟩ := dps_get' hax hx
            rw [ds_map, List.getElem?_map] at hdd
            obtain ⟨s, hsb, rfl⟩ : ∃ s, b[i]? = some s ∧ dd = St.d s := by
              cases e : b[i]? with
              | none => rw [e] at hdd; cases hdd
              | some s => rw [e] at hdd; exact ⟨s, rfl, (Option.some.inj hdd).symm⟩
            have hsm : s ∈ b := List.mem_of_getElem? hsb
            obtain ⟨sec, hsec⟩ := hgb.2.2
            have hso : s.ok L N sec := oks_iff.mp hsec s hsm
            have hsw : s.wd := wdl_iff.mp hgb.2.1.2 s hsm
            have hd4 := kk4.dp _ (tup_St s) hdp
            refine ⟨_, rfl, x, s, L, N, sec, rfl, hd4, hso, hL, hN, I4.1, fun H5 g5 => ⟨_, rfl, ?_⟩⟩
            refine iteF ?_
            have I5 := I4.kp nW g5
            have kk5 : Tk H3 H5 := kk4.trans (Tk.go I4.1 g5)
            have hd5 := kk5.dp _ (tup_St s) hdp
            refine ⟨_, rfl, x, s, rfl, hd5, fun v' H6 s6 hd6 => ?_⟩
            obtain ⟨ra, rxs, rfl, hrs, hra, hrl⟩ := len_ok hd6
            have I6 := I5.kp nW (Go.of_same I5.1 s6)
            have kk6 : Tk H3 H6 := kk5.trans (Tk.same s6)
            refine ⟨ra, rfl, ⟨_, hrs⟩, ?_⟩
            have hrl2 : rxs.length = s.bs.length := by rw [hrl, dss_len]
            refine for_tup (xs := rxs) (fun j σ H' => ∃ b6, σ = [some (.ref a), some (.int ((c : Int) + (b.length : Int))), some (.ref Wd), some (.ref xa), some (.int (d : Int)), some x, b6] ∧ AbI K Ts H Wd (st' ++ push (d + 1) ((b.take i).flatMap St.bs) ++ push (d + 1) (s.bs.take j)) H' ∧ Tk H6 H') ?_ ?_ ?_ ?_
            · exact ⟨b6', rfl, by rw [List.take_zero]; simpa [push] using I6, Tk.refl _⟩
            · rintro j σ H' _ ⟨_, _, _, kk⟩
              exact kk.sqt hrs
            · rintro j y _ H7 hy ⟨b6'', rfl, I7, kk7⟩
              obtain ⟨t7, k7, tk7, vs7, h71, h72⟩ := id I7
              obtain ⟨dd, hdd, hdp2⟩ := dps_get' hra hy
              rw [dss_map, List.getElem?_map] at hdd
              obtain ⟨b2, hb2, rfl⟩ : ∃ b2, s.bs[j]? = some b2 ∧ dd = .tuple (ds b2) := by
                cases e : s.bs[j]? with
                | none => rw [e] at hdd; cases hdd
                | some s => rw [e] at hdd; exact ⟨s, rfl, (Option.some.inj hdd).symm⟩
              have hy7 := kk7.dp (.tuple (ds b2)) (tup_ds b2) hdp2
              refine ⟨_, rfl, .inl ⟨rfl, _, SqL.of h71⟩, _, rfl, _, rfl, _, _, rfl, rfl, (by show 2 ≤ sizeLine; decide), fun p7 hp7 => ?_⟩
              have np : p7 ≠ Wd := fun z => by rw [← z, hp7] at h71; cases h71
              have hW7 : upd H7 p7 (.tup [y, .int ((d : Int) + 1)]) Wd = some (.lst vs7) := by rw [upd_ne (Ne.symm np)]; exact h71
              refine ⟨Wd, vs7, _, rfl, rfl, hW7, ?_, ?_⟩
              · have l7 := h72.len
                have lm := len_mss ((st' ++ push (d + 1) ((b.take i).flatMap St.bs) ++ push (d + 1) (s.bs.take j)).map Prod.fst)
                rw [List.length_map, List.map_append, List.map_append, push_fst, push_fst, mss_app, mss_app, mss_flat] at lm
                have := mss_take s.bs j
                have := ms_take hsb
                have := m_bs s
                exact Nat.lt_of_le_of_lt (show vs7.length ≤ 10000 by omega) (by decide)
              · refine ⟨_, rfl, ?_, ?_⟩
                · have e : st' ++ push (d + 1) ((b.take i).flatMap St.bs) ++ push (d + 1) (s.bs.take (j + 1)) = (st' ++ push (d + 1) ((b.take i).flatMap St.bs) ++ push (d + 1) (s.bs.take j)) ++ [(b2, d + 1)] := by
                    rw [List.take_succ, hb2, push_app]
                    simp [push]
                  rw [e]
                  exact I7.push1 (d := d + 1) hp7 hW7 hy7
                · exact kk7.trans ((Tk.new hp7 _).trans (Tk.put hW7 _))
            · rintro σ H7 ⟨b6'', rfl, I7, kk7⟩
              refine ⟨_, _, rfl, ?_, kk6.trans kk7⟩
              have e : st' ++ push (d + 1) ((b.take (i + 1)).flatMap St.bs) = st' ++ push (d + 1) ((b.take i).flatMap St.bs) ++ push (d + 1) (s.bs.take rxs.length) := by
                rw [hrl2, List.take_length, List.take_succ, hsb, List.flatMap_append, push_app]
                simp
              rw [e]
              exact I7
          · rintro σ H' ⟨b5', b6', rfl, I4, kk4⟩
            rw [hlb, List.take_length] at I4
            refine ⟨c + b.length, _, _, _, _, _, ?_, by rw [Int.natCast_add], I4, ?_, ?_, ?_⟩
            · rw [List.map_append, push_fst, mss_app, mss_flat]
              omega
            · have := nss_flat b
              rw [List.map_append, push_fst, nss_app]
              omega
            · rw [List.map_append, push_fst, mss_app, mss_flat]
              omega
            · intro e he
              rcases List.mem_append.mp he with he | he
              · exact hg' e he
              · obtain ⟨h1, h2⟩ := push_mem he
                obtain ⟨s, hs1, hs2⟩ := List.mem_flatMap.mp h1
                obtain ⟨sec, hsec⟩ := hgb.2.2
                have hso : s.ok L N sec := oks_iff.mp hsec s hs1
                have hsw : s.wd := wdl_iff.mp hgb.2.1.2 s hs1
                refine ⟨?_, wdbs_iff.mp (wd_bs hsw) _ hs2, ok_bs hso _ hs2⟩
                have h13 : ks b + d ≤ 13 := hgb.1
                have := ks_mem hs1
                have := kss_mem hs2
                have := k_bs s
                omega
end
end K12


set_option Elab.async false
set_option linter.all false
set_option maxRecDepth 100000
set_option maxHeartbeats 8000000
namespace K12
open PySem PySem.Spec PyProof.Rows L2
def procD (p : Str × List St) : PyData := .tuple [.str p.1, .tuple (ds p.2)]
def progD (L : List Str) (P : List (Str × List St)) : PyData := .tuple [.tuple (L.map .str), .tuple (P.map procD)]
def nsP (P : List (Str × List St)) : List (List St) := P.map Prod.snd
structure Prog (L : List Str) (P : List (Str × List St)) : Prop where
  l1 : 1 ≤ L.length
  l2 : L.length ≤ 20
  p1 : 1 ≤ P.length
  p2 : P.length ≤ 8
  okL : Nok L
  okN : Nok (P.map Prod.fst)
  ndL : L.Nodup
  ndN : (P.map Prod.fst).Nodup
  ok : ∀ b ∈ nsP P, oks L (P.map Prod.fst) false b
  wd : wdbs (nsP P)
  ks : kss (nsP P) ≤ 12
  n : nss (nsP P) ≤ 200
theorem tup_strs : ∀ L : List Str, TupDs (L.map PyData.str)
  | [] => trivial
  | _ :: r => ⟨trivial, tup_strs r⟩
theorem tup_proc (p : Str × List St) : TupD (procD p) := ⟨trivial, tup_ds p.2, trivial⟩
theorem tup_procs : ∀ P : List (Str × List St), TupDs (P.map procD)
  | [] => trivial
  | p :: r => ⟨tup_proc p, tup_procs r⟩
theorem tup_prog (L : List Str) (P : List (Str × List St)) : TupD (progD L P) := ⟨tup_strs L, tup_procs P, trivial⟩
-- choices have six bodies at most
mutual
theorem m_n {L N : List Str} : ∀ (sec : Bool) (s : St), s.ok L N sec → s.m ≤ 6 * s.n
  | _, .dd _, _ | _, .ud _, _ | _, .cl _, _ | _, .rt, _ => by simp [St.m]
  | sec, .ch bs, h => by
    have := mss_n sec bs h.2.2
    have := h.2.1
    rw [St.m, St.n]
    omega
  | sec, .lp b, h => by
    have := ms_n sec b h
    rw [St.m, St.n]
    omega
  | sec, .en b c, h => by
    have := ms_n sec b h.1
    have := ms_n true c h.2
    rw [St.m, St.n]
    omega
theorem ms_n {L N : List Str} : ∀ (sec : Bool) (b : List St), oks L N sec b → ms b ≤ 6 * ns b
  | _, [], _ => by simp [ms]
  | sec, s :: r, h => by
    have := m_n sec s h.1
    have := ms_n sec r h.2
    rw [ms, ns]
    omega
theorem mss_n {L N : List Str} : ∀ (sec : Bool) (b : List (List St)), okss L N sec b → mss b ≤ b.length + 6 * nss b
  | _, [], _ => by simp [mss]
  | sec, s :: r, h => by
    have := ms_n sec s h.1
    have := mss_n sec r h.2
    rw [mss, nss, List.length_cons]
    omega
end
theorem dps_app {K : PySem.W.Frag} {H : Hp} : ∀ {vs ws : List V} {ds es : List PyData}, DpAll K H vs ds → DpAll K H ws es → DpAll K H (vs ++ ws) (ds ++ es)
  | _, _, _, _, .nil, h => h
  | _, _, _, _, .cons a t, h => .cons a (dps_app t h)
theorem ndl : (["letter"] : List Str).Nodup := by decide +kernel
theorem strs_get {L : List Str} {i : Nat} {d : PyData} (h : (L.map PyData.str)[i]? = some d) : ∃ x, L[i]? = some x ∧ d = .str x := by
  rw [List.getElem?_map] at h
  cases e : L[i]? with
  | none => rw [e] at h; cases h
  | some s => rw [e] at h; exact ⟨s, rfl, (Option.some.inj h).symm⟩
theorem procs_get {P : List (Str × List St)} {i : Nat} {d : PyData} (h : (P.map procD)[i]? = some d) : ∃ x, P[i]? = some x ∧ d = procD x := by
  rw [List.getElem?_map] at h
  cases e : P[i]? with
  | none => rw [e] at h; cases h
  | some s => rw [e] at h; exact ⟨s, rfl, (Option.some.inj h).symm⟩
section
variable {P : Program} {w : World} {K : PySem.W.Frag} {mg : Str → Option Value} {base : Heap}

def spProg (K : PySem.W.Frag) (Ts : List Addr) : Sp := fun vs H Q _ => ∃ v L P, vs = [v] ∧ Dp K H v (progD L P) ∧ Prog L P ∧ Tbs Ts H ∧ ∀ H', Go Ts H H' → Q (.bl true) H'
theorem sc_is_program : FnScope ["thing", "letters", "procedures", "procedure"] ["thing"] (C8.fnScope (topS 21)) := C8.fnScope_by (by decide +kernel)
theorem ok_is_program {Ts : List Addr} {f c T : Addr} {oc : Value} {od an : Option Addr} {kV doc pm ct : Value} {osl : Array (Option Value)}
    (lk : K.lookup f = some ⟨oc, od, .func (PySem.W.fnOf "is_program" "is_program" (C8.fnArgs (topS 21)) (C8.fnBody (topS 21)) (C8.fnScope (topS 21)) .none kV doc pm an (.ref c) ct), osl⟩) (hcd : PySem.W.codeIn K (.ref c) "is_program" = true)
    (TB : LamX.TabB base mg c T) (hT : T ∈ Ts) (B : Bl K mg) (c_is_row : C8.Cal P w K mg base 1 "is_row" (spRow K) []) (c_is_name : C8.Cal P w K mg base 4 "is_name" (spName K Ts) []) (c__are_bodies : C8.Cal P w K mg base 6 "_are_bodies" (spAB K Ts) []) :
    FnOk P w K mg base C8.CX0 8 f (PySem.W.fnOf "is_program" "is_program" (C8.fnArgs (topS 21)) (C8.fnBody (topS 21)) (C8.fnScope (topS 21)) .none kV doc pm an (.ref c) ct) ["thing"] (spProg K Ts) := by
  refine fn_of lk hcd sc_is_program (by rintro vs H Q E ⟨v, d, _, rfl, _⟩; rfl) ?_
  intro A outer s H vs Q E hr hsp
  suffices h : ∃ t, PSs (cxOf C8.CX0 P w K mg base ["thing", "letters", "procedures", "procedure"] "is_program" (C8.fnScope (topS 21)) f (.ref c) A outer s H E).nox (C8.fnBody (topS 21)) t ∧ t { nx := fun _ H' => Q .non H', rt := Q } (start ["thing", "letters", "procedures", "procedure"] vs) H by
    obtain ⟨t, h1, h2⟩ := h
    exact ⟨t, h1.nox, h2⟩
  obtain ⟨v, L, Ps, rfl, hd, hP, hTb, q⟩ := hsp
  refine ⟨_, (pss_cons (ps_if (pt_not (pt_val (C8.pe_c c_is_row hr (by decide) rfl (pa_cons (pv 0) (pa_cons pe_int (pa_cons pe_int pa_nil)))))) (pss_one (ps_ret pe_bl)) pss_nil)
    (pss_cons (ps_asg (pv 0) (pg_tup rfl (pgs_cons (pg_name (i := 1) sc_is_program.nd rfl (Or.inl rfl)) (pgs_cons (pg_name (i := 2) sc_is_program.nd rfl (Or.inl rfl)) pgs_nil))))
    (pss_cons (ps_if (PW.pt (pw_or (pt_not (pt_val (C8.pe_c c_is_row hr (by decide) rfl (pa_cons (pv 1) (pa_cons pe_int (pa_cons (pe_glob (v := .int 20) rfl B.MOST_LETTERS.choose_spec ⟨_, rfl⟩) pa_nil)))))) (pw_or1 (pt_not (pt_val (C8.pe_c c_is_row hr (by decide) rfl (pa_cons (pv 2) (pa_cons pe_int (pa_cons (pe_glob (v := .int 8) rfl B.MOST_PROCEDURES.choose_spec ⟨_, rfl⟩) pa_nil))))))))) (pss_one (ps_ret pe_bl)) pss_nil)
    (pss_cons (ps_for PassesOwn.never rfl (pi_tup (pv 2)) (pg_name (i := 3) sc_is_program.nd rfl (Or.inl rfl))
    (pss_one (ps_if (PW.pt (pw_or (pt_not (pt_val (C8.pe_c c_is_row hr (by decide) rfl (pa_cons (pv 3) (pa_cons pe_int (pa_cons pe_int pa_nil)))))) (pw_or1 (pt_not (pt_val (C8.pe_c c_is_name hr (by decide) rfl (pa_cons (pe_ix ix_tup (pv 3) pe_int (fun _ _ => rfl)) pa_nil))))))) (pss_one (ps_ret pe_bl)) pss_nil)))
    (pss_one (ps_ret (pe_and (UG.pe_allG (P := T) (N := ["letter"]) (k := 4) (g := gName 0) (hr.mono (by decide)) rfl B.all (by decide +kernel) TB rfl (gensc_by (by decide +kernel)) (pi_tup (pv 1))
      (fun _ _ _ _ _ _ _ => by exact pg_name (i := 0) ndl rfl (Or.inl rfl))
      (fun _ _ _ _ _ _ hr' => by exact C8.pe_c c_is_name hr' (by decide) rfl (pa_cons (pv 0) pa_nil))) (pe_one (C8.pe_c c__are_bodies hr (by decide) rfl (pa_cons (pe_lc (own := [("procedure", 3)]) (g := gName 3) (te := tOp (rIxT K) (tVar 3) (tC (.int 1))) (by rfl) sc_is_program.nd (pi_tup (pv 2)) (blkOk_by (own := [("procedure", 3)]) (N := ["thing", "letters", "procedures", "procedure"]) (sc := (C8.fnScope (topS 21))) (by decide +kernel)) (fun _ _ _ _ _ => pg_name (i := 3) sc_is_program.nd rfl (Or.inl rfl)) (fun _ _ _ _ _ => pts_nil) (fun _ _ _ _ _ => by exact (pe_ix ix_tup (pv 3) pe_int (fun _ _ => rfl)))) pa_nil)))))))))), ?_⟩
  have hd0 := hd
  obtain ⟨a, xs, rfl, hs, ha, hl⟩ := len_ok hd
  cases ha with
  | @cons vL _ _ _ hvL ha =>
  cases ha with
  | @cons vP _ _ _ hvP ha =>
  cases ha
  refine ⟨_, rfl, _, _, 2, 2, rfl, hd0, _, rfl, ?_⟩
  refine iteF ?_
  refine ⟨_, rfl, a, _, rfl, hs, rfl, _, _, rfl, _, _, rfl, rfl, ?_⟩
  refine ⟨_, rfl, _, _, 1, 20, rfl, hvL, _, rfl, ?_⟩
  have l1 := hP.l1
  have l2 := hP.l2
  have p1 := hP.p1
  have p2 := hP.p2
  rw [show rowD (.tuple (L.map PyData.str)) 1 20 = true by
    show (decide ((1 : Int) ≤ ((L.map PyData.str).length : Int)) && decide (((L.map PyData.str).length : Int) ≤ 20)) = true
    rw [List.length_map, Bool.and_eq_true, decide_eq_true_eq, decide_eq_true_eq]
    omega]
  refine iteF ?_
  refine ⟨_, rfl, _, _, 1, 8, rfl, hvP, _, rfl, ?_⟩
  rw [show rowD (.tuple (Ps.map procD)) 1 8 = true by
    show (decide ((1 : Int) ≤ ((Ps.map procD).length : Int)) && decide (((Ps.map procD).length : Int) ≤ 8)) = true
    rw [List.length_map, Bool.and_eq_true, decide_eq_true_eq, decide_eq_true_eq]
    omega]
  refine iteF ?_
  have hvL0 := hvL
  have hvP0 := hvP
  obtain ⟨la, lxs, rfl, hls, hla, hll⟩ := len_ok hvL
  obtain ⟨pa, pxs, rfl, hps, hpa, hpl⟩ := len_ok hvP
  rw [List.length_map] at hll hpl
  refine ⟨_, rfl, pa, rfl, ⟨_, hps⟩, ?_⟩
  refine for_tup (xs := pxs) (fun i σ H' => ∃ b3, σ = [some (.ref a), some (.ref la), some (.ref pa), b3] ∧ Go Ts H H') ?_ ?_ ?_ ?_
  · exact ⟨none, rfl, Go.refl hTb⟩
  · rintro i σ H' _ ⟨_, _, g⟩
    exact (Tk.go hTb g).sqt hps
  · rintro i x _ H1 hx ⟨b3, rfl, g⟩
    obtain ⟨d, hd, hdp⟩ := dps_get' hpa hx
    obtain ⟨p, hp, rfl⟩ := procs_get hd
    have hd1 := (Tk.go hTb g).dp _ (tup_proc p) hdp
    refine ⟨_, rfl, _, _, 2, 2, rfl, hd1, _, rfl, ?_⟩
    refine iteF ?_
    obtain ⟨qa, qxs, rfl, hqs, hqa, hql⟩ := len_ok hd1
    cases hqa with
    | @cons v0 _ _ _ h0 hqa =>
    have hnm : nameB p.1 = true := hP.okN p.1 (List.mem_map.mpr ⟨p, List.mem_of_getElem? hp, rfl⟩)
    refine ⟨_, rfl, _, _, _, _, rfl, rfl, hqs, at0 _ _, v0, _, rfl, h0, nameB_str hnm, g.1, fun H2 g2 => ⟨_, rfl, ?_⟩⟩
    rw [show nameD (.str p.1) = true from hnm]
    refine iteF ?_
    exact ⟨_, rfl, g.trans g2⟩
  · rintro σ H1 ⟨b3, rfl, g1⟩
    have hls1 := (Tk.go hTb g1).sqt hls
    refine ⟨_, rfl, la, rfl, ⟨_, hls1⟩, g1.1 T hT, lxs.length, fun i H' => i ≤ lxs.length ∧ Go Ts H H', ⟨?_⟩, ?_⟩
    · rintro i H2 ⟨hi, g2⟩
      have hls2 := (Tk.go hTb g2).sqt hls
      by_cases hlt : i < lxs.length
      · refine .inr ⟨hlt, ⟨_, _, hls2, List.getElem?_eq_getElem hlt⟩, ?_⟩
        rintro x H3 ⟨rfl, hx⟩
        have ex := hx _ hls2
        obtain ⟨d, hd, hdp⟩ := dps_get' hla ex
        obtain ⟨y, hy, rfl⟩ := strs_get hd
        cases hdp
        have hnm : nameB y = true := hP.okL y (List.mem_of_getElem? hy)
        refine ⟨_, rfl, .str y, .str y, rfl, .str y, nameB_str hnm, g2.1, fun H4 g4 => ⟨_, rfl, ?_⟩⟩
        rw [show nameD (.str y) = true from hnm]
        exact iteT ⟨hlt, g2.trans g4⟩
      · refine .inl ⟨⟨_, hls2, by omega⟩, ⟨_, rfl, ?_⟩⟩
        refine iteT ?_
        have hps2 := (Tk.go hTb g2).sqt hps
        refine ⟨_, rfl, pa, rfl, ⟨_, hps2⟩, fun Dd hDd => ?_⟩
        have bodies : ∀ i : Nat, i ≤ Ps.length → True := fun _ _ => trivial
        refine lc_tup (xs := pxs) (fun i H' => ∃ vs, H' Dd = some (.lst vs) ∧ DpAll K H' vs (dss ((nsP Ps).take i)) ∧ Tbs Ts H' ∧ Same H2 H') ?_ ?_ ?_ ?_
        · exact ⟨[], upd_same, by rw [List.take_zero]; exact .nil, tbs_new g2.1 hDd, same_new hDd _⟩
        · rintro i H' _ ⟨_, _, _, _, s5⟩
          exact (Tk.same s5).sqt hps2
        · rintro i x H5 hx ⟨vs, hv1, hv2, t5, s5⟩
          obtain ⟨d, hd, hdp⟩ := dps_get' hpa hx
          obtain ⟨p, hp, rfl⟩ := procs_get hd
          have hd1 := ((Tk.go hTb g2).trans (Tk.same s5)).dp _ (tup_proc p) hdp
          obtain ⟨qa, qxs, rfl, hqs, hqa, hql⟩ := len_ok hd1
          cases hqa with
          | @cons v0 _ _ _ h0 hqa =>
          cases hqa with
          | @cons v1 _ _ _ h1 hqa =>
          refine ⟨rfl, ?_⟩
          refine ⟨_, rfl, _, _, _, _, rfl, rfl, hqs, at1 _ _ _, vs, hv1, ?_, _, upd_same, ?_, tbs_upd t5 hv1 (fun ps z => by cases z), ?_⟩
          · have := dps_len hv2
            rw [dss_len] at this
            have h3 : ((nsP Ps).take i).length ≤ (nsP Ps).length := List.length_take_le' _ _
            have h4 : (nsP Ps).length = Ps.length := by unfold nsP; rw [List.length_map]
            exact Nat.lt_of_le_of_lt (show vs.length ≤ 10000 by omega) (by decide)
          · have tk5 : Tk H5 (upd H5 Dd (.lst (vs ++ [v1]))) := Tk.put hv1 _
            have e : (nsP Ps).take (i + 1) = (nsP Ps).take i ++ [p.2] := by
              unfold nsP
              rw [List.take_succ, List.getElem?_map, hp]
              rfl
            rw [e]
            have e2 : ∀ x y : List (List St), dss (x ++ y) = dss x ++ dss y := fun x y => by rw [dss_map, dss_map, dss_map, List.map_append]
            rw [e2]
            exact dps_app (tk5.dps _ (tup_dss _) hv2) (.cons (tk5.dp (.tuple (ds p.2)) (tup_ds p.2) h1) .nil)
          · intro b o e
            rw [upd_ne (fun z => by rw [z, hDd] at e; cases e)]
            exact s5 _ _ e
        · rintro H5 ⟨vs, hv1, hv2, t5, s5⟩
          have hpl2 : (nsP Ps).length = pxs.length := by unfold nsP; rw [List.length_map, hpl]
          rw [← hpl2, List.take_length] at hv2
          have hkk : ∀ b ∈ nsP Ps, ∃ sec, oks L (Ps.map Prod.fst) sec b := fun b hb => ⟨false, hP.ok b hb⟩
          have hms := mss_n false (nsP Ps) (okss_iff.mpr hP.ok)
          have hn := hP.n
          refine ⟨Dd, vs, nsP Ps, L, Ps.map Prod.fst, rfl, SqL.of hv1, hv2, hn, by omega, hP.ks, hP.wd, hkk, hP.okL, hP.okN, t5, fun H6 g6 => ?_⟩
          exact q _ (g2.trans ((Go.of_same g2.1 s5).trans g6))
    · intro H2 t2
      exact ⟨Nat.zero_le _, g1.trans (Go.of_tab g1.1 hT t2)⟩
def spWant (K : PySem.W.Frag) (Ts : List Addr) : Sp := fun vs H Q _ => ∃ v L P, vs = [v] ∧ Dp K H v (progD L P) ∧ Prog L P ∧ Tbs Ts H ∧ ∀ H', Go Ts H H' → Q .non H'
theorem sc_want_program : FnScope ["program"] ["program"] (C8.fnScope (topS 25)) := C8.fnScope_by (by decide +kernel)
theorem ok_want_program {Ts : List Addr} {f : Addr} {fd : FuncData} (F : C8.Def K mg "want_program" (topS 25) f fd) (b : Binds K fd ["program"] []) (B : Bl K mg) (c_is_program : C8.Cal P w K mg base 8 "is_program" (spProg K Ts) []) : C8.Cal P w K mg base 9 "want_program" (spWant K Ts) [] := by
  refine C8.cal0 F b .nil sc_want_program ?len ?body
  case len => rintro vs H Q E ⟨v, L, Ps, rfl, _⟩; rfl
  case body =>
    rintro cdv A outer s H vs Q E hr ⟨v, L, Ps, rfl, hd, hP, hTb, q⟩
    refine ⟨_, (pss_one (ps_if (pt_not (pt_val (C8.pe_c c_is_program hr (by decide) rfl (pa_cons (pv 0) pa_nil)))) pss_never pss_nil)), ?_⟩
    exact ⟨_, rfl, v, L, Ps, rfl, hd, hP, hTb, fun H1 g1 => ⟨_, rfl, iteF (q H1 g1)⟩⟩
end
end K12


set_option Elab.async false
set_option linter.all false
set_option maxRecDepth 100000
set_option maxHeartbeats 8000000
namespace K12
open PySem PySem.Spec PyProof.Rows L2
theorem for_enumT {K : PySem.W.Frag} {a : Addr} {xs : List V} {g : TG} {tb : TS} {D : Ends} {σ : L2.St} {H : Hp} (Pv : Nat → L2.St → Hp → Prop) (h0 : Pv 0 σ H) (hl : ∀ i σ H, i ≤ xs.length → Pv i σ H → SqT K H a xs)
    (hs : ∀ i x σ H Tp, xs[i]? = some x → Pv i σ H → H Tp = none → g (.ref Tp) σ (upd H Tp (.tup [.int (i : Nat), x])) fun σ2 H2 => tb { D with nx := Pv (i + 1), ct := Pv (i + 1), bk := D.nx } σ2 H2) (hd : ∀ σ H, Pv xs.length σ H → D.nx σ H) :
    ∃ W : Nat → Nat → L2.St → Hp → Prop, (∃ m, W 0 m σ H) ∧ ∀ i m σ H, W i m σ H →
      ((UG.Iet K a).stop i H ∧ D.nx σ H) ∨ ((UG.Iet K a).go i H ∧ ∃ N : L2.St → Hp → Prop, (∀ σ' H', N σ' H' → ∃ m', m' < m ∧ W (i + 1) m' σ' H') ∧ ∀ x H', (UG.Iet K a).yld i H x H' → g x σ H' fun σ2 H2 => tb { D with nx := N, ct := N, bk := D.nx } σ2 H2) := by
  refine ⟨fun i m σ H => m = xs.length - i ∧ i ≤ xs.length ∧ Pv i σ H, ⟨xs.length, by simp, Nat.zero_le _, h0⟩, ?_⟩
  rintro i m σ H ⟨rfl, hi, p⟩
  have q := hl i σ H hi p
  by_cases hlt : i < xs.length
  · refine .inr ⟨⟨xs, xs[i], q, List.getElem?_eq_getElem hlt⟩, Pv (i + 1), fun σ' H' p' => ⟨xs.length - (i + 1), by omega, rfl, hlt, p'⟩, ?_⟩
    rintro _ _ ⟨Tp, x, rfl, hTp, rfl, hx⟩
    exact hs i x σ H Tp (hx xs q) p hTp
  · have e : i = xs.length := by omega
    subst e
    exact .inl ⟨⟨xs, q, Nat.le_refl _⟩, hd σ H p⟩
theorem for_enumLL {K : PySem.W.Frag} {a : Addr} {xs : List V} {g : TG} {tb : TS} {D : Ends} {σ : L2.St} {H : Hp} (Pv : Nat → L2.St → Hp → Prop) (h0 : Pv 0 σ H) (hl : ∀ i σ H, i ≤ xs.length → Pv i σ H → SqL K H a xs)
    (hs : ∀ i x σ H Tp, xs[i]? = some x → Pv i σ H → H Tp = none → g (.ref Tp) σ (upd H Tp (.tup [.int (i : Nat), x])) fun σ2 H2 => tb { D with nx := Pv (i + 1), ct := Pv (i + 1), bk := D.nx } σ2 H2) (hd : ∀ σ H, Pv xs.length σ H → D.nx σ H) :
    ∃ W : Nat → Nat → L2.St → Hp → Prop, (∃ m, W 0 m σ H) ∧ ∀ i m σ H, W i m σ H →
      ((Ite K a).stop i H ∧ D.nx σ H) ∨ ((Ite K a).go i H ∧ ∃ N : L2.St → Hp → Prop, (∀ σ' H', N σ' H' → ∃ m', m' < m ∧ W (i + 1) m' σ' H') ∧ ∀ x H', (Ite K a).yld i H x H' → g x σ H' fun σ2 H2 => tb { D with nx := N, ct := N, bk := D.nx } σ2 H2) := by
  refine ⟨fun i m σ H => m = xs.length - i ∧ i ≤ xs.length ∧ Pv i σ H, ⟨xs.length, by simp, Nat.zero_le _, h0⟩, ?_⟩
  rintro i m σ H ⟨rfl, hi, p⟩
  have q := hl i σ H hi p
  by_cases hlt : i < xs.length
  · refine .inr ⟨⟨xs, xs[i], q, List.getElem?_eq_getElem hlt⟩, Pv (i + 1), fun σ' H' p' => ⟨xs.length - (i + 1), by omega, rfl, hlt, p'⟩, ?_⟩
    rintro _ _ ⟨Tp, x, rfl, hTp, rfl, hx⟩
    exact hs i x σ H Tp (hx xs q) p hTp
  · have e : i = xs.length := by omega
    subst e
    exact .inl ⟨⟨xs, q, Nat.le_refl _⟩, hd σ H p⟩
theorem inV_strs (k : Str) (L : List Str) : inV (.str k) (L.map V.str) = decide (k ∈ L) := by
  rw [inV_str]
  induction L with
  | nil => rfl
  | cons z r ih =>
    rw [List.any_cons, ih]
    by_cases h : k = z
    · subst h; simp
    · simp [h]
theorem flat_strs : ∀ L : List Str, (L.map V.str).all flatV = true
  | [] => rfl
  | _ :: r => by rw [List.map_cons, List.all_cons, flat_strs r]; rfl
theorem sIx_le {n i : Nat} (h : i ≤ n) : HT.sIx n n (some (i : Int)) = i := by
  rw [HT.sIx_nat]
  omega
theorem cut_take (xs : List V) {i : Nat} (h : i ≤ xs.length) : cutV xs none (some (i : Int)) = xs.take i := by
  unfold cutV
  rw [sIx_le h]
  have : HT.sIx xs.length 0 none = 0 := rfl
  rw [this]
  simp
theorem notin_take {L : List Str} (h : L.Nodup) {i : Nat} {x : Str} (e : L[i]? = some x) : x ∉ L.take i := fun z => by
  obtain ⟨j, hj, ej⟩ := List.getElem_of_mem z
  rw [List.length_take] at hj
  rw [List.getElem_take] at ej
  obtain ⟨hi, ei⟩ := List.getElem?_eq_some_iff.mp e
  have := (List.getElem_inj h).mp (ej.trans ei.symm)
  omega
/-- the word of a statement -/
def St.w : St → Str
  | .dd _ => "do"
  | .ud _ => "undo"
  | .cl _ => "call"
  | .ch _ => "choose"
  | .lp _ => "loop"
  | .rt => "return"
  | .en _ _ => "ensure"
theorem d_word : ∀ s : St, ∃ r, s.d = .tuple (.str s.w :: r)
  | .dd _ | .ud _ | .cl _ | .ch _ | .lp _ | .rt | .en _ _ => ⟨_, rfl⟩
def isEn : St → Bool
  | .en _ _ => true
  | _ => false
theorem w_en : ∀ s : St, decide (s.w = "ensure") = isEn s
  | .dd _ => (by decide +kernel : decide (("do" : Str) = "ensure") = false)
  | .ud _ => (by decide +kernel : decide (("undo" : Str) = "ensure") = false)
  | .cl _ => (by decide +kernel : decide (("call" : Str) = "ensure") = false)
  | .ch _ => (by decide +kernel : decide (("choose" : Str) = "ensure") = false)
  | .lp _ => (by decide +kernel : decide (("loop" : Str) = "ensure") = false)
  | .rt => (by decide +kernel : decide (("return" : Str) = "ensure") = false)
  | .en _ _ => (by decide +kernel : decide (("ensure" : Str) = "ensure") = true)
theorem flag_ok {L N : List Str} {sec : Bool} : ∀ {s : St}, s.ok L N sec → ∀ {j : Nat} {b : List St}, s.bs[j]? = some b → oks L N (sec || (isEn s && decide ((j : Int) = 1))) b
  | .dd _, _, j, b, h | .ud _, _, j, b, h | .cl _, _, j, b, h | .rt, _, j, b, h => by simp [St.bs] at h
  | .ch bs, h, j, b, e => by
    rw [show isEn (.ch bs) = false from rfl, Bool.false_and, Bool.or_false]
    exact okss_iff.mp h.2.2 b (List.mem_of_getElem? e)
  | .lp c, h, j, b, e => by
    rw [show isEn (.lp c) = false from rfl, Bool.false_and, Bool.or_false]
    have : b ∈ [c] := List.mem_of_getElem? e
    cases List.mem_singleton.mp this
    exact h
  | .en c d, h, j, b, e => by
    rw [show isEn (.en c d) = true from rfl, Bool.true_and]
    match j, e with
    | 0, e =>
      simp [St.bs] at e
      subst e
      simpa using h.1
    | 1, e =>
      simp [St.bs] at e
      subst e
      simpa using h.2
    | j + 2, e => simp [St.bs] at e
theorem bs_k {s : St} {j : Nat} {b : List St} (e : s.bs[j]? = some b) : ks b < s.k := by
  have := kss_mem (List.mem_of_getElem? e)
  have := k_bs s
  omega
/-- what was found -/
def Fds (K : PySem.W.Frag) (L N : List Str) (H : Hp) (vs : List V) : Prop := ∀ v ∈ vs, ∃ p x s sec, v = .ref p ∧ SqT K H p [x, .bl sec] ∧ Dp K H x (St.d s) ∧ s.ok L N sec
theorem Fds.tk {K : PySem.W.Frag} {L N : List Str} {H H' : Hp} {vs : List V} (h : Fds K L N H vs) (t : Tk H H') : Fds K L N H' vs := fun v hv => by
  obtain ⟨p, x, s, sec, e, h1, h2, h3⟩ := h v hv
  exact ⟨p, x, s, sec, e, t.sqt h1, t.dp _ (tup_St s) h2, h3⟩
theorem Fds.app {K : PySem.W.Frag} {L N : List Str} {H : Hp} {vs ws : List V} (h : Fds K L N H vs) (h2 : Fds K L N H ws) : Fds K L N H (vs ++ ws) := fun v hv => (List.mem_append.mp hv).elim (h v) (h2 v)
theorem ns_take : ∀ {b : List St} {i : Nat} {s : St}, b[i]? = some s → ns (b.take (i + 1)) = ns (b.take i) + s.n
  | [], i, s, h => by simp at h
  | x :: r, 0, s, h => by
    simp at h
    subst h
    simp [ns]
  | x :: r, i + 1, s, h => by
    have := ns_take (b := r) (i := i) (s := s) (by simpa using h)
    rw [List.take_succ_cons, List.take_succ_cons, ns, ns, this]
    omega
theorem ns_take_le : ∀ (b : List St) (i : Nat), ns (b.take i) ≤ ns b
  | [], i => by simp
  | x :: r, 0 => by simp [ns]
  | x :: r, i + 1 => by
    have := ns_take_le r i
    rw [List.take_succ_cons, ns, ns]
    omega
theorem nss_takeS : ∀ {b : List (List St)} {i : Nat} {s : List St}, b[i]? = some s → nss (b.take (i + 1)) = nss (b.take i) + ns s
  | [], i, s, h => by simp at h
  | x :: r, 0, s, h => by
    simp at h
    subst h
    simp [nss]
  | x :: r, i + 1, s, h => by
    have := nss_takeS (b := r) (i := i) (s := s) (by simpa using h)
    rw [List.take_succ_cons, List.take_succ_cons, nss, nss, this]
    omega
theorem nss_take_le : ∀ (b : List (List St)) (i : Nat), nss (b.take i) ≤ nss b
  | [], i => by simp
  | x :: r, 0 => by simp [nss]
  | x :: r, i + 1 => by
    have := nss_take_le r i
    rw [List.take_succ_cons, nss, nss]
    omega
theorem ds_get {b : List St} {i : Nat} {d : PyData} (h : (ds b)[i]? = some d) : ∃ s, b[i]? = some s ∧ d = St.d s := by
  rw [ds_map, List.getElem?_map] at h
  cases e : b[i]? with
  | none => rw [e] at h; cases h
  | some s => rw [e] at h; exact ⟨s, rfl, (Option.some.inj h).symm⟩
theorem dss_get {b : List (List St)} {i : Nat} {d : PyData} (h : (dss b)[i]? = some d) : ∃ s, b[i]? = some s ∧ d = .tuple (ds s) := by
  rw [dss_map, List.getElem?_map] at h
  cases e : b[i]? with
  | none => rw [e] at h; cases h
  | some s => rw [e] at h; exact ⟨s, rfl, (Option.some.inj h).symm⟩
section
variable {P : Program} {w : World} {K : PySem.W.Frag} {mg : Str → Option Value} {base : Heap}

def spFDT (K : PySem.W.Frag) : Sp := fun vs H Q _ => ∃ (a : Addr) (L : List Str), vs = [.ref a] ∧ SqT K H a (L.map V.str) ∧ L.Nodup ∧ ∀ H', Same H H' → Q .non H'
def spFDL (K : PySem.W.Frag) : Sp := fun vs H Q _ => ∃ (a : Addr) (L : List Str), vs = [.ref a] ∧ SqL K H a (L.map V.str) ∧ L.Nodup ∧ ∀ H', Same H H' → Q .non H'
theorem sc__first_double : FnScope ["names", "at", "name"] ["names"] (C8.fnScope (topS 28)) := C8.fnScope_by (by decide +kernel)
theorem ok_fdT {f : Addr} {fd : FuncData} (F : C8.Def K mg "_first_double" (topS 28) f fd) (b : Binds K fd ["names"] []) (B : Bl K mg)  : C8.Cal P w K mg base 1 "_first_double" (spFDT K) [] := by
  refine C8.cal0 F b .nil sc__first_double ?len ?body
  case len => rintro vs H Q E ⟨a, L, rfl, _⟩; rfl
  case body =>
    rintro cdv A outer s H vs Q E hr ⟨a, L, rfl, hs, nd, q⟩
    refine ⟨_, (pss_cons (ps_for PassesOwn.never rfl (UG.pi_enumT rfl B.enumerate (pa_cons (pv 0) pa_nil)) (pg_tup rfl (pgs_cons (pg_name (i := 1) sc__first_double.nd rfl (Or.inl rfl)) (pgs_cons (pg_name (i := 2) sc__first_double.nd rfl (Or.inl rfl)) pgs_nil)))
    (pss_one (ps_if (pt_cmpR op_in_seq (pv 2) (pe_slice sl_tupA (pv 0) po_none (po_some (pv 1))) (by with_unfolding_all rfl)) (pss_one (ps_ret (pv 2))) pss_nil)))
    (pss_one (ps_ret pe_non))), ?_⟩
    refine ⟨_, rfl, a, _, rfl, hs, ?_⟩
    refine for_enumT (xs := L.map V.str) (fun i σ H' => ∃ b1 b2, σ = [some (.ref a), b1, b2] ∧ Same H H') ⟨none, none, rfl, Same.refl H⟩ ?_ ?_ ?_
    · rintro i σ H' _ ⟨_, _, _, s1⟩
      exact sqt_ext (same_ext s1) hs
    · rintro i x _ H1 Tp hx ⟨b1, b2, rfl, s1⟩ hTp
      obtain ⟨y, hy, rfl⟩ : ∃ y, L[i]? = some y ∧ x = .str y := by
        rw [List.getElem?_map] at hx
        cases e : L[i]? with
        | none => rw [e] at hx; cases hx
        | some s => rw [e] at hx; exact ⟨s, rfl, (Option.some.inj hx).symm⟩
      have hi := (List.getElem?_eq_some_iff.mp hy).1
      have s2 := s1.trans (same_new hTp (.tup [.int (i : Nat), .str y]))
      refine ⟨Tp, _, rfl, SqT.of upd_same, rfl, _, _, rfl, _, _, rfl, rfl, ?_⟩
      have hs2 := sqt_ext (same_ext s2) hs
      have e : cutV (L.map V.str) none (some (i : Int)) = (L.take i).map V.str := by
        rw [cut_take _ (by rw [List.length_map]; omega), List.map_take]
      have no := notin_take nd hy
      refine ⟨_, rfl, _, rfl, _, rfl, _, rfl, a, _, rfl, hs2, fun w => ?_, fun _ p hp => ?_⟩
      · exact absurd w.2 (by rw [sIx_le (by rw [List.length_map]; omega), List.length_map]; omega)
      · rw [e]
        refine ⟨p, _, rfl, .inr (SqT.of upd_same), rfl, flat_strs _, _, rfl, ?_⟩
        show if inV (.str y) ((L.take i).map V.str) = true then _ else _
        rw [inV_strs, decide_eq_false no]
        exact iteF ⟨_, _, rfl, s2.trans (same_new hp _)⟩
    · rintro σ H1 ⟨b1, b2, rfl, s1⟩
      exact q H1 s1
theorem ok_fdL {f : Addr} {fd : FuncData} (F : C8.Def K mg "_first_double" (topS 28) f fd) (b : Binds K fd ["names"] []) (B : Bl K mg)  : C8.Cal P w K mg base 1 "_first_double" (spFDL K) [] := by
  refine C8.cal0 F b .nil sc__first_double ?len ?body
  case len => rintro vs H Q E ⟨a, L, rfl, _⟩; rfl
  case body =>
    rintro cdv A outer s H vs Q E hr ⟨a, L, rfl, hs, nd, q⟩
    refine ⟨_, (pss_cons (ps_for PassesOwn.never rfl (pi_enum rfl B.enumerate (pa_cons (pv 0) pa_nil)) (pg_tup rfl (pgs_cons (pg_name (i := 1) sc__first_double.nd rfl (Or.inl rfl)) (pgs_cons (pg_name (i := 2) sc__first_double.nd rfl (Or.inl rfl)) pgs_nil)))
    (pss_one (ps_if (pt_cmpR op_in_seq (pv 2) (pe_slice sl_list (pv 0) po_none (po_some (pv 1))) (by with_unfolding_all rfl)) (pss_one (ps_ret (pv 2))) pss_nil)))
    (pss_one (ps_ret pe_non))), ?_⟩
    refine ⟨_, rfl, a, _, rfl, hs, ?_⟩
    refine for_enumLL (xs := L.map V.str) (fun i σ H' => ∃ b1 b2, σ = [some (.ref a), b1, b2] ∧ Same H H') ⟨none, none, rfl, Same.refl H⟩ ?_ ?_ ?_
    · rintro i σ H' _ ⟨_, _, _, s1⟩
      exact sq_ext (same_ext s1) hs
    · rintro i x _ H1 Tp hx ⟨b1, b2, rfl, s1⟩ hTp
      obtain ⟨y, hy, rfl⟩ : ∃ y, L[i]? = some y ∧ x = .str y := by
        rw [List.getElem?_map] at hx
        cases e : L[i]? with
        | none => rw [e] at hx; cases hx
        | some s => rw [e] at hx; exact ⟨s, rfl, (Option.some.inj hx).symm⟩
      have hi := (List.getElem?_eq_some_iff.mp hy).1
      have s2 := s1.trans (same_new hTp (.tup [.int (i : Nat), .str y]))
      refine ⟨Tp, _, rfl, SqT.of upd_same, rfl, _, _, rfl, _, _, rfl, rfl, ?_⟩
      have hs2 := sq_ext (same_ext s2) hs
      have e : cutV (L.map V.str) none (some (i : Int)) = (L.take i).map V.str := by
        rw [cut_take _ (by rw [List.length_map]; omega), List.map_take]
      have no := notin_take nd hy
      refine ⟨_, rfl, _, rfl, _, rfl, _, rfl, a, _, rfl, hs2, fun p hp => ?_⟩
      rw [e]
      refine ⟨p, _, rfl, .inl (SqL.of upd_same), rfl, flat_strs _, _, rfl, ?_⟩
      show if inV (.str y) ((L.take i).map V.str) = true then _ else _
      rw [inV_strs, decide_eq_false no]
      exact iteF ⟨_, _, rfl, s2.trans (same_new hp _)⟩
    · rintro σ H1 ⟨b1, b2, rfl, s1⟩
      exact q H1 s1

def spFS (K : PySem.W.Frag) (n : Nat) : Sp := fun vs H Q _ => ∃ v b sec F acc L N, vs = [v, .bl sec, .ref F] ∧ Dp K H v (.tuple (ds b)) ∧ ks b < n ∧ oks L N sec b ∧ H F = some (.lst acc) ∧ acc.length + ns b ≤ 1000 ∧
  ∀ H' more, H' F = some (.lst (acc ++ more)) → Fds K L N H' more → more.length = ns b → Tk H H' → Kp [F] H H' → Q .non H'
theorem sc__find_statements : FnScope ["body", "is_second", "found", "statement", "at", "inner"] ["body", "is_second", "found"] (C8.fnScope (topS 30)) := C8.fnScope_by (by decide +kernel)
theorem ok_fs {n : Nat} {f : Addr} {fd : FuncData} (F : C8.Def K mg "_find_statements" (topS 30) f fd) (b : Binds K fd ["body", "is_second", "found"] []) (B : Bl K mg) (c_bodies_of : C8.Cal P w K mg base 1 "bodies_of" (spBod K) []) (c__find_statements : C8.Cal P w K mg base (n + 2) "_find_statements" (spFS K n) []) : C8.Cal P w K mg base (n + 3) "_find_statements" (spFS K (n + 1)) [] := by
  refine C8.cal0 F b .nil sc__find_statements ?len ?body
  case len => rintro vs H Q E ⟨v, b, sec, F, acc, L, N, rfl, _⟩; rfl
  case body =>
    rintro cdv A outer s H vs Q E hr ⟨v, b, sec, F, acc, L, N, rfl, hd, hk, hok, hF, hacc, q⟩
    refine ⟨_, (pss_one (ps_for PassesOwn.never rfl (pi_tup (pv 0)) (pg_name (i := 3) sc__find_statements.nd rfl (Or.inl rfl))
    (pss_cons (ps_expr (pe_bm PySem.F.plainAttrs_list PySem.F.slot_list_append PySem.F.type_list_append mt_append (pv 2) (pa_cons (pe_tup (pa_cons (pv 3) (pa_cons (pv 1) pa_nil))) pa_nil)))
    (pss_one (ps_for PassesOwn.never rfl (UG.pi_enumT rfl B.enumerate (pa_cons (C8.pe_c c_bodies_of hr (by omega) rfl (pa_cons (pv 3) pa_nil)) pa_nil)) (pg_tup rfl (pgs_cons (pg_name (i := 4) sc__find_statements.nd rfl (Or.inl rfl)) (pgs_cons (pg_name (i := 5) sc__find_statements.nd rfl (Or.inl rfl)) pgs_nil)))
    (pss_one (ps_expr (C8.pe_c c__find_statements hr (by omega) rfl (pa_cons (pv 5) (pa_cons (pe_or (pv 1) (pe_one (pe_and (pe_cmpR op_eq (pe_ix ix_tup (pv 3) pe_int (fun _ _ => rfl)) pe_str (nomark _)) (pe_one (pe_cmpR op_eq (pv 4) pe_int (nomark _)))))) (pa_cons (pv 2) pa_nil))))))))))), ?_⟩
    obtain ⟨a, xs, rfl, hs, ha, hl⟩ := len_ok hd
    have hlb : xs.length = b.length := by rw [hl, ds_len]
    refine ⟨_, rfl, a, rfl, ⟨_, hs⟩, ?_⟩
    refine for_tup (xs := xs) (fun i σ H' => ∃ b3 b4 b5 more, σ = [some (.ref a), some (.bl sec), some (.ref F), b3, b4, b5] ∧ H' F = some (.lst (acc ++ more)) ∧ Fds K L N H' more ∧ more.length = ns (b.take i) ∧ Tk H H' ∧ Kp [F] H H') ?_ ?_ ?_ ?_
    · exact ⟨none, none, none, [], rfl, by rw [List.append_nil]; exact hF, fun _ h => (List.not_mem_nil h).elim, by simp [ns], Tk.refl H, Kp.refl H⟩
    · rintro i σ H' _ ⟨_, _, _, _, _, _, _, _, t, _⟩
      exact t.sqt hs
    · rintro i x _ H1 hx ⟨b3, b4, b5, more, rfl, hF1, fd1, ml, t1, k1⟩
      obtain ⟨dd, hdd, hdp⟩ := dps_get' ha hx
      obtain ⟨s, hsb, rfl⟩ := ds_get hdd
      have hsm : s ∈ b := List.mem_of_getElem? hsb
      have hso : s.ok L N sec := oks_iff.mp hok s hsm
      have hsk := ks_mem hsm
      have hnt := ns_take hsb
      have hntl := ns_take_le b (i + 1)
      have hnp := n_bs s
      have hd1 := t1.dp _ (tup_St s) hdp
      refine ⟨_, rfl, .inl ⟨rfl, _, SqL.of hF1⟩, _, rfl, _, rfl, (by show 2 ≤ sizeLine; decide), fun p hp => ?_⟩
      have np : p ≠ F := fun z => by rw [← z, hp] at hF1; cases hF1
      have hF2 : upd H1 p (.tup [x, .bl sec]) F = some (.lst (acc ++ more)) := by rw [upd_ne (Ne.symm np)]; exact hF1
      refine ⟨F, _, _, rfl, rfl, hF2, Nat.lt_of_le_of_lt (show _ ≤ 1000 by rw [List.length_append]; omega) (by decide), ?_⟩
      have t2 : Tk H1 (upd (upd H1 p (.tup [x, .bl sec])) F (.lst (acc ++ more ++ [.ref p]))) := (Tk.new hp _).trans (Tk.put hF2 _)
      have k2 : Kp [F] H1 (upd (upd H1 p (.tup [x, .bl sec])) F (.lst (acc ++ more ++ [.ref p]))) := (Kp.of_same (same_new hp _)).trans (Kp.put _ (by simp))
      have hF3 : upd (upd H1 p (.tup [x, .bl sec])) F (.lst (acc ++ more ++ [.ref p])) F = some (.lst (acc ++ (more ++ [.ref p]))) := by rw [upd_same, List.append_assoc]
      have fd3 : Fds K L N (upd (upd H1 p (.tup [x, .bl sec])) F (.lst (acc ++ more ++ [.ref p]))) (more ++ [.ref p]) := (fd1.tk t2).app fun v hv => by
        cases List.mem_singleton.mp hv
        refine ⟨p, x, s, sec, rfl, SqT.of ?_, t2.dp _ (tup_St s) hd1, hso⟩
        rw [upd_ne np]
        exact upd_same
      show (fun H3 => _) (upd (upd H1 p (.tup [x, .bl sec])) F (.lst (acc ++ more ++ [.ref p])))
      have t3 := t1.trans t2
      have k3 := k1.trans k2
      generalize upd (upd H1 p (.tup [x, .bl sec])) F (.lst (acc ++ more ++ [.ref p])) = H3 at hF3 fd3 t3 k3
      have hd3 := t3.dp _ (tup_St s) hdp
      refine ⟨_, rfl, x, s, rfl, hd3, fun v' H4 s4 hd4 => ?_⟩
      obtain ⟨ra, rxs, rfl, hrs, hra, hrl⟩ := len_ok hd4
      rw [dss_len] at hrl
      refine ⟨ra, _, rfl, hrs, ?_⟩
      refine for_enumT (xs := rxs) (fun j σ H' => ∃ b4 b5 more2, σ = [some (.ref a), some (.bl sec), some (.ref F), some x, b4, b5] ∧ H' F = some (.lst (acc ++ (more ++ [.ref p] ++ more2))) ∧ Fds K L N H' (more ++ [.ref p] ++ more2) ∧ more2.length = nss (s.bs.take j) ∧ Tk H4 H' ∧ Kp [F] H4 H') ?_ ?_ ?_ ?_
      · exact ⟨b4, b5, [], rfl, by rw [List.append_nil]; exact s4 _ _ hF3, by rw [List.append_nil]; exact fd3.tk (Tk.same s4), by simp [nss], Tk.refl _, Kp.refl _⟩
      · rintro j σ H' _ ⟨_, _, _, _, _, _, _, t, _⟩
        exact t.sqt hrs
      · rintro j y _ H5 Tp hy ⟨b4', b5', more2, rfl, hF5, fd5, ml5, t5, k5⟩ hTp
        obtain ⟨dd2, hdd2, hdp2⟩ := dps_get' hra hy
        obtain ⟨b2, hb2, rfl⟩ := dss_get hdd2
        have sT := same_new hTp (.tup [.int (j : Nat), y])
        refine ⟨Tp, _, rfl, SqT.of upd_same, rfl, _, _, rfl, _, _, rfl, rfl, ?_⟩
        have hF6 := sT _ _ hF5
        have t6 := t5.trans (Tk.same sT)
        have k6 : Kp [F] H4 _ := k5.trans (Kp.of_same sT)
        have fd6 := fd5.tk (Tk.same sT)
        generalize upd H5 Tp (.tup [.int (j : Nat), y]) = H6 at hF6 t6 k6 fd6
        have hx6 := ((Tk.same s4).trans t6).dp _ (tup_St s) hd3
        obtain ⟨r, er⟩ := d_word s
        rw [er] at hx6
        obtain ⟨xa, xxs, rfl, hxs, hxa, hxl⟩ := len_ok hx6
        cases hxa with
        | @cons v0 _ _ _ h0 hxa =>
        cases h0
        have hfl := flag_ok hso hb2
        have hkb := bs_k hb2
        have nt := nss_takeS hb2
        have ntl := nss_take_le s.bs (j + 1)
        refine ⟨_, rfl, _, rfl, _, rfl, ?_⟩
        have call : ∀ flag : Bool, oks L N flag b2 → spFS K n [y, .bl flag, .ref F] H6 (fun _ H' => ∃ b4 b5 more2, ([some (.ref a), some (.bl sec), some (.ref F), some (.ref xa), some (.int (j : Int)), some y] : L2.St) = [some (.ref a), some (.bl sec), some (.ref F), some (.ref xa), b4, b5] ∧ H' F = some (.lst (acc ++ (more ++ [.ref p] ++ more2))) ∧ Fds K L N H' (more ++ [.ref p] ++ more2) ∧ more2.length = nss (s.bs.take (j + 1)) ∧ Tk H4 H' ∧ Kp [F] H4 H') C8.E0 := fun flag hfl => by
          refine ⟨y, b2, flag, F, _, L, N, rfl, t6.dp (.tuple (ds b2)) (tup_ds b2) hdp2, by omega, hfl, hF6, ?_, fun H7 m7 h71 h72 h73 t7 k7 => ?_⟩
          · rw [List.length_append, List.length_append, List.length_append]
            simp
            omega
          · refine ⟨_, _, more2 ++ m7, rfl, ?_, ?_, ?_, t6.trans t7, k6.trans k7⟩
            · rw [h71]; simp
            · have := (fd6.tk t7).app h72
              rw [List.append_assoc] at this
              exact this
            · rw [List.length_append]; omega
        cases sec with
        | true =>
          refine iteT ?_
          exact ⟨_, rfl, call true (by simpa using hfl)⟩
        | false =>
          refine iteF ⟨_, rfl, _, _, _, _, rfl, rfl, hxs, at0 _ _, rfl, _, rfl, ?_⟩
          rw [dec_str, w_en]
          rw [Bool.false_or] at hfl
          cases he : isEn s with
          | false =>
            rw [he, Bool.false_and] at hfl
            exact iteF ⟨_, rfl, call false hfl⟩
          | true =>
            rw [he, Bool.true_and] at hfl
            refine iteT ⟨_, rfl, rfl, ?_⟩
            rw [dec_int]
            exact ⟨_, rfl, call _ hfl⟩
      · rintro σ H5 ⟨b4', b5', more2, rfl, hF5, fd5, ml5, t5, k5⟩
        rw [hrl, List.take_length] at ml5
        exact ⟨_, _, _, _, rfl, hF5, fd5, by simp; omega, (t3.trans (Tk.same s4)).trans t5, (k3.trans (Kp.of_same s4)).trans k5⟩
    · rintro σ H1 ⟨b3, b4, b5, more, rfl, hF1, fd1, ml, t1, k1⟩
      rw [hlb, List.take_length] at ml
      exact q H1 more hF1 fd1 ml t1 k1
theorem fs_all {f : Addr} {fd : FuncData} (F : C8.Def K mg "_find_statements" (topS 30) f fd) (b : Binds K fd ["body", "is_second", "found"] []) (B : Bl K mg) (c_bodies_of : C8.Cal P w K mg base 1 "bodies_of" (spBod K) []) : ∀ n : Nat, C8.Cal P w K mg base (n + 2) "_find_statements" (spFS K n) []
  | 0 => by
    refine C8.cal0 F b .nil sc__find_statements ?len ?body
    case len => rintro vs H Q E ⟨_, _, _, _, _, _, _, _, _, h, _⟩; exact absurd h (Nat.not_lt_zero _)
    case body => rintro cdv A outer s H vs Q E hr ⟨_, _, _, _, _, _, _, _, _, h, _⟩; exact absurd h (Nat.not_lt_zero _)
  | n + 1 => ok_fs F b B c_bodies_of (fs_all F b B c_bodies_of n)
end
end K12


set_option Elab.async false
set_option linter.all false
set_option maxRecDepth 100000
set_option maxHeartbeats 8000000
namespace K12
open PySem PySem.Spec PyProof.Rows L2
theorem strs_vals {K : PySem.W.Frag} {H : Hp} : ∀ {L : List Str} {xs : List V}, DpAll K H xs (L.map PyData.str) → xs = L.map V.str
  | [], _, h => by cases h; rfl
  | x :: r, _, h => by
    cases h with
    | cons h1 h2 =>
      cases h1
      rw [strs_vals h2]
      rfl
section
variable {P : Program} {w : World} {K : PySem.W.Frag} {mg : Str → Option Value} {base : Heap}

def spBF (K : PySem.W.Frag) : Sp := fun vs H Q _ => ∃ v la na b L N, vs = [v, .ref la, .ref na] ∧ Dp K H v (.tuple (ds b)) ∧ ks b ≤ 12 ∧ ns b ≤ 200 ∧ oks L N false b ∧ SqT K H la (L.map V.str) ∧ SqL K H na (N.map V.str) ∧ ∀ H', Same H H' → Q .non H'
theorem sc__body_fault : FnScope ["body", "letters", "names", "found", "statement", "is_second", "word"] ["body", "letters", "names"] (C8.fnScope (topS 29)) := C8.fnScope_by (by decide +kernel)
theorem ok__body_fault {f : Addr} {fd : FuncData} (F : C8.Def K mg "_body_fault" (topS 29) f fd) (b : Binds K fd ["body", "letters", "names"] []) (B : Bl K mg) (c__find_statements : C8.Cal P w K mg base 15 "_find_statements" (spFS K 13) []) : C8.Cal P w K mg base 16 "_body_fault" (spBF K) [] := by
  refine C8.cal0 F b .nil sc__body_fault ?len ?body
  case len => rintro vs H Q E ⟨v, la, na, b, L, N, rfl, _⟩; rfl
  case body =>
    rintro cdv A outer s H vs Q E hr ⟨v, la, na, b, L, N, rfl, hd, hk, hn, hok, hla, hna, q⟩
    refine ⟨_, (pss_cons (ps_set (i := 3) sc__body_fault.nd rfl (Or.inl rfl) (pe_lst pa_nil))
    (pss_cons (ps_expr (C8.pe_c c__find_statements hr (by decide) rfl (pa_cons (pv 0) (pa_cons pe_bl (pa_cons (pv 3) pa_nil)))))
    (pss_cons (ps_for PassesOwn.never rfl (pi_list (pv 3)) (pg_tup rfl (pgs_cons (pg_name (i := 4) sc__body_fault.nd rfl (Or.inl rfl)) (pgs_cons (pg_name (i := 5) sc__body_fault.nd rfl (Or.inl rfl)) pgs_nil)))
    (pss_cons (ps_set (i := 6) sc__body_fault.nd rfl (Or.inl rfl) (pe_ix ix_tup (pv 4) pe_int (fun _ _ => rfl)))
    (pss_cons (ps_if (PW.pt (pw_and (pt_cmpR op_in_seq (pv 6) (pe_tup (pa_cons pe_str (pa_cons pe_str pa_nil))) (by with_unfolding_all rfl)) (pw_and1 (pt_cmpR op_notIn_seq (pe_ix ix_tup (pv 4) pe_int (fun _ _ => rfl)) (pv 1) (by with_unfolding_all rfl))))) (pss_one (ps_ret pe_str)) pss_nil)
    (pss_cons (ps_if (PW.pt (pw_and (pt_cmpR op_eq (pv 6) pe_str (nomark _)) (pw_and1 (pt_cmpR op_notIn_seq (pe_ix ix_tup (pv 4) pe_int (fun _ _ => rfl)) (pv 2) (by with_unfolding_all rfl))))) (pss_one (ps_ret pe_str)) pss_nil)
    (pss_one (ps_if (PW.pt (pw_and (pt_cmpR op_eq (pv 6) pe_str (nomark _)) (pw_and1 (pt_val (pv 5))))) (pss_one (ps_ret pe_str)) pss_nil))))))
    (pss_one (ps_ret pe_non))))), ?_⟩
    refine ⟨(by show 0 ≤ sizeLine; decide), fun F hF => ?_⟩
    have s1 := same_new hF (.lst [])
    refine ⟨_, rfl, _, rfl, v, b, false, F, [], L, N, rfl, dp_ext (same_ext s1) _ hd, by omega, hok, upd_same, by simp; omega, fun H2 more hF2 fd2 ml t2 k2 => ?_⟩
    rw [List.nil_append] at hF2
    have s2 : Same H H2 := fun p o e => k2 p o (fun z => by cases List.mem_singleton.mp z; rw [hF] at e; cases e) (s1 p o e)
    refine ⟨_, rfl, F, rfl, ⟨_, SqL.of hF2⟩, ?_⟩
    refine for_list (xs := more) (fun i σ H' => ∃ b4 b5 b6, σ = [some v, some (.ref la), some (.ref na), some (.ref F), b4, b5, b6] ∧ Same H2 H') ?_ ?_ ?_ ?_
    · exact ⟨none, none, none, rfl, Same.refl _⟩
    · rintro i σ H' _ ⟨_, _, _, _, s3⟩
      exact SqL.of (s3 _ _ hF2)
    · rintro i x _ H3 hx ⟨b4, b5, b6, rfl, s3⟩
      obtain ⟨p, xv, st, sec, rfl, hp, hxd, hso⟩ := fd2 x (List.mem_of_getElem? hx)
      have hp3 := (Tk.same s3).sqt hp
      have hd3 := (Tk.same s3).dp _ (tup_St st) hxd
      have hla3 := sqt_ext (same_ext (s2.trans s3)) hla
      have hna3 := sq_ext (same_ext (s2.trans s3)) hna
      refine ⟨p, _, rfl, hp3, rfl, _, _, rfl, _, _, rfl, rfl, ?_⟩
      cases st with
      | dd x =>
        obtain ⟨a, xs, rfl, hs, ha, hl⟩ := len_ok hd3
        cases ha with
        | cons h0 ha =>
        cases h0
        refine ⟨_, rfl, _, _, _, _, rfl, rfl, hs, at0 _ _, ?_⟩
        refine ⟨_, rfl, (by show 2 ≤ sizeLine; decide), fun p2 hp2 => ⟨p2, _, rfl, .inr (SqT.of upd_same), rfl, rfl, _, rfl, ?_⟩⟩
        have sN := same_new hp2 (.tup [.str "do", .str "undo"])
        have hs' := sqt_ext (same_ext sN) hs
        have hla4 := sqt_ext (same_ext sN) hla3
        have hna4 := sq_ext (same_ext sN) hna3
        refine ifT (by decide +kernel) ?_
        cases ha with
        | cons h1 ha =>
        cases h1
        have hin : x ∈ L := hso
        refine ⟨_, rfl, _, _, _, _, rfl, rfl, hs', at1 _ _ _, _, rfl, la, _, rfl, .inr hla4, rfl, flat_strs _, _, rfl, ?_⟩
        show if (!inV (.str x) (L.map V.str)) = true then _ else _
        rw [inV_strs, decide_eq_true hin]
        refine iteF ?_
        refine ⟨_, rfl, rfl, _, rfl, ?_⟩
        rw [dec_str]
        refine ifF (by decide +kernel) ?_
        refine ⟨_, rfl, rfl, _, rfl, ?_⟩
        rw [dec_str]
        refine ifF (by decide +kernel) ?_
        exact ⟨_, _, _, rfl, s3.trans sN⟩
      | ud x =>
        obtain ⟨a, xs, rfl, hs, ha, hl⟩ := len_ok hd3
        cases ha with
        | cons h0 ha =>
        cases h0
        refine ⟨_, rfl, _, _, _, _, rfl, rfl, hs, at0 _ _, ?_⟩
        refine ⟨_, rfl, (by show 2 ≤ sizeLine; decide), fun p2 hp2 => ⟨p2, _, rfl, .inr (SqT.of upd_same), rfl, rfl, _, rfl, ?_⟩⟩
        have sN := same_new hp2 (.tup [.str "do", .str "undo"])
        have hs' := sqt_ext (same_ext sN) hs
        have hla4 := sqt_ext (same_ext sN) hla3
        have hna4 := sq_ext (same_ext sN) hna3
        refine ifT (by decide +kernel) ?_
        cases ha with
        | cons h1 ha =>
        cases h1
        have hin : x ∈ L := hso
        refine ⟨_, rfl, _, _, _, _, rfl, rfl, hs', at1 _ _ _, _, rfl, la, _, rfl, .inr hla4, rfl, flat_strs _, _, rfl, ?_⟩
        show if (!inV (.str x) (L.map V.str)) = true then _ else _
        rw [inV_strs, decide_eq_true hin]
        refine iteF ?_
        refine ⟨_, rfl, rfl, _, rfl, ?_⟩
        rw [dec_str]
        refine ifF (by decide +kernel) ?_
        refine ⟨_, rfl, rfl, _, rfl, ?_⟩
        rw [dec_str]
        refine ifF (by decide +kernel) ?_
        exact ⟨_, _, _, rfl, s3.trans sN⟩
      | cl x =>
        obtain ⟨a, xs, rfl, hs, ha, hl⟩ := len_ok hd3
        cases ha with
        | cons h0 ha =>
        cases h0
        refine ⟨_, rfl, _, _, _, _, rfl, rfl, hs, at0 _ _, ?_⟩
        refine ⟨_, rfl, (by show 2 ≤ sizeLine; decide), fun p2 hp2 => ⟨p2, _, rfl, .inr (SqT.of upd_same), rfl, rfl, _, rfl, ?_⟩⟩
        have sN := same_new hp2 (.tup [.str "do", .str "undo"])
        have hs' := sqt_ext (same_ext sN) hs
        have hla4 := sqt_ext (same_ext sN) hla3
        have hna4 := sq_ext (same_ext sN) hna3
        refine ifF (by decide +kernel) ?_
        refine ⟨_, rfl, rfl, _, rfl, ?_⟩
        rw [dec_str]
        refine ifT (by decide +kernel) ?_
        cases ha with
        | cons h1 ha =>
        cases h1
        have hin : x ∈ N := hso
        refine ⟨_, rfl, _, _, _, _, rfl, rfl, hs', at1 _ _ _, _, rfl, na, _, rfl, .inl hna4, rfl, flat_strs _, _, rfl, ?_⟩
        show if (!inV (.str x) (N.map V.str)) = true then _ else _
        rw [inV_strs, decide_eq_true hin]
        refine iteF ?_
        refine ⟨_, rfl, rfl, _, rfl, ?_⟩
        rw [dec_str]
        refine ifF (by decide +kernel) ?_
        exact ⟨_, _, _, rfl, s3.trans sN⟩
      | rt =>
        obtain ⟨a, xs, rfl, hs, ha, hl⟩ := len_ok hd3
        cases ha with
        | cons h0 ha =>
        cases h0
        refine ⟨_, rfl, _, _, _, _, rfl, rfl, hs, at0 _ _, ?_⟩
        refine ⟨_, rfl, (by show 2 ≤ sizeLine; decide), fun p2 hp2 => ⟨p2, _, rfl, .inr (SqT.of upd_same), rfl, rfl, _, rfl, ?_⟩⟩
        have sN := same_new hp2 (.tup [.str "do", .str "undo"])
        have hs' := sqt_ext (same_ext sN) hs
        have hla4 := sqt_ext (same_ext sN) hla3
        have hna4 := sq_ext (same_ext sN) hna3
        refine ifF (by decide +kernel) ?_
        refine ⟨_, rfl, rfl, _, rfl, ?_⟩
        rw [dec_str]
        refine ifF (by decide +kernel) ?_
        refine ⟨_, rfl, rfl, _, rfl, ?_⟩
        rw [dec_str]
        have hsec : sec = false := hso
        subst hsec
        refine ifT (by decide +kernel) ?_
        refine ⟨_, rfl, _, rfl, ?_⟩
        exact iteF ⟨_, _, _, rfl, s3.trans sN⟩
      | ch bs =>
        obtain ⟨a, xs, rfl, hs, ha, hl⟩ := len_ok hd3
        cases ha with
        | cons h0 ha =>
        cases h0
        refine ⟨_, rfl, _, _, _, _, rfl, rfl, hs, at0 _ _, ?_⟩
        refine ⟨_, rfl, (by show 2 ≤ sizeLine; decide), fun p2 hp2 => ⟨p2, _, rfl, .inr (SqT.of upd_same), rfl, rfl, _, rfl, ?_⟩⟩
        have sN := same_new hp2 (.tup [.str "do", .str "undo"])
        have hs' := sqt_ext (same_ext sN) hs
        have hla4 := sqt_ext (same_ext sN) hla3
        have hna4 := sq_ext (same_ext sN) hna3
        refine ifF (by decide +kernel) ?_
        refine ⟨_, rfl, rfl, _, rfl, ?_⟩
        rw [dec_str]
        refine ifF (by decide +kernel) ?_
        refine ⟨_, rfl, rfl, _, rfl, ?_⟩
        rw [dec_str]
        refine ifF (by decide +kernel) ?_
        exact ⟨_, _, _, rfl, s3.trans sN⟩
      | lp b =>
        obtain ⟨a, xs, rfl, hs, ha, hl⟩ := len_ok hd3
        cases ha with
        | cons h0 ha =>
        cases h0
        refine ⟨_, rfl, _, _, _, _, rfl, rfl, hs, at0 _ _, ?_⟩
        refine ⟨_, rfl, (by show 2 ≤ sizeLine; decide), fun p2 hp2 => ⟨p2, _, rfl, .inr (SqT.of upd_same), rfl, rfl, _, rfl, ?_⟩⟩
        have sN := same_new hp2 (.tup [.str "do", .str "undo"])
        have hs' := sqt_ext (same_ext sN) hs
        have hla4 := sqt_ext (same_ext sN) hla3
        have hna4 := sq_ext (same_ext sN) hna3
        refine ifF (by decide +kernel) ?_
        refine ⟨_, rfl, rfl, _, rfl, ?_⟩
        rw [dec_str]
        refine ifF (by decide +kernel) ?_
        refine ⟨_, rfl, rfl, _, rfl, ?_⟩
        rw [dec_str]
        refine ifF (by decide +kernel) ?_
        exact ⟨_, _, _, rfl, s3.trans sN⟩
      | en b c =>
        obtain ⟨a, xs, rfl, hs, ha, hl⟩ := len_ok hd3
        cases ha with
        | cons h0 ha =>
        cases h0
        refine ⟨_, rfl, _, _, _, _, rfl, rfl, hs, at0 _ _, ?_⟩
        refine ⟨_, rfl, (by show 2 ≤ sizeLine; decide), fun p2 hp2 => ⟨p2, _, rfl, .inr (SqT.of upd_same), rfl, rfl, _, rfl, ?_⟩⟩
        have sN := same_new hp2 (.tup [.str "do", .str "undo"])
        have hs' := sqt_ext (same_ext sN) hs
        have hla4 := sqt_ext (same_ext sN) hla3
        have hna4 := sq_ext (same_ext sN) hna3
        refine ifF (by decide +kernel) ?_
        refine ⟨_, rfl, rfl, _, rfl, ?_⟩
        rw [dec_str]
        refine ifF (by decide +kernel) ?_
        refine ⟨_, rfl, rfl, _, rfl, ?_⟩
        rw [dec_str]
        refine ifF (by decide +kernel) ?_
        exact ⟨_, _, _, rfl, s3.trans sN⟩
    · rintro σ H3 ⟨b4, b5, b6, rfl, s3⟩
      exact q H3 (s2.trans s3)
def spCheck (K : PySem.W.Frag) (Ts : List Addr) : Sp := fun vs H Q _ => ∃ v L P, vs = [v] ∧ Dp K H v (progD L P) ∧ Prog L P ∧ Tbs Ts H ∧ ∀ H', Go Ts H H' → Q .non H'
theorem sc_check : FnScope ["program", "letters", "procedures", "names", "procedure", "double", "name", "body", "word"] ["program"] (C8.fnScope (topS 27)) := C8.fnScope_by (by decide +kernel)
theorem ok_check {Ts : List Addr} {f : Addr} {fd : FuncData} (F : C8.Def K mg "check" (topS 27) f fd) (b : Binds K fd ["program"] []) (B : Bl K mg) (c_want_program : C8.Cal P w K mg base 9 "want_program" (spWant K Ts) []) (c_fdT : C8.Cal P w K mg base 1 "_first_double" (spFDT K) []) (c_fdL : C8.Cal P w K mg base 1 "_first_double" (spFDL K) []) (c__body_fault : C8.Cal P w K mg base 16 "_body_fault" (spBF K) []) : C8.Cal P w K mg base 17 "check" (spCheck K Ts) [] := by
  refine C8.cal0 F b .nil sc_check ?len ?body
  case len => rintro vs H Q E ⟨v, L, Ps, rfl, _⟩; rfl
  case body =>
    rintro cdv A outer s H vs Q E hr ⟨v, L, Ps, rfl, hd, hP, hTb, q⟩
    refine ⟨_, (pss_cons (ps_expr (C8.pe_c c_want_program hr (by decide) rfl (pa_cons (pv 0) pa_nil)))
    (pss_cons (ps_asg (pv 0) (pg_tup rfl (pgs_cons (pg_name (i := 1) sc_check.nd rfl (Or.inl rfl)) (pgs_cons (pg_name (i := 2) sc_check.nd rfl (Or.inl rfl)) pgs_nil))))
    (pss_cons (ps_setLc (i := 3) (te := tOp (rIxT K) (tVar 4) (tC (.int 0)))  (own := [("procedure", 4)]) (g := gName 4) (by rfl) sc_check.nd rfl rfl (sw_true rfl rfl rfl (by decide +kernel)) (pi_tup (pv 2)) (blkOk_by (own := [("procedure", 4)]) (N := ["program", "letters", "procedures", "names", "procedure", "double", "name", "body", "word"]) (sc := (C8.fnScope (topS 27))) (by decide +kernel)) (fun _ _ _ _ _ => pg_name (i := 4) sc_check.nd rfl (Or.inl rfl)) (fun _ _ _ _ _ => pts_nil) (fun _ _ _ _ _ => by exact (pe_ix ix_tup (pv 4) pe_int (fun _ _ => rfl))))
    (pss_cons (ps_set (i := 5) sc_check.nd rfl (Or.inl rfl) (C8.pe_c c_fdT hr (by decide) rfl (pa_cons (pv 1) pa_nil)))
    (pss_cons (ps_if (pt_cmpR op_notN (pv 5) pe_non (nomark _)) (pss_one (ps_ret (pe_tup (pa_cons pe_str (pa_cons (pv 5) pa_nil))))) pss_nil)
    (pss_cons (ps_set (i := 5) sc_check.nd rfl (Or.inl rfl) (C8.pe_c c_fdL hr (by decide) rfl (pa_cons (pv 3) pa_nil)))
    (pss_cons (ps_if (pt_cmpR op_notN (pv 5) pe_non (nomark _)) (pss_one (ps_ret (pe_tup (pa_cons pe_str (pa_cons (pv 5) pa_nil))))) pss_nil)
    (pss_cons (ps_for PassesOwn.never rfl (pi_tup (pv 2)) (pg_tup rfl (pgs_cons (pg_name (i := 6) sc_check.nd rfl (Or.inl rfl)) (pgs_cons (pg_name (i := 7) sc_check.nd rfl (Or.inl rfl)) pgs_nil)))
    (pss_cons (ps_set (i := 8) sc_check.nd rfl (Or.inl rfl) (C8.pe_c c__body_fault hr (by decide) rfl (pa_cons (pv 7) (pa_cons (pv 1) (pa_cons (pv 3) pa_nil)))))
    (pss_one (ps_if (pt_cmpR op_notN (pv 8) pe_non (nomark _)) (pss_one (ps_ret (pe_tup (pa_cons (pv 8) (pa_cons (pv 6) pa_nil))))) pss_nil))))
    (pss_one (ps_ret pe_non)))))))))), ?_⟩
    refine ⟨_, rfl, v, L, Ps, rfl, hd, hP, hTb, fun H1 g1 => ?_⟩
    have hd1 := (Tk.go hTb g1).dp _ (tup_prog L Ps) hd
    obtain ⟨a, xs, rfl, hs, ha, hl⟩ := len_ok hd1
    cases ha with
    | @cons vL _ _ _ hvL ha =>
    cases ha with
    | @cons vP _ _ _ hvP ha =>
    cases ha
    refine ⟨_, rfl, a, _, rfl, hs, rfl, _, _, rfl, _, _, rfl, rfl, ?_⟩
    obtain ⟨la, lxs, rfl, hls, hla, hll⟩ := len_ok hvL
    obtain ⟨pa, pxs, rfl, hps, hpa, hpl⟩ := len_ok hvP
    have elx : lxs = L.map V.str := strs_vals hla
    subst elx
    rw [List.length_map] at hpl
    refine ⟨_, rfl, pa, rfl, ⟨_, hps⟩, fun Dd hDd => ?_⟩
    refine lc_tup (xs := pxs) (fun i H' => H' Dd = some (.lst (((Ps.take i).map Prod.fst).map V.str)) ∧ Same H1 H') ?_ ?_ ?_ ?_
    · exact ⟨by simpa using upd_same, same_new hDd _⟩
    · rintro i H' _ ⟨_, s5⟩
      exact (Tk.same s5).sqt hps
    · rintro i x H5 hx ⟨hv1, s5⟩
      obtain ⟨d, hd, hdp⟩ := dps_get' hpa hx
      obtain ⟨p, hp, rfl⟩ := procs_get hd
      have hd5 := (Tk.same s5).dp _ (tup_proc p) hdp
      obtain ⟨qa, qxs, rfl, hqs, hqa, hql⟩ := len_ok hd5
      cases hqa with
      | @cons v0 _ _ _ h0 hqa =>
      cases h0
      refine ⟨rfl, ?_⟩
      refine ⟨_, rfl, _, _, _, _, rfl, rfl, hqs, at0 _ _, _, hv1, ?_, ?_, ?_⟩
      · have := hP.p2
        have h3 : (Ps.take i).length ≤ Ps.length := List.length_take_le' _ _
        exact Nat.lt_of_le_of_lt (show _ ≤ 8 by rw [List.length_map, List.length_map]; omega) (by decide)
      · rw [upd_same, List.take_succ, hp]
        simp
      · intro b o e
        rw [upd_ne (fun z => by rw [z, hDd] at e; cases e)]
        exact s5 _ _ e
    · rintro H5 ⟨hv1, s5⟩
      rw [hpl, List.take_length] at hv1
      have hls5 := (Tk.same s5).sqt hls
      refine ⟨_, rfl, la, L, rfl, hls5, hP.ndL, fun H6 s6 => ?_⟩
      refine ⟨_, rfl, rfl, _, rfl, ?_⟩
      refine iteF ?_
      have hv6 := s6 _ _ hv1
      refine ⟨_, rfl, Dd, Ps.map Prod.fst, rfl, SqL.of hv6, hP.ndN, fun H7 s7 => ?_⟩
      refine ⟨_, rfl, rfl, _, rfl, ?_⟩
      refine iteF ?_
      have s17 : Same H1 H7 := s5.trans (s6.trans s7)
      have hv7 := s7 _ _ hv6
      refine ⟨_, rfl, pa, rfl, ⟨_, (Tk.same s17).sqt hps⟩, ?_⟩
      refine for_tup (xs := pxs) (fun i σ H' => ∃ b7 b8 b9, σ = [some (.ref a), some (.ref la), some (.ref pa), some (.ref Dd), none, some .non, b7, b8, b9] ∧ Same H7 H') ?_ ?_ ?_ ?_
      · exact ⟨none, none, none, rfl, Same.refl _⟩
      · rintro i σ H' _ ⟨_, _, _, _, s8⟩
        exact (Tk.same (s17.trans s8)).sqt hps
      · rintro i x _ H8 hx ⟨b7, b8, b9, rfl, s8⟩
        obtain ⟨d, hd, hdp⟩ := dps_get' hpa hx
        obtain ⟨p, hp, rfl⟩ := procs_get hd
        have s18 := s17.trans s8
        have hd8 := (Tk.same s18).dp _ (tup_proc p) hdp
        obtain ⟨qa, qxs, rfl, hqs, hqa, hql⟩ := len_ok hd8
        cases hqa with
        | @cons v0 _ _ _ h0 hqa =>
        cases h0
        cases hqa with
        | @cons v1 _ _ _ h1 hqa =>
        cases hqa
        refine ⟨qa, _, rfl, hqs, rfl, _, _, rfl, _, _, rfl, rfl, ?_⟩
        have hpm : p.2 ∈ nsP Ps := List.mem_map.mpr ⟨p, List.mem_of_getElem? hp, rfl⟩
        have hk := kss_mem hpm
        have hn := nss_mem hpm
        have hk2 := hP.ks
        have hn2 := hP.n
        refine ⟨_, rfl, _, rfl, _, rfl, v1, la, Dd, p.2, L, Ps.map Prod.fst, rfl, h1, by omega, by omega, hP.ok _ hpm, (Tk.same s18).sqt hls, SqL.of (s8 _ _ hv7), fun H9 s9 => ?_⟩
        refine ⟨_, rfl, rfl, _, rfl, ?_⟩
        exact iteF ⟨_, _, _, rfl, s8.trans s9⟩
      · rintro σ H8 ⟨b7, b8, b9, rfl, s8⟩
        exact q H8 (g1.trans (Go.of_same g1.1 (s17.trans s8)))
theorem sc_checked : FnScope ["program", "what"] ["program"] (C8.fnScope (topS 31)) := C8.fnScope_by (by decide +kernel)
theorem ok_checked {Ts : List Addr} {f : Addr} {fd : FuncData} (F : C8.Def K mg "checked" (topS 31) f fd) (b : Binds K fd ["program"] []) (B : Bl K mg) (c_check : C8.Cal P w K mg base 17 "check" (spCheck K Ts) []) : C8.Cal P w K mg base 18 "checked" (spCheck K Ts) [] := by
  refine C8.cal0 F b .nil sc_checked ?len ?body
  case len => rintro vs H Q E ⟨v, L, Ps, rfl, _⟩; rfl
  case body =>
    rintro cdv A outer s H vs Q E hr ⟨v, L, Ps, rfl, hd, hP, hTb, q⟩
    refine ⟨_, (pss_cons (ps_set (i := 1) sc_checked.nd rfl (Or.inl rfl) (C8.pe_c c_check hr (by decide) rfl (pa_cons (pv 0) pa_nil)))
    (pss_one (ps_if (pt_cmpR op_notN (pv 1) pe_non (nomark _)) pss_never pss_nil))), ?_⟩
    refine ⟨_, rfl, v, L, Ps, rfl, hd, hP, hTb, fun H1 g1 => ?_⟩
    exact ⟨_, rfl, rfl, _, rfl, iteF (q H1 g1)⟩
end
end K12


set_option Elab.async false
set_option linter.all false
set_option maxRecDepth 100000
set_option maxHeartbeats 8000000
namespace K12
open PySem PySem.Spec PyProof.Rows L2
/-! ### tuples of which the object is known: their methods may be called -/
def TupO (H : Hp) (a : Addr) (ys : List V) : Prop := ∃ o : Obj, H a = some (.frz o (.tup ys)) ∧ o.cls = .type "tuple" ∧ o.dict = none
theorem TupO.tk {H H' : Hp} {a : Addr} {ys : List V} (h : TupO H a ys) (t : Tk H H') : TupO H' a ys := let ⟨o, h1, h2⟩ := h; ⟨o, (t _ _).2 o h1, h2⟩
theorem TupO.sq {K : PySem.W.Frag} {H : Hp} {a : Addr} {ys : List V} (h : TupO H a ys) : SqT K H a ys := let ⟨o, h1, _⟩ := h; .inl (.inr ⟨o, h1⟩)
section
variable {X : Cx}
def rTupZ (K : PySem.W.Frag) : List V → Hp → VK → Prop := fun zs H Q => ∃ (l : Addr) (ys : List V), zs = [.ref l] ∧ SqL K H l ys ∧ ∀ (r : Addr) (ob : Obj), H r = none → ob.cls = .type "tuple" → ob.dict = none → Q (.ref r) (upd H r (.frz ob (.tup ys)))
theorem call_tupleZ : CallR X (.type "tuple") (rTupZ X.K) := by
  intro pins sh σ H zs us Q J rz hyp
  obtain ⟨l, ys, rfl, hl, fin⟩ := hyp
  obtain ⟨u, rfl, ru⟩ := vals1 rz
  have eu : u = Value.ref l := ru
  subst eu
  obtain ⟨its, ri, pp, hsz⟩ := J.list hl
  refine call_tuple_list pp.isList (fun hh keep => ?_) (by rw [List.size_toArray, ← ri.length]; exact hsz)
  have J2 := J.kept (t' := sh.toks) keep
  let ob : Obj := { cls := .type "tuple", data := .seq its.toArray }
  have J3 : Inv X pins σ (upd H hh.objs.size (.frz ob (.tup ys))) { sh with heap := hh.push ob } :=
    J2.laid (t' := sh.toks) (fun _ _ e => Heap.get?_push_of_some _ e) (Nat.le_refl _) ⟨Heap.get?_push_size _ rfl, hsz, its, ri, IsTup.new _ _⟩
  exact ⟨.ref hh.objs.size, _, J3, rfl, fin _ ob (J2.hok.fresh (Nat.le_refl _)) rfl rfl⟩
def tTupM (r : V → List V → Hp → VK → Prop) (to : TE) (t : TA) : TE := fun σ H Q => to σ H fun z H1 => (∃ (a : Addr) (ys : List V), z = .ref a ∧ TupO H1 a ys) ∧ t σ H1 fun zs H2 => r z zs H2 Q
/-- t.index(e), t a tuple of which the object is known -/
theorem pe_tupIx {r : V → List V → Hp → VK → Prop} {o e : Expr} {to : TE} {t : TA} {ap cp : Pos} (hm : MtR X "tuple.index" r) (ho : PE X o to) (ha : PA X [e] t)
    (hb : attributeBase o "index" X.env (eval o X.env) = eval o X.env := by rfl)
    (hf : ((backTo cp (starEach [e] X.env)).all (fun x => !x.1) && (backToKw cp (keywordEach [] X.env)).all (fun x => x.1.isSome) && decide ([e].length + ([] : List Keyword).length + (if ([] : List Keyword).isEmpty then 0 else 1) < 30)) = true := by rfl)
    (hl : (ap.endLine == cp.line) = true := by rfl) (hs : starEach [e] X.env = (false, eval e X.env) :: starEach [] X.env := by rfl) (hp : (backTo cp (starEach [] X.env)).any (·.1) = false := by rfl) :
    PE X (.Call (.Attribute o "index" ap) [e] [] cp) (tTupM r to t) := by
  refine ⟨fun pins sh σ H Q J hyp => wpAny_Call_method_late hb hf hl rfl (thn (ho.run pins sh σ H _ J hyp) ?_)⟩
  rintro v s1 ⟨z, H1, J1, rz, ⟨a, ys, rfl, ob, h1, h2, h3⟩, fin⟩
  have ev : v = Value.ref a := rz
  subst ev
  have hob : s1.heap.get? a = some ob := (J1.hok a _ h1).1
  refine ⟨"tuple", "tuple.index", PySem.F.plainAttrs_tuple, PySem.F.slot_tuple_index, PySem.F.type_tuple_index, ⟨ob, hob, h2⟩, fun b eb => ?_, ?_⟩
  · cases eb
    exact ⟨ob, hob, h3⟩
  · have go := ha.run cp pins s1 σ H1 _ J1 fin
    rw [hs] at go ⊢
    refine Calls.callWith_builtin ?_ (Calls.evalArgs_plain (thn go ?_))
    · show (false || (backTo cp (starEach [] X.env)).any (·.1)) = false
      rw [hp]
      rfl
    · rintro us s2 ⟨zs, H2, J2, r2, q2⟩
      exact hm pins s2 σ H2 _ zs _ us Q J2 rz r2 q2
end
/-! ### the layout only grows -/
mutual
theorem grow_S (L N : List Str) : ∀ (s : St) {lv : List PyData → Int × List PyData} (t : Int) (ps : List PyData), (∀ ps, ps.length ≤ (lv ps).2.length) → ps.length ≤ (layS L N lv s t ps).2.length
  | .dd _, _, _, _, _ | .ud _, _, _, _, _ | .cl _, _, _, _, _ => by rw [layS, List.length_append]; omega
  | .ch bs, lv, t, ps, h => by
    have := grow_Bs L N bs t ps h
    rw [layS, List.length_append]
    omega
  | .lp b, lv, t, ps, h => by
    have := grow_B L N b (ps.length : Nat) (ps ++ [.none]) h
    rw [List.length_append] at this
    rw [layS, List.length_set]
    omega
  | .rt, lv, t, ps, h => h ps
  | .en b c, lv, t, ps, h => by
    have h0 : ∀ ps : List PyData, ps.length ≤ ((fun ps => ((0 : Int), ps)) ps).2.length := fun _ => Nat.le_refl _
    have h1 := grow_B L N c (lv := fun ps => ((0 : Int), ps)) t ps h0
    rw [layS]
    refine Nat.le_trans h1 (grow_B L N b _ _ fun ps => ?_)
    exact Nat.le_trans (h ps) (grow_B L N c _ _ h0)
theorem grow_B (L N : List Str) : ∀ (b : List St) {lv : List PyData → Int × List PyData} (t : Int) (ps : List PyData), (∀ ps, ps.length ≤ (lv ps).2.length) → ps.length ≤ (layB L N lv b t ps).2.length
  | [], _, _, _, _ => Nat.le_refl _
  | s :: r, lv, t, ps, h => by
    rw [layB]
    exact Nat.le_trans (grow_B L N r t ps h) (grow_S L N s _ _ h)
theorem grow_Bs (L N : List Str) : ∀ (b : List (List St)) {lv : List PyData → Int × List PyData} (t : Int) (ps : List PyData), (∀ ps, ps.length ≤ (lv ps).2.length) → ps.length ≤ (layBs L N lv b t ps).2.length
  | [], _, _, _, _ => Nat.le_refl _
  | s :: r, lv, t, ps, h => by
    rw [layBs]
    exact Nat.le_trans (grow_B L N s t ps h) (grow_Bs L N r t _ h)
end
theorem grow_lv0 (ps : List PyData) : ps.length ≤ (lv0 ps).2.length := Nat.le_refl _
theorem fold_app (L N : List Str) (a b : List (List St)) (ps : List PyData) : leave L N (a ++ b) ps = b.foldl (fun q c => layB L N lv0 c q.1 q.2) (leave L N a ps) := by
  unfold leave
  rw [List.foldl_append]
theorem grow_fold (L N : List Str) : ∀ (b : List (List St)) (q : Int × List PyData), q.2.length ≤ (b.foldl (fun q c => layB L N lv0 c q.1 q.2) q).2.length
  | [], _ => Nat.le_refl _
  | c :: r, q => by
    rw [List.foldl_cons]
    exact Nat.le_trans (grow_B L N c q.1 q.2 grow_lv0) (grow_fold L N r _)
theorem grow_leave {L N : List Str} (secs : List (List St)) (ps : List PyData) : ps.length ≤ (leave L N secs ps).2.length := grow_fold L N secs (0, ps)
theorem leave_le {L N : List Str} (a b : List (List St)) (ps : List PyData) : (leave L N a ps).2.length ≤ (leave L N (a ++ b) ps).2.length := by
  rw [fold_app]
  exact grow_fold L N b _
-- data without lists
mutual
theorem tup_S (L N : List Str) : ∀ (s : St) {lv : List PyData → Int × List PyData} (t : Int) (ps : List PyData), (∀ ps, TupDs ps → TupDs (lv ps).2) → TupDs ps → TupDs (layS L N lv s t ps).2
  | .dd _, _, _, _, _, p | .ud _, _, _, _, _, p | .cl _, _, _, _, _, p => tupds_iff.mpr fun d hd => (List.mem_append.mp hd).elim (tupds_iff.mp p d) fun h => by
    cases List.mem_singleton.mp h
    exact ⟨trivial, trivial, trivial, trivial⟩
  | .ch bs, lv, t, ps, h, p => by
    have := tup_Bs L N bs t ps h p
    refine tupds_iff.mpr fun d hd => (List.mem_append.mp hd).elim (tupds_iff.mp this d) fun h => ?_
    cases List.mem_singleton.mp h
    refine ⟨trivial, tupds_iff.mpr fun d hd => ?_, trivial⟩
    obtain ⟨i, _, rfl⟩ := List.mem_map.mp hd
    trivial
  | .lp b, lv, t, ps, h, p => by
    have := tup_B L N b (ps.length : Nat) (ps ++ [.none]) h (tupds_iff.mpr fun d hd => (List.mem_append.mp hd).elim (tupds_iff.mp p d) fun h => by
      cases List.mem_singleton.mp h
      trivial)
    refine tupds_iff.mpr fun d hd => ?_
    rcases List.mem_or_eq_of_mem_set hd with h | h
    · exact tupds_iff.mp this d h
    · subst h
      exact ⟨trivial, ⟨trivial, trivial, trivial⟩, trivial⟩
  | .rt, lv, t, ps, h, p => h ps p
  | .en b c, lv, t, ps, h, p => by
    have h0 : ∀ ps : List PyData, TupDs ps → TupDs ((fun ps => ((0 : Int), ps)) ps).2 := fun _ h => h
    rw [layS]
    exact tup_B L N b _ _ (fun ps p => tup_B L N c _ _ h0 (h ps p)) (tup_B L N c t ps h0 p)
theorem tup_B (L N : List Str) : ∀ (b : List St) {lv : List PyData → Int × List PyData} (t : Int) (ps : List PyData), (∀ ps, TupDs ps → TupDs (lv ps).2) → TupDs ps → TupDs (layB L N lv b t ps).2
  | [], _, _, _, _, p => p
  | s :: r, lv, t, ps, h, p => by
    rw [layB]
    exact tup_S L N s _ _ h (tup_B L N r t ps h p)
theorem tup_Bs (L N : List Str) : ∀ (b : List (List St)) {lv : List PyData → Int × List PyData} (t : Int) (ps : List PyData), (∀ ps, TupDs ps → TupDs (lv ps).2) → TupDs ps → TupDs (layBs L N lv b t ps).2
  | [], _, _, _, _, p => p
  | s :: r, lv, t, ps, h, p => by
    rw [layBs]
    exact tup_Bs L N r t _ h (tup_B L N s t ps h p)
end
theorem tup_fold (L N : List Str) : ∀ (b : List (List St)) (q : Int × List PyData), TupDs q.2 → TupDs (b.foldl (fun q c => layB L N lv0 c q.1 q.2) q).2
  | [], _, h => h
  | c :: r, q, h => by
    rw [List.foldl_cons]
    exact tup_fold L N r _ (tup_B L N c q.1 q.2 (fun _ h => h) h)
theorem tup_leave {L N : List Str} (secs : List (List St)) (ps : List PyData) (h : TupDs ps) : TupDs (leave L N secs ps).2 := tup_fold L N secs (0, ps) h
theorem idx_get {L : List Str} {x : Str} (h : x ∈ L) : L[L.findIdx (· == x)]? = some x ∧ ∀ m, m < L.findIdx (· == x) → L[m]? ≠ some x := by
  have hlt : L.findIdx (· == x) < L.length := List.findIdx_lt_length_of_exists ⟨x, h, by simp⟩
  constructor
  · have := List.findIdx_getElem (w := hlt)
    rw [List.getElem?_eq_getElem hlt]
    simpa using this
  · intro m hm e
    have := List.not_of_lt_findIdx hm
    have e2 := (List.getElem?_eq_some_iff.mp e).2
    simp [e2] at this
end K12


set_option Elab.async false
set_option linter.all false
set_option maxRecDepth 100000
set_option maxHeartbeats 4000000
/-! d.setdefault(t, e), t a tuple of ints and texts -/
namespace UG
open PySem PySem.Spec PyProof.Rows L2
section
variable {X : Cx} {pins : List (Addr × Obj)} {σ : L2.St} {H : Hp} {sh : Shared} {D b : Addr} {r : Value} {d : V} {k : List Key} {A : Around} {E : Value → Shared → Prop} {kvs : List (List Key × V)} {Q : Value → Shared → Prop}
theorem setd_tup (room : A.units + 1 < cLine) (J : Inv X pins σ H sh) (hD : H D = some (.dT kvs)) (hb : H b = some (.tup (k.map kV))) (rd : RelV d r) (small : kvs.length < sizeLine)
    (there : ∀ v, valV kvs k = some v → ∀ u s1, Inv X pins σ H s1 → RelV v u → Q u s1)
    (gone : valV kvs k = none → ∀ s1, Inv X pins σ (upd H D (.dT (putK kvs k d))) s1 → Q r s1) :
    wpAny (model X.prog X.w) A (call (.builtin "dict.setdefault") [.ref D, .ref b, r]) Q E sh := by
  obtain ⟨z0, nsys, ents, kt, dict⟩ := dt_of J.hok hD
  have le0 : ents.length ≤ sizeLine := by have := Paired.length kt; omega
  have le1 : (putK kvs k d).length ≤ sizeLine := by have := length_putK kvs k d; omega
  have vk := kt.val k
  refine call_setdefault_heap (hsz := le0) (tupleKind_room_in1 room) (key_of J.hok hb) nsys dict (fun pr found => ?_) fun no h1 dict1 but => ?_
  · rw [found] at vk
    cases e0 : valV kvs k with
    | none => rw [e0] at vk; exact vk.elim
    | some v0 =>
      rw [e0] at vk
      exact there v0 e0 _ _ (J.tok _) vk
  · have e0 : valV kvs k = none := by
      cases q : valV kvs k with
      | none => rfl
      | some v0 =>
        rw [q, no] at vk
        exact (show False from vk).elim
    obtain ⟨ob, es, ep, at1, x2, x3, x4, _, x5⟩ := dict1
    refine gone e0 _ (d_write J (by rw [hD]; exact True.intro) but ⟨ob, at1⟩ ⟨le1, nsys, _, (kt.put k hb rd).keeps fun c ys ec => ?_, ob, es, ep, at1, x2, x3, x4, x5⟩)
    rw [upd_ne (ne_of ec hD (fun w => nomatch w))]
    exact ec
end
/-- d.setdefault(t, e) -/
def tSetdT (td ty tx : TE) : TE := fun σ H Q => td σ H fun x H1 => (∃ D kvs, x = .ref D ∧ H1 D = some (.dT kvs)) ∧ ty σ H1 fun y H2 => tx σ H2 fun z H3 => ∃ (D b : Addr) (kvs : List (List Key × V)) (k : List Key), x = .ref D ∧ y = .ref b ∧ H3 D = some (.dT kvs) ∧ H3 b = some (.tup (k.map kV)) ∧ kvs.length < sizeLine ∧
  (∀ v, valV kvs k = some v → Q v H3) ∧ (valV kvs k = none → Q z (upd H3 D (.dT (putK kvs k z))))
section
variable {X : Cx} {o e f : Expr} {td ty tx : TE} {apos cpos : Pos}
theorem pe_setdT (room : X.A.units + 1 < cLine) (ho : PE X o td) (he : PE X e ty) (hf : PE X f tx) (m : M2 X o "setdefault" apos e f cpos) :
    PE X (.Call (.Attribute o "setdefault" apos) [e, f] [] cpos) (tSetdT td ty tx) := by
  constructor
  intro pins sh σ H Q J hyp
  refine wpAny_Call_method m.base m.few m.line PySem.F.plainAttrs_dict PySem.F.slot_dict_setdefault PySem.F.type_dict_setdefault (thn (ho.run pins sh σ H _ J hyp) ?_)
  rintro w0 sA ⟨x, HA, JA, rx, ⟨D, kvs0, rfl, hD0⟩, qA⟩
  have ew : w0 = Value.ref D := rx
  subst ew
  obtain ⟨ty1, ty2, _⟩ := isD_at JA (.inr ⟨kvs0, .inl hD0⟩)
  refine ⟨ty1, ty2, ?_⟩
  rw [m.trees]
  refine Calls.callWith_builtin rfl (Calls.evalArgs_plain (Calls.spliced_cons (thn (he.run pins sA σ HA _ JA qA) ?_)))
  rintro w1 sB ⟨y, HB, JB, ry, qB⟩
  refine Calls.spliced_cons (thn (hf.run pins sB σ HB _ JB qB) ?_)
  rintro w2 sC ⟨z, HC, JC, rz, D1, b, kvs, k, eD, ey, hD, hb, small, q1, q2⟩
  cases eD
  subst ey
  have e1 : w1 = Value.ref b := ry
  subst e1
  exact Calls.spliced_nil (setd_tup room JC hD hb rz small (fun v hv u s1 J1 r1 => ⟨v, _, J1, r1, q1 v hv⟩) fun hn s1 J1 => ⟨z, _, J1, rz, q2 hn⟩)
end
/-! what putK leaves -/
theorem putK_mem {K : Type} [DecidableEq K] {kvs : List (K × V)} {k : K} {v : V} {e : K × V} (h : e ∈ putK kvs k v) : e ∈ kvs ∨ e.2 = v := by
  unfold putK at h
  split at h
  · obtain ⟨e0, h0, rfl⟩ := List.mem_map.mp h
    by_cases q : e0.1 = k
    · right; rw [if_pos q]
    · left; rw [if_neg q]; exact h0
  · rcases List.mem_append.mp h with h | h
    · exact .inl h
    · right; rw [List.mem_singleton.mp h]
theorem valV_mem {K : Type} [DecidableEq K] {kvs : List (K × V)} {k : K} {v : V} (h : valV kvs k = some v) : ∃ k', (k', v) ∈ kvs := by
  unfold valV at h
  obtain ⟨e, he, rfl⟩ := Option.map_eq_some_iff.mp h
  exact ⟨e.1, List.mem_of_find?_eq_some he⟩
end UG


set_option Elab.async false
set_option linter.all false
set_option maxRecDepth 100000
set_option maxHeartbeats 8000000
namespace K12
open PySem PySem.Spec PyProof.Rows L2
def lf (la na pl fk : Addr) : List (Str × V) := putF "forks" (.ref fk) (putF "places" (.ref pl) (putF "names" (.ref na) (putF "letters" (.ref la) [])))
theorem lf_letters (la na pl fk : Addr) : (lf la na pl fk).lookup ("letters" : Str) = some (.ref la) := by
  unfold lf
  rw [lookup_putF, if_neg (by decide +kernel), lookup_putF, if_neg (by decide +kernel), lookup_putF, if_neg (by decide +kernel), lookup_putF, if_pos rfl]
theorem lb_letters (la na pl fk : Addr) (v : V) : (putF "begin" v (lf la na pl fk)).lookup ("letters" : Str) = some (.ref la) := by
  rw [lookup_putF, if_neg (by decide +kernel)]
  exact lf_letters la na pl fk
theorem lf_names (la na pl fk : Addr) : (lf la na pl fk).lookup ("names" : Str) = some (.ref na) := by
  unfold lf
  rw [lookup_putF, if_neg (by decide +kernel), lookup_putF, if_neg (by decide +kernel), lookup_putF, if_pos rfl]
theorem lb_names (la na pl fk : Addr) (v : V) : (putF "begin" v (lf la na pl fk)).lookup ("names" : Str) = some (.ref na) := by
  rw [lookup_putF, if_neg (by decide +kernel)]
  exact lf_names la na pl fk
theorem lf_places (la na pl fk : Addr) : (lf la na pl fk).lookup ("places" : Str) = some (.ref pl) := by
  unfold lf
  rw [lookup_putF, if_neg (by decide +kernel), lookup_putF, if_pos rfl]
theorem lb_places (la na pl fk : Addr) (v : V) : (putF "begin" v (lf la na pl fk)).lookup ("places" : Str) = some (.ref pl) := by
  rw [lookup_putF, if_neg (by decide +kernel)]
  exact lf_places la na pl fk
theorem lf_forks (la na pl fk : Addr) : (lf la na pl fk).lookup ("forks" : Str) = some (.ref fk) := by
  unfold lf
  rw [lookup_putF, if_pos rfl]
theorem lb_forks (la na pl fk : Addr) (v : V) : (putF "begin" v (lf la na pl fk)).lookup ("forks" : Str) = some (.ref fk) := by
  rw [lookup_putF, if_neg (by decide +kernel)]
  exact lf_forks la na pl fk
theorem lb_begin (la na pl fk : Addr) (v : V) : (putF "begin" v (lf la na pl fk)).lookup ("begin" : Str) = some v := by
  rw [lookup_putF, if_pos rfl]
theorem lf_no (la na pl fk : Addr) {m : Str} (h1 : ¬ m = "forks") (h2 : ¬ m = "places") (h3 : ¬ m = "names") (h4 : ¬ m = "letters") : (lf la na pl fk).lookup m = none := by
  unfold lf
  rw [lookup_putF, if_neg h1, lookup_putF, if_neg h2, lookup_putF, if_neg h3, lookup_putF, if_neg h4]
  rfl
theorem len_putF (f : Str) (v : V) : ∀ fs : List (Str × V), (putF f v fs).length ≤ fs.length + 1
  | [] => by simp [putF]
  | (g, u) :: r => by
    have := len_putF f v r
    show (if g = f then (g, v) :: r else (g, u) :: putF f v r).length ≤ _
    split <;> simp
    omega
theorem len_lf (la na pl fk : Addr) : (lf la na pl fk).length ≤ 4 := by
  have h1 := len_putF "forks" (V.ref fk) (putF "places" (.ref pl) (putF "names" (.ref na) (putF "letters" (.ref la) [])))
  have h2 := len_putF "places" (V.ref pl) (putF "names" (.ref na) (putF "letters" (.ref la) []))
  have h3 := len_putF "names" (V.ref na) (putF "letters" (.ref la) [])
  have h4 := len_putF "letters" (V.ref la) []
  simp at h4
  unfold lf
  omega
structure Txt (K : PySem.W.Frag) (mg : Str → Option Value) (C : Addr) : Prop where
  cl : Cls K C
  nL : NoAttr K C "letters"
  nN : NoAttr K C "names"
  nP : NoAttr K C "places"
  nF : NoAttr K C "forks"
  nB : NoAttr K C "begin"
/-! ### what belongs to a layout alone: its list of places, its dict of forks, the lists in it -/
def Own (H : Hp) (pl fk a : Addr) : Prop := a = pl ∨ a = fk ∨ ∃ kvs k, H fk = some (.dT kvs) ∧ (k, V.ref a) ∈ kvs
/-- what does not, stays, and still does not -/
def KO (pl fk : Addr) (H H' : Hp) : Prop := ∀ a o, ¬ Own H pl fk a → H a = some o → H' a = some o ∧ ¬ Own H' pl fk a
theorem KO.refl (pl fk : Addr) (H : Hp) : KO pl fk H H := fun _ _ n e => ⟨e, n⟩
theorem KO.trans {pl fk : Addr} {H H1 H2 : Hp} (a : KO pl fk H H1) (b : KO pl fk H1 H2) : KO pl fk H H2 := fun x o n e => let h := a x o n e; b x o h.2 h.1
theorem KO.of_same {pl fk : Addr} {H H' : Hp} {kvs : List (List Key × V)} (hf : H fk = some (.dT kvs)) (s : Same H H') : KO pl fk H H' := fun a o n e => ⟨s _ _ e, fun w => n (by
  rcases w with w | w | ⟨kvs', k, h1, h2⟩
  · exact .inl w
  · exact .inr (.inl w)
  · rw [s _ _ hf] at h1
    exact .inr (.inr ⟨kvs', k, by rw [hf]; exact h1, h2⟩))⟩
theorem own_upd {pl fk a b : Addr} {H : Hp} {o : HO} (nf : fk ≠ b) : Own (upd H b o) pl fk a ↔ Own H pl fk a := by
  unfold Own
  rw [upd_ne nf]
theorem KO.put_pl {pl fk : Addr} {H : Hp} {kvs : List (List Key × V)} {vs : List V} (hf : H fk = some (.dT kvs)) (hp : H pl = some (.lst vs)) (o : HO) : KO pl fk H (upd H pl o) := fun a u n e => by
  have nf : fk ≠ pl := ne_of hf hp (fun z => nomatch z)
  refine ⟨?_, fun w => n ((own_upd nf).mp w)⟩
  rw [upd_ne (fun z => n (.inl z))]
  exact e
/-- a thing that was not there before -/
theorem KO.fresh {pl fk b : Addr} {H H2 : Hp} (k : KO pl fk H H2) (hb : H b = none) (nf : fk ≠ b) (o : HO) : KO pl fk H (upd H2 b o) := fun a u n e => by
  obtain ⟨h1, h2⟩ := k a u n e
  refine ⟨?_, fun w => h2 ((own_upd nf).mp w)⟩
  rw [upd_ne (fun z => by rw [z, hb] at e; cases e)]
  exact h1
/-- a layout under way; its dict has at most m entries, of at most m forks -/
def LayM (K : PySem.W.Frag) (C : Addr) (L N : List Str) (H : Hp) (p pl fk la na : Addr) (ps : List PyData) (m : Nat) : Prop :=
  ∃ dx vs kvs, H p = some (.ins C dx (lf la na pl fk)) ∧ H pl = some (.lst vs) ∧ DpAll K H vs ps ∧ TupDs ps ∧ TupO H la (L.map V.str) ∧ H na = some (.lst (N.map V.str)) ∧ ¬ Own H pl fk na ∧
    H fk = some (.dT kvs) ∧ kvs.length ≤ m ∧ ∀ e ∈ kvs, ∃ b ys, e.2 = V.ref b ∧ H b = some (.lst ys) ∧ ys.length ≤ m ∧ b ≠ pl
def Lay (K : PySem.W.Frag) (C : Addr) (L N : List Str) (H : Hp) (p pl fk la na : Addr) (ps : List PyData) : Prop := ∃ m, m + 1 ≤ ps.length ∧ LayM K C L N H p pl fk la na ps m
section
variable {K : PySem.W.Frag} {C : Addr} {L N : List Str} {H H' : Hp} {p pl fk la na : Addr} {ps ps' : List PyData} {m m' : Nat}
theorem LayM.own (h : LayM K C L N H p pl fk la na ps m) {a : Addr} (w : Own H pl fk a) : (∃ xs, H a = some (.lst xs)) ∨ ∃ kvs, H a = some (.dT kvs) := by
  obtain ⟨dx, vs, kvs, h1, h2, h3, h4, h5, h6, h7, h8, h9, h10⟩ := h
  rcases w with w | w | ⟨kvs', k, e1, e2⟩
  · exact .inl ⟨vs, by rw [w]; exact h2⟩
  · exact .inr ⟨kvs, by rw [w]; exact h8⟩
  · rw [h8] at e1
    cases e1
    obtain ⟨b, ys, eb, hb, _⟩ := h10 _ e2
    cases eb
    exact .inl ⟨ys, hb⟩
theorem LayM.not_own (h : LayM K C L N H p pl fk la na ps m) {a : Addr} {o : HO} (e : H a = some o) (n1 : ∀ xs, o ≠ .lst xs) (n2 : ∀ kvs, o ≠ .dT kvs) : ¬ Own H pl fk a := fun w => by
  rcases h.own w with ⟨xs, z⟩ | ⟨xs, z⟩
  · rw [e] at z; cases z; exact n1 _ rfl
  · rw [e] at z; cases z; exact n2 _ rfl
theorem LayM.new_own (h : LayM K C L N H p pl fk la na ps m) {a : Addr} (e : H a = none) : ¬ Own H pl fk a := fun w => by
  rcases h.own w with ⟨xs, z⟩ | ⟨xs, z⟩
  · rw [e] at z; cases z
  · rw [e] at z; cases z
theorem LayM.dict (h : LayM K C L N H p pl fk la na ps m) : ∃ kvs, H fk = some (.dT kvs) := let ⟨_, _, kvs, _, _, _, _, _, _, _, h8, _⟩ := h; ⟨kvs, h8⟩
theorem LayM.ko (h : LayM K C L N H p pl fk la na ps m) (s : Same H H') : KO pl fk H H' := let ⟨_, hf⟩ := h.dict; KO.of_same hf s
theorem LayM.put {vs' : List V} {kvs' : List (List Key × V)} (h : LayM K C L N H p pl fk la na ps m) (t : Tk H H') (k : KO pl fk H H') (e : H' pl = some (.lst vs')) (d : DpAll K H' vs' ps') (td : TupDs ps') (f : H' fk = some (.dT kvs')) (l : kvs'.length ≤ m')
    (es : ∀ e ∈ kvs', ∃ b ys, e.2 = V.ref b ∧ H' b = some (.lst ys) ∧ ys.length ≤ m' ∧ b ≠ pl) : LayM K C L N H' p pl fk la na ps' m' := by
  have hp : ¬ Own H pl fk p := by
    obtain ⟨dx, vs, kvs, h1, _⟩ := id h
    exact h.not_own h1 (fun _ z => nomatch z) (fun _ z => nomatch z)
  obtain ⟨dx, vs, kvs, h1, h2, h3, h4, h5, h6, h7, h8, h9, h10⟩ := h
  have kn := k _ _ h7 h6
  exact ⟨dx, vs', kvs', (k _ _ hp h1).1, e, d, td, h5.tk t, kn.1, kn.2, f, l, es⟩
theorem LayM.same (h : LayM K C L N H p pl fk la na ps m) (s : Same H H') : LayM K C L N H' p pl fk la na ps m := by
  obtain ⟨dx, vs, kvs, h1, h2, h3, h4, h5, h6, h7, h8, h9, h10⟩ := id h
  refine h.put (Tk.same s) (h.ko s) (s _ _ h2) ((Tk.same s).dps _ h4 h3) h4 (s _ _ h8) h9 fun e he => ?_
  obtain ⟨b, ys, e1, e2, e3⟩ := h10 e he
  exact ⟨b, ys, e1, s _ _ e2, e3⟩
/-- a list that is not the layout's is changed -/
theorem LayM.other (h : LayM K C L N H p pl fk la na ps m) {D : Addr} {xs : List V} (e : H D = some (.lst xs)) (n1 : ¬ Own H pl fk D) (n2 : D ≠ na) (o : HO) : LayM K C L N (upd H D o) p pl fk la na ps m := by
  obtain ⟨dx, vs, kvs, h1, h2, h3, h4, h5, h6, h7, h8, h9, h10⟩ := id h
  have t := Tk.put e o
  have nf : fk ≠ D := fun z => n1 (.inr (.inl z.symm))
  have np : p ≠ D := fun z => by rw [z, e] at h1; cases h1
  refine ⟨dx, vs, kvs, by rw [upd_ne np]; exact h1, by rw [upd_ne (fun z => n1 (.inl z.symm))]; exact h2, t.dps _ h4 h3, h4, h5.tk t, by rw [upd_ne (Ne.symm n2)]; exact h6, fun w => h7 ((own_upd nf).mp w), by rw [upd_ne nf]; exact h8, h9, fun e' he' => ?_⟩
  obtain ⟨b, ys, e1, e2, e3⟩ := h10 e' he'
  refine ⟨b, ys, e1, ?_, e3⟩
  rw [upd_ne (fun z => n1 (.inr (.inr ⟨kvs, e'.1, h8, by rw [← z, ← e1]; exact he'⟩)))]
  exact e2
theorem LayM.lay (h : LayM K C L N H p pl fk la na ps m) (l : m + 1 ≤ ps.length) : Lay K C L N H p pl fk la na ps := ⟨m, l, h⟩
theorem Lay.same (h : Lay K C L N H p pl fk la na ps) (s : Same H H') : Lay K C L N H' p pl fk la na ps := let ⟨m, l, h⟩ := h; ⟨m, l, h.same s⟩
theorem Lay.ko (h : Lay K C L N H p pl fk la na ps) (s : Same H H') : KO pl fk H H' := let ⟨m, l, h⟩ := h; h.ko s
theorem Lay.other (h : Lay K C L N H p pl fk la na ps) {D : Addr} {xs : List V} (e : H D = some (.lst xs)) (n1 : ¬ Own H pl fk D) (n2 : D ≠ na) (o : HO) : Lay K C L N (upd H D o) p pl fk la na ps := let ⟨m, l, h⟩ := h; ⟨m, l, h.other e n1 n2 o⟩
theorem Lay.new_own (h : Lay K C L N H p pl fk la na ps) {a : Addr} (e : H a = none) : ¬ Own H pl fk a := let ⟨m, l, h⟩ := h; h.new_own e
end
theorem dps_set {K : PySem.W.Frag} {H : Hp} : ∀ {vs : List V} {ds : List PyData} (j : Nat) {v : V} {d : PyData}, DpAll K H vs ds → Dp K H v d → DpAll K H (vs.set j v) (ds.set j d)
  | _, _, _, _, _, .nil, _ => .nil
  | _, _, 0, _, _, .cons _ t, h => .cons h t
  | _, _, j + 1, _, _, .cons a t, h => .cons a (dps_set j t h)
theorem dps_snoc {K : PySem.W.Frag} {H : Hp} {vs : List V} {ds : List PyData} {v : V} {d : PyData} (a : DpAll K H vs ds) (h : Dp K H v d) : DpAll K H (vs ++ [v]) (ds ++ [d]) := dps_app a (.cons h .nil)
theorem tupds_snoc {ds : List PyData} {d : PyData} (a : TupDs ds) (h : TupD d) : TupDs (ds ++ [d]) := tupds_iff.mpr fun e he => (List.mem_append.mp he).elim (tupds_iff.mp a e) fun z => by
  cases List.mem_singleton.mp z
  exact h
theorem drop_cons {b : List St} {i : Nat} {s : St} (hi : i < b.length) (e : b[b.length - 1 - i]? = some s) : b.drop (b.length - (i + 1)) = s :: b.drop (b.length - i) := by
  have e2 : b.length - (i + 1) = b.length - 1 - i := by omega
  have h := List.drop_eq_getElem_cons (l := b) (i := b.length - 1 - i) (by omega)
  rw [e2, h]
  rw [List.getElem?_eq_getElem (by omega)] at e
  rw [Option.some.inj e]
  congr 2
  omega
theorem Tk.putT {H : Hp} {a : Addr} {kvs : List (List Key × V)} (h : H a = some (.dT kvs)) (o : HO) : Tk H (upd H a o) := fun p ys => by
  constructor
  · intro e
    rw [upd_ne (fun z => by rw [z, h] at e; cases e)]
    exact e
  · intro u e
    rw [upd_ne (fun z => by rw [z, h] at e; cases e)]
    exact e
/-- a path, in a tuple of its own -/
def Pth (H : Hp) (v : V) (is : List Int) : Prop := ∃ a, v = V.ref a ∧ H a = some (.tup (is.map V.int))
theorem Pth.tk {H H' : Hp} {v : V} {is : List Int} (h : Pth H v is) (t : Tk H H') : Pth H' v is := let ⟨a, e, h⟩ := h; ⟨a, e, (t _ _).1 h⟩
def keyI (is : List Int) : List Key := is.map Sum.inl
theorem keyI_map (is : List Int) : (keyI is).map kV = is.map V.int := by
  unfold keyI
  rw [List.map_map]
  rfl
section
variable {P : Program} {w : World} {K : PySem.W.Frag} {mg : Str → Option Value} {base : Heap}

def spMake (K : PySem.W.Frag) (C : Addr) : Sp := fun vs H Q _ => ∃ p pl fk la na v d L N ps m, vs = [.ref p, v] ∧ LayM K C L N H p pl fk la na ps m ∧ Dp K H v d ∧ TupD d ∧ ps.length < 300 ∧ ∀ H', LayM K C L N H' p pl fk la na (ps ++ [d]) m → Tk H H' → KO pl fk H H' → Q (.int (ps.length : Nat)) H'
theorem sc_make : FnScope ["self", "place"] ["self", "place"] (C8.fnScope (inClass (topS 38) 1)) := C8.fnScope_by (by decide +kernel)
theorem okm_make {C f : Addr} {fd : FuncData} (T : Txt K mg C) (me : Meth K C "make" f) (F : C8.Fun K "make" "Layout.make" (inClass (topS 38) 1) f fd) (b : Binds K fd ["self", "place"] []) (B : Bl K mg)  : C8.Met P w K mg base 1 C "make" (spMake K C) [] := by
  refine C8.met0 T.cl me F b sc_make ?len ?body
  case len => rintro vs H Q E ⟨p, pl, fk, la, na, v, d, L, N, ps, m, rfl, _⟩; rfl
  case body =>
    rintro cdv A outer s H vs Q E hr ⟨p, pl, fk, la, na, v, d, L, N, ps, m, rfl, hL, hd, td, hlen, q⟩
    refine ⟨_, (pss_cons (ps_if (pt_cmpR op_eq (pe_callB call_len_seq rfl B.len PySem.boot_len (pa_cons (pe_fld (pv 0) rfl) pa_nil)) (pe_glob (v := .int 300) rfl B.MOST_PLACES.choose_spec ⟨_, rfl⟩) (nomark _)) pss_never pss_nil)
    (pss_cons (ps_expr (pe_bm PySem.F.plainAttrs_list PySem.F.slot_list_append PySem.F.type_list_append mt_append (pe_fld (pv 0) rfl) (pa_cons (pv 1) pa_nil)))
    (pss_one (ps_ret (pe_op op_sub (pe_callB call_len_seq rfl B.len PySem.boot_len (pa_cons (pe_fld (pv 0) rfl) pa_nil)) pe_int))))), ?_⟩
    obtain ⟨dx, vs, kvs, h1, h2, h3, h4, h5, h6, h7, h8, h9, h10⟩ := id hL
    have hvl := dps_len h3
    refine ⟨_, rfl, p, C, dx, _, _, rfl, h1, T.cl, T.nP, lf_places _ _ _ _, pl, _, rfl, .inl (SqL.of h2), rfl, _, rfl, ?_⟩
    rw [dec_int, show decide ((vs.length : Int) = 300) = false from decide_eq_false (by omega)]
    refine iteF ?_
    refine ⟨_, rfl, p, C, dx, _, _, rfl, h1, T.cl, T.nP, lf_places _ _ _ _, .inl ⟨rfl, _, SqL.of h2⟩, _, rfl, pl, _, _, rfl, rfl, h2, Nat.lt_of_le_of_lt (show vs.length ≤ 300 by omega) (by decide), ?_⟩
    have t2 : Tk H (upd H pl (.lst (vs ++ [v]))) := Tk.put h2 _
    have k2 : KO pl fk H (upd H pl (.lst (vs ++ [v]))) := KO.put_pl h8 h2 _
    have nf : fk ≠ pl := ne_of h8 h2 (fun z => nomatch z)
    have L2 : LayM K C L N (upd H pl (.lst (vs ++ [v]))) p pl fk la na (ps ++ [d]) m := by
      refine hL.put t2 k2 upd_same (dps_snoc (t2.dps _ h4 h3) (t2.dp _ td hd)) (tupds_snoc h4 td) (by rw [upd_ne nf]; exact h8) h9 fun e he => ?_
      obtain ⟨b, ys, e1, e2, e3, e4⟩ := h10 e he
      exact ⟨b, ys, e1, by rw [upd_ne e4]; exact e2, e3, e4⟩
    have np : p ≠ pl := fun z => by rw [z, h2] at h1; cases h1
    refine ⟨_, rfl, p, C, dx, _, _, rfl, (by rw [upd_ne np]; exact h1), T.cl, T.nP, lf_places _ _ _ _, pl, _, rfl, .inl (SqL.of upd_same), _, _, rfl, rfl, ?_⟩
    have e : (((vs ++ [v]).length : Nat) : Int) - 1 = (ps.length : Nat) := by rw [List.length_append, hvl]; simp
    show Q (.int ((((vs ++ [v]).length : Nat) : Int) - 1)) _
    rw [e]
    exact q _ L2 t2 k2
def spFork (K : PySem.W.Frag) (C : Addr) : Sp := fun vs H Q _ => ∃ p pl fk la na v wv nd is L N ps, vs = [.ref p, v, wv] ∧ Lay K C L N H p pl fk la na ps ∧ Dp K H v (.tuple nd) ∧ TupDs nd ∧ Pth H wv is ∧ ps.length < 300 ∧
  ∀ H', Lay K C L N H' p pl fk la na (ps ++ [.tuple [.str "fork", .tuple nd]]) → Tk H H' → KO pl fk H H' → Q (.int (ps.length : Nat)) H'
theorem sc_make_fork : FnScope ["self", "nexts", "path", "fork"] ["self", "nexts", "path"] (C8.fnScope (inClass (topS 38) 2)) := C8.fnScope_by (by decide +kernel)
theorem okm_make_fork {C f : Addr} {fd : FuncData} (T : Txt K mg C) (me : Meth K C "make_fork" f) (F : C8.Fun K "make_fork" "Layout.make_fork" (inClass (topS 38) 2) f fd) (b : Binds K fd ["self", "nexts", "path"] []) (B : Bl K mg) (c_make : C8.Met P w K mg base 1 C "make" (spMake K C) []) : C8.Met P w K mg base 2 C "make_fork" (spFork K C) [] := by
  refine C8.met0 T.cl me F b sc_make_fork ?len ?body
  case len => rintro vs H Q E ⟨p, pl, fk, la, na, v, wv, nd, is, L, N, ps, rfl, _⟩; rfl
  case body =>
    rintro cdv A outer s H vs Q E hr ⟨p, pl, fk, la, na, v, wv, nd, is, L, N, ps, rfl, ⟨m, hm, hL⟩, hd, td, hpv, hlen, q⟩
    refine ⟨_, (pss_cons (ps_set (i := 3) sc_make_fork.nd rfl (Or.inl rfl) (C8.pe_mt c_make hr (by decide) (pv 0) (pa_cons (pe_tup (pa_cons pe_str (pa_cons (pv 1) pa_nil))) pa_nil)))
    (pss_cons (ps_expr (pe_bm PySem.F.plainAttrs_list PySem.F.slot_list_append PySem.F.type_list_append mt_append (UG.pe_setdT (hu_of hr) (pe_fld (pv 0) rfl) (pv 2) (pe_lst pa_nil) (by constructor <;> rfl)) (pa_cons (pv 3) pa_nil)))
    (pss_one (ps_ret (pv 3))))), ?_⟩
    obtain ⟨dx, vs, kvs, h1, _⟩ := id hL
    refine ⟨_, rfl, p, dx, _, rfl, h1, (lf_no _ _ _ _ (by decide +kernel) (by decide +kernel) (by decide +kernel) (by decide +kernel)), _, rfl, (by show 2 ≤ sizeLine; decide), fun z hz => ?_⟩
    have sz := same_new hz (.tup [.str "fork", v])
    refine ⟨p, pl, fk, la, na, .ref z, .tuple [.str "fork", .tuple nd], L, N, ps, m, rfl, hL.same sz, .tup (SqT.of upd_same) (.cons (.str _) (.cons (dp_ext (same_ext sz) _ hd) .nil)), ⟨trivial, td, trivial⟩, hlen, fun H1 L1 t1 k1 => ?_⟩
    have t01 : Tk H H1 := (Tk.same sz).trans t1
    have k01 : KO pl fk H H1 := (hL.ko sz).trans k1
    obtain ⟨pa, rfl, hpa⟩ := hpv
    have hpa1 := (t01 _ _).1 hpa
    obtain ⟨dx1, vs1, kvs1, g1, g2, g3, g4, g5, g6, g7, g8, g9, g10⟩ := id L1
    have nf : fk ≠ pl := ne_of g8 g2 (fun z => nomatch z)
    refine ⟨_, rfl, p, C, dx1, _, _, rfl, g1, T.cl, T.nF, lf_forks _ _ _ _, ⟨fk, kvs1, rfl, g8⟩, _, rfl, (by show 0 ≤ sizeLine; decide), fun D hD => ?_⟩
    have sD := same_new hD (.lst [])
    have L2 := L1.same sD
    have k2 := k01.trans (L1.ko sD)
    have t2 := t01.trans (Tk.same sD)
    have g8' := sD _ _ g8
    have nD : ∀ b o, H1 b = some o → b ≠ D := fun b o e z => by rw [z, hD] at e; cases e
    refine ⟨fk, pa, kvs1, keyI is, rfl, rfl, g8', ?_, Nat.lt_of_le_of_lt (show kvs1.length ≤ 300 by omega) (by decide), fun y hy => ?_, fun hn => ?_⟩
    · rw [keyI_map]
      exact sD _ _ hpa1
    · -- the path is known
      obtain ⟨k', hk'⟩ := UG.valV_mem hy
      obtain ⟨b, ys, e1, e2, e3, e4⟩ := g10 _ hk'
      cases e1
      have e2' := sD _ _ e2
      refine ⟨.inl ⟨rfl, _, SqL.of e2'⟩, _, rfl, b, _, _, rfl, rfl, e2', Nat.lt_of_le_of_lt (show ys.length ≤ 300 by omega) (by decide), _, rfl, ?_⟩
      have nfb : fk ≠ b := ne_of g8 e2 (fun z => nomatch z)
      have ob : Own (upd H1 D (.lst [])) pl fk b := .inr (.inr ⟨kvs1, k', g8', hk'⟩)
      have t3 := Tk.put e2' (.lst (ys ++ [.int (ps.length : Nat)]))
      have k3 : KO pl fk (upd H1 D (.lst [])) (upd (upd H1 D (.lst [])) b (.lst (ys ++ [.int (ps.length : Nat)]))) := fun a o n e => by
        refine ⟨?_, fun w => n ((own_upd nfb).mp w)⟩
        rw [upd_ne (fun z => n (by rw [z]; exact ob))]
        exact e
      obtain ⟨dx2, vs2, kvs2, f1, f2, f3, f4, f5, f6, f7, f8, f9, f10⟩ := id L2
      rw [g8'] at f8
      cases f8
      refine q _ ⟨m + 1, by rw [List.length_append]; simp; omega, L2.put t3 k3 (by rw [upd_ne (Ne.symm e4)]; exact f2) (t3.dps _ f4 f3) f4 (by rw [upd_ne nfb]; exact g8') (by omega) fun e he => ?_⟩ (t2.trans t3) (k2.trans k3)
      obtain ⟨b', ys', a1, a2, a3, a4⟩ := f10 e he
      by_cases z : b' = b
      · subst z
        rw [e2'] at a2
        cases a2
        exact ⟨b', _, a1, upd_same, by rw [List.length_append]; simp; omega, a4⟩
      · exact ⟨b', ys', a1, by rw [upd_ne z]; exact a2, by omega, a4⟩
    · -- the path is new
      have hDD : upd (upd H1 D (.lst [])) fk (.dT (putK kvs1 (keyI is) (.ref D))) D = some (.lst []) := by rw [upd_ne (Ne.symm (nD _ _ g8))]; exact upd_same
      refine ⟨.inl ⟨rfl, _, SqL.of hDD⟩, _, rfl, D, _, _, rfl, rfl, hDD, (by decide), _, rfl, ?_⟩
      have tA := Tk.putT g8' (.dT (putK kvs1 (keyI is) (.ref D)))
      have tB := Tk.put hDD (.lst ([] ++ [.int (ps.length : Nat)]))
      have t3 := tA.trans tB
      have nfD := nD _ _ g8
      have hfk : upd (upd (upd H1 D (.lst [])) fk (.dT (putK kvs1 (keyI is) (.ref D)))) D (.lst ([] ++ [.int (ps.length : Nat)])) fk = some (.dT (putK kvs1 (keyI is) (.ref D))) := by rw [upd_ne nfD]; exact upd_same
      have k3 : KO pl fk H (upd (upd (upd H1 D (.lst [])) fk (.dT (putK kvs1 (keyI is) (.ref D)))) D (.lst ([] ++ [.int (ps.length : Nat)]))) := fun a o n e => by
        obtain ⟨x1, x2⟩ := k01 a o n e
        have naD := nD _ _ x1
        refine ⟨?_, fun w => ?_⟩
        · rw [upd_ne naD, upd_ne (fun z => x2 (.inr (.inl z))), upd_ne naD]
          exact x1
        · rcases w with w | w | ⟨kv, k, y1, y2⟩
          · exact x2 (.inl w)
          · exact x2 (.inr (.inl w))
          · rw [hfk] at y1
            cases y1
            rcases UG.putK_mem y2 with y | y
            · exact x2 (.inr (.inr ⟨kvs1, k, g8, y⟩))
            · cases y
              exact naD rfl
      have npl := nD _ _ g2
      have old : ∀ b o, H1 b = some o → b ≠ fk → upd (upd (upd H1 D (.lst [])) fk (.dT (putK kvs1 (keyI is) (.ref D)))) D (.lst ([] ++ [.int (ps.length : Nat)])) b = some o := fun b o e n => by
        rw [upd_ne (nD _ _ e), upd_ne n, upd_ne (nD _ _ e)]
        exact e
      have hp0 : ¬ Own H pl fk p := hL.not_own h1 (fun _ z => nomatch z) (fun _ z => nomatch z)
      have hn0 : ¬ Own H pl fk na ∧ H na = some (.lst (N.map V.str)) := by
        obtain ⟨_, _, _, _, _, _, _, _, b6, b7, _⟩ := id hL
        exact ⟨b7, b6⟩
      have kn := k3 _ _ hn0.1 hn0.2
      refine q _ ⟨m + 1, by rw [List.length_append]; simp; omega, dx, vs1, _, (k3 _ _ hp0 h1).1, old _ _ g2 (Ne.symm nf), (Tk.trans (Tk.same sD) t3).dps _ g4 g3, g4, g5.tk (Tk.trans (Tk.same sD) t3), kn.1, kn.2, hfk, ?_, fun e he => ?_⟩ (t2.trans t3) k3
      · have := length_putK kvs1 (keyI is) (V.ref D)
        omega
      · rcases UG.putK_mem he with he | he
        · obtain ⟨b', ys', a1, a2, a3, a4⟩ := g10 e he
          exact ⟨b', ys', a1, old _ _ a2 (fun z => by rw [z, g8] at a2; cases a2), by omega, a4⟩
        · exact ⟨D, _, he, upd_same, by simp, Ne.symm npl⟩
end
end K12


set_option Elab.async false
set_option linter.all false
set_option maxRecDepth 100000
set_option maxHeartbeats 8000000
namespace K12
open PySem PySem.Spec PyProof.Rows L2
theorem layBs_take {L N : List Str} {lv : List PyData → Int × List PyData} {bs : List (List St)} {i : Nat} {b : List St} (t : Int) (ps : List PyData) (h : bs[i]? = some b) :
    layBs L N lv (bs.take (i + 1)) t ps = ((layBs L N lv (bs.take i) t ps).1 ++ [(layB L N lv b t (layBs L N lv (bs.take i) t ps).2).1], (layB L N lv b t (layBs L N lv (bs.take i) t ps).2).2) := by
  rw [List.take_succ, h]
  show layBs L N lv (bs.take i ++ [b]) t ps = _
  rw [layBs_app]
  rfl
theorem layBs_le {L N : List Str} {lv : List PyData → Int × List PyData} (bs : List (List St)) (i : Nat) (t : Int) (ps : List PyData) (h : ∀ ps, ps.length ≤ (lv ps).2.length) : (layBs L N lv (bs.take i) t ps).2.length ≤ (layBs L N lv bs t ps).2.length := by
  have e : layBs L N lv bs t ps = layBs L N lv (bs.take i ++ bs.drop i) t ps := by rw [List.take_append_drop]
  rw [e, layBs_app]
  exact grow_Bs L N _ _ _ h
theorem layBs_len {L N : List Str} {lv : List PyData → Int × List PyData} : ∀ (bs : List (List St)) (t : Int) (ps : List PyData), (layBs L N lv bs t ps).1.length = bs.length
  | [], _, _ => rfl
  | b :: r, t, ps => by rw [layBs, List.length_cons, List.length_cons, layBs_len r]
theorem layB_le {L N : List Str} {lv : List PyData → Int × List PyData} (b : List St) (i : Nat) (t : Int) (ps : List PyData) (h : ∀ ps, ps.length ≤ (lv ps).2.length) : (layB L N lv (b.drop i) t ps).2.length ≤ (layB L N lv b t ps).2.length := by
  have e : layB L N lv b t ps = layB L N lv (b.take i ++ b.drop i) t ps := by rw [List.take_append_drop]
  rw [e, layB_app]
  exact grow_B L N _ _ _ h
theorem dp_intsT {K : PySem.W.Frag} {H : Hp} : ∀ ns : List Int, DpAll K H (ns.map V.int) (ns.map PyData.int)
  | [] => .nil
  | n :: ns => .cons (.int n) (dp_intsT ns)
theorem tup_intsT : ∀ ns : List Int, TupDs (ns.map PyData.int)
  | [] => trivial
  | _ :: r => ⟨trivial, tup_intsT r⟩
theorem eqv_strs (z y : Str) : eqV (.str z) (.str y) = decide (z = y) := by
  show (z == y) = _
  by_cases h : z = y
  · subst h; simp
  · rw [decide_eq_false h]; exact beq_eq_false_iff_ne.mpr h
theorem ix_nat {n j : Nat} (hj : j < n) : ixN n (j : Int) = some j := by
  unfold ixN
  rw [if_pos (by omega), if_pos (by omega), Int.toNat_natCast]
theorem dss_snoc (secs : List (List St)) (c : List St) : dss (secs ++ [c]) = dss secs ++ [.tuple (ds c)] := by rw [dss_map, dss_map, List.map_append]; rfl
/-! ### what stands at a place does not matter to what is laid behind it -/
mutual
theorem set_S (L N : List Str) (d : PyData) : ∀ (s : St) {lv : List PyData → Int × List PyData} (t : Int) (ps : List PyData) (j : Nat), j < ps.length → (∀ ps, ps.length ≤ (lv ps).2.length) → (∀ ps j, j < ps.length → lv (ps.set j d) = ((lv ps).1, (lv ps).2.set j d)) →
    layS L N lv s t (ps.set j d) = ((layS L N lv s t ps).1, (layS L N lv s t ps).2.set j d)
  | .dd x, lv, t, ps, j, hj, _, _ | .ud x, lv, t, ps, j, hj, _, _ | .cl x, lv, t, ps, j, hj, _, _ => by
    simp only [layS, List.length_set]
    rw [List.set_append_left _ _ hj]
  | .ch bs, lv, t, ps, j, hj, g, h => by
    have e := set_Bs L N d bs (lv := lv) t ps j hj g h
    have hg := grow_Bs L N bs t ps g
    simp only [layS, e, List.length_set]
    rw [List.set_append_left _ _ (by omega)]
  | .lp b, lv, t, ps, j, hj, g, h => by
    have e := set_B L N d b (lv := lv) (ps.length : Nat) (ps ++ [.none]) j (by rw [List.length_append]; omega) g h
    rw [List.set_append_left _ _ hj] at e
    simp only [layS, List.length_set, e]
    rw [List.set_comm _ _ (show j ≠ ps.length by omega)]
  | .rt, lv, t, ps, j, hj, g, h => h ps j hj
  | .en b c, lv, t, ps, j, hj, g, h => by
    have g0 : ∀ ps : List PyData, ps.length ≤ ((fun ps => ((0 : Int), ps)) ps).2.length := fun _ => Nat.le_refl _
    have e := set_B L N d c (lv := fun ps => ((0 : Int), ps)) t ps j hj g0 fun _ _ _ => rfl
    have hg := grow_B L N c (lv := fun ps => ((0 : Int), ps)) t ps g0
    simp only [layS, e]
    refine set_B L N d b _ _ j (by omega) (fun ps => ?_) fun ps j hj => ?_
    · exact Nat.le_trans (g ps) (grow_B L N c _ _ g0)
    · have e2 := set_B L N d c (lv := fun ps => ((0 : Int), ps)) (lv ps).1 (lv ps).2 j (Nat.lt_of_lt_of_le hj (g ps)) g0 fun _ _ _ => rfl
      simp only [h ps j hj, e2]
theorem set_B (L N : List Str) (d : PyData) : ∀ (b : List St) {lv : List PyData → Int × List PyData} (t : Int) (ps : List PyData) (j : Nat), j < ps.length → (∀ ps, ps.length ≤ (lv ps).2.length) → (∀ ps j, j < ps.length → lv (ps.set j d) = ((lv ps).1, (lv ps).2.set j d)) →
    layB L N lv b t (ps.set j d) = ((layB L N lv b t ps).1, (layB L N lv b t ps).2.set j d)
  | [], _, _, _, _, _, _, _ => rfl
  | s :: r, lv, t, ps, j, hj, g, h => by
    have e := set_B L N d r (lv := lv) t ps j hj g h
    have hg := grow_B L N r t ps g
    simp only [layB, e]
    exact set_S L N d s _ _ j (by omega) g h
theorem set_Bs (L N : List Str) (d : PyData) : ∀ (b : List (List St)) {lv : List PyData → Int × List PyData} (t : Int) (ps : List PyData) (j : Nat), j < ps.length → (∀ ps, ps.length ≤ (lv ps).2.length) → (∀ ps j, j < ps.length → lv (ps.set j d) = ((lv ps).1, (lv ps).2.set j d)) →
    layBs L N lv b t (ps.set j d) = ((layBs L N lv b t ps).1, (layBs L N lv b t ps).2.set j d)
  | [], _, _, _, _, _, _, _ => rfl
  | s :: r, lv, t, ps, j, hj, g, h => by
    have e := set_B L N d s (lv := lv) t ps j hj g h
    have hg := grow_B L N s t ps g
    have e2 := set_Bs L N d r (lv := lv) t (layB L N lv s t ps).2 j (by omega) g h
    simp only [layBs, e, e2]
end
theorem set_fold (L N : List Str) (d : PyData) : ∀ (b : List (List St)) (q : Int × List PyData) (j : Nat), j < q.2.length → b.foldl (fun q c => layB L N lv0 c q.1 q.2) (q.1, q.2.set j d) = ((b.foldl (fun q c => layB L N lv0 c q.1 q.2) q).1, (b.foldl (fun q c => layB L N lv0 c q.1 q.2) q).2.set j d)
  | [], q, j, _ => rfl
  | c :: r, q, j, hj => by
    rw [List.foldl_cons, List.foldl_cons]
    have e := set_B L N d c (lv := lv0) q.1 q.2 j hj grow_lv0 fun _ _ _ => rfl
    have hg := grow_B L N c (lv := lv0) q.1 q.2 grow_lv0
    rw [show layB L N lv0 c (q.1, q.2.set j d).1 (q.1, q.2.set j d).2 = _ from e]
    exact set_fold L N d r (layB L N lv0 c q.1 q.2) j (by omega)
theorem set_leave (L N : List Str) (d : PyData) (secs : List (List St)) (ps : List PyData) (j : Nat) (hj : j < ps.length) : leave L N secs (ps.set j d) = ((leave L N secs ps).1, (leave L N secs ps).2.set j d) := set_fold L N d secs (0, ps) j hj
/-- a loop's place may hold anything while its body is laid -/
theorem lay_lp (L N : List Str) (secs : List (List St)) (b : List St) (t : Int) (ps : List PyData) (d : PyData) :
    layS L N (leave L N secs) (.lp b) t ps = (((ps.length : Nat) : Int), (layB L N (leave L N secs) b (ps.length : Nat) (ps ++ [d])).2.set ps.length (.tuple [.str "fork", .tuple [.int (layB L N (leave L N secs) b (ps.length : Nat) (ps ++ [d])).1, .int t]])) := by
  have e := set_B L N d b (lv := leave L N secs) (ps.length : Nat) (ps ++ [.none]) ps.length (by simp) (grow_leave secs) (set_leave L N d secs)
  have e1 : (ps ++ [PyData.none]).set ps.length d = ps ++ [d] := by rw [List.set_append_right _ _ (Nat.le_refl _), Nat.sub_self]; rfl
  rw [e1] at e
  rw [layS, e, List.set_set]
/-! ### the second bodies around, with their paths -/
abbrev Sec := List St × List Int
def fs (secs : List Sec) : List (List St) := secs.map Prod.fst
def lim (R : Bool) : Nat := if R then 400 else 800
theorem lim_le (R : Bool) : lim R ≤ 800 := by cases R <;> decide
def SecOk (L N : List Str) (R sec : Bool) (secs : List Sec) : Prop := sec = true ∨ (R = true ∧ ∀ c ∈ secs, oks L N true c.1 ∧ ks c.1 ≤ 12 ∧ ns c.1 ≤ 1000 ∧ c.2.length ≤ 400)
theorem SecOk.snoc {L N : List Str} {R sec : Bool} {secs : List Sec} {c : List St} {is : List Int} (h : SecOk L N R sec secs) (hc : oks L N true c) (hk : ks c ≤ 12) (hn : ns c ≤ 1000) (hi : is.length ≤ lim R) : SecOk L N R sec (secs ++ [(c, is)]) := by
  rcases h with h | ⟨h, h2⟩
  · exact .inl h
  · refine .inr ⟨h, fun d hd => (List.mem_append.mp hd).elim (h2 d) fun z => ?_⟩
    cases List.mem_singleton.mp z
    subst h
    exact ⟨hc, hk, hn, hi⟩
def Sec1 (K : PySem.W.Frag) (H : Hp) (v : V) (c : Sec) : Prop := ∃ r b w, v = V.ref r ∧ H r = some (.tup [b, w]) ∧ Dp K H b (.tuple (ds c.1)) ∧ Pth H w c.2
def SecV (K : PySem.W.Frag) (H : Hp) (v : V) (secs : List Sec) : Prop := ∃ a xs, v = V.ref a ∧ H a = some (.tup xs) ∧ Paired (Sec1 K H) xs secs
theorem Sec1.tk {K : PySem.W.Frag} {H H' : Hp} {v : V} {c : Sec} (t : Tk H H') (h : Sec1 K H v c) : Sec1 K H' v c := by
  obtain ⟨r, b, w, e, h1, h2, h3⟩ := h
  exact ⟨r, b, w, e, (t _ _).1 h1, t.dp (.tuple (ds c.1)) (tup_ds c.1) h2, h3.tk t⟩
theorem SecV.tk {K : PySem.W.Frag} {H H' : Hp} {v : V} {secs : List Sec} (h : SecV K H v secs) (t : Tk H H') : SecV K H' v secs := by
  obtain ⟨a, xs, e, h1, h2⟩ := h
  exact ⟨a, xs, e, (t _ _).1 h1, Paired.mapP h2 fun _ _ z => Sec1.tk t z⟩
theorem paired_at {α β : Type} {R : α → β → Prop} : ∀ {xs : List α} {ys : List β} {i : Nat} {x : α}, Paired R xs ys → xs[i]? = some x → ∃ y, ys[i]? = some y ∧ R x y
  | _, _, _, _, .nil, e => by simp at e
  | _, _, 0, _, .cons r _, e => by simp at e; subst e; exact ⟨_, rfl, r⟩
  | _, _, i + 1, _, .cons _ t, e => by
    obtain ⟨y, h1, h2⟩ := paired_at (i := i) t (by simpa using e)
    exact ⟨y, by simpa using h1, h2⟩
theorem fs_snoc (secs : List Sec) (c : List St) (is : List Int) : fs (secs ++ [(c, is)]) = fs secs ++ [c] := by unfold fs; rw [List.map_append]; rfl
theorem fs_take (secs : List Sec) (i : Nat) : (fs secs).take i = fs (secs.take i) := by unfold fs; rw [List.map_take]
theorem for_Itc {lo c : Int} {n : Nat} {g : TG} {tb : TS} {D : Ends} {σ : L2.St} {H : Hp} (Pv : Nat → L2.St → Hp → Prop) (h0 : Pv 0 σ H)
    (hs : ∀ i σ H, i < n → Pv i σ H → g (.int (lo + (i : Nat) * c)) σ H fun σ2 H2 => tb { D with nx := Pv (i + 1), ct := Pv (i + 1), bk := D.nx } σ2 H2) (hd : ∀ σ H, Pv n σ H → D.nx σ H) :
    ∃ W : Nat → Nat → L2.St → Hp → Prop, (∃ m, W 0 m σ H) ∧ ∀ i m σ H, W i m σ H →
      ((Itc lo c n).stop i H ∧ D.nx σ H) ∨ ((Itc lo c n).go i H ∧ ∃ N : L2.St → Hp → Prop, (∀ σ' H', N σ' H' → ∃ m', m' < m ∧ W (i + 1) m' σ' H') ∧ ∀ x H', (Itc lo c n).yld i H x H' → g x σ H' fun σ2 H2 => tb { D with nx := N, ct := N, bk := D.nx } σ2 H2) := by
  refine ⟨fun i m σ H => i ≤ n ∧ m = n - i ∧ Pv i σ H, ⟨n, Nat.zero_le _, rfl, h0⟩, ?_⟩
  rintro i m σ H ⟨hi, rfl, p⟩
  rcases Nat.lt_or_ge i n with hlt | hge
  · refine .inr ⟨hlt, Pv (i + 1), fun σ' H' p' => ⟨n - (i + 1), by omega, hlt, rfl, p'⟩, ?_⟩
    rintro _ _ ⟨rfl, rfl⟩
    exact hs i σ _ hlt p
  · have e : i = n := Nat.le_antisymm hi hge
    subst e
    exact .inl ⟨Nat.le_refl _, hd σ H p⟩
theorem lc_enumT {K : PySem.W.Frag} {a : Addr} {xs : List V} {g : TG} {tt : TT} {te : TE} {vs : List Nat} {σ : L2.St} {H1 : Hp} {D : Addr} {Qd : Hp → Prop} (Pv : Nat → Hp → Prop) (h0 : Pv 0 (upd H1 D (.lst []))) (hl : ∀ i H, i ≤ xs.length → Pv i H → SqT K H a xs)
    (hs : ∀ i x H Tp, xs[i]? = some x → Pv i H → H Tp = none → g (.ref Tp) (wipe σ vs) (upd H Tp (.tup [.int (i : Nat), x])) fun σ2 H2 => wipe σ2 vs = wipe σ vs ∧ tt σ2 H2 fun b H3 =>
      if b = true then te σ2 H3 fun y H4 => ∃ acc, H4 D = some (.lst acc) ∧ acc.length < sizeLine ∧ Pv (i + 1) (upd H4 D (.lst (acc ++ [y]))) else Pv (i + 1) H3) (hd : ∀ H, Pv xs.length H → Qd H) :
    ∃ W : Nat → Nat → Hp → Prop, (∃ m, W 0 m (upd H1 D (.lst []))) ∧ ∀ i m H, W i m H →
      ((UG.Iet K a).stop i H ∧ Qd H) ∨ ((UG.Iet K a).go i H ∧ ∃ Nx : Hp → Prop, (∀ H', Nx H' → ∃ m', m' < m ∧ W (i + 1) m' H') ∧ ∀ x H', (UG.Iet K a).yld i H x H' → g x (wipe σ vs) H' fun σ2 H2 => wipe σ2 vs = wipe σ vs ∧ tt σ2 H2 fun b H3 =>
        if b = true then te σ2 H3 fun y H4 => ∃ acc, H4 D = some (.lst acc) ∧ acc.length < sizeLine ∧ Nx (upd H4 D (.lst (acc ++ [y]))) else Nx H3) := by
  refine ⟨fun i m H => i ≤ xs.length ∧ m = xs.length - i ∧ Pv i H, ⟨xs.length, Nat.zero_le _, rfl, h0⟩, ?_⟩
  rintro i m H ⟨hi, rfl, p⟩
  have q := hl i H hi p
  rcases Nat.lt_or_ge i xs.length with hlt | hge
  · refine .inr ⟨⟨xs, xs[i], q, List.getElem?_eq_getElem hlt⟩, Pv (i + 1), fun H' p' => ⟨xs.length - (i + 1), by omega, hlt, rfl, p'⟩, ?_⟩
    rintro _ _ ⟨Tp, x, rfl, hTp, rfl, hx⟩
    exact hs i x H Tp (hx xs q) p hTp
  · have e : i = xs.length := Nat.le_antisymm hi hge
    subst e
    exact .inl ⟨⟨xs, q, Nat.le_refl _⟩, hd H p⟩
theorem KO.upd_fresh {pl fk b : Addr} {H : Hp} {kvs : List (List Key × V)} (hf : H fk = some (.dT kvs)) (hb : H b = none) (o : HO) : KO pl fk H (upd H b o) := (KO.refl pl fk H).fresh hb (fun z => by rw [z, hb] at hf; cases hf) o
section
variable {P : Program} {w : World} {K : PySem.W.Frag} {mg : Str → Option Value} {base : Heap}

def spBd (K : PySem.W.Frag) (C : Addr) (R : Bool) (n : Nat) : Sp := fun vs H Q _ => ∃ p pl fk la na bv t sv wv L N ps b secs is sec, vs = [.ref p, bv, .int t, sv, wv] ∧ Lay K C L N H p pl fk la na ps ∧ Dp K H bv (.tuple (ds b)) ∧ SecV K H sv secs ∧ Pth H wv is ∧ ks b < n ∧ ks b ≤ 12 ∧ ns b ≤ 1000 ∧ secs.length + n ≤ 1000 ∧ is.length + 2 * n + 1 ≤ lim R ∧ oks L N sec b ∧ SecOk L N R sec secs ∧
  (layB L N (leave L N (fs secs)) b t ps).2.length ≤ 300 ∧ ∀ H', Lay K C L N H' p pl fk la na (layB L N (leave L N (fs secs)) b t ps).2 → Tk H H' → KO pl fk H H' → Q (.int (layB L N (leave L N (fs secs)) b t ps).1) H'
def spSt (K : PySem.W.Frag) (C : Addr) (R : Bool) (n : Nat) : Sp := fun vs H Q _ => ∃ p pl fk la na bv t sv wv L N ps s secs is sec, vs = [.ref p, bv, .int t, sv, wv] ∧ Lay K C L N H p pl fk la na ps ∧ Dp K H bv (St.d s) ∧ SecV K H sv secs ∧ Pth H wv is ∧ s.k < n ∧ s.k ≤ 12 ∧ s.n ≤ 1000 ∧ secs.length + n ≤ 1000 ∧ is.length + 2 * n ≤ lim R ∧ s.ok L N sec ∧ SecOk L N R sec secs ∧
  (layS L N (leave L N (fs secs)) s t ps).2.length ≤ 300 ∧ ∀ H', Lay K C L N H' p pl fk la na (layS L N (leave L N (fs secs)) s t ps).2 → Tk H H' → KO pl fk H H' → Q (.int (layS L N (leave L N (fs secs)) s t ps).1) H'
def spLp (K : PySem.W.Frag) (C : Addr) (R : Bool) (n : Nat) : Sp := fun vs H Q _ => ∃ p pl fk la na bv t sv wv L N ps b secs is sec, vs = [.ref p, bv, .int t, sv, wv] ∧ Lay K C L N H p pl fk la na ps ∧ Dp K H bv (.tuple (ds b)) ∧ SecV K H sv secs ∧ Pth H wv is ∧ ks b < n ∧ ks b ≤ 12 ∧ ns b ≤ 1000 ∧ secs.length + n ≤ 1000 ∧ is.length + 2 * n + 2 ≤ lim R ∧ oks L N sec b ∧ SecOk L N R sec secs ∧
  (layS L N (leave L N (fs secs)) (.lp b) t ps).2.length ≤ 300 ∧ ∀ H', Lay K C L N H' p pl fk la na (layS L N (leave L N (fs secs)) (.lp b) t ps).2 → Tk H H' → KO pl fk H H' → Q (.int (layS L N (leave L N (fs secs)) (.lp b) t ps).1) H'
def spLv (K : PySem.W.Frag) (C : Addr) : Sp := fun vs H Q _ => ∃ p pl fk la na sv L N ps secs, vs = [.ref p, sv] ∧ Lay K C L N H p pl fk la na ps ∧ SecV K H sv secs ∧ (∀ c ∈ secs, oks L N true c.1 ∧ ks c.1 ≤ 12 ∧ ns c.1 ≤ 1000 ∧ c.2.length ≤ 400) ∧
  (leave L N (fs secs) ps).2.length ≤ 300 ∧ ∀ H', Lay K C L N H' p pl fk la na (leave L N (fs secs) ps).2 → Tk H H' → KO pl fk H H' → Q (.int (leave L N (fs secs) ps).1) H'
theorem sc_lay : FnScope ["self", "body", "told", "seconds", "path", "at"] ["self", "body", "told", "seconds", "path"] (C8.fnScope (inClass (topS 38) 3)) := C8.fnScope_by (by decide +kernel)
theorem sc_statement : FnScope ["self", "statement", "told", "seconds", "path", "word", "nexts", "at", "body", "behind"] ["self", "statement", "told", "seconds", "path"] (C8.fnScope (inClass (topS 38) 4)) := C8.fnScope_by (by decide +kernel)
theorem sc_loop : FnScope ["self", "inner", "told", "seconds", "path", "fork"] ["self", "inner", "told", "seconds", "path"] (C8.fnScope (inClass (topS 38) 5)) := C8.fnScope_by (by decide +kernel)
theorem sc_leave : FnScope ["self", "seconds", "begin", "second", "path"] ["self", "seconds"] (C8.fnScope (inClass (topS 38) 6)) := C8.fnScope_by (by decide +kernel)
theorem okm_lay {R : Bool} {n e : Nat} {C f : Addr} {fd : FuncData} (T : Txt K mg C) (me : Meth K C "lay" f) (F : C8.Fun K "lay" "Layout.lay" (inClass (topS 38) 3) f fd) (b : Binds K fd ["self", "body", "told", "seconds", "path"] []) (B : Bl K mg) (c_statement : C8.Met P w K mg base e C "statement" (spSt K C R n) []) : C8.Met P w K mg base (e + 1) C "lay" (spBd K C R n) [] := by
  refine C8.met0 T.cl me F b sc_lay ?len ?body
  case len => rintro vs H Q E ⟨p, pl, fk, la, na, bv, t, sv, wv, L, N, ps, b, secs, is, sec, rfl, _⟩; rfl
  case body =>
    rintro cdv A outer s H vs Q E hr ⟨p, pl, fk, la, na, bv, t, sv, wv, L, N, ps, b, secs, is, sec, rfl, hL, hd, hsv, hpt, hk, hk12, hn, hsl, hil, hok, hso, hlen, q⟩
    refine ⟨_, (pss_cons (ps_for PassesOwn.never rfl (pi_revR rfl B.reversed (prg_1 rfl B.range (pe_callB call_len_seq rfl B.len PySem.boot_len (pa_cons (pv 1) pa_nil)))) (pg_name (i := 5) sc_lay.nd rfl (Or.inl rfl))
    (pss_one (ps_set (i := 2) sc_lay.nd rfl (Or.inl rfl) (C8.pe_mt c_statement hr (by omega) (pv 0) (pa_cons (pe_ix ix_tup (pv 1) (pv 5) (fun _ _ => rfl)) (pa_cons (pv 2) (pa_cons (pv 3) (pa_cons (pe_tup (StX.pa_star (pv 4) (pa_cons (pv 5) pa_nil))) pa_nil))))))))
    (pss_one (ps_ret (pv 2)))), ?_⟩
    obtain ⟨a, xs, rfl, hs, ha, hl⟩ := len_ok hd
    rw [ds_len] at hl
    have hbl := len_ns b
    refine ⟨_, rfl, a, xs, rfl, .inr hs, _, rfl, (by decide), (by decide), (by omega), (by omega), ?_⟩
    refine for_Itc (fun i σ H' => ∃ b5, σ = [some (.ref p), some (.ref a), some (.int (layB L N (leave L N (fs secs)) (b.drop (b.length - i)) t ps).1), some sv, some wv, b5] ∧ Lay K C L N H' p pl fk la na (layB L N (leave L N (fs secs)) (b.drop (b.length - i)) t ps).2 ∧ Tk H H' ∧ KO pl fk H H') ?_ ?_ ?_
    · refine ⟨none, ?_, ?_, Tk.refl H, KO.refl pl fk H⟩
      · rw [Nat.sub_zero, List.drop_length]; rfl
      · rw [Nat.sub_zero, List.drop_length]; exact hL
    · rintro i _ H1 hi ⟨b5, rfl, L1, t1, k1⟩
      have hib : i < b.length := by omega
      have ev : (0 + ((((xs.length : Nat) : Int) - 0).toNat : Int) - 1 + (i : Int) * (-1)) = ((b.length - 1 - i : Nat) : Int) := by omega
      rw [ev]
      have hxi : b.length - 1 - i < xs.length := by omega
      have hx := List.getElem?_eq_getElem hxi
      generalize xs[b.length - 1 - i] = x at hx
      obtain ⟨d, hd, hdp⟩ := dps_get' ha hx
      obtain ⟨st, hsb, rfl⟩ := ds_get hd
      have e := drop_cons hib hsb
      have hm := List.mem_of_getElem? hsb
      have hkm := ks_mem hm
      have hnm := ns_mem hm
      have hle := layB_le (L := L) (N := N) (lv := leave L N (fs secs)) b (b.length - (i + 1)) t ps (grow_leave (fs secs))
      have hst : layB L N (leave L N (fs secs)) (b.drop (b.length - (i + 1))) t ps = layS L N (leave L N (fs secs)) st (layB L N (leave L N (fs secs)) (b.drop (b.length - i)) t ps).1 (layB L N (leave L N (fs secs)) (b.drop (b.length - i)) t ps).2 := by rw [e]; rfl
      obtain ⟨m, hmm, dx, vs, kvs, h1, _⟩ := id L1
      obtain ⟨pa, rfl, hpa⟩ := hpt.tk t1
      refine ⟨_, rfl, p, dx, _, rfl, h1, (lf_no _ _ _ _ (by decide +kernel) (by decide +kernel) (by decide +kernel) (by decide +kernel)), _, rfl, _, rfl, _, _, _, _, rfl, rfl, t1.sqt hs, atI_nat hx, _, rfl, _, rfl, _, rfl, pa, _, rfl, .inl (SqT.of hpa), _, rfl, ?_, fun w hw => ?_⟩
      · refine Nat.le_trans (show _ ≤ 801 by rw [List.length_append, List.length_map]; have := lim_le R; simp; omega) (by decide)
      have sw := same_new hw (.tup (is.map V.int ++ [.int ((b.length - 1 - i : Nat) : Int)]))
      have tw := t1.trans (Tk.same sw)
      refine ⟨p, pl, fk, la, na, x, _, sv, .ref w, L, N, _, st, secs, is ++ [((b.length - 1 - i : Nat) : Int)], sec, rfl, L1.same sw, tw.dp _ (tup_St st) hdp, hsv.tk tw, ⟨w, rfl, by rw [upd_same, List.map_append]; rfl⟩, by omega, by omega, by omega, hsl, (by rw [List.length_append]; simp; omega), oks_iff.mp hok st hm, hso, by rw [← hst]; omega, fun H2 L2 t2 k2 => ?_⟩
      exact ⟨_, by rw [hst]; rfl, by rw [hst]; exact L2, tw.trans t2, k1.trans ((L1.ko sw).trans k2)⟩
    · rintro σ H1 ⟨b5, rfl, L1, t1, k1⟩
      have e0 : (((xs.length : Nat) : Int) - 0).toNat = b.length := by omega
      simp only [e0, Nat.sub_self, List.drop_zero] at L1 ⊢
      exact ⟨_, rfl, q H1 L1 t1 k1⟩
theorem okm_loop {R : Bool} {n e : Nat} {C f : Addr} {fd : FuncData} (T : Txt K mg C) (me : Meth K C "loop" f) (F : C8.Fun K "loop" "Layout.loop" (inClass (topS 38) 5) f fd) (b : Binds K fd ["self", "inner", "told", "seconds", "path"] []) (B : Bl K mg) (c_make_fork : C8.Met P w K mg base 2 C "make_fork" (spFork K C) []) (c_lay : C8.Met P w K mg base e C "lay" (spBd K C R n) []) (he : 2 ≤ e) : C8.Met P w K mg base (e + 1) C "loop" (spLp K C R n) [] := by
  refine C8.met0 T.cl me F b sc_loop ?len ?body
  case len => rintro vs H Q E ⟨p, pl, fk, la, na, bv, t, sv, wv, L, N, ps, b, secs, is, sec, rfl, _⟩; rfl
  case body =>
    rintro cdv A outer s H vs Q E hr ⟨p, pl, fk, la, na, bv, t, sv, wv, L, N, ps, b, secs, is, sec, rfl, hL, hd, hsv, hpt, hk, hk12, hn, hsl, hil, hok, hso, hlen, q⟩
    refine ⟨_, (pss_cons (ps_set (i := 5) sc_loop.nd rfl (Or.inl rfl) (C8.pe_mt c_make_fork hr (by omega) (pv 0) (pa_cons (pe_tup pa_nil) (pa_cons (pv 4) pa_nil))))
    (pss_cons (ps_asg (pe_tup (pa_cons pe_str (pa_cons (pe_tup (pa_cons (C8.pe_mt c_lay hr (by omega) (pv 0) (pa_cons (pv 1) (pa_cons (pv 5) (pa_cons (pv 3) (pa_cons (pe_tup (StX.pa_star (pv 4) (pa_cons pe_int pa_nil))) pa_nil))))) (pa_cons (pv 2) pa_nil))) pa_nil))) (pg_sub (pe_fld (pv 0) rfl) (pv 5) set_list))
    (pss_one (ps_ret (pv 5))))), ?_⟩
    rw [lay_lp L N (fs secs) b t ps (.tuple [.str "fork", .tuple []])] at hlen q
    have hlen2 := hlen
    rw [List.length_set] at hlen2
    have hg := grow_B L N b (ps.length : Nat) (ps ++ [.tuple [.str "fork", .tuple []]]) (grow_leave (L := L) (N := N) (fs secs))
    rw [List.length_append] at hg
    obtain ⟨m, hmm, dx, vs, kvs, h1, _⟩ := id hL
    refine ⟨_, rfl, p, dx, _, rfl, h1, (lf_no _ _ _ _ (by decide +kernel) (by decide +kernel) (by decide +kernel) (by decide +kernel)), (by show 0 ≤ sizeLine; decide), fun z hz => ?_⟩
    have sz := same_new hz (.tup [])
    refine ⟨_, rfl, p, pl, fk, la, na, .ref z, wv, [], is, L, N, ps, rfl, hL.same sz, .tup (SqT.of upd_same) .nil, trivial, hpt.tk (Tk.same sz), by simp at hg; omega, fun H1 L1 t1 k1 => ?_⟩
    have t01 := (Tk.same sz).trans t1
    have k01 := (hL.ko sz).trans k1
    obtain ⟨m1, hm1, dx1, vs1, kvs1, h11, _⟩ := id L1
    obtain ⟨pa, rfl, hpa⟩ := hpt.tk t01
    refine ⟨_, rfl, p, dx1, _, rfl, h11, (lf_no _ _ _ _ (by decide +kernel) (by decide +kernel) (by decide +kernel) (by decide +kernel)), _, rfl, _, rfl, _, rfl, _, rfl, pa, _, rfl, .inl (SqT.of hpa), ?_, fun w hw => ?_⟩
    · refine Nat.le_trans (show _ ≤ 801 by rw [List.length_append, List.length_map]; have := lim_le R; simp; omega) (by decide)
    have sw := same_new hw (.tup (is.map V.int ++ [.int 0]))
    have tw := t01.trans (Tk.same sw)
    refine ⟨p, pl, fk, la, na, bv, _, sv, .ref w, L, N, _, b, secs, is ++ [0], sec, rfl, L1.same sw, tw.dp (.tuple (ds b)) (tup_ds b) hd, hsv.tk tw, ⟨w, rfl, by rw [upd_same, List.map_append]; rfl⟩, hk, hk12, hn, hsl, (by rw [List.length_append]; simp; omega), hok, hso, hlen2, fun H2 L2 t2 k2 => ?_⟩
    refine ⟨_, rfl, (by show 2 ≤ sizeLine; decide), fun p1 hp1 => ⟨(by show 2 ≤ sizeLine; decide), fun p2 hp2 => ?_⟩⟩
    have sA := (same_new hp1 (.tup [.int (layB L N (leave L N (fs secs)) b (ps.length : Nat) (ps ++ [.tuple [.str "fork", .tuple []]])).1, .int t])).trans (same_new hp2 (.tup [.str "fork", .ref p1]))
    have n12 : p1 ≠ p2 := fun z => by rw [← z, upd_same] at hp2; cases hp2
    have hf : Dp K (upd (upd H2 p1 (.tup [.int (layB L N (leave L N (fs secs)) b (ps.length : Nat) (ps ++ [.tuple [.str "fork", .tuple []]])).1, .int t])) p2 (.tup [.str "fork", .ref p1])) (.ref p2) (.tuple [.str "fork", .tuple [.int (layB L N (leave L N (fs secs)) b (ps.length : Nat) (ps ++ [.tuple [.str "fork", .tuple []]])).1, .int t]]) := by
      refine .tup (SqT.of upd_same) (.cons (.str _) (.cons (.tup (SqT.of ?_) (.cons (.int _) (.cons (.int _) .nil))) .nil))
      rw [upd_ne n12]
      exact upd_same
    have L3 := L2.same sA
    have kA := L2.ko sA
    generalize upd (upd H2 p1 (.tup [.int (layB L N (leave L N (fs secs)) b (ps.length : Nat) (ps ++ [.tuple [.str "fork", .tuple []]])).1, .int t])) p2 (.tup [.str "fork", .ref p1]) = H3 at sA hf L3 kA
    obtain ⟨m3, hm3, L3'⟩ := L3
    obtain ⟨dx3, vs3, kvs3, h31, h32, h33, h34, h35, h36, h37, h38, h39, h310⟩ := id L3'
    have hl3 := dps_len h33
    refine ⟨_, rfl, p, C, dx3, _, _, rfl, h31, T.cl, T.nP, lf_places _ _ _ _, _, rfl, pl, vs3, _, ps.length, rfl, rfl, h32, ix_nat (by simp at hg; omega), ?_⟩
    have tS : Tk H3 (upd H3 pl (.lst (vs3.set ps.length (.ref p2)))) := Tk.put h32 _
    have kS : KO pl fk H3 (upd H3 pl (.lst (vs3.set ps.length (.ref p2)))) := KO.put_pl h38 h32 _
    have nf : fk ≠ pl := ne_of h38 h32 (fun z => nomatch z)
    have tf : TupD (.tuple [.str "fork", .tuple [.int (layB L N (leave L N (fs secs)) b (ps.length : Nat) (ps ++ [.tuple [.str "fork", .tuple []]])).1, .int t]]) := ⟨trivial, ⟨trivial, trivial, trivial⟩, trivial⟩
    have L4 : LayM K C L N (upd H3 pl (.lst (vs3.set ps.length (.ref p2)))) p pl fk la na ((layB L N (leave L N (fs secs)) b (ps.length : Nat) (ps ++ [.tuple [.str "fork", .tuple []]])).2.set ps.length (.tuple [.str "fork", .tuple [.int (layB L N (leave L N (fs secs)) b (ps.length : Nat) (ps ++ [.tuple [.str "fork", .tuple []]])).1, .int t]])) m3 := by
      refine L3'.put tS kS upd_same (dps_set _ (tS.dps _ h34 h33) (tS.dp _ tf hf)) ?_ (by rw [upd_ne nf]; exact h38) h39 fun e he => ?_
      · refine tupds_iff.mpr fun d hd => ?_
        rcases List.mem_or_eq_of_mem_set hd with h | h
        · exact tupds_iff.mp h34 d h
        · subst h; exact tf
      · obtain ⟨bb, ys, e1, e2, e3, e4⟩ := h310 e he
        exact ⟨bb, ys, e1, by rw [upd_ne e4]; exact e2, e3, e4⟩
    exact ⟨_, rfl, q _ ⟨m3, by rw [List.length_set]; exact hm3, L4⟩ (tw.trans (t2.trans ((Tk.same sA).trans tS))) (k01.trans ((L1.ko sw).trans (k2.trans (kA.trans kS))))⟩
theorem okm_leave {e : Nat} {C f : Addr} {fd : FuncData} (T : Txt K mg C) (me : Meth K C "leave" f) (F : C8.Fun K "leave" "Layout.leave" (inClass (topS 38) 6) f fd) (b : Binds K fd ["self", "seconds"] []) (B : Bl K mg) (c_lay : C8.Met P w K mg base e C "lay" (spBd K C false 13) []) : C8.Met P w K mg base (e + 1) C "leave" (spLv K C) [] := by
  refine C8.met0 T.cl me F b sc_leave ?len ?body
  case len => rintro vs H Q E ⟨p, pl, fk, la, na, sv, L, N, ps, secs, rfl, _⟩; rfl
  case body =>
    rintro cdv A outer s H vs Q E hr ⟨p, pl, fk, la, na, sv, L, N, ps, secs, rfl, hL, hsv, hso, hlen, q⟩
    refine ⟨_, (pss_cons (ps_set (i := 2) sc_leave.nd rfl (Or.inl rfl) pe_int)
    (pss_cons (ps_for PassesOwn.never rfl (pi_tup (pv 1)) (pg_tup rfl (pgs_cons (pg_name (i := 3) sc_leave.nd rfl (Or.inl rfl)) (pgs_cons (pg_name (i := 4) sc_leave.nd rfl (Or.inl rfl)) pgs_nil)))
    (pss_one (ps_set (i := 2) sc_leave.nd rfl (Or.inl rfl) (C8.pe_mt c_lay hr (by omega) (pv 0) (pa_cons (pv 3) (pa_cons (pv 2) (pa_cons (pe_tup pa_nil) (pa_cons (pv 4) pa_nil))))))))
    (pss_one (ps_ret (pv 2))))), ?_⟩
    obtain ⟨a, xs, rfl, hs, hps⟩ := hsv
    have hl := Paired.length hps
    refine ⟨_, rfl, a, rfl, ⟨_, SqT.of hs⟩, ?_⟩
    refine for_tup (xs := xs) (fun i σ H' => ∃ b3 b4, σ = [some (.ref p), some (.ref a), some (.int (leave L N (fs (secs.take i)) ps).1), b3, b4] ∧ Lay K C L N H' p pl fk la na (leave L N (fs (secs.take i)) ps).2 ∧ Tk H H' ∧ KO pl fk H H') ?_ ?_ ?_ ?_
    · exact ⟨none, none, rfl, hL, Tk.refl H, KO.refl pl fk H⟩
    · rintro i σ H' _ ⟨_, _, _, _, tk, _⟩
      exact tk.sqt (SqT.of hs)
    · rintro i x _ H1 hx ⟨b3, b4, rfl, L1, t1, k1⟩
      obtain ⟨c, hc, hc1⟩ := paired_at hps hx
      obtain ⟨r, bv, wv, rfl, hr1, hb1, hw1⟩ := Sec1.tk t1 hc1
      have hm := List.mem_of_getElem? hc
      have e1 : fs (secs.take (i + 1)) = fs (secs.take i) ++ [c.1] := by rw [List.take_succ, hc]; exact fs_snoc _ c.1 c.2
      have e2 : leave L N (fs (secs.take (i + 1))) ps = layB L N (leave L N []) c.1 (leave L N (fs (secs.take i)) ps).1 (leave L N (fs (secs.take i)) ps).2 := by rw [e1, leave_app]; rfl
      have hle := leave_le (L := L) (N := N) ((fs secs).take (i + 1)) ((fs secs).drop (i + 1)) ps
      rw [List.take_append_drop, fs_take, e2] at hle
      obtain ⟨m, hmm, dx, vs, kvs, h1, _⟩ := id L1
      have hh := hso c hm
      refine ⟨r, _, rfl, SqT.of hr1, rfl, _, _, rfl, _, _, rfl, rfl, ?_⟩
      refine ⟨_, rfl, p, dx, _, rfl, h1, (lf_no _ _ _ _ (by decide +kernel) (by decide +kernel) (by decide +kernel) (by decide +kernel)), _, rfl, _, rfl, (by show 0 ≤ sizeLine; decide), fun z hz => ?_⟩
      have sz := same_new hz (.tup [])
      refine ⟨_, rfl, p, pl, fk, la, na, bv, _, .ref z, wv, L, N, _, c.1, [], c.2, true, rfl, L1.same sz, (Tk.same sz).dp (.tuple (ds c.1)) (tup_ds c.1) hb1, ⟨z, [], rfl, upd_same, .nil⟩, hw1.tk (Tk.same sz), by omega, hh.2.1, hh.2.2.1, by simp, (by have := hh.2.2.2; show _ ≤ 800; omega), hh.1, .inl rfl, by show (layB L N (leave L N []) _ _ _).2.length ≤ 300; omega, fun H2 L2 t2 k2 => ?_⟩
      exact ⟨_, _, by rw [e2]; rfl, by rw [e2]; exact L2, t1.trans ((Tk.same sz).trans t2), k1.trans ((L1.ko sz).trans k2)⟩
    · rintro σ H1 ⟨b3, b4, rfl, L1, t1, k1⟩
      rw [hl, List.take_length] at *
      exact ⟨_, rfl, q H1 L1 t1 k1⟩
theorem okm_statement0 {n e : Nat} {C f : Addr} {fd : FuncData} (T : Txt K mg C) (me : Meth K C "statement" f) (F : C8.Fun K "statement" "Layout.statement" (inClass (topS 38) 4) f fd) (b : Binds K fd ["self", "statement", "told", "seconds", "path"] []) (B : Bl K mg) (c_make : C8.Met P w K mg base 1 C "make" (spMake K C) []) (c_make_fork : C8.Met P w K mg base 2 C "make_fork" (spFork K C) []) (c_lay : C8.Met P w K mg base e C "lay" (spBd K C false n) []) (c_loop : C8.Met P w K mg base e C "loop" (spLp K C false n) []) (he : 2 ≤ e) : C8.Met P w K mg base (e + 1) C "statement" (spSt K C false (n + 1)) [] := by
  refine C8.met0 T.cl me F b sc_statement ?len ?body
  case len => rintro vs H Q E ⟨p, pl, fk, la, na, bv, t, sv, wv, L, N, ps, st, secs, is, sec, rfl, _⟩; rfl
  case body =>
    rintro cdv A outer s H vs Q E hr ⟨p, pl, fk, la, na, bv, t, sv, wv, L, N, ps, st, secs, is, sec, rfl, hL, hd, hsv, hpt, hk, hk12, hn, hsl, hil, hok, hso, hlen, q⟩
    refine ⟨_, (pss_cons (ps_set (i := 5) sc_statement.nd rfl (Or.inl rfl) (pe_ix ix_tup (pv 1) pe_int (fun _ _ => rfl)))
    (pss_cons (ps_if (pt_cmpR op_eq (pv 5) pe_str (nomark _)) (pss_one (ps_ret (C8.pe_mt c_make hr (by omega) (pv 0) (pa_cons (pe_tup (pa_cons pe_str (pa_cons (pe_op op_add (pe_tupIx mt_tup_index (pe_fld (pv 0) rfl) (pa_cons (pe_ix ix_tup (pv 1) pe_int (fun _ _ => rfl)) pa_nil)) pe_int) (pa_cons (pv 2) pa_nil)))) pa_nil)))) pss_nil)
    (pss_cons (ps_if (pt_cmpR op_eq (pv 5) pe_str (nomark _)) (pss_one (ps_ret (C8.pe_mt c_make hr (by omega) (pv 0) (pa_cons (pe_tup (pa_cons pe_str (pa_cons (pe_op op_sub (pe_un un_neg (pe_tupIx mt_tup_index (pe_fld (pv 0) rfl) (pa_cons (pe_ix ix_tup (pv 1) pe_int (fun _ _ => rfl)) pa_nil))) pe_int) (pa_cons (pv 2) pa_nil)))) pa_nil)))) pss_nil)
    (pss_cons (ps_if (pt_cmpR op_eq (pv 5) pe_str (nomark _)) (pss_one (ps_ret (C8.pe_mt c_make hr (by omega) (pv 0) (pa_cons (pe_tup (pa_cons pe_str (pa_cons (pe_bm PySem.F.plainAttrs_list PySem.F.slot_list_index PySem.F.type_list_index mt_index (pe_fld (pv 0) rfl) (pa_cons (pe_ix ix_tup (pv 1) pe_int (fun _ _ => rfl)) pa_nil)) (pa_cons (pv 2) pa_nil)))) pa_nil)))) pss_nil)
    (pss_cons (ps_if (pt_cmpR op_eq (pv 5) pe_str (nomark _)) (pss_cons (ps_setLc (i := 6) (te := tMeth C "lay" (spBd K C false n) [] C8.E0 (tVar 0) (tCons (tVar 8) (tCons (tVar 2) (tCons (tVar 3) (tCons (tTup (StX.tStar K (tVar 4) (tCons (tVar 7) tNil))) tNil)))))  (own := [("at", 7), ("body", 8)]) (g := gTup K 2 (gCons (gName 7) (gCons (gName 8) gNil))) (by rfl) sc_statement.nd rfl rfl (sw_true rfl rfl rfl (by decide +kernel)) (UG.pi_enumT rfl B.enumerate (pa_cons (pe_ix ix_tup (pv 1) pe_int (fun _ _ => rfl)) pa_nil)) (blkOk_by (own := [("at", 7), ("body", 8)]) (N := ["self", "statement", "told", "seconds", "path", "word", "nexts", "at", "body", "behind"]) (sc := (C8.fnScope (inClass (topS 38) 4))) (by decide +kernel)) (fun _ _ _ _ _ => by exact pg_tup rfl (pgs_cons (pg_name (i := 7) sc_statement.nd rfl (Or.inl rfl)) (pgs_cons (pg_name (i := 8) sc_statement.nd rfl (Or.inl rfl)) pgs_nil))) (fun _ _ _ _ _ => pts_nil) (fun _ _ _ _ _ => by exact (C8.pe_mt c_lay hr (by omega) (pv 0) (pa_cons (pv 8) (pa_cons (pv 2) (pa_cons (pv 3) (pa_cons (pe_tup (StX.pa_star (pv 4) (pa_cons (pv 7) pa_nil))) pa_nil)))))))
    (pss_one (ps_ret (C8.pe_mt c_make_fork hr (by omega) (pv 0) (pa_cons (pe_callTy call_tuple_of rfl B.tuple (by decide +kernel) (pa_cons (pv 6) pa_nil)) (pa_cons (pv 4) pa_nil)))))) pss_nil)
    (pss_cons (ps_if (pt_cmpR op_eq (pv 5) pe_str (nomark _)) (pss_one (ps_ret (C8.pe_mt c_loop hr (by omega) (pv 0) (pa_cons (pe_ix ix_tup (pv 1) pe_int (fun _ _ => rfl)) (pa_cons (pv 2) (pa_cons (pv 3) (pa_cons (pv 4) pa_nil))))))) pss_nil)
    (pss_cons (ps_if (pt_cmpR op_eq (pv 5) pe_str (nomark _)) pss_never pss_nil)
    (pss_cons (ps_set (i := 9) sc_statement.nd rfl (Or.inl rfl) (C8.pe_mt c_lay hr (by omega) (pv 0) (pa_cons (pe_ix ix_tup (pv 1) pe_int (fun _ _ => rfl)) (pa_cons (pv 2) (pa_cons (pe_tup pa_nil) (pa_cons (pe_tup (StX.pa_star (pv 4) (pa_cons pe_int pa_nil))) pa_nil))))))
    (pss_one (ps_ret (C8.pe_mt c_lay hr (by omega) (pv 0) (pa_cons (pe_ix ix_tup (pv 1) pe_int (fun _ _ => rfl)) (pa_cons (pv 9) (pa_cons (pe_tup (StX.pa_star (pv 3) (pa_cons (pe_tup (pa_cons (pe_ix ix_tup (pv 1) pe_int (fun _ _ => rfl)) (pa_cons (pe_tup (StX.pa_star (pv 4) (pa_cons pe_int pa_nil))) pa_nil))) pa_nil))) (pa_cons (pe_tup (StX.pa_star (pv 4) (pa_cons pe_int pa_nil))) pa_nil))))))))))))))), ?_⟩
    have hlim : lim false ≤ 800 := by decide
    obtain ⟨m, hmm, dx, vs, kvs, h1, h2, h3, h4, h5, h6, h7, h8, h9, h10⟩ := id hL
    obtain ⟨pa, rfl, hpa⟩ := id hpt
    cases st with
    | dd x =>
      have hd0 := hd
      obtain ⟨a, xs, rfl, hs, ha, hl⟩ := len_ok hd
      cases ha with
      | cons h0 ha =>
      cases h0
      refine ⟨_, rfl, _, _, _, _, rfl, rfl, hs, at0 _ _, ?_⟩
      refine ⟨_, rfl, rfl, _, rfl, ?_⟩
      rw [dec_str]
      refine ifT (by decide +kernel) ?_
      cases ha with
      | cons hx ha =>
      cases hx
      have hin : x ∈ L := hok
      obtain ⟨g1, g2⟩ := idx_get hin
      rw [layS, List.length_append] at hlen
      refine ⟨_, rfl, p, dx, _, rfl, h1, (lf_no _ _ _ _ (by decide +kernel) (by decide +kernel) (by decide +kernel) (by decide +kernel)), _, rfl, p, C, dx, _, _, rfl, h1, T.cl, T.nL, lf_letters _ _ _ _, ⟨la, _, rfl, h5⟩, _, rfl, _, _, _, _, rfl, rfl, hs, at1 _ _ _, la, L, x, _, rfl, rfl, h5.sq, g1, g2, _, _, rfl, rfl, _, rfl, (by show 3 ≤ sizeLine; decide), fun z hz => ?_⟩
      have sz := same_new hz (.tup [.str "letter", .int (idx x L + 1), .int t])
      refine ⟨p, pl, fk, la, na, .ref z, .tuple [.str "letter", .int (idx x L + 1), .int t], L, N, ps, m, rfl, (LayM.same ⟨dx, vs, kvs, h1, h2, h3, h4, h5, h6, h7, h8, h9, h10⟩ sz), .tup (SqT.of upd_same) (.cons (.str _) (.cons (.int _) (.cons (.int _) .nil))), ⟨trivial, trivial, trivial, trivial⟩, by simp at hlen; omega, fun H2 L2 t2 k2 => ?_⟩
      exact q H2 ⟨m, by rw [layS, List.length_append]; simp; omega, L2⟩ ((Tk.same sz).trans t2) ((hL.ko sz).trans k2)
    | ud x =>
      have hd0 := hd
      obtain ⟨a, xs, rfl, hs, ha, hl⟩ := len_ok hd
      cases ha with
      | cons h0 ha =>
      cases h0
      refine ⟨_, rfl, _, _, _, _, rfl, rfl, hs, at0 _ _, ?_⟩
      refine ⟨_, rfl, rfl, _, rfl, ?_⟩
      rw [dec_str]
      refine ifF (by decide +kernel) ?_
      refine ⟨_, rfl, rfl, _, rfl, ?_⟩
      rw [dec_str]
      refine ifT (by decide +kernel) ?_
      cases ha with
      | cons hx ha =>
      cases hx
      have hin : x ∈ L := hok
      obtain ⟨g1, g2⟩ := idx_get hin
      rw [layS, List.length_append] at hlen
      refine ⟨_, rfl, p, dx, _, rfl, h1, (lf_no _ _ _ _ (by decide +kernel) (by decide +kernel) (by decide +kernel) (by decide +kernel)), _, rfl, p, C, dx, _, _, rfl, h1, T.cl, T.nL, lf_letters _ _ _ _, ⟨la, _, rfl, h5⟩, _, rfl, _, _, _, _, rfl, rfl, hs, at1 _ _ _, la, L, x, _, rfl, rfl, h5.sq, g1, g2, _, rfl, _, _, rfl, rfl, _, rfl, (by show 3 ≤ sizeLine; decide), fun z hz => ?_⟩
      have sz := same_new hz (.tup [.str "letter", .int (-idx x L - 1), .int t])
      refine ⟨p, pl, fk, la, na, .ref z, .tuple [.str "letter", .int (-idx x L - 1), .int t], L, N, ps, m, rfl, (LayM.same ⟨dx, vs, kvs, h1, h2, h3, h4, h5, h6, h7, h8, h9, h10⟩ sz), .tup (SqT.of upd_same) (.cons (.str _) (.cons (.int _) (.cons (.int _) .nil))), ⟨trivial, trivial, trivial, trivial⟩, by simp at hlen; omega, fun H2 L2 t2 k2 => ?_⟩
      exact q H2 ⟨m, by rw [layS, List.length_append]; simp; omega, L2⟩ ((Tk.same sz).trans t2) ((hL.ko sz).trans k2)
    | cl x =>
      have hd0 := hd
      obtain ⟨a, xs, rfl, hs, ha, hl⟩ := len_ok hd
      cases ha with
      | cons h0 ha =>
      cases h0
      refine ⟨_, rfl, _, _, _, _, rfl, rfl, hs, at0 _ _, ?_⟩
      refine ⟨_, rfl, rfl, _, rfl, ?_⟩
      rw [dec_str]
      refine ifF (by decide +kernel) ?_
      refine ⟨_, rfl, rfl, _, rfl, ?_⟩
      rw [dec_str]
      refine ifF (by decide +kernel) ?_
      refine ⟨_, rfl, rfl, _, rfl, ?_⟩
      rw [dec_str]
      refine ifT (by decide +kernel) ?_
      cases ha with
      | cons hx ha =>
      cases hx
      have hin : x ∈ N := hok
      obtain ⟨g1, g2⟩ := idx_get hin
      rw [layS, List.length_append] at hlen
      refine ⟨_, rfl, p, dx, _, rfl, h1, (lf_no _ _ _ _ (by decide +kernel) (by decide +kernel) (by decide +kernel) (by decide +kernel)), _, rfl, p, C, dx, _, _, rfl, h1, T.cl, T.nN, lf_names _ _ _ _, .inl ⟨rfl, _, SqL.of h6⟩, _, rfl, _, _, _, _, rfl, rfl, hs, at1 _ _ _, na, _, .str x, N.findIdx (· == x), .str x, rfl, rfl, SqL.of h6, rfl, flat_strs _, by rw [List.getElem?_map, g1]; rfl, by rw [eqv_strs]; simp, fun m z hm hz => ?_, _, rfl, (by show 3 ≤ sizeLine; decide), fun z hz => ?_⟩
      · rw [List.getElem?_map] at hz
        cases e : N[m]? with
        | none => rw [e] at hz; cases hz
        | some y =>
          rw [e] at hz
          cases hz
          rw [eqv_strs]
          exact decide_eq_false fun z => g2 m hm (by rw [e, z])
      have sz := same_new hz (.tup [.str "call", .int (idx x N), .int t])
      refine ⟨p, pl, fk, la, na, .ref z, .tuple [.str "call", .int (idx x N), .int t], L, N, ps, m, rfl, (LayM.same ⟨dx, vs, kvs, h1, h2, h3, h4, h5, h6, h7, h8, h9, h10⟩ sz), .tup (SqT.of upd_same) (.cons (.str _) (.cons (.int _) (.cons (.int _) .nil))), ⟨trivial, trivial, trivial, trivial⟩, by simp at hlen; omega, fun H2 L2 t2 k2 => ?_⟩
      exact q H2 ⟨m, by rw [layS, List.length_append]; simp; omega, L2⟩ ((Tk.same sz).trans t2) ((hL.ko sz).trans k2)
    | ch bs =>
      have hd0 := hd
      obtain ⟨a, xs, rfl, hs, ha, hl⟩ := len_ok hd
      cases ha with
      | cons h0 ha =>
      cases h0
      refine ⟨_, rfl, _, _, _, _, rfl, rfl, hs, at0 _ _, ?_⟩
      refine ⟨_, rfl, rfl, _, rfl, ?_⟩
      rw [dec_str]
      refine ifF (by decide +kernel) ?_
      refine ⟨_, rfl, rfl, _, rfl, ?_⟩
      rw [dec_str]
      refine ifF (by decide +kernel) ?_
      refine ⟨_, rfl, rfl, _, rfl, ?_⟩
      rw [dec_str]
      refine ifF (by decide +kernel) ?_
      refine ⟨_, rfl, rfl, _, rfl, ?_⟩
      rw [dec_str]
      refine ifT (by decide +kernel) ?_
      cases ha with
      | @cons v1 _ _ _ hb ha =>
      cases ha
      obtain ⟨ra, rxs, rfl, hrs, hra, hrl⟩ := len_ok hb
      rw [dss_len] at hrl
      rw [layS, List.length_append] at hlen
      have hkk : kss bs < n := by rw [St.k] at hk; omega
      have hnn : nss bs ≤ 1000 := by rw [St.n] at hn; omega
      refine ⟨_, rfl, _, _, _, _, rfl, rfl, hs, at1 _ _ _, ra, rxs, rfl, hrs, fun Dd hDd => ?_⟩
      have nDo : ¬ Own H pl fk Dd := hL.new_own hDd
      have nDn : Dd ≠ na := fun z => by rw [z, h6] at hDd; cases hDd
      have nDf : fk ≠ Dd := fun z => by rw [← z, h8] at hDd; cases hDd
      refine lc_enumT (xs := rxs) (fun i H' => H' Dd = some (.lst ((layBs L N (leave L N (fs secs)) (bs.take i) t ps).1.map V.int)) ∧ Lay K C L N H' p pl fk la na (layBs L N (leave L N (fs secs)) (bs.take i) t ps).2 ∧ Tk H H' ∧ KO pl fk H H' ∧ ¬ Own H' pl fk Dd) ?_ ?_ ?_ ?_
      · exact ⟨upd_same, hL.same (same_new hDd _), Tk.new hDd _, KO.upd_fresh h8 hDd _, fun w => nDo ((own_upd nDf).mp w)⟩
      · rintro i H' _ ⟨_, _, tk, _⟩
        exact tk.sqt hrs
      · rintro i x H1 Tp hx ⟨hD1, L1, t1, k1, o1⟩ hTp
        obtain ⟨d, hdd, hdp⟩ := dps_get' hra hx
        obtain ⟨b, hb, rfl⟩ := dss_get hdd
        have hm := List.mem_of_getElem? hb
        have hkb := kss_mem hm
        have hnb := nss_mem hm
        have et := layBs_take (L := L) (N := N) (lv := leave L N (fs secs)) t ps hb
        have hle := layBs_le (L := L) (N := N) (lv := leave L N (fs secs)) bs (i + 1) t ps (grow_leave (fs secs))
        rw [et] at hle
        have sT := same_new hTp (.tup [.int (i : Nat), x])
        have kT := L1.ko sT
        have hDT := kT _ _ o1 hD1
        have L1T := L1.same sT
        have tT := t1.trans (Tk.same sT)
        obtain ⟨m1, hm1, dx1, vs1, kvs1, h11, _⟩ := id L1T
        obtain ⟨pb, epb, hpb⟩ := hpt.tk tT
        cases epb
        refine ⟨Tp, _, rfl, SqT.of upd_same, rfl, _, _, rfl, _, _, rfl, rfl, rfl, ?_⟩
        refine ⟨_, rfl, p, dx1, _, rfl, h11, (lf_no _ _ _ _ (by decide +kernel) (by decide +kernel) (by decide +kernel) (by decide +kernel)), _, rfl, _, rfl, _, rfl, _, rfl, pa, _, rfl, .inl (SqT.of hpb), _, rfl, ?_, fun w hw => ?_⟩
        · exact Nat.le_trans (show _ ≤ 801 by rw [List.length_append, List.length_map]; simp; omega) (by decide)
        have sw := same_new hw (.tup (is.map V.int ++ [.int (i : Nat)]))
        have tw := tT.trans (Tk.same sw)
        have hDw := (L1T.ko sw) _ _ hDT.2 hDT.1
        refine ⟨p, pl, fk, la, na, x, t, sv, .ref w, L, N, _, b, secs, is ++ [((i : Nat) : Int)], sec, rfl, L1T.same sw, tw.dp (.tuple (ds b)) (tup_ds b) hdp, hsv.tk tw, ⟨w, rfl, by rw [upd_same, List.map_append]; rfl⟩, by omega, (by rw [St.k] at hk12; omega), by omega, by omega, (by rw [List.length_append]; simp; omega), okss_iff.mp hok.2.2 b hm, hso, (by simp at hle hlen; omega), fun H2 L2 t2 k2 => ?_⟩
        have hD2 := k2 _ _ hDw.2 hDw.1
        refine ⟨_, hD2.1, Nat.lt_of_le_of_lt (show _ ≤ 6 by rw [List.length_map, layBs_len, List.length_take]; have := hok.2.1; omega) (by decide), ?_, ?_, ?_, ?_, ?_⟩
        · rw [et, List.map_append]
          exact upd_same
        · rw [et]
          exact L2.other hD2.1 hD2.2 nDn _
        · exact tw.trans (t2.trans (Tk.put hD2.1 _))
        · exact (k1.trans (kT.trans ((L1T.ko sw).trans k2))).fresh hDd nDf _
        · exact fun w => hD2.2 ((own_upd nDf).mp w)
      · rintro H1 ⟨hD1, L1, t1, k1, o1⟩
        rw [hrl, List.take_length] at hD1 L1
        obtain ⟨m1, hm1, dx1, vs1, kvs1, h11, _⟩ := id L1
        refine ⟨_, rfl, p, dx1, _, rfl, h11, (lf_no _ _ _ _ (by decide +kernel) (by decide +kernel) (by decide +kernel) (by decide +kernel)), _, rfl, Dd, _, rfl, .inl ⟨SqL.of hD1, fun z hz => ?_⟩⟩
        have s1 := same_new hz (.tup ((layBs L N (leave L N (fs secs)) bs t ps).1.map V.int))
        have tz := t1.trans (Tk.same s1)
        refine ⟨_, rfl, p, pl, fk, la, na, .ref z, .ref pa, (layBs L N (leave L N (fs secs)) bs t ps).1.map .int, is, L, N, _, rfl, L1.same s1, .tup (SqT.of upd_same) (dp_intsT _), tup_intsT _, hpt.tk tz, by simp at hlen; omega, fun H2 L2 t2 k2 => ?_⟩
        exact q H2 L2 (tz.trans t2) (k1.trans ((L1.ko s1).trans k2))
    | lp b =>
      have hd0 := hd
      obtain ⟨a, xs, rfl, hs, ha, hl⟩ := len_ok hd
      cases ha with
      | cons h0 ha =>
      cases h0
      refine ⟨_, rfl, _, _, _, _, rfl, rfl, hs, at0 _ _, ?_⟩
      refine ⟨_, rfl, rfl, _, rfl, ?_⟩
      rw [dec_str]
      refine ifF (by decide +kernel) ?_
      refine ⟨_, rfl, rfl, _, rfl, ?_⟩
      rw [dec_str]
      refine ifF (by decide +kernel) ?_
      refine ⟨_, rfl, rfl, _, rfl, ?_⟩
      rw [dec_str]
      refine ifF (by decide +kernel) ?_
      refine ⟨_, rfl, rfl, _, rfl, ?_⟩
      rw [dec_str]
      refine ifF (by decide +kernel) ?_
      refine ⟨_, rfl, rfl, _, rfl, ?_⟩
      rw [dec_str]
      refine ifT (by decide +kernel) ?_
      cases ha with
      | @cons v1 _ _ _ hb ha =>
      refine ⟨_, rfl, p, dx, _, rfl, h1, (lf_no _ _ _ _ (by decide +kernel) (by decide +kernel) (by decide +kernel) (by decide +kernel)), _, rfl, _, _, _, _, rfl, rfl, hs, at1 _ _ _, _, rfl, _, rfl, _, rfl, p, pl, fk, la, na, v1, t, sv, .ref pa, L, N, ps, b, secs, is, sec, rfl, hL, hb, hsv, hpt, (by rw [St.k] at hk; omega), (by rw [St.k] at hk12; omega), (by rw [St.n] at hn; omega), by omega, by omega, hok, hso, hlen, q⟩
    | rt =>
      have hd0 := hd
      obtain ⟨a, xs, rfl, hs, ha, hl⟩ := len_ok hd
      cases ha with
      | cons h0 ha =>
      cases h0
      refine ⟨_, rfl, _, _, _, _, rfl, rfl, hs, at0 _ _, ?_⟩
      refine ⟨_, rfl, rfl, _, rfl, ?_⟩
      rw [dec_str]
      refine ifF (by decide +kernel) ?_
      refine ⟨_, rfl, rfl, _, rfl, ?_⟩
      rw [dec_str]
      refine ifF (by decide +kernel) ?_
      refine ⟨_, rfl, rfl, _, rfl, ?_⟩
      rw [dec_str]
      refine ifF (by decide +kernel) ?_
      refine ⟨_, rfl, rfl, _, rfl, ?_⟩
      rw [dec_str]
      refine ifF (by decide +kernel) ?_
      refine ⟨_, rfl, rfl, _, rfl, ?_⟩
      rw [dec_str]
      refine ifF (by decide +kernel) ?_
      refine ⟨_, rfl, rfl, _, rfl, ?_⟩
      rw [dec_str]
      refine ifT (by decide +kernel) ?_
      rcases hso with h | ⟨h, _⟩
      · have h2 : sec = false := hok
        rw [h] at h2
        cases h2
      · cases h
    | en b c =>
      have hd0 := hd
      obtain ⟨a, xs, rfl, hs, ha, hl⟩ := len_ok hd
      cases ha with
      | cons h0 ha =>
      cases h0
      refine ⟨_, rfl, _, _, _, _, rfl, rfl, hs, at0 _ _, ?_⟩
      refine ⟨_, rfl, rfl, _, rfl, ?_⟩
      rw [dec_str]
      refine ifF (by decide +kernel) ?_
      refine ⟨_, rfl, rfl, _, rfl, ?_⟩
      rw [dec_str]
      refine ifF (by decide +kernel) ?_
      refine ⟨_, rfl, rfl, _, rfl, ?_⟩
      rw [dec_str]
      refine ifF (by decide +kernel) ?_
      refine ⟨_, rfl, rfl, _, rfl, ?_⟩
      rw [dec_str]
      refine ifF (by decide +kernel) ?_
      refine ⟨_, rfl, rfl, _, rfl, ?_⟩
      rw [dec_str]
      refine ifF (by decide +kernel) ?_
      refine ⟨_, rfl, rfl, _, rfl, ?_⟩
      rw [dec_str]
      refine ifF (by decide +kernel) ?_
      cases ha with
      | @cons v1 _ _ _ hb ha =>
      cases ha with
      | @cons v2 _ _ _ hc ha =>
      cases ha
      have e1 : layS L N (leave L N (fs secs)) (.en b c) t ps = layB L N (leave L N (fs (secs ++ [(c, is ++ [1])]))) b (layB L N (leave L N []) c t ps).1 (layB L N (leave L N []) c t ps).2 := by rw [fs_snoc, leave_app, layS]; rfl
      rw [e1] at hlen q
      have hg := grow_B L N b (layB L N (leave L N []) c t ps).1 (layB L N (leave L N []) c t ps).2 (grow_leave (L := L) (N := N) (fs (secs ++ [(c, is ++ [1])])))
      have hkb : ks b < n ∧ ks c < n := by rw [St.k] at hk; omega
      have hkb2 : ks b ≤ 12 ∧ ks c ≤ 12 := by rw [St.k] at hk12; omega
      have hnb : ns b ≤ 1000 ∧ ns c ≤ 1000 := by rw [St.n] at hn; omega
      refine ⟨_, rfl, p, dx, _, rfl, h1, (lf_no _ _ _ _ (by decide +kernel) (by decide +kernel) (by decide +kernel) (by decide +kernel)), _, rfl, _, _, _, _, rfl, rfl, hs, at2 _ _ _ _, _, rfl, (by show 0 ≤ sizeLine; decide), fun z hz => ?_⟩
      have sz := same_new hz (.tup [])
      have hpz := sz _ _ hpa
      refine ⟨_, rfl, pa, _, rfl, .inl (SqT.of hpz), ?_, fun w hw => ?_⟩
      · exact Nat.le_trans (show _ ≤ 801 by rw [List.length_append, List.length_map]; simp; omega) (by decide)
      have sw := sz.trans (same_new hw (.tup (is.map V.int ++ [.int 1])))
      have nzw : z ≠ w := fun q => by rw [← q, upd_same] at hw; cases hw
      refine ⟨p, pl, fk, la, na, v2, t, .ref z, .ref w, L, N, ps, c, [], is ++ [1], true, rfl, hL.same sw, dp_ext (same_ext sw) _ hc, ⟨z, [], rfl, by rw [upd_ne nzw]; exact upd_same, .nil⟩, ⟨w, rfl, by rw [upd_same, List.map_append]; rfl⟩, hkb.2, hkb2.2, hnb.2, by simp; omega, (by rw [List.length_append]; simp; omega), hok.2, .inl rfl, by show (layB L N (leave L N []) _ _ _).2.length ≤ 300; omega, fun H1 L1 t1 k1 => ?_⟩
      have t01 : Tk H H1 := (Tk.same sw).trans t1
      have k01 : KO pl fk H H1 := (hL.ko sw).trans k1
      obtain ⟨sa, sxs, rfl, hss, hsp⟩ := hsv.tk t01
      have hsl2 := Paired.length hsp
      have hc1 := t01.dp (.tuple (ds c)) (tup_ds c) hc
      have hpa1 := (t01 _ _).1 hpa
      obtain ⟨m1, hm1, dx1, vs1, kvs1, h11, _⟩ := id L1
      refine ⟨_, rfl, p, dx1, _, rfl, h11, (lf_no _ _ _ _ (by decide +kernel) (by decide +kernel) (by decide +kernel) (by decide +kernel)), _, rfl, _, _, _, _, rfl, rfl, t01.sqt hs, at1 _ _ _, _, rfl, _, rfl, sa, sxs, rfl, .inl (SqT.of hss), _, rfl, _, _, _, _, rfl, rfl, t01.sqt hs, at2 _ _ _ _, _, rfl, pa, _, rfl, .inl (SqT.of hpa1), ?_, fun w1 hw1 => ?_⟩
      · exact Nat.le_trans (show _ ≤ 801 by rw [List.length_append, List.length_map]; simp; omega) (by decide)
      have s1 := same_new hw1 (.tup (is.map V.int ++ [.int 1]))
      refine ⟨(by show 2 ≤ sizeLine; decide), fun w2 hw2 => ?_⟩
      have s2 := s1.trans (same_new hw2 (.tup [v2, .ref w1]))
      have n12 : w1 ≠ w2 := fun q => by rw [← q, upd_same] at hw2; cases hw2
      refine ⟨Nat.le_trans (show (sxs ++ [V.ref w2]).length ≤ 1001 by rw [List.length_append]; simp; omega) (by decide), fun w3 hw3 => ?_⟩
      have s3 := s2.trans (same_new hw3 (.tup (sxs ++ [.ref w2])))
      have n13 : w1 ≠ w3 := fun q => by rw [← q, upd_ne n12, upd_same] at hw3; cases hw3
      have n23 : w2 ≠ w3 := fun q => by rw [← q, upd_same] at hw3; cases hw3
      have hpa3 := s3 _ _ hpa1
      refine ⟨_, rfl, pa, _, rfl, .inl (SqT.of hpa3), ?_, fun w4 hw4 => ?_⟩
      · exact Nat.le_trans (show _ ≤ 801 by rw [List.length_append, List.length_map]; simp; omega) (by decide)
      have s34 := same_new hw4 (.tup (is.map V.int ++ [.int 0]))
      have s4 := s3.trans s34
      have t4 := t01.trans (Tk.same s4)
      have hv : SecV K (upd (upd (upd (upd H1 w1 (.tup (is.map V.int ++ [.int 1]))) w2 (.tup [v2, .ref w1])) w3 (.tup (sxs ++ [.ref w2]))) w4 (.tup (is.map V.int ++ [.int 0]))) (.ref w3) (secs ++ [(c, is ++ [1])]) := by
        refine ⟨w3, sxs ++ [.ref w2], rfl, s34 _ _ upd_same, Paired.snoc (Paired.mapP hsp fun _ _ z => Sec1.tk (Tk.same s4) z) ⟨w2, v2, .ref w1, rfl, s34 _ _ (by rw [upd_ne n23]; exact upd_same), dp_ext (same_ext s4) _ hc1, w1, rfl, s34 _ _ ?_⟩⟩
        rw [upd_ne n13, upd_ne n12, upd_same, List.map_append]
        rfl
      refine ⟨p, pl, fk, la, na, v1, _, .ref w3, .ref w4, L, N, _, b, secs ++ [(c, is ++ [1])], is ++ [0], sec, rfl, L1.same s4, t4.dp (.tuple (ds b)) (tup_ds b) hb, hv, ⟨w4, rfl, by rw [upd_same, List.map_append]; rfl⟩, hkb.1, hkb2.1, hnb.1, (by rw [List.length_append]; simp; omega), (by rw [List.length_append]; simp; omega), hok.1, hso.snoc hok.2 hkb2.2 hnb.2 (by rw [List.length_append]; simp; omega), hlen, fun H2 L2 t2 k2 => ?_⟩
      exact q H2 L2 (t4.trans t2) (k01.trans ((L1.ko s4).trans k2))
theorem okm_statement1 {n e : Nat} {C f : Addr} {fd : FuncData} (T : Txt K mg C) (me : Meth K C "statement" f) (F : C8.Fun K "statement" "Layout.statement" (inClass (topS 38) 4) f fd) (b : Binds K fd ["self", "statement", "told", "seconds", "path"] []) (B : Bl K mg) (c_make : C8.Met P w K mg base 1 C "make" (spMake K C) []) (c_make_fork : C8.Met P w K mg base 2 C "make_fork" (spFork K C) []) (c_lay : C8.Met P w K mg base e C "lay" (spBd K C true n) []) (c_loop : C8.Met P w K mg base e C "loop" (spLp K C true n) []) (he : 2 ≤ e) (c_leave : C8.Met P w K mg base e C "leave" (spLv K C) []) : C8.Met P w K mg base (e + 1) C "statement" (spSt K C true (n + 1)) [] := by
  refine C8.met0 T.cl me F b sc_statement ?len ?body
  case len => rintro vs H Q E ⟨p, pl, fk, la, na, bv, t, sv, wv, L, N, ps, st, secs, is, sec, rfl, _⟩; rfl
  case body =>
    rintro cdv A outer s H vs Q E hr ⟨p, pl, fk, la, na, bv, t, sv, wv, L, N, ps, st, secs, is, sec, rfl, hL, hd, hsv, hpt, hk, hk12, hn, hsl, hil, hok, hso, hlen, q⟩
    refine ⟨_, (pss_cons (ps_set (i := 5) sc_statement.nd rfl (Or.inl rfl) (pe_ix ix_tup (pv 1) pe_int (fun _ _ => rfl)))
    (pss_cons (ps_if (pt_cmpR op_eq (pv 5) pe_str (nomark _)) (pss_one (ps_ret (C8.pe_mt c_make hr (by omega) (pv 0) (pa_cons (pe_tup (pa_cons pe_str (pa_cons (pe_op op_add (pe_tupIx mt_tup_index (pe_fld (pv 0) rfl) (pa_cons (pe_ix ix_tup (pv 1) pe_int (fun _ _ => rfl)) pa_nil)) pe_int) (pa_cons (pv 2) pa_nil)))) pa_nil)))) pss_nil)
    (pss_cons (ps_if (pt_cmpR op_eq (pv 5) pe_str (nomark _)) (pss_one (ps_ret (C8.pe_mt c_make hr (by omega) (pv 0) (pa_cons (pe_tup (pa_cons pe_str (pa_cons (pe_op op_sub (pe_un un_neg (pe_tupIx mt_tup_index (pe_fld (pv 0) rfl) (pa_cons (pe_ix ix_tup (pv 1) pe_int (fun _ _ => rfl)) pa_nil))) pe_int) (pa_cons (pv 2) pa_nil)))) pa_nil)))) pss_nil)
    (pss_cons (ps_if (pt_cmpR op_eq (pv 5) pe_str (nomark _)) (pss_one (ps_ret (C8.pe_mt c_make hr (by omega) (pv 0) (pa_cons (pe_tup (pa_cons pe_str (pa_cons (pe_bm PySem.F.plainAttrs_list PySem.F.slot_list_index PySem.F.type_list_index mt_index (pe_fld (pv 0) rfl) (pa_cons (pe_ix ix_tup (pv 1) pe_int (fun _ _ => rfl)) pa_nil)) (pa_cons (pv 2) pa_nil)))) pa_nil)))) pss_nil)
    (pss_cons (ps_if (pt_cmpR op_eq (pv 5) pe_str (nomark _)) (pss_cons (ps_setLc (i := 6) (te := tMeth C "lay" (spBd K C true n) [] C8.E0 (tVar 0) (tCons (tVar 8) (tCons (tVar 2) (tCons (tVar 3) (tCons (tTup (StX.tStar K (tVar 4) (tCons (tVar 7) tNil))) tNil)))))  (own := [("at", 7), ("body", 8)]) (g := gTup K 2 (gCons (gName 7) (gCons (gName 8) gNil))) (by rfl) sc_statement.nd rfl rfl (sw_true rfl rfl rfl (by decide +kernel)) (UG.pi_enumT rfl B.enumerate (pa_cons (pe_ix ix_tup (pv 1) pe_int (fun _ _ => rfl)) pa_nil)) (blkOk_by (own := [("at", 7), ("body", 8)]) (N := ["self", "statement", "told", "seconds", "path", "word", "nexts", "at", "body", "behind"]) (sc := (C8.fnScope (inClass (topS 38) 4))) (by decide +kernel)) (fun _ _ _ _ _ => by exact pg_tup rfl (pgs_cons (pg_name (i := 7) sc_statement.nd rfl (Or.inl rfl)) (pgs_cons (pg_name (i := 8) sc_statement.nd rfl (Or.inl rfl)) pgs_nil))) (fun _ _ _ _ _ => pts_nil) (fun _ _ _ _ _ => by exact (C8.pe_mt c_lay hr (by omega) (pv 0) (pa_cons (pv 8) (pa_cons (pv 2) (pa_cons (pv 3) (pa_cons (pe_tup (StX.pa_star (pv 4) (pa_cons (pv 7) pa_nil))) pa_nil)))))))
    (pss_one (ps_ret (C8.pe_mt c_make_fork hr (by omega) (pv 0) (pa_cons (pe_callTy call_tuple_of rfl B.tuple (by decide +kernel) (pa_cons (pv 6) pa_nil)) (pa_cons (pv 4) pa_nil)))))) pss_nil)
    (pss_cons (ps_if (pt_cmpR op_eq (pv 5) pe_str (nomark _)) (pss_one (ps_ret (C8.pe_mt c_loop hr (by omega) (pv 0) (pa_cons (pe_ix ix_tup (pv 1) pe_int (fun _ _ => rfl)) (pa_cons (pv 2) (pa_cons (pv 3) (pa_cons (pv 4) pa_nil))))))) pss_nil)
    (pss_cons (ps_if (pt_cmpR op_eq (pv 5) pe_str (nomark _)) (pss_one (ps_ret (C8.pe_mt c_leave hr (by omega) (pv 0) (pa_cons (pv 3) pa_nil)))) pss_nil)
    (pss_cons (ps_set (i := 9) sc_statement.nd rfl (Or.inl rfl) (C8.pe_mt c_lay hr (by omega) (pv 0) (pa_cons (pe_ix ix_tup (pv 1) pe_int (fun _ _ => rfl)) (pa_cons (pv 2) (pa_cons (pe_tup pa_nil) (pa_cons (pe_tup (StX.pa_star (pv 4) (pa_cons pe_int pa_nil))) pa_nil))))))
    (pss_one (ps_ret (C8.pe_mt c_lay hr (by omega) (pv 0) (pa_cons (pe_ix ix_tup (pv 1) pe_int (fun _ _ => rfl)) (pa_cons (pv 9) (pa_cons (pe_tup (StX.pa_star (pv 3) (pa_cons (pe_tup (pa_cons (pe_ix ix_tup (pv 1) pe_int (fun _ _ => rfl)) (pa_cons (pe_tup (StX.pa_star (pv 4) (pa_cons pe_int pa_nil))) pa_nil))) pa_nil))) (pa_cons (pe_tup (StX.pa_star (pv 4) (pa_cons pe_int pa_nil))) pa_nil))))))))))))))), ?_⟩
    have hlim : lim true ≤ 800 := by decide
    obtain ⟨m, hmm, dx, vs, kvs, h1, h2, h3, h4, h5, h6, h7, h8, h9, h10⟩ := id hL
    obtain ⟨pa, rfl, hpa⟩ := id hpt
    cases st with
    | dd x =>
      have hd0 := hd
      obtain ⟨a, xs, rfl, hs, ha, hl⟩ := len_ok hd
      cases ha with
      | cons h0 ha =>
      cases h0
      refine ⟨_, rfl, _, _, _, _, rfl, rfl, hs, at0 _ _, ?_⟩
      refine ⟨_, rfl, rfl, _, rfl, ?_⟩
      rw [dec_str]
      refine ifT (by decide +kernel) ?_
      cases ha with
      | cons hx ha =>
      cases hx
      have hin : x ∈ L := hok
      obtain ⟨g1, g2⟩ := idx_get hin
      rw [layS, List.length_append] at hlen
      refine ⟨_, rfl, p, dx, _, rfl, h1, (lf_no _ _ _ _ (by decide +kernel) (by decide +kernel) (by decide +kernel) (by decide +kernel)), _, rfl, p, C, dx, _, _, rfl, h1, T.cl, T.nL, lf_letters _ _ _ _, ⟨la, _, rfl, h5⟩, _, rfl, _, _, _, _, rfl, rfl, hs, at1 _ _ _, la, L, x, _, rfl, rfl, h5.sq, g1, g2, _, _, rfl, rfl, _, rfl, (by show 3 ≤ sizeLine; decide), fun z hz => ?_⟩
      have sz := same_new hz (.tup [.str "letter", .int (idx x L + 1), .int t])
      refine ⟨p, pl, fk, la, na, .ref z, .tuple [.str "letter", .int (idx x L + 1), .int t], L, N, ps, m, rfl, (LayM.same ⟨dx, vs, kvs, h1, h2, h3, h4, h5, h6, h7, h8, h9, h10⟩ sz), .tup (SqT.of upd_same) (.cons (.str _) (.cons (.int _) (.cons (.int _) .nil))), ⟨trivial, trivial, trivial, trivial⟩, by simp at hlen; omega, fun H2 L2 t2 k2 => ?_⟩
      exact q H2 ⟨m, by rw [layS, List.length_append]; simp; omega, L2⟩ ((Tk.same sz).trans t2) ((hL.ko sz).trans k2)
    | ud x =>
      have hd0 := hd
      obtain ⟨a, xs, rfl, hs, ha, hl⟩ := len_ok hd
      cases ha with
      | cons h0 ha =>
      cases h0
      refine ⟨_, rfl, _, _, _, _, rfl, rfl, hs, at0 _ _, ?_⟩
      refine ⟨_, rfl, rfl, _, rfl, ?_⟩
      rw [dec_str]
      refine ifF (by decide +kernel) ?_
      refine ⟨_, rfl, rfl, _, rfl, ?_⟩
      rw [dec_str]
      refine ifT (by decide +kernel) ?_
      cases ha with
      | cons hx ha =>
      cases hx
      have hin : x ∈ L := hok
      obtain ⟨g1, g2⟩ := idx_get hin
      rw [layS, List.length_append] at hlen
      refine ⟨_, rfl, p, dx, _, rfl, h1, (lf_no _ _ _ _ (by decide +kernel) (by decide +kernel) (by decide +kernel) (by decide +kernel)), _, rfl, p, C, dx, _, _, rfl, h1, T.cl, T.nL, lf_letters _ _ _ _, ⟨la, _, rfl, h5⟩, _, rfl, _, _, _, _, rfl, rfl, hs, at1 _ _ _, la, L, x, _, rfl, rfl, h5.sq, g1, g2, _, rfl, _, _, rfl, rfl, _, rfl, (by show 3 ≤ sizeLine; decide), fun z hz => ?_⟩
      have sz := same_new hz (.tup [.str "letter", .int (-idx x L - 1), .int t])
      refine ⟨p, pl, fk, la, na, .ref z, .tuple [.str "letter", .int (-idx x L - 1), .int t], L, N, ps, m, rfl, (LayM.same ⟨dx, vs, kvs, h1, h2, h3, h4, h5, h6, h7, h8, h9, h10⟩ sz), .tup (SqT.of upd_same) (.cons (.str _) (.cons (.int _) (.cons (.int _) .nil))), ⟨trivial, trivial, trivial, trivial⟩, by simp at hlen; omega, fun H2 L2 t2 k2 => ?_⟩
      exact q H2 ⟨m, by rw [layS, List.length_append]; simp; omega, L2⟩ ((Tk.same sz).trans t2) ((hL.ko sz).trans k2)
    | cl x =>
      have hd0 := hd
      obtain ⟨a, xs, rfl, hs, ha, hl⟩ := len_ok hd
      cases ha with
      | cons h0 ha =>
      cases h0
      refine ⟨_, rfl, _, _, _, _, rfl, rfl, hs, at0 _ _, ?_⟩
      refine ⟨_, rfl, rfl, _, rfl, ?_⟩
      rw [dec_str]
      refine ifF (by decide +kernel) ?_
      refine ⟨_, rfl, rfl, _, rfl, ?_⟩
      rw [dec_str]
      refine ifF (by decide +kernel) ?_
      refine ⟨_, rfl, rfl, _, rfl, ?_⟩
      rw [dec_str]
      refine ifT (by decide +kernel) ?_
      cases ha with
      | cons hx ha =>
      cases hx
      have hin : x ∈ N := hok
      obtain ⟨g1, g2⟩ := idx_get hin
      rw [layS, List.length_append] at hlen
      refine ⟨_, rfl, p, dx, _, rfl, h1, (lf_no _ _ _ _ (by decide +kernel) (by decide +kernel) (by decide +kernel) (by decide +kernel)), _, rfl, p, C, dx, _, _, rfl, h1, T.cl, T.nN, lf_names _ _ _ _, .inl ⟨rfl, _, SqL.of h6⟩, _, rfl, _, _, _, _, rfl, rfl, hs, at1 _ _ _, na, _, .str x, N.findIdx (· == x), .str x, rfl, rfl, SqL.of h6, rfl, flat_strs _, by rw [List.getElem?_map, g1]; rfl, by rw [eqv_strs]; simp, fun m z hm hz => ?_, _, rfl, (by show 3 ≤ sizeLine; decide), fun z hz => ?_⟩
      · rw [List.getElem?_map] at hz
        cases e : N[m]? with
        | none => rw [e] at hz; cases hz
        | some y =>
          rw [e] at hz
          cases hz
          rw [eqv_strs]
          exact decide_eq_false fun z => g2 m hm (by rw [e, z])
      have sz := same_new hz (.tup [.str "call", .int (idx x N), .int t])
      refine ⟨p, pl, fk, la, na, .ref z, .tuple [.str "call", .int (idx x N), .int t], L, N, ps, m, rfl, (LayM.same ⟨dx, vs, kvs, h1, h2, h3, h4, h5, h6, h7, h8, h9, h10⟩ sz), .tup (SqT.of upd_same) (.cons (.str _) (.cons (.int _) (.cons (.int _) .nil))), ⟨trivial, trivial, trivial, trivial⟩, by simp at hlen; omega, fun H2 L2 t2 k2 => ?_⟩
      exact q H2 ⟨m, by rw [layS, List.length_append]; simp; omega, L2⟩ ((Tk.same sz).trans t2) ((hL.ko sz).trans k2)
    | ch bs =>
      have hd0 := hd
      obtain ⟨a, xs, rfl, hs, ha, hl⟩ := len_ok hd
      cases ha with
      | cons h0 ha =>
      cases h0
      refine ⟨_, rfl, _, _, _, _, rfl, rfl, hs, at0 _ _, ?_⟩
      refine ⟨_, rfl, rfl, _, rfl, ?_⟩
      rw [dec_str]
      refine ifF (by decide +kernel) ?_
      refine ⟨_, rfl, rfl, _, rfl, ?_⟩
      rw [dec_str]
      refine ifF (by decide +kernel) ?_
      refine ⟨_, rfl, rfl, _, rfl, ?_⟩
      rw [dec_str]
      refine ifF (by decide +kernel) ?_
      refine ⟨_, rfl, rfl, _, rfl, ?_⟩
      rw [dec_str]
      refine ifT (by decide +kernel) ?_
      cases ha with
      | @cons v1 _ _ _ hb ha =>
      cases ha
      obtain ⟨ra, rxs, rfl, hrs, hra, hrl⟩ := len_ok hb
      rw [dss_len] at hrl
      rw [layS, List.length_append] at hlen
      have hkk : kss bs < n := by rw [St.k] at hk; omega
      have hnn : nss bs ≤ 1000 := by rw [St.n] at hn; omega
      refine ⟨_, rfl, _, _, _, _, rfl, rfl, hs, at1 _ _ _, ra, rxs, rfl, hrs, fun Dd hDd => ?_⟩
      have nDo : ¬ Own H pl fk Dd := hL.new_own hDd
      have nDn : Dd ≠ na := fun z => by rw [z, h6] at hDd; cases hDd
      have nDf : fk ≠ Dd := fun z => by rw [← z, h8] at hDd; cases hDd
      refine lc_enumT (xs := rxs) (fun i H' => H' Dd = some (.lst ((layBs L N (leave L N (fs secs)) (bs.take i) t ps).1.map V.int)) ∧ Lay K C L N H' p pl fk la na (layBs L N (leave L N (fs secs)) (bs.take i) t ps).2 ∧ Tk H H' ∧ KO pl fk H H' ∧ ¬ Own H' pl fk Dd) ?_ ?_ ?_ ?_
      · exact ⟨upd_same, hL.same (same_new hDd _), Tk.new hDd _, KO.upd_fresh h8 hDd _, fun w => nDo ((own_upd nDf).mp w)⟩
      · rintro i H' _ ⟨_, _, tk, _⟩
        exact tk.sqt hrs
      · rintro i x H1 Tp hx ⟨hD1, L1, t1, k1, o1⟩ hTp
        obtain ⟨d, hdd, hdp⟩ := dps_get' hra hx
        obtain ⟨b, hb, rfl⟩ := dss_get hdd
        have hm := List.mem_of_getElem? hb
        have hkb := kss_mem hm
        have hnb := nss_mem hm
        have et := layBs_take (L := L) (N := N) (lv := leave L N (fs secs)) t ps hb
        have hle := layBs_le (L := L) (N := N) (lv := leave L N (fs secs)) bs (i + 1) t ps (grow_leave (fs secs))
        rw [et] at hle
        have sT := same_new hTp (.tup [.int (i : Nat), x])
        have kT := L1.ko sT
        have hDT := kT _ _ o1 hD1
        have L1T := L1.same sT
        have tT := t1.trans (Tk.same sT)
        obtain ⟨m1, hm1, dx1, vs1, kvs1, h11, _⟩ := id L1T
        obtain ⟨pb, epb, hpb⟩ := hpt.tk tT
        cases epb
        refine ⟨Tp, _, rfl, SqT.of upd_same, rfl, _, _, rfl, _, _, rfl, rfl, rfl, ?_⟩
        refine ⟨_, rfl, p, dx1, _, rfl, h11, (lf_no _ _ _ _ (by decide +kernel) (by decide +kernel) (by decide +kernel) (by decide +kernel)), _, rfl, _, rfl, _, rfl, _, rfl, pa, _, rfl, .inl (SqT.of hpb), _, rfl, ?_, fun w hw => ?_⟩
        · exact Nat.le_trans (show _ ≤ 801 by rw [List.length_append, List.length_map]; simp; omega) (by decide)
        have sw := same_new hw (.tup (is.map V.int ++ [.int (i : Nat)]))
        have tw := tT.trans (Tk.same sw)
        have hDw := (L1T.ko sw) _ _ hDT.2 hDT.1
        refine ⟨p, pl, fk, la, na, x, t, sv, .ref w, L, N, _, b, secs, is ++ [((i : Nat) : Int)], sec, rfl, L1T.same sw, tw.dp (.tuple (ds b)) (tup_ds b) hdp, hsv.tk tw, ⟨w, rfl, by rw [upd_same, List.map_append]; rfl⟩, by omega, (by rw [St.k] at hk12; omega), by omega, by omega, (by rw [List.length_append]; simp; omega), okss_iff.mp hok.2.2 b hm, hso, (by simp at hle hlen; omega), fun H2 L2 t2 k2 => ?_⟩
        have hD2 := k2 _ _ hDw.2 hDw.1
        refine ⟨_, hD2.1, Nat.lt_of_le_of_lt (show _ ≤ 6 by rw [List.length_map, layBs_len, List.length_take]; have := hok.2.1; omega) (by decide), ?_, ?_, ?_, ?_, ?_⟩
        · rw [et, List.map_append]
          exact upd_same
        · rw [et]
          exact L2.other hD2.1 hD2.2 nDn _
        · exact tw.trans (t2.trans (Tk.put hD2.1 _))
        · exact (k1.trans (kT.trans ((L1T.ko sw).trans k2))).fresh hDd nDf _
        · exact fun w => hD2.2 ((own_upd nDf).mp w)
      · rintro H1 ⟨hD1, L1, t1, k1, o1⟩
        rw [hrl, List.take_length] at hD1 L1
        obtain ⟨m1, hm1, dx1, vs1, kvs1, h11, _⟩ := id L1
        refine ⟨_, rfl, p, dx1, _, rfl, h11, (lf_no _ _ _ _ (by decide +kernel) (by decide +kernel) (by decide +kernel) (by decide +kernel)), _, rfl, Dd, _, rfl, .inl ⟨SqL.of hD1, fun z hz => ?_⟩⟩
        have s1 := same_new hz (.tup ((layBs L N (leave L N (fs secs)) bs t ps).1.map V.int))
        have tz := t1.trans (Tk.same s1)
        refine ⟨_, rfl, p, pl, fk, la, na, .ref z, .ref pa, (layBs L N (leave L N (fs secs)) bs t ps).1.map .int, is, L, N, _, rfl, L1.same s1, .tup (SqT.of upd_same) (dp_intsT _), tup_intsT _, hpt.tk tz, by simp at hlen; omega, fun H2 L2 t2 k2 => ?_⟩
        exact q H2 L2 (tz.trans t2) (k1.trans ((L1.ko s1).trans k2))
    | lp b =>
      have hd0 := hd
      obtain ⟨a, xs, rfl, hs, ha, hl⟩ := len_ok hd
      cases ha with
      | cons h0 ha =>
      cases h0
      refine ⟨_, rfl, _, _, _, _, rfl, rfl, hs, at0 _ _, ?_⟩
      refine ⟨_, rfl, rfl, _, rfl, ?_⟩
      rw [dec_str]
      refine ifF (by decide +kernel) ?_
      refine ⟨_, rfl, rfl, _, rfl, ?_⟩
      rw [dec_str]
      refine ifF (by decide +kernel) ?_
      refine ⟨_, rfl, rfl, _, rfl, ?_⟩
      rw [dec_str]
      refine ifF (by decide +kernel) ?_
      refine ⟨_, rfl, rfl, _, rfl, ?_⟩
      rw [dec_str]
      refine ifF (by decide +kernel) ?_
      refine ⟨_, rfl, rfl, _, rfl, ?_⟩
      rw [dec_str]
      refine ifT (by decide +kernel) ?_
      cases ha with
      | @cons v1 _ _ _ hb ha =>
      refine ⟨_, rfl, p, dx, _, rfl, h1, (lf_no _ _ _ _ (by decide +kernel) (by decide +kernel) (by decide +kernel) (by decide +kernel)), _, rfl, _, _, _, _, rfl, rfl, hs, at1 _ _ _, _, rfl, _, rfl, _, rfl, p, pl, fk, la, na, v1, t, sv, .ref pa, L, N, ps, b, secs, is, sec, rfl, hL, hb, hsv, hpt, (by rw [St.k] at hk; omega), (by rw [St.k] at hk12; omega), (by rw [St.n] at hn; omega), by omega, by omega, hok, hso, hlen, q⟩
    | rt =>
      have hd0 := hd
      obtain ⟨a, xs, rfl, hs, ha, hl⟩ := len_ok hd
      cases ha with
      | cons h0 ha =>
      cases h0
      refine ⟨_, rfl, _, _, _, _, rfl, rfl, hs, at0 _ _, ?_⟩
      refine ⟨_, rfl, rfl, _, rfl, ?_⟩
      rw [dec_str]
      refine ifF (by decide +kernel) ?_
      refine ⟨_, rfl, rfl, _, rfl, ?_⟩
      rw [dec_str]
      refine ifF (by decide +kernel) ?_
      refine ⟨_, rfl, rfl, _, rfl, ?_⟩
      rw [dec_str]
      refine ifF (by decide +kernel) ?_
      refine ⟨_, rfl, rfl, _, rfl, ?_⟩
      rw [dec_str]
      refine ifF (by decide +kernel) ?_
      refine ⟨_, rfl, rfl, _, rfl, ?_⟩
      rw [dec_str]
      refine ifF (by decide +kernel) ?_
      refine ⟨_, rfl, rfl, _, rfl, ?_⟩
      rw [dec_str]
      refine ifT (by decide +kernel) ?_
      have hsec : sec = false := hok
      rcases hso with h | ⟨_, h⟩
      · rw [h] at hsec; cases hsec
      · exact ⟨_, rfl, p, dx, _, rfl, h1, (lf_no _ _ _ _ (by decide +kernel) (by decide +kernel) (by decide +kernel) (by decide +kernel)), _, rfl, p, pl, fk, la, na, sv, L, N, ps, secs, rfl, hL, hsv, h, hlen, q⟩
    | en b c =>
      have hd0 := hd
      obtain ⟨a, xs, rfl, hs, ha, hl⟩ := len_ok hd
      cases ha with
      | cons h0 ha =>
      cases h0
      refine ⟨_, rfl, _, _, _, _, rfl, rfl, hs, at0 _ _, ?_⟩
      refine ⟨_, rfl, rfl, _, rfl, ?_⟩
      rw [dec_str]
      refine ifF (by decide +kernel) ?_
      refine ⟨_, rfl, rfl, _, rfl, ?_⟩
      rw [dec_str]
      refine ifF (by decide +kernel) ?_
      refine ⟨_, rfl, rfl, _, rfl, ?_⟩
      rw [dec_str]
      refine ifF (by decide +kernel) ?_
      refine ⟨_, rfl, rfl, _, rfl, ?_⟩
      rw [dec_str]
      refine ifF (by decide +kernel) ?_
      refine ⟨_, rfl, rfl, _, rfl, ?_⟩
      rw [dec_str]
      refine ifF (by decide +kernel) ?_
      refine ⟨_, rfl, rfl, _, rfl, ?_⟩
      rw [dec_str]
      refine ifF (by decide +kernel) ?_
      cases ha with
      | @cons v1 _ _ _ hb ha =>
      cases ha with
      | @cons v2 _ _ _ hc ha =>
      cases ha
      have e1 : layS L N (leave L N (fs secs)) (.en b c) t ps = layB L N (leave L N (fs (secs ++ [(c, is ++ [1])]))) b (layB L N (leave L N []) c t ps).1 (layB L N (leave L N []) c t ps).2 := by rw [fs_snoc, leave_app, layS]; rfl
      rw [e1] at hlen q
      have hg := grow_B L N b (layB L N (leave L N []) c t ps).1 (layB L N (leave L N []) c t ps).2 (grow_leave (L := L) (N := N) (fs (secs ++ [(c, is ++ [1])])))
      have hkb : ks b < n ∧ ks c < n := by rw [St.k] at hk; omega
      have hkb2 : ks b ≤ 12 ∧ ks c ≤ 12 := by rw [St.k] at hk12; omega
      have hnb : ns b ≤ 1000 ∧ ns c ≤ 1000 := by rw [St.n] at hn; omega
      refine ⟨_, rfl, p, dx, _, rfl, h1, (lf_no _ _ _ _ (by decide +kernel) (by decide +kernel) (by decide +kernel) (by decide +kernel)), _, rfl, _, _, _, _, rfl, rfl, hs, at2 _ _ _ _, _, rfl, (by show 0 ≤ sizeLine; decide), fun z hz => ?_⟩
      have sz := same_new hz (.tup [])
      have hpz := sz _ _ hpa
      refine ⟨_, rfl, pa, _, rfl, .inl (SqT.of hpz), ?_, fun w hw => ?_⟩
      · exact Nat.le_trans (show _ ≤ 801 by rw [List.length_append, List.length_map]; simp; omega) (by decide)
      have sw := sz.trans (same_new hw (.tup (is.map V.int ++ [.int 1])))
      have nzw : z ≠ w := fun q => by rw [← q, upd_same] at hw; cases hw
      refine ⟨p, pl, fk, la, na, v2, t, .ref z, .ref w, L, N, ps, c, [], is ++ [1], true, rfl, hL.same sw, dp_ext (same_ext sw) _ hc, ⟨z, [], rfl, by rw [upd_ne nzw]; exact upd_same, .nil⟩, ⟨w, rfl, by rw [upd_same, List.map_append]; rfl⟩, hkb.2, hkb2.2, hnb.2, by simp; omega, (by rw [List.length_append]; simp; omega), hok.2, .inl rfl, by show (layB L N (leave L N []) _ _ _).2.length ≤ 300; omega, fun H1 L1 t1 k1 => ?_⟩
      have t01 : Tk H H1 := (Tk.same sw).trans t1
      have k01 : KO pl fk H H1 := (hL.ko sw).trans k1
      obtain ⟨sa, sxs, rfl, hss, hsp⟩ := hsv.tk t01
      have hsl2 := Paired.length hsp
      have hc1 := t01.dp (.tuple (ds c)) (tup_ds c) hc
      have hpa1 := (t01 _ _).1 hpa
      obtain ⟨m1, hm1, dx1, vs1, kvs1, h11, _⟩ := id L1
      refine ⟨_, rfl, p, dx1, _, rfl, h11, (lf_no _ _ _ _ (by decide +kernel) (by decide +kernel) (by decide +kernel) (by decide +kernel)), _, rfl, _, _, _, _, rfl, rfl, t01.sqt hs, at1 _ _ _, _, rfl, _, rfl, sa, sxs, rfl, .inl (SqT.of hss), _, rfl, _, _, _, _, rfl, rfl, t01.sqt hs, at2 _ _ _ _, _, rfl, pa, _, rfl, .inl (SqT.of hpa1), ?_, fun w1 hw1 => ?_⟩
      · exact Nat.le_trans (show _ ≤ 801 by rw [List.length_append, List.length_map]; simp; omega) (by decide)
      have s1 := same_new hw1 (.tup (is.map V.int ++ [.int 1]))
      refine ⟨(by show 2 ≤ sizeLine; decide), fun w2 hw2 => ?_⟩
      have s2 := s1.trans (same_new hw2 (.tup [v2, .ref w1]))
      have n12 : w1 ≠ w2 := fun q => by rw [← q, upd_same] at hw2; cases hw2
      refine ⟨Nat.le_trans (show (sxs ++ [V.ref w2]).length ≤ 1001 by rw [List.length_append]; simp; omega) (by decide), fun w3 hw3 => ?_⟩
      have s3 := s2.trans (same_new hw3 (.tup (sxs ++ [.ref w2])))
      have n13 : w1 ≠ w3 := fun q => by rw [← q, upd_ne n12, upd_same] at hw3; cases hw3
      have n23 : w2 ≠ w3 := fun q => by rw [← q, upd_same] at hw3; cases hw3
      have hpa3 := s3 _ _ hpa1
      refine ⟨_, rfl, pa, _, rfl, .inl (SqT.of hpa3), ?_, fun w4 hw4 => ?_⟩
      · exact Nat.le_trans (show _ ≤ 801 by rw [List.length_append, List.length_map]; simp; omega) (by decide)
      have s34 := same_new hw4 (.tup (is.map V.int ++ [.int 0]))
      have s4 := s3.trans s34
      have t4 := t01.trans (Tk.same s4)
      have hv : SecV K (upd (upd (upd (upd H1 w1 (.tup (is.map V.int ++ [.int 1]))) w2 (.tup [v2, .ref w1])) w3 (.tup (sxs ++ [.ref w2]))) w4 (.tup (is.map V.int ++ [.int 0]))) (.ref w3) (secs ++ [(c, is ++ [1])]) := by
        refine ⟨w3, sxs ++ [.ref w2], rfl, s34 _ _ upd_same, Paired.snoc (Paired.mapP hsp fun _ _ z => Sec1.tk (Tk.same s4) z) ⟨w2, v2, .ref w1, rfl, s34 _ _ (by rw [upd_ne n23]; exact upd_same), dp_ext (same_ext s4) _ hc1, w1, rfl, s34 _ _ ?_⟩⟩
        rw [upd_ne n13, upd_ne n12, upd_same, List.map_append]
        rfl
      refine ⟨p, pl, fk, la, na, v1, _, .ref w3, .ref w4, L, N, _, b, secs ++ [(c, is ++ [1])], is ++ [0], sec, rfl, L1.same s4, t4.dp (.tuple (ds b)) (tup_ds b) hb, hv, ⟨w4, rfl, by rw [upd_same, List.map_append]; rfl⟩, hkb.1, hkb2.1, hnb.1, (by rw [List.length_append]; simp; omega), (by rw [List.length_append]; simp; omega), hok.1, hso.snoc hok.2 hkb2.2 hnb.2 (by rw [List.length_append]; simp; omega), hlen, fun H2 L2 t2 k2 => ?_⟩
      exact q H2 L2 (t4.trans t2) (k01.trans ((L1.ko s4).trans k2))
end
end K12


set_option Elab.async false
set_option linter.all false
set_option maxRecDepth 100000
set_option maxHeartbeats 8000000
namespace K12
open PySem PySem.Spec PyProof.Rows L2
/-- a program of which the letters' tuple is known -/
def PD (K : PySem.W.Frag) (H : Hp) (v : V) (L : List Str) (P : List (Str × List St)) : Prop := ∃ a la pv, v = .ref a ∧ SqT K H a [.ref la, pv] ∧ TupO H la (L.map V.str) ∧ Dp K H pv (.tuple (P.map procD))
theorem PD.tk {K : PySem.W.Frag} {H H' : Hp} {v : V} {L : List Str} {P : List (Str × List St)} (h : PD K H v L P) (t : Tk H H') : PD K H' v L P := by
  obtain ⟨a, la, pv, e, h1, h2, h3⟩ := h
  exact ⟨a, la, pv, e, t.sqt h1, h2.tk t, t.dp (.tuple (P.map procD)) (tup_procs P) h3⟩
theorem dp_strs {K : PySem.W.Frag} {H : Hp} : ∀ L : List Str, DpAll K H (L.map V.str) (L.map PyData.str)
  | [] => .nil
  | x :: r => .cons (.str x) (dp_strs r)
theorem PD.dp {K : PySem.W.Frag} {H : Hp} {v : V} {L : List Str} {P : List (Str × List St)} (h : PD K H v L P) : Dp K H v (progD L P) := by
  obtain ⟨a, la, pv, rfl, h1, h2, h3⟩ := h
  exact .tup h1 (.cons (.tup h2.sq (dp_strs L)) (.cons h3 .nil))
/-- the layout of a procedure -/
def layP (L N : List Str) (p : Str × List St) : Int × List PyData := layB L N (leave L N []) p.2 0 [.tuple [.str "end"]]
def layPD (L N : List Str) (p : Str × List St) : PyData := .tuple [.int (layP L N p).1, .tuple (layP L N p).2]
def layD (L : List Str) (P : List (Str × List St)) : PyData := .tuple (P.map (layPD L (P.map Prod.fst)))
theorem tup_layP (L N : List Str) (p : Str × List St) : TupDs (layP L N p).2 := tup_B L N _ _ _ (fun ps h => tup_leave [] ps h) ⟨⟨trivial, trivial⟩, trivial⟩
theorem tup_layD (L : List Str) (P : List (Str × List St)) : TupD (layD L P) := by
  refine tupds_iff.mpr fun d hd => ?_
  obtain ⟨p, _, rfl⟩ := List.mem_map.mp hd
  exact ⟨trivial, tup_layP L _ p, trivial⟩
/-- no procedure is too great -/
def Few (L : List Str) (P : List (Str × List St)) : Prop := ∀ p ∈ P, (layP L (P.map Prod.fst) p).2.length ≤ 300
theorem met_mono {P : Program} {w : World} {K : PySem.W.Frag} {mg : Str → Option Value} {base : Heap} {j k : Nat} {C : Addr} {m : Str} {sp : Sp} {dvs : List V} (c : C8.Met P w K mg base j C m sp dvs) (h : j ≤ k) : C8.Met P w K mg base k C m sp dvs := by
  obtain ⟨f, fd, ps, ds, hc, hm, F, b, d⟩ := c.ex
  exact ⟨f, fd, ps, ds, hc, hm, F.mono h, b, d⟩
/-- a layout that is laid -/
def DoneAt (K : PySem.W.Frag) (C : Addr) (H : Hp) (p pl : Addr) (bg : Int) (ps : List PyData) : Prop := ∃ dx fk vs la na, H p = some (.ins C dx (putF "begin" (.int bg) (lf la na pl fk))) ∧ H pl = some (.lst vs) ∧ DpAll K H vs ps ∧ TupDs ps
theorem DoneAt.same {K : PySem.W.Frag} {C : Addr} {H H' : Hp} {p pl : Addr} {bg : Int} {ps : List PyData} (h : DoneAt K C H p pl bg ps) (s : Same H H') : DoneAt K C H' p pl bg ps := by
  obtain ⟨dx, fk, vs, la, na, h1, h2, h3, h4⟩ := h
  exact ⟨dx, fk, vs, la, na, s _ _ h1, s _ _ h2, (Tk.same s).dps _ h4 h3, h4⟩
theorem DoneAt.other {K : PySem.W.Frag} {C : Addr} {H : Hp} {p pl D : Addr} {bg : Int} {ps : List PyData} {xs : List V} (h : DoneAt K C H p pl bg ps) (e : H D = some (.lst xs)) (n : pl ≠ D) (o : HO) : DoneAt K C (upd H D o) p pl bg ps := by
  obtain ⟨dx, fk, vs, la, na, h1, h2, h3, h4⟩ := h
  refine ⟨dx, fk, vs, la, na, ?_, by rw [upd_ne n]; exact h2, (Tk.put e o).dps _ h4 h3, h4⟩
  rw [upd_ne (fun z => by rw [z, e] at h1; cases h1)]
  exact h1
def DoneL (K : PySem.W.Frag) (C : Addr) (L N : List Str) (H : Hp) (D : Addr) (x : V) (q : Str × List St) : Prop := ∃ p pl, x = V.ref p ∧ pl ≠ D ∧ DoneAt K C H p pl (layP L N q).1 (layP L N q).2
def rTupL (K : PySem.W.Frag) : List V → Hp → VK → Prop := fun zs H Q => ∃ (a : Addr) (ws : List V), zs = [.ref a] ∧ ((SqL K H a ws ∧ ∀ r, H r = none → Q (.ref r) (upd H r (.tup ws))) ∨ (SqT K H a ws ∧ Q (.ref a) H))
section
variable {P : Program} {w : World} {K : PySem.W.Frag} {mg : Str → Option Value} {base : Heap}
theorem lay0 {C : Addr} (T : Txt K mg C) (B : Bl K mg) {flay : Addr} {fdlay : FuncData} (melay : Meth K C "lay" flay) (Flay : C8.Fun K "lay" "Layout.lay" (inClass (topS 38) 3) flay fdlay) (blay : Binds K fdlay ["self", "body", "told", "seconds", "path"] []) {fstatement : Addr} {fdstatement : FuncData} (mestatement : Meth K C "statement" fstatement) (Fstatement : C8.Fun K "statement" "Layout.statement" (inClass (topS 38) 4) fstatement fdstatement) (bstatement : Binds K fdstatement ["self", "statement", "told", "seconds", "path"] []) {floop : Addr} {fdloop : FuncData} (meloop : Meth K C "loop" floop) (Floop : C8.Fun K "loop" "Layout.loop" (inClass (topS 38) 5) floop fdloop) (bloop : Binds K fdloop ["self", "inner", "told", "seconds", "path"] []) (c_make : C8.Met P w K mg base 1 C "make" (spMake K C) []) (c_make_fork : C8.Met P w K mg base 2 C "make_fork" (spFork K C) []) : ∀ n : Nat, C8.Met P w K mg base (3 * n + 2) C "lay" (spBd K C false n) []
  | 0 => by
    refine C8.met0 (k := 1) T.cl melay Flay blay sc_lay ?len ?body
    case len => rintro vs H Q E ⟨_, _, _, _, _, _, _, _, _, _, _, _, _, _, _, _, _, _, _, _, _, h, _⟩; exact absurd h (Nat.not_lt_zero _)
    case body => rintro cdv A outer s H vs Q E hr ⟨_, _, _, _, _, _, _, _, _, _, _, _, _, _, _, _, _, _, _, _, _, h, _⟩; exact absurd h (Nat.not_lt_zero _)
  | n + 1 => by
    have ih := lay0 T B melay Flay blay mestatement Fstatement bstatement meloop Floop bloop c_make c_make_fork n
    have hl := okm_loop T meloop Floop bloop B c_make_fork ih (by omega)
    have hs := okm_statement0 T mestatement Fstatement bstatement B c_make c_make_fork (met_mono ih (Nat.le_succ _)) hl (by omega)
    exact okm_lay T melay Flay blay B hs
theorem lay1 {C : Addr} (T : Txt K mg C) (B : Bl K mg) {flay : Addr} {fdlay : FuncData} (melay : Meth K C "lay" flay) (Flay : C8.Fun K "lay" "Layout.lay" (inClass (topS 38) 3) flay fdlay) (blay : Binds K fdlay ["self", "body", "told", "seconds", "path"] []) {fstatement : Addr} {fdstatement : FuncData} (mestatement : Meth K C "statement" fstatement) (Fstatement : C8.Fun K "statement" "Layout.statement" (inClass (topS 38) 4) fstatement fdstatement) (bstatement : Binds K fdstatement ["self", "statement", "told", "seconds", "path"] []) {floop : Addr} {fdloop : FuncData} (meloop : Meth K C "loop" floop) (Floop : C8.Fun K "loop" "Layout.loop" (inClass (topS 38) 5) floop fdloop) (bloop : Binds K fdloop ["self", "inner", "told", "seconds", "path"] []) (c_make : C8.Met P w K mg base 1 C "make" (spMake K C) []) (c_make_fork : C8.Met P w K mg base 2 C "make_fork" (spFork K C) []) (c_leave : C8.Met P w K mg base 42 C "leave" (spLv K C) []) : ∀ n : Nat, C8.Met P w K mg base (3 * n + 43) C "lay" (spBd K C true n) []
  | 0 => by
    refine C8.met0 (k := 42) T.cl melay Flay blay sc_lay ?len ?body
    case len => rintro vs H Q E ⟨_, _, _, _, _, _, _, _, _, _, _, _, _, _, _, _, _, _, _, _, _, h, _⟩; exact absurd h (Nat.not_lt_zero _)
    case body => rintro cdv A outer s H vs Q E hr ⟨_, _, _, _, _, _, _, _, _, _, _, _, _, _, _, _, _, _, _, _, _, h, _⟩; exact absurd h (Nat.not_lt_zero _)
  | n + 1 => by
    have ih := lay1 T B melay Flay blay mestatement Fstatement bstatement meloop Floop bloop c_make c_make_fork c_leave n
    have hl := okm_loop T meloop Floop bloop B c_make_fork ih (by omega)
    have hs := okm_statement1 T mestatement Fstatement bstatement B c_make c_make_fork (met_mono ih (Nat.le_succ _)) hl (by omega) (met_mono c_leave (by omega))
    exact okm_lay T melay Flay blay B hs

def spInit (K : PySem.W.Frag) (C : Addr) : Sp := fun vs H Q _ => ∃ p dx la na bv L N b, vs = [.ref p, .ref la, .ref na, bv] ∧ H p = some (.ins C dx []) ∧ TupO H la (L.map V.str) ∧ H na = some (.lst (N.map V.str)) ∧ Dp K H bv (.tuple (ds b)) ∧ ks b ≤ 12 ∧ ns b ≤ 1000 ∧ oks L N false b ∧
  (layB L N (leave L N []) b 0 [.tuple [.str "end"]]).2.length ≤ 300 ∧ ∀ H' pl, DoneAt K C H' p pl (layB L N (leave L N []) b 0 [.tuple [.str "end"]]).1 (layB L N (leave L N []) b 0 [.tuple [.str "end"]]).2 → H pl = none → (∀ q o, q ≠ p → H q = some o → H' q = some o) → Q .non H'
theorem sc___init__ : FnScope ["self", "letters", "names", "body"] ["self", "letters", "names", "body"] (C8.fnScope (inClass (topS 38) 0)) := C8.fnScope_by (by decide +kernel)
theorem okm_init {C f : Addr} {fd : FuncData} (T : Txt K mg C) (Mk0 : Mk K C f) (hm : mg "Layout" = some (.ref C)) (F : C8.Fun K "__init__" "Layout.__init__" (inClass (topS 38) 0) f fd) (b : Binds K fd ["self", "letters", "names", "body"] []) (B : Bl K mg) (c_lay : C8.Met P w K mg base 82 C "lay" (spBd K C true 13) []) : C8.Mak P w K mg base 83 "Layout" C (spInit K C) [] := by
  refine C8.mak0 Mk0 hm F b .nil sc___init__ ?len ?body
  case len => rintro vs H Q E ⟨p, dx, la, na, bv, L, N, b, rfl, _⟩; rfl
  case body =>
    obtain ⟨ea, hea, hes⟩ := B.END
    rintro cdv A outer s H vs Q E hr ⟨p, dx, la, na, bv, L, N, b, rfl, hp, hla, hna, hb, hk, hn, hok, hlen, q⟩
    refine ⟨_, (pss_cons (ps_fld (pv 0) (pv 1) rfl)
    (pss_cons (ps_fld (pv 0) (pv 2) rfl)
    (pss_cons (ps_fld (pv 0) (pe_lst (pa_cons (pe_glob (v := .ref ea) rfl hea rfl) pa_nil)) rfl)
    (pss_cons (ps_fld (pv 0) pe_dnewT rfl)
    (pss_one (ps_fld (pv 0) (C8.pe_mt c_lay hr (by decide) (pv 0) (pa_cons (pv 3) (pa_cons pe_int (pa_cons (pe_tup pa_nil) (pa_cons (pe_tup pa_nil) pa_nil))))) rfl)))))), ?_⟩
    have nl : la ≠ p := fun z => by obtain ⟨o, h1, _⟩ := hla; rw [z, hp] at h1; cases h1
    have nn : na ≠ p := fun z => by rw [z, hp] at hna; cases hna
    refine ⟨_, rfl, _, rfl, p, C, dx, [], rfl, hp, T.cl, T.nL, (by decide), ?_⟩
    have i1 := Tk.putI hp (.ins C dx (putF "letters" (.ref la) []))
    have k1 : ∀ q o, q ≠ p → H q = some o → upd H p (.ins C dx (putF "letters" (.ref la) [])) q = some o := fun q o n e => by rw [upd_ne n]; exact e
    have e1 : upd H p (.ins C dx (putF "letters" (.ref la) [])) p = some (.ins C dx (putF "letters" (.ref la) [])) := upd_same
    generalize upd H p (.ins C dx (putF "letters" (.ref la) [])) = H1 at i1 k1 e1
    refine ⟨_, rfl, _, rfl, p, C, dx, _, rfl, e1, T.cl, T.nN, (by show 1 < 1000; decide), ?_⟩
    have i2 := i1.trans (Tk.putI e1 (.ins C dx (putF "names" (.ref na) (putF "letters" (.ref la) []))))
    have k2 : ∀ q o, q ≠ p → H q = some o → upd H1 p (.ins C dx (putF "names" (.ref na) (putF "letters" (.ref la) []))) q = some o := fun q o n e => by rw [upd_ne n]; exact k1 q o n e
    have e2 : upd H1 p (.ins C dx (putF "names" (.ref na) (putF "letters" (.ref la) []))) p = some (.ins C dx (putF "names" (.ref na) (putF "letters" (.ref la) []))) := upd_same
    have back2 : ∀ q, q ≠ p → H1 q = none → upd H1 p (.ins C dx (putF "names" (.ref na) (putF "letters" (.ref la) []))) q = none := fun q n e => by rw [upd_ne n]; exact e
    generalize hH2 : upd H1 p (.ins C dx (putF "names" (.ref na) (putF "letters" (.ref la) []))) = H2 at i2 k2 e2
    refine ⟨(by show 1 ≤ sizeLine; decide), fun pl hpl => ?_⟩
    have npl : p ≠ pl := fun z => by rw [← z, e2] at hpl; cases hpl
    have hpl0 : H pl = none := by
      cases e : H pl with
      | none => rfl
      | some o => rw [k2 pl o (Ne.symm npl) e] at hpl; cases hpl
    have s3 := same_new hpl (.lst [.ref ea])
    have e3 := s3 _ _ e2
    refine ⟨_, rfl, p, C, dx, _, rfl, e3, T.cl, T.nP, (by have h1 := len_putF "names" (V.ref na) (putF "letters" (.ref la) []); have h2 := len_putF "letters" (V.ref la) []; simp at h2; omega), ?_⟩
    have i4 := (i2.trans (Tk.same s3)).trans (Tk.putI e3 (.ins C dx (putF "places" (.ref pl) (putF "names" (.ref na) (putF "letters" (.ref la) [])))))
    have p3 : upd H2 pl (.lst [.ref ea]) pl = some (.lst [.ref ea]) := upd_same
    generalize upd H2 pl (.lst [.ref ea]) = H3 at s3 e3 p3 i4
    have k4 : ∀ q o, q ≠ p → H q = some o → upd H3 p (.ins C dx (putF "places" (.ref pl) (putF "names" (.ref na) (putF "letters" (.ref la) [])))) q = some o := fun q o n e => by rw [upd_ne n]; exact s3 _ _ (k2 q o n e)
    have e4 : upd H3 p (.ins C dx (putF "places" (.ref pl) (putF "names" (.ref na) (putF "letters" (.ref la) [])))) p = some (.ins C dx (putF "places" (.ref pl) (putF "names" (.ref na) (putF "letters" (.ref la) [])))) := upd_same
    have p4 : upd H3 p (.ins C dx (putF "places" (.ref pl) (putF "names" (.ref na) (putF "letters" (.ref la) [])))) pl = some (.lst [.ref ea]) := by rw [upd_ne (Ne.symm npl)]; exact p3
    generalize upd H3 p (.ins C dx (putF "places" (.ref pl) (putF "names" (.ref na) (putF "letters" (.ref la) [])))) = H4 at k4 e4 p4 i4
    intro fk hfk
    have nfk : p ≠ fk := fun z => by rw [← z, e4] at hfk; cases hfk
    have hfk0 : H fk = none := by
      cases e : H fk with
      | none => rfl
      | some o => rw [k4 fk o (Ne.symm nfk) e] at hfk; cases hfk
    have s5 := same_new hfk (.dT [])
    have e5 := s5 _ _ e4
    have p5 := s5 _ _ p4
    have f5 : upd H4 fk (.dT []) fk = some (.dT []) := upd_same
    refine ⟨_, rfl, p, C, dx, _, rfl, e5, T.cl, T.nF, (by have h0 := len_putF "places" (V.ref pl) (putF "names" (.ref na) (putF "letters" (.ref la) [])); have h1 := len_putF "names" (V.ref na) (putF "letters" (.ref la) []); have h2 := len_putF "letters" (V.ref la) []; simp at h2; omega), ?_⟩
    have i6 := (i4.trans (Tk.same s5)).trans (Tk.putI e5 (.ins C dx (lf la na pl fk)))
    generalize upd H4 fk (.dT []) = H5 at s5 e5 p5 f5 i6
    have k6 : ∀ q o, q ≠ p → H q = some o → upd H5 p (.ins C dx (lf la na pl fk)) q = some o := fun q o n e => by rw [upd_ne n]; exact s5 _ _ (k4 q o n e)
    have e6 : upd H5 p (.ins C dx (lf la na pl fk)) p = some (.ins C dx (lf la na pl fk)) := upd_same
    have p6 : upd H5 p (.ins C dx (lf la na pl fk)) pl = some (.lst [.ref ea]) := by rw [upd_ne (Ne.symm npl)]; exact p5
    have f6 : upd H5 p (.ins C dx (lf la na pl fk)) fk = some (.dT []) := by rw [upd_ne (Ne.symm nfk)]; exact f5
    have hlf : putF "forks" (V.ref fk) (putF "places" (.ref pl) (putF "names" (.ref na) (putF "letters" (.ref la) []))) = lf la na pl fk := rfl
    rw [hlf]
    generalize upd H5 p (.ins C dx (lf la na pl fk)) = H6 at k6 e6 p6 f6 i6
    have own6 : ∀ a o, H a = some o → ¬ Own H6 pl fk a := fun a o e w => by
      rcases w with w | w | ⟨kv, k, y1, y2⟩
      · rw [w, hpl0] at e; cases e
      · rw [w, hfk0] at e; cases e
      · rw [f6] at y1
        cases y1
        cases y2
    have L6 : Lay K C L N H6 p pl fk la na [.tuple [.str "end"]] := ⟨0, by simp, dx, [.ref ea], [], e6, p6, .cons (.tup (hes _) (.cons (.str _) .nil)) .nil, ⟨⟨trivial, trivial⟩, trivial⟩, hla.tk i6, k6 na _ nn hna, own6 na _ hna, f6, Nat.le_refl _, fun e he => by cases he⟩
    refine ⟨_, rfl, p, dx, _, rfl, e6, (lf_no _ _ _ _ (by decide +kernel) (by decide +kernel) (by decide +kernel) (by decide +kernel)), _, rfl, (by show 0 ≤ sizeLine; decide), fun z hz => ⟨(by show 0 ≤ sizeLine; decide), fun w hw => ?_⟩⟩
    have sw := (same_new hz (.tup [])).trans (same_new hw (.tup []))
    have nzw : z ≠ w := fun q => by rw [← q, upd_same] at hw; cases hw
    refine ⟨p, pl, fk, la, na, bv, 0, .ref z, .ref w, L, N, _, b, [], [], false, rfl, L6.same sw, (i6.trans (Tk.same sw)).dp (.tuple (ds b)) (tup_ds b) hb, ⟨z, [], rfl, by rw [upd_ne nzw]; exact upd_same, .nil⟩, ⟨w, rfl, upd_same⟩, by omega, hk, hn, by simp, by decide, hok, .inr ⟨rfl, fun c hc => by cases hc⟩, hlen, fun H9 L9 t9 k9 => ?_⟩
    obtain ⟨m9, _, dx9, vs9, kvs9, h91, h92, h93, h94, _⟩ := id L9
    refine ⟨_, rfl, p, C, dx9, _, rfl, h91, T.cl, T.nB, (by have := len_lf la na pl fk; omega), ?_⟩
    refine q _ pl ⟨dx9, fk, vs9, la, na, upd_same, by rw [upd_ne (Ne.symm npl)]; exact h92, (Tk.putI h91 _).dps _ h94 h93, h94⟩ hpl0 fun q' o n e => ?_
    rw [upd_ne n]
    have z1 := (L6.ko sw) q' o (own6 q' o e) (k6 q' o n e)
    exact (k9 q' o z1.2 z1.1).1
def spLs (K : PySem.W.Frag) (C : Addr) : Sp := fun vs H Q _ => ∃ v L Ps, vs = [v] ∧ PD K H v L Ps ∧ Prog L Ps ∧ Few L Ps ∧ ∀ H' D xs, Same H H' → H' D = some (.lst xs) → Paired (DoneL K C L (Ps.map Prod.fst) H' D) xs Ps → Q (.ref D) H'
theorem sc_layouts : FnScope ["program", "letters", "procedures", "names", "procedure"] ["program"] (C8.fnScope (topS 37)) := C8.fnScope_by (by decide +kernel)
theorem ok_layouts {f : Addr} {fd : FuncData} (F : C8.Def K mg "layouts" (topS 37) f fd) (b : Binds K fd ["program"] []) (B : Bl K mg) {C : Addr} (c_init : C8.Mak P w K mg base 83 "Layout" C (spInit K C) []) (T : Txt K mg C) : C8.Cal P w K mg base 85 "layouts" (spLs K C) [] := by
  refine C8.cal0 F b .nil sc_layouts ?len ?body
  case len => rintro vs H Q E ⟨v, L, Ps, rfl, _⟩; rfl
  case body =>
    rintro cdv A outer s H vs Q E hr ⟨v, L, Ps, rfl, ⟨a, la, pvv, rfl, hs, hla, hpv⟩, hP, hFew, q⟩
    refine ⟨_, (pss_cons (ps_asg (pv 0) (pg_tup rfl (pgs_cons (pg_name (i := 1) sc_layouts.nd rfl (Or.inr rfl)) (pgs_cons (pg_name (i := 2) sc_layouts.nd rfl (Or.inl rfl)) pgs_nil))))
    (pss_cons (ps_set (i := 3) sc_layouts.nd rfl (Or.inr rfl) (pe_lc (own := [("procedure", 4)]) (g := gName 4) (te := tOp (rIxT K) (tVar 4) (tC (.int 0))) (by rfl) sc_layouts.nd (pi_tup (pv 2)) (blkOk_by (own := [("procedure", 4)]) (N := ["program", "letters", "procedures", "names", "procedure"]) (sc := (C8.fnScope (topS 37))) (by decide +kernel)) (fun _ _ _ _ _ => pg_name (i := 4) sc_layouts.nd rfl (Or.inl rfl)) (fun _ _ _ _ _ => pts_nil) (fun _ _ _ _ _ => by exact (pe_ix ix_tup (pv 4) pe_int (fun _ _ => rfl)))))
    (pss_one (ps_ret (pe_lc (own := [("procedure", 4)]) (g := gName 4) (te := tMake C (spInit K C) [] C8.E0 (tCons (tVar 1) (tCons (tVar 3) (tCons (tOp (rIxT K) (tVar 4) (tC (.int 1))) tNil)))) (by rfl) sc_layouts.nd (pi_tup (pv 2)) (blkOk_by (own := [("procedure", 4)]) (N := ["program", "letters", "procedures", "names", "procedure"]) (sc := (C8.fnScope (topS 37))) (by decide +kernel)) (fun _ _ _ _ _ => pg_name (i := 4) sc_layouts.nd rfl (Or.inl rfl)) (fun _ _ _ _ _ => pts_nil) (fun _ _ _ _ _ => by exact (C8.pe_mk c_init hr (by decide) rfl (pa_cons (pv 1) (pa_cons (pv 3) (pa_cons (pe_ix ix_tup (pv 4) pe_int (fun _ _ => rfl)) pa_nil)))))))))), ?_⟩
    refine ⟨_, rfl, a, _, rfl, hs, rfl, _, _, rfl, _, _, rfl, rfl, ?_⟩
    obtain ⟨pa, pxs, rfl, hps, hpa, hpl⟩ := len_ok hpv
    rw [List.length_map] at hpl
    refine ⟨_, rfl, pa, rfl, ⟨_, hps⟩, fun Dd hDd => ?_⟩
    refine lc_tup (xs := pxs) (fun i H' => H' Dd = some (.lst (((Ps.take i).map Prod.fst).map V.str)) ∧ Same H H') ?_ ?_ ?_ ?_
    · exact ⟨by simpa using upd_same, same_new hDd _⟩
    · rintro i H' _ ⟨_, s5⟩
      exact (Tk.same s5).sqt hps
    · rintro i x H5 hx ⟨hv1, s5⟩
      obtain ⟨d, hd, hdp⟩ := dps_get' hpa hx
      obtain ⟨p, hp, rfl⟩ := procs_get hd
      have hd5 := (Tk.same s5).dp _ (tup_proc p) hdp
      obtain ⟨qa, qxs, rfl, hqs, hqa, hql⟩ := len_ok hd5
      cases hqa with
      | @cons v0 _ _ _ h0 hqa =>
      cases h0
      refine ⟨rfl, ?_⟩
      refine ⟨_, rfl, _, _, _, _, rfl, rfl, hqs, at0 _ _, _, hv1, ?_, ?_, ?_⟩
      · have := hP.p2
        have h3 : (Ps.take i).length ≤ Ps.length := List.length_take_le' _ _
        exact Nat.lt_of_le_of_lt (show _ ≤ 8 by rw [List.length_map, List.length_map]; omega) (by decide)
      · rw [upd_same, List.take_succ, hp]
        simp
      · intro b o e
        rw [upd_ne (fun z => by rw [z, hDd] at e; cases e)]
        exact s5 _ _ e
    · rintro H5 ⟨hv1, s5⟩
      rw [hpl, List.take_length] at hv1
      refine ⟨_, rfl, pa, rfl, ⟨_, (Tk.same s5).sqt hps⟩, fun F hF => ?_⟩
      have nDF : Dd ≠ F := fun z => by rw [← z, hv1] at hF; cases hF
      have hF0 : H F = none := by
        cases e : H F with
        | none => rfl
        | some o => rw [s5 _ _ e] at hF; cases hF
      refine lc_tup (xs := pxs) (fun i H' => Same H H' ∧ H' Dd = some (.lst ((Ps.map Prod.fst).map V.str)) ∧ ∃ vs, H' F = some (.lst vs) ∧ Paired (DoneL K C L (Ps.map Prod.fst) H' F) vs (Ps.take i)) ?_ ?_ ?_ ?_
      · exact ⟨s5.trans (same_new hF _), by rw [upd_ne nDF]; exact hv1, [], upd_same, .nil⟩
      · rintro i H' _ ⟨s7, _⟩
        exact (Tk.same s7).sqt hps
      · rintro i x H7 hx ⟨s7, hD7, fv, hF7, hfv⟩
        obtain ⟨d, hd, hdp⟩ := dps_get' hpa hx
        obtain ⟨p, hp, rfl⟩ := procs_get hd
        have hd7 := (Tk.same s7).dp _ (tup_proc p) hdp
        obtain ⟨qa, qxs, rfl, hqs, hqa, hql⟩ := len_ok hd7
        cases hqa with
        | @cons v0 _ _ _ h0 hqa =>
        cases h0
        cases hqa with
        | @cons v1 _ _ _ h1 hqa =>
        cases hqa
        have hpm : p ∈ Ps := List.mem_of_getElem? hp
        have hbm : p.2 ∈ nsP Ps := List.mem_map.mpr ⟨p, hpm, rfl⟩
        have hkk := kss_mem hbm
        have hnn := nss_mem hbm
        have hk12 := hP.ks
        have hn200 := hP.n
        refine ⟨rfl, ?_⟩
        refine ⟨_, rfl, _, rfl, _, rfl, _, _, _, _, rfl, rfl, hqs, at1 _ _ _, fun x dx nx ndx nex => ?_⟩
        have s8 : Same H7 (upd (upd H7 dx (.own x)) x (.ins C dx [])) := (same_new ndx (.own x)).trans (same_new (by rw [upd_ne (Ne.symm nex)]; exact nx) _)
        refine ⟨x, dx, la, Dd, v1, L, Ps.map Prod.fst, p.2, rfl, upd_same, hla.tk (Tk.same (s7.trans s8)), s8 _ _ hD7, (Tk.same s8).dp (.tuple (ds p.2)) (tup_ds p.2) h1, by omega, by omega, hP.ok _ hbm, hFew p hpm, fun H9 pl9 dn9 hpl9 k9 => ⟨rfl, ?_⟩⟩
        have s9 : Same H7 H9 := fun q o e => k9 q o (fun z => by rw [z, nx] at e; cases e) (s8 q o e)
        have npl : pl9 ≠ F := fun z => by rw [z, s8 _ _ hF7] at hpl9; cases hpl9
        have hF9 := s9 _ _ hF7
        have hml := Paired.length hfv
        have h3 : (Ps.take i).length ≤ Ps.length := List.length_take_le' _ _
        have hp8 := hP.p2
        refine ⟨fv, hF9, Nat.lt_of_le_of_lt (show fv.length ≤ 8 by omega) (by decide), fun q o e => ?_, ?_, fv ++ [.ref x], upd_same, ?_⟩
        · rw [upd_ne (fun z => by rw [z, hF0] at e; cases e)]
          exact s9 _ _ (s7 _ _ e)
        · rw [upd_ne nDF]
          exact s9 _ _ hD7
        · rw [List.take_succ, hp]
          refine Paired.snoc (Paired.mapP hfv fun y q z => ?_) ⟨x, pl9, rfl, npl, dn9.other hF9 npl _⟩
          obtain ⟨p1, pl1, e1, n1, d1⟩ := z
          exact ⟨p1, pl1, e1, n1, (d1.same s9).other hF9 n1 _⟩
      · rintro H7 ⟨s7, hD7, fv, hF7, hfv⟩
        rw [hpl, List.take_length] at hfv
        exact q _ F fv s7 hF7 hfv
def spLO (K : PySem.W.Frag) : Sp := fun vs H Q _ => ∃ v L Ps, vs = [v] ∧ PD K H v L Ps ∧ Prog L Ps ∧ Few L Ps ∧ ∀ H' v', Same H H' → Dp K H' v' (layD L Ps) → Q v' H'
theorem sc_laid_out : FnScope ["program", "layout"] ["program"] (C8.fnScope (topS 36)) := C8.fnScope_by (by decide +kernel)
theorem ok_laid_out {f : Addr} {fd : FuncData} (F : C8.Def K mg "laid_out" (topS 36) f fd) (b : Binds K fd ["program"] []) (B : Bl K mg) {C : Addr} (c_layouts : C8.Cal P w K mg base 85 "layouts" (spLs K C) []) (T : Txt K mg C) : C8.Cal P w K mg base 86 "laid_out" (spLO K) [] := by
  refine C8.cal0 F b .nil sc_laid_out ?len ?body
  case len => rintro vs H Q E ⟨v, L, Ps, rfl, _⟩; rfl
  case body =>
    rintro cdv A outer s H vs Q E hr ⟨v, L, Ps, rfl, hd, hP, hFew, q⟩
    refine ⟨_, (pss_one (ps_ret (pe_callTy call_tuple_of rfl B.tuple (by decide +kernel) (pa_cons (pe_lc (own := [("layout", 1)]) (g := gName 1) (te := tTup (tCons (tFld K (tVar 1) "begin") (tCons (tCB (rTupL K) (tCons (tFld K (tVar 1) "places") tNil)) tNil))) (by rfl) sc_laid_out.nd (pi_list (C8.pe_c c_layouts hr (by decide) rfl (pa_cons (pv 0) pa_nil))) (blkOk_by (own := [("layout", 1)]) (N := ["program", "layout"]) (sc := (C8.fnScope (topS 36))) (by decide +kernel)) (fun _ _ _ _ _ => pg_name (i := 1) sc_laid_out.nd rfl (Or.inl rfl)) (fun _ _ _ _ _ => pts_nil) (fun _ _ _ _ _ => by exact (pe_tup (pa_cons (pe_fld (pv 1) rfl) (pa_cons (pe_callTy call_tuple_of rfl B.tuple (by decide +kernel) (pa_cons (pe_fld (pv 1) rfl) pa_nil)) pa_nil))))) pa_nil)))), ?_⟩
    refine ⟨_, rfl, v, L, Ps, rfl, hd, hP, hFew, fun H1 D xs s1 hD hx => ?_⟩
    have hxl := Paired.length hx
    refine ⟨D, rfl, ⟨_, SqL.of hD⟩, fun F hF => ?_⟩
    have hF0 : ∀ a o, H1 a = some o → a ≠ F := fun a o e z => by rw [z, hF] at e; cases e
    refine lc_list (xs := xs) (fun i H' => Same H1 H' ∧ ∃ vs, H' F = some (.lst vs) ∧ DpAll K H' vs ((Ps.take i).map (layPD L (Ps.map Prod.fst)))) ?_ ?_ ?_ ?_
    · exact ⟨same_new hF _, [], upd_same, by simpa using .nil⟩
    · rintro i H' _ ⟨s2, _⟩
      exact SqL.of (s2 _ _ hD)
    · rintro i x H2 hxi ⟨s2, fv, hF2, hfv⟩
      obtain ⟨p, hp, o, pl, rfl, npl, dn⟩ := paired_at hx hxi
      obtain ⟨dx, fk, ws, la, na, g1, g2, g3, g4⟩ := dn.same s2
      refine ⟨rfl, ?_⟩
      refine ⟨_, rfl, o, C, dx, _, _, rfl, g1, T.cl, T.nB, lb_begin _ _ _ _ _, _, rfl, o, C, dx, _, _, rfl, g1, T.cl, T.nP, lb_places _ _ _ _ _, pl, _, rfl, .inl ⟨SqL.of g2, fun w hw => ⟨(by show 2 ≤ sizeLine; decide), fun y hy => ?_⟩⟩⟩
      have nwy : w ≠ y := fun z => by rw [← z, upd_same] at hy; cases hy
      have sw := (same_new hw (.tup ws)).trans (same_new hy (.tup [.int (layP L (Ps.map Prod.fst) p).1, .ref w]))
      have hF3 := sw _ _ hF2
      have hml := dps_len hfv
      rw [List.length_map] at hml
      have h3 : (Ps.take i).length ≤ Ps.length := List.length_take_le' _ _
      have hp8 := hP.p2
      refine ⟨fv, hF3, Nat.lt_of_le_of_lt (show fv.length ≤ 8 by omega) (by decide), fun b u e => ?_, fv ++ [.ref y], upd_same, ?_⟩
      · rw [upd_ne (hF0 _ _ e)]
        exact sw _ _ (s2 _ _ e)
      · rw [List.take_succ, hp]
        show DpAll K _ _ (((Ps.take i) ++ [p]).map _)
        rw [List.map_append]
        have tU := Tk.put hF3 (.lst (fv ++ [.ref y]))
        have tf : TupDs ((Ps.take i).map (layPD L (Ps.map Prod.fst))) := tupds_iff.mpr fun d hd => by
          obtain ⟨p', _, rfl⟩ := List.mem_map.mp hd
          exact ⟨trivial, tup_layP L _ p', trivial⟩
        refine dps_app (((Tk.same sw).trans tU).dps _ tf hfv) (.cons ?_ .nil)
        refine .tup (tU.sqt (SqT.of upd_same)) (.cons (.int _) (.cons (.tup (tU.sqt (SqT.of (by rw [upd_ne nwy]; exact upd_same))) ?_) .nil))
        exact ((Tk.same sw).trans tU).dps _ (tup_layP L _ p) g3
    · rintro H2 ⟨s2, fv, hF2, hfv⟩
      rw [hxl, List.take_length] at hfv
      refine ⟨F, _, rfl, .inl ⟨SqL.of hF2, fun z hz => ?_⟩⟩
      have sz := same_new hz (.tup fv)
      exact q _ _ (s1.trans (s2.trans sz)) (.tup (SqT.of upd_same) (dps_ext (same_ext sz) _ hfv))
def spPl (K : PySem.W.Frag) (Ts : List Addr) : Sp := fun vs H Q _ => ∃ v L Ps, vs = [v] ∧ PD K H v L Ps ∧ Prog L Ps ∧ Few L Ps ∧ Tbs Ts H ∧ ∀ H' v', Go Ts H H' → Dp K H' v' (layD L Ps) → Q v' H'
theorem sc_places : FnScope ["program"] ["program"] (C8.fnScope (topS 35)) := C8.fnScope_by (by decide +kernel)
theorem ok_places {Ts : List Addr} {f : Addr} {fd : FuncData} (F : C8.Def K mg "places" (topS 35) f fd) (b : Binds K fd ["program"] []) (B : Bl K mg) (c_checked : C8.Cal P w K mg base 18 "checked" (spCheck K Ts) []) (c_laid_out : C8.Cal P w K mg base 86 "laid_out" (spLO K) []) : C8.Cal P w K mg base 87 "places" (spPl K Ts) [] := by
  refine C8.cal0 F b .nil sc_places ?len ?body
  case len => rintro vs H Q E ⟨v, L, Ps, rfl, _⟩; rfl
  case body =>
    rintro cdv A outer s H vs Q E hr ⟨v, L, Ps, rfl, hd, hP, hF, hTb, q⟩
    refine ⟨_, (pss_cons (ps_expr (C8.pe_c c_checked hr (by decide) rfl (pa_cons (pv 0) pa_nil)))
    (pss_one (ps_ret (C8.pe_c c_laid_out hr (by decide) rfl (pa_cons (pv 0) pa_nil))))), ?_⟩
    refine ⟨_, rfl, v, L, Ps, rfl, hd.dp, hP, hTb, fun H1 g1 => ?_⟩
    exact ⟨_, rfl, v, L, Ps, rfl, hd.tk (Tk.go hTb g1), hP, hF, fun H2 v2 s2 h2 => q H2 v2 (g1.trans (Go.of_same g1.1 s2)) h2⟩
end
end K12


set_option Elab.async false
set_option linter.all false
set_option maxRecDepth 100000
set_option maxHeartbeats 8000000
namespace K12
open PySem PySem.Spec PyProof.Rows L2
def Dg (ds : List Int) : Prop := ∀ d ∈ ds, 0 ≤ d ∧ d < 27720
def Cup (H : Hp) (c : Addr) : Prop := ∃ (z : Int) (ds : List Int), H c = some (.lst ((z :: ds).map V.int)) ∧ 0 ≤ z ∧ z ≤ ds.length ∧ 1 ≤ ds.length ∧ ds.length ≤ 1000 ∧ Dg ds
theorem Cup.kp {H H' : Hp} {c : Addr} {as : List Addr} (h : Cup H c) (k : Kp as H H') (n : c ∉ as) : Cup H' c := let ⟨z, ds, h1, h2⟩ := h; ⟨z, ds, k _ _ n h1, h2⟩
theorem Cup.same {H H' : Hp} {c : Addr} (h : Cup H c) (s : Same H H') : Cup H' c := let ⟨z, ds, h1, h2⟩ := h; ⟨z, ds, s _ _ h1, h2⟩
theorem Cup.tk {H : Hp} {c : Addr} (h : Cup H c) (o : HO) : Tk H (upd H c o) := let ⟨z, ds, h1, h2⟩ := h; Tk.put h1 o
theorem at_int {ns : List Int} {i : Nat} (h : i < ns.length) : ∃ n, n ∈ ns ∧ atI (ns.map V.int) (i : Int) = some (.int n) := by
  refine ⟨ns[i], List.getElem_mem h, ?_⟩
  apply atI_nat
  rw [List.getElem?_map, List.getElem?_eq_getElem h]
  rfl
theorem Dg.set {ds : List Int} (h : Dg ds) (i : Nat) {d : Int} (hd : 0 ≤ d ∧ d < 27720) : Dg (ds.set i d) := fun e he => by
  rcases List.mem_or_eq_of_mem_set he with h1 | h1
  · exact h e h1
  · subst h1; exact hd
section
variable {P : Program} {w : World} {K : PySem.W.Frag} {mg : Str → Option Value} {base : Heap}

def spStore (K : PySem.W.Frag) : Sp := fun vs H Q _ => ∃ (a : Addr) (ns : List Int) (lot : Int) (many : Nat), vs = [.ref a, .int lot, .int (many : Int)] ∧ SqL K H a (ns.map V.int) ∧ 0 ≤ lot ∧ lot ≤ 1000 ∧ 1 ≤ many ∧ many ≤ 1000 ∧ ∀ H' c, Same H H' → H c = none → Cup H' c → Q (.ref c) H'
theorem sc__law_store : FnScope ["cells", "lot", "many", "mixed", "rest", "at", "store", "turn", "cell", "digit"] ["cells", "lot", "many"] (C8.fnScope (topS 40)) := C8.fnScope_by (by decide +kernel)
theorem ok__law_store {f : Addr} {fd : FuncData} (F : C8.Def K mg "_law_store" (topS 40) f fd) (b : Binds K fd ["cells", "lot", "many"] []) (B : Bl K mg)  : C8.Cal P w K mg base 1 "_law_store" (spStore K) [] := by
  refine C8.cal0 F b .nil sc__law_store ?len ?body
  case len => rintro vs H Q E ⟨a, ns, lot, many, rfl, _⟩; rfl
  case body =>
    rintro cdv A outer s H vs Q E hr ⟨a, ns, lot, many, rfl, hs, hl0, hl1, hm0, hm1, q⟩
    refine ⟨_, (pss_cons (ps_asg (pe_tup (pa_cons (pe_op op_add pe_int (pe_op op_mul pe_int (pv 1))) (pa_cons pe_int (pa_cons pe_int (pa_cons (pe_lst (pa_cons pe_int pa_nil)) pa_nil))))) (pg_tup rfl (pgs_cons (pg_name (i := 3) sc__law_store.nd rfl (Or.inl rfl)) (pgs_cons (pg_name (i := 4) sc__law_store.nd rfl (Or.inl rfl)) (pgs_cons (pg_name (i := 5) sc__law_store.nd rfl (Or.inl rfl)) (pgs_cons (pg_name (i := 6) sc__law_store.nd rfl (Or.inl rfl)) pgs_nil))))))
    (pss_cons (ps_for PassesOwn.never rfl (pi_range1 rfl B.range (pa_cons (pv 2) pa_nil)) (pg_name (i := 7) sc__law_store.nd rfl (Or.inl rfl))
    (C8.pss_cut (ps_if (PW.pt (pw_and (pt_cmpR op_eq (pv 4) pe_int (nomark _)) (pw_and1 (pt_cmpR op_lt (pv 5) (pe_callB call_len_seq rfl B.len PySem.boot_len (pa_cons (pv 0) pa_nil)) (nomark _))))) (pss_cons (ps_set (i := 8) sc__law_store.nd rfl (Or.inl rfl) (pe_callB call_abs rfl B.abs (by decide +kernel) (pa_cons (pe_callTy call_int1 rfl B.int (by decide +kernel) (pa_cons (pe_ix ix_list (pv 0) (pv 5) (fun _ _ => rfl)) pa_nil)) pa_nil)))
    (pss_cons (ps_set (i := 5) sc__law_store.nd rfl (Or.inl rfl) (pe_op op_add (pv 5) pe_int))
    (pss_cons (ps_set (i := 3) sc__law_store.nd rfl (Or.inl rfl) (pe_op op_mod (pe_callTy call_int1 rfl B.int (by decide +kernel) (pa_cons (pe_op op_add (pe_op op_add (pe_op op_mul (pv 3) pe_int) (pv 8)) (pe_op op_mul pe_int (pv 5))) pa_nil)) pe_int))
    (pss_one (ps_set (i := 4) sc__law_store.nd rfl (Or.inl rfl) (pe_op op_mul (pv 8) (pe_callTy call_int1 rfl B.int (by decide +kernel) (pa_cons (pe_cmpR op_ge (pv 8) (pe_op op_pow pe_int pe_int) (nomark _)) pa_nil)))))))) pss_nil)
    (C8.pss_cut (ps_set (i := 3) sc__law_store.nd rfl (Or.inl rfl) (pe_op op_mod (pe_callTy call_int1 rfl B.int (by decide +kernel) (pa_cons (pe_op op_add (pe_op op_add (pe_op op_mul (pv 3) pe_int) (pe_op op_mul (pe_op op_mul (pv 7) (pv 7)) (pv 7))) pe_int) pa_nil)) pe_int))
    (C8.pss_cut (ps_set (i := 9) sc__law_store.nd rfl (Or.inl rfl) (pe_op op_mod (pe_op op_fdiv (pe_op op_mod (pe_callTy call_int1 rfl B.int (by decide +kernel) (pa_cons (pe_op op_mul (pv 3) (pe_op op_add (pe_op op_fdiv (pv 3) pe_int) pe_int)) pa_nil)) pe_int) pe_int) pe_int))
    (C8.pss_cut (ps_if (pt_cmpR op_gt (pv 4) pe_int (nomark _)) (pss_cons (ps_set (i := 9) sc__law_store.nd rfl (Or.inl rfl) (pe_op op_mod (pe_callTy call_int1 rfl B.int (by decide +kernel) (pa_cons (pv 4) pa_nil)) pe_int))
    (pss_one (ps_set (i := 4) sc__law_store.nd rfl (Or.inl rfl) (pe_op op_fdiv (pv 4) pe_int)))) pss_nil)
    (pss_one (ps_expr (pe_bm PySem.F.plainAttrs_list PySem.F.slot_list_append PySem.F.type_list_append mt_append (pv 6) (pa_cons (pv 9) pa_nil)))))))))
    (pss_one (ps_ret (pv 6))))), ?_⟩
    refine ⟨_, rfl, _, _, rfl, rfl, .inl ⟨by decide, by decide⟩, _, _, rfl, rfl, (by show 1 ≤ sizeLine; decide), fun c hc => ⟨(by show 4 ≤ sizeLine; decide), fun tp htp => ?_⟩⟩
    have ncp : c ≠ tp := fun z => by rw [← z, upd_same] at htp; cases htp
    have hsP := (same_new hc (.lst [.int 0])).trans (same_new htp (.tup [.int (11 + 97 * lot), .int 0, .int 0, .ref c]))
    refine ⟨tp, _, rfl, SqT.of upd_same, rfl, _, _, rfl, _, _, rfl, _, _, rfl, _, _, rfl, rfl, ?_⟩
    have hc1 : upd (upd H c (.lst [.int 0])) tp (.tup [.int (11 + 97 * lot), .int 0, .int 0, .ref c]) c = some (.lst (([0] : List Int).map V.int)) := by rw [upd_ne ncp]; exact upd_same
    generalize upd (upd H c (.lst [.int 0])) tp (.tup [.int (11 + 97 * lot), .int 0, .int 0, .ref c]) = H1 at hsP hc1
    refine ⟨_, rfl, (many : Int), rfl, by omega, by omega, ?_⟩
    rw [Int.toNat_natCast]
    refine for_range (lo := 0) (n := many) (fun i σ H' => ∃ (mx rs at_ : Int) (ds : List Int) (b7 b8 b9 : Option V), σ = [some (.ref a), some (.int lot), some (.int (many : Int)), some (.int mx), some (.int rs), some (.int at_), some (.ref c), b7, b8, b9] ∧ 0 ≤ mx ∧ mx < 2147483648 ∧ 0 ≤ rs ∧ 0 ≤ at_ ∧ at_ ≤ ns.length ∧ Same H H' ∧ H' c = some (.lst ((0 :: ds).map V.int)) ∧ ds.length = i ∧ Dg ds) ?_ ?_ ?_
    · exact ⟨_, 0, 0, [], none, none, none, rfl, by omega, by omega, by omega, by omega, by omega, hsP, hc1, rfl, fun _ h => (List.not_mem_nil h).elim⟩
    · rintro i _ H2 hi ⟨mx, rs, at_, ds, b7, b8, b9, rfl, m0, m1, r0, a0, a1, s2, hc2, hdl, hdg⟩
      have nca : ∀ q o, H q = some o → q ≠ c := fun q o e z => by rw [z, hc] at e; cases e
      have hsq := sq_ext (same_ext s2) hs
      refine ⟨fun σ' H' => H' = H2 ∧ ∃ (mx rs at_ : Int) (b8 : Option V), σ' = [some (.ref a), some (.int lot), some (.int (many : Int)), some (.int mx), some (.int rs), some (.int at_), some (.ref c), some (.int (0 + (i : Int))), b8, b9] ∧ 0 ≤ mx ∧ mx < 2147483648 ∧ 0 ≤ rs ∧ 0 ≤ at_ ∧ at_ ≤ ns.length, ?_, ?_⟩
      · have stay : (fun σ' H' => H' = H2 ∧ ∃ (mx rs at_ : Int) (b8 : Option V), σ' = [some (.ref a), some (.int lot), some (.int (many : Int)), some (.int mx), some (.int rs), some (.int at_), some (.ref c), some (.int (0 + (i : Int))), b8, b9] ∧ 0 ≤ mx ∧ mx < 2147483648 ∧ 0 ≤ rs ∧ 0 ≤ at_ ∧ at_ ≤ ns.length) ([some (.ref a), some (.int lot), some (.int (many : Int)), some (.int mx), some (.int rs), some (.int at_), some (.ref c), some (.int (0 + (i : Int))), b8, b9] : L2.St) H2 := ⟨rfl, mx, rs, at_, b8, rfl, m0, m1, r0, a0, a1⟩
        refine ⟨_, rfl, rfl, _, rfl, ?_⟩
        rw [dec_int]
        by_cases c1 : rs = 0
        · rw [decide_eq_true c1]
          refine iteT ⟨_, rfl, _, rfl, a, _, rfl, .inl hsq, _, _, rfl, rfl, _, rfl, ?_⟩
          rw [List.length_map]
          by_cases c2 : at_ < (ns.length : Int)
          · rw [decide_eq_true c2]
            refine iteT ?_
            obtain ⟨n, _, hat⟩ := at_int (ns := ns) (i := at_.toNat) (by omega)
            rw [show ((at_.toNat : Nat) : Int) = at_ by omega] at hat
            refine ⟨_, rfl, _, rfl, a, _, _, _, rfl, rfl, hsq, hat, .inl ⟨n, rfl, n, rfl, ?_⟩⟩
            have hcell : (0 : Int) ≤ (if n < 0 then -n else n) := by split <;> omega
            generalize (if n < 0 then -n else n) = cell at hcell
            refine ⟨_, rfl, _, _, rfl, rfl, ?_⟩
            refine ⟨_, rfl, _, _, rfl, rfl, .inl ⟨by omega, by omega⟩, _, rfl, _, _, rfl, rfl, _, rfl, _, _, rfl, rfl, .inl ⟨by decide, by decide⟩, _, _, rfl, rfl, .inl ⟨_, rfl, _, _, rfl, rfl, (show (0 : Int) < 2147483629 by decide), ?_⟩⟩
            have p1 := Int.emod_nonneg (mx * 69621 + cell + 13 * (at_ + 1)) (show (2147483629 : Int) ≠ 0 by decide)
            have p2 := Int.emod_lt_of_pos (mx * 69621 + cell + 13 * (at_ + 1)) (show (0 : Int) < 2147483629 by decide)
            refine ⟨_, rfl, _, rfl, _, _, rfl, rfl, ⟨by decide, by decide, by decide⟩, _, _, rfl, rfl, .inr ⟨_, rfl, _, _, rfl, rfl, .inr ?_, ?_⟩⟩
            · cases decide (((10 : Int) ^ (18 : Int).toNat) ≤ cell) <;> exact ⟨by decide, by decide⟩
            · refine ⟨rfl, _, _, _, _, rfl, p1, by omega, ?_, by omega, by omega⟩
              cases decide (((10 : Int) ^ (18 : Int).toNat) ≤ cell)
              · show 0 ≤ cell * 0; omega
              · show 0 ≤ cell * 1; omega
          · rw [decide_eq_false c2]
            exact iteF stay
        · rw [decide_eq_false c1]
          exact iteF stay
      · rintro _ H2 ⟨rfl, mx, rs, at_, b8, rfl, m0, m1, r0, a0, a1⟩
        refine ⟨fun σ' H' => H' = H2 ∧ ∃ (mx2 : Int), σ' = [some (.ref a), some (.int lot), some (.int (many : Int)), some (.int mx2), some (.int rs), some (.int at_), some (.ref c), some (.int (0 + (i : Int))), b8, b9] ∧ 0 ≤ mx2 ∧ mx2 < 2147483648, ?_, ?_⟩
        · refine ⟨_, rfl, _, _, rfl, rfl, .inl ⟨by omega, by omega⟩, _, rfl, _, rfl, _, _, rfl, rfl, .inl ⟨by omega, by omega⟩, _, rfl, _, _, rfl, rfl, .inr ⟨by omega, by omega⟩, _, _, rfl, rfl, _, _, rfl, rfl, .inl ⟨_, rfl, _, _, rfl, rfl, (show (0 : Int) < 2147483629 by decide), ?_⟩⟩
          have p1 := Int.emod_nonneg (mx * 69069 + (0 + (i : Int)) * (0 + (i : Int)) * (0 + (i : Int)) + 29) (show (2147483629 : Int) ≠ 0 by decide)
          have p2 := Int.emod_lt_of_pos (mx * 69069 + (0 + (i : Int)) * (0 + (i : Int)) * (0 + (i : Int)) + 29) (show (0 : Int) < 2147483629 by decide)
          exact ⟨rfl, _, rfl, p1, by omega⟩
        rintro _ H2 ⟨rfl, mx2, rfl, p1, p2⟩
        refine ⟨fun σ' H' => H' = H2 ∧ ∃ (dg : Int), σ' = [some (.ref a), some (.int lot), some (.int (many : Int)), some (.int mx2), some (.int rs), some (.int at_), some (.ref c), some (.int (0 + (i : Int))), b8, some (.int dg)] ∧ 0 ≤ dg ∧ dg < 27720, ?_, ?_⟩
        · refine ⟨_, rfl, _, rfl, _, _, rfl, rfl, ⟨by decide, by decide⟩, _, _, rfl, rfl, _, _, rfl, rfl, .inl ⟨by omega, by omega⟩, .inl ⟨_, rfl, _, _, rfl, rfl, (show (0 : Int) < 2147483587 by decide), _, _, rfl, rfl, ⟨by decide, by decide⟩, _, _, rfl, rfl, (show (0 : Int) < 27720 by decide), ?_⟩⟩
          have d1 := Int.emod_nonneg (mx2 * (mx2 / 32 + 3) % 2147483587 / 13) (show (27720 : Int) ≠ 0 by decide)
          have d2 := Int.emod_lt_of_pos (mx2 * (mx2 / 32 + 3) % 2147483587 / 13) (show (0 : Int) < 27720 by decide)
          exact ⟨rfl, _, rfl, d1, d2⟩
        rintro _ H2 ⟨rfl, dg, rfl, d1, d2⟩
        refine ⟨fun σ' H' => H' = H2 ∧ ∃ (rs dg : Int), σ' = [some (.ref a), some (.int lot), some (.int (many : Int)), some (.int mx2), some (.int rs), some (.int at_), some (.ref c), some (.int (0 + (i : Int))), b8, some (.int dg)] ∧ 0 ≤ rs ∧ 0 ≤ dg ∧ dg < 27720, ?_, ?_⟩
        · refine ⟨_, rfl, _, _, rfl, rfl, _, rfl, ?_⟩
          by_cases c3 : (0 : Int) < rs
          · rw [decide_eq_true c3]
            refine iteT ?_
            have e1 := Int.emod_nonneg rs (show (27720 : Int) ≠ 0 by decide)
            have e2 := Int.emod_lt_of_pos rs (show (0 : Int) < 27720 by decide)
            refine ⟨_, rfl, .inl ⟨_, rfl, _, _, rfl, rfl, (show (0 : Int) < 27720 by decide), ?_⟩⟩
            refine ⟨_, rfl, _, _, rfl, rfl, ⟨by decide, by decide⟩, ?_⟩
            exact ⟨rfl, _, _, rfl, Int.ediv_nonneg r0 (by decide), e1, e2⟩
          · rw [decide_eq_false c3]
            exact iteF ⟨rfl, rs, dg, rfl, r0, d1, d2⟩
        · rintro _ H2 ⟨rfl, rs, dg, rfl, r0, d1, d2⟩
          refine ⟨_, rfl, .inl ⟨rfl, _, SqL.of hc2⟩, _, rfl, c, _, _, rfl, rfl, hc2, Nat.lt_of_le_of_lt (show _ ≤ 1001 by rw [List.length_map, List.length_cons]; omega) (by decide), ?_⟩
          refine ⟨mx2, rs, at_, ds ++ [dg], _, _, _, rfl, p1, by omega, r0, a0, a1, fun q o e => ?_, ?_, by rw [List.length_append, hdl]; rfl, fun d hd => ?_⟩
          · rw [upd_ne (nca q o e)]
            exact s2 _ _ e
          · rw [upd_same]
            simp
          · rcases List.mem_append.mp hd with h | h
            · exact hdg d h
            · cases List.mem_singleton.mp h
              exact ⟨d1, d2⟩
    · rintro σ H2 ⟨mx, rs, at_, ds, b7, b8, b9, rfl, m0, m1, r0, a0, a1, s2, hc2, hdl, hdg⟩
      refine ⟨_, rfl, q H2 c s2 hc ⟨0, ds, hc2, by omega, by omega, by omega, by omega, hdg⟩⟩
def spPick : Sp := fun vs H Q _ => ∃ (c : Addr) (m : Int), vs = [.ref c, .int m] ∧ Cup H c ∧ 1 ≤ m ∧ m ≤ 30000 ∧ ∀ (r : Int) H', 0 ≤ r → r < m → Cup H' c → Kp [c] H H' → Tk H H' → Q (.int r) H'
theorem sc__law_pick : FnScope ["store", "many", "at", "k"] ["store", "many"] (C8.fnScope (topS 41)) := C8.fnScope_by (by decide +kernel)
theorem ok__law_pick {f : Addr} {fd : FuncData} (F : C8.Def K mg "_law_pick" (topS 41) f fd) (b : Binds K fd ["store", "many"] []) (B : Bl K mg)  : C8.Cal P w K mg base 1 "_law_pick" spPick [] := by
  refine C8.cal0 F b .nil sc__law_pick ?len ?body
  case len => rintro vs H Q E ⟨c, m, rfl, _⟩; rfl
  case body =>
    rintro cdv A outer s H vs Q E hr ⟨c, m, rfl, ⟨z, ds, hc, hz0, hz1, hd1, hd2, hdg⟩, hm0, hm1, q⟩
    refine ⟨_, (pss_cons (ps_set (i := 2) sc__law_pick.nd rfl (Or.inl rfl) (pe_op op_add (pe_ix ix_list (pv 0) pe_int (fun _ _ => rfl)) pe_int))
    (C8.pss_cut (ps_if (pt_cmpR op_eq (pv 2) (pe_callB call_len_seq rfl B.len PySem.boot_len (pa_cons (pv 0) pa_nil)) (nomark _)) (pss_cons (ps_set (i := 2) sc__law_pick.nd rfl (Or.inl rfl) pe_int)
    (pss_one (ps_for PassesOwn.never rfl (pi_range2 rfl B.range (pa_cons pe_int (pa_cons (pe_callB call_len_seq rfl B.len PySem.boot_len (pa_cons (pv 0) pa_nil)) pa_nil))) (pg_name (i := 3) sc__law_pick.nd rfl (Or.inl rfl))
    (pss_one (ps_asg (pe_op op_mod (pe_callTy call_int1 rfl B.int (by decide +kernel) (pa_cons (pe_op op_add (pe_op op_add (pe_op op_mul (pe_ix ix_list (pv 0) (pv 3) (fun _ _ => rfl)) pe_int) (pe_op op_mul (pv 3) pe_int)) pe_int) pa_nil)) pe_int) (pg_sub (pv 0) (pv 3) set_list)))))) pss_nil)
    (pss_cons (ps_asg (pv 2) (pg_sub (pv 0) pe_int set_list))
    (pss_one (ps_ret (pe_op op_mod (pe_callTy call_int1 rfl B.int (by decide +kernel) (pa_cons (pe_ix ix_list (pv 0) (pv 2) (fun _ _ => rfl)) pa_nil)) (pv 1))))))), ?_⟩
    have hz : atI ((z :: ds).map V.int) 0 = some (.int z) := at0 _ _
    refine ⟨_, rfl, c, _, _, _, rfl, rfl, SqL.of hc, hz, _, _, rfl, rfl, ?_⟩
    refine ⟨fun σ' H' => ∃ (at_ : Int) (ds' : List Int) (b3 : Option V), σ' = [some (.ref c), some (.int m), some (.int at_), b3] ∧ H' c = some (.lst ((z :: ds').map V.int)) ∧ ds'.length = ds.length ∧ Dg ds' ∧ 1 ≤ at_ ∧ at_ ≤ ds.length ∧ Kp [c] H H' ∧ Tk H H', ?_, ?_⟩
    · refine ⟨_, rfl, _, rfl, c, _, rfl, .inl (SqL.of hc), rfl, _, rfl, ?_⟩
      rw [dec_int, List.length_map, List.length_cons]
      by_cases c1 : z + 1 = ((ds.length + 1 : Nat) : Int)
      · rw [decide_eq_true c1]
        refine iteT ?_
        refine ⟨_, rfl, c, _, rfl, .inl (SqL.of hc), 1, _, rfl, ⟨by decide, by decide, by omega, by rw [List.length_map, List.length_cons]; omega⟩, ?_⟩
        rw [List.length_map, List.length_cons, show (((ds.length + 1 : Nat) : Int) - 1).toNat = ds.length by omega]
        refine for_range (lo := 1) (n := ds.length) (fun i σ H' => ∃ (ds' : List Int) (b3 : Option V), σ = [some (.ref c), some (.int m), some (.int 1), b3] ∧ H' c = some (.lst ((z :: ds').map V.int)) ∧ ds'.length = ds.length ∧ Dg ds' ∧ Kp [c] H H' ∧ Tk H H') ?_ ?_ ?_
        · exact ⟨ds, none, rfl, hc, rfl, hdg, Kp.refl H, Tk.refl H⟩
        · rintro i _ H2 hi ⟨ds', b3, rfl, h2, l2, g2, k2, t2⟩
          obtain ⟨n, hn, hat⟩ := at_int (ns := z :: ds') (i := i + 1) (by rw [List.length_cons]; omega)
          have en : ∃ n, n ∈ ds' ∧ atI ((z :: ds').map V.int) (1 + (i : Int)) = some (.int n) := by
            refine ⟨ds'[i]'(by omega), List.getElem_mem _, ?_⟩
            rw [show (1 : Int) + (i : Int) = ((i + 1 : Nat) : Int) by omega]
            apply atI_nat
            rw [List.map_cons, List.getElem?_cons_succ, List.getElem?_map, List.getElem?_eq_getElem (by omega)]
            rfl
          obtain ⟨n, hn, hat⟩ := en
          have hb := g2 n hn
          refine ⟨_, rfl, _, rfl, c, _, _, _, rfl, rfl, SqL.of h2, hat, _, _, rfl, rfl, .inl ⟨by omega, by omega⟩, _, rfl, _, _, rfl, rfl, .inl ⟨by omega, by omega⟩, _, _, rfl, rfl, _, _, rfl, rfl, .inl ⟨_, rfl, _, _, rfl, rfl, (show (0 : Int) < 27720 by decide), _, rfl, _, rfl, c, _, _, i + 1, rfl, rfl, h2, ?_, ?_⟩⟩
          · rw [show (1 : Int) + (i : Int) = ((i + 1 : Nat) : Int) by omega]
            exact ix_nat (by rw [List.length_map, List.length_cons]; omega)
          · have e1 := Int.emod_nonneg (n * 31 + (1 + (i : Int)) * 17 + 7) (show (27720 : Int) ≠ 0 by decide)
            have e2 := Int.emod_lt_of_pos (n * 31 + (1 + (i : Int)) * 17 + 7) (show (0 : Int) < 27720 by decide)
            refine ⟨ds'.set i ((n * 31 + (1 + (i : Int)) * 17 + 7) % 27720), _, rfl, ?_, by rw [List.length_set]; exact l2, g2.set i ⟨e1, e2⟩, k2.trans (Kp.put _ (by simp)), t2.trans (Tk.put h2 _)⟩
            rw [upd_same, List.map_cons, List.map_cons, List.set_cons_succ, List.map_set]
        · rintro σ H2 ⟨ds', b3, rfl, h2, l2, g2, k2, t2⟩
          exact ⟨1, ds', _, rfl, h2, l2, g2, by omega, by omega, k2, t2⟩
      · rw [decide_eq_false c1]
        refine iteF ⟨z + 1, ds, none, rfl, hc, rfl, hdg, by omega, by omega, Kp.refl H, Tk.refl H⟩
    · rintro _ H2 ⟨at_, ds', b3, rfl, h2, l2, g2, a1, a2, k2, t2⟩
      refine ⟨_, rfl, _, rfl, c, _, _, 0, rfl, rfl, h2, ix_nat (by simp), ?_⟩
      have h3 : upd H2 c (.lst (((z :: ds').map V.int).set 0 (.int at_))) c = some (.lst ((at_ :: ds').map V.int)) := by rw [upd_same]; rfl
      have en : ∃ n, n ∈ ds' ∧ atI ((at_ :: ds').map V.int) at_ = some (.int n) := by
        refine ⟨ds'[at_.toNat - 1]'(by omega), List.getElem_mem _, ?_⟩
        have e : (((at_.toNat - 1) + 1 : Nat) : Int) = at_ := by omega
        have h4 : ((at_ :: ds').map V.int)[(at_.toNat - 1) + 1]? = some (.int (ds'[at_.toNat - 1]'(by omega))) := by
          rw [List.map_cons, List.getElem?_cons_succ, List.getElem?_map, List.getElem?_eq_getElem (by omega)]
          rfl
        have h5 := atI_nat h4
        rwa [e] at h5
      obtain ⟨n, hn, hat⟩ := en
      have hb := g2 n hn
      refine ⟨_, rfl, _, rfl, c, _, _, _, rfl, rfl, SqL.of h3, hat, .inl ⟨_, rfl, _, rfl, _, _, rfl, rfl, (show (0 : Int) < m by omega), ?_⟩⟩
      exact q _ _ (Int.emod_nonneg _ (by omega)) (Int.emod_lt_of_pos _ (by omega)) ⟨at_, ds', h3, by omega, by omega, by omega, by omega, g2⟩ (k2.trans (Kp.put _ (by simp))) (t2.trans (Tk.put h2 _))
end
end K12


set_option Elab.async false
set_option linter.all false
set_option maxRecDepth 100000
set_option maxHeartbeats 8000000
namespace K12
open PySem PySem.Spec PyProof.Rows L2
def Sd : Nat → PyData → Prop
  | 0, _ => False
  | n + 1, d => d = .none ∨ (∃ i, d = .int i) ∨ (∃ s, d = .str s) ∨ ∃ ds, d = .tuple ds ∧ ds.length ≤ 5000 ∧ ∀ e ∈ ds, Sd n e
/-- a place -/
def Pl (d : PyData) : Prop := d = .none ∨ (∃ w, d = .tuple [.str w]) ∨ (∃ w a b, d = .tuple [.str w, .int a, .int b]) ∨ ∃ (w : Str) (ns : List Int), d = .tuple [.str w, .tuple (ns.map PyData.int)] ∧ ns.length ≤ 6
theorem pl0 : Pl .none := Or.inl rfl
theorem pl1 (w : Str) : Pl (.tuple [.str w]) := Or.inr (Or.inl ⟨w, rfl⟩)
theorem pl3 (w : Str) (a b : Int) : Pl (.tuple [.str w, .int a, .int b]) := Or.inr (Or.inr (Or.inl ⟨w, a, b, rfl⟩))
theorem plf (w : Str) (ns : List Int) (h : ns.length ≤ 6) : Pl (.tuple [.str w, .tuple (ns.map PyData.int)]) := Or.inr (Or.inr (Or.inr ⟨w, ns, rfl, h⟩))
def Pls (ps : List PyData) : Prop := ∀ d ∈ ps, Pl d
theorem Pls.snoc {ps : List PyData} {d : PyData} (h : Pls ps) (hd : Pl d) : Pls (ps ++ [d]) := fun e he => (List.mem_append.mp he).elim (h e) fun z => by
  cases List.mem_singleton.mp z
  exact hd
theorem layBs_len1 {L N : List Str} {lv : List PyData → Int × List PyData} (bs : List (List St)) (t : Int) (ps : List PyData) : (layBs L N lv bs t ps).1.length = bs.length := layBs_len bs t ps
mutual
theorem pl_S (L N : List Str) : ∀ (s : St) (sec : Bool) {lv : List PyData → Int × List PyData} (t : Int) (ps : List PyData), s.ok L N sec → (∀ ps, Pls ps → Pls (lv ps).2) → Pls ps → Pls (layS L N lv s t ps).2
  | .dd _, _, _, _, _, _, _, p | .ud _, _, _, _, _, _, _, p | .cl _, _, _, _, _, _, _, p => p.snoc (pl3 _ _ _)
  | .ch bs, sec, lv, t, ps, o, h, p => (pl_Bs L N bs sec t ps o.2.2 h p).snoc (plf _ _ (by rw [layBs_len]; exact o.2.1))
  | .lp b, sec, lv, t, ps, o, h, p => by
    have := pl_B L N b sec (ps.length : Nat) (ps ++ [.none]) o h (p.snoc pl0)
    intro d hd
    rcases List.mem_or_eq_of_mem_set hd with h | h
    · exact this d h
    · subst h
      exact plf _ [_, _] (by simp)
  | .rt, _, lv, t, ps, _, h, p => h ps p
  | .en b c, sec, lv, t, ps, o, h, p => by
    have h0 : ∀ ps : List PyData, Pls ps → Pls ((fun ps => ((0 : Int), ps)) ps).2 := fun _ h => h
    rw [layS]
    exact pl_B L N b sec _ _ o.1 (fun ps p => pl_B L N c true _ _ o.2 h0 (h ps p)) (pl_B L N c true t ps o.2 h0 p)
theorem pl_B (L N : List Str) : ∀ (b : List St) (sec : Bool) {lv : List PyData → Int × List PyData} (t : Int) (ps : List PyData), oks L N sec b → (∀ ps, Pls ps → Pls (lv ps).2) → Pls ps → Pls (layB L N lv b t ps).2
  | [], _, _, _, _, _, _, p => p
  | s :: r, sec, lv, t, ps, o, h, p => by
    rw [layB]
    exact pl_S L N s sec _ _ o.1 h (pl_B L N r sec t ps o.2 h p)
theorem pl_Bs (L N : List Str) : ∀ (b : List (List St)) (sec : Bool) {lv : List PyData → Int × List PyData} (t : Int) (ps : List PyData), okss L N sec b → (∀ ps, Pls ps → Pls (lv ps).2) → Pls ps → Pls (layBs L N lv b t ps).2
  | [], _, _, _, _, _, _, p => p
  | s :: r, sec, lv, t, ps, o, h, p => by
    rw [layBs]
    exact pl_Bs L N r sec t _ o.2 h (pl_B L N s sec t ps o.1 h p)
end
theorem sd_pl {d : PyData} (h : Pl d) : Sd 3 d := by
  rcases h with rfl | ⟨w, rfl⟩ | ⟨w, a, b, rfl⟩ | ⟨w, ns, rfl, hl⟩
  · exact .inl rfl
  · refine .inr (.inr (.inr ⟨_, rfl, by simp, fun e he => ?_⟩))
    cases List.mem_singleton.mp he
    exact .inr (.inr (.inl ⟨_, rfl⟩))
  · refine .inr (.inr (.inr ⟨_, rfl, by simp, fun e he => ?_⟩))
    simp at he
    rcases he with rfl | rfl | rfl
    · exact .inr (.inr (.inl ⟨_, rfl⟩))
    · exact .inr (.inl ⟨_, rfl⟩)
    · exact .inr (.inl ⟨_, rfl⟩)
  · refine .inr (.inr (.inr ⟨_, rfl, by simp, fun e he => ?_⟩))
    simp at he
    rcases he with rfl | rfl
    · exact .inr (.inr (.inl ⟨_, rfl⟩))
    · refine .inr (.inr (.inr ⟨_, rfl, by rw [List.length_map]; omega, fun e he => ?_⟩))
      obtain ⟨i, _, rfl⟩ := List.mem_map.mp he
      exact .inr (.inl ⟨_, rfl⟩)
theorem sd_layD {L : List Str} {P : List (Str × List St)} (hP : Prog L P) (hF : Few L P) : Sd 6 (layD L P) := by
  have p2 := hP.p2
  refine .inr (.inr (.inr ⟨_, rfl, by rw [List.length_map]; omega, fun e he => ?_⟩))
  obtain ⟨p, hp, rfl⟩ := List.mem_map.mp he
  refine .inr (.inr (.inr ⟨_, rfl, by simp, fun e he => ?_⟩))
  simp at he
  rcases he with rfl | rfl
  · exact .inr (.inl ⟨_, rfl⟩)
  · have hpl : Pls (layP L (P.map Prod.fst) p).2 := pl_B L _ p.2 false _ _ (hP.ok p.2 (List.mem_map.mpr ⟨p, hp, rfl⟩)) (fun _ h => h) (fun d hd => by
      cases List.mem_singleton.mp hd
      exact pl1 _)
    have hl := hF p hp
    exact .inr (.inr (.inr ⟨_, rfl, by omega, fun e he => sd_pl (hpl e he)⟩))
section
variable {P : Program} {w : World} {K : PySem.W.Frag} {mg : Str → Option Value} {base : Heap}

def spSameT (K : PySem.W.Frag) (n : Nat) : Sp := fun vs H Q _ => ∃ v w d, vs = [v, w] ∧ Dp K H v d ∧ Dp K H w d ∧ Sd n d ∧ ∀ H', Same H H' → Q (.bl true) H'
theorem sc__law_same : FnScope ["found", "due", "k"] ["found", "due"] (C8.fnScope (topS 42)) := C8.fnScope_by (by decide +kernel)
theorem ok_same {n : Nat} {f : Addr} {fd : FuncData} (F : C8.Def K mg "_law_same" (topS 42) f fd) (b : Binds K fd ["found", "due"] []) (B : Bl K mg) (c__law_same : C8.Cal P w K mg base (n + 1) "_law_same" (spSameT K n) []) : C8.Cal P w K mg base (n + 2) "_law_same" (spSameT K (n + 1)) [] := by
  refine C8.cal0 F b .nil sc__law_same ?len ?body
  case len => rintro vs H Q E ⟨v, w, d, rfl, _⟩; rfl
  case body =>
    rintro cdv A outer s H vs Q E hr ⟨v, w', d, rfl, hv, hw, sd, q⟩
    refine ⟨_, (pss_cons (ps_if (pt_val (pe_isD (c := "tuple") B (pv 1) rfl rfl B.tuple (by decide +kernel) (by decide))) (pss_cons (ps_if (PW.pt (pw_or (pt_not (pt_val (pe_isD (c := "tuple") B (pv 0) rfl rfl B.tuple (by decide +kernel) (by decide)))) (pw_or1 (pt_cmpR op_ne (pe_callB call_len_seq rfl B.len PySem.boot_len (pa_cons (pv 0) pa_nil)) (pe_callB call_len_seq rfl B.len PySem.boot_len (pa_cons (pv 1) pa_nil)) (nomark _))))) (pss_one (ps_ret pe_bl)) pss_nil)
    (pss_one (ps_ret (pe_callB (cr_all rfl) rfl B.all (by decide +kernel) (pa_cons (pe_lc (own := [("k", 2)]) (g := gName 2) (te := tCall (spSameT K n) [] C8.E0 (tCons (tOp (rIxT K) (tVar 0) (tVar 2)) (tCons (tOp (rIxT K) (tVar 1) (tVar 2)) tNil))) (by rfl) sc__law_same.nd (pi_range1 rfl B.range (pa_cons (pe_callB call_len_seq rfl B.len PySem.boot_len (pa_cons (pv 1) pa_nil)) pa_nil)) (blkOk_by (own := [("k", 2)]) (N := ["found", "due", "k"]) (sc := (C8.fnScope (topS 42))) (by decide +kernel)) (fun _ _ _ _ _ => pg_name (i := 2) sc__law_same.nd rfl (Or.inl rfl)) (fun _ _ _ _ _ => pts_nil) (fun _ _ _ _ _ => by exact (C8.pe_c c__law_same hr (by omega) rfl (pa_cons (pe_ix ix_tup (pv 0) (pv 2) (fun _ _ => rfl)) (pa_cons (pe_ix ix_tup (pv 1) (pv 2) (fun _ _ => rfl)) pa_nil))))) pa_nil))))) pss_nil)
    (pss_cons (ps_if (pt_cmpR op_isN (pv 1) pe_non (nomark _)) (pss_one (ps_ret (pe_cmpR op_isN (pv 0) pe_non (nomark _)))) pss_nil)
    (pss_cons (ps_if (pt_val (pe_isD (c := "str") B (pv 1) rfl rfl B.str (by decide +kernel) (by decide))) (pss_one (ps_ret (pe_and (pe_isD (c := "str") B (pv 0) rfl rfl B.str (by decide +kernel) (by decide)) (pe_one (pe_cmpR op_eq (pv 0) (pv 1) (nomark _)))))) pss_nil)
    (pss_cons (ps_if (pt_val (pe_isD (c := "bool") B (pv 1) rfl rfl B.bool (by decide +kernel) (by decide))) (pss_one (ps_ret (pe_and (pe_isD (c := "bool") B (pv 0) rfl rfl B.bool (by decide +kernel) (by decide)) (pe_one (pe_cmpR op_eq (pv 0) (pv 1) (nomark _)))))) pss_nil)
    (pss_one (ps_ret (pe_and (pe_isD (c := "int") B (pv 0) rfl rfl B.int (by decide +kernel) (by decide)) (pe_and (pe_not (pe_isD (c := "bool") B (pv 0) rfl rfl B.bool (by decide +kernel) (by decide))) (pe_one (pe_cmpR op_eq (pv 0) (pv 1) (nomark _))))))))))), ?_⟩
    rcases sd with rfl | ⟨i, rfl⟩ | ⟨z, rfl⟩ | ⟨ds, rfl, hl, hds⟩
    · cases hv
      cases hw
      refine ⟨_, rfl, .non, .none, rfl, .non, _, rfl, iteF ?_⟩
      refine ⟨_, rfl, rfl, _, rfl, ?_⟩
      refine iteT ⟨_, rfl, rfl, ?_⟩
      rw [decide_eq_true rfl]
      exact q H (Same.refl H)
    · cases hv
      cases hw
      refine ⟨_, rfl, .int i, .int i, rfl, .int i, _, rfl, iteF ?_⟩
      refine ⟨_, rfl, rfl, _, rfl, ?_⟩
      refine iteF ?_
      refine ⟨_, rfl, .int i, .int i, rfl, .int i, _, rfl, iteF ?_⟩
      refine ⟨_, rfl, .int i, .int i, rfl, .int i, _, rfl, iteF ?_⟩
      refine ⟨_, rfl, .int i, .int i, rfl, .int i, _, rfl, iteT ?_⟩
      refine ⟨_, rfl, .int i, .int i, rfl, .int i, _, rfl, ?_⟩
      refine ⟨_, rfl, ?_⟩
      refine iteT ?_
      refine ⟨_, rfl, _, rfl, rfl, ?_⟩
      rw [decide_eq_true rfl]
      exact q H (Same.refl H)
    · cases hv
      cases hw
      refine ⟨_, rfl, .str z, .str z, rfl, .str z, _, rfl, iteF ?_⟩
      refine ⟨_, rfl, rfl, _, rfl, ?_⟩
      refine iteF ?_
      refine ⟨_, rfl, .str z, .str z, rfl, .str z, _, rfl, iteT ?_⟩
      refine ⟨_, rfl, .str z, .str z, rfl, .str z, _, rfl, iteT ?_⟩
      refine ⟨_, rfl, _, rfl, rfl, ?_⟩
      rw [decide_eq_true rfl]
      exact q H (Same.refl H)
    · cases hv with
      | @tup a xs _ hs ha =>
      cases hw with
      | @tup b ys _ ht hb =>
      refine ⟨_, rfl, .ref b, .tuple ds, rfl, .tup ht hb, _, rfl, iteT ?_⟩
      have la := dps_len ha
      have lb := dps_len hb
      refine ⟨_, rfl, .ref a, .tuple ds, rfl, .tup hs ha, _, rfl, iteF ?_⟩
      refine ⟨_, rfl, a, xs, rfl, .inr hs, _, rfl, b, ys, rfl, .inr ht, rfl, _, rfl, ?_⟩
      rw [show (!decide (V.int ((xs.length : Nat) : Int) = V.int ((ys.length : Nat) : Int))) = false by rw [la, lb, decide_eq_true rfl]; rfl]
      refine iteF ?_
      refine ⟨_, rfl, b, ys, rfl, .inr ht, _, rfl, by omega, by omega, fun D hD => ?_⟩
      rw [Int.toNat_natCast]
      refine lc_range (fun j H' => H' D = some (.lst (List.replicate j (V.bl true))) ∧ Same H H') ⟨upd_same, same_new hD _⟩ ?_ ?_
      · rintro j H1 hj ⟨hD1, s1⟩
        refine ⟨rfl, ?_⟩
        have ea : xs[j]? = some (xs[j]'(by omega)) := List.getElem?_eq_getElem (by omega)
        have eb : ys[j]? = some (ys[j]'(by omega)) := List.getElem?_eq_getElem (by omega)
        obtain ⟨d1, hd1, hp1⟩ := dps_get' ha ea
        obtain ⟨d2, hd2, hp2⟩ := dps_get' hb eb
        rw [hd1] at hd2
        cases hd2
        have i1 : atI xs (0 + (j : Int)) = some (xs[j]'(by omega)) := by
          rw [show (0 : Int) + (j : Int) = ((j : Nat) : Int) by omega]
          exact atI_nat ea
        have i2 : atI ys (0 + (j : Int)) = some (ys[j]'(by omega)) := by
          rw [show (0 : Int) + (j : Int) = ((j : Nat) : Int) by omega]
          exact atI_nat eb
        refine ⟨_, rfl, _, rfl, a, xs, _, _, rfl, rfl, sqt_ext (same_ext s1) hs, i1, _, rfl, _, rfl, b, ys, _, _, rfl, rfl, sqt_ext (same_ext s1) ht, i2, _, _, d1, rfl, dp_ext (same_ext s1) _ hp1, dp_ext (same_ext s1) _ hp2, hds d1 (List.mem_of_getElem? hd1), fun H2 s2 => ?_⟩
        refine ⟨_, s2 _ _ hD1, Nat.lt_of_le_of_lt (show _ ≤ 5000 by rw [List.length_replicate]; omega) (by decide), ?_, fun p o h => ?_⟩
        · rw [List.replicate_succ']
          exact upd_same
        · have : p ≠ D := fun z => by rw [z, hD] at h; cases h
          rw [upd_ne this]
          exact s2 _ _ (s1 _ _ h)
      · rintro H1 ⟨hD1, s1⟩
        refine ⟨D, List.replicate ys.length true, rfl, SqL.of (by rw [hD1, List.map_replicate]), ?_⟩
        rw [show (List.replicate ys.length true).all id = true by rw [List.all_eq_true]; intro z hz; rw [List.eq_of_mem_replicate hz]; rfl]
        exact q H1 s1
theorem same_all {f : Addr} {fd : FuncData} (F : C8.Def K mg "_law_same" (topS 42) f fd) (b : Binds K fd ["found", "due"] []) (B : Bl K mg) : ∀ n : Nat, C8.Cal P w K mg base (n + 1) "_law_same" (spSameT K n) []
  | 0 => by
    refine C8.cal0 F b .nil sc__law_same ?len ?body
    case len => rintro vs H Q E ⟨_, _, _, _, _, _, sd, _⟩; exact sd.elim
    case body => rintro cdv A outer s H vs Q E hr ⟨_, _, _, _, _, _, sd, _⟩; exact sd.elim
  | n + 1 => ok_same F b B (same_all F b B n)
end
end K12


set_option Elab.async false
set_option linter.all false
set_option maxRecDepth 100000
set_option maxHeartbeats 8000000
namespace K12
open PySem PySem.Spec PyProof.Rows L2
/-- where returns go, as the law has it -/
def SecO (L N : List Str) (R sec : Bool) (secs : List (List St)) : Prop := sec = true ∨ (R = true ∧ ∀ c ∈ secs, oks L N true c ∧ ks c ≤ 12)
theorem SecO.snoc {L N : List Str} {R sec : Bool} {secs : List (List St)} {c : List St} (h : SecO L N R sec secs) (hc : oks L N true c) (hk : ks c ≤ 12) : SecO L N R sec (secs ++ [c]) := by
  rcases h with h | ⟨h, h2⟩
  · exact .inl h
  · refine .inr ⟨h, fun d hd => (List.mem_append.mp hd).elim (h2 d) fun z => ?_⟩
    cases List.mem_singleton.mp z
    exact ⟨hc, hk⟩
/-- a list of places under way -/
def FAt (K : PySem.W.Frag) (H : Hp) (F : Addr) (ps : List PyData) : Prop := ∃ vs, H F = some (.lst vs) ∧ DpAll K H vs ps ∧ TupDs ps
theorem FAt.tk {K : PySem.W.Frag} {H H' : Hp} {F : Addr} {ps : List PyData} {as : List Addr} (h : FAt K H F ps) (t : Tk H H') (k : Kp as H H') (n : F ∉ as) : FAt K H' F ps := by
  obtain ⟨vs, h1, h2, h3⟩ := h
  exact ⟨vs, k _ _ n h1, t.dps _ h3 h2, h3⟩
theorem FAt.same {K : PySem.W.Frag} {H H' : Hp} {F : Addr} {ps : List PyData} (h : FAt K H F ps) (s : Same H H') : FAt K H' F ps := h.tk (Tk.same s) (as := []) (Kp.of_same s) (by simp)
theorem FAt.snoc {K : PySem.W.Frag} {H : Hp} {F : Addr} {ps : List PyData} {vs : List V} {v : V} {d : PyData} (h : FAt K H F ps) (e : H F = some (.lst vs)) (hd : Dp K H v d) (td : TupD d) : FAt K (upd H F (.lst (vs ++ [v]))) F (ps ++ [d]) := by
  obtain ⟨vs', h1, h2, h3⟩ := h
  rw [h1] at e
  cases e
  have t := Tk.put h1 (.lst (vs ++ [v]))
  exact ⟨_, upd_same, dps_snoc (t.dps _ h3 h2) (t.dp _ td hd), tupds_snoc h3 td⟩
theorem FAt.put {K : PySem.W.Frag} {H : Hp} {F : Addr} {ps : List PyData} {vs : List V} {v : V} {d : PyData} (h : FAt K H F ps) (j : Nat) (e : H F = some (.lst vs)) (hd : Dp K H v d) (td : TupD d) : FAt K (upd H F (.lst (vs.set j v))) F (ps.set j d) := by
  obtain ⟨vs', h1, h2, h3⟩ := h
  rw [h1] at e
  cases e
  have t := Tk.put h1 (.lst (vs.set j v))
  refine ⟨_, upd_same, dps_set j (t.dps _ h3 h2) (t.dp _ td hd), tupds_iff.mpr fun x hx => ?_⟩
  rcases List.mem_or_eq_of_mem_set hx with z | z
  · exact tupds_iff.mp h3 x z
  · subst z; exact td
theorem rev_get {b : List St} {xs : List V} {i : Nat} {x : V} (h : xs.reverse[i]? = some x) : i < xs.length ∧ xs[xs.length - 1 - i]? = some x := by
  have hi := (List.getElem?_eq_some_iff.mp h).1
  rw [List.length_reverse] at hi
  refine ⟨hi, ?_⟩
  rw [List.getElem?_reverse hi] at h
  exact h
section
variable {P : Program} {w : World} {K : PySem.W.Frag} {mg : Str → Option Value} {base : Heap}

def spLL (K : PySem.W.Frag) (R : Bool) (n : Nat) : Sp := fun vs H Q _ => ∃ pgv bv t F S L Ps ps b secs svs sec, vs = [pgv, bv, .int t, .ref F, .ref S] ∧ PD K H pgv L Ps ∧ Ps.length ≤ 8 ∧ Dp K H bv (.tuple (ds b)) ∧ FAt K H F ps ∧ H S = some (.lst svs) ∧ DpAll K H svs (dss secs) ∧ S ≠ F ∧ ks b < n ∧ ks b ≤ 12 ∧ secs.length + n ≤ 1000 ∧ oks L (Ps.map Prod.fst) sec b ∧ SecO L (Ps.map Prod.fst) R sec secs ∧
  (layB L (Ps.map Prod.fst) (leave L (Ps.map Prod.fst) secs) b t ps).2.length ≤ 300 ∧ ∀ H', FAt K H' F (layB L (Ps.map Prod.fst) (leave L (Ps.map Prod.fst) secs) b t ps).2 → Tk H H' → Kp [F] H H' → Q (.int (layB L (Ps.map Prod.fst) (leave L (Ps.map Prod.fst) secs) b t ps).1) H'
theorem sc__law_lay : FnScope ["program", "body", "told", "found", "seconds", "letters", "names", "begin", "procedure", "statement", "word", "goal", "second", "inner", "behind", "made", "one"] ["program", "body", "told", "found", "seconds"] (C8.fnScope (topS 47)) := C8.fnScope_by (by decide +kernel)
theorem ok_lay0 {n e : Nat} {f : Addr} {fd : FuncData} (F : C8.Def K mg "_law_lay" (topS 47) f fd) (b : Binds K fd ["program", "body", "told", "found", "seconds"] []) (B : Bl K mg) (c_lay : C8.Cal P w K mg base (n + e + 2) "_law_lay" (spLL K false n) []) : C8.Cal P w K mg base (n + e + 3) "_law_lay" (spLL K false (n + 1)) [] := by
  refine C8.cal0 F b .nil sc__law_lay ?len ?body
  case len => rintro vs H Q E ⟨pgv, bv, t, F, S, L, Ps, ps, b, secs, svs, sec, rfl, _⟩; rfl
  case body =>
    rintro cdv A outer s H vs Q E hr ⟨pgv, bv, t, F, S, L, Ps, ps, b, secs, svs, sec, rfl, hpd, hp8, hd, hF, hS, hsv, nSF, hk, hk12, hsl, hok, hso, hlen, q⟩
    refine ⟨_, (pss_cons (ps_par3 (i := 5) (j := 6) (l := 7) rfl sc__law_lay.nd rfl rfl rfl (by decide) (by decide) (by decide) rfl rfl rfl (pa_cons (pe_ix ix_tup (pv 0) pe_int (fun _ _ => rfl)) (pa_cons (pe_lc (own := [("procedure", 8)]) (g := gName 8) (te := tOp (rIxT K) (tVar 8) (tC (.int 0))) (by rfl) sc__law_lay.nd (pi_tup (pe_ix ix_tup (pv 0) pe_int (fun _ _ => rfl))) (blkOk_by (own := [("procedure", 8)]) (N := ["program", "body", "told", "found", "seconds", "letters", "names", "begin", "procedure", "statement", "word", "goal", "second", "inner", "behind", "made", "one"]) (sc := (C8.fnScope (topS 47))) (by decide +kernel)) (fun _ _ _ _ _ => pg_name (i := 8) sc__law_lay.nd rfl (Or.inl rfl)) (fun _ _ _ _ _ => pts_nil) (fun _ _ _ _ _ => by exact (pe_ix ix_tup (pv 8) pe_int (fun _ _ => rfl)))) (pa_cons (pv 2) pa_nil))) (by with_unfolding_all rfl))
    (pss_cons (ps_for PassesOwn.never rfl (pi_tup (UG.pe_revT (pv 1))) (pg_name (i := 9) sc__law_lay.nd rfl (Or.inl rfl))
    (pss_cons (ps_asg (pe_tup (pa_cons (pe_ix ix_tup (pv 9) pe_int (fun _ _ => rfl)) (pa_cons (pv 7) pa_nil))) (pg_tup rfl (pgs_cons (pg_name (i := 10) sc__law_lay.nd rfl (Or.inl rfl)) (pgs_cons (pg_name (i := 11) sc__law_lay.nd rfl (Or.inr rfl)) pgs_nil))))
    (pss_one (ps_if (pt_cmpR op_eq (pv 10) pe_str (nomark _)) pss_never (pss_one (ps_if (pt_cmpR op_eq (pv 10) pe_str (nomark _)) (pss_cons (ps_set (i := 7) sc__law_lay.nd rfl (Or.inl rfl) (pe_callB call_len_seq rfl B.len PySem.boot_len (pa_cons (pv 3) pa_nil)))
    (pss_cons (ps_expr (pe_bm PySem.F.plainAttrs_list PySem.F.slot_list_append PySem.F.type_list_append mt_append (pv 3) (pa_cons pe_non pa_nil)))
    (pss_cons (ps_set (i := 13) sc__law_lay.nd rfl (Or.inl rfl) (C8.pe_c c_lay hr (by omega) rfl (pa_cons (pv 0) (pa_cons (pe_ix ix_tup (pv 9) pe_int (fun _ _ => rfl)) (pa_cons (pv 7) (pa_cons (pv 3) (pa_cons (pv 4) pa_nil)))))))
    (pss_one (ps_asg (pe_tup (pa_cons pe_str (pa_cons (pe_tup (pa_cons (pv 13) (pa_cons (pv 11) pa_nil))) pa_nil))) (pg_sub (pv 3) (pv 7) set_list)))))) (pss_one (ps_if (pt_cmpR op_eq (pv 10) pe_str (nomark _)) (pss_cons (ps_set (i := 14) sc__law_lay.nd rfl (Or.inl rfl) (C8.pe_c c_lay hr (by omega) rfl (pa_cons (pv 0) (pa_cons (pe_ix ix_tup (pv 9) pe_int (fun _ _ => rfl)) (pa_cons (pv 11) (pa_cons (pv 3) (pa_cons (pe_lst pa_nil) pa_nil)))))))
    (pss_one (ps_set (i := 7) sc__law_lay.nd rfl (Or.inl rfl) (C8.pe_c c_lay hr (by omega) rfl (pa_cons (pv 0) (pa_cons (pe_ix ix_tup (pv 9) pe_int (fun _ _ => rfl)) (pa_cons (pv 14) (pa_cons (pv 3) (pa_cons (pe_op op_cat (pv 4) (pe_lst (pa_cons (pe_ix ix_tup (pv 9) pe_int (fun _ _ => rfl)) pa_nil))) pa_nil))))))))) (pss_cons (ps_if (pt_cmpR op_eq (pv 10) pe_str (nomark _)) (pss_one (ps_set (i := 15) sc__law_lay.nd rfl (Or.inl rfl) (pe_tup (pa_cons pe_str (pa_cons (pe_callTy call_tuple_of rfl B.tuple (by decide +kernel) (pa_cons (pe_lc (own := [("one", 16)]) (g := gName 16) (te := tCall (spLL K false n) [] C8.E0 (tCons (tVar 0) (tCons (tVar 16) (tCons (tVar 11) (tCons (tVar 3) (tCons (tVar 4) tNil)))))) (by rfl) sc__law_lay.nd (pi_tup (pe_ix ix_tup (pv 9) pe_int (fun _ _ => rfl))) (blkOk_by (own := [("one", 16)]) (N := ["program", "body", "told", "found", "seconds", "letters", "names", "begin", "procedure", "statement", "word", "goal", "second", "inner", "behind", "made", "one"]) (sc := (C8.fnScope (topS 47))) (by decide +kernel)) (fun _ _ _ _ _ => pg_name (i := 16) sc__law_lay.nd rfl (Or.inl rfl)) (fun _ _ _ _ _ => pts_nil) (fun _ _ _ _ _ => by exact (C8.pe_c c_lay hr (by omega) rfl (pa_cons (pv 0) (pa_cons (pv 16) (pa_cons (pv 11) (pa_cons (pv 3) (pa_cons (pv 4) pa_nil)))))))) pa_nil)) pa_nil))))) (pss_one (ps_if (pt_cmpR op_eq (pv 10) pe_str (nomark _)) (pss_one (ps_set (i := 15) sc__law_lay.nd rfl (Or.inl rfl) (pe_tup (pa_cons pe_str (pa_cons (pe_bm PySem.F.plainAttrs_list PySem.F.slot_list_index PySem.F.type_list_index mt_index (pv 6) (pa_cons (pe_ix ix_tup (pv 9) pe_int (fun _ _ => rfl)) pa_nil)) (pa_cons (pv 11) pa_nil)))))) (pss_one (ps_set (i := 15) sc__law_lay.nd rfl (Or.inl rfl) (pe_tup (pa_cons pe_str (pa_cons (pe_op op_mul (pe_op op_add (pe_tupIx mt_tup_index (pv 5) (pa_cons (pe_ix ix_tup (pv 9) pe_int (fun _ _ => rfl)) pa_nil)) pe_int) (pe_ifExp (pt_cmpR op_eq (pv 10) pe_str (nomark _)) pe_int (pe_un un_neg pe_int))) (pa_cons (pv 11) pa_nil)))))))))
    (pss_cons (ps_set (i := 7) sc__law_lay.nd rfl (Or.inl rfl) (pe_callB call_len_seq rfl B.len PySem.boot_len (pa_cons (pv 3) pa_nil)))
    (pss_one (ps_expr (pe_bm PySem.F.plainAttrs_list PySem.F.slot_list_append PySem.F.type_list_append mt_append (pv 3) (pa_cons (pv 15) pa_nil))))))))))))))
    (pss_one (ps_ret (pv 7))))), ?_⟩
    obtain ⟨pga, la, pvv, rfl, hps0, hla, hpv⟩ := id hpd
    obtain ⟨pa, pxs, rfl, hps, hpa, hpl⟩ := len_ok hpv
    rw [List.length_map] at hpl
    refine ⟨_, rfl, _, _, _, _, rfl, rfl, hps0, at0 _ _, _, rfl, _, _, _, _, rfl, rfl, hps0, at1 _ _ _, pa, rfl, ⟨_, hps⟩, fun Dd hDd => ?_⟩
    refine lc_tup (xs := pxs) (fun i H' => H' Dd = some (.lst (((Ps.take i).map Prod.fst).map V.str)) ∧ Same H H') ?_ ?_ ?_ ?_
    · exact ⟨by simpa using upd_same, same_new hDd _⟩
    · rintro i H' _ ⟨_, s5⟩
      exact (Tk.same s5).sqt hps
    · rintro i x H5 hx ⟨hv1, s5⟩
      obtain ⟨d, hd, hdp⟩ := dps_get' hpa hx
      obtain ⟨p, hp, rfl⟩ := procs_get hd
      have hd5 := (Tk.same s5).dp _ (tup_proc p) hdp
      obtain ⟨qa, qxs, rfl, hqs, hqa, hql⟩ := len_ok hd5
      cases hqa with
      | @cons v0 _ _ _ h0 hqa =>
      cases h0
      refine ⟨rfl, ?_⟩
      refine ⟨_, rfl, _, _, _, _, rfl, rfl, hqs, at0 _ _, _, hv1, ?_, ?_, ?_⟩
      · have h3 : (Ps.take i).length ≤ Ps.length := List.length_take_le' _ _
        exact Nat.lt_of_le_of_lt (show _ ≤ 8 by rw [List.length_map, List.length_map]; omega) (by decide)
      · rw [upd_same, List.take_succ, hp]
        simp
      · intro b o e
        rw [upd_ne (fun z => by rw [z, hDd] at e; cases e)]
        exact s5 _ _ e
    rintro H5 ⟨hv5, s5⟩
    rw [hpl, List.take_length] at hv5
    have tk5 := Tk.same s5
    have nDF : Dd ≠ F := fun z => by obtain ⟨_, h1, _⟩ := hF; rw [← z, hDd] at h1; cases h1
    obtain ⟨a, xs, rfl, hs, ha, hl⟩ := len_ok hd
    rw [ds_len] at hl
    refine ⟨_, rfl, _, _, _, rfl, ?_⟩
    refine ⟨_, rfl, a, xs, rfl, tk5.sqt hs, fun r hr5 => ⟨r, rfl, ⟨_, SqT.of upd_same⟩, ?_⟩⟩
    have s6 := s5.trans (same_new hr5 (.tup xs.reverse))
    have hr6 : upd H5 r (.tup xs.reverse) r = some (.tup xs.reverse) := upd_same
    have hD6 := (same_new hr5 (.tup xs.reverse)) _ _ hv5
    generalize upd H5 r (.tup xs.reverse) = H6 at s6 hr6 hD6
    refine for_tup (xs := xs.reverse) (fun i σ H' => ∃ b9 b10 b11 b12 b13 b14 b15 b16, σ = [some (.ref pga), some (.ref a), some (.int t), some (.ref F), some (.ref S), some (.ref la), some (.ref Dd), some (.int (layB L (Ps.map Prod.fst) (leave L (Ps.map Prod.fst) secs) (b.drop (b.length - i)) t ps).1), none, b9, b10, b11, b12, b13, b14, b15, b16] ∧ FAt K H' F (layB L (Ps.map Prod.fst) (leave L (Ps.map Prod.fst) secs) (b.drop (b.length - i)) t ps).2 ∧ Tk H6 H' ∧ Kp [F] H6 H') ?_ ?_ ?_ ?_
    · refine ⟨none, none, none, none, none, none, none, none, ?_, ?_, Tk.refl _, Kp.refl _⟩
      · rw [Nat.sub_zero, List.drop_length]; rfl
      · rw [Nat.sub_zero, List.drop_length]; exact hF.same s6
    · rintro i σ H' _ ⟨_, _, _, _, _, _, _, _, _, _, tk, _⟩
      exact tk.sqt (SqT.of hr6)
    · rintro i x _ H7 hx ⟨b9, b10, b11, b12, b13, b14, b15, b16, rfl, F7, t7, k7⟩
      obtain ⟨hi, hx⟩ := rev_get (b := b) hx
      rw [hl] at hi
      obtain ⟨d, hdd, hdp⟩ := dps_get' ha hx
      obtain ⟨st, hsb, rfl⟩ := ds_get hdd
      rw [hl] at hsb
      have e := drop_cons hi hsb
      have hm := List.mem_of_getElem? hsb
      have hkm := ks_mem hm
      have hle := layB_le (L := L) (N := Ps.map Prod.fst) (lv := leave L (Ps.map Prod.fst) secs) b (b.length - (i + 1)) t ps (grow_leave secs)
      have hst : layB L (Ps.map Prod.fst) (leave L (Ps.map Prod.fst) secs) (b.drop (b.length - (i + 1))) t ps = layS L (Ps.map Prod.fst) (leave L (Ps.map Prod.fst) secs) st (layB L (Ps.map Prod.fst) (leave L (Ps.map Prod.fst) secs) (b.drop (b.length - i)) t ps).1 (layB L (Ps.map Prod.fst) (leave L (Ps.map Prod.fst) secs) (b.drop (b.length - i)) t ps).2 := by rw [e]; rfl
      rw [hst] at hle ⊢
      have hle2 : (layS L (Ps.map Prod.fst) (leave L (Ps.map Prod.fst) secs) st (layB L (Ps.map Prod.fst) (leave L (Ps.map Prod.fst) secs) (b.drop (b.length - i)) t ps).1 (layB L (Ps.map Prod.fst) (leave L (Ps.map Prod.fst) secs) (b.drop (b.length - i)) t ps).2).2.length ≤ 300 := Nat.le_trans hle hlen
      clear hle hst e
      generalize layB L (Ps.map Prod.fst) (leave L (Ps.map Prod.fst) secs) (b.drop (b.length - i)) t ps = r0 at F7 hle2
      obtain ⟨g, ps0⟩ := r0
      dsimp only at F7 hle2 ⊢
      have hsto := oks_iff.mp hok st hm
      have tH7 : Tk H H7 := (Tk.same s6).trans t7
      have hd7 := tH7.dp _ (tup_St st) hdp
      cases st with
      | dd x =>
        obtain ⟨sa, sxs, rfl, hss, hsa, hsl2⟩ := len_ok hd7
        cases hsa with
        | cons h0 hsa =>
        cases h0
        refine ⟨_, rfl, _, _, _, _, rfl, rfl, hss, at0 _ _, _, rfl, (by show 2 ≤ sizeLine; decide), fun tp htp => ?_⟩
        have sT := same_new htp (.tup [.str "do", .int g])
        refine ⟨tp, _, rfl, SqT.of upd_same, rfl, _, _, rfl, _, _, rfl, rfl, ?_⟩
        have F8 := F7.same sT
        have t8 := t7.trans (Tk.same sT)
        have k8 : Kp [F] H6 (upd H7 tp (.tup [.str "do", .int g])) := k7.trans (Kp.of_same sT)
        have hss8 := sqt_ext (same_ext sT) hss
        have hsa8 := dps_ext (same_ext sT) _ hsa
        generalize upd H7 tp (.tup [.str "do", .int g]) = H8 at F8 t8 k8 hss8 hsa8
        have tH8 : Tk H H8 := (Tk.same s6).trans t8
        have hla8 := hla.tk tH8
        have hS8 : H8 S = some (.lst svs) := k8 _ _ (by simpa using nSF) (s6 _ _ hS)
        have hsv8 := tH8.dps _ (tup_dss secs) hsv
        have hpd8 := hpd.tk tH8
        have hD8 : H8 Dd = some (.lst (((Ps.map Prod.fst)).map V.str)) := k8 _ _ (by simpa using nDF) hD6
        obtain ⟨vs8, hF81, hF82, hF83⟩ := id F8
        have hvl := dps_len hF82
        refine ⟨_, rfl, rfl, _, rfl, ?_⟩
        rw [dec_str]
        refine ifF (by decide +kernel) ?_
        refine ⟨_, rfl, rfl, _, rfl, ?_⟩
        rw [dec_str]
        refine ifF (by decide +kernel) ?_
        refine ⟨_, rfl, rfl, _, rfl, ?_⟩
        rw [dec_str]
        refine ifF (by decide +kernel) ?_
        refine ⟨_, rfl, rfl, _, rfl, ?_⟩
        rw [dec_str]
        refine ifF (by decide +kernel) ?_
        refine ⟨_, rfl, rfl, _, rfl, ?_⟩
        rw [dec_str]
        refine ifF (by decide +kernel) ?_
        have hlt : vs8.length < sizeLine := Nat.lt_of_le_of_lt (show vs8.length ≤ 300 by rw [layS, List.length_append] at hle2; omega) (by decide)
        cases hsa8 with
        | cons hx ha =>
        cases hx
        have hin : x ∈ L := hsto
        obtain ⟨g1, g2⟩ := idx_get hin
        refine ⟨_, rfl, ⟨la, _, rfl, hla8⟩, _, rfl, _, _, _, _, rfl, rfl, hss8, at1 _ _ _, la, L, x, _, rfl, rfl, hla8.sq, g1, g2, _, _, rfl, rfl, _, rfl, rfl, _, rfl, ?_⟩
        rw [dec_str]
        refine ifT (by decide +kernel) ?_
        refine ⟨_, _, rfl, rfl, .inr ⟨by decide, by decide⟩, _, rfl, (by show 3 ≤ sizeLine; decide), fun z hz => ?_⟩
        have ei : (((L.findIdx (· == x) : Nat) : Int) + 1) * 1 = idx x L + 1 := by unfold idx; omega
        have sz := same_new hz (.tup [.str "letter", .int ((((L.findIdx (· == x) : Nat) : Int) + 1) * 1), .int g])
        have hFz := sz _ _ hF81
        refine ⟨_, rfl, F, _, rfl, .inl (SqL.of hFz), ?_⟩
        refine ⟨_, rfl, .inl ⟨rfl, _, SqL.of hFz⟩, _, rfl, F, _, _, rfl, rfl, hFz, hlt, ?_⟩
        have Fz := (F8.same sz).snoc hFz (v := .ref z) (.tup (SqT.of upd_same) (.cons (.str _) (.cons (.int _) (.cons (.int _) .nil)))) ⟨trivial, trivial, trivial, trivial⟩
        exact ⟨_, _, _, _, _, _, _, _, (by rw [hvl]; rfl), (by rw [layS, ← ei]; exact Fz), t8.trans ((Tk.same sz).trans (Tk.put hFz _)), k8.trans ((Kp.of_same sz).trans (Kp.put _ (by simp)))⟩
      | ud x =>
        obtain ⟨sa, sxs, rfl, hss, hsa, hsl2⟩ := len_ok hd7
        cases hsa with
        | cons h0 hsa =>
        cases h0
        refine ⟨_, rfl, _, _, _, _, rfl, rfl, hss, at0 _ _, _, rfl, (by show 2 ≤ sizeLine; decide), fun tp htp => ?_⟩
        have sT := same_new htp (.tup [.str "undo", .int g])
        refine ⟨tp, _, rfl, SqT.of upd_same, rfl, _, _, rfl, _, _, rfl, rfl, ?_⟩
        have F8 := F7.same sT
        have t8 := t7.trans (Tk.same sT)
        have k8 : Kp [F] H6 (upd H7 tp (.tup [.str "undo", .int g])) := k7.trans (Kp.of_same sT)
        have hss8 := sqt_ext (same_ext sT) hss
        have hsa8 := dps_ext (same_ext sT) _ hsa
        generalize upd H7 tp (.tup [.str "undo", .int g]) = H8 at F8 t8 k8 hss8 hsa8
        have tH8 : Tk H H8 := (Tk.same s6).trans t8
        have hla8 := hla.tk tH8
        have hS8 : H8 S = some (.lst svs) := k8 _ _ (by simpa using nSF) (s6 _ _ hS)
        have hsv8 := tH8.dps _ (tup_dss secs) hsv
        have hpd8 := hpd.tk tH8
        have hD8 : H8 Dd = some (.lst (((Ps.map Prod.fst)).map V.str)) := k8 _ _ (by simpa using nDF) hD6
        obtain ⟨vs8, hF81, hF82, hF83⟩ := id F8
        have hvl := dps_len hF82
        refine ⟨_, rfl, rfl, _, rfl, ?_⟩
        rw [dec_str]
        refine ifF (by decide +kernel) ?_
        refine ⟨_, rfl, rfl, _, rfl, ?_⟩
        rw [dec_str]
        refine ifF (by decide +kernel) ?_
        refine ⟨_, rfl, rfl, _, rfl, ?_⟩
        rw [dec_str]
        refine ifF (by decide +kernel) ?_
        refine ⟨_, rfl, rfl, _, rfl, ?_⟩
        rw [dec_str]
        refine ifF (by decide +kernel) ?_
        refine ⟨_, rfl, rfl, _, rfl, ?_⟩
        rw [dec_str]
        refine ifF (by decide +kernel) ?_
        have hlt : vs8.length < sizeLine := Nat.lt_of_le_of_lt (show vs8.length ≤ 300 by rw [layS, List.length_append] at hle2; omega) (by decide)
        cases hsa8 with
        | cons hx ha =>
        cases hx
        have hin : x ∈ L := hsto
        obtain ⟨g1, g2⟩ := idx_get hin
        refine ⟨_, rfl, ⟨la, _, rfl, hla8⟩, _, rfl, _, _, _, _, rfl, rfl, hss8, at1 _ _ _, la, L, x, _, rfl, rfl, hla8.sq, g1, g2, _, _, rfl, rfl, _, rfl, rfl, _, rfl, ?_⟩
        rw [dec_str]
        refine ifF (by decide +kernel) ?_
        refine ⟨_, rfl, _, _, rfl, rfl, .inr ⟨by decide, by decide⟩, _, rfl, (by show 3 ≤ sizeLine; decide), fun z hz => ?_⟩
        have ei : (((L.findIdx (· == x) : Nat) : Int) + 1) * -1 = -idx x L - 1 := by unfold idx; omega
        have sz := same_new hz (.tup [.str "letter", .int ((((L.findIdx (· == x) : Nat) : Int) + 1) * -1), .int g])
        have hFz := sz _ _ hF81
        refine ⟨_, rfl, F, _, rfl, .inl (SqL.of hFz), ?_⟩
        refine ⟨_, rfl, .inl ⟨rfl, _, SqL.of hFz⟩, _, rfl, F, _, _, rfl, rfl, hFz, hlt, ?_⟩
        have Fz := (F8.same sz).snoc hFz (v := .ref z) (.tup (SqT.of upd_same) (.cons (.str _) (.cons (.int _) (.cons (.int _) .nil)))) ⟨trivial, trivial, trivial, trivial⟩
        exact ⟨_, _, _, _, _, _, _, _, (by rw [hvl]; rfl), (by rw [layS, ← ei]; exact Fz), t8.trans ((Tk.same sz).trans (Tk.put hFz _)), k8.trans ((Kp.of_same sz).trans (Kp.put _ (by simp)))⟩
      | cl x =>
        obtain ⟨sa, sxs, rfl, hss, hsa, hsl2⟩ := len_ok hd7
        cases hsa with
        | cons h0 hsa =>
        cases h0
        refine ⟨_, rfl, _, _, _, _, rfl, rfl, hss, at0 _ _, _, rfl, (by show 2 ≤ sizeLine; decide), fun tp htp => ?_⟩
        have sT := same_new htp (.tup [.str "call", .int g])
        refine ⟨tp, _, rfl, SqT.of upd_same, rfl, _, _, rfl, _, _, rfl, rfl, ?_⟩
        have F8 := F7.same sT
        have t8 := t7.trans (Tk.same sT)
        have k8 : Kp [F] H6 (upd H7 tp (.tup [.str "call", .int g])) := k7.trans (Kp.of_same sT)
        have hss8 := sqt_ext (same_ext sT) hss
        have hsa8 := dps_ext (same_ext sT) _ hsa
        generalize upd H7 tp (.tup [.str "call", .int g]) = H8 at F8 t8 k8 hss8 hsa8
        have tH8 : Tk H H8 := (Tk.same s6).trans t8
        have hla8 := hla.tk tH8
        have hS8 : H8 S = some (.lst svs) := k8 _ _ (by simpa using nSF) (s6 _ _ hS)
        have hsv8 := tH8.dps _ (tup_dss secs) hsv
        have hpd8 := hpd.tk tH8
        have hD8 : H8 Dd = some (.lst (((Ps.map Prod.fst)).map V.str)) := k8 _ _ (by simpa using nDF) hD6
        obtain ⟨vs8, hF81, hF82, hF83⟩ := id F8
        have hvl := dps_len hF82
        refine ⟨_, rfl, rfl, _, rfl, ?_⟩
        rw [dec_str]
        refine ifF (by decide +kernel) ?_
        refine ⟨_, rfl, rfl, _, rfl, ?_⟩
        rw [dec_str]
        refine ifF (by decide +kernel) ?_
        refine ⟨_, rfl, rfl, _, rfl, ?_⟩
        rw [dec_str]
        refine ifF (by decide +kernel) ?_
        refine ⟨_, rfl, rfl, _, rfl, ?_⟩
        rw [dec_str]
        refine ifF (by decide +kernel) ?_
        refine ⟨_, rfl, rfl, _, rfl, ?_⟩
        rw [dec_str]
        refine ifT (by decide +kernel) ?_
        have hlt : vs8.length < sizeLine := Nat.lt_of_le_of_lt (show vs8.length ≤ 300 by rw [layS, List.length_append] at hle2; omega) (by decide)
        cases hsa8 with
        | cons hx ha =>
        cases hx
        have hin : x ∈ (Ps.map Prod.fst) := hsto
        obtain ⟨g1, g2⟩ := idx_get hin
        refine ⟨_, rfl, .inl ⟨rfl, _, SqL.of hD8⟩, _, rfl, _, _, _, _, rfl, rfl, hss8, at1 _ _ _, Dd, _, .str x, ((Ps.map Prod.fst)).findIdx (· == x), .str x, rfl, rfl, SqL.of hD8, rfl, flat_strs _, by rw [List.getElem?_map, g1]; rfl, by rw [eqv_strs]; simp, fun m z hm hz => ?_, _, rfl, (by show 3 ≤ sizeLine; decide), fun z hz => ?_⟩
        · rw [List.getElem?_map] at hz
          cases e : ((Ps.map Prod.fst))[m]? with
          | none => rw [e] at hz; cases hz
          | some y =>
            rw [e] at hz
            cases hz
            rw [eqv_strs]
            exact decide_eq_false fun z => g2 m hm (by rw [e, z])
        have sz := same_new hz (.tup [.str "call", .int ((((Ps.map Prod.fst)).findIdx (· == x) : Nat) : Int), .int g])
        have hFz := sz _ _ hF81
        refine ⟨_, rfl, F, _, rfl, .inl (SqL.of hFz), ?_⟩
        refine ⟨_, rfl, .inl ⟨rfl, _, SqL.of hFz⟩, _, rfl, F, _, _, rfl, rfl, hFz, hlt, ?_⟩
        have Fz := (F8.same sz).snoc hFz (v := .ref z) (.tup (SqT.of upd_same) (.cons (.str _) (.cons (.int _) (.cons (.int _) .nil)))) ⟨trivial, trivial, trivial, trivial⟩
        exact ⟨_, _, _, _, _, _, _, _, (by rw [hvl]; rfl), Fz, t8.trans ((Tk.same sz).trans (Tk.put hFz _)), k8.trans ((Kp.of_same sz).trans (Kp.put _ (by simp)))⟩
      | ch bs =>
        obtain ⟨sa, sxs, rfl, hss, hsa, hsl2⟩ := len_ok hd7
        cases hsa with
        | cons h0 hsa =>
        cases h0
        refine ⟨_, rfl, _, _, _, _, rfl, rfl, hss, at0 _ _, _, rfl, (by show 2 ≤ sizeLine; decide), fun tp htp => ?_⟩
        have sT := same_new htp (.tup [.str "choose", .int g])
        refine ⟨tp, _, rfl, SqT.of upd_same, rfl, _, _, rfl, _, _, rfl, rfl, ?_⟩
        have F8 := F7.same sT
        have t8 := t7.trans (Tk.same sT)
        have k8 : Kp [F] H6 (upd H7 tp (.tup [.str "choose", .int g])) := k7.trans (Kp.of_same sT)
        have hss8 := sqt_ext (same_ext sT) hss
        have hsa8 := dps_ext (same_ext sT) _ hsa
        generalize upd H7 tp (.tup [.str "choose", .int g]) = H8 at F8 t8 k8 hss8 hsa8
        have tH8 : Tk H H8 := (Tk.same s6).trans t8
        have hla8 := hla.tk tH8
        have hS8 : H8 S = some (.lst svs) := k8 _ _ (by simpa using nSF) (s6 _ _ hS)
        have hsv8 := tH8.dps _ (tup_dss secs) hsv
        have hpd8 := hpd.tk tH8
        have hD8 : H8 Dd = some (.lst (((Ps.map Prod.fst)).map V.str)) := k8 _ _ (by simpa using nDF) hD6
        obtain ⟨vs8, hF81, hF82, hF83⟩ := id F8
        have hvl := dps_len hF82
        refine ⟨_, rfl, rfl, _, rfl, ?_⟩
        rw [dec_str]
        refine ifF (by decide +kernel) ?_
        refine ⟨_, rfl, rfl, _, rfl, ?_⟩
        rw [dec_str]
        refine ifF (by decide +kernel) ?_
        refine ⟨_, rfl, rfl, _, rfl, ?_⟩
        rw [dec_str]
        refine ifF (by decide +kernel) ?_
        refine ⟨_, rfl, rfl, _, rfl, ?_⟩
        rw [dec_str]
        refine ifT (by decide +kernel) ?_
        cases hsa8 with
        | @cons v1 _ _ _ hb ha =>
        obtain ⟨ra, rxs, rfl, hrs, hra, hrl⟩ := len_ok hb
        rw [dss_len] at hrl
        have hle3 := hle2
        rw [layS, List.length_append, List.length_singleton] at hle3
        have hkk : kss bs < n := by rw [St.k] at hkm; omega
        have hk122 : kss bs ≤ 12 := by rw [St.k] at hkm; omega
        refine ⟨_, rfl, _, _, _, _, rfl, rfl, hss8, at1 _ _ _, ra, rfl, ⟨_, hrs⟩, fun Ed hEd => ?_⟩
        have nEF : Ed ≠ F := fun z => by rw [z, hF81] at hEd; cases hEd
        have nES : Ed ≠ S := fun z => by rw [z, hS8] at hEd; cases hEd
        refine lc_tup (xs := rxs) (fun i H' => H' Ed = some (.lst ((layBs L (Ps.map Prod.fst) (leave L (Ps.map Prod.fst) secs) (bs.take i) g ps0).1.map V.int)) ∧ FAt K H' F (layBs L (Ps.map Prod.fst) (leave L (Ps.map Prod.fst) secs) (bs.take i) g ps0).2 ∧ Tk H8 H' ∧ Kp [F] H8 H') ?_ ?_ ?_ ?_
        · exact ⟨upd_same, F8.same (same_new hEd _), Tk.new hEd _, Kp.new _ hEd⟩
        · rintro i H' _ ⟨_, _, tk, _⟩
          exact tk.sqt hrs
        · rintro i x H9 hx ⟨hE9, F9, t9, k9⟩
          obtain ⟨d, hdd, hdp⟩ := dps_get' hra hx
          obtain ⟨b2, hb2, rfl⟩ := dss_get hdd
          have hm2 := List.mem_of_getElem? hb2
          have hkb := kss_mem hm2
          have et := layBs_take (L := L) (N := (Ps.map Prod.fst)) (lv := leave L (Ps.map Prod.fst) secs) g ps0 hb2
          have hle4 := layBs_le (L := L) (N := (Ps.map Prod.fst)) (lv := leave L (Ps.map Prod.fst) secs) bs (i + 1) g ps0 (grow_leave secs)
          rw [et] at hle4
          dsimp only at hle4
          have hS9 := k9 _ _ (by simpa using nSF) hS8
          refine ⟨rfl, ?_⟩
          refine ⟨_, rfl, _, rfl, _, rfl, _, rfl, _, rfl, .ref pga, x, g, F, S, L, Ps, _, b2, secs, svs, sec, rfl, hpd8.tk t9, hp8, t9.dp (.tuple (ds b2)) (tup_ds b2) hdp, F9, hS9, t9.dps _ (tup_dss secs) hsv8, nSF, by omega, by omega, by omega, okss_iff.mp hsto.2.2 b2 hm2, hso, by omega, fun H10 F10 t10 k10 => ?_⟩
          have hE10 := k10 _ _ (by simpa using nEF) hE9
          refine ⟨_, hE10, Nat.lt_of_le_of_lt (show _ ≤ 6 by rw [List.length_map, layBs_len, List.length_take]; have := hsto.2.1; omega) (by decide), ?_, ?_, ?_, ?_⟩
          · rw [et, List.map_append]
            exact upd_same
          · rw [et]
            exact F10.tk (Tk.put hE10 _) (as := [Ed]) (Kp.put _ (by simp)) (by simpa using Ne.symm nEF)
          · exact t9.trans (t10.trans (Tk.put hE10 _))
          · intro qq oo nq e
            rw [upd_ne (fun z => by rw [z, hEd] at e; cases e)]
            exact k10 _ _ nq (k9 _ _ nq e)
        · rintro H9 ⟨hE9, F9, t9, k9⟩
          rw [hrl, List.take_length] at hE9 F9
          obtain ⟨vs9, hF91, hF92, hF93⟩ := id F9
          have hvl9 := dps_len hF92
          refine ⟨Ed, _, rfl, .inl ⟨SqL.of hE9, fun z hz => ⟨(by show 2 ≤ sizeLine; decide), fun w hw => ?_⟩⟩⟩
          have nzw : z ≠ w := fun q => by rw [← q, upd_same] at hw; cases hw
          have sP := (same_new hz (.tup ((layBs L (Ps.map Prod.fst) (leave L (Ps.map Prod.fst) secs) bs g ps0).1.map V.int))).trans (same_new hw (.tup [.str "fork", .ref z]))
          have hFP := sP _ _ hF91
          have hlt : vs9.length < sizeLine := Nat.lt_of_le_of_lt (show vs9.length ≤ 300 by omega) (by decide)
          refine ⟨_, rfl, F, _, rfl, .inl (SqL.of hFP), ?_⟩
          refine ⟨_, rfl, .inl ⟨rfl, _, SqL.of hFP⟩, _, rfl, F, _, _, rfl, rfl, hFP, hlt, ?_⟩
          have Fz := (F9.same sP).snoc hFP (v := .ref w) (d := .tuple [.str "fork", .tuple ((layBs L (Ps.map Prod.fst) (leave L (Ps.map Prod.fst) secs) bs g ps0).1.map .int)]) (.tup (SqT.of upd_same) (.cons (.str _) (.cons (.tup (SqT.of (by rw [upd_ne nzw]; exact upd_same)) (dp_intsT _)) .nil))) ⟨trivial, tup_intsT _, trivial⟩
          exact ⟨_, _, _, _, _, _, _, _, (by rw [hvl9]; rfl), Fz, t8.trans (t9.trans ((Tk.same sP).trans (Tk.put hFP _))), k8.trans (k9.trans ((Kp.of_same sP).trans (Kp.put _ (by simp))))⟩
      | lp b2 =>
        obtain ⟨sa, sxs, rfl, hss, hsa, hsl2⟩ := len_ok hd7
        cases hsa with
        | cons h0 hsa =>
        cases h0
        refine ⟨_, rfl, _, _, _, _, rfl, rfl, hss, at0 _ _, _, rfl, (by show 2 ≤ sizeLine; decide), fun tp htp => ?_⟩
        have sT := same_new htp (.tup [.str "loop", .int g])
        refine ⟨tp, _, rfl, SqT.of upd_same, rfl, _, _, rfl, _, _, rfl, rfl, ?_⟩
        have F8 := F7.same sT
        have t8 := t7.trans (Tk.same sT)
        have k8 : Kp [F] H6 (upd H7 tp (.tup [.str "loop", .int g])) := k7.trans (Kp.of_same sT)
        have hss8 := sqt_ext (same_ext sT) hss
        have hsa8 := dps_ext (same_ext sT) _ hsa
        generalize upd H7 tp (.tup [.str "loop", .int g]) = H8 at F8 t8 k8 hss8 hsa8
        have tH8 : Tk H H8 := (Tk.same s6).trans t8
        have hla8 := hla.tk tH8
        have hS8 : H8 S = some (.lst svs) := k8 _ _ (by simpa using nSF) (s6 _ _ hS)
        have hsv8 := tH8.dps _ (tup_dss secs) hsv
        have hpd8 := hpd.tk tH8
        have hD8 : H8 Dd = some (.lst (((Ps.map Prod.fst)).map V.str)) := k8 _ _ (by simpa using nDF) hD6
        obtain ⟨vs8, hF81, hF82, hF83⟩ := id F8
        have hvl := dps_len hF82
        refine ⟨_, rfl, rfl, _, rfl, ?_⟩
        rw [dec_str]
        refine ifF (by decide +kernel) ?_
        refine ⟨_, rfl, rfl, _, rfl, ?_⟩
        rw [dec_str]
        refine ifT (by decide +kernel) ?_
        cases hsa8 with
        | @cons v1 _ _ _ hb ha =>
        have hg0 := grow_B L (Ps.map Prod.fst) b2 (ps0.length : Nat) (ps0 ++ [.none]) (grow_leave (L := L) (N := (Ps.map Prod.fst)) secs)
        rw [List.length_append, List.length_singleton] at hg0
        have hle3 := hle2
        rw [layS, List.length_set] at hle3
        have hlt : vs8.length < sizeLine := Nat.lt_of_le_of_lt (show vs8.length ≤ 300 by omega) (by decide)
        have hkb : ks b2 < n := by rw [St.k] at hkm; omega
        refine ⟨_, rfl, F, _, rfl, .inl (SqL.of hF81), ?_⟩
        refine ⟨_, rfl, .inl ⟨rfl, _, SqL.of hF81⟩, F, _, _, rfl, rfl, hF81, hlt, ?_⟩
        have F9 := F8.snoc hF81 (v := .non) .non trivial
        have t9 : Tk H8 (upd H8 F (.lst (vs8 ++ [.non]))) := Tk.put hF81 _
        have k9 : Kp [F] H8 (upd H8 F (.lst (vs8 ++ [.non]))) := Kp.put _ (by simp)
        have hS9 := k9 _ _ (by simpa using nSF) hS8
        refine ⟨_, rfl, _, rfl, _, _, _, _, rfl, rfl, t9.sqt hss8, at1 _ _ _, _, rfl, _, rfl, _, rfl, .ref pga, v1, _, F, S, L, Ps, ps0 ++ [.none], b2, secs, svs, sec, rfl, hpd8.tk t9, hp8, t9.dp (.tuple (ds b2)) (tup_ds b2) hb, F9, hS9, t9.dps _ (tup_dss secs) hsv8, nSF, hkb, (by rw [St.k] at hkm; omega), by omega, hsto, hso, (by rw [hvl]; exact hle3), fun H10 F10 t10 k10 => ?_⟩
        rw [hvl] at F10 ⊢
        obtain ⟨vs10, hF101, hF102, hF103⟩ := id F10
        have hvl10 := dps_len hF102
        refine ⟨_, rfl, _, rfl, (by show 2 ≤ sizeLine; decide), fun p1 hp1 => ⟨(by show 2 ≤ sizeLine; decide), fun p2 hp2 => ?_⟩⟩
        have n12 : p1 ≠ p2 := fun z => by rw [← z, upd_same] at hp2; cases hp2
        refine ⟨_, rfl, _, rfl, F, vs10, _, ps0.length, rfl, rfl, ?_, ix_nat (by omega), ?_⟩
        · have nF1 : F ≠ p1 := fun z => by rw [← z, hF101] at hp1; cases hp1
          have nF2 : F ≠ p2 := fun z => by rw [← z, upd_ne nF1, hF101] at hp2; cases hp2
          rw [upd_ne nF2, upd_ne nF1]
          exact hF101
        · have nF1 : F ≠ p1 := fun z => by rw [← z, hF101] at hp1; cases hp1
          have nF2 : F ≠ p2 := fun z => by rw [← z, upd_ne nF1, hF101] at hp2; cases hp2
          have sP := (same_new hp1 (.tup [.int (layB L (Ps.map Prod.fst) (leave L (Ps.map Prod.fst) secs) b2 (ps0.length : Nat) (ps0 ++ [.none])).1, .int g])).trans (same_new hp2 (.tup [.str "fork", .ref p1]))
          have hFP := sP _ _ hF101
          have FP := (F10.same sP).put ps0.length hFP (v := .ref p2) (d := .tuple [.str "fork", .tuple [.int (layB L (Ps.map Prod.fst) (leave L (Ps.map Prod.fst) secs) b2 (ps0.length : Nat) (ps0 ++ [.none])).1, .int g]]) (.tup (SqT.of upd_same) (.cons (.str _) (.cons (.tup (SqT.of (by rw [upd_ne n12]; exact upd_same)) (.cons (.int _) (.cons (.int _) .nil))) .nil))) ⟨trivial, ⟨trivial, trivial, trivial⟩, trivial⟩
          refine ⟨_, _, _, _, _, _, _, _, rfl, ?_, t8.trans (t9.trans (t10.trans ((Tk.same sP).trans (Tk.put hFP _)))), k8.trans (k9.trans (k10.trans ((Kp.of_same sP).trans (Kp.put _ (by simp)))))⟩
          rw [layS]
          exact FP
      | rt =>
        obtain ⟨sa, sxs, rfl, hss, hsa, hsl2⟩ := len_ok hd7
        cases hsa with
        | cons h0 hsa =>
        cases h0
        refine ⟨_, rfl, _, _, _, _, rfl, rfl, hss, at0 _ _, _, rfl, (by show 2 ≤ sizeLine; decide), fun tp htp => ?_⟩
        have sT := same_new htp (.tup [.str "return", .int g])
        refine ⟨tp, _, rfl, SqT.of upd_same, rfl, _, _, rfl, _, _, rfl, rfl, ?_⟩
        have F8 := F7.same sT
        have t8 := t7.trans (Tk.same sT)
        have k8 : Kp [F] H6 (upd H7 tp (.tup [.str "return", .int g])) := k7.trans (Kp.of_same sT)
        have hss8 := sqt_ext (same_ext sT) hss
        have hsa8 := dps_ext (same_ext sT) _ hsa
        generalize upd H7 tp (.tup [.str "return", .int g]) = H8 at F8 t8 k8 hss8 hsa8
        have tH8 : Tk H H8 := (Tk.same s6).trans t8
        have hla8 := hla.tk tH8
        have hS8 : H8 S = some (.lst svs) := k8 _ _ (by simpa using nSF) (s6 _ _ hS)
        have hsv8 := tH8.dps _ (tup_dss secs) hsv
        have hpd8 := hpd.tk tH8
        have hD8 : H8 Dd = some (.lst (((Ps.map Prod.fst)).map V.str)) := k8 _ _ (by simpa using nDF) hD6
        obtain ⟨vs8, hF81, hF82, hF83⟩ := id F8
        have hvl := dps_len hF82
        refine ⟨_, rfl, rfl, _, rfl, ?_⟩
        rw [dec_str]
        refine ifT (by decide +kernel) ?_
        rcases hso with h | ⟨h, _⟩
        · have h2 : sec = false := hsto
          rw [h] at h2
          cases h2
        · cases h
      | en b2 c =>
        obtain ⟨sa, sxs, rfl, hss, hsa, hsl2⟩ := len_ok hd7
        cases hsa with
        | cons h0 hsa =>
        cases h0
        refine ⟨_, rfl, _, _, _, _, rfl, rfl, hss, at0 _ _, _, rfl, (by show 2 ≤ sizeLine; decide), fun tp htp => ?_⟩
        have sT := same_new htp (.tup [.str "ensure", .int g])
        refine ⟨tp, _, rfl, SqT.of upd_same, rfl, _, _, rfl, _, _, rfl, rfl, ?_⟩
        have F8 := F7.same sT
        have t8 := t7.trans (Tk.same sT)
        have k8 : Kp [F] H6 (upd H7 tp (.tup [.str "ensure", .int g])) := k7.trans (Kp.of_same sT)
        have hss8 := sqt_ext (same_ext sT) hss
        have hsa8 := dps_ext (same_ext sT) _ hsa
        generalize upd H7 tp (.tup [.str "ensure", .int g]) = H8 at F8 t8 k8 hss8 hsa8
        have tH8 : Tk H H8 := (Tk.same s6).trans t8
        have hla8 := hla.tk tH8
        have hS8 : H8 S = some (.lst svs) := k8 _ _ (by simpa using nSF) (s6 _ _ hS)
        have hsv8 := tH8.dps _ (tup_dss secs) hsv
        have hpd8 := hpd.tk tH8
        have hD8 : H8 Dd = some (.lst (((Ps.map Prod.fst)).map V.str)) := k8 _ _ (by simpa using nDF) hD6
        obtain ⟨vs8, hF81, hF82, hF83⟩ := id F8
        have hvl := dps_len hF82
        refine ⟨_, rfl, rfl, _, rfl, ?_⟩
        rw [dec_str]
        refine ifF (by decide +kernel) ?_
        refine ⟨_, rfl, rfl, _, rfl, ?_⟩
        rw [dec_str]
        refine ifF (by decide +kernel) ?_
        refine ⟨_, rfl, rfl, _, rfl, ?_⟩
        rw [dec_str]
        refine ifT (by decide +kernel) ?_
        cases hsa8 with
        | @cons v1 _ _ _ hb ha =>
        cases ha with
        | @cons v2 _ _ _ hc ha =>
        have e1 : layS L (Ps.map Prod.fst) (leave L (Ps.map Prod.fst) secs) (.en b2 c) g ps0 = layB L (Ps.map Prod.fst) (leave L (Ps.map Prod.fst) (secs ++ [c])) b2 (layB L (Ps.map Prod.fst) (leave L (Ps.map Prod.fst) []) c g ps0).1 (layB L (Ps.map Prod.fst) (leave L (Ps.map Prod.fst) []) c g ps0).2 := by rw [leave_app, layS]; rfl
        rw [e1] at hle2 ⊢
        have hg0 := grow_B L (Ps.map Prod.fst) b2 (layB L (Ps.map Prod.fst) (leave L (Ps.map Prod.fst) []) c g ps0).1 (layB L (Ps.map Prod.fst) (leave L (Ps.map Prod.fst) []) c g ps0).2 (grow_leave (L := L) (N := (Ps.map Prod.fst)) (secs ++ [c]))
        have hkb : ks b2 < n ∧ ks c < n := by rw [St.k] at hkm; omega
        have hkb2 : ks b2 ≤ 12 ∧ ks c ≤ 12 := by rw [St.k] at hkm; omega
        refine ⟨_, rfl, _, rfl, _, _, _, _, rfl, rfl, hss8, at2 _ _ _ _, _, rfl, _, rfl, (by show 0 ≤ sizeLine; decide), fun z hz => ?_⟩
        have sz := same_new hz (.lst [])
        have nzF : z ≠ F := fun q => by rw [q, hF81] at hz; cases hz
        refine ⟨.ref pga, v2, _, F, z, L, Ps, ps0, c, [], [], true, rfl, hpd8.tk (Tk.same sz), hp8, dp_ext (same_ext sz) _ hc, F8.same sz, upd_same, .nil, nzF, hkb.2, hkb2.2, by simp; omega, hsto.2, .inl rfl, by omega, fun H9 F9 t9 k9 => ?_⟩
        have t89 : Tk H8 H9 := (Tk.same sz).trans t9
        have k89 : Kp [F] H8 H9 := (Kp.of_same sz).trans k9
        have hS9 := k89 _ _ (by simpa using nSF) hS8
        have hsvl : svs.length = secs.length := by rw [dps_len hsv8, dss_len]
        refine ⟨_, rfl, _, rfl, _, _, _, _, rfl, rfl, t89.sqt hss8, at1 _ _ _, _, rfl, _, rfl, _, rfl, _, rfl, _, _, _, _, rfl, rfl, t89.sqt hss8, at2 _ _ _ _, (by show 1 ≤ sizeLine; decide), fun w hw => ?_⟩
        have sw := same_new hw (.lst [v2])
        have nSw : S ≠ w := fun q => by rw [← q, hS9] at hw; cases hw
        refine ⟨S, w, _, _, rfl, rfl, by rw [upd_ne nSw]; exact hS9, upd_same, Nat.le_trans (show (svs.length + 1) ≤ 1001 by omega) (by decide), fun y hy => ?_⟩
        have sy := sw.trans (same_new hy (.lst (svs ++ [v2])))
        have nyF : y ≠ F := fun q => by
          obtain ⟨_, h1, _⟩ := F9.same sw
          rw [q, h1] at hy
          cases hy
        have t8y : Tk H8 (upd (upd H9 w (.lst [v2])) y (.lst (svs ++ [v2]))) := t89.trans (Tk.same sy)
        refine ⟨.ref pga, v1, _, F, y, L, Ps, _, b2, secs ++ [c], _, sec, rfl, hpd8.tk t8y, hp8, t8y.dp (.tuple (ds b2)) (tup_ds b2) hb, F9.same sy, upd_same, ?_, nyF, hkb.1, hkb2.1, (by rw [List.length_append, List.length_singleton]; omega), hsto.1, hso.snoc hsto.2 hkb2.2, hle2, fun H10 F10 t10 k10 => ?_⟩
        · rw [dss_snoc]
          exact dps_app (t8y.dps _ (tup_dss secs) hsv8) (.cons (t8y.dp (.tuple (ds c)) (tup_ds c) hc) .nil)
        · exact ⟨_, _, _, _, _, _, _, _, rfl, F10, t8.trans (t8y.trans t10), k8.trans (k89.trans ((Kp.of_same sy).trans k10))⟩
    · rintro σ H1 ⟨b9, b10, b11, b12, b13, b14, b15, b16, rfl, F1, t1, k1⟩
      rw [List.length_reverse, hl, Nat.sub_self, List.drop_zero] at *
      exact ⟨_, rfl, q H1 F1 ((Tk.same s6).trans t1) ((Kp.of_same s6).trans k1)⟩
theorem ok_lay1 {n e : Nat} {f : Addr} {fd : FuncData} (F : C8.Def K mg "_law_lay" (topS 47) f fd) (b : Binds K fd ["program", "body", "told", "found", "seconds"] []) (B : Bl K mg) (c_lay : C8.Cal P w K mg base (n + e + 2) "_law_lay" (spLL K true n) []) (c_lay0 : C8.Cal P w K mg base (e + 2) "_law_lay" (spLL K false 13) []) : C8.Cal P w K mg base (n + e + 3) "_law_lay" (spLL K true (n + 1)) [] := by
  refine C8.cal0 F b .nil sc__law_lay ?len ?body
  case len => rintro vs H Q E ⟨pgv, bv, t, F, S, L, Ps, ps, b, secs, svs, sec, rfl, _⟩; rfl
  case body =>
    rintro cdv A outer s H vs Q E hr ⟨pgv, bv, t, F, S, L, Ps, ps, b, secs, svs, sec, rfl, hpd, hp8, hd, hF, hS, hsv, nSF, hk, hk12, hsl, hok, hso, hlen, q⟩
    refine ⟨_, (pss_cons (ps_par3 (i := 5) (j := 6) (l := 7) rfl sc__law_lay.nd rfl rfl rfl (by decide) (by decide) (by decide) rfl rfl rfl (pa_cons (pe_ix ix_tup (pv 0) pe_int (fun _ _ => rfl)) (pa_cons (pe_lc (own := [("procedure", 8)]) (g := gName 8) (te := tOp (rIxT K) (tVar 8) (tC (.int 0))) (by rfl) sc__law_lay.nd (pi_tup (pe_ix ix_tup (pv 0) pe_int (fun _ _ => rfl))) (blkOk_by (own := [("procedure", 8)]) (N := ["program", "body", "told", "found", "seconds", "letters", "names", "begin", "procedure", "statement", "word", "goal", "second", "inner", "behind", "made", "one"]) (sc := (C8.fnScope (topS 47))) (by decide +kernel)) (fun _ _ _ _ _ => pg_name (i := 8) sc__law_lay.nd rfl (Or.inl rfl)) (fun _ _ _ _ _ => pts_nil) (fun _ _ _ _ _ => by exact (pe_ix ix_tup (pv 8) pe_int (fun _ _ => rfl)))) (pa_cons (pv 2) pa_nil))) (by with_unfolding_all rfl))
    (pss_cons (ps_for PassesOwn.never rfl (pi_tup (UG.pe_revT (pv 1))) (pg_name (i := 9) sc__law_lay.nd rfl (Or.inl rfl))
    (pss_cons (ps_asg (pe_tup (pa_cons (pe_ix ix_tup (pv 9) pe_int (fun _ _ => rfl)) (pa_cons (pv 7) pa_nil))) (pg_tup rfl (pgs_cons (pg_name (i := 10) sc__law_lay.nd rfl (Or.inl rfl)) (pgs_cons (pg_name (i := 11) sc__law_lay.nd rfl (Or.inr rfl)) pgs_nil))))
    (pss_one (ps_if (pt_cmpR op_eq (pv 10) pe_str (nomark _)) (pss_cons (ps_set (i := 7) sc__law_lay.nd rfl (Or.inl rfl) pe_int)
    (pss_one (ps_for PassesOwn.never rfl (pi_list (pv 4)) (pg_name (i := 12) sc__law_lay.nd rfl (Or.inl rfl))
    (pss_one (ps_set (i := 7) sc__law_lay.nd rfl (Or.inl rfl) (C8.pe_c c_lay0 hr (by omega) rfl (pa_cons (pv 0) (pa_cons (pv 12) (pa_cons (pv 7) (pa_cons (pv 3) (pa_cons (pe_lst pa_nil) pa_nil))))))))))) (pss_one (ps_if (pt_cmpR op_eq (pv 10) pe_str (nomark _)) (pss_cons (ps_set (i := 7) sc__law_lay.nd rfl (Or.inl rfl) (pe_callB call_len_seq rfl B.len PySem.boot_len (pa_cons (pv 3) pa_nil)))
    (pss_cons (ps_expr (pe_bm PySem.F.plainAttrs_list PySem.F.slot_list_append PySem.F.type_list_append mt_append (pv 3) (pa_cons pe_non pa_nil)))
    (pss_cons (ps_set (i := 13) sc__law_lay.nd rfl (Or.inl rfl) (C8.pe_c c_lay hr (by omega) rfl (pa_cons (pv 0) (pa_cons (pe_ix ix_tup (pv 9) pe_int (fun _ _ => rfl)) (pa_cons (pv 7) (pa_cons (pv 3) (pa_cons (pv 4) pa_nil)))))))
    (pss_one (ps_asg (pe_tup (pa_cons pe_str (pa_cons (pe_tup (pa_cons (pv 13) (pa_cons (pv 11) pa_nil))) pa_nil))) (pg_sub (pv 3) (pv 7) set_list)))))) (pss_one (ps_if (pt_cmpR op_eq (pv 10) pe_str (nomark _)) (pss_cons (ps_set (i := 14) sc__law_lay.nd rfl (Or.inl rfl) (C8.pe_c c_lay hr (by omega) rfl (pa_cons (pv 0) (pa_cons (pe_ix ix_tup (pv 9) pe_int (fun _ _ => rfl)) (pa_cons (pv 11) (pa_cons (pv 3) (pa_cons (pe_lst pa_nil) pa_nil)))))))
    (pss_one (ps_set (i := 7) sc__law_lay.nd rfl (Or.inl rfl) (C8.pe_c c_lay hr (by omega) rfl (pa_cons (pv 0) (pa_cons (pe_ix ix_tup (pv 9) pe_int (fun _ _ => rfl)) (pa_cons (pv 14) (pa_cons (pv 3) (pa_cons (pe_op op_cat (pv 4) (pe_lst (pa_cons (pe_ix ix_tup (pv 9) pe_int (fun _ _ => rfl)) pa_nil))) pa_nil))))))))) (pss_cons (ps_if (pt_cmpR op_eq (pv 10) pe_str (nomark _)) (pss_one (ps_set (i := 15) sc__law_lay.nd rfl (Or.inl rfl) (pe_tup (pa_cons pe_str (pa_cons (pe_callTy call_tuple_of rfl B.tuple (by decide +kernel) (pa_cons (pe_lc (own := [("one", 16)]) (g := gName 16) (te := tCall (spLL K true n) [] C8.E0 (tCons (tVar 0) (tCons (tVar 16) (tCons (tVar 11) (tCons (tVar 3) (tCons (tVar 4) tNil)))))) (by rfl) sc__law_lay.nd (pi_tup (pe_ix ix_tup (pv 9) pe_int (fun _ _ => rfl))) (blkOk_by (own := [("one", 16)]) (N := ["program", "body", "told", "found", "seconds", "letters", "names", "begin", "procedure", "statement", "word", "goal", "second", "inner", "behind", "made", "one"]) (sc := (C8.fnScope (topS 47))) (by decide +kernel)) (fun _ _ _ _ _ => pg_name (i := 16) sc__law_lay.nd rfl (Or.inl rfl)) (fun _ _ _ _ _ => pts_nil) (fun _ _ _ _ _ => by exact (C8.pe_c c_lay hr (by omega) rfl (pa_cons (pv 0) (pa_cons (pv 16) (pa_cons (pv 11) (pa_cons (pv 3) (pa_cons (pv 4) pa_nil)))))))) pa_nil)) pa_nil))))) (pss_one (ps_if (pt_cmpR op_eq (pv 10) pe_str (nomark _)) (pss_one (ps_set (i := 15) sc__law_lay.nd rfl (Or.inl rfl) (pe_tup (pa_cons pe_str (pa_cons (pe_bm PySem.F.plainAttrs_list PySem.F.slot_list_index PySem.F.type_list_index mt_index (pv 6) (pa_cons (pe_ix ix_tup (pv 9) pe_int (fun _ _ => rfl)) pa_nil)) (pa_cons (pv 11) pa_nil)))))) (pss_one (ps_set (i := 15) sc__law_lay.nd rfl (Or.inl rfl) (pe_tup (pa_cons pe_str (pa_cons (pe_op op_mul (pe_op op_add (pe_tupIx mt_tup_index (pv 5) (pa_cons (pe_ix ix_tup (pv 9) pe_int (fun _ _ => rfl)) pa_nil)) pe_int) (pe_ifExp (pt_cmpR op_eq (pv 10) pe_str (nomark _)) pe_int (pe_un un_neg pe_int))) (pa_cons (pv 11) pa_nil)))))))))
    (pss_cons (ps_set (i := 7) sc__law_lay.nd rfl (Or.inl rfl) (pe_callB call_len_seq rfl B.len PySem.boot_len (pa_cons (pv 3) pa_nil)))
    (pss_one (ps_expr (pe_bm PySem.F.plainAttrs_list PySem.F.slot_list_append PySem.F.type_list_append mt_append (pv 3) (pa_cons (pv 15) pa_nil))))))))))))))
    (pss_one (ps_ret (pv 7))))), ?_⟩
    obtain ⟨pga, la, pvv, rfl, hps0, hla, hpv⟩ := id hpd
    obtain ⟨pa, pxs, rfl, hps, hpa, hpl⟩ := len_ok hpv
    rw [List.length_map] at hpl
    refine ⟨_, rfl, _, _, _, _, rfl, rfl, hps0, at0 _ _, _, rfl, _, _, _, _, rfl, rfl, hps0, at1 _ _ _, pa, rfl, ⟨_, hps⟩, fun Dd hDd => ?_⟩
    refine lc_tup (xs := pxs) (fun i H' => H' Dd = some (.lst (((Ps.take i).map Prod.fst).map V.str)) ∧ Same H H') ?_ ?_ ?_ ?_
    · exact ⟨by simpa using upd_same, same_new hDd _⟩
    · rintro i H' _ ⟨_, s5⟩
      exact (Tk.same s5).sqt hps
    · rintro i x H5 hx ⟨hv1, s5⟩
      obtain ⟨d, hd, hdp⟩ := dps_get' hpa hx
      obtain ⟨p, hp, rfl⟩ := procs_get hd
      have hd5 := (Tk.same s5).dp _ (tup_proc p) hdp
      obtain ⟨qa, qxs, rfl, hqs, hqa, hql⟩ := len_ok hd5
      cases hqa with
      | @cons v0 _ _ _ h0 hqa =>
      cases h0
      refine ⟨rfl, ?_⟩
      refine ⟨_, rfl, _, _, _, _, rfl, rfl, hqs, at0 _ _, _, hv1, ?_, ?_, ?_⟩
      · have h3 : (Ps.take i).length ≤ Ps.length := List.length_take_le' _ _
        exact Nat.lt_of_le_of_lt (show _ ≤ 8 by rw [List.length_map, List.length_map]; omega) (by decide)
      · rw [upd_same, List.take_succ, hp]
        simp
      · intro b o e
        rw [upd_ne (fun z => by rw [z, hDd] at e; cases e)]
        exact s5 _ _ e
    rintro H5 ⟨hv5, s5⟩
    rw [hpl, List.take_length] at hv5
    have tk5 := Tk.same s5
    have nDF : Dd ≠ F := fun z => by obtain ⟨_, h1, _⟩ := hF; rw [← z, hDd] at h1; cases h1
    obtain ⟨a, xs, rfl, hs, ha, hl⟩ := len_ok hd
    rw [ds_len] at hl
    refine ⟨_, rfl, _, _, _, rfl, ?_⟩
    refine ⟨_, rfl, a, xs, rfl, tk5.sqt hs, fun r hr5 => ⟨r, rfl, ⟨_, SqT.of upd_same⟩, ?_⟩⟩
    have s6 := s5.trans (same_new hr5 (.tup xs.reverse))
    have hr6 : upd H5 r (.tup xs.reverse) r = some (.tup xs.reverse) := upd_same
    have hD6 := (same_new hr5 (.tup xs.reverse)) _ _ hv5
    generalize upd H5 r (.tup xs.reverse) = H6 at s6 hr6 hD6
    refine for_tup (xs := xs.reverse) (fun i σ H' => ∃ b9 b10 b11 b12 b13 b14 b15 b16, σ = [some (.ref pga), some (.ref a), some (.int t), some (.ref F), some (.ref S), some (.ref la), some (.ref Dd), some (.int (layB L (Ps.map Prod.fst) (leave L (Ps.map Prod.fst) secs) (b.drop (b.length - i)) t ps).1), none, b9, b10, b11, b12, b13, b14, b15, b16] ∧ FAt K H' F (layB L (Ps.map Prod.fst) (leave L (Ps.map Prod.fst) secs) (b.drop (b.length - i)) t ps).2 ∧ Tk H6 H' ∧ Kp [F] H6 H') ?_ ?_ ?_ ?_
    · refine ⟨none, none, none, none, none, none, none, none, ?_, ?_, Tk.refl _, Kp.refl _⟩
      · rw [Nat.sub_zero, List.drop_length]; rfl
      · rw [Nat.sub_zero, List.drop_length]; exact hF.same s6
    · rintro i σ H' _ ⟨_, _, _, _, _, _, _, _, _, _, tk, _⟩
      exact tk.sqt (SqT.of hr6)
    · rintro i x _ H7 hx ⟨b9, b10, b11, b12, b13, b14, b15, b16, rfl, F7, t7, k7⟩
      obtain ⟨hi, hx⟩ := rev_get (b := b) hx
      rw [hl] at hi
      obtain ⟨d, hdd, hdp⟩ := dps_get' ha hx
      obtain ⟨st, hsb, rfl⟩ := ds_get hdd
      rw [hl] at hsb
      have e := drop_cons hi hsb
      have hm := List.mem_of_getElem? hsb
      have hkm := ks_mem hm
      have hle := layB_le (L := L) (N := Ps.map Prod.fst) (lv := leave L (Ps.map Prod.fst) secs) b (b.length - (i + 1)) t ps (grow_leave secs)
      have hst : layB L (Ps.map Prod.fst) (leave L (Ps.map Prod.fst) secs) (b.drop (b.length - (i + 1))) t ps = layS L (Ps.map Prod.fst) (leave L (Ps.map Prod.fst) secs) st (layB L (Ps.map Prod.fst) (leave L (Ps.map Prod.fst) secs) (b.drop (b.length - i)) t ps).1 (layB L (Ps.map Prod.fst) (leave L (Ps.map Prod.fst) secs) (b.drop (b.length - i)) t ps).2 := by rw [e]; rfl
      rw [hst] at hle ⊢
      have hle2 : (layS L (Ps.map Prod.fst) (leave L (Ps.map Prod.fst) secs) st (layB L (Ps.map Prod.fst) (leave L (Ps.map Prod.fst) secs) (b.drop (b.length - i)) t ps).1 (layB L (Ps.map Prod.fst) (leave L (Ps.map Prod.fst) secs) (b.drop (b.length - i)) t ps).2).2.length ≤ 300 := Nat.le_trans hle hlen
      clear hle hst e
      generalize layB L (Ps.map Prod.fst) (leave L (Ps.map Prod.fst) secs) (b.drop (b.length - i)) t ps = r0 at F7 hle2
      obtain ⟨g, ps0⟩ := r0
      dsimp only at F7 hle2 ⊢
      have hsto := oks_iff.mp hok st hm
      have tH7 : Tk H H7 := (Tk.same s6).trans t7
      have hd7 := tH7.dp _ (tup_St st) hdp
      cases st with
      | dd x =>
        obtain ⟨sa, sxs, rfl, hss, hsa, hsl2⟩ := len_ok hd7
        cases hsa with
        | cons h0 hsa =>
        cases h0
        refine ⟨_, rfl, _, _, _, _, rfl, rfl, hss, at0 _ _, _, rfl, (by show 2 ≤ sizeLine; decide), fun tp htp => ?_⟩
        have sT := same_new htp (.tup [.str "do", .int g])
        refine ⟨tp, _, rfl, SqT.of upd_same, rfl, _, _, rfl, _, _, rfl, rfl, ?_⟩
        have F8 := F7.same sT
        have t8 := t7.trans (Tk.same sT)
        have k8 : Kp [F] H6 (upd H7 tp (.tup [.str "do", .int g])) := k7.trans (Kp.of_same sT)
        have hss8 := sqt_ext (same_ext sT) hss
        have hsa8 := dps_ext (same_ext sT) _ hsa
        generalize upd H7 tp (.tup [.str "do", .int g]) = H8 at F8 t8 k8 hss8 hsa8
        have tH8 : Tk H H8 := (Tk.same s6).trans t8
        have hla8 := hla.tk tH8
        have hS8 : H8 S = some (.lst svs) := k8 _ _ (by simpa using nSF) (s6 _ _ hS)
        have hsv8 := tH8.dps _ (tup_dss secs) hsv
        have hpd8 := hpd.tk tH8
        have hD8 : H8 Dd = some (.lst (((Ps.map Prod.fst)).map V.str)) := k8 _ _ (by simpa using nDF) hD6
        obtain ⟨vs8, hF81, hF82, hF83⟩ := id F8
        have hvl := dps_len hF82
        refine ⟨_, rfl, rfl, _, rfl, ?_⟩
        rw [dec_str]
        refine ifF (by decide +kernel) ?_
        refine ⟨_, rfl, rfl, _, rfl, ?_⟩
        rw [dec_str]
        refine ifF (by decide +kernel) ?_
        refine ⟨_, rfl, rfl, _, rfl, ?_⟩
        rw [dec_str]
        refine ifF (by decide +kernel) ?_
        refine ⟨_, rfl, rfl, _, rfl, ?_⟩
        rw [dec_str]
        refine ifF (by decide +kernel) ?_
        refine ⟨_, rfl, rfl, _, rfl, ?_⟩
        rw [dec_str]
        refine ifF (by decide +kernel) ?_
        have hlt : vs8.length < sizeLine := Nat.lt_of_le_of_lt (show vs8.length ≤ 300 by rw [layS, List.length_append] at hle2; omega) (by decide)
        cases hsa8 with
        | cons hx ha =>
        cases hx
        have hin : x ∈ L := hsto
        obtain ⟨g1, g2⟩ := idx_get hin
        refine ⟨_, rfl, ⟨la, _, rfl, hla8⟩, _, rfl, _, _, _, _, rfl, rfl, hss8, at1 _ _ _, la, L, x, _, rfl, rfl, hla8.sq, g1, g2, _, _, rfl, rfl, _, rfl, rfl, _, rfl, ?_⟩
        rw [dec_str]
        refine ifT (by decide +kernel) ?_
        refine ⟨_, _, rfl, rfl, .inr ⟨by decide, by decide⟩, _, rfl, (by show 3 ≤ sizeLine; decide), fun z hz => ?_⟩
        have ei : (((L.findIdx (· == x) : Nat) : Int) + 1) * 1 = idx x L + 1 := by unfold idx; omega
        have sz := same_new hz (.tup [.str "letter", .int ((((L.findIdx (· == x) : Nat) : Int) + 1) * 1), .int g])
        have hFz := sz _ _ hF81
        refine ⟨_, rfl, F, _, rfl, .inl (SqL.of hFz), ?_⟩
        refine ⟨_, rfl, .inl ⟨rfl, _, SqL.of hFz⟩, _, rfl, F, _, _, rfl, rfl, hFz, hlt, ?_⟩
        have Fz := (F8.same sz).snoc hFz (v := .ref z) (.tup (SqT.of upd_same) (.cons (.str _) (.cons (.int _) (.cons (.int _) .nil)))) ⟨trivial, trivial, trivial, trivial⟩
        exact ⟨_, _, _, _, _, _, _, _, (by rw [hvl]; rfl), (by rw [layS, ← ei]; exact Fz), t8.trans ((Tk.same sz).trans (Tk.put hFz _)), k8.trans ((Kp.of_same sz).trans (Kp.put _ (by simp)))⟩
      | ud x =>
        obtain ⟨sa, sxs, rfl, hss, hsa, hsl2⟩ := len_ok hd7
        cases hsa with
        | cons h0 hsa =>
        cases h0
        refine ⟨_, rfl, _, _, _, _, rfl, rfl, hss, at0 _ _, _, rfl, (by show 2 ≤ sizeLine; decide), fun tp htp => ?_⟩
        have sT := same_new htp (.tup [.str "undo", .int g])
        refine ⟨tp, _, rfl, SqT.of upd_same, rfl, _, _, rfl, _, _, rfl, rfl, ?_⟩
        have F8 := F7.same sT
        have t8 := t7.trans (Tk.same sT)
        have k8 : Kp [F] H6 (upd H7 tp (.tup [.str "undo", .int g])) := k7.trans (Kp.of_same sT)
        have hss8 := sqt_ext (same_ext sT) hss
        have hsa8 := dps_ext (same_ext sT) _ hsa
        generalize upd H7 tp (.tup [.str "undo", .int g]) = H8 at F8 t8 k8 hss8 hsa8
        have tH8 : Tk H H8 := (Tk.same s6).trans t8
        have hla8 := hla.tk tH8
        have hS8 : H8 S = some (.lst svs) := k8 _ _ (by simpa using nSF) (s6 _ _ hS)
        have hsv8 := tH8.dps _ (tup_dss secs) hsv
        have hpd8 := hpd.tk tH8
        have hD8 : H8 Dd = some (.lst (((Ps.map Prod.fst)).map V.str)) := k8 _ _ (by simpa using nDF) hD6
        obtain ⟨vs8, hF81, hF82, hF83⟩ := id F8
        have hvl := dps_len hF82
        refine ⟨_, rfl, rfl, _, rfl, ?_⟩
        rw [dec_str]
        refine ifF (by decide +kernel) ?_
        refine ⟨_, rfl, rfl, _, rfl, ?_⟩
        rw [dec_str]
        refine ifF (by decide +kernel) ?_
        refine ⟨_, rfl, rfl, _, rfl, ?_⟩
        rw [dec_str]
        refine ifF (by decide +kernel) ?_
        refine ⟨_, rfl, rfl, _, rfl, ?_⟩
        rw [dec_str]
        refine ifF (by decide +kernel) ?_
        refine ⟨_, rfl, rfl, _, rfl, ?_⟩
        rw [dec_str]
        refine ifF (by decide +kernel) ?_
        have hlt : vs8.length < sizeLine := Nat.lt_of_le_of_lt (show vs8.length ≤ 300 by rw [layS, List.length_append] at hle2; omega) (by decide)
        cases hsa8 with
        | cons hx ha =>
        cases hx
        have hin : x ∈ L := hsto
        obtain ⟨g1, g2⟩ := idx_get hin
        refine ⟨_, rfl, ⟨la, _, rfl, hla8⟩, _, rfl, _, _, _, _, rfl, rfl, hss8, at1 _ _ _, la, L, x, _, rfl, rfl, hla8.sq, g1, g2, _, _, rfl, rfl, _, rfl, rfl, _, rfl, ?_⟩
        rw [dec_str]
        refine ifF (by decide +kernel) ?_
        refine ⟨_, rfl, _, _, rfl, rfl, .inr ⟨by decide, by decide⟩, _, rfl, (by show 3 ≤ sizeLine; decide), fun z hz => ?_⟩
        have ei : (((L.findIdx (· == x) : Nat) : Int) + 1) * -1 = -idx x L - 1 := by unfold idx; omega
        have sz := same_new hz (.tup [.str "letter", .int ((((L.findIdx (· == x) : Nat) : Int) + 1) * -1), .int g])
        have hFz := sz _ _ hF81
        refine ⟨_, rfl, F, _, rfl, .inl (SqL.of hFz), ?_⟩
        refine ⟨_, rfl, .inl ⟨rfl, _, SqL.of hFz⟩, _, rfl, F, _, _, rfl, rfl, hFz, hlt, ?_⟩
        have Fz := (F8.same sz).snoc hFz (v := .ref z) (.tup (SqT.of upd_same) (.cons (.str _) (.cons (.int _) (.cons (.int _) .nil)))) ⟨trivial, trivial, trivial, trivial⟩
        exact ⟨_, _, _, _, _, _, _, _, (by rw [hvl]; rfl), (by rw [layS, ← ei]; exact Fz), t8.trans ((Tk.same sz).trans (Tk.put hFz _)), k8.trans ((Kp.of_same sz).trans (Kp.put _ (by simp)))⟩
      | cl x =>
        obtain ⟨sa, sxs, rfl, hss, hsa, hsl2⟩ := len_ok hd7
        cases hsa with
        | cons h0 hsa =>
        cases h0
        refine ⟨_, rfl, _, _, _, _, rfl, rfl, hss, at0 _ _, _, rfl, (by show 2 ≤ sizeLine; decide), fun tp htp => ?_⟩
        have sT := same_new htp (.tup [.str "call", .int g])
        refine ⟨tp, _, rfl, SqT.of upd_same, rfl, _, _, rfl, _, _, rfl, rfl, ?_⟩
        have F8 := F7.same sT
        have t8 := t7.trans (Tk.same sT)
        have k8 : Kp [F] H6 (upd H7 tp (.tup [.str "call", .int g])) := k7.trans (Kp.of_same sT)
        have hss8 := sqt_ext (same_ext sT) hss
        have hsa8 := dps_ext (same_ext sT) _ hsa
        generalize upd H7 tp (.tup [.str "call", .int g]) = H8 at F8 t8 k8 hss8 hsa8
        have tH8 : Tk H H8 := (Tk.same s6).trans t8
        have hla8 := hla.tk tH8
        have hS8 : H8 S = some (.lst svs) := k8 _ _ (by simpa using nSF) (s6 _ _ hS)
        have hsv8 := tH8.dps _ (tup_dss secs) hsv
        have hpd8 := hpd.tk tH8
        have hD8 : H8 Dd = some (.lst (((Ps.map Prod.fst)).map V.str)) := k8 _ _ (by simpa using nDF) hD6
        obtain ⟨vs8, hF81, hF82, hF83⟩ := id F8
        have hvl := dps_len hF82
        refine ⟨_, rfl, rfl, _, rfl, ?_⟩
        rw [dec_str]
        refine ifF (by decide +kernel) ?_
        refine ⟨_, rfl, rfl, _, rfl, ?_⟩
        rw [dec_str]
        refine ifF (by decide +kernel) ?_
        refine ⟨_, rfl, rfl, _, rfl, ?_⟩
        rw [dec_str]
        refine ifF (by decide +kernel) ?_
        refine ⟨_, rfl, rfl, _, rfl, ?_⟩
        rw [dec_str]
        refine ifF (by decide +kernel) ?_
        refine ⟨_, rfl, rfl, _, rfl, ?_⟩
        rw [dec_str]
        refine ifT (by decide +kernel) ?_
        have hlt : vs8.length < sizeLine := Nat.lt_of_le_of_lt (show vs8.length ≤ 300 by rw [layS, List.length_append] at hle2; omega) (by decide)
        cases hsa8 with
        | cons hx ha =>
        cases hx
        have hin : x ∈ (Ps.map Prod.fst) := hsto
        obtain ⟨g1, g2⟩ := idx_get hin
        refine ⟨_, rfl, .inl ⟨rfl, _, SqL.of hD8⟩, _, rfl, _, _, _, _, rfl, rfl, hss8, at1 _ _ _, Dd, _, .str x, ((Ps.map Prod.fst)).findIdx (· == x), .str x, rfl, rfl, SqL.of hD8, rfl, flat_strs _, by rw [List.getElem?_map, g1]; rfl, by rw [eqv_strs]; simp, fun m z hm hz => ?_, _, rfl, (by show 3 ≤ sizeLine; decide), fun z hz => ?_⟩
        · rw [List.getElem?_map] at hz
          cases e : ((Ps.map Prod.fst))[m]? with
          | none => rw [e] at hz; cases hz
          | some y =>
            rw [e] at hz
            cases hz
            rw [eqv_strs]
            exact decide_eq_false fun z => g2 m hm (by rw [e, z])
        have sz := same_new hz (.tup [.str "call", .int ((((Ps.map Prod.fst)).findIdx (· == x) : Nat) : Int), .int g])
        have hFz := sz _ _ hF81
        refine ⟨_, rfl, F, _, rfl, .inl (SqL.of hFz), ?_⟩
        refine ⟨_, rfl, .inl ⟨rfl, _, SqL.of hFz⟩, _, rfl, F, _, _, rfl, rfl, hFz, hlt, ?_⟩
        have Fz := (F8.same sz).snoc hFz (v := .ref z) (.tup (SqT.of upd_same) (.cons (.str _) (.cons (.int _) (.cons (.int _) .nil)))) ⟨trivial, trivial, trivial, trivial⟩
        exact ⟨_, _, _, _, _, _, _, _, (by rw [hvl]; rfl), Fz, t8.trans ((Tk.same sz).trans (Tk.put hFz _)), k8.trans ((Kp.of_same sz).trans (Kp.put _ (by simp)))⟩
      | ch bs =>
        obtain ⟨sa, sxs, rfl, hss, hsa, hsl2⟩ := len_ok hd7
        cases hsa with
        | cons h0 hsa =>
        cases h0
        refine ⟨_, rfl, _, _, _, _, rfl, rfl, hss, at0 _ _, _, rfl, (by show 2 ≤ sizeLine; decide), fun tp htp => ?_⟩
        have sT := same_new htp (.tup [.str "choose", .int g])
        refine ⟨tp, _, rfl, SqT.of upd_same, rfl, _, _, rfl, _, _, rfl, rfl, ?_⟩
        have F8 := F7.same sT
        have t8 := t7.trans (Tk.same sT)
        have k8 : Kp [F] H6 (upd H7 tp (.tup [.str "choose", .int g])) := k7.trans (Kp.of_same sT)
        have hss8 := sqt_ext (same_ext sT) hss
        have hsa8 := dps_ext (same_ext sT) _ hsa
        generalize upd H7 tp (.tup [.str "choose", .int g]) = H8 at F8 t8 k8 hss8 hsa8
        have tH8 : Tk H H8 := (Tk.same s6).trans t8
        have hla8 := hla.tk tH8
        have hS8 : H8 S = some (.lst svs) := k8 _ _ (by simpa using nSF) (s6 _ _ hS)
        have hsv8 := tH8.dps _ (tup_dss secs) hsv
        have hpd8 := hpd.tk tH8
        have hD8 : H8 Dd = some (.lst (((Ps.map Prod.fst)).map V.str)) := k8 _ _ (by simpa using nDF) hD6
        obtain ⟨vs8, hF81, hF82, hF83⟩ := id F8
        have hvl := dps_len hF82
        refine ⟨_, rfl, rfl, _, rfl, ?_⟩
        rw [dec_str]
        refine ifF (by decide +kernel) ?_
        refine ⟨_, rfl, rfl, _, rfl, ?_⟩
        rw [dec_str]
        refine ifF (by decide +kernel) ?_
        refine ⟨_, rfl, rfl, _, rfl, ?_⟩
        rw [dec_str]
        refine ifF (by decide +kernel) ?_
        refine ⟨_, rfl, rfl, _, rfl, ?_⟩
        rw [dec_str]
        refine ifT (by decide +kernel) ?_
        cases hsa8 with
        | @cons v1 _ _ _ hb ha =>
        obtain ⟨ra, rxs, rfl, hrs, hra, hrl⟩ := len_ok hb
        rw [dss_len] at hrl
        have hle3 := hle2
        rw [layS, List.length_append, List.length_singleton] at hle3
        have hkk : kss bs < n := by rw [St.k] at hkm; omega
        have hk122 : kss bs ≤ 12 := by rw [St.k] at hkm; omega
        refine ⟨_, rfl, _, _, _, _, rfl, rfl, hss8, at1 _ _ _, ra, rfl, ⟨_, hrs⟩, fun Ed hEd => ?_⟩
        have nEF : Ed ≠ F := fun z => by rw [z, hF81] at hEd; cases hEd
        have nES : Ed ≠ S := fun z => by rw [z, hS8] at hEd; cases hEd
        refine lc_tup (xs := rxs) (fun i H' => H' Ed = some (.lst ((layBs L (Ps.map Prod.fst) (leave L (Ps.map Prod.fst) secs) (bs.take i) g ps0).1.map V.int)) ∧ FAt K H' F (layBs L (Ps.map Prod.fst) (leave L (Ps.map Prod.fst) secs) (bs.take i) g ps0).2 ∧ Tk H8 H' ∧ Kp [F] H8 H') ?_ ?_ ?_ ?_
        · exact ⟨upd_same, F8.same (same_new hEd _), Tk.new hEd _, Kp.new _ hEd⟩
        · rintro i H' _ ⟨_, _, tk, _⟩
          exact tk.sqt hrs
        · rintro i x H9 hx ⟨hE9, F9, t9, k9⟩
          obtain ⟨d, hdd, hdp⟩ := dps_get' hra hx
          obtain ⟨b2, hb2, rfl⟩ := dss_get hdd
          have hm2 := List.mem_of_getElem? hb2
          have hkb := kss_mem hm2
          have et := layBs_take (L := L) (N := (Ps.map Prod.fst)) (lv := leave L (Ps.map Prod.fst) secs) g ps0 hb2
          have hle4 := layBs_le (L := L) (N := (Ps.map Prod.fst)) (lv := leave L (Ps.map Prod.fst) secs) bs (i + 1) g ps0 (grow_leave secs)
          rw [et] at hle4
          dsimp only at hle4
          have hS9 := k9 _ _ (by simpa using nSF) hS8
          refine ⟨rfl, ?_⟩
          refine ⟨_, rfl, _, rfl, _, rfl, _, rfl, _, rfl, .ref pga, x, g, F, S, L, Ps, _, b2, secs, svs, sec, rfl, hpd8.tk t9, hp8, t9.dp (.tuple (ds b2)) (tup_ds b2) hdp, F9, hS9, t9.dps _ (tup_dss secs) hsv8, nSF, by omega, by omega, by omega, okss_iff.mp hsto.2.2 b2 hm2, hso, by omega, fun H10 F10 t10 k10 => ?_⟩
          have hE10 := k10 _ _ (by simpa using nEF) hE9
          refine ⟨_, hE10, Nat.lt_of_le_of_lt (show _ ≤ 6 by rw [List.length_map, layBs_len, List.length_take]; have := hsto.2.1; omega) (by decide), ?_, ?_, ?_, ?_⟩
          · rw [et, List.map_append]
            exact upd_same
          · rw [et]
            exact F10.tk (Tk.put hE10 _) (as := [Ed]) (Kp.put _ (by simp)) (by simpa using Ne.symm nEF)
          · exact t9.trans (t10.trans (Tk.put hE10 _))
          · intro qq oo nq e
            rw [upd_ne (fun z => by rw [z, hEd] at e; cases e)]
            exact k10 _ _ nq (k9 _ _ nq e)
        · rintro H9 ⟨hE9, F9, t9, k9⟩
          rw [hrl, List.take_length] at hE9 F9
          obtain ⟨vs9, hF91, hF92, hF93⟩ := id F9
          have hvl9 := dps_len hF92
          refine ⟨Ed, _, rfl, .inl ⟨SqL.of hE9, fun z hz => ⟨(by show 2 ≤ sizeLine; decide), fun w hw => ?_⟩⟩⟩
          have nzw : z ≠ w := fun q => by rw [← q, upd_same] at hw; cases hw
          have sP := (same_new hz (.tup ((layBs L (Ps.map Prod.fst) (leave L (Ps.map Prod.fst) secs) bs g ps0).1.map V.int))).trans (same_new hw (.tup [.str "fork", .ref z]))
          have hFP := sP _ _ hF91
          have hlt : vs9.length < sizeLine := Nat.lt_of_le_of_lt (show vs9.length ≤ 300 by omega) (by decide)
          refine ⟨_, rfl, F, _, rfl, .inl (SqL.of hFP), ?_⟩
          refine ⟨_, rfl, .inl ⟨rfl, _, SqL.of hFP⟩, _, rfl, F, _, _, rfl, rfl, hFP, hlt, ?_⟩
          have Fz := (F9.same sP).snoc hFP (v := .ref w) (d := .tuple [.str "fork", .tuple ((layBs L (Ps.map Prod.fst) (leave L (Ps.map Prod.fst) secs) bs g ps0).1.map .int)]) (.tup (SqT.of upd_same) (.cons (.str _) (.cons (.tup (SqT.of (by rw [upd_ne nzw]; exact upd_same)) (dp_intsT _)) .nil))) ⟨trivial, tup_intsT _, trivial⟩
          exact ⟨_, _, _, _, _, _, _, _, (by rw [hvl9]; rfl), Fz, t8.trans (t9.trans ((Tk.same sP).trans (Tk.put hFP _))), k8.trans (k9.trans ((Kp.of_same sP).trans (Kp.put _ (by simp))))⟩
      | lp b2 =>
        obtain ⟨sa, sxs, rfl, hss, hsa, hsl2⟩ := len_ok hd7
        cases hsa with
        | cons h0 hsa =>
        cases h0
        refine ⟨_, rfl, _, _, _, _, rfl, rfl, hss, at0 _ _, _, rfl, (by show 2 ≤ sizeLine; decide), fun tp htp => ?_⟩
        have sT := same_new htp (.tup [.str "loop", .int g])
        refine ⟨tp, _, rfl, SqT.of upd_same, rfl, _, _, rfl, _, _, rfl, rfl, ?_⟩
        have F8 := F7.same sT
        have t8 := t7.trans (Tk.same sT)
        have k8 : Kp [F] H6 (upd H7 tp (.tup [.str "loop", .int g])) := k7.trans (Kp.of_same sT)
        have hss8 := sqt_ext (same_ext sT) hss
        have hsa8 := dps_ext (same_ext sT) _ hsa
        generalize upd H7 tp (.tup [.str "loop", .int g]) = H8 at F8 t8 k8 hss8 hsa8
        have tH8 : Tk H H8 := (Tk.same s6).trans t8
        have hla8 := hla.tk tH8
        have hS8 : H8 S = some (.lst svs) := k8 _ _ (by simpa using nSF) (s6 _ _ hS)
        have hsv8 := tH8.dps _ (tup_dss secs) hsv
        have hpd8 := hpd.tk tH8
        have hD8 : H8 Dd = some (.lst (((Ps.map Prod.fst)).map V.str)) := k8 _ _ (by simpa using nDF) hD6
        obtain ⟨vs8, hF81, hF82, hF83⟩ := id F8
        have hvl := dps_len hF82
        refine ⟨_, rfl, rfl, _, rfl, ?_⟩
        rw [dec_str]
        refine ifF (by decide +kernel) ?_
        refine ⟨_, rfl, rfl, _, rfl, ?_⟩
        rw [dec_str]
        refine ifT (by decide +kernel) ?_
        cases hsa8 with
        | @cons v1 _ _ _ hb ha =>
        have hg0 := grow_B L (Ps.map Prod.fst) b2 (ps0.length : Nat) (ps0 ++ [.none]) (grow_leave (L := L) (N := (Ps.map Prod.fst)) secs)
        rw [List.length_append, List.length_singleton] at hg0
        have hle3 := hle2
        rw [layS, List.length_set] at hle3
        have hlt : vs8.length < sizeLine := Nat.lt_of_le_of_lt (show vs8.length ≤ 300 by omega) (by decide)
        have hkb : ks b2 < n := by rw [St.k] at hkm; omega
        refine ⟨_, rfl, F, _, rfl, .inl (SqL.of hF81), ?_⟩
        refine ⟨_, rfl, .inl ⟨rfl, _, SqL.of hF81⟩, F, _, _, rfl, rfl, hF81, hlt, ?_⟩
        have F9 := F8.snoc hF81 (v := .non) .non trivial
        have t9 : Tk H8 (upd H8 F (.lst (vs8 ++ [.non]))) := Tk.put hF81 _
        have k9 : Kp [F] H8 (upd H8 F (.lst (vs8 ++ [.non]))) := Kp.put _ (by simp)
        have hS9 := k9 _ _ (by simpa using nSF) hS8
        refine ⟨_, rfl, _, rfl, _, _, _, _, rfl, rfl, t9.sqt hss8, at1 _ _ _, _, rfl, _, rfl, _, rfl, .ref pga, v1, _, F, S, L, Ps, ps0 ++ [.none], b2, secs, svs, sec, rfl, hpd8.tk t9, hp8, t9.dp (.tuple (ds b2)) (tup_ds b2) hb, F9, hS9, t9.dps _ (tup_dss secs) hsv8, nSF, hkb, (by rw [St.k] at hkm; omega), by omega, hsto, hso, (by rw [hvl]; exact hle3), fun H10 F10 t10 k10 => ?_⟩
        rw [hvl] at F10 ⊢
        obtain ⟨vs10, hF101, hF102, hF103⟩ := id F10
        have hvl10 := dps_len hF102
        refine ⟨_, rfl, _, rfl, (by show 2 ≤ sizeLine; decide), fun p1 hp1 => ⟨(by show 2 ≤ sizeLine; decide), fun p2 hp2 => ?_⟩⟩
        have n12 : p1 ≠ p2 := fun z => by rw [← z, upd_same] at hp2; cases hp2
        refine ⟨_, rfl, _, rfl, F, vs10, _, ps0.length, rfl, rfl, ?_, ix_nat (by omega), ?_⟩
        · have nF1 : F ≠ p1 := fun z => by rw [← z, hF101] at hp1; cases hp1
          have nF2 : F ≠ p2 := fun z => by rw [← z, upd_ne nF1, hF101] at hp2; cases hp2
          rw [upd_ne nF2, upd_ne nF1]
          exact hF101
        · have nF1 : F ≠ p1 := fun z => by rw [← z, hF101] at hp1; cases hp1
          have nF2 : F ≠ p2 := fun z => by rw [← z, upd_ne nF1, hF101] at hp2; cases hp2
          have sP := (same_new hp1 (.tup [.int (layB L (Ps.map Prod.fst) (leave L (Ps.map Prod.fst) secs) b2 (ps0.length : Nat) (ps0 ++ [.none])).1, .int g])).trans (same_new hp2 (.tup [.str "fork", .ref p1]))
          have hFP := sP _ _ hF101
          have FP := (F10.same sP).put ps0.length hFP (v := .ref p2) (d := .tuple [.str "fork", .tuple [.int (layB L (Ps.map Prod.fst) (leave L (Ps.map Prod.fst) secs) b2 (ps0.length : Nat) (ps0 ++ [.none])).1, .int g]]) (.tup (SqT.of upd_same) (.cons (.str _) (.cons (.tup (SqT.of (by rw [upd_ne n12]; exact upd_same)) (.cons (.int _) (.cons (.int _) .nil))) .nil))) ⟨trivial, ⟨trivial, trivial, trivial⟩, trivial⟩
          refine ⟨_, _, _, _, _, _, _, _, rfl, ?_, t8.trans (t9.trans (t10.trans ((Tk.same sP).trans (Tk.put hFP _)))), k8.trans (k9.trans (k10.trans ((Kp.of_same sP).trans (Kp.put _ (by simp)))))⟩
          rw [layS]
          exact FP
      | rt =>
        obtain ⟨sa, sxs, rfl, hss, hsa, hsl2⟩ := len_ok hd7
        cases hsa with
        | cons h0 hsa =>
        cases h0
        refine ⟨_, rfl, _, _, _, _, rfl, rfl, hss, at0 _ _, _, rfl, (by show 2 ≤ sizeLine; decide), fun tp htp => ?_⟩
        have sT := same_new htp (.tup [.str "return", .int g])
        refine ⟨tp, _, rfl, SqT.of upd_same, rfl, _, _, rfl, _, _, rfl, rfl, ?_⟩
        have F8 := F7.same sT
        have t8 := t7.trans (Tk.same sT)
        have k8 : Kp [F] H6 (upd H7 tp (.tup [.str "return", .int g])) := k7.trans (Kp.of_same sT)
        have hss8 := sqt_ext (same_ext sT) hss
        have hsa8 := dps_ext (same_ext sT) _ hsa
        generalize upd H7 tp (.tup [.str "return", .int g]) = H8 at F8 t8 k8 hss8 hsa8
        have tH8 : Tk H H8 := (Tk.same s6).trans t8
        have hla8 := hla.tk tH8
        have hS8 : H8 S = some (.lst svs) := k8 _ _ (by simpa using nSF) (s6 _ _ hS)
        have hsv8 := tH8.dps _ (tup_dss secs) hsv
        have hpd8 := hpd.tk tH8
        have hD8 : H8 Dd = some (.lst (((Ps.map Prod.fst)).map V.str)) := k8 _ _ (by simpa using nDF) hD6
        obtain ⟨vs8, hF81, hF82, hF83⟩ := id F8
        have hvl := dps_len hF82
        refine ⟨_, rfl, rfl, _, rfl, ?_⟩
        rw [dec_str]
        refine ifT (by decide +kernel) ?_
        have hsec : sec = false := hsto
        have hsc : ∀ c ∈ secs, oks L (Ps.map Prod.fst) true c ∧ ks c ≤ 12 := by
          rcases hso with h | ⟨_, h⟩
          · rw [h] at hsec; cases hsec
          · exact h
        have hsvl : svs.length = secs.length := by rw [dps_len hsv8, dss_len]
        refine ⟨_, rfl, S, rfl, ⟨_, SqL.of hS8⟩, ?_⟩
        refine for_list (xs := svs) (fun j σ H' => ∃ c12, σ = [some (.ref pga), some (.ref a), some (.int t), some (.ref F), some (.ref S), some (.ref la), some (.ref Dd), some (.int (leave L (Ps.map Prod.fst) (secs.take j) ps0).1), none, some (.ref sa), some (.str "return"), some (.int g), c12, b13, b14, b15, b16] ∧ FAt K H' F (leave L (Ps.map Prod.fst) (secs.take j) ps0).2 ∧ Tk H8 H' ∧ Kp [F] H8 H') ?_ ?_ ?_ ?_
        · exact ⟨b12, rfl, F8, Tk.refl _, Kp.refl _⟩
        · rintro j σ H' _ ⟨_, _, _, _, k9⟩
          exact SqL.of (k9 _ _ (by simpa using nSF) hS8)
        · rintro j x _ H9 hx ⟨c12, rfl, F9, t9, k9⟩
          obtain ⟨d, hdd, hdp⟩ := dps_get' hsv8 hx
          obtain ⟨c, hc, rfl⟩ := dss_get hdd
          have hm2 := List.mem_of_getElem? hc
          have e1 : secs.take (j + 1) = secs.take j ++ [c] := by rw [List.take_succ, hc]; rfl
          have e2 : leave L (Ps.map Prod.fst) (secs.take (j + 1)) ps0 = layB L (Ps.map Prod.fst) (leave L (Ps.map Prod.fst) []) c (leave L (Ps.map Prod.fst) (secs.take j) ps0).1 (leave L (Ps.map Prod.fst) (secs.take j) ps0).2 := by rw [e1, leave_app]; rfl
          have hle4 := leave_le (L := L) (N := (Ps.map Prod.fst)) (secs.take (j + 1)) (secs.drop (j + 1)) ps0
          rw [List.take_append_drop, e2] at hle4
          have hle5 : (leave L (Ps.map Prod.fst) secs ps0).2.length ≤ 300 := hle2
          refine ⟨_, rfl, _, rfl, _, rfl, _, rfl, (by show 0 ≤ sizeLine; decide), fun z hz => ?_⟩
          have sz := same_new hz (.lst [])
          have nzF : z ≠ F := fun q => by obtain ⟨_, h1, _⟩ := F9; rw [q, h1] at hz; cases hz
          refine ⟨.ref pga, x, _, F, z, L, Ps, _, c, [], [], true, rfl, hpd8.tk (t9.trans (Tk.same sz)), hp8, (t9.trans (Tk.same sz)).dp (.tuple (ds c)) (tup_ds c) hdp, F9.same sz, upd_same, .nil, nzF, by have := (hsc c hm2).2; omega, (hsc c hm2).2, by simp, (hsc c hm2).1, .inl rfl, by omega, fun H10 F10 t10 k10 => ?_⟩
          exact ⟨_, by rw [e2]; rfl, by rw [e2]; exact F10, t9.trans ((Tk.same sz).trans t10), k9.trans ((Kp.of_same sz).trans k10)⟩
        · rintro σ H9 ⟨c12, rfl, F9, t9, k9⟩
          rw [hsvl, List.take_length] at *
          exact ⟨_, _, _, _, _, _, _, _, rfl, F9, t8.trans t9, k8.trans k9⟩
      | en b2 c =>
        obtain ⟨sa, sxs, rfl, hss, hsa, hsl2⟩ := len_ok hd7
        cases hsa with
        | cons h0 hsa =>
        cases h0
        refine ⟨_, rfl, _, _, _, _, rfl, rfl, hss, at0 _ _, _, rfl, (by show 2 ≤ sizeLine; decide), fun tp htp => ?_⟩
        have sT := same_new htp (.tup [.str "ensure", .int g])
        refine ⟨tp, _, rfl, SqT.of upd_same, rfl, _, _, rfl, _, _, rfl, rfl, ?_⟩
        have F8 := F7.same sT
        have t8 := t7.trans (Tk.same sT)
        have k8 : Kp [F] H6 (upd H7 tp (.tup [.str "ensure", .int g])) := k7.trans (Kp.of_same sT)
        have hss8 := sqt_ext (same_ext sT) hss
        have hsa8 := dps_ext (same_ext sT) _ hsa
        generalize upd H7 tp (.tup [.str "ensure", .int g]) = H8 at F8 t8 k8 hss8 hsa8
        have tH8 : Tk H H8 := (Tk.same s6).trans t8
        have hla8 := hla.tk tH8
        have hS8 : H8 S = some (.lst svs) := k8 _ _ (by simpa using nSF) (s6 _ _ hS)
        have hsv8 := tH8.dps _ (tup_dss secs) hsv
        have hpd8 := hpd.tk tH8
        have hD8 : H8 Dd = some (.lst (((Ps.map Prod.fst)).map V.str)) := k8 _ _ (by simpa using nDF) hD6
        obtain ⟨vs8, hF81, hF82, hF83⟩ := id F8
        have hvl := dps_len hF82
        refine ⟨_, rfl, rfl, _, rfl, ?_⟩
        rw [dec_str]
        refine ifF (by decide +kernel) ?_
        refine ⟨_, rfl, rfl, _, rfl, ?_⟩
        rw [dec_str]
        refine ifF (by decide +kernel) ?_
        refine ⟨_, rfl, rfl, _, rfl, ?_⟩
        rw [dec_str]
        refine ifT (by decide +kernel) ?_
        cases hsa8 with
        | @cons v1 _ _ _ hb ha =>
        cases ha with
        | @cons v2 _ _ _ hc ha =>
        have e1 : layS L (Ps.map Prod.fst) (leave L (Ps.map Prod.fst) secs) (.en b2 c) g ps0 = layB L (Ps.map Prod.fst) (leave L (Ps.map Prod.fst) (secs ++ [c])) b2 (layB L (Ps.map Prod.fst) (leave L (Ps.map Prod.fst) []) c g ps0).1 (layB L (Ps.map Prod.fst) (leave L (Ps.map Prod.fst) []) c g ps0).2 := by rw [leave_app, layS]; rfl
        rw [e1] at hle2 ⊢
        have hg0 := grow_B L (Ps.map Prod.fst) b2 (layB L (Ps.map Prod.fst) (leave L (Ps.map Prod.fst) []) c g ps0).1 (layB L (Ps.map Prod.fst) (leave L (Ps.map Prod.fst) []) c g ps0).2 (grow_leave (L := L) (N := (Ps.map Prod.fst)) (secs ++ [c]))
        have hkb : ks b2 < n ∧ ks c < n := by rw [St.k] at hkm; omega
        have hkb2 : ks b2 ≤ 12 ∧ ks c ≤ 12 := by rw [St.k] at hkm; omega
        refine ⟨_, rfl, _, rfl, _, _, _, _, rfl, rfl, hss8, at2 _ _ _ _, _, rfl, _, rfl, (by show 0 ≤ sizeLine; decide), fun z hz => ?_⟩
        have sz := same_new hz (.lst [])
        have nzF : z ≠ F := fun q => by rw [q, hF81] at hz; cases hz
        refine ⟨.ref pga, v2, _, F, z, L, Ps, ps0, c, [], [], true, rfl, hpd8.tk (Tk.same sz), hp8, dp_ext (same_ext sz) _ hc, F8.same sz, upd_same, .nil, nzF, hkb.2, hkb2.2, by simp; omega, hsto.2, .inl rfl, by omega, fun H9 F9 t9 k9 => ?_⟩
        have t89 : Tk H8 H9 := (Tk.same sz).trans t9
        have k89 : Kp [F] H8 H9 := (Kp.of_same sz).trans k9
        have hS9 := k89 _ _ (by simpa using nSF) hS8
        have hsvl : svs.length = secs.length := by rw [dps_len hsv8, dss_len]
        refine ⟨_, rfl, _, rfl, _, _, _, _, rfl, rfl, t89.sqt hss8, at1 _ _ _, _, rfl, _, rfl, _, rfl, _, rfl, _, _, _, _, rfl, rfl, t89.sqt hss8, at2 _ _ _ _, (by show 1 ≤ sizeLine; decide), fun w hw => ?_⟩
        have sw := same_new hw (.lst [v2])
        have nSw : S ≠ w := fun q => by rw [← q, hS9] at hw; cases hw
        refine ⟨S, w, _, _, rfl, rfl, by rw [upd_ne nSw]; exact hS9, upd_same, Nat.le_trans (show (svs.length + 1) ≤ 1001 by omega) (by decide), fun y hy => ?_⟩
        have sy := sw.trans (same_new hy (.lst (svs ++ [v2])))
        have nyF : y ≠ F := fun q => by
          obtain ⟨_, h1, _⟩ := F9.same sw
          rw [q, h1] at hy
          cases hy
        have t8y : Tk H8 (upd (upd H9 w (.lst [v2])) y (.lst (svs ++ [v2]))) := t89.trans (Tk.same sy)
        refine ⟨.ref pga, v1, _, F, y, L, Ps, _, b2, secs ++ [c], _, sec, rfl, hpd8.tk t8y, hp8, t8y.dp (.tuple (ds b2)) (tup_ds b2) hb, F9.same sy, upd_same, ?_, nyF, hkb.1, hkb2.1, (by rw [List.length_append, List.length_singleton]; omega), hsto.1, hso.snoc hsto.2 hkb2.2, hle2, fun H10 F10 t10 k10 => ?_⟩
        · rw [dss_snoc]
          exact dps_app (t8y.dps _ (tup_dss secs) hsv8) (.cons (t8y.dp (.tuple (ds c)) (tup_ds c) hc) .nil)
        · exact ⟨_, _, _, _, _, _, _, _, rfl, F10, t8.trans (t8y.trans t10), k8.trans (k89.trans ((Kp.of_same sy).trans k10))⟩
    · rintro σ H1 ⟨b9, b10, b11, b12, b13, b14, b15, b16, rfl, F1, t1, k1⟩
      rw [List.length_reverse, hl, Nat.sub_self, List.drop_zero] at *
      exact ⟨_, rfl, q H1 F1 ((Tk.same s6).trans t1) ((Kp.of_same s6).trans k1)⟩
end
end K12


set_option Elab.async false
set_option linter.all false
set_option maxRecDepth 100000
set_option maxHeartbeats 8000000
namespace K12
open PySem PySem.Spec PyProof.Rows L2
section
variable {P : Program} {w : World} {K : PySem.W.Frag} {mg : Str → Option Value} {base : Heap}
theorem ll0 {f : Addr} {fd : FuncData} (F : C8.Def K mg "_law_lay" (topS 47) f fd) (b : Binds K fd ["program", "body", "told", "found", "seconds"] []) (B : Bl K mg) : ∀ n : Nat, C8.Cal P w K mg base (n + 0 + 2) "_law_lay" (spLL K false n) []
  | 0 => by
    refine C8.cal0 (k := 0 + 0 + 1) F b .nil sc__law_lay ?len ?body
    case len => rintro vs H Q E ⟨_, _, _, _, _, _, _, _, _, _, _, _, _, _, _, _, _, _, _, _, h, _⟩; exact absurd h (Nat.not_lt_zero _)
    case body => rintro cdv A outer s H vs Q E hr ⟨_, _, _, _, _, _, _, _, _, _, _, _, _, _, _, _, _, _, _, _, h, _⟩; exact absurd h (Nat.not_lt_zero _)
  | n + 1 => by
    have := ok_lay0 (n := n) (e := 0) F b B (ll0 F b B n)
    rw [show n + 1 + 0 + 2 = n + 0 + 3 by omega]
    exact this
theorem ll1 {f : Addr} {fd : FuncData} (F : C8.Def K mg "_law_lay" (topS 47) f fd) (b : Binds K fd ["program", "body", "told", "found", "seconds"] []) (B : Bl K mg) (c_lay0 : C8.Cal P w K mg base 15 "_law_lay" (spLL K false 13) []) : ∀ n : Nat, C8.Cal P w K mg base (n + 13 + 2) "_law_lay" (spLL K true n) []
  | 0 => by
    refine C8.cal0 (k := 0 + 13 + 1) F b .nil sc__law_lay ?len ?body
    case len => rintro vs H Q E ⟨_, _, _, _, _, _, _, _, _, _, _, _, _, _, _, _, _, _, _, _, h, _⟩; exact absurd h (Nat.not_lt_zero _)
    case body => rintro cdv A outer s H vs Q E hr ⟨_, _, _, _, _, _, _, _, _, _, _, _, _, _, _, _, _, _, _, _, h, _⟩; exact absurd h (Nat.not_lt_zero _)
  | n + 1 => by
    have := ok_lay1 (n := n) (e := 13) F b B (ll1 F b B c_lay0 n) c_lay0
    rw [show n + 1 + 13 + 2 = n + 13 + 3 by omega]
    exact this

def spLP (K : PySem.W.Frag) : Sp := fun vs H Q _ => ∃ v L Ps, vs = [v] ∧ PD K H v L Ps ∧ Prog L Ps ∧ Few L Ps ∧ ∀ H' v', Same H H' → Dp K H' v' (layD L Ps) → Q v' H'
theorem sc__law_places : FnScope ["program", "table", "name", "body", "found", "begin"] ["program"] (C8.fnScope (topS 48)) := C8.fnScope_by (by decide +kernel)
theorem ok__law_places {f : Addr} {fd : FuncData} (F : C8.Def K mg "_law_places" (topS 48) f fd) (b : Binds K fd ["program"] []) (B : Bl K mg) (c_lay : C8.Cal P w K mg base 28 "_law_lay" (spLL K true 13) []) : C8.Cal P w K mg base 29 "_law_places" (spLP K) [] := by
  refine C8.cal0 F b .nil sc__law_places ?len ?body
  case len => rintro vs H Q E ⟨v, L, Ps, rfl, _⟩; rfl
  case body =>
    rintro cdv A outer s H vs Q E hr ⟨v, L, Ps, rfl, hpd, hP, hFew, q⟩
    refine ⟨_, (pss_cons (ps_set (i := 1) sc__law_places.nd rfl (Or.inl rfl) (pe_lst pa_nil))
    (pss_cons (ps_for PassesOwn.never rfl (pi_tup (pe_ix ix_tup (pv 0) pe_int (fun _ _ => rfl))) (pg_tup rfl (pgs_cons (pg_name (i := 2) sc__law_places.nd rfl (Or.inl rfl)) (pgs_cons (pg_name (i := 3) sc__law_places.nd rfl (Or.inl rfl)) pgs_nil)))
    (pss_cons (ps_set (i := 4) sc__law_places.nd rfl (Or.inl rfl) (pe_lst (pa_cons (pe_tup (pa_cons pe_str pa_nil)) pa_nil)))
    (pss_cons (ps_set (i := 5) sc__law_places.nd rfl (Or.inl rfl) (C8.pe_c c_lay hr (by decide) rfl (pa_cons (pv 0) (pa_cons (pv 3) (pa_cons pe_int (pa_cons (pv 4) (pa_cons (pe_lst pa_nil) pa_nil)))))))
    (pss_one (ps_expr (pe_bm PySem.F.plainAttrs_list PySem.F.slot_list_append PySem.F.type_list_append mt_append (pv 1) (pa_cons (pe_tup (pa_cons (pv 5) (pa_cons (pe_callTy call_tuple_of rfl B.tuple (by decide +kernel) (pa_cons (pv 4) pa_nil)) pa_nil))) pa_nil)))))))
    (pss_one (ps_ret (pe_callTy call_tuple_of rfl B.tuple (by decide +kernel) (pa_cons (pv 1) pa_nil)))))), ?_⟩
    obtain ⟨a, la, pvv, rfl, hs, hla, hpv⟩ := id hpd
    obtain ⟨pa, pxs, rfl, hps, hpa, hpl⟩ := len_ok hpv
    rw [List.length_map] at hpl
    refine ⟨(by show 0 ≤ sizeLine; decide), fun Tb hTb => ?_⟩
    have s1 := same_new hTb (.lst [])
    have hT1 : upd H Tb (.lst []) Tb = some (.lst []) := upd_same
    generalize upd H Tb (.lst []) = H1 at s1 hT1
    refine ⟨_, rfl, _, _, _, _, rfl, rfl, (Tk.same s1).sqt hs, at1 _ _ _, pa, rfl, ⟨_, (Tk.same s1).sqt hps⟩, ?_⟩
    refine for_tup (xs := pxs) (fun i σ H' => ∃ b2 b3 b4 b5, σ = [some (.ref a), some (.ref Tb), b2, b3, b4, b5] ∧ Same H H' ∧ ∃ vs, H' Tb = some (.lst vs) ∧ DpAll K H' vs ((Ps.take i).map (layPD L (Ps.map Prod.fst)))) ?_ ?_ ?_ ?_
    · exact ⟨none, none, none, none, rfl, s1, [], hT1, by simpa using .nil⟩
    · rintro i σ H' _ ⟨_, _, _, _, _, s2, _⟩
      exact (Tk.same s2).sqt hps
    · rintro i x _ H2 hx ⟨b2, b3, b4, b5, rfl, s2, tv, hT2, htv⟩
      obtain ⟨d, hd, hdp⟩ := dps_get' hpa hx
      obtain ⟨p, hp, rfl⟩ := procs_get hd
      have hd2 := (Tk.same s2).dp _ (tup_proc p) hdp
      obtain ⟨qa, qxs, rfl, hqs, hqa, hql⟩ := len_ok hd2
      cases hqa with
      | @cons v0 _ _ _ h0 hqa =>
      cases h0
      cases hqa with
      | @cons v1 _ _ _ h1 hqa =>
      cases hqa
      have hpm : p ∈ Ps := List.mem_of_getElem? hp
      have hbm : p.2 ∈ nsP Ps := List.mem_map.mpr ⟨p, hpm, rfl⟩
      have hkk := kss_mem hbm
      have hk12 := hP.ks
      refine ⟨qa, _, rfl, hqs, rfl, _, _, rfl, _, _, rfl, rfl, ?_⟩
      refine ⟨(by show 1 ≤ sizeLine; decide), fun e0 he0 => ⟨(by show 1 ≤ sizeLine; decide), fun F hF => ?_⟩⟩
      have se := (same_new he0 (.tup [.str "end"])).trans (same_new hF (.lst [.ref e0]))
      have neF : e0 ≠ F := fun q => by rw [← q, upd_same] at hF; cases hF
      have FA : FAt K (upd (upd H2 e0 (.tup [.str "end"])) F (.lst [.ref e0])) F [.tuple [.str "end"]] := ⟨_, upd_same, .cons (.tup (SqT.of (by rw [upd_ne neF]; exact upd_same)) (.cons (.str _) .nil)) .nil, ⟨⟨trivial, trivial⟩, trivial⟩⟩
      have hTF : Tb ≠ F := fun q => by rw [← q, (same_new he0 (.tup [.str "end"])) _ _ hT2] at hF; cases hF
      have nF2 : ∀ q o, H2 q = some o → q ≠ F := fun q o e z => by rw [← z, (same_new he0 (.tup [.str "end"])) _ _ e] at hF; cases hF
      generalize upd (upd H2 e0 (.tup [.str "end"])) F (.lst [.ref e0]) = H3 at se FA
      have s3 := s2.trans se
      refine ⟨_, rfl, _, rfl, _, rfl, (by show 0 ≤ sizeLine; decide), fun z hz => ?_⟩
      have sz := same_new hz (.lst [])
      have nzF : z ≠ F := fun q => by obtain ⟨_, h1, _⟩ := FA; rw [q, h1] at hz; cases hz
      refine ⟨.ref a, v1, 0, F, z, L, Ps, _, p.2, [], [], false, rfl, hpd.tk (Tk.same (s3.trans sz)), hP.p2, (Tk.same (se.trans sz)).dp (.tuple (ds p.2)) (tup_ds p.2) h1, FA.same sz, upd_same, .nil, nzF, by omega, by omega, by simp, hP.ok _ hbm, .inr ⟨rfl, fun _ h => (List.not_mem_nil h).elim⟩, hFew p hpm, fun H4 F4 t4 k4 => ?_⟩
      have s4 : Same H2 H4 := fun q o e => k4 q o (by simpa using nF2 q o e) ((se.trans sz) q o e)
      obtain ⟨fv, hf1, hf2, hf3⟩ := F4
      have hT4 := s4 _ _ hT2
      refine ⟨_, rfl, .inl ⟨rfl, _, SqL.of hT4⟩, _, rfl, _, rfl, F, _, rfl, .inl ⟨SqL.of hf1, fun w hw => ⟨(by show 2 ≤ sizeLine; decide), fun y hy => ?_⟩⟩⟩
      have nwy : w ≠ y := fun z => by rw [← z, upd_same] at hy; cases hy
      have swy := (same_new hw (.tup fv)).trans (same_new hy (.tup [.int (layP L (Ps.map Prod.fst) p).1, .ref w]))
      have hT5 := swy _ _ hT4
      have hml := dps_len htv
      rw [List.length_map] at hml
      have h3 : (Ps.take i).length ≤ Ps.length := List.length_take_le' _ _
      have hp8 := hP.p2
      refine ⟨Tb, tv, _, rfl, rfl, hT5, Nat.lt_of_le_of_lt (show tv.length ≤ 8 by omega) (by decide), ?_⟩
      have tU := Tk.put hT5 (.lst (tv ++ [.ref y]))
      refine ⟨_, _, _, _, rfl, fun q o e => ?_, tv ++ [.ref y], upd_same, ?_⟩
      · rw [upd_ne (fun z => by rw [z, hTb] at e; cases e)]
        exact swy _ _ (s4 _ _ (s2 _ _ e))
      · rw [List.take_succ, hp]
        show DpAll K _ _ (((Ps.take i) ++ [p]).map _)
        rw [List.map_append]
        have tf : TupDs ((Ps.take i).map (layPD L (Ps.map Prod.fst))) := tupds_iff.mpr fun d hd => by
          obtain ⟨p', _, rfl⟩ := List.mem_map.mp hd
          exact ⟨trivial, tup_layP L _ p', trivial⟩
        refine dps_app ((((Tk.same s4).trans (Tk.same swy)).trans tU).dps _ tf htv) (.cons ?_ .nil)
        refine .tup (tU.sqt (SqT.of upd_same)) (.cons (.int _) (.cons (.tup (tU.sqt (SqT.of (by rw [upd_ne nwy]; exact upd_same))) ?_) .nil))
        exact ((Tk.same swy).trans tU).dps _ (tup_layP L _ p) hf2
    · rintro σ H2 ⟨b2, b3, b4, b5, rfl, s2, tv, hT2, htv⟩
      rw [hpl, List.take_length] at htv
      refine ⟨_, rfl, Tb, _, rfl, .inl ⟨SqL.of hT2, fun z hz => ?_⟩⟩
      have sz := same_new hz (.tup tv)
      exact q _ _ (s2.trans sz) (.tup (SqT.of upd_same) (dps_ext (same_ext sz) _ htv))
end
end K12


set_option Elab.async false
set_option linter.all false
set_option maxRecDepth 100000
set_option maxHeartbeats 8000000
namespace K12
open PySem PySem.Spec PyProof.Rows L2
def signS : Str := "abcdefghijklmnopqrstuvwxyz0123456789"
def bases : List Str := ["lab1", "lq", "lzz9z", "pab1", "pq", "pzz9z"]
def opts : List Str := ["ab1", "q", "zz9z"]
def nmS (base : Str) (k j : Nat) : Str := cutS base none (some (k : Int)) ++ ⟨#[signS.cps.toList.getD j 0]⟩ ++ cutS base (some ((k : Int) + 1)) none
theorem nm_ok : ∀ b ∈ bases, ∀ k < 5, 1 ≤ k → k < b.length → ∀ j < 36, nameB (nmS b k j) = true := by decide +kernel
theorem nm_at : ∀ b ∈ bases, ∀ k < 5, 1 ≤ k → k < b.length → ∀ j < 36, (nmS b k j).cps.toList[k]? = some (signS.cps.toList.getD j 0) := by decide +kernel
theorem nm_len : ∀ b ∈ bases, ∀ k : Nat, k < 5 → (cutS b none (some (k : Int))).length ≤ 5 ∧ (cutS b (some ((k : Int) + 1)) none).length ≤ 5 := by decide +kernel
theorem str_app (a b : Str) : (a ++ b).length = a.length + b.length := by
  show (a.cps ++ b.cps).size = _
  exact Array.size_append
theorem base_len : ∀ b ∈ bases, 2 ≤ b.length ∧ b.length ≤ 5 := by decide +kernel
theorem base_in : ∀ f ∈ (["l", "p"] : List Str), ∀ o ∈ opts, f ++ o ∈ bases ∧ f.length + o.length ≤ 5 := by decide +kernel
theorem sign_inj : ∀ j < 36, ∀ i < 36, signS.cps.toList.getD j 0 = signS.cps.toList.getD i 0 → j = i := by decide +kernel
theorem sign_at : ∀ j < 36, signS.cps.toList[j]? = some (signS.cps.toList.getD j 0) := by decide +kernel
def nmsS (base : Str) (at_ start : Int) (many : Nat) : List Str := (List.range many).map fun i : Nat => nmS base at_.toNat ((start + (i : Int) * 5) % 36).toNat
theorem nms_len (base : Str) (at_ start : Int) (many : Nat) : (nmsS base at_ start many).length = many := by unfold nmsS; simp
theorem nms_snoc (base : Str) (at_ start : Int) (many : Nat) : nmsS base at_ start (many + 1) = nmsS base at_ start many ++ [nmS base at_.toNat ((start + (many : Int) * 5) % 36).toNat] := by
  unfold nmsS
  rw [List.range_succ, List.map_append]
  rfl
theorem nms_ok {base : Str} {at_ start : Int} {many : Nat} (hb : base ∈ bases) (h1 : 1 ≤ at_) (h2 : at_ < base.length) (h3 : 0 ≤ start) : Nok (nmsS base at_ start many) := fun x hx => by
  obtain ⟨i, _, rfl⟩ := List.mem_map.mp hx
  have bl := base_len base hb
  exact nm_ok base hb _ (by omega) (by omega) (by omega) _ (by omega)
theorem nms_nodup {base : Str} {at_ start : Int} {many : Nat} (hb : base ∈ bases) (h1 : 1 ≤ at_) (h2 : at_ < base.length) (h3 : 0 ≤ start) (hm : many ≤ 20) : (nmsS base at_ start many).Nodup := by
  have bl := base_len base hb
  unfold nmsS
  refine List.pairwise_map.mpr (List.Pairwise.imp_of_mem (fun {a b} ha hb' hlt => ?_) List.pairwise_lt_range)
  intro e
  have hb2 := List.mem_range.mp hb'
  have ea := nm_at base hb at_.toNat (by omega) (by omega) (by omega) ((start + (a : Int) * 5) % 36).toNat (by omega)
  have eb := nm_at base hb at_.toNat (by omega) (by omega) (by omega) ((start + (b : Int) * 5) % 36).toNat (by omega)
  rw [e, eb] at ea
  have := sign_inj _ (by omega) _ (by omega) (Option.some.inj ea)
  omega
section
variable {P : Program} {w : World} {K : PySem.W.Frag} {mg : Str → Option Value} {base : Heap}

def spNm : Sp := fun vs H Q _ => ∃ (c : Addr) (many : Nat) (first : Str), vs = [.ref c, .int (many : Int), .str first] ∧ Cup H c ∧ first ∈ (["l", "p"] : List Str) ∧ 1 ≤ many ∧ many ≤ 20 ∧ ∀ H' a L, H' a = some (.lst (L.map V.str)) → H a = none → L.length = many → Nok L → L.Nodup → Cup H' c → Kp [c] H H' → Tk H H' → Q (.ref a) H'
theorem sc__law_names : FnScope ["store", "many", "first", "base", "at", "signs", "start", "k"] ["store", "many", "first"] (C8.fnScope (topS 43)) := C8.fnScope_by (by decide +kernel)
theorem ok__law_names {f : Addr} {fd : FuncData} (F : C8.Def K mg "_law_names" (topS 43) f fd) (b : Binds K fd ["store", "many", "first"] []) (B : Bl K mg) (c_pick : C8.Cal P w K mg base 1 "_law_pick" spPick []) : C8.Cal P w K mg base 2 "_law_names" spNm [] := by
  refine C8.cal0 F b .nil sc__law_names ?len ?body
  case len => rintro vs H Q E ⟨c, many, first, rfl, _⟩; rfl
  case body =>
    rintro cdv A outer s H vs Q E hr ⟨c, many, first, rfl, hc, hf, hm0, hm1, q⟩
    refine ⟨_, (pss_cons (ps_set (i := 3) sc__law_names.nd rfl (Or.inr rfl) (pe_op op_add_str (pv 2) (pe_ix ix_list (pe_lst (pa_cons pe_str (pa_cons pe_str (pa_cons pe_str pa_nil)))) (C8.pe_c c_pick hr (by decide) rfl (pa_cons (pv 0) (pa_cons pe_int pa_nil))) (fun _ _ => rfl))))
    (pss_cons (ps_set (i := 4) sc__law_names.nd rfl (Or.inr rfl) (pe_op op_add pe_int (C8.pe_c c_pick hr (by decide) rfl (pa_cons (pv 0) (pa_cons (pe_op op_sub (pe_callB call_len_str rfl B.len PySem.boot_len (pa_cons (pv 3) pa_nil)) pe_int) pa_nil)))))
    (pss_cons (ps_asg (pe_tup (pa_cons pe_str (pa_cons (C8.pe_c c_pick hr (by decide) rfl (pa_cons (pv 0) (pa_cons pe_int pa_nil))) pa_nil))) (pg_tup rfl (pgs_cons (pg_name (i := 5) sc__law_names.nd rfl (Or.inr rfl)) (pgs_cons (pg_name (i := 6) sc__law_names.nd rfl (Or.inr rfl)) pgs_nil))))
    (pss_one (ps_ret (pe_lc (own := [("k", 7)]) (g := gName 7) (by rfl) sc__law_names.nd (pi_range1 rfl B.range (pa_cons (pv 1) pa_nil)) (blkOk_by (own := [("k", 7)]) (N := ["store", "many", "first", "base", "at", "signs", "start", "k"]) (sc := (C8.fnScope (topS 43))) (by decide +kernel)) (fun _ _ _ _ _ => pg_name (i := 7) sc__law_names.nd rfl (Or.inl rfl)) (fun _ _ _ _ _ => pts_nil) (fun _ _ _ _ _ => (pe_op op_add_str (pe_op op_add_str (pe_slice sl_str (pv 3) po_none (po_some (pv 4))) (pe_ix ix_str (pv 5) (pe_op op_mod (pe_callTy call_int1 rfl B.int (by decide +kernel) (pa_cons (pe_op op_add (pv 6) (pe_op op_mul (pv 7) pe_int)) pa_nil)) pe_int) (fun _ _ => rfl))) (pe_slice sl_str (pv 3) (po_some (pe_op op_add (pv 4) pe_int)) po_none))))))))), ?_⟩
    have ncn : ∀ {q} {H : Hp}, Cup H c → H q = none → c ≠ q := fun hc hq z => by obtain ⟨_, _, h1, _⟩ := hc; rw [z, hq] at h1; cases h1
    refine ⟨_, rfl, (by show 3 ≤ sizeLine; decide), fun l hl => ?_⟩
    have s1 := same_new hl (.lst [.str "ab1", .str "q", .str "zz9z"])
    have ncl := ncn hc hl
    have hl1 : upd H l (.lst [.str "ab1", .str "q", .str "zz9z"]) l = some (.lst (opts.map V.str)) := upd_same
    have hc1 := hc.same s1
    generalize upd H l (.lst [.str "ab1", .str "q", .str "zz9z"]) = H1 at s1 hl1 hc1
    refine ⟨_, rfl, c, 3, rfl, hc1, by omega, by omega, fun r H2 r0 r1 hc2 k2 t2 => ?_⟩
    have hl2 := k2 _ _ (by simpa using Ne.symm ncl) hl1
    obtain ⟨opt, ho, hat⟩ : ∃ opt, opt ∈ opts ∧ atI (opts.map V.str) r = some (.str opt) := by
      have hlt : r.toNat < opts.length := by show r.toNat < 3; omega
      refine ⟨opts[r.toNat], List.getElem_mem hlt, ?_⟩
      have := atI_nat (xs := opts.map V.str) (j := r.toNat) (v := .str opts[r.toNat]) (by rw [List.getElem?_map, List.getElem?_eq_getElem hlt]; rfl)
      rwa [show ((r.toNat : Nat) : Int) = r by omega] at this
    obtain ⟨hbase, hbl⟩ := base_in first hf opt ho
    refine ⟨l, _, _, _, rfl, rfl, SqL.of hl2, hat, _, _, rfl, rfl, Nat.le_trans hbl (by decide), ?_⟩
    generalize first ++ opt = bs at hbase
    have hlen := base_len bs hbase
    have s02 : Kp [c] H H2 := (Kp.of_same s1).trans k2
    have t02 : Tk H H2 := (Tk.same s1).trans t2
    refine ⟨_, rfl, _, rfl, bs, rfl, Nat.le_trans hlen.2 (by decide), _, _, rfl, rfl, c, (bs.length : Int) - 1, rfl, hc2, by omega, by omega, fun r2 H3 r20 r21 hc3 k3 t3 => ?_⟩
    refine ⟨_, _, rfl, rfl, ?_⟩
    refine ⟨_, rfl, c, 36, rfl, hc3, by omega, by omega, fun start H4 st0 st1 hc4 k4 t4 => ?_⟩
    refine ⟨(by show 2 ≤ sizeLine; decide), fun tp htp => ?_⟩
    have s5 := same_new htp (.tup [.str signS, .int start])
    have hc5 := hc4.same s5
    refine ⟨tp, _, rfl, SqT.of upd_same, rfl, _, _, rfl, _, _, rfl, rfl, ?_⟩
    have k05 : Kp [c] H (upd H4 tp (.tup [.str signS, .int start])) := s02.trans (k3.trans (k4.trans (Kp.of_same s5)))
    have t05 : Tk H (upd H4 tp (.tup [.str signS, .int start])) := t02.trans (t3.trans (t4.trans (Tk.same s5)))
    show (fun H5 => _) (upd H4 tp (.tup [.str signS, .int start]))
    generalize upd H4 tp (.tup [.str signS, .int start]) = H5 at hc5 k05 t05
    refine ⟨_, rfl, (many : Int), rfl, by omega, by omega, fun D hD => ?_⟩
    rw [Int.toNat_natCast]
    have hDn : H D = none := by
      cases e : H D with
      | none => rfl
      | some o =>
        have ncD : D ≠ c := fun z => by have := ncn hc5 hD; exact this z.symm
        have := k05 _ _ (by simpa using ncD) e
        rw [hD] at this; cases this
    have ncD : c ≠ D := ncn hc5 hD
    have hj : ∀ k : Nat, (0 : Int) ≤ (start + (k : Int) * 5) % 36 ∧ (start + (k : Int) * 5) % 36 < 36 := fun k => ⟨Int.emod_nonneg _ (by decide), Int.emod_lt_of_pos _ (by decide)⟩
    refine lc_range (fun j H' => H' D = some (.lst ((nmsS bs (1 + r2) start j).map V.str)) ∧ Same H5 H') ⟨upd_same, same_new hD _⟩ ?_ ?_
    · rintro j H6 hjl ⟨hD6, s6⟩
      refine ⟨rfl, ?_⟩
      obtain ⟨j0, j1⟩ := hj j
      have ec : atI signS.cps.toList ((start + (0 + (j : Int)) * 5) % 36) = some (signS.cps.toList.getD ((start + (j : Int) * 5) % 36).toNat 0) := by
        rw [Int.zero_add]
        have := atI_nat (sign_at ((start + (j : Int) * 5) % 36).toNat (by omega))
        rwa [show ((((start + (j : Int) * 5) % 36).toNat : Nat) : Int) = (start + (j : Int) * 5) % 36 by omega] at this
      obtain ⟨n1, n2⟩ := nm_len bs hbase (1 + r2).toNat (by omega)
      rw [show (((1 + r2).toNat : Nat) : Int) = 1 + r2 by omega] at n1 n2
      refine ⟨_, rfl, _, rfl, _, rfl, bs, rfl, Nat.le_trans hlen.2 (by decide), ?_⟩
      refine ⟨_, rfl, _, rfl, _, rfl, _, _, rfl, rfl, .inl ⟨by omega, by omega⟩, _, _, rfl, rfl, .inl ⟨_, rfl, _, _, rfl, rfl, (show (0 : Int) < 36 by decide), signS, _, _, rfl, rfl, (by show 36 ≤ sizeLine; decide), ec, _, _, rfl, rfl, Nat.le_trans (show _ ≤ 6 from ?_) (by decide), ?_⟩⟩
      · show (cutS bs none (some (1 + r2))).length + 1 ≤ 6
        omega
      refine ⟨_, rfl, _, rfl, _, _, rfl, rfl, _, rfl, bs, rfl, Nat.le_trans hlen.2 (by decide), _, _, rfl, rfl, ?_, ?_⟩
      · refine Nat.le_trans (show _ ≤ 11 from ?_) (by decide)
        rw [str_app]
        show (cutS bs none (some (1 + r2))).length + 1 + (cutS bs (some (1 + r2 + 1)) none).length ≤ 11
        omega
      · refine ⟨_, hD6, Nat.lt_of_le_of_lt (show _ ≤ 20 by rw [List.length_map, nms_len]; omega) (by decide), ?_, fun qq oo e => ?_⟩
        · rw [upd_same, nms_snoc, List.map_append]
          unfold nmS
          rw [show (((1 + r2).toNat : Nat) : Int) = 1 + r2 by omega]
          rfl
        · rw [upd_ne (fun z => by rw [z, hD] at e; cases e)]
          exact s6 _ _ e
    · rintro H6 ⟨hD6, s6⟩
      exact q _ D _ hD6 hDn (nms_len _ _ _ _) (nms_ok hbase (by omega) (by omega) st0) (nms_nodup hbase (by omega) (by omega) st0 hm1) (hc5.same s6) (k05.trans (Kp.of_same s6)) (t05.trans (Tk.same s6))
end
end K12


set_option Elab.async false
set_option linter.all false
set_option maxRecDepth 100000
set_option maxHeartbeats 8000000
namespace K12
open PySem PySem.Spec PyProof.Rows L2
/-- what the drawing of a program holds -/
structure Drw (H : Hp) (c R la na : Addr) (L N : List Str) (m : Nat) : Prop where
  cup : Cup H c
  room : H R = some (.lst [.int (m : Int)])
  hl : H la = some (.lst (L.map V.str))
  hn : H na = some (.lst (N.map V.str))
  n1 : c ≠ R
  n2 : la ≠ c
  n3 : na ≠ c
  n4 : la ≠ R
  n5 : na ≠ R
theorem Drw.same {H H' : Hp} {c R la na : Addr} {L N : List Str} {m : Nat} (d : Drw H c R la na L N m) (s : Same H H') : Drw H' c R la na L N m := ⟨d.cup.same s, s _ _ d.room, s _ _ d.hl, s _ _ d.hn, d.n1, d.n2, d.n3, d.n4, d.n5⟩
theorem Drw.pick {H H' : Hp} {c R la na : Addr} {L N : List Str} {m : Nat} (d : Drw H c R la na L N m) (hc : Cup H' c) (k : Kp [c] H H') : Drw H' c R la na L N m :=
  ⟨hc, k _ _ (by simpa using Ne.symm d.n1) d.room, k _ _ (by simpa using d.n2) d.hl, k _ _ (by simpa using d.n3) d.hn, d.n1, d.n2, d.n3, d.n4, d.n5⟩
theorem Drw.put {H : Hp} {c R la na : Addr} {L N : List Str} {m : Nat} (d : Drw H c R la na L N m) (m' : Nat) : Drw (upd H R (.lst [.int (m' : Int)])) c R la na L N m' :=
  ⟨d.cup.kp (as := [R]) (Kp.put _ (by simp)) (by simpa using d.n1), upd_same, by rw [upd_ne d.n4]; exact d.hl, by rw [upd_ne d.n5]; exact d.hn, d.n1, d.n2, d.n3, d.n4, d.n5⟩
theorem Drw.keep {H H' : Hp} {c R la na : Addr} {L N : List Str} {m m' : Nat} (d : Drw H c R la na L N m) (hc : Cup H' c) (hr : H' R = some (.lst [.int (m' : Int)])) (k : Kp [c, R] H H') : Drw H' c R la na L N m' :=
  ⟨hc, hr, k _ _ (by simp [d.n2, d.n4]) d.hl, k _ _ (by simp [d.n3, d.n5]) d.hn, d.n1, d.n2, d.n3, d.n4, d.n5⟩
theorem kp1 {c R : Addr} {H H' : Hp} (k : Kp [c] H H') : Kp [c, R] H H' := k.mono fun a h => by cases List.mem_singleton.mp h; simp
theorem pick_str {L : List Str} {H : Hp} {r : Int} (h0 : 0 ≤ r) (h1 : r < L.length) : ∃ x, x ∈ L ∧ atI (L.map V.str) r = some (.str x) := by
  have hlt : r.toNat < L.length := by omega
  refine ⟨L[r.toNat], List.getElem_mem hlt, ?_⟩
  have := atI_nat (xs := L.map V.str) (j := r.toNat) (v := .str L[r.toNat]) (by rw [List.getElem?_map, List.getElem?_eq_getElem hlt]; rfl)
  rwa [show ((r.toNat : Nat) : Int) = r by omega] at this
theorem pick_int {L : List Int} {r : Int} (h0 : 0 ≤ r) (h1 : r < L.length) : ∃ x, x ∈ L ∧ atI (L.map V.int) r = some (.int x) := by
  have hlt : r.toNat < L.length := by omega
  refine ⟨L[r.toNat], List.getElem_mem hlt, ?_⟩
  have := atI_nat (xs := L.map V.int) (j := r.toNat) (v := .int L[r.toNat]) (by rw [List.getElem?_map, List.getElem?_eq_getElem hlt]; rfl)
  rwa [show ((r.toNat : Nat) : Int) = r by omega] at this
theorem ds_snoc (b : List St) (s : St) : ds (b ++ [s]) = ds b ++ [s.d] := by rw [ds_map, ds_map, List.map_append]; rfl
theorem ns_snoc (b : List St) (s : St) : ns (b ++ [s]) = ns b + s.n := by rw [ns_app]; simp [ns]
theorem ks_snoc (b : List St) (s : St) : ks (b ++ [s]) = max (ks b) s.k := by rw [ks_app]; simp [ks]
theorem inV_ints (r : Int) (L : List Int) : inV (.int r) (L.map V.int) = decide (r ∈ L) := by
  induction L with
  | nil => rfl
  | cons z l ih =>
    show (eqV (.int z) (.int r) || inV (.int r) (l.map V.int)) = _
    rw [ih]
    have e : eqV (.int z) (.int r) = decide (z = r) := by
      show (z == r) = _
      by_cases h : z = r
      · subst h; simp
      · rw [decide_eq_false h]; exact beq_eq_false_iff_ne.mpr h
    rw [e]
    by_cases h : r = z
    · subst h; simp
    · simp [h, Ne.symm h]
section
variable {P : Program} {w : World} {K : PySem.W.Frag} {mg : Str → Option Value} {base : Heap}

def spDB (K : PySem.W.Frag) (n : Nat) : Sp := fun vs H Q _ => ∃ c la na R deep sec L N m, vs = [.ref c, .ref la, .ref na, .ref R, .int (deep : Nat), .bl sec] ∧ Drw H c R la na L N m ∧ m ≤ 200 ∧ deep < n ∧ 1 ≤ L.length ∧ L.length ≤ 20 ∧ 1 ≤ N.length ∧ N.length ≤ 20 ∧
  ∀ H' v b m', Dp K H' v (.tuple (ds b)) → oks L N sec b → ns b + m' = m → ks b ≤ deep + 1 → b.length ≤ 4 → Cup H' c → H' R = some (.lst [.int ((m' : Nat) : Int)]) → Kp [c, R] H H' → Tk H H' → Q v H'
def spDS (K : PySem.W.Frag) (n : Nat) : Sp := fun vs H Q _ => ∃ c la na R deep sec L N m, vs = [.ref c, .ref la, .ref na, .ref R, .int (deep : Nat), .bl sec] ∧ Drw H c R la na L N m ∧ m ≤ 200 ∧ deep < n ∧ 1 ≤ L.length ∧ L.length ≤ 20 ∧ 1 ≤ N.length ∧ N.length ≤ 20 ∧
  ∀ H' v s m', Dp K H' v (St.d s) → s.ok L N sec → s.n + m' = m + 1 → s.k ≤ deep + 1 → Cup H' c → H' R = some (.lst [.int ((m' : Nat) : Int)]) → Kp [c, R] H H' → Tk H H' → Q v H'
theorem sc__law_body : FnScope ["store", "letters", "names", "room", "deep", "second", "found", "turn"] ["store", "letters", "names", "room", "deep", "second"] (C8.fnScope (topS 44)) := C8.fnScope_by (by decide +kernel)
theorem sc__law_statement : FnScope ["store", "letters", "names", "room", "deep", "second", "kind", "many", "k", "body"] ["store", "letters", "names", "room", "deep", "second"] (C8.fnScope (topS 45)) := C8.fnScope_by (by decide +kernel)
theorem ok_db {n e : Nat} {f : Addr} {fd : FuncData} (F : C8.Def K mg "_law_body" (topS 44) f fd) (b : Binds K fd ["store", "letters", "names", "room", "deep", "second"] []) (B : Bl K mg) (c_pick : C8.Cal P w K mg base 1 "_law_pick" spPick []) (c_stmt : C8.Cal P w K mg base e "_law_statement" (spDS K n) []) (he : 1 ≤ e) : C8.Cal P w K mg base (e + 1) "_law_body" (spDB K n) [] := by
  refine C8.cal0 F b .nil sc__law_body ?len ?body
  case len => rintro vs H Q E ⟨c, la, na, R, deep, sec, L, N, m, rfl, _⟩; rfl
  case body =>
    rintro cdv A outer s H vs Q E hr ⟨c, la, na, R, deep, sec, L, N, m, rfl, hD, hm, hdn, hL1, hL2, hN1, hN2, q⟩
    refine ⟨_, (pss_cons (ps_set (i := 6) sc__law_body.nd rfl (Or.inl rfl) (pe_tup pa_nil))
    (pss_cons (ps_for PassesOwn.never rfl (pi_range1 rfl B.range (pa_cons (C8.pe_c c_pick hr (by omega) rfl (pa_cons (pv 0) (pa_cons pe_int pa_nil))) pa_nil)) (pg_name (i := 7) sc__law_body.nd rfl (Or.inl rfl))
    (pss_one (ps_if (pt_cmpR op_gt (pe_ix ix_list (pv 3) pe_int (fun _ _ => rfl)) pe_int (nomark _)) (pss_cons (ps_asg (pe_op op_sub (pe_ix ix_list (pv 3) pe_int (fun _ _ => rfl)) pe_int) (pg_sub (pv 3) pe_int set_list))
    (pss_one (ps_set (i := 6) sc__law_body.nd rfl (Or.inl rfl) (pe_op op_catA (pv 6) (pe_tup (pa_cons (C8.pe_c c_stmt hr (by omega) rfl (pa_cons (pv 0) (pa_cons (pv 1) (pa_cons (pv 2) (pa_cons (pv 3) (pa_cons (pv 4) (pa_cons (pv 5) pa_nil))))))) pa_nil)))))) pss_nil)))
    (pss_one (ps_ret (pv 6))))), ?_⟩
    refine ⟨(by show 0 ≤ sizeLine; decide), fun f0 hf0 => ?_⟩
    have s1 := same_new hf0 (.tup [])
    have D1 := hD.same s1
    have hf1 : upd H f0 (.tup []) f0 = some (.tup []) := upd_same
    generalize upd H f0 (.tup []) = H1 at s1 D1 hf1
    refine ⟨_, rfl, c, 5, rfl, D1.cup, by omega, by omega, fun r H2 r0 r1 hc2 k2 t2 => ?_⟩
    refine ⟨r, rfl, by omega, by omega, ?_⟩
    have D2 := D1.pick hc2 k2
    have k02 : Kp [c, R] H H2 := (Kp.of_same s1).trans (kp1 k2)
    have t02 : Tk H H2 := (Tk.same s1).trans t2
    refine for_range (lo := 0) (n := r.toNat) (fun i σ H' => ∃ b7 v b m', σ = [some (.ref c), some (.ref la), some (.ref na), some (.ref R), some (.int (deep : Nat)), some (.bl sec), some v, b7] ∧ Dp K H' v (.tuple (ds b)) ∧ oks L N sec b ∧ ns b + m' = m ∧ ks b ≤ deep + 1 ∧ b.length ≤ i ∧ Drw H' c R la na L N m' ∧ Kp [c, R] H H' ∧ Tk H H') ?_ ?_ ?_
    · exact ⟨none, _, [], m, rfl, .tup (t2.sqt (SqT.of hf1)) .nil, trivial, by simp [ns], by simp [ks], Nat.le_refl _, D2, k02, t02⟩
    · rintro i _ H3 hi ⟨b7, v, b, m', rfl, hb, ho, hn, hk, hbl, D3, k3, t3⟩
      refine ⟨_, rfl, R, _, _, _, rfl, rfl, SqL.of D3.room, at0 _ _, _, _, rfl, rfl, _, rfl, ?_⟩
      by_cases c1 : (0 : Int) < (m' : Int)
      · rw [decide_eq_true c1]
        refine iteT ?_
        refine ⟨_, rfl, R, _, _, _, rfl, rfl, SqL.of D3.room, at0 _ _, _, _, rfl, rfl, _, rfl, R, _, _, 0, rfl, rfl, D3.room, rfl, ?_⟩
        have D4 := D3.put (m' - 1)
        have em : ((m' : Nat) : Int) - 1 = ((m' - 1 : Nat) : Int) := by omega
        have tP := Tk.put D3.room (.lst [.int ((m' - 1 : Nat) : Int)])
        have kP : Kp [c, R] H3 (upd H3 R (.lst [.int ((m' - 1 : Nat) : Int)])) := Kp.put _ (by simp)
        show (fun H4 => _) (upd H3 R (.lst [.int (((m' : Nat) : Int) - 1)]))
        rw [em]
        have hb4 := tP.dp (.tuple (ds b)) (tup_ds b) hb
        generalize upd H3 R (.lst [.int ((m' - 1 : Nat) : Int)]) = H4 at D4 tP kP hb4
        refine ⟨_, rfl, _, rfl, _, rfl, _, rfl, _, rfl, _, rfl, _, rfl, c, la, na, R, deep, sec, L, N, m' - 1, rfl, D4, by omega, hdn, hL1, hL2, hN1, hN2, fun H5 w st m5 hw hso hsn hsk hc5 hr5 k5 t5 => ?_⟩
        refine ⟨(by show 1 ≤ sizeLine; decide), fun y hy => ?_⟩
        have sy := same_new hy (.tup [w])
        have t45 : Tk H4 (upd H5 y (.tup [w])) := t5.trans (Tk.same sy)
        have hb5 := t45.dp (.tuple (ds b)) (tup_ds b) hb4
        have hw5 := (Tk.same sy).dp _ (tup_St st) hw
        obtain ⟨ba, bxs, rfl, hbs, hba, hbx⟩ := len_ok hb5
        rw [ds_len] at hbx
        have D5 := (D4.keep hc5 hr5 k5).same sy
        have hyT : SqT K (upd H5 y (.tup [w])) y [w] := SqT.of upd_same
        have k5y : Kp [c, R] H (upd H5 y (.tup [w])) := k3.trans (kP.trans (k5.trans (Kp.of_same sy)))
        have t5y : Tk H (upd H5 y (.tup [w])) := t3.trans (tP.trans t45)
        generalize upd H5 y (.tup [w]) = H6 at hbs hba hw5 D5 hyT k5y t5y
        have fin : oks L N sec (b ++ [st]) ∧ ns (b ++ [st]) + m5 = m ∧ ks (b ++ [st]) ≤ deep + 1 ∧ (b ++ [st]).length ≤ i + 1 := by
          refine ⟨oks_iff.mpr fun x hx => ?_, by rw [ns_snoc]; omega, by rw [ks_snoc]; omega, by simp; omega⟩
          rcases List.mem_append.mp hx with h | h
          · exact oks_iff.mp ho x h
          · cases List.mem_singleton.mp h
            exact hso
        have hi4 : i < 5 := by omega
        refine ⟨ba, y, bxs, [w], rfl, rfl, hbs, hyT, Nat.le_trans (show bxs.length + 1 ≤ 6 by omega) (by decide), fun z => ?_, fun _ z => (by cases z), fun _ _ p hp => ?_⟩
        · have : b = [] := by
            cases b with
            | nil => rfl
            | cons _ _ => rw [z] at hbx; simp at hbx
          subst this
          exact ⟨_, _, [st], m5, rfl, .tup hyT (.cons hw5 .nil), fin.1, fin.2.1, fin.2.2.1, fin.2.2.2, D5, k5y, t5y⟩
        · have sp := same_new hp (.tup (bxs ++ [w]))
          refine ⟨_, _, b ++ [st], m5, rfl, .tup (SqT.of upd_same) ?_, fin.1, fin.2.1, fin.2.2.1, fin.2.2.2, D5.same sp, k5y.trans (Kp.of_same sp), t5y.trans (Tk.same sp)⟩
          rw [ds_snoc]
          exact dps_ext (same_ext sp) _ (dps_app hba (.cons hw5 .nil))
      · rw [decide_eq_false c1]
        exact iteF ⟨_, _, b, m', rfl, hb, ho, hn, hk, by omega, D3, k3, t3⟩
    · rintro σ H3 ⟨b7, v, b, m', rfl, hb, ho, hn, hk, hbl, D3, k3, t3⟩
      exact ⟨_, rfl, q H3 v b m' hb ho hn hk (by omega) D3.cup D3.room k3 t3⟩
theorem ok_dst {n e : Nat} {f : Addr} {fd : FuncData} (F : C8.Def K mg "_law_statement" (topS 45) f fd) (b : Binds K fd ["store", "letters", "names", "room", "deep", "second"] []) (B : Bl K mg) (c_pick : C8.Cal P w K mg base 1 "_law_pick" spPick []) (c_body : C8.Cal P w K mg base e "_law_body" (spDB K n) []) (he : 1 ≤ e) : C8.Cal P w K mg base (e + 1) "_law_statement" (spDS K (n + 1)) [] := by
  refine C8.cal0 F b .nil sc__law_statement ?len ?body
  case len => rintro vs H Q E ⟨c, la, na, R, deep, sec, L, N, m, rfl, _⟩; rfl
  case body =>
    rintro cdv A outer s H vs Q E hr ⟨c, la, na, R, deep, sec, L, N, m, rfl, hD, hm, hdn, hL1, hL2, hN1, hN2, q⟩
    refine ⟨_, (C8.pss_cut (ps_set (i := 6) sc__law_statement.nd rfl (Or.inl rfl) (C8.pe_c c_pick hr (by omega) rfl (pa_cons (pv 0) (pa_cons (pe_ifExp (pt_cmpR op_gt (pv 4) pe_int (nomark _)) pe_int pe_int) pa_nil))))
    (pss_cons (ps_if (pt_cmpR op_eq (pv 6) pe_int (nomark _)) (pss_one (ps_ret (pe_tup (pa_cons pe_str (pa_cons (pe_ix ix_list (pv 2) (C8.pe_c c_pick hr (by omega) rfl (pa_cons (pv 0) (pa_cons (pe_callB call_len_seq rfl B.len PySem.boot_len (pa_cons (pv 2) pa_nil)) pa_nil))) (fun _ _ => rfl)) pa_nil))))) pss_nil)
    (pss_cons (ps_if (PW.pt (pw_and (pt_cmpR op_eq (pv 6) pe_int (nomark _)) (pw_and1 (pt_not (pt_val (pv 5)))))) (pss_one (ps_ret (pe_tup (pa_cons pe_str pa_nil)))) pss_nil)
    (pss_cons (ps_if (pt_cmpR op_in_seq (pv 6) (pe_lst (pa_cons pe_int (pa_cons pe_int pa_nil))) (by with_unfolding_all rfl)) (pss_cons (ps_set (i := 7) sc__law_statement.nd rfl (Or.inl rfl) (pe_ix ix_list (pe_lst (pa_cons pe_int (pa_cons pe_int (pa_cons pe_int (pa_cons pe_int pa_nil))))) (C8.pe_c c_pick hr (by omega) rfl (pa_cons (pv 0) (pa_cons pe_int pa_nil))) (fun _ _ => rfl)))
    (pss_one (ps_ret (pe_tup (pa_cons pe_str (pa_cons (pe_callTy call_tuple_of rfl B.tuple (by decide +kernel) (pa_cons (pe_lc (own := [("k", 8)]) (g := gName 8) (te := tCall (spDB K n) [] C8.E0 (tCons (tVar 0) (tCons (tVar 1) (tCons (tVar 2) (tCons (tVar 3) (tCons (tOp (rI0 fun i j => .int (i - j)) (tVar 4) (tC (.int 1))) (tCons (tVar 5) tNil))))))) (by rfl) sc__law_statement.nd (pi_range1 rfl B.range (pa_cons (pv 7) pa_nil)) (blkOk_by (own := [("k", 8)]) (N := ["store", "letters", "names", "room", "deep", "second", "kind", "many", "k", "body"]) (sc := (C8.fnScope (topS 45))) (by decide +kernel)) (fun _ _ _ _ _ => pg_name (i := 8) sc__law_statement.nd rfl (Or.inl rfl)) (fun _ _ _ _ _ => pts_nil) (fun _ _ _ _ _ => by exact (C8.pe_c c_body hr (by omega) rfl (pa_cons (pv 0) (pa_cons (pv 1) (pa_cons (pv 2) (pa_cons (pv 3) (pa_cons (pe_op op_sub (pv 4) pe_int) (pa_cons (pv 5) pa_nil))))))))) pa_nil)) pa_nil)))))) pss_nil)
    (pss_cons (ps_if (pt_cmpR op_in_seq (pv 6) (pe_lst (pa_cons pe_int (pa_cons pe_int (pa_cons pe_int pa_nil)))) (by with_unfolding_all rfl)) (pss_cons (ps_set (i := 9) sc__law_statement.nd rfl (Or.inl rfl) (C8.pe_c c_body hr (by omega) rfl (pa_cons (pv 0) (pa_cons (pv 1) (pa_cons (pv 2) (pa_cons (pv 3) (pa_cons (pe_op op_sub (pv 4) pe_int) (pa_cons (pv 5) pa_nil))))))))
    (pss_one (ps_ret (pe_tup (pa_cons pe_str (pa_cons (pv 9) (pa_cons (C8.pe_c c_body hr (by omega) rfl (pa_cons (pv 0) (pa_cons (pv 1) (pa_cons (pv 2) (pa_cons (pv 3) (pa_cons (pe_op op_sub (pv 4) pe_int) (pa_cons pe_bl pa_nil))))))) pa_nil))))))) pss_nil)
    (pss_cons (ps_if (pt_cmpR op_eq (pv 6) pe_int (nomark _)) (pss_one (ps_ret (pe_tup (pa_cons pe_str (pa_cons (C8.pe_c c_body hr (by omega) rfl (pa_cons (pv 0) (pa_cons (pv 1) (pa_cons (pv 2) (pa_cons (pv 3) (pa_cons (pe_op op_sub (pv 4) pe_int) (pa_cons (pv 5) pa_nil))))))) pa_nil))))) pss_nil)
    (pss_one (ps_ret (pe_tup (pa_cons (pe_ix ix_list (pe_lst (pa_cons pe_str (pa_cons pe_str pa_nil))) (C8.pe_c c_pick hr (by omega) rfl (pa_cons (pv 0) (pa_cons pe_int pa_nil))) (fun _ _ => rfl)) (pa_cons (pe_ix ix_list (pv 1) (C8.pe_c c_pick hr (by omega) rfl (pa_cons (pv 0) (pa_cons (pe_callB call_len_seq rfl B.len PySem.boot_len (pa_cons (pv 1) pa_nil)) pa_nil))) (fun _ _ => rfl)) pa_nil))))))))))), ?_⟩
    refine ⟨fun σ' H' => ∃ r : Int, σ' = [some (.ref c), some (.ref la), some (.ref na), some (.ref R), some (.int (deep : Nat)), some (.bl sec), some (.int r), none, none, none] ∧ 0 ≤ r ∧ r < 12 ∧ (6 ≤ r → 0 < deep) ∧ Drw H' c R la na L N m ∧ Kp [c, R] H H' ∧ Tk H H', ?_, ?_⟩
    · refine ⟨_, rfl, _, rfl, _, _, rfl, rfl, _, rfl, ?_⟩
      by_cases c1 : (0 : Int) < (deep : Nat)
      · rw [decide_eq_true c1]
        refine iteT ⟨c, 12, rfl, hD.cup, by omega, by omega, fun r H1 r0 r1 hc1 k1 t1 => ?_⟩
        exact ⟨r, rfl, r0, r1, fun _ => by omega, hD.pick hc1 k1, kp1 k1, t1⟩
      · rw [decide_eq_false c1]
        refine iteF ⟨c, 6, rfl, hD.cup, by omega, by omega, fun r H1 r0 r1 hc1 k1 t1 => ?_⟩
        exact ⟨r, rfl, r0, by omega, fun _ => by omega, hD.pick hc1 k1, kp1 k1, t1⟩
    rintro _ H1 ⟨r, rfl, r0, r12, rd, D1, k1, t1⟩
    -- one sign more or less
    refine ⟨_, rfl, rfl, _, rfl, ?_⟩
    rw [dec_int]
    by_cases c4 : r = 4
    · rw [decide_eq_true c4]
      refine iteT ⟨_, rfl, _, rfl, _, rfl, na, _, rfl, .inl (SqL.of D1.hn), c, _, rfl, D1.cup, by rw [List.length_map]; omega, by rw [List.length_map]; omega, fun r2 H2 r20 r21 hc2 k2 t2 => ?_⟩
      have D2 := D1.pick hc2 k2
      rw [List.length_map] at r21
      obtain ⟨x, hx, hat⟩ := pick_str (L := N) (H := H2) r20 r21
      refine ⟨na, _, _, _, rfl, rfl, SqL.of D2.hn, hat, (by show 2 ≤ sizeLine; decide), fun p hp => ?_⟩
      have sp := same_new hp (.tup [.str "call", .str x])
      exact q _ _ (.cl x) m (.tup (SqT.of upd_same) (.cons (.str _) (.cons (.str _) .nil))) hx (by simp [St.n]; omega) (by simp [St.k]) (D2.same sp).cup (D2.same sp).room (k1.trans ((kp1 k2).trans (Kp.of_same sp))) (t1.trans (t2.trans (Tk.same sp)))
    rw [decide_eq_false c4]
    refine iteF ?_
    have ret : ∀ X : Prop, (sec = false → r = 5 → False) ∨ (sec = false ∧ r = 5) := fun _ => by
      by_cases h : sec = false ∧ r = 5
      · exact .inr h
      · exact .inl fun a b => h ⟨a, b⟩
    rcases ret True with c5 | ⟨c5, c5b⟩
    rotate_left
    · refine ⟨_, rfl, rfl, _, rfl, ?_⟩
      rw [dec_int, decide_eq_true c5b]
      refine iteT ⟨_, rfl, _, rfl, ?_⟩
      subst c5
      refine iteT ⟨(by show 1 ≤ sizeLine; decide), fun p hp => ?_⟩
      have sp := same_new hp (.tup [.str "return"])
      exact q _ _ .rt m (.tup (SqT.of upd_same) (.cons (.str _) .nil)) rfl (by simp [St.n]; omega) (by simp [St.k]) (D1.same sp).cup (D1.same sp).room (k1.trans (Kp.of_same sp)) (t1.trans (Tk.same sp))
    refine ⟨_, rfl, rfl, _, rfl, ?_⟩
    rw [dec_int]
    have go5 : ∀ {A B : Prop}, B → ((if decide (r = 5) = true then (∃ v, ([some (.ref c), some (.ref la), some (.ref na), some (.ref R), some (.int (deep : Nat)), some (.bl sec), some (.int r), none, none, none] : L2.St)[5]? = some (some v) ∧ ∃ k, v = .bl k ∧ if (!k) = true then A else B) else B)) := fun {A B} b => by
      by_cases h : r = 5
      · rw [if_pos (by simpa using h)]
        refine ⟨_, rfl, _, rfl, ?_⟩
        cases sec with
        | true => exact iteF b
        | false => exact (c5 rfl h).elim
      · rw [if_neg (by simpa using h)]
        exact b
    refine go5 ?_
    refine ⟨_, rfl, (by show 2 ≤ sizeLine; decide), fun l1 hl1 => ⟨l1, _, rfl, .inl (SqL.of upd_same), rfl, rfl, _, rfl, ?_⟩⟩
    have s2 := same_new hl1 (.lst [.int 6, .int 7])
    have D2 := D1.same s2
    have k2 := k1.trans (Kp.of_same s2)
    have t2 := t1.trans (Tk.same s2)
    show if inV (.int r) (([6, 7] : List Int).map V.int) = true then _ else _
    rw [inV_ints]
    generalize upd H1 l1 (.lst [.int 6, .int 7]) = H2 at D2 k2 t2
    by_cases c6 : r ∈ ([6, 7] : List Int)
    · rw [decide_eq_true c6]
      have hd0 : 0 < deep := rd (by simp at c6; omega)
      refine iteT ?_
      refine ⟨(by show 4 ≤ sizeLine; decide), fun l3 hl3 => ?_⟩
      have s3 := same_new hl3 (.lst [.int 2, .int 2, .int 3, .int 6])
      have D3 := D2.same s3
      have hl4 : upd H2 l3 (.lst [.int 2, .int 2, .int 3, .int 6]) l3 = some (.lst (([2, 2, 3, 6] : List Int).map V.int)) := upd_same
      have nl3 : l3 ≠ c := fun z => by obtain ⟨_, _, h1, _⟩ := D2.cup; rw [← z, hl3] at h1; cases h1
      refine ⟨_, rfl, c, 4, rfl, D3.cup, by omega, by omega, fun r3 H4 r30 r31 hc4 k4 t4 => ?_⟩
      have D4 := D3.pick hc4 k4
      obtain ⟨mm, hmm, hat⟩ := pick_int (L := [2, 2, 3, 6]) r30 r31
      have hmm2 : 2 ≤ mm ∧ mm ≤ 6 := by simp at hmm; omega
      have k04 : Kp [c, R] H H4 := k2.trans ((Kp.of_same s3).trans (kp1 k4))
      have t04 : Tk H H4 := t2.trans ((Tk.same s3).trans t4)
      refine ⟨l3, _, _, _, rfl, rfl, SqL.of (k4 _ _ (by simpa using nl3) hl4), hat, ?_⟩
      refine ⟨_, rfl, mm, rfl, by omega, by omega, fun Dd hDd => ?_⟩
      have nDc : Dd ≠ c := fun z => by obtain ⟨_, _, h1, _⟩ := D4.cup; rw [← z, hDd] at h1; cases h1
      have nDR : Dd ≠ R := fun z => by have := D4.room; rw [← z, hDd] at this; cases this
      have nDl : Dd ≠ la := fun z => by have := D4.hl; rw [← z, hDd] at this; cases this
      have nDn : Dd ≠ na := fun z => by have := D4.hn; rw [← z, hDd] at this; cases this
      have hDH : ∀ qq oo, H qq = some oo → qq ∉ [c, R] → qq ≠ Dd := fun qq oo e n z => by rw [z] at e n; have := k04 _ _ n e; rw [hDd] at this; cases this
      refine lc_range (fun j H' => ∃ vs bs m', H' Dd = some (.lst vs) ∧ DpAll K H' vs (dss bs) ∧ okss L N sec bs ∧ nss bs + m' = m ∧ kss bs ≤ deep ∧ bs.length = j ∧ Drw H' c R la na L N m' ∧ Kp [c, R] H H' ∧ Tk H H') ?_ ?_ ?_
      · refine ⟨[], [], m, upd_same, .nil, trivial, by simp [nss], by simp [kss], rfl, D4.same (same_new hDd _), k04.trans (Kp.new _ hDd), t04.trans (Tk.new hDd _)⟩
      · rintro j H5 hj ⟨vs, bs, m', h51, h52, h53, h54, h55, h56, D5, k5, t5⟩
        refine ⟨rfl, ?_⟩
        refine ⟨_, rfl, _, rfl, _, rfl, _, rfl, _, rfl, _, _, rfl, rfl, _, rfl, c, la, na, R, deep - 1, sec, L, N, m', (by rw [show (((deep - 1 : Nat)) : Int) = (deep : Int) - 1 by omega]; rfl), D5, by omega, by omega, hL1, hL2, hN1, hN2, fun H6 v b m6 hv hvo hvn hvk _ hc6 hr6 k6 t6 => ?_⟩
        have h61 := k6 _ _ (by simp [nDc, nDR]) h51
        have tD := Tk.put h61 (.lst (vs ++ [v]))
        have D6 := D5.keep hc6 hr6 k6
        have D7 : Drw (upd H6 Dd (.lst (vs ++ [v]))) c R la na L N m6 := ⟨D6.cup.kp (as := [Dd]) (Kp.put _ (by simp)) (by simpa using Ne.symm nDc), by rw [upd_ne (Ne.symm nDR)]; exact D6.room, by rw [upd_ne (Ne.symm nDl)]; exact D6.hl, by rw [upd_ne (Ne.symm nDn)]; exact D6.hn, D6.n1, D6.n2, D6.n3, D6.n4, D6.n5⟩
        have hvl := dps_len h52
        rw [dss_len] at hvl
        have hjm : j < mm.toNat := hj
        refine ⟨vs, h61, Nat.lt_of_le_of_lt (show vs.length ≤ 6 by omega) (by decide), vs ++ [v], bs ++ [b], m6, upd_same, ?_, ?_, ?_, ?_, by rw [List.length_append, h56]; rfl, D7, ?_, t5.trans (t6.trans tD)⟩
        · rw [dss_snoc]
          exact dps_app (tD.dps _ (tup_dss bs) (t6.dps _ (tup_dss bs) h52)) (.cons (tD.dp (.tuple (ds b)) (tup_ds b) hv) .nil)
        · refine okss_iff.mpr fun x hx => (List.mem_append.mp hx).elim (okss_iff.mp h53 x) fun z => ?_
          cases List.mem_singleton.mp z
          exact hvo
        · rw [nss_app]; simp [nss]; omega
        · have e1 : ∀ (x y : List (List St)), kss (x ++ y) = max (kss x) (kss y) := fun x y => by
            induction x with
            | nil => simp [kss]
            | cons z l ih => rw [List.cons_append, kss, kss, ih]; omega
          rw [e1]
          simp [kss]
          omega
        · intro qq oo n e
          rw [upd_ne (hDH qq oo e n)]
          exact k6 _ _ n (k5 _ _ n e)
      · rintro H5 ⟨vs, bs, m', h51, h52, h53, h54, h55, h56, D5, k5, t5⟩
        refine ⟨Dd, _, rfl, .inl ⟨SqL.of h51, fun z hz => ⟨(by show 2 ≤ sizeLine; decide), fun w hw => ?_⟩⟩⟩
        have nzw : z ≠ w := fun qq => by rw [← qq, upd_same] at hw; cases hw
        have sP := (same_new hz (.tup vs)).trans (same_new hw (.tup [.str "choose", .ref z]))
        refine q _ _ (.ch bs) m' (.tup (SqT.of upd_same) (.cons (.str _) (.cons (.tup (SqT.of (by rw [upd_ne nzw]; exact upd_same)) ((Tk.same sP).dps _ (tup_dss bs) h52)) .nil))) ⟨by omega, by omega, h53⟩ (by rw [St.n]; omega) (by rw [St.k]; omega) (D5.same sP).cup (D5.same sP).room (k5.trans (Kp.of_same sP)) (t5.trans (Tk.same sP))
    rw [decide_eq_false c6]
    refine iteF ?_
    refine ⟨_, rfl, (by show 3 ≤ sizeLine; decide), fun l3 hl3 => ⟨l3, _, rfl, .inl (SqL.of upd_same), rfl, rfl, _, rfl, ?_⟩⟩
    have s3 := same_new hl3 (.lst [.int 8, .int 9, .int 10])
    have D3 := D2.same s3
    have k3 := k2.trans (Kp.of_same s3)
    have t3 := t2.trans (Tk.same s3)
    show if inV (.int r) (([8, 9, 10] : List Int).map V.int) = true then _ else _
    rw [inV_ints]
    generalize upd H2 l3 (.lst [.int 8, .int 9, .int 10]) = H3 at D3 k3 t3
    by_cases c8 : r ∈ ([8, 9, 10] : List Int)
    · rw [decide_eq_true c8]
      have hd0 : 0 < deep := rd (by simp at c8; omega)
      refine iteT ?_
      refine ⟨_, rfl, _, rfl, _, rfl, _, rfl, _, rfl, _, _, rfl, rfl, _, rfl, c, la, na, R, deep - 1, sec, L, N, m, (by rw [show (((deep - 1 : Nat)) : Int) = (deep : Int) - 1 by omega]; rfl), D3, hm, by omega, hL1, hL2, hN1, hN2, fun H4 v b m4 hv hvo hvn hvk _ hc4 hr4 k4 t4 => ?_⟩
      have D4 := D3.keep hc4 hr4 k4
      refine ⟨_, rfl, _, rfl, _, rfl, _, rfl, _, rfl, _, rfl, _, _, rfl, rfl, c, la, na, R, deep - 1, true, L, N, m4, (by rw [show (((deep - 1 : Nat)) : Int) = (deep : Int) - 1 by omega]; rfl), D4, by omega, by omega, hL1, hL2, hN1, hN2, fun H5 v5 b5 m5 hv5 hvo5 hvn5 hvk5 _ hc5 hr5 k5 t5 => ⟨(by show 3 ≤ sizeLine; decide), fun p hp => ?_⟩⟩
      have D5 := D4.keep hc5 hr5 k5
      have sp := same_new hp (.tup [.str "ensure", v, v5])
      exact q _ _ (.en b b5) m5 (.tup (SqT.of upd_same) (.cons (.str _) (.cons ((t5.trans (Tk.same sp)).dp (.tuple (ds b)) (tup_ds b) hv) (.cons ((Tk.same sp).dp (.tuple (ds b5)) (tup_ds b5) hv5) .nil)))) ⟨hvo, hvo5⟩ (by rw [St.n]; omega) (by rw [St.k]; omega) (D5.same sp).cup (D5.same sp).room (k3.trans (k4.trans (k5.trans (Kp.of_same sp)))) (t3.trans (t4.trans (t5.trans (Tk.same sp))))
    rw [decide_eq_false c8]
    refine iteF ?_
    refine ⟨_, rfl, rfl, _, rfl, ?_⟩
    rw [dec_int]
    by_cases c11 : r = 11
    · rw [decide_eq_true c11]
      have hd0 : 0 < deep := rd (by omega)
      refine iteT ?_
      refine ⟨_, rfl, _, rfl, _, rfl, _, rfl, _, rfl, _, _, rfl, rfl, _, rfl, c, la, na, R, deep - 1, sec, L, N, m, (by rw [show (((deep - 1 : Nat)) : Int) = (deep : Int) - 1 by omega]; rfl), D3, hm, by omega, hL1, hL2, hN1, hN2, fun H4 v b m4 hv hvo hvn hvk _ hc4 hr4 k4 t4 => ⟨(by show 2 ≤ sizeLine; decide), fun p hp => ?_⟩⟩
      have D4 := D3.keep hc4 hr4 k4
      have sp := same_new hp (.tup [.str "loop", v])
      exact q _ _ (.lp b) m4 (.tup (SqT.of upd_same) (.cons (.str _) (.cons ((Tk.same sp).dp (.tuple (ds b)) (tup_ds b) hv) .nil))) hvo (by rw [St.n]; omega) (by rw [St.k]; omega) (D4.same sp).cup (D4.same sp).room (k3.trans (k4.trans (Kp.of_same sp))) (t3.trans (t4.trans (Tk.same sp)))
    rw [decide_eq_false c11]
    refine iteF ?_
    refine ⟨(by show 2 ≤ sizeLine; decide), fun l5 hl5 => ?_⟩
    have s5 := same_new hl5 (.lst [.str "do", .str "undo"])
    have D5 := D3.same s5
    have hl6 : upd H3 l5 (.lst [.str "do", .str "undo"]) l5 = some (.lst ((["do", "undo"] : List Str).map V.str)) := upd_same
    have nl5 : l5 ≠ c := fun z => by obtain ⟨_, _, h1, _⟩ := D3.cup; rw [← z, hl5] at h1; cases h1
    refine ⟨_, rfl, c, 2, rfl, D5.cup, by omega, by omega, fun r6 H6 r60 r61 hc6 k6 t6 => ?_⟩
    have D6 := D5.pick hc6 k6
    obtain ⟨wd, hwd, hatw⟩ := pick_str (L := ["do", "undo"]) (H := H6) r60 r61
    refine ⟨l5, _, _, _, rfl, rfl, SqL.of (k6 _ _ (by simpa using nl5) hl6), hatw, ?_⟩
    refine ⟨_, rfl, _, rfl, _, rfl, la, _, rfl, .inl (SqL.of D6.hl), c, _, rfl, D6.cup, by rw [List.length_map]; omega, by rw [List.length_map]; omega, fun r7 H7 r70 r71 hc7 k7 t7 => ?_⟩
    have D7 := D6.pick hc7 k7
    rw [List.length_map] at r71
    obtain ⟨x, hx, hat⟩ := pick_str (L := L) (H := H7) r70 r71
    refine ⟨la, _, _, _, rfl, rfl, SqL.of D7.hl, hat, (by show 2 ≤ sizeLine; decide), fun p hp => ?_⟩
    have sp := same_new hp (.tup [.str wd, .str x])
    have kk : Kp [c, R] H (upd H7 p (.tup [.str wd, .str x])) := k3.trans ((Kp.of_same s5).trans ((kp1 k6).trans ((kp1 k7).trans (Kp.of_same sp))))
    have tt : Tk H (upd H7 p (.tup [.str wd, .str x])) := t3.trans ((Tk.same s5).trans (t6.trans (t7.trans (Tk.same sp))))
    simp at hwd
    rcases hwd with rfl | rfl
    · exact q _ _ (.dd x) m (.tup (SqT.of upd_same) (.cons (.str _) (.cons (.str _) .nil))) hx (by simp [St.n]; omega) (by simp [St.k]) (D7.same sp).cup (D7.same sp).room kk tt
    · exact q _ _ (.ud x) m (.tup (SqT.of upd_same) (.cons (.str _) (.cons (.str _) .nil))) hx (by simp [St.n]; omega) (by simp [St.k]) (D7.same sp).cup (D7.same sp).room kk tt
end
end K12


set_option Elab.async false
set_option linter.all false
set_option maxRecDepth 100000
set_option maxHeartbeats 8000000
namespace K12
open PySem PySem.Spec PyProof.Rows L2
-- how many returns, and how great the second bodies are
mutual
def St.r : St → Nat
  | .ch bs => rss bs
  | .lp b => rs b
  | .rt => 1
  | .en b _ => rs b
  | _ => 0
def rs : List St → Nat
  | [] => 0
  | s :: l => s.r + rs l
def rss : List (List St) → Nat
  | [] => 0
  | b :: l => rs b + rss l
end
mutual
def St.e : St → Nat
  | .ch bs => ess bs
  | .lp b => es b
  | .en b c => es b + ns c
  | _ => 0
def es : List St → Nat
  | [] => 0
  | s :: l => s.e + es l
def ess : List (List St) → Nat
  | [] => 0
  | b :: l => es b + ess l
end
mutual
theorem re_n : ∀ s : St, s.r + s.e ≤ s.n
  | .dd _ | .ud _ | .cl _ | .rt => by simp [St.r, St.e, St.n]
  | .ch bs => by have := re_nss bs; simp [St.r, St.e, St.n]; omega
  | .lp b => by have := re_ns b; simp [St.r, St.e, St.n]; omega
  | .en b c => by have := re_ns b; simp [St.r, St.e, St.n]; omega
theorem re_ns : ∀ b : List St, rs b + es b ≤ ns b
  | [] => by simp [rs, es, ns]
  | s :: l => by have := re_n s; have := re_ns l; simp [rs, es, ns]; omega
theorem re_nss : ∀ b : List (List St), rss b + ess b ≤ nss b
  | [] => by simp [rss, ess, nss]
  | s :: l => by have := re_ns s; have := re_nss l; simp [rss, ess, nss]; omega
end
mutual
theorem r_zero {L N : List Str} : ∀ s : St, s.ok L N true → s.r = 0
  | .dd _, _ | .ud _, _ | .cl _, _ => rfl
  | .rt, h => by cases h
  | .ch bs, h => rss_zero bs h.2.2
  | .lp b, h => rs_zero b h
  | .en b c, h => rs_zero b h.1
theorem rs_zero {L N : List Str} : ∀ b : List St, oks L N true b → rs b = 0
  | [], _ => rfl
  | s :: l, h => by rw [rs, r_zero s h.1, rs_zero l h.2]
theorem rss_zero {L N : List Str} : ∀ b : List (List St), okss L N true b → rss b = 0
  | [], _ => rfl
  | s :: l, h => by rw [rss, rs_zero s h.1, rss_zero l h.2]
end
theorem mul2 {a b c d S : Nat} : a * (S + b) + c * (S + d) ≤ (a + c) * (S + (b + d)) := by
  have h1 : a * (S + b) ≤ a * (S + (b + d)) := Nat.mul_le_mul_left a (by omega)
  have h2 : c * (S + d) ≤ c * (S + (b + d)) := Nat.mul_le_mul_left c (by omega)
  rw [Nat.add_mul]
  omega
mutual
theorem made_S (L N : List Str) : ∀ (s : St) (sec : Bool) {lv : List PyData → Int × List PyData} (S : Nat) (t : Int) (ps : List PyData), s.ok L N sec → (∀ ps, (lv ps).2.length ≤ ps.length + S) → (layS L N lv s t ps).2.length ≤ ps.length + s.n + s.r * (S + s.e)
  | .dd _, _, _, S, t, ps, _, _ | .ud _, _, _, S, t, ps, _, _ | .cl _, _, _, S, t, ps, _, _ => by simp [layS, St.n]
  | .ch bs, sec, lv, S, t, ps, o, h => by
    have := made_Bs L N bs sec S t ps o.2.2 h
    simp [layS, St.n, St.r, St.e]
    omega
  | .lp b, sec, lv, S, t, ps, o, h => by
    have := made_B L N b sec S (ps.length : Nat) (ps ++ [.none]) o h
    simp at this
    simp [layS, St.n, St.r, St.e]
    omega
  | .rt, _, lv, S, t, ps, _, h => by
    have := h ps
    simp [layS, St.n, St.r, St.e]
    omega
  | .en b c, sec, lv, S, t, ps, o, h => by
    have h0 : ∀ ps : List PyData, ((fun ps => ((0 : Int), ps)) ps).2.length ≤ ps.length + 0 := fun _ => Nat.le_refl _
    have hc := fun t ps => made_B L N c true (lv := fun ps => ((0 : Int), ps)) 0 t ps o.2 h0
    rw [rs_zero c o.2] at hc
    have hb := made_B L N b sec (lv := fun ps => let q := lv ps; layB L N (fun ps => (0, ps)) c q.1 q.2) (S + ns c) (layB L N (fun ps => (0, ps)) c t ps).1 (layB L N (fun ps => (0, ps)) c t ps).2 o.1 (fun ps => by
      have h1 := hc (lv ps).1 (lv ps).2
      have h2 := h ps
      show (layB L N (fun ps => (0, ps)) c (lv ps).1 (lv ps).2).2.length ≤ _
      omega)
    have h1 := hc t ps
    rw [layS]
    simp only [St.n, St.r, St.e]
    rw [show S + (es b + ns c) = S + ns c + es b by omega]
    show (layB L N (fun ps => let q := lv ps; layB L N (fun ps => (0, ps)) c q.1 q.2) b (layB L N (fun ps => (0, ps)) c t ps).1 (layB L N (fun ps => (0, ps)) c t ps).2).2.length ≤ _
    omega
theorem made_B (L N : List Str) : ∀ (b : List St) (sec : Bool) {lv : List PyData → Int × List PyData} (S : Nat) (t : Int) (ps : List PyData), oks L N sec b → (∀ ps, (lv ps).2.length ≤ ps.length + S) → (layB L N lv b t ps).2.length ≤ ps.length + ns b + rs b * (S + es b)
  | [], _, _, _, _, _, _, _ => by simp [layB, ns, rs]
  | s :: l, sec, lv, S, t, ps, o, h => by
    have h1 := made_B L N l sec S t ps o.2 h
    have h2 := made_S L N s sec S (layB L N lv l t ps).1 (layB L N lv l t ps).2 o.1 h
    have h3 := @mul2 s.r s.e (rs l) (es l) S
    rw [layB, ns, rs, es]
    show (layS L N lv s (layB L N lv l t ps).1 (layB L N lv l t ps).2).2.length ≤ _
    omega
theorem made_Bs (L N : List Str) : ∀ (b : List (List St)) (sec : Bool) {lv : List PyData → Int × List PyData} (S : Nat) (t : Int) (ps : List PyData), okss L N sec b → (∀ ps, (lv ps).2.length ≤ ps.length + S) → (layBs L N lv b t ps).2.length ≤ ps.length + nss b + rss b * (S + ess b)
  | [], _, _, _, _, _, _, _ => by simp [layBs, nss, rss]
  | s :: l, sec, lv, S, t, ps, o, h => by
    have h1 := made_B L N s sec S t ps o.1 h
    have h2 := made_Bs L N l sec S t (layB L N lv s t ps).2 o.2 h
    have h3 := @mul2 (rs s) (es s) (rss l) (ess l) S
    rw [layBs, nss, rss, ess]
    show (layBs L N lv l t (layB L N lv s t ps).2).2.length ≤ _
    omega
end
theorem sq30 : ∀ r ≤ 30, r * (30 - r) ≤ 225 := by decide
theorem few_30 {L N : List Str} {p : Str × List St} (o : oks L N false p.2) (h : ns p.2 ≤ 30) : (layP L N p).2.length ≤ 300 := by
  have h1 := made_B L N p.2 false (lv := leave L N []) 0 0 [.tuple [.str "end"]] o (fun _ => Nat.le_refl _)
  have h2 := re_ns p.2
  have h3 := sq30 (rs p.2) (by omega)
  have h4 : rs p.2 * (0 + es p.2) ≤ rs p.2 * (30 - rs p.2) := Nat.mul_le_mul_left _ (by omega)
  unfold layP
  rw [List.length_singleton] at h1
  omega
section
variable {P : Program} {w : World} {K : PySem.W.Frag} {mg : Str → Option Value} {base : Heap}
theorem drw {fb fs : Addr} {fdb fds : FuncData} (Fb : C8.Def K mg "_law_body" (topS 44) fb fdb) (bb : Binds K fdb ["store", "letters", "names", "room", "deep", "second"] []) (Fs : C8.Def K mg "_law_statement" (topS 45) fs fds) (bs : Binds K fds ["store", "letters", "names", "room", "deep", "second"] []) (B : Bl K mg) (c_pick : C8.Cal P w K mg base 1 "_law_pick" spPick []) :
    ∀ n : Nat, C8.Cal P w K mg base (2 * n + 3) "_law_body" (spDB K n) []
  | 0 => by
    refine ok_db Fb bb B c_pick ?_ (by omega)
    refine C8.cal0 (k := 1) Fs bs .nil sc__law_statement ?len ?body
    case len => rintro vs H Q E ⟨_, _, _, _, _, _, _, _, _, _, _, _, h, _⟩; exact absurd h (Nat.not_lt_zero _)
    case body => rintro cdv A outer s H vs Q E hr ⟨_, _, _, _, _, _, _, _, _, _, _, _, h, _⟩; exact absurd h (Nat.not_lt_zero _)
  | n + 1 => by
    have := ok_db (n := n + 1) Fb bb B c_pick (ok_dst Fs bs B c_pick (drw Fb bb Fs bs B c_pick n) (by omega)) (by omega)
    rw [show 2 * (n + 1) + 3 = 2 * n + 3 + 1 + 1 by omega]
    exact this
def spPr (K : PySem.W.Frag) : Sp := fun vs H Q _ => ∃ (c : Addr) (most : Int) (size : Nat), vs = [.ref c, .int most, .int (size : Int)] ∧ Cup H c ∧ 1 ≤ most ∧ most ≤ 8 ∧ size ≤ 30 ∧ ∀ H' v L Ps, PD K H' v L Ps → Prog L Ps → nss (nsP Ps) ≤ size → Few L Ps → Cup H' c → Kp [c] H H' → Tk H H' → Q v H'
theorem sc__law_program : FnScope ["store", "most", "size", "letters", "names", "room", "procedures", "deep", "name"] ["store", "most", "size"] (C8.fnScope (topS 46)) := C8.fnScope_by (by decide +kernel)
theorem ok__law_program {f : Addr} {fd : FuncData} (F : C8.Def K mg "_law_program" (topS 46) f fd) (b : Binds K fd ["store", "most", "size"] []) (B : Bl K mg) (c_pick : C8.Cal P w K mg base 1 "_law_pick" spPick []) (c_names : C8.Cal P w K mg base 2 "_law_names" spNm []) (c_body : C8.Cal P w K mg base 17 "_law_body" (spDB K 7) []) : C8.Cal P w K mg base 18 "_law_program" (spPr K) [] := by
  refine C8.cal0 F b .nil sc__law_program ?len ?body
  case len => rintro vs H Q E ⟨c, most, size, rfl, _⟩; rfl
  case body =>
    rintro cdv A outer s H vs Q E hr ⟨c, most, size, rfl, hc, hm0, hm1, hsz, q⟩
    refine ⟨_, (C8.pss_cut (ps_set (i := 3) sc__law_program.nd rfl (Or.inl rfl) (C8.pe_c c_names hr (by decide) rfl (pa_cons (pv 0) (pa_cons (pe_op op_add pe_int (C8.pe_c c_pick hr (by decide) rfl (pa_cons (pv 0) (pa_cons (pe_ifExp (pt_cmpR op_gt (C8.pe_c c_pick hr (by decide) rfl (pa_cons (pv 0) (pa_cons pe_int pa_nil))) pe_int (nomark _)) pe_int pe_int) pa_nil)))) (pa_cons pe_str pa_nil)))))
    (pss_cons (ps_set (i := 4) sc__law_program.nd rfl (Or.inl rfl) (C8.pe_c c_names hr (by decide) rfl (pa_cons (pv 0) (pa_cons (pe_op op_add pe_int (C8.pe_c c_pick hr (by decide) rfl (pa_cons (pv 0) (pa_cons (pv 1) pa_nil)))) (pa_cons pe_str pa_nil)))))
    (pss_cons (ps_par3 (i := 5) (j := 6) (l := 7) rfl sc__law_program.nd rfl rfl rfl (by decide) (by decide) (by decide) rfl rfl rfl (pa_cons (pe_lst (pa_cons (pv 2) pa_nil)) (pa_cons (pe_lst pa_nil) (pa_cons (pe_ix ix_list (pe_lst (pa_cons pe_int (pa_cons pe_int pa_nil))) (C8.pe_c c_pick hr (by decide) rfl (pa_cons (pv 0) (pa_cons pe_int pa_nil))) (fun _ _ => rfl)) pa_nil))) (by with_unfolding_all rfl))
    (pss_cons (ps_for PassesOwn.never rfl (pi_list (pv 4)) (pg_name (i := 8) sc__law_program.nd rfl (Or.inl rfl))
    (pss_one (ps_expr (pe_bm PySem.F.plainAttrs_list PySem.F.slot_list_append PySem.F.type_list_append mt_append (pv 6) (pa_cons (pe_tup (pa_cons (pv 8) (pa_cons (C8.pe_c c_body hr (by decide) rfl (pa_cons (pv 0) (pa_cons (pv 3) (pa_cons (pv 4) (pa_cons (pv 5) (pa_cons (pv 7) (pa_cons pe_bl pa_nil))))))) pa_nil))) pa_nil)))))
    (pss_one (ps_ret (pe_tup (pa_cons (pe_callTy call_tupleZ rfl B.tuple (by decide +kernel) (pa_cons (pv 3) pa_nil)) (pa_cons (pe_callTy call_tuple_of rfl B.tuple (by decide +kernel) (pa_cons (pv 6) pa_nil)) pa_nil))))))))), ?_⟩
    refine ⟨fun σ' H' => ∃ la L, σ' = [some (.ref c), some (.int most), some (.int (size : Int)), some (.ref la), none, none, none, none, none] ∧ H' la = some (.lst (L.map V.str)) ∧ la ≠ c ∧ 1 ≤ L.length ∧ L.length ≤ 20 ∧ Nok L ∧ L.Nodup ∧ Cup H' c ∧ Kp [c] H H' ∧ Tk H H', ?_, ?_⟩
    · refine ⟨_, rfl, _, rfl, _, rfl, c, 3, rfl, hc, by omega, by omega, fun r0 H0 r00 r01 hc0 k0 t0 => ?_⟩
      refine ⟨_, _, rfl, rfl, _, rfl, ?_⟩
      have nm : ∀ (r1 : Int) (H1 : Hp), 0 ≤ r1 → r1 < 20 → Cup H1 c → Kp [c] H0 H1 → Tk H0 H1 → spNm [.ref c, .int (1 + r1), .str "l"] H1 (fun v H' => ∃ la L, ([some (.ref c), some (.int most), some (.int (size : Int)), some v, none, none, none, none, none] : L2.St) = [some (.ref c), some (.int most), some (.int (size : Int)), some (.ref la), none, none, none, none, none] ∧ H' la = some (.lst (L.map V.str)) ∧ la ≠ c ∧ 1 ≤ L.length ∧ L.length ≤ 20 ∧ Nok L ∧ L.Nodup ∧ Cup H' c ∧ Kp [c] H H' ∧ Tk H H') C8.E0 := fun r1 H1 r10 r11 hc1 k1 t1 => by
        refine ⟨c, (1 + r1).toNat, "l", by rw [show (((1 + r1).toNat : Nat) : Int) = 1 + r1 by omega], hc1, by simp, by omega, by omega, fun H2 a L h1 h2 h3 h4 h5 hc2 k2 t2 => ?_⟩
        have nac : a ≠ c := fun z => by obtain ⟨_, _, h, _⟩ := hc1; rw [← z, h2] at h; cases h
        exact ⟨a, L, rfl, h1, nac, by omega, by omega, h4, h5, hc2, k0.trans (k1.trans k2), t0.trans (t1.trans t2)⟩
      by_cases c1 : (0 : Int) < r0
      · rw [decide_eq_true c1]
        exact iteT ⟨c, 4, rfl, hc0, by omega, by omega, fun r1 H1 r10 r11 hc1 k1 t1 => ⟨_, _, rfl, rfl, nm r1 H1 r10 (by omega) hc1 k1 t1⟩⟩
      · rw [decide_eq_false c1]
        exact iteF ⟨c, 20, rfl, hc0, by omega, by omega, fun r1 H1 r10 r11 hc1 k1 t1 => ⟨_, _, rfl, rfl, nm r1 H1 r10 r11 hc1 k1 t1⟩⟩
    rintro _ H1 ⟨la, L, rfl, hl1, nlc, hL1, hL2, hLn, hLd, hc1, k1, t1⟩
    refine ⟨_, rfl, _, rfl, _, rfl, c, most, rfl, hc1, hm0, by omega, fun r2 H2 r20 r21 hc2 k2 t2 => ⟨_, _, rfl, rfl, ?_⟩⟩
    refine ⟨c, (1 + r2).toNat, "p", by rw [show (((1 + r2).toNat : Nat) : Int) = 1 + r2 by omega]; rfl, hc2, by simp, by omega, by omega, fun H3 na N hn3 hna2 hN3 hNn hNd hc3 k3 t3 => ?_⟩
    have nnc : na ≠ c := fun z => by obtain ⟨_, _, h, _⟩ := hc2; rw [← z, hna2] at h; cases h
    have hl3 : H3 la = some (.lst (L.map V.str)) := k3 _ _ (by simpa using nlc) (k2 _ _ (by simpa using nlc) hl1)
    have k03 : Kp [c] H H3 := k1.trans (k2.trans k3)
    have t03 : Tk H H3 := t1.trans (t2.trans t3)
    refine ⟨_, rfl, (by show 1 ≤ sizeLine; decide), fun R hR => ⟨(by show 0 ≤ sizeLine; decide), fun Pr hPr => ⟨(by show 2 ≤ sizeLine; decide), fun dl hdl => ?_⟩⟩⟩
    have s4 := same_new hR (.lst [.int (size : Int)])
    have s5 := same_new hPr (.lst [])
    have s6 := same_new hdl (.lst [.int 3, .int 6])
    have sA := s4.trans (s5.trans s6)
    have ncR : c ≠ R := fun z => by obtain ⟨_, _, h, _⟩ := hc3; rw [z, hR] at h; cases h
    have nlR : la ≠ R := fun z => by rw [z, hR] at hl3; cases hl3
    have nnR : na ≠ R := fun z => by rw [z, hR] at hn3; cases hn3
    have D6 : Drw (upd (upd (upd H3 R (.lst [.int (size : Int)])) Pr (.lst [])) dl (.lst [.int 3, .int 6])) c R la na L N size := ⟨hc3.same sA, (s5.trans s6) _ _ upd_same, sA _ _ hl3, sA _ _ hn3, ncR, nlc, nnc, nlR, nnR⟩
    have hP6 := s6 _ _ (upd_same (H := upd H3 R (.lst [.int (size : Int)])) (a := Pr) (o := .lst []))
    have hPr3 : H3 Pr = none := by
      cases e : H3 Pr with
      | none => rfl
      | some o => rw [s4 _ _ e] at hPr; cases hPr
    have ncP : Pr ≠ c := fun z => by obtain ⟨_, _, h, _⟩ := hc3; rw [← z, hPr3] at h; cases h
    have nPR : Pr ≠ R := fun z => by rw [z, upd_same] at hPr; cases hPr
    have nPl : Pr ≠ la := fun z => by rw [z, hl3] at hPr3; cases hPr3
    have nPn : Pr ≠ na := fun z => by rw [z, hn3] at hPr3; cases hPr3
    have hd6 : upd (upd (upd H3 R (.lst [.int (size : Int)])) Pr (.lst [])) dl (.lst [.int 3, .int 6]) dl = some (.lst (([3, 6] : List Int).map V.int)) := upd_same
    have hdl3 : H3 dl = none := by
      cases e : H3 dl with
      | none => rfl
      | some o => rw [(s4.trans s5) _ _ e] at hdl; cases hdl
    have ndc : dl ≠ c := fun z => by obtain ⟨_, _, h, _⟩ := hc3; rw [← z, hdl3] at h; cases h
    generalize upd (upd (upd H3 R (.lst [.int (size : Int)])) Pr (.lst [])) dl (.lst [.int 3, .int 6]) = H6 at sA D6 hP6 hd6
    refine ⟨_, rfl, c, 2, rfl, D6.cup, by omega, by omega, fun r7 H7 r70 r71 hc7 k7 t7 => ?_⟩
    have D7 := D6.pick hc7 k7
    obtain ⟨dp, hdp, hat⟩ := pick_int (L := [3, 6]) r70 r71
    have hdp2 : dp = 3 ∨ dp = 6 := by simpa using hdp
    have hP7 := k7 _ _ (by simpa using ncP) hP6
    refine ⟨dl, _, _, _, rfl, rfl, SqL.of (k7 _ _ (by simpa using ndc) hd6), hat, _, _, _, rfl, ?_⟩
    have kk7 : Kp [c] H H7 := k03.trans ((Kp.of_same sA).trans k7)
    have tt7 : Tk H H7 := t03.trans ((Tk.same sA).trans t7)
    have hRn : ∀ qq oo, H qq = some oo → qq ∉ [c] → qq ≠ R ∧ qq ≠ Pr := fun qq oo e n => by
      have e3 := k03 _ _ n e
      exact ⟨fun z => (by rw [z, hR] at e3; cases e3), fun z => (by rw [z, hPr3] at e3; cases e3)⟩
    refine ⟨_, rfl, na, rfl, ⟨_, SqL.of D7.hn⟩, ?_⟩
    refine for_list (xs := N.map V.str) (fun i σ H' => ∃ b8 Ps m', σ = [some (.ref c), some (.int most), some (.int (size : Int)), some (.ref la), some (.ref na), some (.ref R), some (.ref Pr), some (.int dp), b8] ∧ Ps.map Prod.fst = N.take i ∧ (∃ vs, H' Pr = some (.lst vs) ∧ DpAll K H' vs (Ps.map procD)) ∧ (∀ b ∈ nsP Ps, oks L N false b ∧ ks b ≤ 7) ∧ nss (nsP Ps) + m' = size ∧ Drw H' c R la na L N m' ∧ Kp [c] H H' ∧ Tk H H') ?_ ?_ ?_ ?_
    · exact ⟨none, [], size, rfl, by simp, ⟨[], hP7, .nil⟩, fun _ h => (List.not_mem_nil h).elim, by simp [nsP, nss], D7, kk7, tt7⟩
    · rintro i σ H' _ ⟨_, _, _, _, _, _, _, _, D, _, _⟩
      exact SqL.of D.hn
    · rintro i x _ H8 hx ⟨b8, Ps, m', rfl, hfst, ⟨vs, hv1, hv2⟩, hoks, hns, D8, k8, t8⟩
      obtain ⟨nm, hnm, rfl⟩ : ∃ y, N[i]? = some y ∧ x = .str y := by
        rw [List.getElem?_map] at hx
        cases e : N[i]? with
        | none => rw [e] at hx; cases hx
        | some s => rw [e] at hx; exact ⟨s, rfl, (Option.some.inj hx).symm⟩
      have hil := (List.getElem?_eq_some_iff.mp hnm).1
      refine ⟨_, rfl, .inl ⟨rfl, _, SqL.of hv1⟩, _, rfl, _, rfl, _, rfl, _, rfl, _, rfl, _, rfl, c, la, na, R, dp.toNat, false, L, N, m', (by rw [show ((dp.toNat : Nat) : Int) = dp by omega]; rfl), D8, by omega, by omega, hL1, hL2, by omega, by omega, fun H9 v b m9 hv hvo hvn hvk _ hc9 hr9 k9 t9 => ⟨(by show 2 ≤ sizeLine; decide), fun p hp => ?_⟩⟩
      have hv9 := k9 _ _ (by simp [ncP, nPR]) hv1
      have sp := same_new hp (.tup [.str nm, v])
      have hvp := sp _ _ hv9
      have hvl := dps_len hv2
      have hpl : Ps.length = i := by
        have := congrArg List.length hfst
        rw [List.length_map, List.length_take] at this
        omega
      rw [List.length_map] at hvl
      refine ⟨Pr, vs, _, rfl, rfl, hvp, Nat.lt_of_le_of_lt (show vs.length ≤ 20 by omega) (by decide), ?_⟩
      have tU := Tk.put hvp (.lst (vs ++ [.ref p]))
      have D9 := (D8.keep hc9 hr9 k9).same sp
      have D10 : Drw (upd (upd H9 p (.tup [.str nm, v])) Pr (.lst (vs ++ [.ref p]))) c R la na L N m9 := ⟨D9.cup.kp (as := [Pr]) (Kp.put _ (by simp)) (by simpa using Ne.symm ncP), by rw [upd_ne (Ne.symm nPR)]; exact D9.room, by rw [upd_ne (Ne.symm nPl)]; exact D9.hl, by rw [upd_ne (Ne.symm nPn)]; exact D9.hn, D9.n1, D9.n2, D9.n3, D9.n4, D9.n5⟩
      refine ⟨_, Ps ++ [(nm, b)], m9, rfl, ?_, ⟨_, upd_same, ?_⟩, ?_, ?_, D10, ?_, t8.trans (t9.trans ((Tk.same sp).trans tU))⟩
      · rw [List.map_append, hfst, List.take_succ, hnm]
        rfl
      · rw [List.map_append]
        refine dps_app ((t9.trans ((Tk.same sp).trans tU)).dps _ (tup_procs Ps) hv2) (.cons ?_ .nil)
        exact .tup (tU.sqt (SqT.of upd_same)) (.cons (.str _) (.cons (((Tk.same sp).trans tU).dp (.tuple (ds b)) (tup_ds b) hv) .nil))
      · intro x hx
        unfold nsP at hx
        rw [List.map_append] at hx
        rcases List.mem_append.mp hx with h | h
        · exact hoks x h
        · cases List.mem_singleton.mp h
          exact ⟨hvo, (show ks b ≤ 7 by omega)⟩
      · unfold nsP at hns ⊢
        rw [List.map_append, nss_app]
        simp [nss]
        omega
      · intro qq oo n e
        obtain ⟨nR, nP⟩ := hRn qq oo e n
        rw [upd_ne nP]
        exact sp _ _ (k9 _ _ (by simp at n; simp [n, nR]) (k8 _ _ n e))
    · rintro σ H8 ⟨b8, Ps, m', rfl, hfst, ⟨vs, hv1, hv2⟩, hoks, hns, D8, k8, t8⟩
      rw [List.length_map, List.take_length] at hfst
      refine ⟨_, rfl, la, _, rfl, SqL.of D8.hl, fun lt ob hlt ho1 ho2 => ?_⟩
      have sl := same_new hlt (.frz ob (.tup (L.map V.str)))
      refine ⟨_, rfl, Pr, _, rfl, .inl ⟨SqL.of (sl _ _ hv1), fun pt hpt => ⟨(by show 2 ≤ sizeLine; decide), fun a ha => ?_⟩⟩⟩
      have sp := same_new hpt (.tup vs)
      have sa := same_new ha (.tup [.ref lt, .ref pt])
      have sAll := sl.trans (sp.trans sa)
      have hkk : ∀ (bl : List (List St)), (∀ b ∈ bl, ks b ≤ 7) → kss bl ≤ 7 := fun bl => by
        induction bl with
        | nil => intro _; simp [kss]
        | cons z l ih =>
          intro h
          have h1 := h z (by simp)
          have h2 := ih fun b hb => h b (by simp [hb])
          rw [kss]
          omega
      have hk7 := hkk (nsP Ps) fun b hb => (hoks b hb).2
      have hlen : Ps.length = N.length := by rw [← hfst, List.length_map]
      have PG : Prog L Ps := ⟨by omega, by omega, by omega, by omega, hLn, by rw [hfst]; exact hNn, hLd, by rw [hfst]; exact hNd, fun b hb => by rw [hfst]; exact (hoks b hb).1, wdbs_n _ (by omega), by omega, by omega⟩
      refine q _ _ L Ps ⟨a, lt, .ref pt, rfl, SqT.of upd_same, ⟨ob, (sp.trans sa) _ _ upd_same, ho1, ho2⟩, .tup (SqT.of (sa _ _ upd_same)) ?_⟩ PG (by omega) (fun p hp => ?_) (D8.same sAll).cup (k8.trans (Kp.of_same sAll)) (t8.trans (Tk.same sAll))
      · exact (Tk.same sAll).dps _ (tup_procs Ps) hv2
      · have hpm : p.2 ∈ nsP Ps := List.mem_map.mpr ⟨p, hp, rfl⟩
        refine few_30 (PG.ok _ hpm) ?_
        have := nss_mem hpm
        omega
end
end K12


set_option Elab.async false
set_option linter.all false
set_option maxRecDepth 100000
set_option maxHeartbeats 8000000
namespace K12
open PySem PySem.Spec PyProof.Rows L2
/-! ### xs[i::k], xs a list of ints -/
theorem vals_pick : ∀ (js : List Nat) {ns : List Int} {its : List Value}, Vals (ns.map V.int) its → Vals ((js.filterMap (ns[·]?)).map V.int) (js.filterMap (its.toArray[·]?))
  | [], _, _, _ => .nil
  | j :: js, ns, its, r => by
    have ih := vals_pick js r
    rw [List.filterMap_cons, List.filterMap_cons]
    have hl := r.length
    rw [List.length_map] at hl
    cases e : ns[j]? with
    | none =>
      have : its.toArray[j]? = none := by
        rw [List.getElem?_toArray]
        rw [List.getElem?_eq_none_iff] at e ⊢
        omega
      rw [this]
      exact ih
    | some z =>
      have hj := (List.getElem?_eq_some_iff.mp e).1
      have ev : (ns.map V.int)[j]? = some (V.int z) := by rw [List.getElem?_map, e]; rfl
      obtain ⟨u, hu⟩ : ∃ u, its[j]? = some u := ⟨_, List.getElem?_eq_getElem (by omega)⟩
      have : its.toArray[j]? = some u := by rw [List.getElem?_toArray]; exact hu
      rw [this]
      refine .cons ?_ ih
      have h := r.get ev
      obtain ⟨u', hu', hr⟩ := h
      rw [hu] at hu'
      cases hu'
      exact hr
section
variable {X : Cx}
def tStepL (K : PySem.W.Frag) (te tl : TE) : TE := fun σ H Q => te σ H fun x H1 => tPart tl σ H1 fun _ H2 => ∃ (a : Addr) (ns : List Int), x = .ref a ∧ SqL K H2 a (ns.map V.int) ∧ ∀ p (ms : List Int), H2 p = none → ms.length ≤ ns.length → Q (.ref p) (upd H2 p (.lst (ms.map V.int)))
theorem pe_stepL {e lo : Expr} {te tl : TE} {j : Int} {k : Nat} {p1 p3 pos : Pos} (he : PE X e te) (hl : PE X lo tl) (hj : j ≠ 0) : PE X (.Subscript e (.Slice (some lo) none (some (.Constant (.int j) k p1)) p3) pos) (tStepL X.K te tl) := by
  refine ⟨fun pins sh σ H Q J hyp => Subscript_ (thn (he.run pins sh σ H _ J hyp) ?_)⟩
  rintro v s1 ⟨x, H1, J1, r1, q1⟩
  refine wpAny_Slice (thn ((po_some hl).run pins s1 σ H1 _ J1 q1) ?_)
  rintro vl s2 ⟨ol, H2, J2, pl, a, ns, rfl, hx, q⟩
  cases r1
  have noPart : tNoPart σ H2 (fun o H3 => o = none ∧ H3 = H2) := ⟨rfl, rfl⟩
  refine thn (po_none.run pins s2 σ H2 _ J2 noPart) ?_
  rintro vu s3 ⟨ou, H3, J3, pu, rfl, rfl⟩
  have stPart : tPart (tC (.int j)) σ H3 (fun o H4 => o = some j ∧ H4 = H3) := ⟨j, rfl, rfl, rfl⟩
  refine thn ((po_some pe_int).run pins s3 σ H3 _ J3 stPart) ?_
  rintro vs s4 ⟨os, H4, J4, ps, rfl, rfl⟩
  let sl : Obj := { cls := .type "slice", data := .fields #[vl, vu, vs] }
  have J5 : Inv X pins σ H4 { s4 with heap := s4.heap.push sl } := J4.kept (t' := s4.toks) fun _ _ h => Heap.get?_push_of_some _ h
  obtain ⟨its, r, pp, hz⟩ := J5.list hx
  have hlen := r.length
  have hsz : its.toArray.size ≤ sizeLine := by rw [List.size_toArray]; omega
  show wpAny (model X.prog X.w) X.A (subscriptTail e (.Slice (some lo) none (some (.Constant (.int j) k p1)) p3) (.ref a) (.ref s4.heap.objs.size)) _ X.xe { s4 with heap := s4.heap.push sl }
  refine tail_any (ops := [.ref a, .ref s4.heap.objs.size]) pp.isList.typeIs PySem.slot_list_getitem.lookup ?_ (by with_unfolding_all rfl)
  refine wpAny_getItem_list_slice pp.isList (Heap.IsSliceOf.new _ vl vu vs) pl pu ps (fun z => hj (Option.some.inj z)) ?_ hsz
  have hle := slicePick_size_le its.toArray ol none (some j)
  unfold slicePick at hle ⊢
  generalize sliceRange (sliceBounds ol none (some j) its.toArray.size).1 (sliceBounds ol none (some j) its.toArray.size).2.1 (sliceBounds ol none (some j) its.toArray.size).2.2 = js at hle ⊢
  have rv := vals_pick js r
  rw [List.size_toArray, List.size_toArray] at hle
  have rl := rv.length
  rw [List.length_map] at rl hlen
  refine ⟨.ref _, _, J5.laid (t' := s4.toks) (o := .lst ((js.filterMap (ns[·]?)).map V.int)) (fun _ _ h => Heap.get?_push_of_some _ h) (Nat.le_refl _) ?_, rfl, q _ _ (J5.hok.fresh (Nat.le_refl _)) (by omega)⟩
  exact ⟨by rw [List.length_map]; rw [List.size_toArray] at hsz; omega, _, 0, rv, Heap.get?_push_size _ rfl⟩
/-! ### repr of data -/
def rRepr (K : PySem.W.Frag) : List V → Hp → VK → Prop := fun zs H Q => ∃ (a : Addr) (d : PyData), zs = [.ref a] ∧ Dp K H (.ref a) d ∧ d.showable = true ∧ d.hasDict = false ∧ d.depth ≤ 60 ∧ d.shown.length ≤ sizeLine ∧ Q (.str d.shown) H
theorem call_reprD (hg : X.A.guards = some []) (hu : X.A.units + 100 < cLine) : CallR X (.builtin "repr") (rRepr X.K) := by
  intro pins sh σ H zs us Q J rz hyp
  obtain ⟨a, d, rfl, hd, h1, h2, h3, h4, fin⟩ := hyp
  obtain ⟨u, rfl, ru⟩ := vals1 rz
  obtain ⟨as, rd⟩ := Dp.reads J d _ u hd ru
  have eu : u = Value.ref a := ru
  subst eu
  refine repr_of_reads' rd h1 (fun z => by rw [h2] at z; cases z) hg (by omega) (fun _ _ e => e) (fun hh t tk keep => ?_) h4
  exact ⟨.str d.shown, H, J.kept (t' := tk) keep, ⟨t, rfl⟩, fin⟩
end
end K12


set_option Elab.async false
set_option linter.all false
set_option maxRecDepth 100000
set_option maxHeartbeats 8000000
namespace K12
open PySem PySem.Spec PyProof.Rows L2
/-! ### the end, where the law's own body stands under no guard -/
section
variable {P : Program} {w : World} {K : PySem.W.Frag} {mg mb : Str → Option Value} {fa a : Addr} {cs : List (Addr × Addr)} {s₁ : Shared} {vs : List Value} {ns : List Int}
/-- what is tracked at the call: the script and the tables, or the tables alone -/
structure Few0 (P : Program) (w : World) (K : PySem.W.Frag) (a : Addr) (cs : List (Addr × Addr)) (ns : List Int) (h : Heap) (H : Hp) : Prop where
  tb : ∀ p ∈ cs, H p.2 = some (.tbl #[])
  sq : SqL K H a (ns.map V.int)
  hok : HOk P w H h
  only : ∀ b o, H b = some o → (b ∈ cs.map (·.2) ∧ o = .tbl #[]) ∨ (b = a ∧ b ∉ cs.map (·.2) ∧ ∃ u, o = .frz u (.lst (ns.map V.int)))
  noK : ∀ b, H b ≠ none → K.lookup b = none
theorem few_is (KX : K.In s₁.heap) (hT : ∀ p ∈ cs, s₁.heap.get? p.2 = some { cls := .none, data := .fields #[] }) (nT : ∀ p ∈ cs, K.lookup p.2 = none)
    (ha : s₁.heap.get? a = some { cls := .type "list", data := .seq vs.toArray }) (hi : IntsAre vs ns) (hl : ns.length ≤ sizeLine) : ∃ H : Hp, Few0 P w K a cs ns s₁.heap H := by
  have rv := vals_ints hi
  have tabAt : ∀ b, b ∈ cs.map (·.2) → s₁.heap.get? b = some { cls := .none, data := .fields #[] } := by
    intro b hb
    obtain ⟨p, hp, rfl⟩ := List.mem_map.mp hb
    exact hT p hp
  have apart : a ∉ cs.map (·.2) := by
    intro hb
    have two := (tabAt a hb).symm.trans ha
    cases two
  have memP : ∀ p ∈ cs, p.2 ∈ cs.map (·.2) := fun p hp => List.mem_map.mpr ⟨p, hp, rfl⟩
  let Tt : Hp := fun b => if b ∈ cs.map (·.2) then some (.tbl #[]) else none
  have ttIn : ∀ b, b ∈ cs.map (·.2) → Tt b = some (.tbl #[]) := fun b hb => if_pos hb
  have ttOut : ∀ b, b ∉ cs.map (·.2) → Tt b = none := fun b hb => if_neg hb
  cases hk : K.lookup a with
  | some o =>
    have ho := (KX a o hk).symm.trans ha
    cases ho
    refine ⟨Tt, fun p hp => ttIn _ (memP p hp), .inr ⟨_, vs.toArray, _, hk, rfl, rfl, rfl, ?_, by simpa using rv⟩, fun b u e => ?_, fun b u e => ?_, fun b nb => ?_⟩
    · rw [List.size_toArray, hi.length]
      exact hl
    all_goals by_cases hb : b ∈ cs.map (·.2)
    · rw [ttIn b hb] at e; cases e; exact tabAt b hb
    · rw [ttOut b hb] at e; cases e
    · rw [ttIn b hb] at e; cases e; exact .inl ⟨hb, rfl⟩
    · rw [ttOut b hb] at e; cases e
    · obtain ⟨p, hp, rfl⟩ := List.mem_map.mp hb
      exact nT p hp
    · exact absurd (ttOut b hb) nb
  | none =>
    let ob : Obj := { cls := .type "list", data := .seq vs.toArray }
    have hne : ∀ b, b ∈ cs.map (·.2) → b ≠ a := fun b hb z => apart (z ▸ hb)
    let Ht : Hp := fun b => if b = a then some (.frz ob (.lst (ns.map V.int))) else Tt b
    have atA : Ht a = some (.frz ob (.lst (ns.map V.int))) := if_pos rfl
    have off : ∀ b, b ≠ a → Ht b = Tt b := fun b hb => if_neg hb
    refine ⟨Ht, fun p hp => (off _ (hne _ (memP p hp))).trans (ttIn _ (memP p hp)), .inl (.inr ⟨ob, atA⟩), fun b u e => ?_, fun b u e => ?_, fun b nb => ?_⟩
    all_goals by_cases hba : b = a
    · subst hba
      rw [atA] at e; cases e
      exact ⟨ha, by rw [List.length_map]; exact hl, vs, _, rv, ha⟩
    · rw [off b hba] at e
      by_cases hb : b ∈ cs.map (·.2)
      · rw [ttIn b hb] at e; cases e; exact tabAt b hb
      · rw [ttOut b hb] at e; cases e
    · subst hba
      rw [atA] at e; cases e
      exact .inr ⟨rfl, apart, ob, rfl⟩
    · rw [off b hba] at e
      by_cases hb : b ∈ cs.map (·.2)
      · rw [ttIn b hb] at e; cases e; exact .inl ⟨hb, rfl⟩
      · rw [ttOut b hb] at e; cases e
    · subst hba; exact hk
    · rw [off b hba] at nb
      by_cases hb : b ∈ cs.map (·.2)
      · obtain ⟨p, hp, rfl⟩ := List.mem_map.mp hb
        exact nT p hp
      · exact absurd (ttOut b hb) nb
/-- what the call needs around it -/
theorem env_few {H : Hp} (X : Few0 P w K a cs ns s₁.heap H) (KX : K.In s₁.heap) (hns : s₁.heap.Ns mainGlobals mg) (hb : s₁.heap.Ns builtinsNs mb) (hbb : ∀ x : Str, x ≠ "__name__" → mb x = bootBuiltins x) (hlim : s₁.heap.NoLimit) (hg : s₁.gens = #[])
    (ha : s₁.heap.get? a = some { cls := .type "list", data := .seq vs.toArray }) (hT : ∀ p ∈ cs, s₁.heap.get? p.2 = some { cls := .none, data := .fields #[] }) (C : ∀ p ∈ cs, PySem.W.CodeHd s₁.heap p.1 p.2)
    (hbm : ∃ (bm : Addr) (ob : Obj), mg "__builtins__" = some (.ref bm) ∧ bm ≠ builtinsNs ∧ s₁.heap.get? bm = some ob ∧ ob.cls = .type "module" ∧ ob.dict = some builtinsNs ∧ ob.data = .plain) :
    K.In (hidT s₁.heap H) ∧ (hidT s₁.heap H).Ns mainGlobals mg ∧ (∀ p ∈ cs, LamX.TabB (hidT s₁.heap H) mg p.1 p.2) ∧ Env0 P w K mg (hidT s₁.heap H) callerA [] s₁ H := by
  have stays : ∀ {b : Addr} {o : Obj}, s₁.heap.get? b = some o → H b = none → (hidT s₁.heap H).get? b = some o := fun h n => hidT_get h n
  -- neither the script's kind nor a table's
  have free : ∀ {b : Addr} {o : Obj}, s₁.heap.get? b = some o → (∀ xs n, o.data ≠ .seq xs n) → o.data ≠ .fields #[] → H b = none := by
    intro b o h h1 h2
    cases e : H b with
    | none => rfl
    | some u =>
      exfalso
      rcases X.only b u e with ⟨hm, _⟩ | ⟨rfl, _, _⟩
      · obtain ⟨p, hp, rfl⟩ := List.mem_map.mp hm
        rw [hT p hp] at h; cases h
        exact h2 rfl
      · rw [ha] at h; cases h
        exact h1 _ _ rfl
  have nsKept : ∀ {b : Addr} {m : Str → Option Value}, s₁.heap.Ns b m → (hidT s₁.heap H).Ns b m := by
    rintro b m ⟨o, es, ep, h, hd, r⟩
    exact ⟨o, es, ep, stays h (free h (fun xs n z => by rw [hd] at z; cases z) (fun z => by rw [hd] at z; cases z)), hd, r⟩
  have hK : K.In (hidT s₁.heap H) := by
    intro b o h
    refine stays (KX b o h) ?_
    cases e : H b with
    | none => rfl
    | some u => exact absurd (X.noK b (by rw [e]; intro z; cases z)) (by rw [h]; intro z; cases z)
  obtain ⟨mc, l1, l2⟩ := hlim
  refine ⟨hK, nsKept hns, fun p hp => ⟨?_, ?_, fun z => ?_⟩, ⟨rfl, ⟨hK, nsKept hns, ⟨mb, nsKept hb, hbb⟩, mc, nsKept l1, l2⟩, fun b o h => of_hidT h, Nat.le_of_eq (hidT_size _ _), trivial, fun b hb => (List.not_mem_nil hb).elim, X.hok, .of_eq hg⟩⟩
  · obtain ⟨o, us, file, tf, flags, tg, inF, text, tt, h, c1, c2, c3, c4⟩ := C p hp
    refine ⟨o, us, file, tf, flags, tg, inF, text, tt, stays h (free h (fun xs n z => ?_) fun z => ?_), c1, c2, c3, c4⟩
    · rw [c2] at z; cases z
    · rw [c2] at z; cases z
      simp at c3
  · obtain ⟨bm, ob, b1, b2, b3, b4, b5, b6⟩ := hbm
    refine ⟨bm, ob, b1, b2, fun z => ?_, fun z => ?_, stays b3 (free b3 (fun xs n z => ?_) fun z => ?_), b4, b5, b6⟩
    · obtain ⟨o, es, ep, h, hd, _⟩ := hns
      rw [z, h] at b3; cases b3
      rw [hd] at b6; cases b6
    · rw [z, hT p hp] at b3; cases b3
      cases b6
    · rw [b6] at z; cases z
    · rw [b6] at z; cases z
  · obtain ⟨o, es, ep, h, hd, _⟩ := hns
    rw [z, hT p hp] at h; cases h
    cases hd
/-- the end of the call -/
theorem end_few {H : Hp} (X : Few0 P w K a cs ns s₁.heap H) (hT : ∀ p ∈ cs, s₁.heap.get? p.2 = some { cls := .none, data := .fields #[] }) (C : ∀ p ∈ cs, PySem.W.CodeHd s₁.heap p.1 p.2) {r : Result} {s' : Shared}
    (h : CR C8.CX0 [] P w H s₁ (fun v _ => v = .bl true) (fun _ _ _ => False) r s') : r = .ok (.ret (.bool true)) ∧ OldK s₁.heap s'.heap ∧ s'.os = s₁.os ∧ AllBare s'.gens := by
  match r, h with
  | .error _, h => exact h.elim
  | .ok .next, h => exact False.elim h
  | .ok .brk, h => exact False.elim h
  | .ok .cont, h => exact False.elim h
  | .ok (.ret u), h =>
    obtain ⟨v, H', os, bare, un, hok', ru, hv⟩ := h
    have hv' : v = .bl true := hv
    subst hv'
    have hu : u = Value.bool true := ru
    subst hu
    have same : ∀ b o, b ∉ cs.map (·.2) → s₁.heap.get? b = some o → s'.heap.get? b = some o := by
      intro b o nb h
      cases e : H b with
      | none => exact un.keep b o h e (fun z => (List.not_mem_nil z).elim) (fun z => (List.not_mem_nil z).elim)
      | some t =>
        rcases X.only b t e with ⟨z, _⟩ | ⟨_, _, ob, rfl⟩
        · exact absurd z nb
        · have before := (X.hok b _ e).1
          have after := (hok' b _ (un.frzs b ob _ e)).1
          rw [before] at h; cases h
          exact after
    have more : ∀ p ∈ cs, ∃ xs : Array Value, s'.heap.get? p.2 = some { cls := .none, data := .fields xs } := by
      intro p hp
      obtain ⟨xs, e⟩ := un.tbls p.2 #[] (X.tb p hp)
      exact ⟨_, hok' p.2 _ e⟩
    refine ⟨rfl, ⟨fun b o h => ?_, fun b o h => ?_⟩, os, bare⟩
    · by_cases hb : b ∈ cs.map (·.2)
      · obtain ⟨p, hp, rfl⟩ := List.mem_map.mp hb
        obtain ⟨xs, e⟩ := more p hp
        rw [hT p hp] at h; cases h
        exact .inr (.inl ⟨((C p hp).tab (hT p hp)).isCodeTable, rfl, #[], xs, rfl, by rw [Array.empty_append]; exact e⟩)
      · exact .inl (same b o hb h)
    · by_cases hb : b ∈ cs.map (·.2)
      · obtain ⟨p, hp, rfl⟩ := List.mem_map.mp hb
        obtain ⟨xs, e⟩ := more p hp
        exact ⟨_, e⟩
      · exact ⟨o, same b o hb h⟩
end
end K12


set_option Elab.async false
set_option linter.all false
set_option maxRecDepth 100000
set_option maxHeartbeats 8000000
namespace K12
open PySem PySem.Spec PyProof.Rows L2
/-! ### a program can be shown -/
def nmOk (x : Str) : Prop := x.length ≤ 10 ∧ ∀ c ∈ x.cps.toList, c < 16 ^ 8
theorem word_small : ∀ c ∈ wordS.cps.toList, c < 16 ^ 8 := by decide +kernel
theorem nmOk_of {x : Str} (h : nameB x = true) : nmOk x := by
  unfold nameB at h
  simp only [Bool.and_eq_true, decide_eq_true_eq, List.all_eq_true] at h
  exact ⟨h.1.1.1.2, fun c hc => word_small c (h.2 c hc)⟩
theorem nok_nm {L : List Str} (h : Nok L) : ∀ x ∈ L, nmOk x := fun x hx => nmOk_of (h x hx)
theorem leaf_str {x : Str} (h : nmOk x) : (PyData.str x).leavesShort 8 = true := by
  simp only [PyData.leavesShort, List.all_eq_true, decide_eq_true_eq]
  exact h.2
theorem bulk_str {x : Str} (h : nmOk x) : (PyData.str x).bulk ≤ 10 := by
  have e : x.length = x.cps.size := rfl
  simp only [PyData.bulk]
  have := h.1
  omega
/-- what the words of statements weigh -/
def wdOk (x : Str) : Prop := x.cps.size ≤ 6 ∧ ∀ c ∈ x.cps.toList, c < 16 ^ 8
theorem wd_do : wdOk "do" := ⟨by decide +kernel, by decide +kernel⟩
theorem wd_undo : wdOk "undo" := ⟨by decide +kernel, by decide +kernel⟩
theorem wd_call : wdOk "call" := ⟨by decide +kernel, by decide +kernel⟩
theorem wd_choose : wdOk "choose" := ⟨by decide +kernel, by decide +kernel⟩
theorem wd_loop : wdOk "loop" := ⟨by decide +kernel, by decide +kernel⟩
theorem wd_return : wdOk "return" := ⟨by decide +kernel, by decide +kernel⟩
theorem wd_ensure : wdOk "ensure" := ⟨by decide +kernel, by decide +kernel⟩
theorem leaf_wd {x : Str} (h : wdOk x) : (PyData.str x).leavesShort 8 = true := by
  simp only [PyData.leavesShort, List.all_eq_true, decide_eq_true_eq]
  exact h.2
theorem bulk_wd {x : Str} (h : wdOk x) : (PyData.str x).bulk ≤ 6 := by
  simp only [PyData.bulk]
  exact h.1
/-- all that is asked of what is shown -/
structure Sh (d : PyData) (n k : Nat) : Prop where
  fa : d.showable = true
  fb : d.hasDict = false
  fc : d.leavesShort 8 = true
  fd : d.bulk ≤ n
  fe : d.depth ≤ k
structure Shs (l : List PyData) (n k : Nat) : Prop where
  fa : PyData.showableAll l = true
  fb : PyData.hasDictAll l = false
  fc : PyData.leavesShortAll 8 l = true
  fd : PyData.bulkAll l ≤ n
  fe : PyData.depthAll l ≤ k
theorem Shs.nil {k : Nat} : Shs [] 0 k := ⟨rfl, rfl, rfl, by simp [PyData.bulkAll], by simp [PyData.depthAll]⟩
theorem Shs.cons {d : PyData} {l : List PyData} {n m k : Nat} (h : Sh d n k) (hl : Shs l m k) : Shs (d :: l) (n + 1 + m) k := by
  refine ⟨?_, ?_, ?_, ?_, ?_⟩
  · simp only [PyData.showableAll, h.fa, hl.fa, Bool.and_self]
  · simp only [PyData.hasDictAll, h.fb, hl.fb, Bool.or_self]
  · simp only [PyData.leavesShortAll, h.fc, hl.fc, Bool.and_self]
  · have := h.fd; have := hl.fd
    simp only [PyData.bulkAll]; omega
  · have := h.fe; have := hl.fe
    simp only [PyData.depthAll]; omega
theorem Sh.tup {l : List PyData} {n k : Nat} (h : Shs l n k) : Sh (.tuple l) n (k + 1) := by
  refine ⟨?_, ?_, ?_, ?_, ?_⟩
  · simp only [PyData.showable, h.fa]
  · simp only [PyData.hasDict, h.fb]
  · simp only [PyData.leavesShort, h.fc]
  · have := h.fd
    simp only [PyData.bulk]; omega
  · have := h.fe
    simp only [PyData.depth]; omega
theorem Sh.wd {x : Str} {k : Nat} (h : wdOk x) : Sh (.str x) 6 k := ⟨by simp only [PyData.showable], by simp only [PyData.hasDict], leaf_wd h, bulk_wd h, by simp [PyData.depth]⟩
theorem Sh.nm {x : Str} {k : Nat} (h : nmOk x) : Sh (.str x) 10 k := ⟨by simp only [PyData.showable], by simp only [PyData.hasDict], leaf_str h, bulk_str h, by simp [PyData.depth]⟩
theorem Sh.le {d : PyData} {n m k j : Nat} (h : Sh d n k) (h1 : n ≤ m) (h2 : k ≤ j) : Sh d m j := ⟨h.fa, h.fb, h.fc, by have := h.fd; omega, by have := h.fe; omega⟩
theorem Shs.le {d : List PyData} {n m k j : Nat} (h : Shs d n k) (h1 : n ≤ m) (h2 : k ≤ j) : Shs d m j := ⟨h.fa, h.fb, h.fc, by have := h.fd; omega, by have := h.fe; omega⟩
mutual
theorem sh_d {L N : List Str} (hL : ∀ x ∈ L, nmOk x) (hN : ∀ x ∈ N, nmOk x) : ∀ (s : St) (sec : Bool), s.ok L N sec → Sh s.d (40 * s.n - 1) (3 * s.k)
  | .dd x, _, h => (Sh.tup (k := 0) (.cons (.wd wd_do) (.cons (.nm (hL x h)) .nil))).le (by simp [St.n]) (by simp [St.k])
  | .ud x, _, h => (Sh.tup (k := 0) (.cons (.wd wd_undo) (.cons (.nm (hL x h)) .nil))).le (by simp [St.n]) (by simp [St.k])
  | .cl x, _, h => (Sh.tup (k := 0) (.cons (.wd wd_call) (.cons (.nm (hN x h)) .nil))).le (by simp [St.n]) (by simp [St.k])
  | .ch bs, sec, h => (Sh.tup (.cons (.wd wd_choose) (.cons (.tup (sh_dss hL hN bs sec h.2.2)) .nil))).le (by have := h.2.1; simp [St.n]; omega) (by simp [St.k]; omega)
  | .lp b, sec, h => (Sh.tup (.cons (.wd wd_loop) (.cons (.tup (sh_ds hL hN b sec h)) .nil))).le (by simp [St.n]; omega) (by simp [St.k]; omega)
  | .rt, _, _ => (Sh.tup (k := 0) (.cons (.wd wd_return) .nil)).le (by simp [St.n]) (by simp [St.k])
  | .en b c, sec, h => (Sh.tup (k := 3 * max (ks b) (ks c) + 1) (.cons (.wd wd_ensure) (.cons ((Sh.tup (sh_ds hL hN b sec h.1)).le (Nat.le_refl _) (by omega)) (.cons ((Sh.tup (sh_ds hL hN c true h.2)).le (Nat.le_refl _) (by omega)) .nil)))).le (by simp [St.n]; omega) (by simp [St.k]; omega)
theorem sh_ds {L N : List Str} (hL : ∀ x ∈ L, nmOk x) (hN : ∀ x ∈ N, nmOk x) : ∀ (b : List St) (sec : Bool), oks L N sec b → Shs (ds b) (40 * ns b) (3 * ks b)
  | [], _, _ => Shs.nil.le (Nat.zero_le _) (Nat.zero_le _)
  | s :: r, sec, h => by
    have h1 := sh_d hL hN s sec h.1
    have h2 := sh_ds hL hN r sec h.2
    have h3 : 1 ≤ s.n := by cases s <;> simp [St.n] <;> omega
    exact ((Shs.cons (h1.le (Nat.le_refl _) (show 3 * s.k ≤ 3 * ks (s :: r) by simp [ks]; omega)) (h2.le (Nat.le_refl _) (by simp [ks]; omega))).le (by simp [ns]; omega) (Nat.le_refl _))
theorem sh_dss {L N : List Str} (hL : ∀ x ∈ L, nmOk x) (hN : ∀ x ∈ N, nmOk x) : ∀ (b : List (List St)) (sec : Bool), okss L N sec b → Shs (dss b) (40 * nss b + b.length) (3 * kss b + 1)
  | [], _, _ => Shs.nil.le (Nat.zero_le _) (Nat.zero_le _)
  | s :: r, sec, h => by
    have h1 := sh_ds hL hN s sec h.1
    have h2 := sh_dss hL hN r sec h.2
    exact ((Shs.cons ((Sh.tup h1).le (Nat.le_refl _) (show 3 * ks s + 1 ≤ 3 * kss (s :: r) + 1 by simp [kss]; omega)) (h2.le (Nat.le_refl _) (by simp [kss]; omega))).le (by simp [nss]; omega) (Nat.le_refl _))
end
theorem sh_nms {k : Nat} : ∀ (L : List Str), (∀ x ∈ L, nmOk x) → Shs (L.map PyData.str) (11 * L.length) k
  | [], _ => Shs.nil.le (Nat.zero_le _) (Nat.le_refl _)
  | x :: r, h => ((Shs.cons (Sh.nm (h x (by simp))) (sh_nms r fun y hy => h y (by simp [hy]))).le (by simp; omega) (Nat.le_refl _))
theorem sh_procs {L N : List Str} (hL : ∀ x ∈ L, nmOk x) (hN : ∀ x ∈ N, nmOk x) : ∀ (Q : List (Str × List St)), (∀ p ∈ Q, nmOk p.1) → (∀ b ∈ nsP Q, oks L N false b) → Shs (Q.map procD) (40 * nss (nsP Q) + 20 * Q.length) (3 * kss (nsP Q) + 2)
  | [], _, _ => Shs.nil.le (Nat.zero_le _) (Nat.le_refl _)
  | p :: r, h, ho => by
    have h2 := sh_procs hL hN r (fun y hy => h y (by simp [hy])) (fun b hb => ho b (by simp [nsP] at hb ⊢; exact .inr hb))
    have h1 := sh_ds hL hN p.2 false (ho _ (by simp [nsP]))
    have hp : Sh (procD p) (10 + 1 + (40 * ns p.2 + 1 + 0)) (3 * ks p.2 + 1 + 1) := Sh.tup (.cons (.nm (h p (by simp))) (.cons (.tup h1) .nil))
    exact ((Shs.cons (hp.le (Nat.le_refl _) (show _ ≤ 3 * kss (nsP (p :: r)) + 2 by simp [nsP, kss]; omega)) (h2.le (Nat.le_refl _) (by simp [nsP, kss]; omega))).le (by simp [nsP, nss]; omega) (Nat.le_refl _))
theorem sh_prog {L : List Str} {Ps : List (Str × List St)} (h : Prog L Ps) : Sh (progD L Ps) 8402 40 := by
  have hL := nok_nm h.okL
  have hN := nok_nm h.okN
  have h1 : Shs (L.map PyData.str) (11 * L.length) 0 := sh_nms L hL
  have h2 := sh_procs hL hN Ps (fun p hp => hN p.1 (List.mem_map.mpr ⟨p, hp, rfl⟩)) h.ok
  have := h.l2; have := h.p2; have := h.ks; have := h.n
  exact (Sh.tup (k := 39) (.cons ((Sh.tup h1).le (Nat.le_refl _) (by omega)) (.cons ((Sh.tup h2).le (Nat.le_refl _) (by omega)) .nil))).le (by omega) (Nat.le_refl _)
theorem Sh.fits {d : PyData} {n k : Nat} (h : Sh d n k) (hn : n ≤ 1000000) : d.shown.length ≤ sizeLine := PyData.shown_fits_bulk (B := 8) (by omega) (by omega) h.fc (by have := h.fd; omega)
end K12


set_option Elab.async false
set_option linter.all false
set_option maxRecDepth 100000
set_option maxHeartbeats 8000000
namespace K12
open PySem PySem.Spec PyProof.Rows L2
theorem sql_kp {K : PySem.W.Frag} {H H' : Hp} {a : Addr} {as : List Addr} {xs : List V} (h : SqL K H a xs) (k : Kp as H H') (n : a ∉ as) : SqL K H' a xs := by
  rcases h with (h | ⟨o, h⟩) | h
  · exact .inl (.inl (k _ _ n h))
  · exact .inl (.inr ⟨o, k _ _ n h⟩)
  · exact .inr h
section
variable {X : Cx} {CX : CXT} {k : Nat} {f : Addr} {fd : FuncData} {ps ks : List Str} {sp : Sp} {E : XK} {x : Str} {p pos : Pos} {kws : List Keyword} {tk : TA} {g : List Value → List Value → List Value} {gV : List V → List V → List V}
/-- f(k = v, ..): no argument by position -/
theorem pe_callK0 (F : FnOk X.prog X.w X.K X.mg X.base CX k f fd ps sp) (hr : Room k X.A) (hg : Gl X x) (hm : X.mg x = some (.ref f)) (hk : PySem.W.keepIn X.K (.ref f) = true) (hb : KBinds X.K fd ps ks g gV) (hx : Passes CX X E)
    (hkw : PK X kws tk) (hall : (backToKw pos (keywordEach kws X.env)).all (·.1.isSome) = true := by rfl) (hks : (backToKw pos (keywordEach kws X.env)).filterMap (·.1) = ks := by rfl)
    (hdb : (x == ("__debug__" : Str)) = false := by decide)
    (hpl : ((backTo pos (starEach [] X.env)).any (·.1) || (backToKw pos (keywordEach kws X.env)).any (·.1.isNone)) = false := by rfl) :
    PE X (.Call (.Name x p) [] kws pos) (tCallK sp gV E tNil tk) := by
  refine ⟨fun pins s σ H Q I h => ?_⟩
  refine wpAny_Call_Name_kw (ld_glob I hg hm ?_ hdb)
  refine PySem.W.callWith_KW0 (h₀ := X.base) I.ok.mod.kin hk hall ?_ hpl
  refine thn (hkw.run pos pins s σ H _ I h) fun ws s2 ⟨zs, H2, I2, rz, q2⟩ => ⟨I2.kIn, ?_⟩
  rw [hks]
  exact run_fnk (us := []) (vs := []) F hr hb hx I2 .nil rz q2
end
theorem tbs_kp {Ts : List Addr} {H H' : Hp} {c : Addr} (h : Tbs Ts H) (k : Kp [c] H H') (n : c ∉ Ts) : Tbs Ts H' := fun T hT => by
  obtain ⟨ps, h1, h2⟩ := h T hT
  exact ⟨ps, k _ _ (fun z => n (by cases List.mem_singleton.mp z; exact hT)) h1, h2⟩
theorem sql_out {K : PySem.W.Frag} {Ts : List Addr} {H : Hp} {a : Addr} {xs : List V} (h : Rd H a (.lst xs)) (t : Tbs Ts H) : a ∉ Ts := fun z => by
  obtain ⟨ps, h1, _⟩ := t a z
  rcases h with h | ⟨ob, h⟩ <;> rw [h1] at h <;> cases h
/-- the script, whatever is done to the tables and the draws -/
theorem sql_go {K : PySem.W.Frag} {Ts : List Addr} {H H' : Hp} {a : Addr} {xs : List V} (h : SqL K H a xs) (t : Tbs Ts H) (g : Go Ts H H') : SqL K H' a xs := by
  rcases h with h | h
  · exact sql_kp (.inl h) g.2 (sql_out (K := K) h t)
  · exact .inr h
theorem sql_cup {K : PySem.W.Frag} {H H' H0 : Hp} {a c : Addr} {xs : List V} (h0 : SqL K H0 a xs) (hc : H0 c = none) (h : SqL K H a xs) (k : Kp [c] H H') : SqL K H' a xs := by
  rcases h0 with h0 | h0
  · refine sql_kp h k fun z => ?_
    cases List.mem_singleton.mp z
    rcases h0 with h0 | ⟨ob, h0⟩ <;> rw [hc] at h0 <;> cases h0
  · exact .inr h0
theorem name_of12 {i : Nat} {v : V} {σ : L2.St} {H : Hp} {Q : L2.St → Hp → Prop} (h : Q (σ.set i (some v)) H) : gName i v σ H Q := h
/-! ### the law, under the caller's own guards -/
section
variable {P : Program} {w : World} {K : PySem.W.Frag} {mg : Str → Option Value} {base : Heap}
theorem fn_places {Ts : List Addr} {f : Addr} {fd : FuncData} (F : C8.Def K mg "places" (topS 35) f fd) (B : Bl K mg) (c_checked : C8.Cal P w K mg base 18 "checked" (spCheck K Ts) []) (c_laid_out : C8.Cal P w K mg base 86 "laid_out" (spLO K) []) : FnOk P w K mg base C8.CX0 87 f fd ["program"] (spPl K Ts) := by
  refine C8.fn0 F.fn sc_places ?len ?body
  case len => rintro vs H Q E ⟨v, L, Ps, rfl, _⟩; rfl
  case body =>
    rintro cdv A outer s H vs Q E hr ⟨v, L, Ps, rfl, hd, hP, hF, hTb, q⟩
    refine ⟨_, (pss_cons (ps_expr (C8.pe_c c_checked hr (by decide) rfl (pa_cons (pv 0) pa_nil)))
    (pss_one (ps_ret (C8.pe_c c_laid_out hr (by decide) rfl (pa_cons (pv 0) pa_nil))))), ?_⟩
    refine ⟨_, rfl, v, L, Ps, rfl, hd.dp, hP, hTb, fun H1 g1 => ?_⟩
    exact ⟨_, rfl, v, L, Ps, rfl, hd.tk (Tk.go hTb g1), hP, hF, fun H2 v2 s2 h2 => q H2 v2 (g1.trans (Go.of_same g1.1 s2)) h2⟩
/-- a call by the caller itself: no guard stands around the body -/
theorem call_own {x : Str} {st : Stmt} {f : Addr} {fd : FuncData} {N : List Str} {p : Str} {k : Nat} {s : Shared} {H : Hp} {u : Value} {v : V} {Q : VK} (F : C8.Fun K x x st f fd) (S : FnScope N [p] (C8.fnScope st)) (room : Room (k + 1) callerA)
    (E0 : Env0 P w K mg base callerA [] s H) (bnd : BindsTo s fd ⟨[u], []⟩ [(p, u)]) (rel : RelV v u)
    (own : ∀ cdv : Value, Room k (callerA.deeper (envOfC x (C8.fnScope st) s.heap.objs.size f cdv)) →
      ∃ t, PSs (cxOf C8.CX0 P w K mg base N x (C8.fnScope st) f cdv callerA [] s H C8.E0).nox (C8.fnBody st) t ∧ t { nx := fun _ H' => Q .non H', rt := Q } (start N [v]) H) :
    codeAny (model P w) callerA (.call (.ref f) ⟨[u], []⟩) (CR C8.CX0 [] P w H s Q C8.E0) s := by
  obtain ⟨oc, od, dV, kV, doc, pm, an, cdv, ct, osl, rfl, look, code⟩ := F.ex
  have inK : K.In s.heap := E0.mod.kin.keeps (fun b o e => (E0.bs b o e).1)
  have free : s.heap.NoLimit := E0.mod.nolimit.keeps (fun b o e => (E0.bs b o e).1)
  refine codeAny_call_function room.depth (inK _ _ look) rfl S.co S.gen rfl (PySem.W.codeRec_of inK code) (bnd _ _ _ _ ?_)
  refine wpAny_newFunctionEnv_cells S.kind ?_ ?_
  · intro y hy
    cases List.mem_singleton.mp hy
    exact (S.par p (by simp)).imp id fun q => ⟨q, PySem.W.cellsFrom_some _ _ _ (.inl q)⟩
  intro env he s1 came
  subst he
  obtain ⟨t, ht, hq⟩ := own cdv (room.deeper _)
  refine ⟨free.keeps came.toInCall.keep, codeAny_func ?_⟩
  have I1 : Inv (cxOf C8.CX0 P w K mg base N x (C8.fnScope st) f cdv callerA [] s H C8.E0) [] (start N [v]) H s1 := inv_start (us := [u]) S room.hd E0 rfl (.cons rel .nil) came
  refine wpAny_mono (ht.nox.run [] s1 (start N [v]) H _ I1 hq) (fun fl s' ended => ?_) (fun e s' z => z)
  match fl, ended with
  | .ret _, ⟨v', σ', H', J, rv, q⟩ => exact ⟨v', H', J.os, J.bare, J.base, J.hok, rv, q⟩
  | .next, ⟨σ', H', J, q⟩ => exact ⟨.non, H', J.os, J.bare, J.base, J.hok, rfl, q⟩
  | .brk, ⟨_, _, _, q⟩ => exact q.elim
  | .cont, ⟨_, _, _, q⟩ => exact q.elim
theorem sc_law : FnScope ["script", "lot", "store", "turn", "program", "due", "kept"] ["script"] (C8.fnScope (topS 49)) := C8.fnScope_by (by decide +kernel)
theorem ok_law {f : Addr} {fd : FuncData} (F : C8.Fun K "law" "law" (topS 49) f fd) (B : Bl K mg) {Ts : List Addr} (c__law_store : C8.Cal P w K mg base 1 "_law_store" (spStore K) []) (c__law_program : C8.Cal P w K mg base 18 "_law_program" (spPr K) []) (c__law_places : C8.Cal P w K mg base 29 "_law_places" (spLP K) []) (c__law_same : C8.Cal P w K mg base 7 "_law_same" (spSameT K 6) []) (c_places : C8.Cal P w K mg base 87 "places" (spPl K Ts) [])
    {fS : Addr} {fdS : FuncData} (FS : FnOk P w K mg base C8.CX0 87 fS fdS ["program"] (spPl K Ts)) (mS : mg "places" = some (.ref fS)) (kS : PySem.W.keepIn K (.ref fS) = true) (kbS : KBinds K fdS ["program"] ["program"] (fun us ws => us ++ ws) (fun vs zs => vs ++ zs))
    {s : Shared} {H : Hp} {x : Addr} {ns : List Int} (E0 : Env0 P w K mg base callerA [] s H) (bnd : BindsTo s fd ⟨[.ref x], []⟩ [("script", .ref x)]) (hx : SqL K H x (ns.map V.int)) (hT : Tbs Ts H) :
    codeAny (model P w) callerA (.call (.ref f) ⟨[.ref x], []⟩) (CR C8.CX0 [] P w H s (fun v _ => v = .bl true) C8.E0) s := by
  refine call_own (k := 87) (v := .ref x) F sc_law ⟨rfl, by decide +kernel, by decide +kernel⟩ E0 bnd rfl fun cdv hr => ?_
  have hg : (cxOf C8.CX0 P w K mg base ["script", "lot", "store", "turn", "program", "due", "kept"] "law" (C8.fnScope (topS 49)) f cdv callerA [] s H C8.E0).nox.A.guards = some [] := rfl
  have hu : (cxOf C8.CX0 P w K mg base ["script", "lot", "store", "turn", "program", "due", "kept"] "law" (C8.fnScope (topS 49)) f cdv callerA [] s H C8.E0).nox.A.units + 100 < cLine := (by decide +kernel : callerA.units + 3 + 100 < cLine)
  refine ⟨_, (pss_cons (ps_for PassesOwn.never rfl (pi_range1 rfl B.range (pa_cons pe_int pa_nil)) (pg_name (i := 1) sc_law.nd rfl (Or.inl rfl))
    (pss_cons (ps_set (i := 2) sc_law.nd rfl (Or.inl rfl) (C8.pe_c c__law_store hr (by decide) rfl (pa_cons (pe_stepL (pv 0) (pv 1) (by decide)) (pa_cons (pv 1) (pa_cons pe_int pa_nil)))))
    (pss_one (ps_for PassesOwn.never rfl (pi_range1 rfl B.range (pa_cons pe_int pa_nil)) (pg_name (i := 3) sc_law.nd rfl (Or.inl rfl))
    (pss_cons (ps_set (i := 4) sc_law.nd rfl (Or.inl rfl) (C8.pe_c c__law_program hr (by decide) rfl (pa_cons (pv 2) (pa_cons (pe_ix ix_list (pe_lst (pa_cons pe_int (pa_cons pe_int (pa_cons pe_int pa_nil)))) (pv 3) (fun _ _ => rfl)) (pa_cons pe_int pa_nil)))))
    (pss_cons (ps_par (i := 5) (j := 6) rfl sc_law.nd rfl rfl (by decide) rfl rfl (pa_cons (C8.pe_c c__law_places hr (by decide) rfl (pa_cons (pv 4) pa_nil)) (pa_cons (pe_callB (call_reprD hg hu) rfl B.repr (by decide +kernel) (pa_cons (pv 4) pa_nil)) pa_nil)) (by with_unfolding_all rfl))
    (pss_one (ps_if (PW.pt (pw_or (pt_not (pt_val (C8.pe_c c__law_same hr (by decide) rfl (pa_cons (C8.pe_c c_places hr (by decide) rfl (pa_cons (pv 4) pa_nil)) (pa_cons (pv 5) pa_nil))))) (pw_or (pt_not (pt_val (C8.pe_c c__law_same hr (by decide) rfl (pa_cons (pe_callK0 FS (hr.mono (by decide)) rfl mS kS kbS pass0 (pk_cons (pv 4) pk_nil)) (pa_cons (pv 5) pa_nil))))) (pw_or1 (pt_cmpR op_ne (pe_callB (call_reprD hg hu) rfl B.repr (by decide +kernel) (pa_cons (pv 4) pa_nil)) (pv 6) (nomark _)))))) (pss_one (ps_ret pe_bl)) pss_nil))))))))
    (pss_one (ps_ret pe_bl))), ?_⟩
  refine ⟨_, rfl, by decide, by decide, ?_⟩
  refine for_range (lo := 0) (n := 3) (fun i σ H' => (∃ s1 s2 s3 s4 s5 s6, σ = [some (.ref x), s1, s2, s3, s4, s5, s6]) ∧ SqL K H' x (ns.map V.int) ∧ Tbs Ts H') ⟨⟨_, _, _, _, _, _, rfl⟩, hx, hT⟩ ?_ ?_
  · rintro i σ H2 hi ⟨⟨s1, s2, s3, s4, s5, s6, rfl⟩, hx2, hT2⟩
    refine name_of12 ?_
    refine ⟨_, rfl, _, rfl, _, rfl, x, ns, rfl, hx2, fun p ms hp hl => ?_⟩
    have sp := same_new hp (.lst (ms.map V.int))
    refine ⟨_, rfl, p, ms, _, 300, rfl, SqL.of upd_same, by omega, by omega, by decide, by decide, fun H3 c s3 hc0 hc => ?_⟩
    refine name_of12 ?_
    refine ⟨_, rfl, by decide, by decide, ?_⟩
    have s23 := sp.trans s3
    have hcT : c ∉ Ts := tbs_cut (ms := []) (o := .lst []) (hT2.same sp) hc0
    have hc2 : H2 c = none := by
      cases e : H2 c with
      | none => rfl
      | some o => rw [sp _ _ e] at hc0; cases hc0
    refine for_range (lo := 0) (n := 3) (fun j σ H' => (∃ t3 t4 t5 t6, σ = [some (.ref x), some (.int (0 + (i : Int))), some (.ref c), t3, t4, t5, t6]) ∧ SqL K H' x (ns.map V.int) ∧ Tbs Ts H' ∧ Cup H' c) ⟨⟨_, _, _, _, rfl⟩, sql_kp hx2 (Kp.of_same (as := []) s23) (by simp), hT2.same s23, hc⟩ ?_ ?_
    · rintro j σ H4 hj ⟨⟨t3, t4, t5, t6, rfl⟩, hx4, hT4, hc4⟩
      refine name_of12 ?_
      obtain ⟨most, hm, hat⟩ : ∃ m : Int, (m = 2 ∨ m = 3 ∨ m = 8) ∧ atI (([2, 3, 8] : List Int).map V.int) (0 + (j : Int)) = some (.int m) := by
        rcases (show j = 0 ∨ j = 1 ∨ j = 2 by omega) with rfl | rfl | rfl
        · exact ⟨2, .inl rfl, rfl⟩
        · exact ⟨3, .inr (.inl rfl), rfl⟩
        · exact ⟨8, .inr (.inr rfl), rfl⟩
      refine ⟨_, rfl, (by show 3 ≤ sizeLine; decide), fun dl hdl => ⟨_, rfl, dl, ([2, 3, 8] : List Int).map V.int, _, .int most, rfl, rfl, SqL.of upd_same, hat, ?_⟩⟩
      have sd := same_new hdl (.lst [.int 2, .int 3, .int 8])
      refine ⟨c, most, 30, rfl, hc4.same sd, by omega, by omega, by decide, fun H5 v L Ps hpd hP hn hF hc5 k5 t5 => ?_⟩
      have hdlc : c ≠ dl := fun z => by obtain ⟨_, _, h, _⟩ := hc4; rw [z, hdl] at h; cases h
      have hx5 : SqL K H5 x (ns.map V.int) := sql_cup hx2 hc2 (sql_kp hx4 (Kp.of_same (as := []) sd) (by simp)) k5
      have hT5 : Tbs Ts H5 := tbs_kp (hT4.same sd) k5 hcT
      have sh := sh_prog hP
      obtain ⟨pa, hpv⟩ : ∃ pa, v = .ref pa := by
        obtain ⟨pa, _, _, e, _⟩ := hpd
        exact ⟨pa, e⟩
      subst hpv
      refine name_of12 ?_
      refine ⟨_, rfl, _, L, Ps, rfl, hpd, hP, hF, fun H6 due s6 hdue => ?_⟩
      have hpd6 := hpd.tk (Tk.same s6)
      refine ⟨_, rfl, pa, progD L Ps, rfl, hpd6.dp, sh.fa, sh.fb, Nat.le_trans sh.fe (by decide), sh.fits (by decide), _, _, rfl, ?_⟩
      have hT6 := hT5.same s6
      have hx6 := sql_kp hx5 (Kp.of_same (as := []) s6) (by simp)
      have hc6 := hc5.same s6
      -- places(program)
      refine ⟨_, rfl, _, L, Ps, rfl, hpd6, hP, hF, hT6, fun H7 v7 g7 hv7 => ?_⟩
      refine ⟨_, rfl, v7, due, layD L Ps, rfl, hv7, ?_, sd_layD hP hF, fun H8 s8 => ?_⟩
      · exact (Tk.go hT6 g7).dp _ (tup_layD L Ps) hdue
      refine ⟨_, rfl, ?_⟩
      have g8 := g7.trans (Go.of_same g7.1 s8)
      have hT8 := g8.1
      have hpd8 := hpd6.tk (Tk.go hT6 g8)
      have hdue8 := (Tk.go hT6 g8).dp _ (tup_layD L Ps) hdue
      refine iteF ?_
      -- places(program=program)
      refine ⟨_, rfl, _, L, Ps, rfl, hpd8, hP, hF, hT8, fun H9 v9 g9 hv9 => ?_⟩
      refine ⟨_, rfl, v9, due, layD L Ps, rfl, hv9, (Tk.go hT8 g9).dp _ (tup_layD L Ps) hdue8, sd_layD hP hF, fun Ha sa => ?_⟩
      refine ⟨_, rfl, ?_⟩
      have ga := g8.trans (g9.trans (Go.of_same g9.1 sa))
      have hpda := hpd6.tk (Tk.go hT6 ga)
      refine iteF ?_
      -- repr(program) again
      refine ⟨_, rfl, pa, progD L Ps, rfl, hpda.dp, sh.fa, sh.fb, Nat.le_trans sh.fe (by decide), sh.fits (by decide), ?_⟩
      refine ⟨_, rfl, rfl, _, rfl, ?_⟩
      rw [decide_eq_true rfl]
      refine iteF ?_
      have hcc : Cup Ha c := hc6.kp ga.2 hcT
      exact ⟨⟨_, _, _, _, rfl⟩, sql_go hx6 hT6 ga, ga.1, hcc⟩
    · rintro σ H4 ⟨⟨t3, t4, t5, t6, rfl⟩, hx4, hT4, hc4⟩
      exact ⟨⟨_, _, _, _, _, _, rfl⟩, hx4, hT4⟩
  · rintro σ H2 ⟨⟨s1, s2, s3, s4, s5, s6, rfl⟩, hx2, hT2⟩
    rfl
end
end K12


set_option Elab.async false
set_option linter.all false
set_option maxRecDepth 100000
set_option maxHeartbeats 8000000
namespace K12
open PySem PySem.Spec PyProof.Rows L2
theorem walk {l : PySem.W.OpenLaw} {n : Nat} {q : Program} {loose : List Str} {XP : (Str → Option Value) → Heap → Prop} {YP : World → Heap → Prop} {d : DefRec} {K : Params → PySem.W.Frag} {x : Str}
    (hn : l.most = some n) (hn2 : n ≤ sizeLine) (hdf : d.params.defaults = []) (hY : ∀ (w : World) (h : Heap), YP w h → (K w.params).In h)
    (F : ∀ (w : World) (lo : List Str) (mean : ExcName → Option Value) (mg mb : Str → Option Value) (fa : Addr) (h : Heap), Top q lo mean mg mb h → (K w.params).In h → mg d.name = some (.ref fa) →
      ∃ cs : List (Addr × Addr), (∀ p ∈ cs, h.get? p.2 = some { cls := .none, data := .fields #[] }) ∧ (∀ p ∈ cs, (K w.params).lookup p.2 = none) ∧ (∀ p ∈ cs, PySem.W.CodeHd h p.1 p.2) ∧
        ∀ (base : Heap) (s : Shared) (H : Hp) (a : Addr) (ns : List Int), (∀ p ∈ cs, LamX.TabB base mg p.1 p.2) → Env0 l.prog w (K w.params) mg base callerA [] s H → (∀ p ∈ cs, H p.2 = some (.tbl #[])) → SqL (K w.params) H a (ns.map V.int) →
          codeAny (model l.prog w) callerA (.call (.ref fa) ⟨[.ref a], []⟩) (CR C8.CX0 [] l.prog w H s (fun v _ => v = .bl true) C8.E0) s) :
    PySem.W.WalkO q loose XP YP l.row.toRowW d [] (fun f vs => PySem.call f vs) := by
  refine Att.attach_callB hn hdf fun w s₀ s₁ mg mb fa o pm cd doc a vs ns G Y ho hd hcd hmg hobj hints hlen hbits hg => ?_
  have KX := hY w _ Y
  obtain ⟨cs, hT, nT, C, run⟩ := F w _ _ mg mb fa _ G.T KX hmg
  obtain ⟨H, X⟩ := few_is (P := l.prog) (w := w) KX hT nT hobj hints (Nat.le_trans hlen hn2)
  obtain ⟨_, _, tb, e0⟩ := env_few X KX G.T.g G.T.b G.T.builtins G.T.nolimit hg hobj hT C G.T.bmain
  exact codeAny_mono (run _ s₁ H a ns tb e0 X.tb X.sq) fun r s' h => end_few X hT C h
theorem in_kit {K : PySem.W.Frag} {c T fa : Addr} {x : Str} {oc kV dc pm ct oct : Value} {od an odt : Option Addr} {sl slt : Array (Option Value)} {vst : Array Value} {st : Stmt} (a : PySem.W.nsIn K mainGlobals x = some (some (.ref fa)))
    (l : K.lookup fa = some ⟨oc, od, .func (PySem.W.fnOf x x (C8.fnArgs st) (C8.fnBody st) (C8.fnScope st) .none kV dc pm an (.ref c) ct), sl⟩) (t1 : K.lookup c = some ⟨oct, odt, .fields vst, slt⟩) (t2 : vst[11]? = some (.ref T)) : PySem.W.tabIn K x = some (c, T) := by
  unfold PySem.W.tabIn
  rw [a]
  simp only [l]
  show (match K.lookup c with | some ⟨_, _, .fields vs, _⟩ => (match (vs[11]? : Option Value) with | some (.ref P) => some (c, P) | _ => none) | _ => none) = some (c, T)
  rw [t1]
  simp only [t2]
theorem all_mk {l : PySem.W.OpenLaw} {w : World} {K : PySem.W.Frag} {h : Heap} {mg mb : Str → Option Value} {fa : Addr} {q : Program} {lo : List Str} {mean : ExcName → Option Value} (TT : Top q lo mean mg mb h) (X : K.In h) (hfa : mg "law" = some (.ref fa))
    {f6 : Addr} {oc6 kV6 dc6 pm6 ct6 : Value} {cd6 : Value} {od6 an6 : Option Addr} {sl6 : Array (Option Value)}
    {f12 : Addr} {oc12 kV12 dc12 pm12 ct12 : Value} {c12 : Addr} {od12 an12 : Option Addr} {sl12 : Array (Option Value)}
    {f21 : Addr} {oc21 kV21 dc21 pm21 ct21 : Value} {c21 : Addr} {od21 an21 : Option Addr} {sl21 : Array (Option Value)}
    {f22 : Addr} {oc22 kV22 dc22 pm22 ct22 : Value} {cd22 : Value} {od22 an22 : Option Addr} {sl22 : Array (Option Value)}
    {f23 : Addr} {oc23 kV23 dc23 pm23 ct23 : Value} {cd23 : Value} {od23 an23 : Option Addr} {sl23 : Array (Option Value)}
    {f24 : Addr} {oc24 kV24 dc24 pm24 ct24 : Value} {cd24 : Value} {od24 an24 : Option Addr} {sl24 : Array (Option Value)}
    {f25 : Addr} {oc25 kV25 dc25 pm25 ct25 : Value} {cd25 : Value} {od25 an25 : Option Addr} {sl25 : Array (Option Value)}
    {f27 : Addr} {oc27 kV27 dc27 pm27 ct27 : Value} {cd27 : Value} {od27 an27 : Option Addr} {sl27 : Array (Option Value)}
    {f28 : Addr} {oc28 kV28 dc28 pm28 ct28 : Value} {cd28 : Value} {od28 an28 : Option Addr} {sl28 : Array (Option Value)}
    {f29 : Addr} {oc29 kV29 dc29 pm29 ct29 : Value} {cd29 : Value} {od29 an29 : Option Addr} {sl29 : Array (Option Value)}
    {f30 : Addr} {oc30 kV30 dc30 pm30 ct30 : Value} {cd30 : Value} {od30 an30 : Option Addr} {sl30 : Array (Option Value)}
    {f31 : Addr} {oc31 kV31 dc31 pm31 ct31 : Value} {cd31 : Value} {od31 an31 : Option Addr} {sl31 : Array (Option Value)}
    {f35 : Addr} {oc35 kV35 dc35 pm35 ct35 : Value} {cd35 : Value} {od35 an35 : Option Addr} {sl35 : Array (Option Value)}
    {f36 : Addr} {oc36 kV36 dc36 pm36 ct36 : Value} {cd36 : Value} {od36 an36 : Option Addr} {sl36 : Array (Option Value)}
    {f37 : Addr} {oc37 kV37 dc37 pm37 ct37 : Value} {cd37 : Value} {od37 an37 : Option Addr} {sl37 : Array (Option Value)}
    {f40 : Addr} {oc40 kV40 dc40 pm40 ct40 : Value} {cd40 : Value} {od40 an40 : Option Addr} {sl40 : Array (Option Value)}
    {f41 : Addr} {oc41 kV41 dc41 pm41 ct41 : Value} {cd41 : Value} {od41 an41 : Option Addr} {sl41 : Array (Option Value)}
    {f42 : Addr} {oc42 kV42 dc42 pm42 ct42 : Value} {cd42 : Value} {od42 an42 : Option Addr} {sl42 : Array (Option Value)}
    {f43 : Addr} {oc43 kV43 dc43 pm43 ct43 : Value} {cd43 : Value} {od43 an43 : Option Addr} {sl43 : Array (Option Value)}
    {f44 : Addr} {oc44 kV44 dc44 pm44 ct44 : Value} {cd44 : Value} {od44 an44 : Option Addr} {sl44 : Array (Option Value)}
    {f45 : Addr} {oc45 kV45 dc45 pm45 ct45 : Value} {cd45 : Value} {od45 an45 : Option Addr} {sl45 : Array (Option Value)}
    {f46 : Addr} {oc46 kV46 dc46 pm46 ct46 : Value} {cd46 : Value} {od46 an46 : Option Addr} {sl46 : Array (Option Value)}
    {f47 : Addr} {oc47 kV47 dc47 pm47 ct47 : Value} {cd47 : Value} {od47 an47 : Option Addr} {sl47 : Array (Option Value)}
    {f48 : Addr} {oc48 kV48 dc48 pm48 ct48 : Value} {cd48 : Value} {od48 an48 : Option Addr} {sl48 : Array (Option Value)}
    {f49 : Addr} {oc49 kV49 dc49 pm49 ct49 : Value} {cd49 : Value} {od49 an49 : Option Addr} {sl49 : Array (Option Value)}
    {fm0 : Addr} {ocm0 kVm0 dcm0 pmm0 ctm0 : Value} {cdm0 : Value} {odm0 anm0 : Option Addr} {slm0 : Array (Option Value)}
    {fm1 : Addr} {ocm1 kVm1 dcm1 pmm1 ctm1 : Value} {cdm1 : Value} {odm1 anm1 : Option Addr} {slm1 : Array (Option Value)}
    {fm2 : Addr} {ocm2 kVm2 dcm2 pmm2 ctm2 : Value} {cdm2 : Value} {odm2 anm2 : Option Addr} {slm2 : Array (Option Value)}
    {fm3 : Addr} {ocm3 kVm3 dcm3 pmm3 ctm3 : Value} {cdm3 : Value} {odm3 anm3 : Option Addr} {slm3 : Array (Option Value)}
    {fm4 : Addr} {ocm4 kVm4 dcm4 pmm4 ctm4 : Value} {cdm4 : Value} {odm4 anm4 : Option Addr} {slm4 : Array (Option Value)}
    {fm5 : Addr} {ocm5 kVm5 dcm5 pmm5 ctm5 : Value} {cdm5 : Value} {odm5 anm5 : Option Addr} {slm5 : Array (Option Value)}
    {fm6 : Addr} {ocm6 kVm6 dcm6 pmm6 ctm6 : Value} {cdm6 : Value} {odm6 anm6 : Option Addr} {slm6 : Array (Option Value)}
    {uMOST_SIGNS : Tok} {uMOST_LETTERS : Tok} {uMOST_PROCEDURES : Tok} {uLEAST_BODIES : Tok} {uMOST_BODIES : Tok} {uMOST_IN_BODY : Tok} {uMOST_STATEMENTS : Tok} {uLONGEST_CHAIN : Tok} {uMOST_PLACES : Tok} {uS uW : Tok} {kw en CL : Addr} {odkw oden : Option Addr} {itkw iten : Array Value} {nkw nen : Nat} {slkw slen : Array (Option Value)}
    {T12 : Addr} {oct12 : Value} {odt12 : Option Addr} {vst12 : Array Value} {slt12 : Array (Option Value)} {d12 : DefRec} {T21 : Addr} {oct21 : Value} {odt21 : Option Addr} {vst21 : Array Value} {slt21 : Array (Option Value)} {d21 : DefRec} 
    (a6 : PySem.W.nsIn K mainGlobals "is_row" = some (some (.ref f6))) (l6 : K.lookup f6 = some ⟨oc6, od6, .func (PySem.W.fnOf "is_row" "is_row" (C8.fnArgs (topS 6)) (C8.fnBody (topS 6)) (C8.fnScope (topS 6)) .none kV6 dc6 pm6 an6 cd6 ct6), sl6⟩) (c6h : PySem.W.codeIn K cd6 "is_row" = true) (k6 : PySem.W.keepIn K (.ref f6) = true)
    (a12 : PySem.W.nsIn K mainGlobals "is_name" = some (some (.ref f12))) (l12 : K.lookup f12 = some ⟨oc12, od12, .func (PySem.W.fnOf "is_name" "is_name" (C8.fnArgs (topS 12)) (C8.fnBody (topS 12)) (C8.fnScope (topS 12)) .none kV12 dc12 pm12 an12 (.ref c12) ct12), sl12⟩) (c12h : PySem.W.codeIn K (.ref c12) "is_name" = true) (k12 : PySem.W.keepIn K (.ref f12) = true)
    (a21 : PySem.W.nsIn K mainGlobals "is_program" = some (some (.ref f21))) (l21 : K.lookup f21 = some ⟨oc21, od21, .func (PySem.W.fnOf "is_program" "is_program" (C8.fnArgs (topS 21)) (C8.fnBody (topS 21)) (C8.fnScope (topS 21)) .none kV21 dc21 pm21 an21 (.ref c21) ct21), sl21⟩) (c21h : PySem.W.codeIn K (.ref c21) "is_program" = true) (k21 : PySem.W.keepIn K (.ref f21) = true)
    (a22 : PySem.W.nsIn K mainGlobals "_are_bodies" = some (some (.ref f22))) (l22 : K.lookup f22 = some ⟨oc22, od22, .func (PySem.W.fnOf "_are_bodies" "_are_bodies" (C8.fnArgs (topS 22)) (C8.fnBody (topS 22)) (C8.fnScope (topS 22)) .none kV22 dc22 pm22 an22 cd22 ct22), sl22⟩) (c22h : PySem.W.codeIn K cd22 "_are_bodies" = true) (k22 : PySem.W.keepIn K (.ref f22) = true)
    (a23 : PySem.W.nsIn K mainGlobals "_is_statement" = some (some (.ref f23))) (l23 : K.lookup f23 = some ⟨oc23, od23, .func (PySem.W.fnOf "_is_statement" "_is_statement" (C8.fnArgs (topS 23)) (C8.fnBody (topS 23)) (C8.fnScope (topS 23)) .none kV23 dc23 pm23 an23 cd23 ct23), sl23⟩) (c23h : PySem.W.codeIn K cd23 "_is_statement" = true) (k23 : PySem.W.keepIn K (.ref f23) = true)
    (a24 : PySem.W.nsIn K mainGlobals "bodies_of" = some (some (.ref f24))) (l24 : K.lookup f24 = some ⟨oc24, od24, .func (PySem.W.fnOf "bodies_of" "bodies_of" (C8.fnArgs (topS 24)) (C8.fnBody (topS 24)) (C8.fnScope (topS 24)) .none kV24 dc24 pm24 an24 cd24 ct24), sl24⟩) (c24h : PySem.W.codeIn K cd24 "bodies_of" = true) (k24 : PySem.W.keepIn K (.ref f24) = true)
    (a25 : PySem.W.nsIn K mainGlobals "want_program" = some (some (.ref f25))) (l25 : K.lookup f25 = some ⟨oc25, od25, .func (PySem.W.fnOf "want_program" "want_program" (C8.fnArgs (topS 25)) (C8.fnBody (topS 25)) (C8.fnScope (topS 25)) .none kV25 dc25 pm25 an25 cd25 ct25), sl25⟩) (c25h : PySem.W.codeIn K cd25 "want_program" = true) (k25 : PySem.W.keepIn K (.ref f25) = true)
    (a27 : PySem.W.nsIn K mainGlobals "check" = some (some (.ref f27))) (l27 : K.lookup f27 = some ⟨oc27, od27, .func (PySem.W.fnOf "check" "check" (C8.fnArgs (topS 27)) (C8.fnBody (topS 27)) (C8.fnScope (topS 27)) .none kV27 dc27 pm27 an27 cd27 ct27), sl27⟩) (c27h : PySem.W.codeIn K cd27 "check" = true) (k27 : PySem.W.keepIn K (.ref f27) = true)
    (a28 : PySem.W.nsIn K mainGlobals "_first_double" = some (some (.ref f28))) (l28 : K.lookup f28 = some ⟨oc28, od28, .func (PySem.W.fnOf "_first_double" "_first_double" (C8.fnArgs (topS 28)) (C8.fnBody (topS 28)) (C8.fnScope (topS 28)) .none kV28 dc28 pm28 an28 cd28 ct28), sl28⟩) (c28h : PySem.W.codeIn K cd28 "_first_double" = true) (k28 : PySem.W.keepIn K (.ref f28) = true)
    (a29 : PySem.W.nsIn K mainGlobals "_body_fault" = some (some (.ref f29))) (l29 : K.lookup f29 = some ⟨oc29, od29, .func (PySem.W.fnOf "_body_fault" "_body_fault" (C8.fnArgs (topS 29)) (C8.fnBody (topS 29)) (C8.fnScope (topS 29)) .none kV29 dc29 pm29 an29 cd29 ct29), sl29⟩) (c29h : PySem.W.codeIn K cd29 "_body_fault" = true) (k29 : PySem.W.keepIn K (.ref f29) = true)
    (a30 : PySem.W.nsIn K mainGlobals "_find_statements" = some (some (.ref f30))) (l30 : K.lookup f30 = some ⟨oc30, od30, .func (PySem.W.fnOf "_find_statements" "_find_statements" (C8.fnArgs (topS 30)) (C8.fnBody (topS 30)) (C8.fnScope (topS 30)) .none kV30 dc30 pm30 an30 cd30 ct30), sl30⟩) (c30h : PySem.W.codeIn K cd30 "_find_statements" = true) (k30 : PySem.W.keepIn K (.ref f30) = true)
    (a31 : PySem.W.nsIn K mainGlobals "checked" = some (some (.ref f31))) (l31 : K.lookup f31 = some ⟨oc31, od31, .func (PySem.W.fnOf "checked" "checked" (C8.fnArgs (topS 31)) (C8.fnBody (topS 31)) (C8.fnScope (topS 31)) .none kV31 dc31 pm31 an31 cd31 ct31), sl31⟩) (c31h : PySem.W.codeIn K cd31 "checked" = true) (k31 : PySem.W.keepIn K (.ref f31) = true)
    (a35 : PySem.W.nsIn K mainGlobals "places" = some (some (.ref f35))) (l35 : K.lookup f35 = some ⟨oc35, od35, .func (PySem.W.fnOf "places" "places" (C8.fnArgs (topS 35)) (C8.fnBody (topS 35)) (C8.fnScope (topS 35)) .none kV35 dc35 pm35 an35 cd35 ct35), sl35⟩) (c35h : PySem.W.codeIn K cd35 "places" = true) (k35 : PySem.W.keepIn K (.ref f35) = true)
    (a36 : PySem.W.nsIn K mainGlobals "laid_out" = some (some (.ref f36))) (l36 : K.lookup f36 = some ⟨oc36, od36, .func (PySem.W.fnOf "laid_out" "laid_out" (C8.fnArgs (topS 36)) (C8.fnBody (topS 36)) (C8.fnScope (topS 36)) .none kV36 dc36 pm36 an36 cd36 ct36), sl36⟩) (c36h : PySem.W.codeIn K cd36 "laid_out" = true) (k36 : PySem.W.keepIn K (.ref f36) = true)
    (a37 : PySem.W.nsIn K mainGlobals "layouts" = some (some (.ref f37))) (l37 : K.lookup f37 = some ⟨oc37, od37, .func (PySem.W.fnOf "layouts" "layouts" (C8.fnArgs (topS 37)) (C8.fnBody (topS 37)) (C8.fnScope (topS 37)) .none kV37 dc37 pm37 an37 cd37 ct37), sl37⟩) (c37h : PySem.W.codeIn K cd37 "layouts" = true) (k37 : PySem.W.keepIn K (.ref f37) = true)
    (a40 : PySem.W.nsIn K mainGlobals "_law_store" = some (some (.ref f40))) (l40 : K.lookup f40 = some ⟨oc40, od40, .func (PySem.W.fnOf "_law_store" "_law_store" (C8.fnArgs (topS 40)) (C8.fnBody (topS 40)) (C8.fnScope (topS 40)) .none kV40 dc40 pm40 an40 cd40 ct40), sl40⟩) (c40h : PySem.W.codeIn K cd40 "_law_store" = true) (k40 : PySem.W.keepIn K (.ref f40) = true)
    (a41 : PySem.W.nsIn K mainGlobals "_law_pick" = some (some (.ref f41))) (l41 : K.lookup f41 = some ⟨oc41, od41, .func (PySem.W.fnOf "_law_pick" "_law_pick" (C8.fnArgs (topS 41)) (C8.fnBody (topS 41)) (C8.fnScope (topS 41)) .none kV41 dc41 pm41 an41 cd41 ct41), sl41⟩) (c41h : PySem.W.codeIn K cd41 "_law_pick" = true) (k41 : PySem.W.keepIn K (.ref f41) = true)
    (a42 : PySem.W.nsIn K mainGlobals "_law_same" = some (some (.ref f42))) (l42 : K.lookup f42 = some ⟨oc42, od42, .func (PySem.W.fnOf "_law_same" "_law_same" (C8.fnArgs (topS 42)) (C8.fnBody (topS 42)) (C8.fnScope (topS 42)) .none kV42 dc42 pm42 an42 cd42 ct42), sl42⟩) (c42h : PySem.W.codeIn K cd42 "_law_same" = true) (k42 : PySem.W.keepIn K (.ref f42) = true)
    (a43 : PySem.W.nsIn K mainGlobals "_law_names" = some (some (.ref f43))) (l43 : K.lookup f43 = some ⟨oc43, od43, .func (PySem.W.fnOf "_law_names" "_law_names" (C8.fnArgs (topS 43)) (C8.fnBody (topS 43)) (C8.fnScope (topS 43)) .none kV43 dc43 pm43 an43 cd43 ct43), sl43⟩) (c43h : PySem.W.codeIn K cd43 "_law_names" = true) (k43 : PySem.W.keepIn K (.ref f43) = true)
    (a44 : PySem.W.nsIn K mainGlobals "_law_body" = some (some (.ref f44))) (l44 : K.lookup f44 = some ⟨oc44, od44, .func (PySem.W.fnOf "_law_body" "_law_body" (C8.fnArgs (topS 44)) (C8.fnBody (topS 44)) (C8.fnScope (topS 44)) .none kV44 dc44 pm44 an44 cd44 ct44), sl44⟩) (c44h : PySem.W.codeIn K cd44 "_law_body" = true) (k44 : PySem.W.keepIn K (.ref f44) = true)
    (a45 : PySem.W.nsIn K mainGlobals "_law_statement" = some (some (.ref f45))) (l45 : K.lookup f45 = some ⟨oc45, od45, .func (PySem.W.fnOf "_law_statement" "_law_statement" (C8.fnArgs (topS 45)) (C8.fnBody (topS 45)) (C8.fnScope (topS 45)) .none kV45 dc45 pm45 an45 cd45 ct45), sl45⟩) (c45h : PySem.W.codeIn K cd45 "_law_statement" = true) (k45 : PySem.W.keepIn K (.ref f45) = true)
    (a46 : PySem.W.nsIn K mainGlobals "_law_program" = some (some (.ref f46))) (l46 : K.lookup f46 = some ⟨oc46, od46, .func (PySem.W.fnOf "_law_program" "_law_program" (C8.fnArgs (topS 46)) (C8.fnBody (topS 46)) (C8.fnScope (topS 46)) .none kV46 dc46 pm46 an46 cd46 ct46), sl46⟩) (c46h : PySem.W.codeIn K cd46 "_law_program" = true) (k46 : PySem.W.keepIn K (.ref f46) = true)
    (a47 : PySem.W.nsIn K mainGlobals "_law_lay" = some (some (.ref f47))) (l47 : K.lookup f47 = some ⟨oc47, od47, .func (PySem.W.fnOf "_law_lay" "_law_lay" (C8.fnArgs (topS 47)) (C8.fnBody (topS 47)) (C8.fnScope (topS 47)) .none kV47 dc47 pm47 an47 cd47 ct47), sl47⟩) (c47h : PySem.W.codeIn K cd47 "_law_lay" = true) (k47 : PySem.W.keepIn K (.ref f47) = true)
    (a48 : PySem.W.nsIn K mainGlobals "_law_places" = some (some (.ref f48))) (l48 : K.lookup f48 = some ⟨oc48, od48, .func (PySem.W.fnOf "_law_places" "_law_places" (C8.fnArgs (topS 48)) (C8.fnBody (topS 48)) (C8.fnScope (topS 48)) .none kV48 dc48 pm48 an48 cd48 ct48), sl48⟩) (c48h : PySem.W.codeIn K cd48 "_law_places" = true) (k48 : PySem.W.keepIn K (.ref f48) = true)
    (a49 : PySem.W.nsIn K mainGlobals "law" = some (some (.ref f49))) (l49 : K.lookup f49 = some ⟨oc49, od49, .func (PySem.W.fnOf "law" "law" (C8.fnArgs (topS 49)) (C8.fnBody (topS 49)) (C8.fnScope (topS 49)) .none kV49 dc49 pm49 an49 cd49 ct49), sl49⟩) (c49h : PySem.W.codeIn K cd49 "law" = true) (k49 : PySem.W.keepIn K (.ref f49) = true)
    (am0 : PySem.W.findIn K (.ref CL) "__init__" = some (some (.ref fm0))) (im0 : PySem.W.isFn K (.ref fm0) = true) (lm0 : K.lookup fm0 = some ⟨ocm0, odm0, .func (PySem.W.fnOf "__init__" "Layout.__init__" (C8.fnArgs (inClass (topS 38) 0)) (C8.fnBody (inClass (topS 38) 0)) (C8.fnScope (inClass (topS 38) 0)) .none kVm0 dcm0 pmm0 anm0 cdm0 ctm0), slm0⟩) (cm0h : PySem.W.codeIn K cdm0 "Layout.__init__" = true) (km0 : PySem.W.keepIn K (.ref fm0) = true)
    (am1 : PySem.W.findIn K (.ref CL) "make" = some (some (.ref fm1))) (im1 : PySem.W.isFn K (.ref fm1) = true) (lm1 : K.lookup fm1 = some ⟨ocm1, odm1, .func (PySem.W.fnOf "make" "Layout.make" (C8.fnArgs (inClass (topS 38) 1)) (C8.fnBody (inClass (topS 38) 1)) (C8.fnScope (inClass (topS 38) 1)) .none kVm1 dcm1 pmm1 anm1 cdm1 ctm1), slm1⟩) (cm1h : PySem.W.codeIn K cdm1 "Layout.make" = true) (km1 : PySem.W.keepIn K (.ref fm1) = true)
    (am2 : PySem.W.findIn K (.ref CL) "make_fork" = some (some (.ref fm2))) (im2 : PySem.W.isFn K (.ref fm2) = true) (lm2 : K.lookup fm2 = some ⟨ocm2, odm2, .func (PySem.W.fnOf "make_fork" "Layout.make_fork" (C8.fnArgs (inClass (topS 38) 2)) (C8.fnBody (inClass (topS 38) 2)) (C8.fnScope (inClass (topS 38) 2)) .none kVm2 dcm2 pmm2 anm2 cdm2 ctm2), slm2⟩) (cm2h : PySem.W.codeIn K cdm2 "Layout.make_fork" = true) (km2 : PySem.W.keepIn K (.ref fm2) = true)
    (am3 : PySem.W.findIn K (.ref CL) "lay" = some (some (.ref fm3))) (im3 : PySem.W.isFn K (.ref fm3) = true) (lm3 : K.lookup fm3 = some ⟨ocm3, odm3, .func (PySem.W.fnOf "lay" "Layout.lay" (C8.fnArgs (inClass (topS 38) 3)) (C8.fnBody (inClass (topS 38) 3)) (C8.fnScope (inClass (topS 38) 3)) .none kVm3 dcm3 pmm3 anm3 cdm3 ctm3), slm3⟩) (cm3h : PySem.W.codeIn K cdm3 "Layout.lay" = true) (km3 : PySem.W.keepIn K (.ref fm3) = true)
    (am4 : PySem.W.findIn K (.ref CL) "statement" = some (some (.ref fm4))) (im4 : PySem.W.isFn K (.ref fm4) = true) (lm4 : K.lookup fm4 = some ⟨ocm4, odm4, .func (PySem.W.fnOf "statement" "Layout.statement" (C8.fnArgs (inClass (topS 38) 4)) (C8.fnBody (inClass (topS 38) 4)) (C8.fnScope (inClass (topS 38) 4)) .none kVm4 dcm4 pmm4 anm4 cdm4 ctm4), slm4⟩) (cm4h : PySem.W.codeIn K cdm4 "Layout.statement" = true) (km4 : PySem.W.keepIn K (.ref fm4) = true)
    (am5 : PySem.W.findIn K (.ref CL) "loop" = some (some (.ref fm5))) (im5 : PySem.W.isFn K (.ref fm5) = true) (lm5 : K.lookup fm5 = some ⟨ocm5, odm5, .func (PySem.W.fnOf "loop" "Layout.loop" (C8.fnArgs (inClass (topS 38) 5)) (C8.fnBody (inClass (topS 38) 5)) (C8.fnScope (inClass (topS 38) 5)) .none kVm5 dcm5 pmm5 anm5 cdm5 ctm5), slm5⟩) (cm5h : PySem.W.codeIn K cdm5 "Layout.loop" = true) (km5 : PySem.W.keepIn K (.ref fm5) = true)
    (am6 : PySem.W.findIn K (.ref CL) "leave" = some (some (.ref fm6))) (im6 : PySem.W.isFn K (.ref fm6) = true) (lm6 : K.lookup fm6 = some ⟨ocm6, odm6, .func (PySem.W.fnOf "leave" "Layout.leave" (C8.fnArgs (inClass (topS 38) 6)) (C8.fnBody (inClass (topS 38) 6)) (C8.fnScope (inClass (topS 38) 6)) .none kVm6 dcm6 pmm6 anm6 cdm6 ctm6), slm6⟩) (cm6h : PySem.W.codeIn K cdm6 "Layout.leave" = true) (km6 : PySem.W.keepIn K (.ref fm6) = true)
    (zisinstance : PySem.W.nsIn K mainGlobals "isinstance" = some none) (zint : PySem.W.nsIn K mainGlobals "int" = some none) (zbool : PySem.W.nsIn K mainGlobals "bool" = some none) (zstr : PySem.W.nsIn K mainGlobals "str" = some none) (ztuple : PySem.W.nsIn K mainGlobals "tuple" = some none) (zlen : PySem.W.nsIn K mainGlobals "len" = some none) (zabs : PySem.W.nsIn K mainGlobals "abs" = some none) (zall : PySem.W.nsIn K mainGlobals "all" = some none) (zrange : PySem.W.nsIn K mainGlobals "range" = some none) (zenumerate : PySem.W.nsIn K mainGlobals "enumerate" = some none) (zreversed : PySem.W.nsIn K mainGlobals "reversed" = some none) (zrepr : PySem.W.nsIn K mainGlobals "repr" = some none) 
    (mMOST_SIGNS : PySem.W.nsIn K mainGlobals "MOST_SIGNS" = some (some (.int 10 uMOST_SIGNS))) (mMOST_LETTERS : PySem.W.nsIn K mainGlobals "MOST_LETTERS" = some (some (.int 20 uMOST_LETTERS))) (mMOST_PROCEDURES : PySem.W.nsIn K mainGlobals "MOST_PROCEDURES" = some (some (.int 8 uMOST_PROCEDURES))) (mLEAST_BODIES : PySem.W.nsIn K mainGlobals "LEAST_BODIES" = some (some (.int 2 uLEAST_BODIES))) (mMOST_BODIES : PySem.W.nsIn K mainGlobals "MOST_BODIES" = some (some (.int 6 uMOST_BODIES))) (mMOST_IN_BODY : PySem.W.nsIn K mainGlobals "MOST_IN_BODY" = some (some (.int 60 uMOST_IN_BODY))) (mMOST_STATEMENTS : PySem.W.nsIn K mainGlobals "MOST_STATEMENTS" = some (some (.int 200 uMOST_STATEMENTS))) (mLONGEST_CHAIN : PySem.W.nsIn K mainGlobals "LONGEST_CHAIN" = some (some (.int 12 uLONGEST_CHAIN))) (mMOST_PLACES : PySem.W.nsIn K mainGlobals "MOST_PLACES" = some (some (.int 300 uMOST_PLACES))) 
    (mS : PySem.W.nsIn K mainGlobals "SMALL_LETTERS" = some (some (.str smallL uS))) (mW : PySem.W.nsIn K mainGlobals "WORD_SIGNS" = some (some (.str wordS uW)))
    (mK : PySem.W.nsIn K mainGlobals "KEPT_WORDS" = some (some (.ref kw))) (mE : PySem.W.nsIn K mainGlobals "END" = some (some (.ref en))) (mL : PySem.W.nsIn K mainGlobals "Layout" = some (some (.ref CL)))
    (lK : K.lookup kw = some ⟨.type "tuple", odkw, .seq itkw nkw, slkw⟩) (lE : K.lookup en = some ⟨.type "tuple", oden, .seq iten nen, slen⟩)
    (pgC : PySem.W.plainGet K CL Str.empty = true) (hdC : PySem.W.hasDictIn K CL = true) (poC : PySem.W.plainOver K CL = true) (saC : PySem.W.findIn K (.ref CL) "__setattr__" = some (some (.builtin "object.__setattr__"))) (mkC : PySem.W.makesIn K CL = true) (kcC : PySem.W.keepIn K (.ref CL) = true)
    (n1 : PySem.W.findIn K (.ref CL) "letters" = some none) (n2 : PySem.W.findIn K (.ref CL) "names" = some none) (n3 : PySem.W.findIn K (.ref CL) "places" = some none) (n4 : PySem.W.findIn K (.ref CL) "forks" = some none) (n5 : PySem.W.findIn K (.ref CL) "begin" = some none)
    (vK : Vals (keptW.map V.str) itkw.toList) (vE : Vals [V.str "end"] iten.toList) (wK : itkw.size ≤ sizeLine) (wE : iten.size ≤ sizeLine)
    (t112 : K.lookup c12 = some ⟨oct12, odt12, .fields vst12, slt12⟩) (t212 : vst12[11]? = some (.ref T12)) (t312 : K.lookup T12 = none) (t412 : (recsOf q).find? (fun e => e.name == ("is_name" : Str)) = some d12)
    (t121 : K.lookup c21 = some ⟨oct21, odt21, .fields vst21, slt21⟩) (t221 : vst21[11]? = some (.ref T21)) (t321 : K.lookup T21 = none) (t421 : (recsOf q).find? (fun e => e.name == ("is_program" : Str)) = some d21)
     : ∃ cs : List (Addr × Addr), (∀ p ∈ cs, h.get? p.2 = some { cls := .none, data := .fields #[] }) ∧ (∀ p ∈ cs, K.lookup p.2 = none) ∧ (∀ p ∈ cs, PySem.W.CodeHd h p.1 p.2) ∧
        ∀ (base : Heap) (s : Shared) (H : Hp) (a : Addr) (ns : List Int), (∀ p ∈ cs, LamX.TabB base mg p.1 p.2) → Env0 l.prog w K mg base callerA [] s H → (∀ p ∈ cs, H p.2 = some (.tbl #[])) → SqL K H a (ns.map V.int) →
          codeAny (model l.prog w) callerA (.call (.ref fa) ⟨[.ref a], []⟩) (CR C8.CX0 [] l.prog w H s (fun v _ => v = .bl true) C8.E0) s := by
  have G := TT.g
  have e := hfa.symm.trans (PySem.W.mg_of X G a49)
  cases e
  have F6 : C8.Def K mg "is_row" (topS 6) _ _ := ⟨⟨_, _, _, _, _, _, _, _, _, _, rfl, l6, c6h⟩, PySem.W.mg_of X G a6, k6⟩
  have b6 := C8.Fun.binds F6.fn rfl (ps := ["thing", "low", "high"]) fun _ _ _ _ _ _ us hl => match us, hl with | [_, _, _], _ => rfl
  have F12 : C8.Def K mg "is_name" (topS 12) _ _ := ⟨⟨_, _, _, _, _, _, _, _, _, _, rfl, l12, c12h⟩, PySem.W.mg_of X G a12, k12⟩
  have b12 := C8.Fun.binds F12.fn rfl (ps := ["thing"]) fun _ _ _ _ _ _ us hl => match us, hl with | [_], _ => rfl
  have F21 : C8.Def K mg "is_program" (topS 21) _ _ := ⟨⟨_, _, _, _, _, _, _, _, _, _, rfl, l21, c21h⟩, PySem.W.mg_of X G a21, k21⟩
  have b21 := C8.Fun.binds F21.fn rfl (ps := ["thing"]) fun _ _ _ _ _ _ us hl => match us, hl with | [_], _ => rfl
  have F22 : C8.Def K mg "_are_bodies" (topS 22) _ _ := ⟨⟨_, _, _, _, _, _, _, _, _, _, rfl, l22, c22h⟩, PySem.W.mg_of X G a22, k22⟩
  have b22 := C8.Fun.binds F22.fn rfl (ps := ["bodies"]) fun _ _ _ _ _ _ us hl => match us, hl with | [_], _ => rfl
  have F23 : C8.Def K mg "_is_statement" (topS 23) _ _ := ⟨⟨_, _, _, _, _, _, _, _, _, _, rfl, l23, c23h⟩, PySem.W.mg_of X G a23, k23⟩
  have b23 := C8.Fun.binds F23.fn rfl (ps := ["thing"]) fun _ _ _ _ _ _ us hl => match us, hl with | [_], _ => rfl
  have F24 : C8.Def K mg "bodies_of" (topS 24) _ _ := ⟨⟨_, _, _, _, _, _, _, _, _, _, rfl, l24, c24h⟩, PySem.W.mg_of X G a24, k24⟩
  have b24 := C8.Fun.binds F24.fn rfl (ps := ["statement"]) fun _ _ _ _ _ _ us hl => match us, hl with | [_], _ => rfl
  have F25 : C8.Def K mg "want_program" (topS 25) _ _ := ⟨⟨_, _, _, _, _, _, _, _, _, _, rfl, l25, c25h⟩, PySem.W.mg_of X G a25, k25⟩
  have b25 := C8.Fun.binds F25.fn rfl (ps := ["program"]) fun _ _ _ _ _ _ us hl => match us, hl with | [_], _ => rfl
  have F27 : C8.Def K mg "check" (topS 27) _ _ := ⟨⟨_, _, _, _, _, _, _, _, _, _, rfl, l27, c27h⟩, PySem.W.mg_of X G a27, k27⟩
  have b27 := C8.Fun.binds F27.fn rfl (ps := ["program"]) fun _ _ _ _ _ _ us hl => match us, hl with | [_], _ => rfl
  have F28 : C8.Def K mg "_first_double" (topS 28) _ _ := ⟨⟨_, _, _, _, _, _, _, _, _, _, rfl, l28, c28h⟩, PySem.W.mg_of X G a28, k28⟩
  have b28 := C8.Fun.binds F28.fn rfl (ps := ["names"]) fun _ _ _ _ _ _ us hl => match us, hl with | [_], _ => rfl
  have F29 : C8.Def K mg "_body_fault" (topS 29) _ _ := ⟨⟨_, _, _, _, _, _, _, _, _, _, rfl, l29, c29h⟩, PySem.W.mg_of X G a29, k29⟩
  have b29 := C8.Fun.binds F29.fn rfl (ps := ["body", "letters", "names"]) fun _ _ _ _ _ _ us hl => match us, hl with | [_, _, _], _ => rfl
  have F30 : C8.Def K mg "_find_statements" (topS 30) _ _ := ⟨⟨_, _, _, _, _, _, _, _, _, _, rfl, l30, c30h⟩, PySem.W.mg_of X G a30, k30⟩
  have b30 := C8.Fun.binds F30.fn rfl (ps := ["body", "is_second", "found"]) fun _ _ _ _ _ _ us hl => match us, hl with | [_, _, _], _ => rfl
  have F31 : C8.Def K mg "checked" (topS 31) _ _ := ⟨⟨_, _, _, _, _, _, _, _, _, _, rfl, l31, c31h⟩, PySem.W.mg_of X G a31, k31⟩
  have b31 := C8.Fun.binds F31.fn rfl (ps := ["program"]) fun _ _ _ _ _ _ us hl => match us, hl with | [_], _ => rfl
  have F35 : C8.Def K mg "places" (topS 35) _ _ := ⟨⟨_, _, _, _, _, _, _, _, _, _, rfl, l35, c35h⟩, PySem.W.mg_of X G a35, k35⟩
  have b35 := C8.Fun.binds F35.fn rfl (ps := ["program"]) fun _ _ _ _ _ _ us hl => match us, hl with | [_], _ => rfl
  have F36 : C8.Def K mg "laid_out" (topS 36) _ _ := ⟨⟨_, _, _, _, _, _, _, _, _, _, rfl, l36, c36h⟩, PySem.W.mg_of X G a36, k36⟩
  have b36 := C8.Fun.binds F36.fn rfl (ps := ["program"]) fun _ _ _ _ _ _ us hl => match us, hl with | [_], _ => rfl
  have F37 : C8.Def K mg "layouts" (topS 37) _ _ := ⟨⟨_, _, _, _, _, _, _, _, _, _, rfl, l37, c37h⟩, PySem.W.mg_of X G a37, k37⟩
  have b37 := C8.Fun.binds F37.fn rfl (ps := ["program"]) fun _ _ _ _ _ _ us hl => match us, hl with | [_], _ => rfl
  have F40 : C8.Def K mg "_law_store" (topS 40) _ _ := ⟨⟨_, _, _, _, _, _, _, _, _, _, rfl, l40, c40h⟩, PySem.W.mg_of X G a40, k40⟩
  have b40 := C8.Fun.binds F40.fn rfl (ps := ["cells", "lot", "many"]) fun _ _ _ _ _ _ us hl => match us, hl with | [_, _, _], _ => rfl
  have F41 : C8.Def K mg "_law_pick" (topS 41) _ _ := ⟨⟨_, _, _, _, _, _, _, _, _, _, rfl, l41, c41h⟩, PySem.W.mg_of X G a41, k41⟩
  have b41 := C8.Fun.binds F41.fn rfl (ps := ["store", "many"]) fun _ _ _ _ _ _ us hl => match us, hl with | [_, _], _ => rfl
  have F42 : C8.Def K mg "_law_same" (topS 42) _ _ := ⟨⟨_, _, _, _, _, _, _, _, _, _, rfl, l42, c42h⟩, PySem.W.mg_of X G a42, k42⟩
  have b42 := C8.Fun.binds F42.fn rfl (ps := ["found", "due"]) fun _ _ _ _ _ _ us hl => match us, hl with | [_, _], _ => rfl
  have F43 : C8.Def K mg "_law_names" (topS 43) _ _ := ⟨⟨_, _, _, _, _, _, _, _, _, _, rfl, l43, c43h⟩, PySem.W.mg_of X G a43, k43⟩
  have b43 := C8.Fun.binds F43.fn rfl (ps := ["store", "many", "first"]) fun _ _ _ _ _ _ us hl => match us, hl with | [_, _, _], _ => rfl
  have F44 : C8.Def K mg "_law_body" (topS 44) _ _ := ⟨⟨_, _, _, _, _, _, _, _, _, _, rfl, l44, c44h⟩, PySem.W.mg_of X G a44, k44⟩
  have b44 := C8.Fun.binds F44.fn rfl (ps := ["store", "letters", "names", "room", "deep", "second"]) fun _ _ _ _ _ _ us hl => match us, hl with | [_, _, _, _, _, _], _ => rfl
  have F45 : C8.Def K mg "_law_statement" (topS 45) _ _ := ⟨⟨_, _, _, _, _, _, _, _, _, _, rfl, l45, c45h⟩, PySem.W.mg_of X G a45, k45⟩
  have b45 := C8.Fun.binds F45.fn rfl (ps := ["store", "letters", "names", "room", "deep", "second"]) fun _ _ _ _ _ _ us hl => match us, hl with | [_, _, _, _, _, _], _ => rfl
  have F46 : C8.Def K mg "_law_program" (topS 46) _ _ := ⟨⟨_, _, _, _, _, _, _, _, _, _, rfl, l46, c46h⟩, PySem.W.mg_of X G a46, k46⟩
  have b46 := C8.Fun.binds F46.fn rfl (ps := ["store", "most", "size"]) fun _ _ _ _ _ _ us hl => match us, hl with | [_, _, _], _ => rfl
  have F47 : C8.Def K mg "_law_lay" (topS 47) _ _ := ⟨⟨_, _, _, _, _, _, _, _, _, _, rfl, l47, c47h⟩, PySem.W.mg_of X G a47, k47⟩
  have b47 := C8.Fun.binds F47.fn rfl (ps := ["program", "body", "told", "found", "seconds"]) fun _ _ _ _ _ _ us hl => match us, hl with | [_, _, _, _, _], _ => rfl
  have F48 : C8.Def K mg "_law_places" (topS 48) _ _ := ⟨⟨_, _, _, _, _, _, _, _, _, _, rfl, l48, c48h⟩, PySem.W.mg_of X G a48, k48⟩
  have b48 := C8.Fun.binds F48.fn rfl (ps := ["program"]) fun _ _ _ _ _ _ us hl => match us, hl with | [_], _ => rfl
  have F49 : C8.Def K mg "law" (topS 49) _ _ := ⟨⟨_, _, _, _, _, _, _, _, _, _, rfl, l49, c49h⟩, PySem.W.mg_of X G a49, k49⟩
  have b49 := C8.Fun.binds F49.fn rfl (ps := ["script"]) fun _ _ _ _ _ _ us hl => match us, hl with | [_], _ => rfl
  have Fm0 : C8.Fun K "__init__" "Layout.__init__" (inClass (topS 38) 0) _ _ := ⟨_, _, _, _, _, _, _, _, _, _, rfl, lm0, cm0h⟩
  have bm0 := C8.Fun.binds Fm0 rfl (ps := ["self", "letters", "names", "body"]) fun _ _ _ _ _ _ us hl => match us, hl with | [_, _, _, _], _ => rfl
  have Fm1 : C8.Fun K "make" "Layout.make" (inClass (topS 38) 1) _ _ := ⟨_, _, _, _, _, _, _, _, _, _, rfl, lm1, cm1h⟩
  have bm1 := C8.Fun.binds Fm1 rfl (ps := ["self", "place"]) fun _ _ _ _ _ _ us hl => match us, hl with | [_, _], _ => rfl
  have Fm2 : C8.Fun K "make_fork" "Layout.make_fork" (inClass (topS 38) 2) _ _ := ⟨_, _, _, _, _, _, _, _, _, _, rfl, lm2, cm2h⟩
  have bm2 := C8.Fun.binds Fm2 rfl (ps := ["self", "nexts", "path"]) fun _ _ _ _ _ _ us hl => match us, hl with | [_, _, _], _ => rfl
  have Fm3 : C8.Fun K "lay" "Layout.lay" (inClass (topS 38) 3) _ _ := ⟨_, _, _, _, _, _, _, _, _, _, rfl, lm3, cm3h⟩
  have bm3 := C8.Fun.binds Fm3 rfl (ps := ["self", "body", "told", "seconds", "path"]) fun _ _ _ _ _ _ us hl => match us, hl with | [_, _, _, _, _], _ => rfl
  have Fm4 : C8.Fun K "statement" "Layout.statement" (inClass (topS 38) 4) _ _ := ⟨_, _, _, _, _, _, _, _, _, _, rfl, lm4, cm4h⟩
  have bm4 := C8.Fun.binds Fm4 rfl (ps := ["self", "statement", "told", "seconds", "path"]) fun _ _ _ _ _ _ us hl => match us, hl with | [_, _, _, _, _], _ => rfl
  have Fm5 : C8.Fun K "loop" "Layout.loop" (inClass (topS 38) 5) _ _ := ⟨_, _, _, _, _, _, _, _, _, _, rfl, lm5, cm5h⟩
  have bm5 := C8.Fun.binds Fm5 rfl (ps := ["self", "inner", "told", "seconds", "path"]) fun _ _ _ _ _ _ us hl => match us, hl with | [_, _, _, _, _], _ => rfl
  have Fm6 : C8.Fun K "leave" "Layout.leave" (inClass (topS 38) 6) _ _ := ⟨_, _, _, _, _, _, _, _, _, _, rfl, lm6, cm6h⟩
  have bm6 := C8.Fun.binds Fm6 rfl (ps := ["self", "seconds"]) fun _ _ _ _ _ _ us hl => match us, hl with | [_, _], _ => rfl
  have B : Bl K mg := ⟨PySem.W.mg_none_of X G zisinstance, PySem.W.mg_none_of X G zint, PySem.W.mg_none_of X G zbool, PySem.W.mg_none_of X G zstr, PySem.W.mg_none_of X G ztuple, PySem.W.mg_none_of X G zlen, PySem.W.mg_none_of X G zabs, PySem.W.mg_none_of X G zall, PySem.W.mg_none_of X G zrange, PySem.W.mg_none_of X G zenumerate, PySem.W.mg_none_of X G zreversed, PySem.W.mg_none_of X G zrepr, ⟨_, PySem.W.mg_of X G mMOST_SIGNS⟩, ⟨_, PySem.W.mg_of X G mMOST_LETTERS⟩, ⟨_, PySem.W.mg_of X G mMOST_PROCEDURES⟩, ⟨_, PySem.W.mg_of X G mLEAST_BODIES⟩, ⟨_, PySem.W.mg_of X G mMOST_BODIES⟩, ⟨_, PySem.W.mg_of X G mMOST_IN_BODY⟩, ⟨_, PySem.W.mg_of X G mMOST_STATEMENTS⟩, ⟨_, PySem.W.mg_of X G mLONGEST_CHAIN⟩, ⟨_, PySem.W.mg_of X G mMOST_PLACES⟩, ⟨_, PySem.W.mg_of X G mS⟩, ⟨_, PySem.W.mg_of X G mW⟩, ⟨kw, PySem.W.mg_of X G mK, fun H => .inr ⟨_, itkw, nkw, lK, rfl, rfl, wK, vK⟩⟩, ⟨en, PySem.W.mg_of X G mE, fun H => .inr ⟨_, iten, nen, lE, rfl, rfl, wE, vE⟩⟩⟩
  have T : Txt K mg CL := ⟨⟨pgC, hdC, poC, saC⟩, n1, n2, n3, n4, n5⟩
  have tb12 := PySem.W.tab_of TT X t412 (in_kit a12 l12 t112 t212)
  have tb21 := PySem.W.tab_of TT X t421 (in_kit a21 l21 t121 t221)
  refine ⟨[(c12, T12), (c21, T21)], ?hT, ?nT, ?hC, fun base s H a ns tabs e0 free sq => ?run⟩
  case hT =>
    intro p hp
    rcases List.mem_cons.mp hp with rfl | hp
    · exact tb12.2
    · cases List.mem_singleton.mp hp
      exact tb21.2
  case nT =>
    intro p hp
    rcases List.mem_cons.mp hp with rfl | hp
    · exact t312
    · cases List.mem_singleton.mp hp
      exact t321
  case hC =>
    intro p hp
    rcases List.mem_cons.mp hp with rfl | hp
    · exact tb12.1
    · cases List.mem_singleton.mp hp
      exact tb21.1
  case run =>
    have hTs : Tbs [T12, T21] H := fun T' hT' => by
      rcases List.mem_cons.mp hT' with rfl | hT'
      · exact ⟨#[], free (c12, _) (by simp), trivial⟩
      · cases List.mem_singleton.mp hT'
        exact ⟨#[], free (c21, _) (by simp), trivial⟩
    have c_row := ok_is_row (P := l.prog) (w := w) (base := base) F6 b6 B
    have f_name := ok_is_name (P := l.prog) (w := w) (Ts := [T12, T21]) (T := T12) l12 c12h (tabs (c12, T12) (by simp)) (by simp) B
    have c_name : C8.Cal l.prog w K mg base 4 "is_name" (spName K [T12, T21]) [] := ⟨_, _, _, _, f_name, F12.mgf, k12, b12, .nil⟩
    have c_bod := ok_bodies_of (P := l.prog) (w := w) (base := base) F24 b24 B
    have c_stm := ok__is_statement F23 b23 B c_row c_name
    have c_bods := ok__are_bodies F22 b22 B c_row c_stm c_bod
    have f_prog := ok_is_program (P := l.prog) (w := w) (Ts := [T12, T21]) (T := T21) l21 c21h (tabs (c21, T21) (by simp)) (by simp) B c_row c_name c_bods
    have c_prog : C8.Cal l.prog w K mg base 8 "is_program" (spProg K [T12, T21]) [] := ⟨_, _, _, _, f_prog, F21.mgf, k21, b21, .nil⟩
    have c_want := ok_want_program F25 b25 B c_prog
    have c_fdT := ok_fdT (P := l.prog) (w := w) (base := base) F28 b28 B
    have c_fdL := ok_fdL (P := l.prog) (w := w) (base := base) F28 b28 B
    have c_fs := fs_all F30 b30 B c_bod 13
    have c_bf := ok__body_fault F29 b29 B c_fs
    have c_check := ok_check F27 b27 B c_want c_fdT c_fdL c_bf
    have c_checked := ok_checked F31 b31 B c_check
    have c_make := okm_make (P := l.prog) (w := w) (base := base) T ⟨am1, im1, km1⟩ Fm1 bm1 B
    have c_mf := okm_make_fork T ⟨am2, im2, km2⟩ Fm2 bm2 B c_make
    have c_b0 := lay0 T B ⟨am3, im3, km3⟩ Fm3 bm3 ⟨am4, im4, km4⟩ Fm4 bm4 ⟨am5, im5, km5⟩ Fm5 bm5 c_make c_mf 13
    have c_leave := okm_leave T ⟨am6, im6, km6⟩ Fm6 bm6 B c_b0
    have c_b1 := lay1 T B ⟨am3, im3, km3⟩ Fm3 bm3 ⟨am4, im4, km4⟩ Fm4 bm4 ⟨am5, im5, km5⟩ Fm5 bm5 c_make c_mf c_leave 13
    have c_init := okm_init T ⟨mkC, am0, im0, kcC⟩ (PySem.W.mg_of X G mL) Fm0 bm0 B c_b1
    have c_ls := ok_layouts F37 b37 B c_init T
    have c_lo := ok_laid_out F36 b36 B c_ls T
    have f_pl := fn_places F35 B c_checked c_lo
    have c_pl : C8.Cal l.prog w K mg base 87 "places" (spPl K [T12, T21]) [] := ⟨_, _, _, _, f_pl, F35.mgf, k35, b35, .nil⟩
    have c_store := ok__law_store (P := l.prog) (w := w) (base := base) F40 b40 B
    have c_pick := ok__law_pick (P := l.prog) (w := w) (base := base) F41 b41 B
    have c_same := same_all (P := l.prog) (w := w) (base := base) F42 b42 B 6
    have c_names := ok__law_names F43 b43 B c_pick
    have c_body := drw F44 b44 F45 b45 B c_pick 7
    have c_program := ok__law_program F46 b46 B c_pick c_names c_body
    have c_l0 := ll0 (P := l.prog) (w := w) (base := base) F47 b47 B 13
    have c_l1 := ll1 F47 b47 B c_l0 13
    have c_lp := ok__law_places F48 b48 B c_l1
    refine ok_law F49.fn B c_store c_program c_lp c_same c_pl f_pl F35.mgf k35 ?kb e0 (.of_eq rfl) sq hTs
    refine ⟨fun s us ws _ hl => ?_, fun r rz => r.append rz⟩
    match us, ws, hl with
    | [], [_], _ => exact .of_eq rfl
    | [_], [], _ => exact .of_eq rfl
    | [], [], hl => cases hl
    | [_], _ :: _, hl => simp at hl
    | [], _ :: _ :: _, hl => simp at hl
    | _ :: _ :: _, _, hl => simp at hl
end K12


open PySem PySem.W PyProof.Rows
set_option maxRecDepth 100000 in
set_option maxHeartbeats 0 in
theorem PySem.Challenge.cw_undoneall_k12_whole_places_holds : PySem.Challenge.rw_undoneall_k12_whole_places.Holds := by
  w_on; o_law; k_head; (case hw => w_witness2)
  k_fill
  refine K12.walk (l := PySem.Challenge.rw_undoneall_k12_whole_places) (n := 63) (x := "script") rfl (by decide) rfl (fun w h Y => PySem.W.kIn_of Y) ?F
  case F =>
    intro w lo mean mg mb fa h TT KX hmg
    refine' K12.all_mk TT KX hmg ?a6 ?l6 ?c6h ?k6 ?a12 ?l12 ?c12h ?k12 ?a21 ?l21 ?c21h ?k21 ?a22 ?l22 ?c22h ?k22 ?a23 ?l23 ?c23h ?k23 ?a24 ?l24 ?c24h ?k24 ?a25 ?l25 ?c25h ?k25 ?a27 ?l27 ?c27h ?k27 ?a28 ?l28 ?c28h ?k28 ?a29 ?l29 ?c29h ?k29 ?a30 ?l30 ?c30h ?k30 ?a31 ?l31 ?c31h ?k31 ?a35 ?l35 ?c35h ?k35 ?a36 ?l36 ?c36h ?k36 ?a37 ?l37 ?c37h ?k37 ?a40 ?l40 ?c40h ?k40 ?a41 ?l41 ?c41h ?k41 ?a42 ?l42 ?c42h ?k42 ?a43 ?l43 ?c43h ?k43 ?a44 ?l44 ?c44h ?k44 ?a45 ?l45 ?c45h ?k45 ?a46 ?l46 ?c46h ?k46 ?a47 ?l47 ?c47h ?k47 ?a48 ?l48 ?c48h ?k48 ?a49 ?l49 ?c49h ?k49 ?am0 ?im0 ?lm0 ?cm0h ?km0 ?am1 ?im1 ?lm1 ?cm1h ?km1 ?am2 ?im2 ?lm2 ?cm2h ?km2 ?am3 ?im3 ?lm3 ?cm3h ?km3 ?am4 ?im4 ?lm4 ?cm4h ?km4 ?am5 ?im5 ?lm5 ?cm5h ?km5 ?am6 ?im6 ?lm6 ?cm6h ?km6 ?zisinstance ?zint ?zbool ?zstr ?ztuple ?zlen ?zabs ?zall ?zrange ?zenumerate ?zreversed ?zrepr ?mMOST_SIGNS ?mMOST_LETTERS ?mMOST_PROCEDURES ?mLEAST_BODIES ?mMOST_BODIES ?mMOST_IN_BODY ?mMOST_STATEMENTS ?mLONGEST_CHAIN ?mMOST_PLACES ?mS ?mW ?mK ?mE ?mL ?lK ?lE ?pgC ?hdC ?poC ?saC ?mkC ?kcC ?n1 ?n2 ?n3 ?n4 ?n5 ?vK ?vE ?wK ?wE ?t112 ?t212 ?t312 ?t412 ?t121 ?t221 ?t321 ?t421
    (case mL => k_is)
    (case a6 => k_is)
    (case l6 => k_is)
    (case c6h => k_is)
    (case k6 => k_is)
    (case a12 => k_is)
    (case l12 => k_is)
    (case c12h => k_is)
    (case k12 => k_is)
    (case a21 => k_is)
    (case l21 => k_is)
    (case c21h => k_is)
    (case k21 => k_is)
    (case a22 => k_is)
    (case l22 => k_is)
    (case c22h => k_is)
    (case k22 => k_is)
    (case a23 => k_is)
    (case l23 => k_is)
    (case c23h => k_is)
    (case k23 => k_is)
    (case a24 => k_is)
    (case l24 => k_is)
    (case c24h => k_is)
    (case k24 => k_is)
    (case a25 => k_is)
    (case l25 => k_is)
    (case c25h => k_is)
    (case k25 => k_is)
    (case a27 => k_is)
    (case l27 => k_is)
    (case c27h => k_is)
    (case k27 => k_is)
    (case a28 => k_is)
    (case l28 => k_is)
    (case c28h => k_is)
    (case k28 => k_is)
    (case a29 => k_is)
    (case l29 => k_is)
    (case c29h => k_is)
    (case k29 => k_is)
    (case a30 => k_is)
    (case l30 => k_is)
    (case c30h => k_is)
    (case k30 => k_is)
    (case a31 => k_is)
    (case l31 => k_is)
    (case c31h => k_is)
    (case k31 => k_is)
    (case a35 => k_is)
    (case l35 => k_is)
    (case c35h => k_is)
    (case k35 => k_is)
    (case a36 => k_is)
    (case l36 => k_is)
    (case c36h => k_is)
    (case k36 => k_is)
    (case a37 => k_is)
    (case l37 => k_is)
    (case c37h => k_is)
    (case k37 => k_is)
    (case a40 => k_is)
    (case l40 => k_is)
    (case c40h => k_is)
    (case k40 => k_is)
    (case a41 => k_is)
    (case l41 => k_is)
    (case c41h => k_is)
    (case k41 => k_is)
    (case a42 => k_is)
    (case l42 => k_is)
    (case c42h => k_is)
    (case k42 => k_is)
    (case a43 => k_is)
    (case l43 => k_is)
    (case c43h => k_is)
    (case k43 => k_is)
    (case a44 => k_is)
    (case l44 => k_is)
    (case c44h => k_is)
    (case k44 => k_is)
    (case a45 => k_is)
    (case l45 => k_is)
    (case c45h => k_is)
    (case k45 => k_is)
    (case a46 => k_is)
    (case l46 => k_is)
    (case c46h => k_is)
    (case k46 => k_is)
    (case a47 => k_is)
    (case l47 => k_is)
    (case c47h => k_is)
    (case k47 => k_is)
    (case a48 => k_is)
    (case l48 => k_is)
    (case c48h => k_is)
    (case k48 => k_is)
    (case a49 => k_is)
    (case l49 => k_is)
    (case c49h => k_is)
    (case k49 => k_is)
    (case am0 => k_is)
    (case im0 => k_is)
    (case lm0 => k_is)
    (case cm0h => k_is)
    (case km0 => k_is)
    (case am1 => k_is)
    (case im1 => k_is)
    (case lm1 => k_is)
    (case cm1h => k_is)
    (case km1 => k_is)
    (case am2 => k_is)
    (case im2 => k_is)
    (case lm2 => k_is)
    (case cm2h => k_is)
    (case km2 => k_is)
    (case am3 => k_is)
    (case im3 => k_is)
    (case lm3 => k_is)
    (case cm3h => k_is)
    (case km3 => k_is)
    (case am4 => k_is)
    (case im4 => k_is)
    (case lm4 => k_is)
    (case cm4h => k_is)
    (case km4 => k_is)
    (case am5 => k_is)
    (case im5 => k_is)
    (case lm5 => k_is)
    (case cm5h => k_is)
    (case km5 => k_is)
    (case am6 => k_is)
    (case im6 => k_is)
    (case lm6 => k_is)
    (case cm6h => k_is)
    (case km6 => k_is)
    (case zisinstance => k_is)
    (case zint => k_is)
    (case zbool => k_is)
    (case zstr => k_is)
    (case ztuple => k_is)
    (case zlen => k_is)
    (case zabs => k_is)
    (case zall => k_is)
    (case zrange => k_is)
    (case zenumerate => k_is)
    (case zreversed => k_is)
    (case zrepr => k_is)
    (case mMOST_SIGNS => k_is)
    (case mMOST_LETTERS => k_is)
    (case mMOST_PROCEDURES => k_is)
    (case mLEAST_BODIES => k_is)
    (case mMOST_BODIES => k_is)
    (case mMOST_IN_BODY => k_is)
    (case mMOST_STATEMENTS => k_is)
    (case mLONGEST_CHAIN => k_is)
    (case mMOST_PLACES => k_is)
    (case mS => k_is)
    (case mW => k_is)
    (case mK => k_is)
    (case mE => k_is)
    (case lK => k_is)
    (case lE => k_is)
    (case pgC => k_is)
    (case hdC => k_is)
    (case poC => k_is)
    (case saC => k_is)
    (case mkC => k_is)
    (case kcC => k_is)
    (case n1 => k_is)
    (case n2 => k_is)
    (case n3 => k_is)
    (case n4 => k_is)
    (case n5 => k_is)
    (case t112 => k_is)
    (case t121 => k_is)
    (case vK => exact .cons ⟨_, rfl⟩ (.cons ⟨_, rfl⟩ (.cons ⟨_, rfl⟩ (.cons ⟨_, rfl⟩ (.cons ⟨_, rfl⟩ (.cons ⟨_, rfl⟩ (.cons ⟨_, rfl⟩ (.cons ⟨_, rfl⟩ (.cons ⟨_, rfl⟩ (.cons ⟨_, rfl⟩ (.cons ⟨_, rfl⟩ .nil)))))))))))
    (case vE => exact .cons ⟨_, rfl⟩ .nil)
    (case wK => show 11 ≤ _; decide)
    (case wE => show 1 ≤ _; decide)
    (case t212 => rfl)
    (case t312 => first | rfl | kernel_rfl | decide)
    (case t412 => rfl)
    (case t221 => rfl)
    (case t321 => first | rfl | kernel_rfl | decide)
    (case t421 => rfl)

