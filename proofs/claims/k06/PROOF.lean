import PyProof.Rows.All
import Wide.All
import OpenK.AllK
import Wide.FinOn
import HandS.ForMost
import HandS.Codes
import HandS.IsInst
import HandS.Wide
import HandS.Style
import HandS.Conv
import HandS.EndTab
import HandS.Star
import HandS.Strs
import HandS.Rev
import HandS.AnyAll
import HandS.Text
import HandS.GenOver
import PyProof.GenQ
import HandS.Lambda
import HandS.Iter
import HandS.TupMul
import KE.GoesMore
import KE.GoesEnum
import HandS.TupAny
import PyProof.DictMoreH
import HandS.Dict
import HandS.Zip
import PySem.Challenge.RW_undoneall_k06_whole_names_exchanged
set_option Elab.async false
set_option linter.all false
set_option maxRecDepth 100000
set_option maxHeartbeats 4000000
/-! all(elt for target in iter), whatever PI walks: the element is judged in the generator's own frame -/
namespace UG
open PySem PySem.Spec PyProof.Rows L2

abbrev gcx (X : Cx) (A : Around) (N : List Str) (s : Shared) (H : Hp) (env : Env) (fp : List Addr) : Cx :=
  { X with
    A := A, N := N, s_0 := s, H_0 := H, env := env, outer := X.stack,
    stack := env :: X.stack, ex := fp, fn := fun _ => false,
    calm := true, pn := [], xe := fun _ _ => False }

structure GenSc (scope : Scope) : Prop where
  kind : scope.kind = .function
  co : scope.isCoroutine = false
  cell : ∀ y ∈ scope.names, y.2 ≠ .cell
  free : ∀ y ∈ scope.names, y.2 ≠ .free
  dot : scope.names.lookup (".0" : Str) = some NameKind.local

/-- the generator's environment -/
abbrev gev (X : Cx) (scope : Scope) (C : Addr) (code : Value) : Env :=
  genEnv scope (cloFrom X.env.cells scope.names []) C code builtinsNs X.env

section
variable {X : Cx} {pins : List (Addr × Obj)} {σ : L2.St} {H : Hp} {s : Shared} {scope : Scope}

theorem gev_cells (S : GenSc scope) {C : Addr} {code : Value} {x : Str} {c : Addr}
    (e : (gev X scope C code).cells.lookup x = some c) : False := by
  have m := PySem.mem_of_lookup e
  rcases cloFrom_mem (show (x, c) ∈ cloFrom X.env.cells scope.names [] from m) with z | ⟨z, _⟩
  · cases z
  · exact S.free _ z rfl

theorem gev_kind (S : GenSc scope) {C : Addr} {code : Value} {x : Str}
    (h : (gev X scope C code).kindOf x = some .cell ∨ (gev X scope C code).kindOf x = some .free) : False := by
  rcases h with h | h
  · exact S.cell _ (PySem.mem_of_lookup (show scope.names.lookup x = some NameKind.cell from h)) rfl
  · exact S.free _ (PySem.mem_of_lookup (show scope.names.lookup x = some NameKind.free from h)) rfl

theorem stk_lt (I : Inv X pins σ H s) {b : Addr} (hb : b ∈ frs X.stack) : b < s.heap.objs.size := by
  rcases List.mem_cons.mp (I.stkSub b hb) with e | z
  · rw [e]; exact I.lt
  · rcases Nat.lt_or_ge b s.heap.objs.size with h | h
    · exact h
    · exact absurd z (I.nofs h)

/-- the generator's frame, as it begins -/
theorem gen_begin (I : Inv X pins σ H s) (S : GenSc scope) {fp : List Addr} {N : List Str} {A' : Around} {code : Value} {s5 : Shared} {a : Addr} {go : Obj} {m : Str → Option Value}
    (hfp : ∀ b ∈ fp, FpOk X pins H b ∧ b < s.heap.objs.size) (hhd : A'.handled = none)
    (hfr : A'.frames = some (gev X scope s.heap.objs.size code :: X.stack))
    (kp : ∀ b o, s.heap.get? b = some o → s5.heap.get? b = some o) (hos : s5.os = s.os) (hb5 : AllBare s5.gens)
    (hns : s5.heap.Ns s.heap.objs.size m) (ha : s.heap.objs.size < a) (hgo : s5.heap.get? a = some go) (hdat : ∀ v, go.data ≠ .cell v) :
    Inv (gcx X A' N s H (gev X scope s.heap.objs.size code) fp) [(a, go)] (N.map fun _ => none) H s5 := by
  have okG : (gcx X A' N s H (gev X scope s.heap.objs.size code) fp).Ok := by
    refine ⟨I.ok.mod, S.kind, I.ok.glob, rfl, Nat.le_refl _, ?_, ?_, ?_, fun _ => hhd, hfr, .inr ⟨rfl, rfl⟩, ?_, I.bs, Nat.le_trans I.ok.bsz I.sz, ?_, ?_, I.stack, I.stkFree⟩
    · intro x y c e _
      exact (gev_cells S e).elim
    · intro x h
      exact (gev_kind S h).elim
    · intro x c h _
      cases h
    · intro b hb
      refine ⟨Nat.ne_of_lt (hfp b hb).2, ?_⟩
      intro x c e
      exact (gev_cells S e).elim
    · intro b o e hb
      rcases (hfp b hb).1.2.2.2.1 with z | z
      · exact I.ok.noex b o e z
      · have h1 := Heap.lt_size e
        have h2 := I.ok.bsz
        exact absurd (Nat.lt_of_lt_of_le h1 (Nat.le_trans h2 z)) (Nat.lt_irrefl _)
    · intro b hb z
      rcases List.mem_cons.mp (I.stkSub b z) with y | y
      · exact (hfp b hb).1.2.1 y
      · exact (hfp b hb).1.2.2.1 y
  refine ⟨okG, hos, hb5, Un.kept kp, ⟨m, hns, ?_⟩, ?_, I.hok.fresh (Nat.le_refl _), ?_, ?_, I.hok.kept kp, ?_⟩
  · intro i x v _ e _
    rw [List.getElem?_map] at e
    cases q : (gcx X A' N s H (gev X scope s.heap.objs.size code) fp).N[i]? with
    | none =>
      have q' : N[i]? = none := q
      rw [q'] at e; cases e
    | some y =>
      have q' : N[i]? = some y := q
      rw [q'] at e; cases e
  · intro x c e
    exact (gev_cells S e).elim
  · intro x c e
    exact (gev_cells S e).elim
  · intro p hp
    have e : p = (a, go) := by simpa using hp
    subst e
    refine ⟨hgo, I.hok.fresh (Nat.le_of_lt ha), Nat.ne_of_gt ha, ?_, hdat⟩
    intro z
    exact absurd (Nat.lt_trans ha (stk_lt I z)) (Nat.lt_irrefl _)
  · show (N.map _).length = N.length
    rw [List.length_map]

/-- what is held of the callers' frame when the generator's is left -/
theorem gen_back {fp : List Addr} {N : List Str} {A' : Around} {env : Env} {s' : Shared} {H' : Hp} {σ' : L2.St} {pg : List (Addr × Obj)}
    (I : Inv X pins σ H s) (hfp : ∀ b ∈ fp, FpOk X pins H b) (J : Inv (gcx X A' N s H env fp) pg σ' H' s') : Inv X pins σ H' s' :=
  I.call' (ch := fp) J.os J.base J.hok J.bare fun b hb => by
    obtain ⟨_, h1, _, h3, h4, h5⟩ := hfp b hb
    exact ⟨h3, h1, h4, h5⟩
end
end UG


set_option Elab.async false
set_option linter.all false
set_option maxRecDepth 100000
set_option maxHeartbeats 4000000
namespace UG
open PySem PySem.Spec PyProof.Rows L2

/-- the generator's loop code -/
abbrev geLoop (elt tg iter : Expr) (scope : Scope) (gpos : Pos) (it : Addr) (env : Env) : Code :=
  .compLoop (.GeneratorExp elt [⟨tg, iter, [], 0⟩] scope gpos) 0 (.ref it) .none env
abbrev geStart (elt tg iter : Expr) (scope : Scope) (gpos : Pos) (it : Addr) (env : Env) : Code :=
  .compStart (.GeneratorExp elt [⟨tg, iter, [], 0⟩] scope gpos) 0 (.ref it) .none env

theorem over_loopG {A : Around} {elt tg iter : Expr} {scope : Scope} {gpos : Pos} {it : Addr} {env : Env} :
    A.over (geLoop elt tg iter scope gpos it env) [] = A.deeper env := by
  obtain ⟨hd, d, fr, gs, u⟩ := A
  simp [Around.over, Around.deeper, marksOver, frameCount, unitsOf, envsOf, guardsOf, pushEnvs, pushGuards, Code.envs, Code.env?, Code.isFrame, Code.guards, Code.isGuard, Code.weight, Code.frames, Code.isCreation, Code.isCaller, Code.cUnits]
theorem over_startG {A : Around} {elt tg iter : Expr} {scope : Scope} {gpos : Pos} {it : Addr} {env : Env} :
    A.over (geStart elt tg iter scope gpos it env) [] = A.deeper env := by
  obtain ⟨hd, d, fr, gs, u⟩ := A
  simp [Around.over, Around.deeper, marksOver, frameCount, unitsOf, envsOf, guardsOf, pushEnvs, pushGuards, Code.envs, Code.env?, Code.isFrame, Code.guards, Code.isGuard, Code.weight, Code.frames, Code.isCreation, Code.isCaller, Code.cUnits]

/-- what the reading asks of the loop -/
structure Way (J : It) (g : TG) (te : TE) (σ0 : L2.St) (Q : VK) (top : Nat) (W : Nat → Hp → Prop) : Prop where
  turn : ∀ i H, W i H → (J.stop i H ∧ Q (.bl true) H) ∨ (i < top ∧ J.go i H ∧ ∀ x H', J.yld i H x H' → g x σ0 H' fun σ2 H2 => te σ2 H2 fun y H3 =>
    ∃ b : Bool, y = .bl b ∧ if b = true then W (i + 1) H3 else Q (.bl false) H3)

section
variable {X : Cx} {N : List Str} {s4 : Shared} {H4 : Hp} {env : Env} {fp : List Addr} {a : Addr} {go : Obj}
/-- the protocol: a truth comes out; behind a True one the walk goes on -/
def GY (X : Cx) (B : Around) (N : List Str) (s4 : Shared) (H4 : Hp) (env : Env) (fp : List Addr) (a : Addr) (go : Obj) (Q : VK) : Protocol := fun m s₀ v s kap =>
  ∃ (b : Bool) (H3 : Hp) (σ3 : L2.St), v = .bool b ∧ Inv (gcx X B N s4 H4 env fp) [(a, go)] σ3 H3 s ∧ (b = false → Q (.bl false) H3) ∧
    (b = true → ∀ s'' : Shared, s''.os = s.os → AllBare s''.gens → s''.heap = s.heap → kap (.send .none) s'')
def GP (X : Cx) (B : Around) (N : List Str) (s4 : Shared) (H4 : Hp) (env : Env) (fp : List Addr) (a : Addr) (go : Obj) (Q : VK) : Nat → Shared → Shared → Prop := fun _ _ s1 =>
  ∃ (H3 : Hp) (σ3 : L2.St), Inv (gcx X B N s4 H4 env fp) [(a, go)] σ3 H3 s1 ∧ Q (.bl true) H3

theorem inv_same {X' : Cx} {pins : List (Addr × Obj)} {σ : L2.St} {H : Hp} {s s'' : Shared} (I : Inv X' pins σ H s) (h1 : s''.os = s.os) (h2 : AllBare s''.gens) (h3 : s''.heap = s.heap) : Inv X' pins σ H s'' := by
  obtain ⟨hh, g, d, t, o⟩ := s''
  cases h1
  cases h3
  exact ⟨I.ok, I.os, h2, I.base, I.loc, I.cell, I.free, I.freeC, I.pin, I.hok, I.len⟩

theorem seg_walk {B : Around} {elt tg iter : Expr} {scope : Scope} {gpos : Pos} {it : Addr} {tn : Nat → Heap → Prop} {J : It} {g : TG} {te : TE} {Q : VK} {top : Nat} {W : Nat → Hp → Prop}
    (hco : env.scope.isCoroutine = false)
    (T : Turn X.prog X.w X.K tg J fp it tn) (hg : PG (gcx X (B.deeper env) N s4 H4 env fp) tg g) (he : PE (gcx X (B.deeper env) N s4 H4 env fp) elt te)
    (hfa : a ∉ fp) (way : Way J g te (N.map fun _ => none) Q top W) :
    ∀ (n i : Nat) (s₀ s : Shared) (H : Hp), top - i ≤ n → Inv (gcx X (B.deeper env) N s4 H4 env fp) [(a, go)] (N.map fun _ => none) H s → tn i s.heap → (∀ b ∈ fp, H b = none) → W i H →
      ∃ k, k ≤ n ∧ Seg (model X.prog X.w) B (fun n s₀ r s₁ => r = .ok .next ∧ GP X (B.deeper env) N s4 H4 env fp a go Q n s₀ s₁) (GY X (B.deeper env) N s4 H4 env fp a go Q) n s₀
        (geLoop elt tg iter scope gpos it env) ((model X.prog X.w).den (geLoop elt tg iter scope gpos it env)) [] s := by
  have stat : ∀ {pl : List (Addr × Obj)} {σ' : L2.St} {H' : Hp} {s' : Shared}, Inv (gcx X (B.deeper env) N s4 H4 env fp) pl σ' H' s' → (∀ b ∈ fp, H' b = none) → (∀ p ∈ pl, p.1 = a) → ∀ b ∈ fp, FpOk (gcx X (B.deeper env) N s4 H4 env fp) pl H' b := by
    intro pl σ' H' s' I' hn hpl b hb
    refine ⟨hn b hb, (I'.ok.exf b hb).1, I'.ok.exfs b hb, .inl hb, (I'.ok.exf b hb).2, ?_⟩
    intro p hp z
    have hp' : p ∈ pl := by simpa using hp
    rw [hpl p hp'] at z
    exact hfa (z ▸ hb)
  have one : ∀ p ∈ [(a, go)], p.1 = a := by
    intro p hp
    have e : p = (a, go) := by simpa using hp
    rw [e]
  intro n
  induction n with
  | zero =>
    intro i s₀ s H hi I st nf w
    refine ⟨0, Nat.le_refl _, ?_⟩
    rcases way.turn i H w with ⟨stop, q⟩ | ⟨lt, _⟩
    · show Seg _ B _ _ _ s₀ _ ((compTurn (.GeneratorExp elt [⟨tg, iter, [], 0⟩] scope gpos) 0 (.ref it) .none env).onRaise (leaving env)) [] s
      rw [compTurn_gen, Sem.onRaise_eq_wrap]
      refine seg_bind_wrap (wpAny_standAt ?_)
      refine seg_bind_wrap ?_
      rw [over_loopG]
      have td := T.done (gcx X (B.deeper env) N s4 H4 env fp) rfl rfl rfl rfl i [(a, go)] s _ H (fun _ _ => False) I (stat I nf one) st stop
      refine thnF td ?_
      rintro r s6 ⟨rfl, I6⟩
      exact seg_end (.ok .next) ⟨rfl, H, _, I6, q⟩
    · omega
  | succ n ih =>
    intro i s₀ s H hi I st nf w
    refine ⟨n + 1, Nat.le_refl _, ?_⟩
    show Seg _ B _ _ _ s₀ _ ((compTurn (.GeneratorExp elt [⟨tg, iter, [], 0⟩] scope gpos) 0 (.ref it) .none env).onRaise (leaving env)) [] s
    rw [compTurn_gen, Sem.onRaise_eq_wrap]
    refine seg_bind_wrap (wpAny_standAt ?_)
    refine seg_bind_wrap ?_
    rw [over_loopG]
    rcases way.turn i H w with ⟨stop, q⟩ | ⟨lt, jgo, step⟩
    · have td := T.done (gcx X (B.deeper env) N s4 H4 env fp) rfl rfl rfl rfl i [(a, go)] s _ H (fun _ _ => False) I (stat I nf one) st stop
      refine thnF td ?_
      rintro r s6 ⟨rfl, I6⟩
      exact seg_end (.ok .next) ⟨rfl, H, _, I6, q⟩
    · have ti := T.item (gcx X (B.deeper env) N s4 H4 env fp) rfl rfl rfl rfl i [(a, go)] s _ H (fun _ _ => False) I (stat I nf one) st jgo
      refine thnF ti ?_
      rintro r s6 ⟨u, rfl, h6⟩
      refine seg_bind_wrap ?_
      rw [over_loopG]
      refine thnF h6 ?_
      rintro _ s7 ⟨x, H7, I7, r7, y7, st7, n7⟩
      have I7' := I7.pinned (stat I7 n7 one) (T.obj _ _ st7)
      refine seg_bind_wrap ?_
      rw [over_loopG]
      refine thnF (hg.run _ s7 _ H7 x u _ I7' r7 (step x H7 y7)) ?_
      rintro _ s8 ⟨σ8, H8, I8, q8⟩
      simp only [List.forIn_nil]
      refine seg_bind_wrap (wpAny_pure ?_)
      simp only [if_true]
      have hy : ∀ v, yieldOut env v = yieldValue v := fun v => by simp only [yieldOut, hco, Bool.false_eq_true, if_false]
      simp only [hy]
      rw [Sem.bind_eq_wrap', Sem.bind_eq_wrap', Sem.wrap_wrap, Sem.wrap_wrap]
      refine seg_wrap ?_
      rw [over_loopG]
      refine thnF (he.run _ s8 σ8 H8 _ I8 q8) ?_
      rintro yv s9 ⟨y, H9, I9, r9, b, rfl, q9⟩
      have ey : yv = Value.bool b := r9
      subst ey
      -- the iterator's objects stand as they stood
      have pin' : ∀ c ∈ fp, ∀ o, s7.heap.get? c = some o → s9.heap.get? c = some o ∧ H9 c = none := fun c hc o e =>
        let z := I9.pin (c, o) (List.mem_append_right _ (List.mem_append_right _ (mem_pinsAt hc e)))
        ⟨z.1, z.2.1⟩
      have st9 : tn (i + 1) s9.heap := T.keep _ _ _ st7 fun c hc o e => (pin' c hc o e).1
      have n9 : ∀ c ∈ fp, H9 c = none := fun c hc => by
        obtain ⟨o, e, _⟩ := T.obj _ _ st7 c hc
        exact (pin' c hc o e).2
      have I9' : Inv (gcx X (B.deeper env) N s4 H4 env fp) [(a, go)] σ8 H9 s9 := I9.unpinned (pins := [(a, go)])
      refine seg_at (seg_yield rfl rfl rfl ⟨b, H9, σ8, rfl, I9', fun hb => ?_, fun hb s'' h1 h2 h3 => ?_⟩)
      · rw [hb] at q9
        simpa using q9
      · rw [hb] at q9
        have q9' : W (i + 1) H9 := by simpa using q9
        have Iw : Inv (gcx X (B.deeper env) N s4 H4 env fp) [(a, go)] (N.map fun _ => none) H9 s9 := I9'.weak (by rw [I9'.len, List.length_map]) fun j v e => by
          rw [List.getElem?_map] at e
          cases q : N[j]? with
          | none => rw [q] at e; cases e
          | some y => rw [q] at e; cases e
        obtain ⟨k, _, z⟩ := ih (i + 1) s'' s'' H9 (by omega) (inv_same Iw h1 h2 h3) (by rw [h3]; exact st9) n9 q9'
        refine seg_again rfl z
end
end UG


set_option Elab.async false
set_option linter.all false
set_option maxRecDepth 100000
set_option maxHeartbeats 4000000
namespace UG
open PySem PySem.Spec PyProof.Rows L2

section
variable {X : Cx} {N : List Str} {s4 : Shared} {H4 : Hp} {env : Env} {fp : List Addr} {a : Addr} {go : Obj}

theorem bare_set {s : Shared} {g : Nat} {x : GenState} (h : AllBare s.gens) (hx : x.bare = true) : AllBare (s.setGen g x).gens := by
  intro y hy
  have hy' : y ∈ s.gens.setIfInBounds g x := hy
  rcases Array.mem_or_eq_of_mem_setIfInBounds hy' with z | z
  · exact h y z
  · rw [z]; exact hx

theorem get_set {s : Shared} {g : Nat} {x : GenState} (h : g + 1 ≤ (s.setGen g x).gens.size) : (s.setGen g x).gens[g]? = some x := by
  have h1 : (s.setGen g x).gens.size = s.gens.size := GenW.setGen_size s g x
  have h2 : g < s.gens.size := by omega
  show (s.gens.setIfInBounds g x)[g]? = some x
  simp [h2]

/-- the consumer: all's own loop over the generator at a -/
theorem all_turns {A : Around} {g : Nat} {Q : VK} {R : Result → Shared → Prop} (hh : A.handled = none) (hroom : A.depth < recursionLimit)
    (hIG : ∀ (s : Shared), s.heap.get? a = some go → s.heap.IsGen a g)
    (hR : ∀ (b : Bool) (s : Shared) (H3 : Hp) (σ3 : L2.St), Inv (gcx X ((A.in1.in1).deeper env) N s4 H4 env fp) [(a, go)] σ3 H3 s → Q (.bl b) H3 → R (.ok (.ret (.bool b))) s) :
    ∀ (n : Nat) (s : Shared) (gs : GenState) (σ3 : L2.St) (H3 : Hp), s.gens[g]? = some gs → Inv (gcx X ((A.in1.in1).deeper env) N s4 H4 env fp) [(a, go)] σ3 H3 s →
      gs.Goes (model X.prog X.w) A.in1.in1 (fun n s₀ r s₁ => r = .ok .next ∧ GP X ((A.in1.in1).deeper env) N s4 H4 env fp a go Q n s₀ s₁) (GY X ((A.in1.in1).deeper env) N s4 H4 env fp a go Q) n (.send .none) (s.setGen g .running) →
      codeAny (model X.prog X.w) A (.builtin "all.loop" ⟨[.ref a], []⟩) R s := by
  intro n
  induction n with
  | zero =>
    intro s gs σ3 H3 hgs I hgo
    refine codeAny_builtin F.entry_all_loop ?_
    rw [Around.under_plainId F.plain_all_loop _]
    have hsz : g + 1 ≤ s.gens.size := by
      obtain ⟨h1, _⟩ := Array.getElem?_eq_some_iff.mp hgs
      exact h1
    have pa := (I.pin (a, go) (by simp)).1
    show wpAny _ A.in1 (pyNext (.ref a) >>= _) _ _ s
    refine wpAny_bind (GenW.wpAny_gsz hsz ?_)
    refine wpAny_pyNext_genexpQ (P := GP X ((A.in1.in1).deeper env) N s4 H4 env fp a go Q) hh I.nolimit hroom (hIG s pa) hgs hgo ?_ ?_
    · intro v s₁ gs' hb hY hsz1
      obtain ⟨b, H5, σ5, rfl, I5, q1, q2⟩ := hY
      cases b with
      | true => exact (q2 rfl s₁ rfl I5.bare rfl).elim
      | false =>
        refine wpAny_bind (wpAny_holding (wpAny_truthy_bool ?_))
        refine wpAny_bind (wpAny_letGo ?_)
        refine wpAny_bind (wpAny_rule (wpAny_pure ?_))
        exact hR false _ H5 σ5 (inv_same I5 rfl (bare_set I5.bare hb) rfl) (q1 rfl)
    · intro s₁ hp h' hk hsz1
      obtain ⟨H5, σ5, I5, q5⟩ := hp
      refine wpAny_bind (wpAny_rule (wpAny_pure ?_))
      refine hR true _ H5 σ5 ?_ q5
      have I6 := inv_same (s'' := s₁.setGen g .finished) I5 rfl (bare_set I5.bare rfl) rfl
      exact I6.kept (t' := s₁.toks) hk
  | succ n ih =>
    intro s gs σ3 H3 hgs I hgo
    refine codeAny_builtin F.entry_all_loop ?_
    rw [Around.under_plainId F.plain_all_loop _]
    have hsz : g + 1 ≤ s.gens.size := by
      obtain ⟨h1, _⟩ := Array.getElem?_eq_some_iff.mp hgs
      exact h1
    have pa := (I.pin (a, go) (by simp)).1
    show wpAny _ A.in1 (pyNext (.ref a) >>= _) _ _ s
    refine wpAny_bind (GenW.wpAny_gsz hsz ?_)
    refine wpAny_pyNext_genexpQ (P := GP X ((A.in1.in1).deeper env) N s4 H4 env fp a go Q) hh I.nolimit hroom (hIG s pa) hgs hgo ?_ ?_
    · intro v s₁ gs' hb hY hsz1
      obtain ⟨b, H5, σ5, rfl, I5, q1, q2⟩ := hY
      cases b with
      | true =>
        refine wpAny_bind (wpAny_holding (wpAny_truthy_bool ?_))
        refine wpAny_bind (wpAny_letGo ?_)
        simp only [if_true]
        refine wpAny_pure ⟨plainId_quiet F.plain_all_loop _, ?_⟩
        refine ih (s₁.setGen g gs') gs' σ5 H5 (get_set hsz1) (inv_same I5 rfl (bare_set I5.bare hb) rfl) ?_
        exact q2 rfl ((s₁.setGen g gs').setGen g .running) rfl (bare_set (bare_set I5.bare hb) rfl) rfl
      | false =>
        refine wpAny_bind (wpAny_holding (wpAny_truthy_bool ?_))
        refine wpAny_bind (wpAny_letGo ?_)
        refine wpAny_bind (wpAny_rule (wpAny_pure ?_))
        exact hR false _ H5 σ5 (inv_same I5 rfl (bare_set I5.bare hb) rfl) (q1 rfl)
    · intro s₁ hp h' hk hsz1
      obtain ⟨H5, σ5, I5, q5⟩ := hp
      refine wpAny_bind (wpAny_rule (wpAny_pure ?_))
      refine hR true _ H5 σ5 ?_ q5
      have I6 := inv_same (s'' := s₁.setGen g .finished) I5 rfl (bare_set I5.bare rfl) rfl
      exact I6.kept (t' := s₁.toks) hk
end
end UG


set_option Elab.async false
set_option linter.all false
set_option maxRecDepth 100000
set_option maxHeartbeats 4000000
namespace UG
open PySem PySem.Spec PyProof.Rows L2

def tAllG (P : Addr) (wi : TI) (g : TG) (te : TE) (σ0 : L2.St) : TE := fun σ H Q => wi σ H fun J H1 =>
  GxR.TabG H1 P ∧ ∃ (top : Nat) (W : Nat → Hp → Prop), Way J g te σ0 Q top W ∧ ∀ H2, GxR.Tabbed P H1 H2 → W 0 H2

section
variable {X : Cx}
theorem pe_allG {c P : Addr} {elt tg iter : Expr} {p pos gpos : Pos} {scope : Scope} {wi : TI} {g : TG} {te : TE} {N : List Str} {k : Nat}
    (hr : Room (k + 1) X.A) (hg : Gl X "all") (hm : X.mg "all" = none) (hb : bootBuiltins "all" = some (.builtin "all")) (TB : LamX.TabB X.base X.mg c P) (hcode : X.env.code = .ref c)
    (S : GenSc scope) (hi : PI X tg iter wi)
    (hgt : ∀ (A' : Around) (s : Shared) (H : Hp) (C : Addr) (code : Value) (fp : List Addr), Room k A' → PG (gcx X A' N s H (gev X scope C code) fp) tg g)
    (hel : ∀ (A' : Around) (s : Shared) (H : Hp) (C : Addr) (code : Value) (fp : List Addr), Room k A' → PE (gcx X A' N s H (gev X scope C code) fp) elt te)
    (hs : ∀ v, genFold iter X.env v = pure v := by intro _; rfl)
    (he : starEach [.GeneratorExp elt [⟨tg, iter, [], 0⟩] scope gpos] X.env = (false, eval (.GeneratorExp elt [⟨tg, iter, [], 0⟩] scope gpos) X.env) :: starEach [] X.env := by rfl) :
    PE X (.Call (.Name "all" p) [.GeneratorExp elt [⟨tg, iter, [], 0⟩] scope gpos] [] pos) (tAllG P wi g te (N.map fun _ => none)) := by
  refine ⟨fun pins s σ H Q I h => ?_⟩
  refine wpAny_Call_Name_kw (ld_blt I hg hm hb ?_)
  refine PyProof.Rows.callWith_builtin1 ?_ he (by rfl)
  rw [he]
  show wpAny _ _ (spliced ((false, eval (.GeneratorExp elt [⟨tg, iter, [], 0⟩] scope gpos) X.env) :: backTo pos (starEach [] X.env))) _ _ s
  refine Calls.spliced_cons ?_
  have hclos := closure_ok (scope := scope) (env := X.env) fun y hy e => (S.free y hy e).elim
  refine wpAny_GeneratorExp_make S.co hclos S.cell S.dot S.kind (by have := hr.dp; omega) ?_ hs
  refine thn (hi.run pins s σ H _ I h) fun xv s1 hx => thn hx fun itv s2 h2 => ?_
  obtain ⟨it, fp, tn, J, H2, e, I2, T, st2, f2, ⟨ps, hP, ht⟩, top, W, way, w0⟩ := h2
  subst e
  refine ⟨I2.nolimit, ?_⟩
  have hPs : s2.heap.get? P = some { cls := .none, data := .fields ps } := I2.hok P _ hP
  have hPlt : P < s2.heap.objs.size := Heap.lt_size hPs
  have cd : PySem.W.CodeHd s2.heap c P := TB.code.keeps I2.bk
  have szF : ∀ b ∈ fp, b < s2.heap.objs.size := fun b hbf => by
    obtain ⟨o, e, _⟩ := T.obj _ _ st2 b hbf
    exact Heap.lt_size e
  have nPf : ∀ b ∈ fp, b ≠ P := fun b hbf z => by
    have q := (f2 b hbf).1
    rw [z, hP] at q
    cases q
  -- behind the making of the code object
  have cont : ∀ (code : Value) (h3 : Heap) (tk : Nat) (more : Array Value), (∀ b o, b ≠ P → s2.heap.get? b = some o → h3.get? b = some o) → s2.heap.objs.size ≤ h3.objs.size →
      h3.get? P = some { cls := .none, data := .fields (ps ++ more) } → TriplesOk (ps ++ more).toList →
      wpAny (model X.prog X.w) X.A (builtinsFor X.env.globals X.env.builtins) (fun bi s₄ => ∀ h', h'.Ns s₄.heap.objs.size (fun y => if y = (".0" : Str) then some (.ref it) else none) →
        Heap.SameBut s₄.heap.objs.size (s₄.heap.push { cls := .type "frame", data := .dict #[] }) h' →
        wpAny (model X.prog X.w) X.A (spliced (backTo pos (starEach [] X.env))) (fun ws s5 => wpAny (model X.prog X.w) X.A (call (.builtin "all") (.ref h'.objs.size :: ws)) (EP X pins σ Q) X.xe s5) X.xe
          { s₄ with
            gens := s₄.gens.push (.fresh (.compStart (.GeneratorExp elt [⟨tg, iter, [], 0⟩] scope gpos) 0 (.ref it) .none (genEnv scope (cloFrom X.env.cells scope.names []) s₄.heap.objs.size code bi X.env))),
            toks := s₄.toks + 1 + 1 + 1,
            heap := h'.push { cls := .type "generator", data := .fields #[.int s₄.gens.size 0, .str "<genexpr>" (s₄.toks + 1), .str (X.env.qual ++ "<genexpr>") (s₄.toks + 1 + 1)] } }) X.xe { s2 with heap := h3, toks := tk } := by
    intro code h3 tk more k3 sz3 hP3 ht3
    obtain ⟨bm, ob, e1, e2, e3, e4, e5, e6, e7, e8⟩ := TB.bm
    have nsG : h3.Ns X.env.globals X.mg := by
      rw [I2.ok.glob]
      obtain ⟨o, es, ep, ho, r⟩ := I2.mod.glob.keeps I2.bk
      exact ⟨o, es, ep, k3 _ o TB.gP ho, r⟩
    refine wpAny_builtinsFor (m := X.mg) nsG e1 e2 (k3 _ _ e4 (I2.bk _ _ e5)) e6 e7 e8 ?_
    intro h' hn' hsb
    have I4 : Inv X pins σ (upd H2 P (.tbl (ps ++ more))) { s2 with heap := h3, toks := tk } :=
      GxR.inv_tab (g' := s2.gens) (d' := s2.drawn) I2 hP k3 hP3 I2.bare
    generalize hs4 : ({ s2 with heap := h3, toks := tk } : Shared) = s4 at I4 hn' hsb ⊢
    have h4 : s4.heap = h3 := by rw [← hs4]
    have st4 : tn 0 s4.heap := T.keep _ _ _ st2 fun b hbf o e => by rw [h4]; exact k3 b o (nPf b hbf) e
    have f4 : ∀ b ∈ fp, FpOk X pins (upd H2 P (.tbl (ps ++ more))) b ∧ b < s4.heap.objs.size := fun b hbf => by
      refine ⟨⟨by rw [upd_ne (nPf b hbf)]; exact (f2 b hbf).1, (f2 b hbf).2⟩, ?_⟩
      rw [h4]
      exact Nat.lt_of_lt_of_le (szF b hbf) sz3
    have szh : h'.objs.size = s4.heap.objs.size + 1 := by rw [hsb.1, Heap.size_push]
    have kp' : ∀ b o, s4.heap.get? b = some o → h'.get? b = some o := fun b o e => hsb.extBut b o (Nat.ne_of_lt (Heap.lt_size e)) (Heap.get?_push_of_some _ e)
    generalize hgo : ({ cls := .type "generator", data := .fields #[.int s4.gens.size 0, .str "<genexpr>" (s4.toks + 1), .str (X.env.qual ++ "<genexpr>") (s4.toks + 1 + 1)] } : Obj) = go
    generalize hs5 : ({ s4 with
            gens := s4.gens.push (.fresh (.compStart (.GeneratorExp elt [⟨tg, iter, [], 0⟩] scope gpos) 0 (.ref it) .none (genEnv scope (cloFrom X.env.cells scope.names []) s4.heap.objs.size code builtinsNs X.env))),
            toks := s4.toks + 1 + 1 + 1,
            heap := h'.push go } : Shared) = s5
    have h5 : s5.heap = h'.push go := by rw [← hs5]
    have kp5 : ∀ b o, s4.heap.get? b = some o → s5.heap.get? b = some o := fun b o e => by rw [h5]; exact Heap.get?_push_of_some _ (kp' b o e)
    have ga : s5.heap.get? h'.objs.size = some go := by rw [h5]; exact Heap.get?_push_size _ (by rw [← hgo] <;> rfl)
    have bare5 : AllBare s5.gens := by
      rw [← hs5]
      exact I4.bare.push rfl
    have g5 : s5.gens[s4.gens.size]? = some (.fresh (geStart elt tg iter scope gpos it (gev X scope s4.heap.objs.size code))) := by
      rw [← hs5]
      exact Array.getElem?_push_size ..
    have hA' : Room k ((X.A.in1.in1).deeper (gev X scope s4.heap.objs.size code)) := by
      refine ⟨hr.hd, ?_, ?_⟩
      · have := hr.dp
        show X.A.depth + 1 + 3 * k + 5 < _
        omega
      · have := hr.un
        show X.A.units + 1 + 1 + 3 + 16 * k + 200 < _
        omega
    have J5 := gen_begin (N := N) (fp := fp) (A' := (X.A.in1.in1).deeper (gev X scope s4.heap.objs.size code)) (s5 := s5) (a := h'.objs.size) (go := go) I4 S f4 hr.hd
      (Around.frames_deeper (A := X.A.in1.in1) I4.ok.frames) kp5 (by rw [← hs5]) bare5 (by rw [h5]; exact hn'.push _) (by rw [szh]; exact Nat.lt_succ_self _) ga (by rw [← hgo]; intro v z; cases z)
    refine Calls.spliced_nil ?_
    refine call_function_tree F.kind_all F.plain_all F.entry_all (F.args_all1 _) ?_
    unfold Builtin.«all»
    refine wpAny_bind (m := oneArg "all" _) (wpAny_pure ?_)
    have isG : s5.heap.IsGen h'.objs.size s4.gens.size := ⟨go, _, _, ga, by rw [← hgo], by rw [← hgo], by rw [← hgo]⟩
    refine wpAny_bind (wpAny_pyIter_gen isG ?_)
    refine wpAny_pure ⟨plainId_quiet F.plain_all_loop _, ?_⟩
    have w4 : W 0 (upd H2 P (.tbl (ps ++ more))) := w0 _ ⟨⟨_, upd_same, ht3⟩, fun b hbn => upd_ne hbn⟩
    refine all_turns (X := X) (N := N) (s4 := s4) (H4 := upd H2 P (.tbl (ps ++ more))) (env := gev X scope s4.heap.objs.size code) (fp := fp) (a := h'.objs.size) (go := go) (g := s4.gens.size) (Q := Q)
      hr.hd (by have := hr.dp; show X.A.depth < _; omega) (fun s6 h6 => ⟨go, _, _, h6, by rw [← hgo], by rw [← hgo], by rw [← hgo]⟩) ?_ top s5 _ _ _ g5 J5 ?_
    · intro b s6 H6 σ6 I6 q6
      exact ⟨.bl b, H6, gen_back I4 (fun b hbf => (f4 b hbf).1) I6, rfl, q6⟩
    · refine ⟨rfl, ?_⟩
      have J6 := inv_same (s'' := s5.setGen s4.gens.size .running) J5 rfl (bare_set J5.bare rfl) rfl
      have st5 : tn 0 s5.heap := T.keep _ _ _ st4 fun b _ o e => kp5 b o e
      have nf : ∀ b ∈ fp, upd H2 P (.tbl (ps ++ more)) b = none := fun b hbf => (f4 b hbf).1.1
      have faN : h'.objs.size ∉ fp := fun z => by
        have q := (f4 _ z).2
        rw [szh] at q
        exact Nat.lt_irrefl _ (Nat.lt_trans (Nat.lt_succ_self _) q)
      have loop : ∀ s₀, ∃ k, k ≤ top ∧ _ := fun s₀ => seg_walk (X := X) (B := X.A.in1.in1) (N := N) (s4 := s4) (H4 := upd H2 P (.tbl (ps ++ more))) (env := gev X scope s4.heap.objs.size code) (fp := fp) (a := h'.objs.size) (go := go)
        (gpos := gpos) (elt := elt) (iter := iter) (scope := scope) (Q := Q) (top := top) (W := W) S.co T (hgt _ _ _ _ _ _ hA') (hel _ _ _ _ _ _ hA') faN way top 0 s₀ (s5.setGen s4.gens.size .running) _ (Nat.sub_le _ _) J6 st5 nf w4
      obtain ⟨_, _, loop⟩ := loop (s5.setGen s4.gens.size .running)
      show Seg _ _ _ _ _ _ _ ((compStart (.GeneratorExp elt [⟨tg, iter, [], 0⟩] scope gpos) 0 (.ref it) .none (gev X scope s4.heap.objs.size code)).onRaise (leaving (gev X scope s4.heap.objs.size code))) [] _
      unfold compStart
      rw [Sem.onRaise_eq_wrap]
      show Seg _ _ _ _ _ _ _ ((ask >>= _).wrap _ _ _ _) [] _
      refine seg_bind_wrap (wpAny_askSetting ?_)
      split
      · exact seg_again rfl loop
      · refine seg_bind_wrap (wpAny_rule ?_)
        show Seg _ _ _ _ _ _ _ ((standAt iter.pos >>= _).wrap _ _ _ _) [] _
        refine seg_bind_wrap (wpAny_standAt ?_)
        refine seg_bind_wrap ?_
        exact T.self _ 0 _ _ _ st5 (seg_again rfl loop)
  cases hf : codeAmong gpos ps.toList with
  | none =>
    refine wpAny_genexprCodeX hcode (cd.code hPs ht) (cd.tab hPs) hf ?_
    intro c' h3 tk hx hge hlt hco' _ htab' _
    obtain ⟨o1, vs, f1, tf, fl, tg', inF, tx, tt, op, _, _, _, _, _, _, _, _, _, htr, _⟩ := hco'
    exact cont _ h3 tk _ (fun b o hbn e => hx b o hbn e) (Nat.le_trans hge (Nat.le_of_lt hlt)) htab'.2 htr
  | some cv =>
    refine wpAny_genexprCode_hit hcode (cd.code hPs ht) hf ?_
    have z := cont cv s2.heap s2.toks #[] (fun _ _ _ e => e) (Nat.le_refl _) (by rw [Array.append_empty]; exact hPs) (by rw [Array.append_empty]; exact ht)
    exact z
end
end UG


set_option Elab.async false
set_option linter.all false
set_option maxRecDepth 100000
set_option maxHeartbeats 4000000
/-! enumerate(t), t a tuple; t * n to some thousands -/
namespace UG
open PySem PySem.Spec PyProof.Rows L2

theorem enum_new1 {v : Value} {o : Obj} {H : Heap → Prop} (B : Begins v o H) :
    Meets (Builtin.«enumerate.__new__» ⟨[.type "enumerate", v], []⟩) (fun _ R s => H s.heap ∧
      R (.ok (.ret (.ref (s.heap.push o).objs.size))) { s with heap := (s.heap.push o).push { cls := .type "enumerate", data := .fields #[.none, .bool false, .ref s.heap.objs.size, rawInt 0, .none, .none] } }) :=
  .of_wp fun prog w A R s h => by
    obtain ⟨hp, g, d, tk, os⟩ := s
    obtain ⟨h1, h⟩ := h
    have hsub := sub_enumerate
    have goes : ∀ {A' : Around} {E : Value → Shared → Prop} {Q : Value → Shared → Prop}, Q (.ref hp.objs.size) ⟨hp.push o, g, d, tk, os⟩ → wpAny (model prog w) A' (pyIter v) Q E ⟨hp, g, d, tk, os⟩ :=
      fun q => B.iter prog w _ _ ⟨hp, g, d, tk, os⟩ _ h1 q
    wp_walk using goes
    refine wpAny_stack_any fun st => wpAny_pure ?_
    split
    · rename_i c _ _ _ _ _
      cases (c == Value.type "enumerate")
      all_goals (wp_walk using goes; exact ⟨_, rfl, h⟩)
    · wp_walk using goes
      exact ⟨_, rfl, h⟩

section
variable {prog : Program} {w : World} {A : Around} {E : Value → Shared → Prop} {s : Shared}
theorem enum_call1 {v : Value} {o : Obj} {H : Heap → Prop} {Q : Value → Shared → Prop} (B : Begins v o H) (h1 : H s.heap)
    (h : ∀ h', IsEnum h' (s.heap.objs.size + 1) s.heap.objs.size 0 .none → h'.get? s.heap.objs.size = some o →
      (∀ b o, s.heap.get? b = some o → h'.get? b = some o) → Q (.ref (s.heap.objs.size + 1)) { s with heap := h' }) :
    wpAny (model prog w) A (call (.type "enumerate") [v]) Q E s := by
  refine callType_new F.called_enumerate (by decide) (F.typeCall_enumerate_1 _) (F.newCall_enumerate_1 _)
    (fun obj => F.args_object_init_2 obj _) F.entry_enumerate_new (enum_new1 B) ⟨h1, ?_⟩
  have sz : (s.heap.push o).objs.size = s.heap.objs.size + 1 := Heap.size_push ..
  show _ ∧ _
  rw [sz]
  have atE := Heap.get?_push_size (s.heap.push o) (o := { cls := .type "enumerate", data := .fields #[.none, .bool false, .ref s.heap.objs.size, rawInt 0, .none, .none] }) rfl
  rw [sz] at atE
  refine ⟨⟨_, atE, rfl⟩, h _ atE (Heap.get?_push_of_some _ (Heap.get?_push_size _ B.free)) ?_⟩
  intro b o' e
  exact Heap.get?_push_of_some _ (Heap.get?_push_of_some _ e)
end

/-- the tuple at a, each item in a new pair -/
def Iet (K : PySem.W.Frag) (a : Addr) : It :=
  ⟨fun i H => ∃ (xs : List V) (x : V), SqT K H a xs ∧ xs[i]? = some x,
   fun i H v H' => ∃ T x, v = .ref T ∧ H T = none ∧ H' = upd H T (.tup [.int (i : Nat), x]) ∧ ∀ xs, SqT K H a xs → xs[i]? = some x,
   fun i H => ∃ xs : List V, SqT K H a xs ∧ xs.length ≤ i⟩

theorem turn_enumT {P : Program} {w : World} {K : PySem.W.Frag} {elts : List Expr} {kk : Nat} {tpos : Pos} (a e it : Addr) :
    Turn P w K (.Tuple elts kk tpos) (Iet K a) [e, it] e (fun i h => (∃ old, IsEnum h e it ((i : Nat) : Int) old) ∧ h.IsTupleIter it a i ∧ e ≠ it) where
  mem := by simp
  obj := by
    intro i h st b hb
    obtain ⟨⟨old, he⟩, ⟨o, ho, hc, hd⟩, _⟩ := st
    rcases (show b = e ∨ b = it by simpa using hb) with z | z
    · subst z
      exact ⟨_, he, fun v q => nomatch q⟩
    · subst z
      refine ⟨o, ho, ?_⟩
      intro v q
      rw [hd] at q
      cases q
  keep := by
    intro i h h' st k
    obtain ⟨⟨old, he⟩, hi, hne⟩ := st
    exact ⟨⟨old, k e (by simp) _ he⟩, hi.at fun o q => k it (by simp) o q, hne⟩
  item := by
    intro X hP hw hK hc i pins s σ H E I hf st hg
    subst hP hw hK
    obtain ⟨⟨old, he⟩, hit, hne⟩ := st
    obtain ⟨xs, x, hq, hx⟩ := hg
    obtain ⟨its, rv, p, hz⟩ := I.tuple hq
    obtain ⟨u, hu, ru⟩ := rv.get hx
    have hel : e < s.heap.objs.size := Heap.lt_size he
    have hil : it < s.heap.objs.size := by
      obtain ⟨_, q, _⟩ := hit
      exact Heap.lt_size q
    have pT : s.heap.IsTuple a its.toArray := p
    have nEa : e ≠ a := by
      intro z
      obtain ⟨o, ho, _, n, hd⟩ := pT
      have he' := he
      unfold IsEnum at he'
      rw [z, ho] at he'
      cases he'
      cases hd
    have nIa : a ≠ it := by
      intro z
      obtain ⟨o, ho, _, n, hd⟩ := pT
      obtain ⟨o2, ho2, _, hd2⟩ := hit
      rw [z, ho2] at ho
      cases ho
      rw [hd2] at hd
      cases hd
    have D := Draws.tuple (prog := X.prog) (w := X.w) (A := X.A.in1) (I.ok.hd hc) it a nIa its.toArray
    have hi : i < its.toArray.size := by
      have l1 := (List.getElem?_eq_some_iff.mp hx).1
      have l2 := rv.length
      simp
      omega
    refine wpAny_pyNext_enum_itemD D he ⟨hit, pT⟩ hi hne (by simp; exact ⟨hne, nEa⟩) fun y h' tk hy ho hst' hT hsz hk => ?_
    have ey : y = u := by
      have q : its.toArray[i]? = some y := hy
      rw [List.getElem?_toArray] at q
      exact Option.some.inj (q.symm.trans hu)
    subst ey
    refine ⟨_, rfl, wpAny_letOwnedTupleGo_enum (s := { s with heap := h', toks := tk + 1 }) ho fun h'' he' sb => ?_⟩
    have hT2 : h''.get? s.heap.objs.size = some { cls := .type "tuple", data := .seq #[.int i tk, y] } := (sb.2 _ (Nat.ne_of_gt hel)).trans hT
    have new : ObjOk X.prog X.w (upd H s.heap.objs.size (.tup [.int (i : Nat), x])) h'' s.heap.objs.size (.tup [.int (i : Nat), x]) :=
      ⟨by show 2 ≤ sizeLine; decide, [.int i tk, y], .cons ⟨_, rfl⟩ (.cons ru .nil), ⟨_, hT2, rfl, _, rfl⟩⟩
    have kk2 : ∀ b o, b ∉ [e, it] → s.heap.get? b = some o → h''.get? b = some o := by
      intro b o hb q
      have b1 : b ≠ e := fun z => hb (by simp [z])
      have b2 : b ≠ it := fun z => hb (by simp [z])
      exact (sb.2 b b1).trans (hk b o b1 b2 q)
    have I1 : Inv X pins σ (upd H s.heap.objs.size (.tup [.int (i : Nat), x])) { s with heap := h'', toks := tk + 1 } :=
      I.turnedNew (ch := [e, it]) kk2 hf (Nat.le_refl _) new
    refine ⟨.ref s.heap.objs.size, _, I1, rfl, ⟨_, x, rfl, I.hok.fresh (Nat.le_refl _), rfl, fun ys hy => by rw [I.tuple_inj hy hq]; exact hx⟩, ⟨⟨y, ?_⟩, hst'.1.at fun o q => (sb.2 it (Ne.symm hne)).trans q, hne⟩, ?_⟩
    · have e1 : ((i + 1 : Nat) : Int) = (i : Int) + 1 := by omega
      rw [e1]
      exact he'
    · intro b hb
      have hb' : b < s.heap.objs.size := by
        rcases (show b = e ∨ b = it by simpa using hb) with z | z
        · rw [z]; exact hel
        · rw [z]; exact hil
      rw [upd_ne (Nat.ne_of_lt hb')]
      exact (hf b hb).1
  done := by
    intro X hP hw hK hc i pins s σ H E I hf st hg
    subst hP hw hK
    obtain ⟨⟨old, he⟩, hit, hne⟩ := st
    obtain ⟨xs, hq, hx⟩ := hg
    obtain ⟨its, rv, p, hz⟩ := I.tuple hq
    have pT : s.heap.IsTuple a its.toArray := p
    have nIa : a ≠ it := by
      intro z
      obtain ⟨o, ho, _, n, hd⟩ := pT
      obtain ⟨o2, ho2, _, hd2⟩ := hit
      rw [z, ho2] at ho
      cases ho
      rw [hd2] at hd
      cases hd
    obtain ⟨f0, f1, f2, f3, f4, f5⟩ := hf it (by simp)
    have hl := rv.length
    have D : Draws X.prog X.w X.A.in1 it [it, a] i (fun _ _ => False) (fun j h => j = i ∧ h.IsTupleIter it a i ∧ h.IsTuple a its.toArray) :=
      { live := fun _ _ st => let ⟨o, ho, _⟩ := st.2.1; ⟨o, ho⟩
        frame := fun _ _ _ st hk => ⟨st.1, st.2.1.at fun o e => hk it (by simp) o e, st.2.2.at fun o e => hk a (by simp) o e⟩
        item := fun j s Q E hj st hQ => absurd st.1 (Nat.ne_of_lt hj)
        done := fun s Q E st hE => wpAny_nextOf_tuple_end (I.ok.hd hc) st.2.1 st.2.2 (by simp; omega) hE }
    exact wpAny_pyNext_enum_endD D he ⟨rfl, hit, pT⟩ fun h' eb => ⟨rfl, I.turned (t' := s.toks) (fun b o hb q => eb b o hb q) f0 f1 f3 f4 f5⟩
  self := by
    intro A i s Q E st h
    obtain ⟨⟨_, he⟩, _⟩ := st
    exact wpAny_pyIter_enum he h

def iEnumT (K : PySem.W.Frag) (ta : TA) : TI := fun σ H R => ta σ H fun vs H1 => ∃ a xs, vs = [.ref a] ∧ SqT K H1 a xs ∧ R (Iet K a) H1
theorem pi_enumT {X : Cx} {e : Expr} {ta : TA} {p pos tpos : Pos} {elts : List Expr} {kk : Nat} (hg : Gl X "enumerate") (hm : X.mg "enumerate" = none) (ha : PA X [e] ta)
    (hs : starEach [e] X.env = [(false, eval e X.env)] := by rfl) :
    PI X (.Tuple elts kk tpos) (.Call (.Name "enumerate" p) [e] [] pos) (iEnumT X.K ta) := by
  refine ⟨fun pins s σ H R I h => ?_⟩
  refine Call_ (ld_blt I hg hm boot_enumerate (PyProof.Rows.callWith_type1 (thn (ha.run pos pins s σ H _ I h) ?_) hs rfl))
  rintro us s1 ⟨vs, H1, I1, r1, a, xs, rfl, hq, q⟩
  obtain ⟨its, rv, p', hz⟩ := I1.tuple hq
  cases r1 with
  | cons r rr =>
    cases rr
    cases r
    have pT : s1.heap.IsTuple a its.toArray := p'
    refine enum_call1 (begins_tuple a its.toArray) pT fun h' he hit hk => wpAny_pyIter_enum he ?_
    have I2 : Inv X pins σ H1 { s1 with heap := h' } := I1.kept (t' := s1.toks) hk
    refine ⟨s1.heap.objs.size + 1, [s1.heap.objs.size + 1, s1.heap.objs.size], _, _, H1, rfl, I2, turn_enumT a (s1.heap.objs.size + 1) s1.heap.objs.size, ⟨⟨.none, he⟩, ⟨_, hit, rfl, rfl⟩, Nat.succ_ne_self _⟩, ?_, q⟩
    intro b hb
    have hle : s1.heap.objs.size ≤ b := by
      rcases (show b = s1.heap.objs.size + 1 ∨ b = s1.heap.objs.size by simpa using hb) with z | z
      · rw [z]; exact Nat.le_succ _
      · rw [z]; exact Nat.le_refl _
    exact I1.fpOk hle (I1.hok.fresh hle)
end UG


set_option Elab.async false
set_option linter.all false
set_option maxRecDepth 100000
set_option maxHeartbeats 4000000
namespace UG
open PySem PySem.Spec PyProof.Rows L2

/-! ### t[::-1], t a tuple -/
theorem fm_congr {α β : Type} {f g : α → Option β} : ∀ {l : List α}, (∀ x ∈ l, f x = g x) → l.filterMap f = l.filterMap g
  | [], _ => rfl
  | x :: r, h => by
    rw [List.filterMap_cons, List.filterMap_cons, h x List.mem_cons_self, fm_congr fun y hy => h y (List.mem_cons_of_mem _ hy)]
theorem adj_back (n : Nat) : Builtin.Slice.sliceAdjust none none (-1) (n : Int) = ((n : Int) - 1, -1) := rfl
theorem plc_back (n : Nat) : Builtin.Slice.slicePlaces ((n : Int) - 1) (-1) (-1) = n := by
  unfold Builtin.Slice.slicePlaces
  rw [if_neg (by decide)]
  by_cases h : (n : Int) - 1 > -1
  · rw [if_pos h]
    have e : ((n : Int) - 1 - -1 - 1) / (- -1) + 1 = (n : Int) := by
      rw [show (- -1 : Int) = 1 by decide, Int.ediv_one]
      omega
    rw [e]
    rfl
  · rw [if_neg h]
    have e : n = 0 := by omega
    subst e
    rfl
section
variable {prog : Program} {w : World} {A : Around} {E : Value → Shared → Prop} {s : Shared}
theorem applied_back {sl : Addr} {vl vu vs : Value} {n : Nat} {Q : Int × Int × Nat → Shared → Prop} (hs : s.heap.IsSliceOf sl vl vu vs) (pl : IsPart vl none) (pu : IsPart vu none) (ps : IsPart vs (some (-1)))
    (h : Q ((n : Int) - 1, -1, n) s) : wpAny (model prog w) A (Builtin.Slice.sliceApplied (.ref sl) (pure (n : Int))) Q E s := by
  obtain ⟨ob, hob, hc, hd⟩ := id hs
  unfold Builtin.Slice.sliceApplied Builtin.Slice.sliceFields
  refine wpAny_bind (wpAny_bind (wpAny_field hob hd (x := vl) rfl (wpAny_bind (wpAny_field hob hd (x := vu) rfl (wpAny_bind (wpAny_field hob hd (x := vs) rfl (wpAny_pure ?_)))))))
  refine wpAny_bind (HT.slicePart_ ps ?_)
  show wpAny _ _ (if ((-1 : Int) == 0) = true then _ else _) _ _ s
  rw [if_neg (by decide)]
  refine wpAny_bind (HT.slicePart_ pl (wpAny_bind (HT.slicePart_ pu (wpAny_bind (wpAny_pure ?_)))))
  show wpAny _ _ (match Builtin.Slice.sliceAdjust none none (-1) (n : Int) with | (lo, hi) => pure (lo, (-1 : Int), Builtin.Slice.slicePlaces lo hi (-1))) _ _ s
  rw [adj_back]
  show wpAny _ _ (pure ((n : Int) - 1, (-1 : Int), Builtin.Slice.slicePlaces ((n : Int) - 1) (-1) (-1))) _ _ s
  rw [plc_back]
  exact wpAny_pure h
theorem pick_back (xs : Array Value) : ((List.range xs.size).filterMap fun (m : Nat) => xs[((xs.size : Int) - 1 + (m : Int) * -1).toNat]?).toArray = xs.toList.reverse.toArray := by
  have e : ∀ m ∈ List.range xs.size, (fun (m : Nat) => xs[((xs.size : Int) - 1 + (m : Int) * -1).toNat]?) m = (fun m => xs[xs.size - 1 - m]?) m := by
    intro m hm
    have hm' := List.mem_range.mp hm
    have q : ((xs.size : Int) - 1 + (m : Int) * -1).toNat = xs.size - 1 - m := by omega
    show xs[((xs.size : Int) - 1 + (m : Int) * -1).toNat]? = _
    rw [q]
  have e2 : (List.range xs.size).filterMap (fun (m : Nat) => xs[((xs.size : Int) - 1 + (m : Int) * -1).toNat]?) = (List.range xs.size).filterMap (fun m => xs[xs.size - 1 - m]?) := fm_congr e
  rw [e2]
  have e3 : (List.range xs.size).filterMap (fun m => xs[xs.size - 1 - m]?) = ((List.range xs.size).map (fun k => xs.size - 1 - k)).filterMap (xs[·]?) := by
    rw [List.filterMap_map]
    rfl
  rw [e3, PySem.W.krv_range, List.filterMap_reverse, PySem.W.krv_all]
theorem getItem_tupBack {t sl : Addr} {items : Array Value} {vl vu vs : Value} {Q : Value → Shared → Prop} (ht : IsTup s.heap t items) (hs : s.heap.IsSliceOf sl vl vu vs) (pl : IsPart vl none) (pu : IsPart vu none) (ps : IsPart vs (some (-1)))
    (h : Q (.ref s.heap.objs.size) { s with heap := s.heap.push { cls := .type "tuple", data := .seq items.toList.reverse.toArray } })
    (hsz : items.size ≤ sizeLine) : wpAny (model prog w) A (getItem (.ref t) (.ref sl)) Q E s := by
  obtain ⟨os, hos, hcs, hds⟩ := id hs
  have tS : s.TypeIs (.ref sl) "slice" := ⟨os, hos, hcs⟩
  unfold getItem
  try with_reducible refine wpAny_holding ?_
  first | refine wpAny_bind (wpAny_pure ?_) | skip
  refine wpAny_bind (wpAny_sequenceKey ht.typeIs (by decide) ?_)
  refine wpAny_bind (wpAny_callSpecial?_slot (name := Str.ofString "__getitem__") ht.typeIs PyProof.Rows.slot_tuple_getitem (wpAny_call_entry PyProof.Rows.slot_tuple_getitem ht.typeIs entry_tuple_getitem ?_ (args_tuple_getitem _ _)))
  show wpAny _ _ (Builtin.Tuple.tupleItemsOf (.ref t) >>= _) _ _ s
  refine wpAny_bind (tupleItemsOf_ ht ?_)
  refine wpAny_bind (wpAny_typeOf tS ?_)
  rw [if_pos (by decide)]
  refine wpAny_bind (applied_back hs pl pu ps ?_)
  have no : ¬ ((((items.size : Int) - 1) == 0 && (-1 : Int) == 1 && items.size == items.size) = true) := by
    intro q
    rw [Bool.and_eq_true, Bool.and_eq_true] at q
    exact absurd q.1.2 (by decide)
  show wpAny _ _ (if (((items.size : Int) - 1) == 0 && (-1 : Int) == 1 && items.size == items.size) = true then _ else _) _ _ s
  rw [if_neg no]
  rw [pick_back]
  have fit : sizeOk (.seq items.toList.reverse.toArray) := by
    show items.toList.reverse.toArray.size ≤ sizeLine
    simpa using hsz
  exact wpAny_bind (m := Builtin.Tuple.tupleExact _) (wpAny_newObj_type (wpAny_pure ⟨_, rfl, wpAny_pure h⟩) fit)
end
section
variable {X : Cx}
def tRevT (K : PySem.W.Frag) (te : TE) : TE := fun σ H Q => te σ H fun x H1 => ∃ a xs, x = .ref a ∧ SqT K H1 a xs ∧ ∀ p, H1 p = none → Q (.ref p) (upd H1 p (.tup xs.reverse))
theorem pe_revT {e : Expr} {te : TE} {k : Nat} {p1 p2 p3 pos : Pos} (he : PE X e te) : PE X (.Subscript e (.Slice none none (some (.UnaryOp .USub (.Constant (.int 1) k p1) p2)) p3) pos) (tRevT X.K te) := by
  refine ⟨fun pins s σ H Q I h => ?_⟩
  refine Subscript_ (thn (he.run pins s σ H _ I h) ?_)
  rintro v s1 ⟨x, H1, I1, r1, a, xs, rfl, hx, q⟩
  cases r1
  have part : PO X (some (.UnaryOp .USub (.Constant (.int 1) k p1) p2)) (tPart (tUn (rU fun i => .int (-i)) (tC (.int 1)))) := po_some (pe_un un_neg pe_int)
  refine wpAny_Slice (thn (po_none.run pins s1 σ H1 (fun o H2 => o = none ∧ H2 = H1) I1 ⟨rfl, rfl⟩) ?_)
  rintro vl s2 ⟨l, H2, I2, pl, rfl, rfl⟩
  refine thn (po_none.run pins s2 σ H2 (fun o H3 => o = none ∧ H3 = H2) I2 ⟨rfl, rfl⟩) ?_
  rintro vu s3 ⟨u, H3, I3, pu, rfl, rfl⟩
  refine thn (part.run pins s3 σ H3 (fun o H4 => o = some (-1) ∧ H4 = H3) I3 ⟨1, rfl, -1, rfl, rfl, rfl⟩) ?_
  rintro vs s4 ⟨o, H4, I4, ps, rfl, rfl⟩
  have I5 : Inv X pins σ H4 { s4 with heap := s4.heap.push { cls := .type "slice", data := .fields #[vl, vu, vs] } } := I4.kept (t' := s4.toks) fun b ob e => Heap.get?_push_of_some _ e
  obtain ⟨its, r, ht, hz⟩ := I5.tuple hx
  have hl := r.length
  show wpAny _ X.A (subscriptTail e (.Slice none none (some (.UnaryOp .USub (.Constant (.int 1) k p1) p2)) p3) (.ref a) (.ref s4.heap.objs.size)) _ X.xe { s4 with heap := s4.heap.push { cls := .type "slice", data := .fields #[vl, vu, vs] } }
  refine tail_any (ops := [.ref a, .ref s4.heap.objs.size]) ht.typeIs PyProof.Rows.slot_tuple_getitem.lookup ?_ (by with_unfolding_all rfl)
  refine getItem_tupBack ht (Heap.IsSliceOf.new _ vl vu vs) pl pu ps ?_ (by rw [List.size_toArray]; omega)
  refine ⟨.ref _, _, I5.laid (t' := s4.toks) (o := .tup xs.reverse) (fun b ob e => Heap.get?_push_of_some _ e) (Nat.le_refl _) ?_, rfl, q _ (I5.hok.fresh (Nat.le_refl _))⟩
  exact ⟨by rw [List.length_reverse]; exact hz, _, r.reverse, IsTup.new _ _⟩

/-- t * n, some million items at most -/
def rRepB (K : PySem.W.Frag) : R2 := fun x y H Q => ∃ l k xs, x = .ref l ∧ y = .int k ∧ SqT K H l xs ∧ xs ≠ [] ∧ 2 ≤ k ∧ k ≤ 1000000 ∧ ((xs.length : Nat) : Int) * k ≤ 1000000 ∧
  ∀ p, H p = none → Q (.ref p) (upd H p (.tup (List.replicate k.toNat xs).flatten))
theorem op_repB : OpR X (binaryOp .Mult) (rRepB X.K) := by
  intro pins s σ H x y v u Q I rx ry h
  obtain ⟨l, k, xs, rfl, rfl, hT, hne, h1, h2, hz, q⟩ := h
  cases rx
  obtain ⟨t, rfl⟩ := ry
  obtain ⟨its, r, ⟨⟨cls, dd, data, sl⟩, ho, hc, n, hd⟩, hs⟩ := I.tuple hT
  simp only at hc hd
  subst hc hd
  have len : its.length = xs.length := r.length.symm
  have its0 : its ≠ [] := by
    rintro rfl
    exact hne (List.eq_nil_of_length_eq_zero len.symm)
  have emp : its.toArray.isEmpty = false := by
    cases its with
    | nil => exact absurd rfl its0
    | cons a b => rfl
  have sz : its.toArray.size = xs.length := by rw [List.size_toArray, len]
  have kk : ((k.toNat : Nat) : Int) = k := by omega
  have prod : k.toNat * xs.length ≤ 1000000 := by
    have q1 : ((k.toNat * xs.length : Nat) : Int) ≤ 1000000 := by
      rw [Int.natCast_mul, kk, Int.mul_comm]
      exact hz
    omega
  have bound : ((its.toArray.size : Nat) : Int) * k ≤ 1000000 := by rw [sz]; exact hz
  have flat : (List.replicate k.toNat its).flatten.length ≤ sizeLine := by
    rw [PyProof.Rows.lm_len_rep_flat, len, sizeLine_eq]
    omega
  have a0 : (decide (k < -(2 ^ 63)) || decide (k ≥ 2 ^ 63)) = false := by
    rw [decide_eq_false (by omega), decide_eq_false (by omega)] <;> rfl
  have a1 : (its.toArray.isEmpty || k == 1) = false := by
    rw [emp, Bool.false_or]
    exact beq_eq_false_iff_ne.mpr (by omega)
  have a2 : (decide (k ≤ 0) || its.toArray.isEmpty) = false := by
    rw [emp, Bool.or_false]
    exact decide_eq_false (by omega)
  have a4 : Builtin.Tuple.tupleTooMany (((its.toArray.size : Nat) : Int) * k) = false := by
    unfold Builtin.Tuple.tupleTooMany
    rw [sizeLine_eq]
    exact decide_eq_false (by omega)
  have mul := tuple_mulW l its.toArray n dd sl k t a0 a1 a2 (by omega) a4 (by rw [size_rep, List.size_toArray]; exact flat)
  have fin : EP X pins σ Q (Value.ref s.heap.objs.size) { s with heap := s.heap.push { cls := Value.type "tuple", data := Data.seq (List.foldl (fun x1 x2 => x1 ++ x2) #[] (List.replicate k.toNat its.toArray)) }, toks := s.toks } := by
    rw [size_rep]
    refine ⟨.ref s.heap.objs.size, _, I.laid (t' := s.toks) (o := .tup (List.replicate k.toNat xs).flatten) (fun b ob e => Heap.get?_push_of_some _ e) (Nat.le_refl _) ?_, rfl, q _ (I.hok.fresh (Nat.le_refl _))⟩
    refine ⟨?_, _, r.rep k.toNat, IsTup.new _ _⟩
    rw [PyProof.Rows.lm_len_rep_flat, sizeLine_eq]
    omega
  have tl : s.TypeIs (.ref l) "tuple" := ⟨_, ho, rfl⟩
  exact wpAny_binaryOp_repeat_ref (T := "tuple") (U := "int") (by decide) tl (fun s' => typeIs_int s' k t) noFill_tuple_mul F.fills_int_mul F.slot_int_rmul repeat_tuple F.slot_int_index.lookup
    (call_meets F.slot_int_rmul (typeIs_int s k t) F.entry_int_rmul (F.args_int_rmul_2 _ _) (int_rmul_tuple k t l its.toArray n dd sl) ⟨ho, rfl, tl, call_meets F.slot_tuple_mul tl F.entry_tuple_mul (F.args_tuple_mul_2 _ _) mul ⟨ho, fin⟩⟩)
end
end UG


set_option Elab.async false
set_option linter.all false
set_option maxRecDepth 100000
set_option maxHeartbeats 4000000
/-! d.setdefault(t, e), t a tuple of ints and texts -/
namespace UG
open PySem PySem.Spec PyProof.Rows L2
section
variable {X : Cx} {pins : List (Addr × Obj)} {σ : L2.St} {H : Hp} {sh : Shared} {D b : Addr} {r : Value} {d : V} {k : List Key} {A : Around} {E : Value → Shared → Prop} {kvs : List (List Key × V)} {Q : Value → Shared → Prop}
theorem setd_tup (room : A.units + 1 < cLine) (J : Inv X pins σ H sh) (hD : H D = some (.dT kvs)) (hb : H b = some (.tup (k.map kV))) (rd : RelV d r) (small : kvs.length < sizeLine)
    (there : ∀ v, valV kvs k = some v → ∀ u s1, Inv X pins σ H s1 → RelV v u → Q u s1)
    (gone : valV kvs k = none → ∀ s1, Inv X pins σ (upd H D (.dT (putK kvs k d))) s1 → Q r s1) :
    wpAny (model X.prog X.w) A (call (.builtin "dict.setdefault") [.ref D, .ref b, r]) Q E sh := by
  obtain ⟨z0, nsys, ents, kt, dict⟩ := dt_of J.hok hD
  have le0 : ents.length ≤ sizeLine := by have := Paired.length kt; omega
  have le1 : (putK kvs k d).length ≤ sizeLine := by have := length_putK kvs k d; omega
  have vk := kt.val k
  refine call_setdefault_heap (hsz := le0) (tupleKind_room_in1 room) (key_of J.hok hb) nsys dict (fun pr found => ?_) fun no h1 dict1 but => ?_
  · rw [found] at vk
    cases e0 : valV kvs k with
    | none => rw [e0] at vk; exact vk.elim
    | some v0 =>
      rw [e0] at vk
      exact there v0 e0 _ _ (J.tok _) vk
  · have e0 : valV kvs k = none := by
      cases q : valV kvs k with
      | none => rfl
      | some v0 =>
        rw [q, no] at vk
        exact (show False from vk).elim
    obtain ⟨ob, es, ep, at1, x2, x3, x4, _, x5⟩ := dict1
    refine gone e0 _ (d_write J (by rw [hD]; exact True.intro) but ⟨ob, at1⟩ ⟨le1, nsys, _, (kt.put k hb rd).keeps fun c ys ec => ?_, ob, es, ep, at1, x2, x3, x4, x5⟩)
    rw [upd_ne (ne_of ec hD (fun w => nomatch w))]
    exact ec
end
/-- d.setdefault(t, e) -/
def tSetdT (td ty tx : TE) : TE := fun σ H Q => td σ H fun x H1 => (∃ D kvs, x = .ref D ∧ H1 D = some (.dT kvs)) ∧ ty σ H1 fun y H2 => tx σ H2 fun z H3 => ∃ (D b : Addr) (kvs : List (List Key × V)) (k : List Key), x = .ref D ∧ y = .ref b ∧ H3 D = some (.dT kvs) ∧ H3 b = some (.tup (k.map kV)) ∧ kvs.length < sizeLine ∧
  (∀ v, valV kvs k = some v → Q v H3) ∧ (valV kvs k = none → Q z (upd H3 D (.dT (putK kvs k z))))
section
variable {X : Cx} {o e f : Expr} {td ty tx : TE} {apos cpos : Pos}
theorem pe_setdT (room : X.A.units + 1 < cLine) (ho : PE X o td) (he : PE X e ty) (hf : PE X f tx) (m : M2 X o "setdefault" apos e f cpos) :
    PE X (.Call (.Attribute o "setdefault" apos) [e, f] [] cpos) (tSetdT td ty tx) := by
  constructor
  intro pins sh σ H Q J hyp
  refine wpAny_Call_method m.base m.few m.line PySem.F.plainAttrs_dict PySem.F.slot_dict_setdefault PySem.F.type_dict_setdefault (thn (ho.run pins sh σ H _ J hyp) ?_)
  rintro w0 sA ⟨x, HA, JA, rx, ⟨D, kvs0, rfl, hD0⟩, qA⟩
  have ew : w0 = Value.ref D := rx
  subst ew
  obtain ⟨ty1, ty2, _⟩ := isD_at JA (.inr ⟨kvs0, .inl hD0⟩)
  refine ⟨ty1, ty2, ?_⟩
  rw [m.trees]
  refine Calls.callWith_builtin rfl (Calls.evalArgs_plain (Calls.spliced_cons (thn (he.run pins sA σ HA _ JA qA) ?_)))
  rintro w1 sB ⟨y, HB, JB, ry, qB⟩
  refine Calls.spliced_cons (thn (hf.run pins sB σ HB _ JB qB) ?_)
  rintro w2 sC ⟨z, HC, JC, rz, D1, b, kvs, k, eD, ey, hD, hb, small, q1, q2⟩
  cases eD
  subst ey
  have e1 : w1 = Value.ref b := ry
  subst e1
  exact Calls.spliced_nil (setd_tup room JC hD hb rz small (fun v hv u s1 J1 r1 => ⟨v, _, J1, r1, q1 v hv⟩) fun hn s1 J1 => ⟨z, _, J1, rz, q2 hn⟩)
end
/-! what putK leaves -/
theorem putK_mem {K : Type} [DecidableEq K] {kvs : List (K × V)} {k : K} {v : V} {e : K × V} (h : e ∈ putK kvs k v) : e ∈ kvs ∨ e.2 = v := by
  unfold putK at h
  split at h
  · obtain ⟨e0, h0, rfl⟩ := List.mem_map.mp h
    by_cases q : e0.1 = k
    · right; rw [if_pos q]
    · left; rw [if_neg q]; exact h0
  · rcases List.mem_append.mp h with h | h
    · exact .inl h
    · right; rw [List.mem_singleton.mp h]
theorem valV_mem {K : Type} [DecidableEq K] {kvs : List (K × V)} {k : K} {v : V} (h : valV kvs k = some v) : ∃ k', (k', v) ∈ kvs := by
  unfold valV at h
  obtain ⟨e, he, rfl⟩ := Option.map_eq_some_iff.mp h
  exact ⟨e.1, List.mem_of_find?_eq_some he⟩
end UG


set_option Elab.async false
set_option linter.all false
set_option maxRecDepth 100000
set_option maxHeartbeats 4000000
namespace K06
open PySem PySem.Spec PyProof.Rows L2

def topS (i : Nat) : Stmt := PySem.Challenge.pw_undoneall_k06_whole_names_exchanged.main.body.getD i (.Pass ⟨0, 0, 0, 0⟩)

/-! ### data -/
def tyN : PyData → String
  | .none => "NoneType"
  | .bool _ => "bool"
  | .int _ => "int"
  | .str _ => "str"
  | .list _ => "list"
  | .tuple _ => "tuple"
  | .dict _ => "dict"
theorem dp_ty {K : PySem.W.Frag} {H : Hp} {v : V} {d : PyData} (h : Dp K H v d) : TyX K H v (.type (tyN d)) := by
  cases h with
  | non => exact .base .non
  | bl b => exact .base (.bl b)
  | int i => exact .base (.int i)
  | str x => exact .base (.str x)
  | lst hs _ =>
    rcases hs with (h | ⟨o, h⟩) | ⟨o, its, n, hk, hc, _⟩
    · exact .base (.lst h)
    · exact .base (.frz h)
    · exact .kList hk hc
  | tup hs _ =>
    rcases hs with (h | ⟨o, h⟩) | ⟨o, its, n, hk, hc, _⟩
    · exact .base (.tup h)
    · exact .fTuple h
    · exact .kTuple hk hc
/-- all but tables stay -/
theorem sq_ext {K : PySem.W.Frag} {H H' : Hp} {a : Addr} {xs : List V} (e : LamX.ExtN H H') (h : SqL K H a xs) : SqL K H' a xs := by
  rcases h with (h | ⟨o, h⟩) | h
  · exact .inl (.inl (e _ _ h (fun _ z => by cases z)))
  · exact .inl (.inr ⟨o, e _ _ h (fun _ z => by cases z)⟩)
  · exact .inr h
theorem sqt_ext {K : PySem.W.Frag} {H H' : Hp} {a : Addr} {xs : List V} (e : LamX.ExtN H H') (h : SqT K H a xs) : SqT K H' a xs := by
  rcases h with (h | ⟨o, h⟩) | h
  · exact .inl (.inl (e _ _ h (fun _ z => by cases z)))
  · exact .inl (.inr ⟨o, e _ _ h (fun _ z => by cases z)⟩)
  · exact .inr h
mutual
theorem dp_ext {K : PySem.W.Frag} {H H' : Hp} (e : LamX.ExtN H H') : ∀ (d : PyData) {v : V}, Dp K H v d → Dp K H' v d
  | .none, _, h => by cases h; exact .non
  | .bool _, _, h => by cases h; exact .bl _
  | .int _, _, h => by cases h; exact .int _
  | .str _, _, h => by cases h; exact .str _
  | .list ds, _, h => by
    cases h with
    | lst hs ha => exact .lst (sq_ext e hs) (dps_ext e ds ha)
  | .tuple ds, _, h => by
    cases h with
    | tup hs ha => exact .tup (sqt_ext e hs) (dps_ext e ds ha)
  | .dict _, _, h => by cases h
theorem dps_ext {K : PySem.W.Frag} {H H' : Hp} (e : LamX.ExtN H H') : ∀ (ds : List PyData) {vs : List V}, DpAll K H vs ds → DpAll K H' vs ds
  | [], _, h => by cases h; exact .nil
  | d :: ds, _, h => by
    cases h with
    | cons h1 h2 => exact .cons (dp_ext e d h1) (dps_ext e ds h2)
end
theorem same_ext {H H' : Hp} (h : Same H H') : LamX.ExtN H H' := fun b o e _ => h b o e
theorem dps_len {K : PySem.W.Frag} {H : Hp} : ∀ {vs : List V} {ds : List PyData}, DpAll K H vs ds → vs.length = ds.length
  | _, _, .nil => rfl
  | _, _, .cons _ t => congrArg Nat.succ (dps_len t)
theorem dps_get {K : PySem.W.Frag} {H : Hp} : ∀ {vs : List V} {ds : List PyData} {i : Nat} {d : PyData}, DpAll K H vs ds → ds[i]? = some d → ∃ v, vs[i]? = some v ∧ Dp K H v d
  | _, _, _, _, .nil, e => by simp at e
  | _, _, 0, _, .cons h t, e => by
    simp at e
    subst e
    exact ⟨_, rfl, h⟩
  | _, _, i + 1, _, .cons h t, e => by
    obtain ⟨v, h1, h2⟩ := dps_get (i := i) t (by simpa using e)
    exact ⟨v, by simpa using h1, h2⟩
theorem dps_get' {K : PySem.W.Frag} {H : Hp} {vs : List V} {ds : List PyData} {i : Nat} {v : V} (h : DpAll K H vs ds) (e : vs[i]? = some v) : ∃ d, ds[i]? = some d ∧ Dp K H v d := by
  have hl := dps_len h
  have hi := (List.getElem?_eq_some_iff.mp e).1
  have e2 : ds[i]? = some (ds[i]'(by omega)) := List.getElem?_eq_getElem (by omega)
  obtain ⟨v', h1, h2⟩ := dps_get h e2
  rw [e] at h1
  cases h1
  exact ⟨_, e2, h2⟩
theorem same_new {H : Hp} {p : Addr} (h : H p = none) (o : HO) : Same H (upd H p o) := fun b u q => by rw [upd_ne (ne_of_none q h)]; exact q

/-! ### what the judges tell -/
def rowD (d : PyData) (lo hi : Int) : Bool := match d with
  | .tuple ds => decide (lo ≤ (ds.length : Int)) && decide ((ds.length : Int) ≤ hi)
  | _ => false
def smallL : Str := "abcdefghijklmnopqrstuvwxyz"
def wordS : Str := "abcdefghijklmnopqrstuvwxyz0123456789"
def keptW : List Str := ["call", "choose", "do", "ensure", "finally", "letters", "loop", "or", "proc", "return", "undo"]

/-! ### the module's facts -/
structure Bl (K : PySem.W.Frag) (mg : Str → Option Value) : Prop where
  isi : mg "isinstance" = none
  int : mg "int" = none
  bool : mg "bool" = none
  str : mg "str" = none
  tuple : mg "tuple" = none
  len : mg "len" = none
  all : mg "all" = none
  range : mg "range" = none
  enumerate : mg "enumerate" = none
  list : mg "list" = none
  set : mg "set" = none
  MOST_OPEN : ∃ t, mg "MOST_OPEN" = some (.int 39 t)
  MOST_SIGNS : ∃ t, mg "MOST_SIGNS" = some (.int 10 t)
  MOST_LETTERS : ∃ t, mg "MOST_LETTERS" = some (.int 20 t)
  MOST_PROCEDURES : ∃ t, mg "MOST_PROCEDURES" = some (.int 8 t)
  LEAST_BODIES : ∃ t, mg "LEAST_BODIES" = some (.int 2 t)
  MOST_BODIES : ∃ t, mg "MOST_BODIES" = some (.int 6 t)
  MOST_IN_BODY : ∃ t, mg "MOST_IN_BODY" = some (.int 60 t)
  MOST_STATEMENTS : ∃ t, mg "MOST_STATEMENTS" = some (.int 200 t)
  LONGEST_CHAIN : ∃ t, mg "LONGEST_CHAIN" = some (.int 12 t)
  SMALL_LETTERS : ∃ t, mg "SMALL_LETTERS" = some (.str smallL t)
  WORD_SIGNS : ∃ t, mg "WORD_SIGNS" = some (.str wordS t)
  KEPT_WORDS : ∃ a, mg "KEPT_WORDS" = some (.ref a) ∧ ∀ H, SqT K H a (keptW.map V.str)

def isiN (c n : String) : Bool := n == c || (c == "int" && n == "bool")
def isiD (c : String) (d : PyData) : Bool := isiN c (tyN d)
theorem kit_names : ∀ n ∈ ["NoneType", "bool", "int", "str", "list", "tuple", "dict"], ∀ c ∈ ["int", "bool", "str", "tuple"], kitB n c = some (isiN c n) := by decide +kernel
theorem kit_d {K : PySem.W.Frag} (d : PyData) {c : String} (hc : c ∈ ["int", "bool", "str", "tuple"]) : PySem.W.kitOne K (.type (tyN d)) (.type c) = some (isiD c d) :=
  kit_ty (kit_names (tyN d) (by cases d <;> simp [tyN]) c hc)
section
variable {X : Cx}
/-- isinstance(x, T) of data -/
def rIsD (K : PySem.W.Frag) (c : String) : List V → Hp → VK → Prop := fun xs H Q => ∃ v d, xs = [v, .ty c] ∧ Dp K H v d ∧ Q (.bl (isiD c d)) H
theorem call_isD (c : String) (hc : c ∈ ["int", "bool", "str", "tuple"]) : CallR X (.builtin "isinstance") (rIsD X.K c) := by
  intro pins s σ H xs us Q I r h
  obtain ⟨v, d, rfl, hd, q⟩ := h
  exact call_isi pins s σ H _ us Q I r ⟨v, .ty c, _, _, _, rfl, .ty c, dp_ty hd, kit_d d hc, q⟩
/-- isinstance(e, T) as a value -/
theorem pe_isD {e : Expr} {te : TE} {c : String} {x : Str} {p1 p2 p3 : Pos} (B : Bl X.K X.mg) (he : PE X e te) (hg : Gl X "isinstance") (hx : Gl X x) (hm : X.mg x = none) (hb : bootBuiltins x = some (.type c)) (hc : c ∈ ["int", "bool", "str", "tuple"])
    (hn : x ≠ "__name__" := by decide) (hdb : (x == ("__debug__" : Str)) = false := by decide) (hs1 : starEach [e, .Name x p3] X.env = (false, eval e X.env) :: starEach [.Name x p3] X.env := by rfl)
    (hs2 : starEach [.Name x p3] X.env = (false, eval (.Name x p3) X.env) :: starEach [] X.env := by rfl) (hpl : (backTo p2 (starEach [.Name x p3] X.env)).any (·.1) = false := by rfl) :
    PE X (.Call (.Name "isinstance" p1) [e, .Name x p3] [] p2) (tCB (rIsD X.K c) (tCons te (tCons (tC (.ty c)) tNil))) :=
  pe_callB (pos := p2) (p := p1) (call_isD c hc) hg B.isi (by decide +kernel) (pa_cons he (pa_cons (pe_bltn (v := .ty c) (pos := p3) hx hm hb rfl hn hdb) pa_nil hs2) hs1) (by decide) (by decide) hs1 hpl
end
end K06


set_option Elab.async false
set_option linter.all false
set_option maxRecDepth 100000
set_option maxHeartbeats 8000000
namespace K06
open PySem PySem.Spec PyProof.Rows L2
/-! ### the heap without some addresses -/
def cutL (as : List Addr) (H : Hp) : Hp := fun p => if p ∈ as then none else H p
theorem cutL_ext {as : List Addr} {H : Hp} : Same (cutL as H) H := fun p o h => by
  unfold cutL at h
  split at h
  · cases h
  · exact h
theorem cutL_get {as : List Addr} {H : Hp} {p : Addr} (n : p ∉ as) : cutL as H p = H p := if_neg n
/-- all but some addresses stays -/
def Kp (as : List Addr) (H H' : Hp) : Prop := ∀ p o, p ∉ as → H p = some o → H' p = some o
theorem Kp.refl {as : List Addr} (H : Hp) : Kp as H H := fun _ _ _ h => h
theorem Kp.trans {as : List Addr} {H H' H2 : Hp} (a : Kp as H H') (b : Kp as H' H2) : Kp as H H2 := fun p o x h => b p o x (a p o x h)
theorem Kp.of_same {as : List Addr} {H H' : Hp} (s : Same H H') : Kp as H H' := fun p o _ h => s p o h
theorem Kp.put {as : List Addr} {H : Hp} {a : Addr} (o : HO) (ha : a ∈ as) : Kp as H (upd H a o) := fun p o' x h => by
  rw [upd_ne (fun z => x (by rw [z]; exact ha))]
  exact h
theorem Kp.new {as : List Addr} {H : Hp} {a : Addr} (o : HO) (ha : H a = none) : Kp as H (upd H a o) := Kp.of_same (same_new ha o)
theorem Kp.mono {as bs : List Addr} {H H' : Hp} (h : Kp as H H') (s : ∀ a ∈ as, a ∈ bs) : Kp bs H H' := fun p o x e => h p o (fun z => x (s p z)) e
theorem Kp.cut {as : List Addr} {H H' : Hp} (h : Kp as H H') : Same (cutL as H) (cutL as H') := fun p o x => by
  unfold cutL at x ⊢
  split at x
  · cases x
  · next n =>
    rw [if_neg n]
    exact h p o n x
theorem Kp.same {as : List Addr} {H H' H0 : Hp} (s : Same H0 (cutL as H)) (h : Kp as H H') : Same H0 (cutL as H') := s.trans h.cut
theorem cut_same {as : List Addr} {H H' : Hp} (s : Same H H') (n : ∀ a ∈ as, H a = none) : Same H (cutL as H') := fun p o e => by
  rw [cutL_get (fun z => by rw [n p z] at e; cases e)]
  exact s p o e
theorem cut_back {as : List Addr} {H H0 : Hp} (s : Same H0 (cutL as H)) : Same H0 H := s.trans cutL_ext
theorem cut_le {as bs : List Addr} {H : Hp} (s : ∀ a ∈ as, a ∈ bs) : Same (cutL bs H) (cutL as H) := fun p o e => by
  by_cases h : p ∈ bs
  · unfold cutL at e; rw [if_pos h] at e; cases e
  · rw [cutL_get h] at e
    rw [cutL_get (fun z => h (s p z))]
    exact e
theorem cut_upd {as : List Addr} {H : Hp} {a : Addr} {o : HO} (n : a ∉ as) : cutL as (upd H a o) a = some o := by rw [cutL_get n]; exact upd_same
theorem sameE {H H' : Hp} (s : Same H H') : LamX.ExtN H H' := same_ext s
/-! ### programs -/
inductive St where
  | dd (x : Str)
  | ud (x : Str)
  | cl (x : Str)
  | ch (bs : List (List St))
  | lp (b : List St)
  | rt
  | en (b c : List St)
mutual
def St.d : St → PyData
  | .dd x => .tuple [.str "do", .str x]
  | .ud x => .tuple [.str "undo", .str x]
  | .cl x => .tuple [.str "call", .str x]
  | .ch bs => .tuple [.str "choose", .tuple (dss bs)]
  | .lp b => .tuple [.str "loop", .tuple (ds b)]
  | .rt => .tuple [.str "return"]
  | .en b c => .tuple [.str "ensure", .tuple (ds b), .tuple (ds c)]
def ds : List St → List PyData
  | [] => []
  | s :: r => s.d :: ds r
def dss : List (List St) → List PyData
  | [] => []
  | b :: r => .tuple (ds b) :: dss r
end
theorem ds_map : ∀ b : List St, ds b = b.map St.d
  | [] => rfl
  | s :: r => by rw [ds, ds_map r]; rfl
theorem dss_map : ∀ b : List (List St), dss b = b.map fun b => .tuple (ds b)
  | [] => rfl
  | s :: r => by rw [dss, dss_map r]; rfl
theorem ds_len (b : List St) : (ds b).length = b.length := by rw [ds_map, List.length_map]
theorem dss_len (b : List (List St)) : (dss b).length = b.length := by rw [dss_map, List.length_map]
/-- the bodies of a statement -/
def St.bs : St → List (List St)
  | .ch bs => bs
  | .lp b => [b]
  | .en b c => [b, c]
  | _ => []
-- how many statements
mutual
def St.n : St → Nat
  | .ch bs => 1 + nss bs
  | .lp b => 1 + ns b
  | .en b c => 1 + (ns b + ns c)
  | _ => 1
def ns : List St → Nat
  | [] => 0
  | s :: r => s.n + ns r
def nss : List (List St) → Nat
  | [] => 0
  | b :: r => ns b + nss r
end
-- the longest chain
mutual
def St.k : St → Nat
  | .ch bs => 1 + kss bs
  | .lp b => 1 + ks b
  | .en b c => 1 + max (ks b) (ks c)
  | _ => 1
def ks : List St → Nat
  | [] => 0
  | s :: r => max s.k (ks r)
def kss : List (List St) → Nat
  | [] => 0
  | b :: r => max (ks b) (kss r)
end
theorem n_bs : ∀ s : St, s.n = 1 + nss s.bs
  | .dd _ | .ud _ | .cl _ | .rt | .ch _ => rfl
  | .lp b => by simp [St.n, St.bs, nss]
  | .en b c => by simp [St.n, St.bs, nss]
theorem k_bs : ∀ s : St, s.k = 1 + kss s.bs
  | .dd _ | .ud _ | .cl _ | .rt | .ch _ => rfl
  | .lp b => by simp [St.k, St.bs, kss]
  | .en b c => by simp [St.k, St.bs, kss]
theorem n_pos (s : St) : 1 ≤ s.n := by rw [n_bs]; omega
theorem len_ns : ∀ b : List St, b.length ≤ ns b
  | [] => Nat.le_refl _
  | s :: r => by
    have := len_ns r
    have := n_pos s
    rw [List.length_cons, ns]
    omega
theorem ns_mem : ∀ {b : List St} {s : St}, s ∈ b → s.n ≤ ns b
  | s :: r, _, h => by
    rw [ns]
    rcases List.mem_cons.mp h with rfl | h
    · omega
    · have := ns_mem h; omega
theorem nss_mem : ∀ {b : List (List St)} {s : List St}, s ∈ b → ns s ≤ nss b
  | s :: r, _, h => by
    rw [nss]
    rcases List.mem_cons.mp h with rfl | h
    · omega
    · have := nss_mem h; omega
theorem ks_mem : ∀ {b : List St} {s : St}, s ∈ b → s.k ≤ ks b
  | s :: r, _, h => by
    rw [ks]
    rcases List.mem_cons.mp h with rfl | h
    · omega
    · have := ks_mem h; omega
theorem kss_mem : ∀ {b : List (List St)} {s : List St}, s ∈ b → ks s ≤ kss b
  | s :: r, _, h => by
    rw [kss]
    rcases List.mem_cons.mp h with rfl | h
    · omega
    · have := kss_mem h; omega
theorem ks_pos : ∀ {b : List St}, b ≠ [] → 1 ≤ ks b
  | s :: r, _ => by rw [ks, k_bs]; omega
theorem ns_app : ∀ a b : List St, ns (a ++ b) = ns a + ns b
  | [], b => by simp [ns]
  | s :: r, b => by rw [List.cons_append, ns, ns, ns_app r b]; omega
theorem ks_app : ∀ a b : List St, ks (a ++ b) = max (ks a) (ks b)
  | [], b => by simp [ks]
  | s :: r, b => by rw [List.cons_append, ks, ks, ks_app r b]; omega
-- names that are there, choices of two to six, returns where they are let
mutual
def St.ok (L N : List Str) (sec : Bool) : St → Prop
  | .dd x => x ∈ L
  | .ud x => x ∈ L
  | .cl x => x ∈ N
  | .ch bs => 2 ≤ bs.length ∧ bs.length ≤ 6 ∧ okss L N sec bs
  | .lp b => oks L N sec b
  | .rt => True
  | .en b c => oks L N sec b ∧ oks L N true c
def oks (L N : List Str) (sec : Bool) : List St → Prop
  | [] => True
  | s :: r => s.ok L N sec ∧ oks L N sec r
def okss (L N : List Str) (sec : Bool) : List (List St) → Prop
  | [] => True
  | b :: r => oks L N sec b ∧ okss L N sec r
end
theorem oks_iff {L N : List Str} {sec : Bool} : ∀ {b : List St}, oks L N sec b ↔ ∀ s ∈ b, s.ok L N sec
  | [] => by simp [oks]
  | s :: r => by rw [oks, oks_iff (b := r)]; simp
theorem okss_iff {L N : List Str} {sec : Bool} : ∀ {b : List (List St)}, okss L N sec b ↔ ∀ s ∈ b, oks L N sec s
  | [] => by simp [okss]
  | s :: r => by rw [okss, okss_iff (b := r)]; simp
-- a body that is let within a second body is let anywhere
mutual
theorem ok_weak {L N : List Str} (sec : Bool) : ∀ s : St, s.ok L N true → s.ok L N sec
  | .dd _, h | .ud _, h | .cl _, h => h
  | .ch bs, h => ⟨h.1, h.2.1, okss_weak sec bs h.2.2⟩
  | .lp b, h => oks_weak sec b h
  | .rt, h => h
  | .en b c, h => ⟨oks_weak sec b h.1, h.2⟩
theorem oks_weak {L N : List Str} (sec : Bool) : ∀ b : List St, oks L N true b → oks L N sec b
  | [], _ => trivial
  | s :: r, h => ⟨ok_weak sec s h.1, oks_weak sec r h.2⟩
theorem okss_weak {L N : List Str} (sec : Bool) : ∀ b : List (List St), okss L N true b → okss L N sec b
  | [], _ => trivial
  | s :: r, h => ⟨oks_weak sec s h.1, okss_weak sec r h.2⟩
end
end K06


set_option Elab.async false
set_option linter.all false
set_option maxRecDepth 100000
set_option maxHeartbeats 8000000
namespace K06
open PySem PySem.Spec PyProof.Rows L2
/-! ### tables -/
def genC (sc : Scope) : Bool := decide (sc.kind = .function) && !sc.isCoroutine && sc.names.all (fun y => !decide (y.2 = .cell)) && sc.names.all (fun y => !decide (y.2 = .free)) && decide (sc.names.lookup (".0" : Str) = some NameKind.local)
theorem gensc_by {sc : Scope} (h : genC sc = true) : UG.GenSc sc := by
  unfold genC at h
  simp only [Bool.and_eq_true, Bool.not_eq_true', decide_eq_true_eq, List.all_eq_true, decide_eq_false_iff_not] at h
  obtain ⟨⟨⟨⟨h1, h2⟩, h3⟩, h4⟩, h5⟩ := h
  exact ⟨h1, h2, h3, h4, h5⟩
def Keep (T : Addr) (H H' : Hp) : Prop := LamX.ExtN H H' ∧ GxR.TabG H' T
theorem keep_tabbed {T : Addr} {H H' : Hp} (h : GxR.TabG H T) (t : GxR.Tabbed T H H') : Keep T H H' := by
  refine ⟨fun b o e n => ?_, t.1⟩
  by_cases hb : b = T
  · obtain ⟨ps, hp, _⟩ := h
    rw [hb, hp] at e
    exact absurd (Option.some.inj e).symm (n ps)
  · rw [t.2 b hb]; exact e
theorem tabG_upd {T p : Addr} {H : Hp} {o : HO} (h : GxR.TabG H T) (hp : H p = none) : GxR.TabG (upd H p o) T := by
  obtain ⟨ps, h1, h2⟩ := h
  exact ⟨ps, by rw [upd_ne (ne_of_none h1 hp)]; exact h1, h2⟩
theorem inV_str (k : Str) : ∀ zs : List Str, inV (.str k) (zs.map V.str) = zs.any fun z => decide (k = z)
  | [] => rfl
  | z :: r => by
    have ih := inV_str k r
    show (eqV (.str z) (.str k) || inV (.str k) (r.map V.str)) = _
    rw [ih, List.any_cons]
    congr 1
    show (z == k) = decide (k = z)
    by_cases h : k = z
    · subst h; simp
    · rw [decide_eq_false h]; exact beq_eq_false_iff_ne.mpr (Ne.symm h)
theorem at0 {α : Type} (x : α) (r : List α) : atI (x :: r) 0 = some x := atI_nat (j := 0) rfl
theorem at1 {α : Type} (x y : α) (r : List α) : atI (x :: y :: r) 1 = some y := atI_nat (j := 1) rfl
theorem at2 {α : Type} (x y z : α) (r : List α) : atI (x :: y :: z :: r) 2 = some z := atI_nat (j := 2) rfl
theorem dec_str (k z : Str) : decide (V.str k = V.str z) = decide (k = z) := by
  by_cases h : k = z
  · subst h; simp
  · rw [decide_eq_false h, decide_eq_false (fun y => h (V.str.inj y))]
theorem dec_int (k z : Int) : decide (V.int k = V.int z) = decide (k = z) := by
  by_cases h : k = z
  · subst h; simp
  · rw [decide_eq_false h, decide_eq_false (fun y => h (V.int.inj y))]
theorem str_of {d : PyData} (h : isiD "str" d = true) : ∃ k, d = .str k := by
  cases d with
  | str k => exact ⟨k, rfl⟩
  | _ => exact absurd (show false = true from h) Bool.false_ne_true

theorem tup_of {d : PyData} (h : isiD "tuple" d = true) : ∃ ds, d = .tuple ds := by
  cases d with
  | tuple ds => exact ⟨ds, rfl⟩
  | _ => exact absurd (show false = true from h) Bool.false_ne_true
theorem len_ok {K : PySem.W.Frag} {H : Hp} {v : V} {ds : List PyData} (h : Dp K H v (.tuple ds)) : ∃ a xs, v = .ref a ∧ SqT K H a xs ∧ DpAll K H xs ds ∧ xs.length = ds.length := by
  cases h with
  | tup hs ha => exact ⟨_, _, rfl, hs, ha, dps_len ha⟩
/-- the tables of code objects -/
def Tbs (Ts : List Addr) (H : Hp) : Prop := ∀ T ∈ Ts, GxR.TabG H T
/-- all but the tables stays -/
def Go (Ts : List Addr) (H H' : Hp) : Prop := Tbs Ts H' ∧ Kp Ts H H'
theorem Tbs.same {Ts : List Addr} {H H' : Hp} (h : Tbs Ts H) (s : Same H H') : Tbs Ts H' := fun T hT => by
  obtain ⟨ps, h1, h2⟩ := h T hT
  exact ⟨ps, s _ _ h1, h2⟩
theorem Go.refl {Ts : List Addr} {H : Hp} (h : Tbs Ts H) : Go Ts H H := ⟨h, Kp.refl H⟩
theorem Go.trans {Ts : List Addr} {H H' H2 : Hp} (a : Go Ts H H') (b : Go Ts H' H2) : Go Ts H H2 := ⟨b.1, a.2.trans b.2⟩
theorem Go.of_same {Ts : List Addr} {H H' : Hp} (h : Tbs Ts H) (s : Same H H') : Go Ts H H' := ⟨h.same s, Kp.of_same s⟩
theorem Go.of_tab {Ts : List Addr} {T : Addr} {H H' : Hp} (h : Tbs Ts H) (hT : T ∈ Ts) (t : GxR.Tabbed T H H') : Go Ts H H' := by
  refine ⟨fun T' hT' => ?_, fun p o n e => ?_⟩
  · by_cases z : T' = T
    · rw [z]; exact t.1
    · obtain ⟨ps, h1, h2⟩ := h T' hT'
      exact ⟨ps, by rw [t.2 _ z]; exact h1, h2⟩
  · rw [t.2 p (fun z => n (by rw [z]; exact hT))]
    exact e
/-- tables are no data -/
theorem ext_cut {Ts ms : List Addr} {H : Hp} (h : Tbs Ts H) (n : ∀ a ∈ ms, H a = none) : LamX.ExtN H (cutL (ms ++ Ts) H) := fun p o e no => by
  rw [cutL_get]
  · exact e
  · intro z
    rcases List.mem_append.mp z with z | z
    · rw [n p z] at e; cases e
    · obtain ⟨ps, h1, _⟩ := h p z
      rw [h1] at e
      cases e
      exact no _ rfl
theorem ext_cut0 {Ts : List Addr} {H : Hp} (h : Tbs Ts H) : LamX.ExtN H (cutL Ts H) := ext_cut (ms := []) h (fun _ z => by cases z)
theorem Go.ext {Ts : List Addr} {H H' : Hp} (h : Tbs Ts H) (g : Go Ts H H') : LamX.ExtN H H' := (ext_cut0 h).trans ((same_ext g.2.cut).trans (same_ext cutL_ext))
theorem tbs_cut {Ts ms : List Addr} {H : Hp} {p : Addr} {o : HO} (h : Tbs Ts H) (hp : H p = none) : p ∉ Ts := fun z => by
  obtain ⟨ps, h1, _⟩ := h p z
  rw [h1] at hp; cases hp
/-! ### names -/
def nameB (s : Str) : Bool := decide (1 ≤ s.length) && decide (s.length ≤ 10) && (match s.cps.toList with | [] => false | c :: _ => decide (c ∈ smallL.cps.toList)) && !(keptW.any fun z => decide (s = z)) && s.cps.toList.all fun c => decide (c ∈ wordS.cps.toList)
def nameD : PyData → Bool
  | .str s => nameB s
  | _ => false
def strD : PyData → Prop
  | .str s => s.length ≤ sizeLine
  | _ => True
theorem nd1 : (["sign"] : List Str).Nodup := by decide +kernel
section
variable {P : Program} {w : World} {K : PySem.W.Frag} {mg : Str → Option Value} {base : Heap}

def spRow (K : PySem.W.Frag) : Sp := fun vs H Q _ => ∃ v d lo hi, vs = [v, .int lo, .int hi] ∧ Dp K H v d ∧ Q (.bl (rowD d lo hi)) H
theorem sc_is_row : FnScope ["thing", "low", "high"] ["thing", "low", "high"] (C8.fnScope (topS 5)) := C8.fnScope_by (by decide +kernel)
theorem ok_is_row {f : Addr} {fd : FuncData} (F : C8.Def K mg "is_row" (topS 5) f fd) (b : Binds K fd ["thing", "low", "high"] []) (B : Bl K mg)  : C8.Cal P w K mg base 1 "is_row" (spRow K) [] := by
  refine C8.cal0 F b .nil sc_is_row ?len ?body
  case len => rintro vs H Q E ⟨v, d, lo, hi, rfl, _⟩; rfl
  case body =>
    rintro cdv A outer s H vs Q E hr ⟨v, d, lo, hi, rfl, hd, q⟩
    refine ⟨_, (pss_one (ps_ret (pe_and (pe_isD (c := "tuple") B (pv 0) rfl rfl B.tuple (by decide +kernel) (by decide)) (pe_one (pe_chain op_le op_le (pv 1) (pe_callB call_len_seq rfl B.len PySem.boot_len (pa_cons (pv 0) pa_nil)) (pv 2)))))), ?_⟩
    refine ⟨_, rfl, v, d, rfl, hd, _, rfl, ?_⟩
    cases h : isiD "tuple" d with
    | false =>
      refine iteF ?_
      have e : rowD d lo hi = false := by
        cases d with
        | tuple ds => exact absurd (show true = false from h) (by decide)
        | _ => rfl
      rw [e] at q
      exact q
    | true =>
      obtain ⟨ds, rfl⟩ := tup_of h
      obtain ⟨a, xs, rfl, hs, ha, hl⟩ := len_ok hd
      refine iteT ⟨_, rfl, _, rfl, a, xs, rfl, .inr hs, _, _, rfl, rfl, _, rfl, ?_⟩
      rw [hl]
      have q' : Q (.bl (decide (lo ≤ (ds.length : Int)) && decide ((ds.length : Int) ≤ hi))) H := q
      cases h1 : decide (lo ≤ (ds.length : Int)) with
      | true =>
        rw [h1] at q'
        exact iteT ⟨_, rfl, _, _, rfl, rfl, q'⟩
      | false =>
        rw [h1] at q'
        exact iteF q'
def spName (K : PySem.W.Frag) (Ts : List Addr) : Sp := fun vs H Q _ => ∃ v d, vs = [v] ∧ Dp K H v d ∧ strD d ∧ Tbs Ts H ∧ ∀ H', Go Ts H H' → Q (.bl (nameD d)) H'
theorem sc_is_name : FnScope ["thing"] ["thing"] (C8.fnScope (topS 11)) := C8.fnScope_by (by decide +kernel)
theorem ok_is_name {Ts : List Addr} {f c T : Addr} {oc : Value} {od an : Option Addr} {kV doc pm ct : Value} {osl : Array (Option Value)}
    (lk : K.lookup f = some ⟨oc, od, .func (PySem.W.fnOf "is_name" "is_name" (C8.fnArgs (topS 11)) (C8.fnBody (topS 11)) (C8.fnScope (topS 11)) .none kV doc pm an (.ref c) ct), osl⟩) (hcd : PySem.W.codeIn K (.ref c) "is_name" = true)
    (TB : LamX.TabB base mg c T) (hT : T ∈ Ts) (B : Bl K mg) :
    FnOk P w K mg base C8.CX0 4 f (PySem.W.fnOf "is_name" "is_name" (C8.fnArgs (topS 11)) (C8.fnBody (topS 11)) (C8.fnScope (topS 11)) .none kV doc pm an (.ref c) ct) ["thing"] (spName K Ts) := by
  obtain ⟨ka, hka, hks⟩ := B.KEPT_WORDS
  refine fn_of lk hcd sc_is_name (by rintro vs H Q E ⟨v, d, rfl, _⟩; rfl) ?_
  intro A outer s H vs Q E hr hsp
  suffices h : ∃ t, PSs (cxOf C8.CX0 P w K mg base ["thing"] "is_name" (C8.fnScope (topS 11)) f (.ref c) A outer s H E).nox (C8.fnBody (topS 11)) t ∧ t { nx := fun _ H' => Q .non H', rt := Q } (start ["thing"] vs) H by
    obtain ⟨t, h1, h2⟩ := h
    exact ⟨t, h1.nox, h2⟩
  obtain ⟨v, d, rfl, hd, hsd, hTb, q⟩ := hsp
  refine ⟨_, pss_cons (ps_if (PW.pt (pw_or (pt_not (pt_val (pe_isD (c := "str") B (pv 0) rfl rfl B.str (by decide +kernel) (by decide)))) (pw_or1 (pt_not (pt_chain op_le op_le pe_int (pe_callB call_len_str rfl B.len PySem.boot_len (pa_cons (pv 0) pa_nil)) (pe_glob (v := .int 10) rfl B.MOST_SIGNS.choose_spec ⟨_, rfl⟩)))))) (pss_one (ps_ret pe_bl)) pss_nil)
    (pss_cons (ps_if (PW.pt (pw_or (pt_cmpR op_notIn_sign (pe_ix ix_str (pv 0) pe_int (fun _ _ => rfl)) (pe_glob (v := .str smallL) rfl B.SMALL_LETTERS.choose_spec ⟨_, rfl⟩) (by with_unfolding_all rfl)) (pw_or1 (pt_cmpR op_in_seq (pv 0) (pe_glob (v := .ref ka) rfl hka rfl) (by with_unfolding_all rfl))))) (pss_one (ps_ret pe_bl)) pss_nil)
    (pss_one (ps_ret (UG.pe_allG (P := T) (N := ["sign"]) (k := 0) (g := gName 0) (hr.mono (by decide)) rfl B.all (by decide +kernel) TB rfl (gensc_by (by decide +kernel)) (pi_str (pv 0))
      (fun _ _ _ _ _ _ _ => by exact pg_name (i := 0) nd1 rfl (Or.inl rfl))
      (fun _ _ _ _ _ _ _ => by exact pe_cmpR op_in_sign (pv 0) (pe_glob (v := .str wordS) rfl B.WORD_SIGNS.choose_spec ⟨_, rfl⟩) (by with_unfolding_all rfl)))))), ?_⟩
  have qH := q H (Go.refl hTb)
  refine ⟨_, rfl, v, d, rfl, hd, _, rfl, ?_⟩
  cases hstr : isiD "str" d with
  | false =>
    refine iteT ?_
    have e : nameD d = false := by
      cases d with
      | str k => exact absurd (show true = false from hstr) (by decide)
      | _ => rfl
    rw [e] at qH
    exact qH
  | true =>
    obtain ⟨k, rfl⟩ := str_of hstr
    cases hd
    refine iteF ?_
    have eD : nameD (.str k) = nameB k := rfl
    rw [eD] at qH
    refine ⟨_, rfl, k, rfl, hsd, _, _, rfl, rfl, _, rfl, ?_⟩
    cases h1 : decide ((1 : Int) ≤ ((k.length : Nat) : Int)) with
    | false =>
      refine iteF ⟨_, rfl, ?_⟩
      refine iteT ?_
      have e : nameB k = false := by
        have : decide (1 ≤ k.length) = false := by rw [decide_eq_false_iff_not] at h1 ⊢; omega
        unfold nameB
        rw [this]
        rfl
      rw [e] at qH
      exact qH
    | true =>
      refine iteT ⟨_, _, rfl, rfl, _, rfl, ?_⟩
      have h1' := of_decide_eq_true h1
      by_cases h2 : ((k.length : Nat) : Int) ≤ 10
      · rw [decide_eq_true h2]
        refine iteF ?_
        have l1 : decide (1 ≤ k.length) = true := by rw [decide_eq_true_eq]; omega
        have l2 : decide (k.length ≤ 10) = true := by rw [decide_eq_true_eq]; omega
        cases hc : k.cps.toList with
        | nil =>
          have : k.length = 0 := by
            show k.cps.size = 0
            rw [← Array.length_toList, hc]; rfl
          omega
        | cons c r =>
          have eN : nameB k = (decide (c ∈ smallL.cps.toList) && !(keptW.any fun z => decide (k = z)) && k.cps.toList.all fun c => decide (c ∈ wordS.cps.toList)) := by
            unfold nameB
            rw [l1, l2, hc]
            rfl
          refine ⟨_, rfl, k, 0, c, rfl, rfl, hsd, by rw [hc]; exact at0 _ _, c, smallL, rfl, rfl, _, rfl, ?_⟩
          cases h3 : decide (c ∈ smallL.cps.toList) with
          | false =>
            refine iteT ?_
            rw [h3] at eN
            rw [eN] at qH
            exact qH
          | true =>
            refine iteF ?_
            refine ⟨_, rfl, ka, _, rfl, .inr (hks H), rfl, by decide +kernel, _, rfl, ?_⟩
            show if inV (.str k) (keptW.map V.str) = true then _ else _
            rw [inV_str]
            cases h4 : (keptW.any fun z => decide (k = z)) with
            | true =>
              refine iteT ?_
              rw [h3, h4] at eN
              rw [eN] at qH
              exact qH
            | false =>
              refine iteF ?_
              rw [h3, h4] at eN
              have eN' : nameB k = k.cps.toList.all fun c => decide (c ∈ wordS.cps.toList) := eN
              rw [eD, eN'] at q
              refine ⟨_, rfl, k, rfl, hTb T hT, k.cps.size, fun i H' => i ≤ k.cps.size ∧ Go Ts H H' ∧ ∀ j e, j < i → k.cps[j]? = some e → decide (e ∈ wordS.cps.toList) = true, ⟨?_⟩, ?_⟩
              · rintro i H1 ⟨hi, hk, hall⟩
                by_cases hlt : i < k.cps.size
                · refine .inr ⟨hlt, hlt, ?_⟩
                  rintro x H' ⟨rfl, e, he, rfl⟩
                  refine ⟨_, rfl, e, wordS, rfl, rfl, _, rfl, ?_⟩
                  cases hb : decide (e ∈ wordS.cps.toList) with
                  | true =>
                    refine iteT ⟨hlt, hk, fun j e' hj he' => ?_⟩
                    rcases Nat.lt_succ_iff_lt_or_eq.mp hj with h | h
                    · exact hall j e' h he'
                    · subst h
                      rw [he] at he'
                      cases he'
                      exact hb
                  | false =>
                    refine iteF ?_
                    have := q _ hk
                    rw [show (k.cps.toList.all fun c => decide (c ∈ wordS.cps.toList)) = false from by
                      rw [List.all_eq_false]
                      exact ⟨e, by rw [Array.mem_toList_iff]; exact Array.mem_of_getElem? he, by rw [hb]; decide⟩] at this
                    exact this
                · have ei : i = k.cps.size := by omega
                  refine .inl ⟨by show k.cps.size ≤ i; omega, ?_⟩
                  have := q H1 hk
                  rw [show (k.cps.toList.all fun c => decide (c ∈ wordS.cps.toList)) = true from by
                    rw [List.all_eq_true]
                    intro e he
                    obtain ⟨j, hj, ej⟩ := List.getElem_of_mem he
                    exact hall j e (by rw [ei]; simpa using hj) (by rw [← ej]; simp at hj; simp [hj])] at this
                  exact this
              · intro H2 t2
                exact ⟨Nat.zero_le _, Go.of_tab hTb hT t2, fun j e hj => absurd hj (Nat.not_lt_zero _)⟩
      · rw [decide_eq_false h2]
        refine iteT ?_
        have e : nameB k = false := by
          have : decide (k.length ≤ 10) = false := by rw [decide_eq_false_iff_not]; omega
          unfold nameB
          rw [this, Bool.and_false]
          rfl
        rw [e] at qH
        exact qH
end
end K06


set_option Elab.async false
set_option linter.all false
set_option maxRecDepth 100000
set_option maxHeartbeats 8000000
namespace K06
open PySem PySem.Spec PyProof.Rows L2
theorem ifT {c : Bool} {p q : Prop} (h : c = true) (x : p) : if c = true then p else q := by rw [if_pos h]; exact x
theorem ifF {c : Bool} {p q : Prop} (h : c = false) (x : q) : if c = true then p else q := by rw [if_neg (by rw [h]; decide)]; exact x
-- bodies of at most sixty
mutual
def St.wd : St → Prop
  | .ch bs => wdbs bs
  | .lp b => b.length ≤ 60 ∧ wdl b
  | .en b c => (b.length ≤ 60 ∧ wdl b) ∧ c.length ≤ 60 ∧ wdl c
  | _ => True
def wdl : List St → Prop
  | [] => True
  | s :: r => s.wd ∧ wdl r
def wdbs : List (List St) → Prop
  | [] => True
  | b :: r => (b.length ≤ 60 ∧ wdl b) ∧ wdbs r
end
theorem wdl_iff : ∀ {b : List St}, wdl b ↔ ∀ s ∈ b, s.wd
  | [] => by simp [wdl]
  | s :: r => by rw [wdl, wdl_iff (b := r)]; simp
theorem wdbs_iff : ∀ {b : List (List St)}, wdbs b ↔ ∀ s ∈ b, s.length ≤ 60 ∧ wdl s
  | [] => by simp [wdbs]
  | s :: r => by rw [wdbs, wdbs_iff (b := r)]; simp
theorem wd_bs : ∀ {s : St}, s.wd → wdbs s.bs
  | .dd _, _ | .ud _, _ | .cl _, _ | .rt, _ => trivial
  | .ch _, h => h
  | .lp b, h => ⟨h, trivial⟩
  | .en b c, h => ⟨h.1, h.2, trivial⟩
mutual
theorem wd_n : ∀ s : St, s.n ≤ 60 → s.wd
  | .dd _, _ | .ud _, _ | .cl _, _ | .rt, _ => trivial
  | .ch bs, h => wdbs_n bs (by rw [St.n] at h; omega)
  | .lp b, h => by
    rw [St.n] at h
    exact ⟨Nat.le_trans (len_ns b) (by omega), wdl_n b (by omega)⟩
  | .en b c, h => by
    rw [St.n] at h
    exact ⟨⟨Nat.le_trans (len_ns b) (by omega), wdl_n b (by omega)⟩, Nat.le_trans (len_ns c) (by omega), wdl_n c (by omega)⟩
theorem wdl_n : ∀ b : List St, ns b ≤ 60 → wdl b
  | [], _ => trivial
  | s :: r, h => by
    rw [ns] at h
    exact ⟨wd_n s (by omega), wdl_n r (by omega)⟩
theorem wdbs_n : ∀ b : List (List St), nss b ≤ 60 → wdbs b
  | [], _ => trivial
  | s :: r, h => by
    rw [nss] at h
    exact ⟨⟨Nat.le_trans (len_ns s) (by omega), wdl_n s (by omega)⟩, wdbs_n r (by omega)⟩
end
theorem ok_bs {L N : List Str} {sec : Bool} : ∀ {s : St}, s.ok L N sec → ∀ b ∈ s.bs, ∃ sec', oks L N sec' b
  | .dd _, _, b, hb | .ud _, _, b, hb | .cl _, _, b, hb | .rt, _, b, hb => by cases hb
  | .ch _, h, b, hb => ⟨sec, okss_iff.mp h.2.2 b hb⟩
  | .lp b, h, b', hb => by
    cases List.mem_singleton.mp hb
    exact ⟨sec, h⟩
  | .en b c, h, b', hb => by
    rcases List.mem_cons.mp hb with rfl | hb
    · exact ⟨sec, h.1⟩
    · cases List.mem_singleton.mp hb
      exact ⟨true, h.2⟩
def Nok (L : List Str) : Prop := ∀ x ∈ L, nameB x = true
theorem nameB_len {x : Str} (h : nameB x = true) : x.length ≤ 10 := by
  unfold nameB at h
  simp only [Bool.and_eq_true, decide_eq_true_eq] at h
  exact h.1.1.1.2
theorem nameB_str {x : Str} (h : nameB x = true) : x.length ≤ sizeLine := Nat.le_trans (nameB_len h) (by decide)
theorem tail1 (x y : V) : cutV [x, y] (some 1) none = [y] := rfl
theorem tail2 (x y z : V) : cutV [x, y, z] (some 1) none = [y, z] := rfl
section
variable {P : Program} {w : World} {K : PySem.W.Frag} {mg : Str → Option Value} {base : Heap}

def spBod (K : PySem.W.Frag) : Sp := fun vs H Q _ => ∃ v s, vs = [v] ∧ Dp K H v (St.d s) ∧ ∀ v' H', Same H H' → Dp K H' v' (.tuple (dss s.bs)) → Q v' H'
theorem sc_bodies_of : FnScope ["statement"] ["statement"] (C8.fnScope (topS 27)) := C8.fnScope_by (by decide +kernel)
theorem ok_bodies_of {f : Addr} {fd : FuncData} (F : C8.Def K mg "bodies_of" (topS 27) f fd) (b : Binds K fd ["statement"] []) (B : Bl K mg)  : C8.Cal P w K mg base 1 "bodies_of" (spBod K) [] := by
  refine C8.cal0 F b .nil sc_bodies_of ?len ?body
  case len => rintro vs H Q E ⟨v, s, rfl, _⟩; rfl
  case body =>
    rintro cdv A outer s H vs Q E hr ⟨v, st, rfl, hd, q⟩
    refine ⟨_, (pss_cons (ps_if (pt_cmpR op_eq (pe_ix ix_tup (pv 0) pe_int (fun _ _ => rfl)) pe_str (nomark _)) (pss_one (ps_ret (pe_ix ix_tup (pv 0) pe_int (fun _ _ => rfl)))) pss_nil)
    (pss_cons (ps_if (pt_cmpR op_in_seq (pe_ix ix_tup (pv 0) pe_int (fun _ _ => rfl)) (pe_tup (pa_cons pe_str (pa_cons pe_str pa_nil))) (by with_unfolding_all rfl)) (pss_one (ps_ret (pe_slice sl_tupA (pv 0) (po_some pe_int) po_none))) pss_nil)
    (pss_one (ps_ret (pe_tup pa_nil))))), ?_⟩
    cases st with
    | dd x =>
      obtain ⟨a, xs, rfl, hs, ha, hl⟩ := len_ok hd
      cases ha with
      | cons h0 ha =>
      cases h0
      refine ⟨_, rfl, _, _, _, _, rfl, rfl, hs, at0 _ _, rfl, _, rfl, ?_⟩
      rw [dec_str]
      refine ifF (by decide +kernel) ?_
      refine ⟨_, rfl, _, _, _, _, rfl, rfl, hs, at0 _ _, (by show 2 ≤ sizeLine; decide), fun p hp => ⟨p, _, rfl, .inr (SqT.of upd_same), rfl, rfl, _, rfl, ?_⟩⟩
      refine ifF (by decide +kernel) ?_
      refine ⟨(by show 0 ≤ sizeLine; decide), fun p2 hp2 => ?_⟩
      exact q _ _ ((same_new hp _).trans (same_new hp2 _)) (.tup (SqT.of upd_same) .nil)
    | ud x =>
      obtain ⟨a, xs, rfl, hs, ha, hl⟩ := len_ok hd
      cases ha with
      | cons h0 ha =>
      cases h0
      refine ⟨_, rfl, _, _, _, _, rfl, rfl, hs, at0 _ _, rfl, _, rfl, ?_⟩
      rw [dec_str]
      refine ifF (by decide +kernel) ?_
      refine ⟨_, rfl, _, _, _, _, rfl, rfl, hs, at0 _ _, (by show 2 ≤ sizeLine; decide), fun p hp => ⟨p, _, rfl, .inr (SqT.of upd_same), rfl, rfl, _, rfl, ?_⟩⟩
      refine ifF (by decide +kernel) ?_
      refine ⟨(by show 0 ≤ sizeLine; decide), fun p2 hp2 => ?_⟩
      exact q _ _ ((same_new hp _).trans (same_new hp2 _)) (.tup (SqT.of upd_same) .nil)
    | cl x =>
      obtain ⟨a, xs, rfl, hs, ha, hl⟩ := len_ok hd
      cases ha with
      | cons h0 ha =>
      cases h0
      refine ⟨_, rfl, _, _, _, _, rfl, rfl, hs, at0 _ _, rfl, _, rfl, ?_⟩
      rw [dec_str]
      refine ifF (by decide +kernel) ?_
      refine ⟨_, rfl, _, _, _, _, rfl, rfl, hs, at0 _ _, (by show 2 ≤ sizeLine; decide), fun p hp => ⟨p, _, rfl, .inr (SqT.of upd_same), rfl, rfl, _, rfl, ?_⟩⟩
      refine ifF (by decide +kernel) ?_
      refine ⟨(by show 0 ≤ sizeLine; decide), fun p2 hp2 => ?_⟩
      exact q _ _ ((same_new hp _).trans (same_new hp2 _)) (.tup (SqT.of upd_same) .nil)
    | rt =>
      obtain ⟨a, xs, rfl, hs, ha, hl⟩ := len_ok hd
      cases ha with
      | cons h0 ha =>
      cases h0
      refine ⟨_, rfl, _, _, _, _, rfl, rfl, hs, at0 _ _, rfl, _, rfl, ?_⟩
      rw [dec_str]
      refine ifF (by decide +kernel) ?_
      refine ⟨_, rfl, _, _, _, _, rfl, rfl, hs, at0 _ _, (by show 2 ≤ sizeLine; decide), fun p hp => ⟨p, _, rfl, .inr (SqT.of upd_same), rfl, rfl, _, rfl, ?_⟩⟩
      refine ifF (by decide +kernel) ?_
      refine ⟨(by show 0 ≤ sizeLine; decide), fun p2 hp2 => ?_⟩
      exact q _ _ ((same_new hp _).trans (same_new hp2 _)) (.tup (SqT.of upd_same) .nil)
    | ch bs =>
      obtain ⟨a, xs, rfl, hs, ha, hl⟩ := len_ok hd
      cases ha with
      | cons h0 ha =>
      cases h0
      refine ⟨_, rfl, _, _, _, _, rfl, rfl, hs, at0 _ _, rfl, _, rfl, ?_⟩
      rw [dec_str]
      refine ifT (by decide +kernel) ?_
      cases ha with
      | cons h1 ha =>
        exact ⟨_, rfl, _, _, _, _, rfl, rfl, hs, at1 _ _ _, q _ H (Same.refl H) h1⟩
    | lp b =>
      obtain ⟨a, xs, rfl, hs, ha, hl⟩ := len_ok hd
      cases ha with
      | cons h0 ha =>
      cases h0
      refine ⟨_, rfl, _, _, _, _, rfl, rfl, hs, at0 _ _, rfl, _, rfl, ?_⟩
      rw [dec_str]
      refine ifF (by decide +kernel) ?_
      refine ⟨_, rfl, _, _, _, _, rfl, rfl, hs, at0 _ _, (by show 2 ≤ sizeLine; decide), fun p hp => ⟨p, _, rfl, .inr (SqT.of upd_same), rfl, rfl, _, rfl, ?_⟩⟩
      refine ifT (by decide +kernel) ?_
      cases ha with
      | @cons v1 _ _ _ h1 ha =>
        cases ha
        have hs' := sqt_ext (same_ext (same_new hp (.tup [.str "loop", .str "ensure"]))) hs
        refine ⟨_, rfl, 1, rfl, _, _, rfl, hs', fun w => ?_, fun _ r hr2 => ?_⟩
        · exact absurd w.1 (by show ¬ (HT.sIx 2 0 (some 1) = 0); decide)
        · have s2 := (same_new hp (.tup [.str "loop", .str "ensure"])).trans (same_new hr2 (.tup [v1]))
          exact q _ _ s2 (.tup (SqT.of upd_same) (.cons (dp_ext (same_ext s2) _ h1) .nil))
    | en b c =>
      obtain ⟨a, xs, rfl, hs, ha, hl⟩ := len_ok hd
      cases ha with
      | cons h0 ha =>
      cases h0
      refine ⟨_, rfl, _, _, _, _, rfl, rfl, hs, at0 _ _, rfl, _, rfl, ?_⟩
      rw [dec_str]
      refine ifF (by decide +kernel) ?_
      refine ⟨_, rfl, _, _, _, _, rfl, rfl, hs, at0 _ _, (by show 2 ≤ sizeLine; decide), fun p hp => ⟨p, _, rfl, .inr (SqT.of upd_same), rfl, rfl, _, rfl, ?_⟩⟩
      refine ifT (by decide +kernel) ?_
      cases ha with
      | @cons v1 _ _ _ h1 ha =>
        cases ha with
        | @cons v2 _ _ _ h2 ha =>
        cases ha
        have hs' := sqt_ext (same_ext (same_new hp (.tup [.str "loop", .str "ensure"]))) hs
        refine ⟨_, rfl, 1, rfl, _, _, rfl, hs', fun w => ?_, fun _ r hr2 => ?_⟩
        · exact absurd w.1 (by show ¬ (HT.sIx 3 0 (some 1) = 0); decide)
        · have s2 := (same_new hp (.tup [.str "loop", .str "ensure"])).trans (same_new hr2 (.tup [v1, v2]))
          exact q _ _ s2 (.tup (SqT.of upd_same) (.cons (dp_ext (same_ext s2) _ h1) (.cons (dp_ext (same_ext s2) _ h2) .nil)))

def spStm (K : PySem.W.Frag) (Ts : List Addr) : Sp := fun vs H Q _ => ∃ v s L N sec, vs = [v] ∧ Dp K H v (St.d s) ∧ s.ok L N sec ∧ Nok L ∧ Nok N ∧ Tbs Ts H ∧ ∀ H', Go Ts H H' → Q (.bl true) H'
theorem sc__is_statement : FnScope ["thing", "word"] ["thing"] (C8.fnScope (topS 26)) := C8.fnScope_by (by decide +kernel)
theorem ok__is_statement {Ts : List Addr} {f : Addr} {fd : FuncData} (F : C8.Def K mg "_is_statement" (topS 26) f fd) (b : Binds K fd ["thing"] []) (B : Bl K mg) (c_is_row : C8.Cal P w K mg base 1 "is_row" (spRow K) []) (c_is_name : C8.Cal P w K mg base 4 "is_name" (spName K Ts) []) : C8.Cal P w K mg base 5 "_is_statement" (spStm K Ts) [] := by
  refine C8.cal0 F b .nil sc__is_statement ?len ?body
  case len => rintro vs H Q E ⟨v, s, L, N, sec, rfl, _⟩; rfl
  case body =>
    rintro cdv A outer s H vs Q E hr ⟨v, st, L, N, sec, rfl, hd, hok, hL, hN, hTb, q⟩
    refine ⟨_, (pss_cons (ps_if (PW.pt (pw_or (pt_not (pt_val (C8.pe_c c_is_row hr (by decide) rfl (pa_cons (pv 0) (pa_cons pe_int (pa_cons pe_int pa_nil)))))) (pw_or1 (pt_not (pt_val (pe_isD (c := "str") B (pe_ix ix_tup (pv 0) pe_int (fun _ _ => rfl)) rfl rfl B.str (by decide +kernel) (by decide))))))) (pss_one (ps_ret pe_bl)) pss_nil)
    (pss_cons (ps_set (i := 1) sc__is_statement.nd rfl (Or.inl rfl) (pe_ix ix_tup (pv 0) pe_int (fun _ _ => rfl)))
    (pss_cons (ps_if (pt_cmpR op_in_seq (pv 1) (pe_tup (pa_cons pe_str (pa_cons pe_str (pa_cons pe_str pa_nil)))) (by with_unfolding_all rfl)) (pss_one (ps_ret (pe_and (pe_cmpR op_eq (pe_callB call_len_seq rfl B.len PySem.boot_len (pa_cons (pv 0) pa_nil)) pe_int (nomark _)) (pe_one (C8.pe_c c_is_name hr (by decide) rfl (pa_cons (pe_ix ix_tup (pv 0) pe_int (fun _ _ => rfl)) pa_nil)))))) pss_nil)
    (pss_cons (ps_if (pt_cmpR op_eq (pv 1) pe_str (nomark _)) (pss_one (ps_ret (pe_and (pe_cmpR op_eq (pe_callB call_len_seq rfl B.len PySem.boot_len (pa_cons (pv 0) pa_nil)) pe_int (nomark _)) (pe_one (C8.pe_c c_is_row hr (by decide) rfl (pa_cons (pe_ix ix_tup (pv 0) pe_int (fun _ _ => rfl)) (pa_cons (pe_glob (v := .int 2) rfl B.LEAST_BODIES.choose_spec ⟨_, rfl⟩) (pa_cons (pe_glob (v := .int 6) rfl B.MOST_BODIES.choose_spec ⟨_, rfl⟩) pa_nil)))))))) pss_nil)
    (pss_cons (ps_if (pt_cmpR op_eq (pv 1) pe_str (nomark _)) (pss_one (ps_ret (pe_cmpR op_eq (pe_callB call_len_seq rfl B.len PySem.boot_len (pa_cons (pv 0) pa_nil)) pe_int (nomark _)))) pss_nil)
    (pss_cons (ps_if (pt_cmpR op_eq (pv 1) pe_str (nomark _)) (pss_one (ps_ret (pe_cmpR op_eq (pe_callB call_len_seq rfl B.len PySem.boot_len (pa_cons (pv 0) pa_nil)) pe_int (nomark _)))) pss_nil)
    (pss_one (ps_ret (pe_and (pe_cmpR op_eq (pv 1) pe_str (nomark _)) (pe_one (pe_cmpR op_eq (pe_callB call_len_seq rfl B.len PySem.boot_len (pa_cons (pv 0) pa_nil)) pe_int (nomark _)))))))))))), ?_⟩
    cases st with
    | dd x =>
      have hd0 := hd
      obtain ⟨a, xs, rfl, hs, ha, hl⟩ := len_ok hd
      cases ha with
      | cons h0 ha =>
      cases h0
      refine ⟨_, rfl, _, _, 1, 3, rfl, hd0, _, rfl, ?_⟩
      refine iteF ?_
      refine ⟨_, rfl, _, _, _, _, rfl, rfl, hs, at0 _ _, _, _, rfl, .str _, _, rfl, ?_⟩
      refine iteF ?_
      refine ⟨_, rfl, _, _, _, _, rfl, rfl, hs, at0 _ _, ?_⟩
      refine ⟨_, rfl, (by show 3 ≤ sizeLine; decide), fun p hp => ⟨p, _, rfl, .inr (SqT.of upd_same), rfl, rfl, _, rfl, ?_⟩⟩
      have sN := same_new hp (.tup [.str "do", .str "undo", .str "call"])
      have hs' := sqt_ext (same_ext sN) hs
      have gN := Go.of_same hTb sN
      refine ifT (by decide +kernel) ?_
      cases ha with
      | cons h1 ha =>
      cases h1
      cases ha
      have hx : nameB x = true := hL x hok
      refine ⟨_, rfl, a, _, rfl, .inr hs', rfl, _, rfl, ?_⟩
      rw [dec_int]
      refine iteT ?_
      refine ⟨_, rfl, _, _, _, _, rfl, rfl, hs', at1 _ _ _, _, .str x, rfl, .str x, nameB_str hx, gN.1, fun H2 g2 => ?_⟩
      rw [show nameD (.str x) = true from hx]
      exact q _ (gN.trans g2)
    | ud x =>
      have hd0 := hd
      obtain ⟨a, xs, rfl, hs, ha, hl⟩ := len_ok hd
      cases ha with
      | cons h0 ha =>
      cases h0
      refine ⟨_, rfl, _, _, 1, 3, rfl, hd0, _, rfl, ?_⟩
      refine iteF ?_
      refine ⟨_, rfl, _, _, _, _, rfl, rfl, hs, at0 _ _, _, _, rfl, .str _, _, rfl, ?_⟩
      refine iteF ?_
      refine ⟨_, rfl, _, _, _, _, rfl, rfl, hs, at0 _ _, ?_⟩
      refine ⟨_, rfl, (by show 3 ≤ sizeLine; decide), fun p hp => ⟨p, _, rfl, .inr (SqT.of upd_same), rfl, rfl, _, rfl, ?_⟩⟩
      have sN := same_new hp (.tup [.str "do", .str "undo", .str "call"])
      have hs' := sqt_ext (same_ext sN) hs
      have gN := Go.of_same hTb sN
      refine ifT (by decide +kernel) ?_
      cases ha with
      | cons h1 ha =>
      cases h1
      cases ha
      have hx : nameB x = true := hL x hok
      refine ⟨_, rfl, a, _, rfl, .inr hs', rfl, _, rfl, ?_⟩
      rw [dec_int]
      refine iteT ?_
      refine ⟨_, rfl, _, _, _, _, rfl, rfl, hs', at1 _ _ _, _, .str x, rfl, .str x, nameB_str hx, gN.1, fun H2 g2 => ?_⟩
      rw [show nameD (.str x) = true from hx]
      exact q _ (gN.trans g2)
    | cl x =>
      have hd0 := hd
      obtain ⟨a, xs, rfl, hs, ha, hl⟩ := len_ok hd
      cases ha with
      | cons h0 ha =>
      cases h0
      refine ⟨_, rfl, _, _, 1, 3, rfl, hd0, _, rfl, ?_⟩
      refine iteF ?_
      refine ⟨_, rfl, _, _, _, _, rfl, rfl, hs, at0 _ _, _, _, rfl, .str _, _, rfl, ?_⟩
      refine iteF ?_
      refine ⟨_, rfl, _, _, _, _, rfl, rfl, hs, at0 _ _, ?_⟩
      refine ⟨_, rfl, (by show 3 ≤ sizeLine; decide), fun p hp => ⟨p, _, rfl, .inr (SqT.of upd_same), rfl, rfl, _, rfl, ?_⟩⟩
      have sN := same_new hp (.tup [.str "do", .str "undo", .str "call"])
      have hs' := sqt_ext (same_ext sN) hs
      have gN := Go.of_same hTb sN
      refine ifT (by decide +kernel) ?_
      cases ha with
      | cons h1 ha =>
      cases h1
      cases ha
      have hx : nameB x = true := hN x hok
      refine ⟨_, rfl, a, _, rfl, .inr hs', rfl, _, rfl, ?_⟩
      rw [dec_int]
      refine iteT ?_
      refine ⟨_, rfl, _, _, _, _, rfl, rfl, hs', at1 _ _ _, _, .str x, rfl, .str x, nameB_str hx, gN.1, fun H2 g2 => ?_⟩
      rw [show nameD (.str x) = true from hx]
      exact q _ (gN.trans g2)
    | rt =>
      have hd0 := hd
      obtain ⟨a, xs, rfl, hs, ha, hl⟩ := len_ok hd
      cases ha with
      | cons h0 ha =>
      cases h0
      refine ⟨_, rfl, _, _, 1, 3, rfl, hd0, _, rfl, ?_⟩
      refine iteF ?_
      refine ⟨_, rfl, _, _, _, _, rfl, rfl, hs, at0 _ _, _, _, rfl, .str _, _, rfl, ?_⟩
      refine iteF ?_
      refine ⟨_, rfl, _, _, _, _, rfl, rfl, hs, at0 _ _, ?_⟩
      refine ⟨_, rfl, (by show 3 ≤ sizeLine; decide), fun p hp => ⟨p, _, rfl, .inr (SqT.of upd_same), rfl, rfl, _, rfl, ?_⟩⟩
      have sN := same_new hp (.tup [.str "do", .str "undo", .str "call"])
      have hs' := sqt_ext (same_ext sN) hs
      have gN := Go.of_same hTb sN
      refine ifF (by decide +kernel) ?_
      refine ⟨_, rfl, rfl, _, rfl, ?_⟩
      rw [dec_str]
      refine ifF (by decide +kernel) ?_
      refine ⟨_, rfl, rfl, _, rfl, ?_⟩
      rw [dec_str]
      refine ifF (by decide +kernel) ?_
      refine ⟨_, rfl, rfl, _, rfl, ?_⟩
      rw [dec_str]
      refine ifF (by decide +kernel) ?_
      refine ⟨_, rfl, rfl, _, rfl, ?_⟩
      rw [dec_str]
      refine ifT (by decide +kernel) ?_
      refine ⟨_, rfl, a, _, rfl, .inr hs', rfl, ?_⟩
      rw [dec_int, hl]
      exact q _ gN
    | ch bs =>
      have hd0 := hd
      obtain ⟨a, xs, rfl, hs, ha, hl⟩ := len_ok hd
      cases ha with
      | cons h0 ha =>
      cases h0
      refine ⟨_, rfl, _, _, 1, 3, rfl, hd0, _, rfl, ?_⟩
      refine iteF ?_
      refine ⟨_, rfl, _, _, _, _, rfl, rfl, hs, at0 _ _, _, _, rfl, .str _, _, rfl, ?_⟩
      refine iteF ?_
      refine ⟨_, rfl, _, _, _, _, rfl, rfl, hs, at0 _ _, ?_⟩
      refine ⟨_, rfl, (by show 3 ≤ sizeLine; decide), fun p hp => ⟨p, _, rfl, .inr (SqT.of upd_same), rfl, rfl, _, rfl, ?_⟩⟩
      have sN := same_new hp (.tup [.str "do", .str "undo", .str "call"])
      have hs' := sqt_ext (same_ext sN) hs
      have gN := Go.of_same hTb sN
      refine ifF (by decide +kernel) ?_
      refine ⟨_, rfl, rfl, _, rfl, ?_⟩
      rw [dec_str]
      refine ifT (by decide +kernel) ?_
      cases ha with
      | cons h1 ha =>
      cases ha
      refine ⟨_, rfl, a, _, rfl, .inr hs', rfl, _, rfl, ?_⟩
      rw [dec_int]
      refine iteT ?_
      refine ⟨_, rfl, _, _, _, _, rfl, rfl, hs', at1 _ _ _, _, _, 2, 6, rfl, dp_ext (same_ext sN) _ h1, ?_⟩
      have hb := hok.1
      have hb2 := hok.2.1
      rw [show rowD (.tuple (dss bs)) 2 6 = true by
        show (decide ((2 : Int) ≤ ((dss bs).length : Int)) && decide (((dss bs).length : Int) ≤ 6)) = true
        rw [dss_len, Bool.and_eq_true, decide_eq_true_eq, decide_eq_true_eq]
        omega]
      exact q _ gN
    | lp b =>
      have hd0 := hd
      obtain ⟨a, xs, rfl, hs, ha, hl⟩ := len_ok hd
      cases ha with
      | cons h0 ha =>
      cases h0
      refine ⟨_, rfl, _, _, 1, 3, rfl, hd0, _, rfl, ?_⟩
      refine iteF ?_
      refine ⟨_, rfl, _, _, _, _, rfl, rfl, hs, at0 _ _, _, _, rfl, .str _, _, rfl, ?_⟩
      refine iteF ?_
      refine ⟨_, rfl, _, _, _, _, rfl, rfl, hs, at0 _ _, ?_⟩
      refine ⟨_, rfl, (by show 3 ≤ sizeLine; decide), fun p hp => ⟨p, _, rfl, .inr (SqT.of upd_same), rfl, rfl, _, rfl, ?_⟩⟩
      have sN := same_new hp (.tup [.str "do", .str "undo", .str "call"])
      have hs' := sqt_ext (same_ext sN) hs
      have gN := Go.of_same hTb sN
      refine ifF (by decide +kernel) ?_
      refine ⟨_, rfl, rfl, _, rfl, ?_⟩
      rw [dec_str]
      refine ifF (by decide +kernel) ?_
      refine ⟨_, rfl, rfl, _, rfl, ?_⟩
      rw [dec_str]
      refine ifT (by decide +kernel) ?_
      refine ⟨_, rfl, a, _, rfl, .inr hs', rfl, ?_⟩
      rw [dec_int, hl]
      exact q _ gN
    | en b c =>
      have hd0 := hd
      obtain ⟨a, xs, rfl, hs, ha, hl⟩ := len_ok hd
      cases ha with
      | cons h0 ha =>
      cases h0
      refine ⟨_, rfl, _, _, 1, 3, rfl, hd0, _, rfl, ?_⟩
      refine iteF ?_
      refine ⟨_, rfl, _, _, _, _, rfl, rfl, hs, at0 _ _, _, _, rfl, .str _, _, rfl, ?_⟩
      refine iteF ?_
      refine ⟨_, rfl, _, _, _, _, rfl, rfl, hs, at0 _ _, ?_⟩
      refine ⟨_, rfl, (by show 3 ≤ sizeLine; decide), fun p hp => ⟨p, _, rfl, .inr (SqT.of upd_same), rfl, rfl, _, rfl, ?_⟩⟩
      have sN := same_new hp (.tup [.str "do", .str "undo", .str "call"])
      have hs' := sqt_ext (same_ext sN) hs
      have gN := Go.of_same hTb sN
      refine ifF (by decide +kernel) ?_
      refine ⟨_, rfl, rfl, _, rfl, ?_⟩
      rw [dec_str]
      refine ifF (by decide +kernel) ?_
      refine ⟨_, rfl, rfl, _, rfl, ?_⟩
      rw [dec_str]
      refine ifF (by decide +kernel) ?_
      refine ⟨_, rfl, rfl, _, rfl, ?_⟩
      rw [dec_str]
      refine ifT (by decide +kernel) ?_
      refine ⟨_, rfl, a, _, rfl, .inr hs', rfl, ?_⟩
      rw [dec_int, hl]
      exact q _ gN
end
end K06


set_option Elab.async false
set_option linter.all false
set_option maxRecDepth 100000
set_option maxHeartbeats 8000000
namespace K06
open PySem PySem.Spec PyProof.Rows L2
/-! ### what stands in tuples stays -/
def Tk (H H' : Hp) : Prop := ∀ p xs, (H p = some (.tup xs) → H' p = some (.tup xs)) ∧ ∀ o, H p = some (.frz o (.tup xs)) → H' p = some (.frz o (.tup xs))
theorem Tk.refl (H : Hp) : Tk H H := fun _ _ => ⟨id, fun _ => id⟩
theorem Tk.trans {H H1 H2 : Hp} (a : Tk H H1) (b : Tk H1 H2) : Tk H H2 := fun p xs => ⟨fun h => (b p xs).1 ((a p xs).1 h), fun o h => (b p xs).2 o ((a p xs).2 o h)⟩
theorem Tk.same {H H' : Hp} (s : Same H H') : Tk H H' := fun p xs => ⟨fun h => s _ _ h, fun o h => s _ _ h⟩
theorem Tk.new {H : Hp} {a : Addr} (h : H a = none) (o : HO) : Tk H (upd H a o) := Tk.same (same_new h o)
theorem Tk.put {H : Hp} {a : Addr} {xs : List V} (h : H a = some (.lst xs)) (o : HO) : Tk H (upd H a o) := fun p ys => by
  constructor
  · intro e
    rw [upd_ne (fun z => by rw [z, h] at e; cases e)]
    exact e
  · intro u e
    rw [upd_ne (fun z => by rw [z, h] at e; cases e)]
    exact e
theorem Tk.putI {H : Hp} {a C dx : Addr} {fs : List (Str × V)} (h : H a = some (.ins C dx fs)) (o : HO) : Tk H (upd H a o) := fun p ys => by
  constructor
  · intro e
    rw [upd_ne (fun z => by rw [z, h] at e; cases e)]
    exact e
  · intro u e
    rw [upd_ne (fun z => by rw [z, h] at e; cases e)]
    exact e
theorem Tk.go {Ts : List Addr} {H H' : Hp} (t : Tbs Ts H) (g : Go Ts H H') : Tk H H' := fun p xs => by
  have n : ∀ o, H p = some o → (∀ ps, o ≠ .tbl ps) → p ∉ Ts := fun o e no z => by
    obtain ⟨ps, h1, _⟩ := t p z
    rw [h1] at e
    cases e
    exact no _ rfl
  exact ⟨fun e => g.2 _ _ (n _ e (fun ps z => by cases z)) e, fun o e => g.2 _ _ (n _ e (fun ps z => by cases z)) e⟩
-- data of tuples alone
mutual
def TupD : PyData → Prop
  | .list _ => False
  | .dict _ => False
  | .tuple xs => TupDs xs
  | _ => True
def TupDs : List PyData → Prop
  | [] => True
  | d :: r => TupD d ∧ TupDs r
end
theorem tupds_iff : ∀ {b : List PyData}, TupDs b ↔ ∀ s ∈ b, TupD s
  | [] => by simp [TupDs]
  | s :: r => by rw [TupDs, tupds_iff (b := r)]; simp
theorem Tk.sqt {K : PySem.W.Frag} {H H' : Hp} {a : Addr} {xs : List V} (t : Tk H H') (h : SqT K H a xs) : SqT K H' a xs := by
  rcases h with (h | ⟨o, h⟩) | h
  · exact .inl (.inl ((t _ _).1 h))
  · exact .inl (.inr ⟨o, (t _ _).2 o h⟩)
  · exact .inr h
mutual
theorem Tk.dp {K : PySem.W.Frag} {H H' : Hp} (t : Tk H H') : ∀ (d : PyData) {v : V}, TupD d → Dp K H v d → Dp K H' v d
  | .none, _, _, h => by cases h; exact .non
  | .bool _, _, _, h => by cases h; exact .bl _
  | .int _, _, _, h => by cases h; exact .int _
  | .str _, _, _, h => by cases h; exact .str _
  | .list _, _, n, _ => n.elim
  | .tuple ds, _, n, h => by
    cases h with
    | tup hs ha => exact .tup (t.sqt hs) (Tk.dps t ds n ha)
  | .dict _, _, n, _ => n.elim
theorem Tk.dps {K : PySem.W.Frag} {H H' : Hp} (t : Tk H H') : ∀ (ds : List PyData) {vs : List V}, TupDs ds → DpAll K H vs ds → DpAll K H' vs ds
  | [], _, _, h => by cases h; exact .nil
  | d :: ds, _, n, h => by
    cases h with
    | cons h1 h2 => exact .cons (Tk.dp t d n.1 h1) (Tk.dps t ds n.2 h2)
end
mutual
theorem tup_St : ∀ s : St, TupD s.d
  | .dd _ | .ud _ | .cl _ => ⟨trivial, trivial, trivial⟩
  | .ch bs => ⟨trivial, tup_dss bs, trivial⟩
  | .lp b => ⟨trivial, tup_ds b, trivial⟩
  | .rt => ⟨trivial, trivial⟩
  | .en b c => ⟨trivial, tup_ds b, tup_ds c, trivial⟩
theorem tup_ds : ∀ b : List St, TupDs (ds b)
  | [] => trivial
  | s :: r => ⟨tup_St s, tup_ds r⟩
theorem tup_dss : ∀ b : List (List St), TupDs (dss b)
  | [] => trivial
  | b :: r => ⟨tup_ds b, tup_dss r⟩
end
end K06


set_option Elab.async false
set_option linter.all false
set_option maxRecDepth 100000
set_option maxHeartbeats 8000000
namespace K06
open PySem PySem.Spec PyProof.Rows L2
-- how many bodies
mutual
def St.m : St → Nat
  | .ch bs => mss bs
  | .lp b => 1 + ms b
  | .en b c => (1 + ms b) + (1 + ms c)
  | _ => 0
def ms : List St → Nat
  | [] => 0
  | s :: r => s.m + ms r
def mss : List (List St) → Nat
  | [] => 0
  | b :: r => (1 + ms b) + mss r
end
theorem m_bs : ∀ s : St, s.m = mss s.bs
  | .dd _ | .ud _ | .cl _ | .rt | .ch _ => rfl
  | .lp b => by simp [St.m, St.bs, mss]
  | .en b c => by simp [St.m, St.bs, mss]
theorem mss_app : ∀ a b : List (List St), mss (a ++ b) = mss a + mss b
  | [], b => by simp [mss]
  | s :: r, b => by rw [List.cons_append, mss, mss, mss_app r b]; omega
theorem nss_app : ∀ a b : List (List St), nss (a ++ b) = nss a + nss b
  | [], b => by simp [nss]
  | s :: r, b => by rw [List.cons_append, nss, nss, nss_app r b]; omega
theorem len_mss : ∀ b : List (List St), b.length ≤ mss b
  | [] => Nat.le_refl _
  | s :: r => by
    have := len_mss r
    rw [List.length_cons, mss]
    omega
theorem mss_flat : ∀ b : List St, mss (b.flatMap St.bs) = ms b
  | [] => rfl
  | s :: r => by rw [List.flatMap_cons, mss_app, mss_flat r, ms, m_bs]
theorem mss_take : ∀ (l : List (List St)) (j : Nat), mss (l.take j) ≤ mss l
  | [], j => by simp
  | b :: r, 0 => by simp [mss]
  | b :: r, j + 1 => by
    have := mss_take r j
    rw [List.take_succ_cons, mss, mss]
    omega
theorem ms_take : ∀ {b : List St} {i : Nat} {s : St}, b[i]? = some s → ms (b.take i) + s.m ≤ ms b
  | [], i, s, h => by simp at h
  | x :: r, 0, s, h => by
    simp at h
    subst h
    simp [ms]
  | x :: r, i + 1, s, h => by
    have := ms_take (b := r) (i := i) (s := s) (by simpa using h)
    rw [List.take_succ_cons, ms, ms]
    omega
theorem nss_flat : ∀ b : List St, nss (b.flatMap St.bs) + b.length = ns b
  | [] => rfl
  | s :: r => by
    have := nss_flat r
    rw [List.flatMap_cons, nss_app, ns, n_bs, List.length_cons]
    omega
/-- the stack of bodies and their depths -/
inductive Stk (K : PySem.W.Frag) (H : Hp) : List V → List (List St × Nat) → Prop
  | nil : Stk K H [] []
  | snoc {vs : List V} {st : List (List St × Nat)} {p : Addr} {x : V} {b : List St} {d : Nat} : Stk K H vs st → SqT K H p [x, .int (d : Int)] → Dp K H x (.tuple (ds b)) → Stk K H (vs ++ [.ref p]) (st ++ [(b, d)])
theorem Stk.tk {K : PySem.W.Frag} {H H' : Hp} (e : Tk H H') {vs : List V} {st : List (List St × Nat)} (h : Stk K H vs st) : Stk K H' vs st := by
  induction h with
  | nil => exact .nil
  | snoc _ hp hx ih => exact .snoc ih (e.sqt hp) (e.dp _ (tup_ds _) hx)
theorem Stk.len {K : PySem.W.Frag} {H : Hp} {vs : List V} {st : List (List St × Nat)} (h : Stk K H vs st) : vs.length = st.length := by
  induction h with
  | nil => rfl
  | snoc _ _ _ ih => simp [ih]
def push (d : Nat) (bs : List (List St)) : List (List St × Nat) := bs.map fun b => (b, d)
theorem push_fst (d : Nat) (bs : List (List St)) : (push d bs).map Prod.fst = bs := by
  unfold push
  rw [List.map_map]
  exact List.map_id' bs
theorem push_app (d : Nat) (a b : List (List St)) : push d (a ++ b) = push d a ++ push d b := by
  unfold push
  rw [List.map_append]
theorem push_mem {d : Nat} {bs : List (List St)} {e : List St × Nat} (h : e ∈ push d bs) : e.1 ∈ bs ∧ e.2 = d := by
  unfold push at h
  obtain ⟨b, hb, rfl⟩ := List.mem_map.mp h
  exact ⟨hb, rfl⟩
theorem ext_kp {Ts ms : List Addr} {H H' : Hp} (h : Tbs Ts H) (n : ∀ a ∈ ms, H a = none) (k : Kp (ms ++ Ts) H H') : LamX.ExtN H H' := (ext_cut h n).trans ((same_ext k.cut).trans (same_ext cutL_ext))
theorem go_of {Ts ms : List Addr} {H H' : Hp} (n : ∀ a ∈ ms, H a = none) (t : Tbs Ts H') (k : Kp (ms ++ Ts) H H') : Go Ts H H' := ⟨t, fun p o hp e => k p o (fun z => by
  rcases List.mem_append.mp z with z | z
  · rw [n p z] at e; cases e
  · exact hp z) e⟩
theorem kp_go {Ts ms : List Addr} {H H' : Hp} (g : Go Ts H H') : Kp (ms ++ Ts) H H' := g.2.mono fun _ h => List.mem_append_right _ h
theorem tbs_upd {Ts : List Addr} {H : Hp} {a : Addr} {o o' : HO} (h : Tbs Ts H) (e : H a = some o) (n : ∀ ps, o ≠ .tbl ps) : Tbs Ts (upd H a o') := fun T hT => by
  obtain ⟨ps, h1, h2⟩ := h T hT
  refine ⟨ps, ?_, h2⟩
  rw [upd_ne (fun z => by rw [z, e] at h1; cases h1; exact n _ rfl)]
  exact h1
theorem tbs_new {Ts : List Addr} {H : Hp} {a : Addr} {o' : HO} (h : Tbs Ts H) (e : H a = none) : Tbs Ts (upd H a o') := h.same (same_new e _)
def Gd (L N : List Str) (e : List St × Nat) : Prop := ks e.1 + e.2 ≤ 13 ∧ (e.1.length ≤ 60 ∧ wdl e.1) ∧ ∃ sec, oks L N sec e.1
/-- the state of the walk -/
def AbI (K : PySem.W.Frag) (Ts : List Addr) (H0 : Hp) (Wd : Addr) (st : List (List St × Nat)) (H' : Hp) : Prop :=
  Tbs Ts H' ∧ Kp ([Wd] ++ Ts) H0 H' ∧ Tk H0 H' ∧ ∃ vs, H' Wd = some (.lst vs) ∧ Stk K H' vs st
theorem AbI.kp {K : PySem.W.Frag} {Ts : List Addr} {H0 H' H2 : Hp} {Wd : Addr} {st : List (List St × Nat)} (a : AbI K Ts H0 Wd st H') (nW : Wd ∉ Ts) (g : Go Ts H' H2) : AbI K Ts H0 Wd st H2 := by
  obtain ⟨t, k, tk, vs, h1, h2⟩ := a
  have t2 := Tk.go t g
  exact ⟨g.1, k.trans (kp_go g), tk.trans t2, vs, g.2 _ _ nW h1, h2.tk t2⟩
/-- one more on the stack -/
theorem AbI.push1 {K : PySem.W.Frag} {Ts : List Addr} {H0 H' : Hp} {Wd p : Addr} {st : List (List St × Nat)} {x : V} {b : List St} {d : Nat} {vs : List V} (a : AbI K Ts H0 Wd st H') (hp : H' p = none)
    (hv : (upd H' p (.tup [x, .int (d : Int)])) Wd = some (.lst vs)) (hx : Dp K H' x (.tuple (ds b))) : AbI K Ts H0 Wd (st ++ [(b, d)]) (upd (upd H' p (.tup [x, .int (d : Int)])) Wd (.lst (vs ++ [.ref p]))) := by
  obtain ⟨t, k, tk, vs', h1, h2⟩ := a
  have np : p ≠ Wd := fun z => by rw [← z, hp] at h1; cases h1
  have s1 := same_new hp (.tup [x, .int (d : Int)])
  have t1 : Tbs Ts (upd H' p (.tup [x, .int (d : Int)])) := t.same s1
  have hv' := hv
  rw [upd_ne (Ne.symm np), h1] at hv
  cases hv
  have t2 : Tk H' (upd (upd H' p (.tup [x, .int (d : Int)])) Wd (.lst (vs ++ [.ref p]))) := (Tk.same s1).trans (Tk.put hv' _)
  refine ⟨?_, k.trans ((Kp.of_same s1).trans (Kp.put _ (by simp))), tk.trans t2, _, upd_same, ?_⟩
  · exact tbs_upd t1 hv' (fun ps z => by cases z)
  · refine .snoc (h2.tk t2) (SqT.of ?_) (t2.dp _ (tup_ds b) hx)
    rw [upd_ne np]
    exact upd_same
section
variable {P : Program} {w : World} {K : PySem.W.Frag} {mg : Str → Option Value} {base : Heap}

def spAB (K : PySem.W.Frag) (Ts : List Addr) : Sp := fun vs H Q _ => ∃ a xs bl L N, vs = [.ref a] ∧ SqL K H a xs ∧ DpAll K H xs (dss bl) ∧ nss bl ≤ 200 ∧ mss bl ≤ 10000 ∧ kss bl ≤ 12 ∧ wdbs bl ∧ (∀ b ∈ bl, ∃ sec, oks L N sec b) ∧ Nok L ∧ Nok N ∧ Tbs Ts H ∧ ∀ H', Go Ts H H' → Q (.bl true) H'
theorem sc__are_bodies : FnScope ["bodies", "count", "waiting", "body", "depth", "statement", "inner"] ["bodies"] (C8.fnScope (topS 25)) := C8.fnScope_by (by decide +kernel)
theorem ok__are_bodies {Ts : List Addr} {f : Addr} {fd : FuncData} (F : C8.Def K mg "_are_bodies" (topS 25) f fd) (b : Binds K fd ["bodies"] []) (B : Bl K mg) (c_is_row : C8.Cal P w K mg base 1 "is_row" (spRow K) []) (c__is_statement : C8.Cal P w K mg base 5 "_is_statement" (spStm K Ts) []) (c_bodies_of : C8.Cal P w K mg base 1 "bodies_of" (spBod K) []) : C8.Cal P w K mg base 6 "_are_bodies" (spAB K Ts) [] := by
  refine C8.cal0 F b .nil sc__are_bodies ?len ?body
  case len => rintro vs H Q E ⟨a, xs, bl, L, N, rfl, _⟩; rfl
  case body =>
    rintro cdv A outer s H vs Q E hr ⟨a, xs, bl, L, N, rfl, hs, ha, hn, hm0, hk, hw, hok, hL, hN, hTb, q⟩
    refine ⟨_, (pss_cons (ps_set (i := 1) sc__are_bodies.nd rfl (Or.inl rfl) pe_int)
    (pss_cons (ps_setLc (i := 2) (own := [("body", 3)]) (g := gName 3) (by rfl) sc__are_bodies.nd rfl rfl (sw_true rfl rfl rfl (by decide +kernel)) (pi_list (pv 0)) (blkOk_by (own := [("body", 3)]) (N := ["bodies", "count", "waiting", "body", "depth", "statement", "inner"]) (sc := (C8.fnScope (topS 25))) (by decide +kernel)) (fun _ _ _ _ _ => pg_name (i := 3) sc__are_bodies.nd rfl (Or.inl rfl)) (fun _ _ _ _ _ => pts_nil) (fun _ _ _ _ _ => (pe_tup (pa_cons (pv 3) (pa_cons pe_int pa_nil)))))
    (pss_cons (ps_while PassesOwn.never (pt_truth (pv 2) (by intro _; rfl)) (pss_cons (ps_asg (pe_bm0 PySem.F.plainAttrs_list PySem.F.slot_list_pop PySem.F.type_list_pop mt_pop (pv 2)) (pg_tup rfl (pgs_cons (pg_name (i := 3) sc__are_bodies.nd rfl (Or.inl rfl)) (pgs_cons (pg_name (i := 4) sc__are_bodies.nd rfl (Or.inl rfl)) pgs_nil))))
    (pss_cons (ps_if (pt_not (pt_val (C8.pe_c c_is_row hr (by decide) rfl (pa_cons (pv 3) (pa_cons pe_int (pa_cons (pe_glob (v := .int 60) rfl B.MOST_IN_BODY.choose_spec ⟨_, rfl⟩) pa_nil)))))) (pss_one (ps_ret pe_bl)) pss_nil)
    (pss_cons (ps_aug (i := 1) sc__are_bodies.nd rfl (Or.inl rfl) (pe_callB call_len_seq rfl B.len PySem.boot_len (pa_cons (pv 3) pa_nil)) ip_add)
    (pss_cons (ps_if (PW.pt (pw_or (pt_cmpR op_gt (pv 1) (pe_glob (v := .int 200) rfl B.MOST_STATEMENTS.choose_spec ⟨_, rfl⟩) (nomark _)) (pw_or1 (PW.pt (pw_and (pt_truth (pv 3) (by intro _; rfl)) (pw_and1 (pt_cmpR op_gt (pv 4) (pe_glob (v := .int 12) rfl B.LONGEST_CHAIN.choose_spec ⟨_, rfl⟩) (nomark _)))))))) (pss_one (ps_ret pe_bl)) pss_nil)
    (pss_one (ps_for PassesOwn.never rfl (pi_tup (pv 3)) (pg_name (i := 5) sc__are_bodies.nd rfl (Or.inl rfl))
    (pss_cons (ps_if (pt_not (pt_val (C8.pe_c c__is_statement hr (by decide) rfl (pa_cons (pv 5) pa_nil)))) (pss_one (ps_ret pe_bl)) pss_nil)
    (pss_one (ps_for PassesOwn.never rfl (pi_tup (C8.pe_c c_bodies_of hr (by decide) rfl (pa_cons (pv 5) pa_nil))) (pg_name (i := 6) sc__are_bodies.nd rfl (Or.inl rfl))
    (pss_one (ps_expr (pe_bm PySem.F.plainAttrs_list PySem.F.slot_list_append PySem.F.type_list_append mt_append (pv 2) (pa_cons (pe_tup (pa_cons (pv 6) (pa_cons (pe_op op_add (pv 4) pe_int) pa_nil))) pa_nil))))))))))))))
    (pss_one (ps_ret pe_bl))))), ?_⟩
    have hbl := len_mss bl
    have hxl : xs.length = bl.length := by rw [dps_len ha, dss_len]
    refine ⟨_, rfl, a, rfl, ⟨_, hs⟩, fun Wd hWd => ?_⟩
    have nW : Wd ∉ Ts := tbs_cut (ms := []) (o := .rng 0 0) hTb hWd
    have nWs : ∀ p ∈ [Wd], H p = none := fun p hp => by cases List.mem_singleton.mp hp; exact hWd
    refine lc_list (xs := xs) (fun i H' => AbI K Ts H Wd (push 1 (bl.take i)) H') ?_ ?_ ?_ ?_
    · exact ⟨tbs_new hTb hWd, Kp.new _ hWd, Tk.new hWd _, [], upd_same, by rw [List.take_zero]; exact .nil⟩
    · rintro i H' _ ⟨_, k, _⟩
      exact sq_ext (ext_kp hTb nWs k) hs
    · rintro i x H1 hx hI
      obtain ⟨t, k, tk, vs, h1, h2⟩ := id hI
      obtain ⟨d, hd, hp⟩ := dps_get' ha hx
      rw [dss_map, List.getElem?_map] at hd
      obtain ⟨b, hb, rfl⟩ : ∃ b, bl[i]? = some b ∧ d = .tuple (ds b) := by
        cases e : bl[i]? with
        | none => rw [e] at hd; cases hd
        | some b => rw [e] at hd; exact ⟨b, rfl, (Option.some.inj hd).symm⟩
      have hdc := tk.dp (.tuple (ds b)) (tup_ds b) hp
      refine ⟨rfl, ?_⟩
      refine ⟨_, rfl, (by show 2 ≤ sizeLine; decide), fun p hp => ?_⟩
      have np : p ≠ Wd := fun z => by rw [← z, hp] at h1; cases h1
      refine ⟨vs, by rw [upd_ne (Ne.symm np)]; exact h1, ?_, ?_⟩
      · have hv := h2.len
        have hl2 : (push 1 (bl.take i)).length ≤ bl.length := by unfold push; rw [List.length_map]; exact List.length_take_le' _ _
        exact Nat.lt_of_le_of_lt (show vs.length ≤ 10000 by omega) (by decide)
      · have e : push 1 (bl.take (i + 1)) = push 1 (bl.take i) ++ [(b, 1)] := by
          rw [List.take_succ, hb, push_app]
          rfl
        rw [e]
        exact hI.push1 hp (by rw [upd_ne (Ne.symm np)]; exact h1) hdc
    · intro H1 hI
      rw [hxl, List.take_length] at hI
      have good0 : ∀ e ∈ push 1 bl, Gd L N e := fun e he => by
        obtain ⟨h1, h2⟩ := push_mem he
        refine ⟨?_, wdbs_iff.mp hw _ h1, hok _ h1⟩
        have := kss_mem h1
        omega
      refine ⟨fun m σ H' => ∃ (c : Nat) (st : List (List St × Nat)) (b3 b4 b5 b6 : Option V), m = mss (st.map Prod.fst) ∧ σ = [some (.ref a), some (.int (c : Int)), some (.ref Wd), b3, b4, b5, b6] ∧ AbI K Ts H Wd st H' ∧ c + nss (st.map Prod.fst) ≤ 200 ∧ mss (st.map Prod.fst) ≤ 10000 ∧ ∀ e ∈ st, Gd L N e,
        ⟨_, 0, _, none, none, none, none, rfl, rfl, hI, by rw [push_fst]; omega, by rw [push_fst]; exact hm0, good0⟩, ?_⟩
      rintro m σ H2 ⟨c, st, b3, b4, b5, b6, rfl, rfl, hI, hc, hm, hg⟩
      obtain ⟨t, k, tk, vs, h1, h2⟩ := id hI
      refine ⟨_, rfl, _, .inl ⟨_, SqL.of h1, rfl⟩, ?_⟩
      cases h2 with
      | nil =>
        refine ifF rfl ?_
        exact q H2 (go_of nWs t k)
      | @snoc vs' st' p x b d hst hp hx =>
        refine ifT (by simp) ?_
        refine ⟨fun σ' H' => ∃ (c : Nat) (st : List (List St × Nat)) (b3 b4 b5 b6 : Option V), mss (st.map Prod.fst) < mss ((st' ++ [(b, d)]).map Prod.fst) ∧ σ' = [some (.ref a), some (.int (c : Int)), some (.ref Wd), b3, b4, b5, b6] ∧ AbI K Ts H Wd st H' ∧ c + nss (st.map Prod.fst) ≤ 200 ∧ mss (st.map Prod.fst) ≤ 10000 ∧ ∀ e ∈ st, Gd L N e, ?_, ?_⟩
        · rintro σ' H' ⟨c, st, b3, b4, b5, b6, e1, e2, e3, e4, e5, e6⟩
          exact ⟨_, e1, c, st, b3, b4, b5, b6, rfl, e2, e3, e4, e5, e6⟩
        rw [List.map_append, nss_app] at hc
        rw [List.map_append, mss_app] at hm ⊢
        have hc : c + (nss (st'.map Prod.fst) + ns b) ≤ 200 := by
          have e : nss ([(b, d)].map Prod.fst) = ns b := by simp [nss]
          omega
        have em : mss ([(b, d)].map Prod.fst) = 1 + ms b := by simp [mss]
        rw [em] at hm ⊢
        have hgb := hg (b, d) (by simp)
        have hg' : ∀ e ∈ st', Gd L N e := fun e he => hg e (by simp [he])
        refine ⟨_, rfl, .inl ⟨rfl, _, SqL.of h1⟩, Wd, _, .ref p, rfl, rfl, h1, by simp, ?_⟩
        have tk3 : Tk H2 (upd H2 Wd (.lst (vs' ++ [V.ref p]).dropLast)) := Tk.put h1 _
        have I3 : AbI K Ts H Wd st' (upd H2 Wd (.lst (vs' ++ [V.ref p]).dropLast)) := ⟨tbs_upd t h1 (fun ps z => by cases z), k.trans (Kp.put _ (by simp)), tk.trans tk3, vs', by rw [List.dropLast_concat]; exact upd_same, hst.tk tk3⟩
        have hp3 := tk3.sqt hp
        have hx3 := tk3.dp (.tuple (ds b)) (tup_ds b) hx
        show (fun H3 => _) (upd H2 Wd (.lst (vs' ++ [V.ref p]).dropLast))
        generalize upd H2 Wd (.lst (vs' ++ [V.ref p]).dropLast) = H3 at I3 hp3 hx3
        clear tk3
        have hx3' := hx3
        obtain ⟨xa, xxs, rfl, hsx, hax, hlx⟩ := len_ok hx3
        refine ⟨p, _, rfl, hp3, rfl, _, _, rfl, _, _, rfl, rfl, ?_⟩
        have hrow : rowD (.tuple (ds b)) 0 60 = true := by
          have h60 : b.length ≤ 60 := hgb.2.1.1
          show (decide ((0 : Int) ≤ ((ds b).length : Int)) && decide (((ds b).length : Int) ≤ 60)) = true
          rw [ds_len, Bool.and_eq_true, decide_eq_true_eq, decide_eq_true_eq]
          omega
        refine ⟨_, rfl, _, _, 0, 60, rfl, hx3', _, rfl, ?_⟩
        rw [hrow]
        refine iteF ?_
        refine ⟨_, rfl, _, rfl, xa, xxs, rfl, .inr hsx, _, _, rfl, rfl, ?_⟩
        refine ⟨_, rfl, _, _, rfl, rfl, _, rfl, ?_⟩
        have hlb : xxs.length = b.length := by rw [hlx, ds_len]
        have hcb := len_ns b
        rw [hlb]
        rw [show decide ((200 : Int) < (c : Int) + (b.length : Int)) = false from decide_eq_false (by omega)]
        refine iteF ?_
        refine ⟨_, rfl, !xxs.isEmpty, .inr (.inl ⟨xxs, hsx, rfl⟩), ?_⟩
        have fin : xxs.isEmpty = true ∨ (xxs.isEmpty = false ∧ d ≤ 12) := by
          cases xxs with
          | nil => exact .inl rfl
          | cons x0 r =>
            refine .inr ⟨rfl, ?_⟩
            have : b ≠ [] := fun z => by rw [z] at hlb; simp at hlb
            have := ks_pos this
            have h13 : ks b + d ≤ 13 := hgb.1
            omega
        rcases fin with e | ⟨e, hd12⟩
        case' inl =>
          rw [e]
          refine iteF ?_
        case' inr =>
          rw [e]
          refine iteT ⟨_, rfl, _, _, rfl, rfl, _, rfl, ?_⟩
          rw [show decide ((12 : Int) < (d : Int)) = false from decide_eq_false (by omega)]
          refine iteF ?_
        all_goals
          refine ⟨_, rfl, xa, rfl, ⟨_, hsx⟩, ?_⟩
          refine for_tup (xs := xxs) (fun i σ H' => ∃ b5 b6, σ = [some (.ref a), some (.int ((c : Int) + (b.length : Int))), some (.ref Wd), some (.ref xa), some (.int (d : Int)), b5, b6] ∧ AbI K Ts H Wd (st' ++ push (d + 1) ((b.take i).flatMap St.bs)) H' ∧ Tk H3 H') ?_ ?_ ?_ ?_
          · exact ⟨b5, b6, rfl, by rw [List.take_zero]; simpa [push] using I3, Tk.refl _⟩
          · rintro i σ H' _ ⟨_, _, _, _, kk⟩
            exact kk.sqt hsx
          · rintro i x _ H4 hx ⟨b5', b6', rfl, I4, kk4⟩
            obtain ⟨dd, hdd, hdp⟩ := dps_get' hax hx
            rw [ds_map, List.getElem?_map] at hdd
            obtain ⟨s, hsb, rfl⟩ : ∃ s, b[i]? = some s ∧ dd = St.d s := by
              cases e : b[i]? with
              | none => rw [e] at hdd; cases hdd
              | some s => rw [e] at hdd; exact ⟨s, rfl, (Option.some.inj hdd).symm⟩
            have hsm : s ∈ b := List.mem_of_getElem? hsb
            obtain ⟨sec, hsec⟩ := hgb.2.2
            have hso : s.ok L N sec := oks_iff.mp hsec s hsm
            have hsw : s.wd := wdl_iff.mp hgb.2.1.2 s hsm
            have hd4 := kk4.dp _ (tup_St s) hdp
            refine ⟨_, rfl, x, s, L, N, sec, rfl, hd4, hso, hL, hN, I4.1, fun H5 g5 => ⟨_, rfl, ?_⟩⟩
            refine iteF ?_
            have I5 := I4.kp nW g5
            have kk5 : Tk H3 H5 := kk4.trans (Tk.go I4.1 g5)
            have hd5 := kk5.dp _ (tup_St s) hdp
            refine ⟨_, rfl, x, s, rfl, hd5, fun v' H6 s6 hd6 => ?_⟩
            obtain ⟨ra, rxs, rfl, hrs, hra, hrl⟩ := len_ok hd6
            have I6 := I5.kp nW (Go.of_same I5.1 s6)
            have kk6 : Tk H3 H6 := kk5.trans (Tk.same s6)
            refine ⟨ra, rfl, ⟨_, hrs⟩, ?_⟩
            have hrl2 : rxs.length = s.bs.length := by rw [hrl, dss_len]
            refine for_tup (xs := rxs) (fun j σ H' => ∃ b6, σ = [some (.ref a), some (.int ((c : Int) + (b.length : Int))), some (.ref Wd), some (.ref xa), some (.int (d : Int)), some x, b6] ∧ AbI K Ts H Wd (st' ++ push (d + 1) ((b.take i).flatMap St.bs) ++ push (d + 1) (s.bs.take j)) H' ∧ Tk H6 H') ?_ ?_ ?_ ?_
            · exact ⟨b6', rfl, by rw [List.take_zero]; simpa [push] using I6, Tk.refl _⟩
            · rintro j σ H' _ ⟨_, _, _, kk⟩
              exact kk.sqt hrs
            · rintro j y _ H7 hy ⟨b6'', rfl, I7, kk7⟩
              obtain ⟨t7, k7, tk7, vs7, h71, h72⟩ := id I7
              obtain ⟨dd, hdd, hdp2⟩ := dps_get' hra hy
              rw [dss_map, List.getElem?_map] at hdd
              obtain ⟨b2, hb2, rfl⟩ : ∃ b2, s.bs[j]? = some b2 ∧ dd = .tuple (ds b2) := by
                cases e : s.bs[j]? with
                | none => rw [e] at hdd; cases hdd
                | some s => rw [e] at hdd; exact ⟨s, rfl, (Option.some.inj hdd).symm⟩
              have hy7 := kk7.dp (.tuple (ds b2)) (tup_ds b2) hdp2
              refine ⟨_, rfl, .inl ⟨rfl, _, SqL.of h71⟩, _, rfl, _, rfl, _, _, rfl, rfl, (by show 2 ≤ sizeLine; decide), fun p7 hp7 => ?_⟩
              have np : p7 ≠ Wd := fun z => by rw [← z, hp7] at h71; cases h71
              have hW7 : upd H7 p7 (.tup [y, .int ((d : Int) + 1)]) Wd = some (.lst vs7) := by rw [upd_ne (Ne.symm np)]; exact h71
              refine ⟨Wd, vs7, _, rfl, rfl, hW7, ?_, ?_⟩
              · have l7 := h72.len
                have lm := len_mss ((st' ++ push (d + 1) ((b.take i).flatMap St.bs) ++ push (d + 1) (s.bs.take j)).map Prod.fst)
                rw [List.length_map, List.map_append, List.map_append, push_fst, push_fst, mss_app, mss_app, mss_flat] at lm
                have := mss_take s.bs j
                have := ms_take hsb
                have := m_bs s
                exact Nat.lt_of_le_of_lt (show vs7.length ≤ 10000 by omega) (by decide)
              · refine ⟨_, rfl, ?_, ?_⟩
                · have e : st' ++ push (d + 1) ((b.take i).flatMap St.bs) ++ push (d + 1) (s.bs.take (j + 1)) = (st' ++ push (d + 1) ((b.take i).flatMap St.bs) ++ push (d + 1) (s.bs.take j)) ++ [(b2, d + 1)] := by
                    rw [List.take_succ, hb2, push_app]
                    simp [push]
                  rw [e]
                  exact I7.push1 (d := d + 1) hp7 hW7 hy7
                · exact kk7.trans ((Tk.new hp7 _).trans (Tk.put hW7 _))
            · rintro σ H7 ⟨b6'', rfl, I7, kk7⟩
              refine ⟨_, _, rfl, ?_, kk6.trans kk7⟩
              have e : st' ++ push (d + 1) ((b.take (i + 1)).flatMap St.bs) = st' ++ push (d + 1) ((b.take i).flatMap St.bs) ++ push (d + 1) (s.bs.take rxs.length) := by
                rw [hrl2, List.take_length, List.take_succ, hsb, List.flatMap_append, push_app]
                simp
              rw [e]
              exact I7
          · rintro σ H' ⟨b5', b6', rfl, I4, kk4⟩
            rw [hlb, List.take_length] at I4
            refine ⟨c + b.length, _, _, _, _, _, ?_, by rw [Int.natCast_add], I4, ?_, ?_, ?_⟩
            · rw [List.map_append, push_fst, mss_app, mss_flat]
              omega
            · have := nss_flat b
              rw [List.map_append, push_fst, nss_app]
              omega
            · rw [List.map_append, push_fst, mss_app, mss_flat]
              omega
            · intro e he
              rcases List.mem_append.mp he with he | he
              · exact hg' e he
              · obtain ⟨h1, h2⟩ := push_mem he
                obtain ⟨s, hs1, hs2⟩ := List.mem_flatMap.mp h1
                obtain ⟨sec, hsec⟩ := hgb.2.2
                have hso : s.ok L N sec := oks_iff.mp hsec s hs1
                have hsw : s.wd := wdl_iff.mp hgb.2.1.2 s hs1
                refine ⟨?_, wdbs_iff.mp (wd_bs hsw) _ hs2, ok_bs hso _ hs2⟩
                have h13 : ks b + d ≤ 13 := hgb.1
                have := ks_mem hs1
                have := kss_mem hs2
                have := k_bs s
                omega
end
end K06


set_option Elab.async false
set_option linter.all false
set_option maxRecDepth 100000
set_option maxHeartbeats 8000000
namespace K06
open PySem PySem.Spec PyProof.Rows L2
def procD (p : Str × List St) : PyData := .tuple [.str p.1, .tuple (ds p.2)]
def progD (L : List Str) (P : List (Str × List St)) : PyData := .tuple [.tuple (L.map .str), .tuple (P.map procD)]
def nsP (P : List (Str × List St)) : List (List St) := P.map Prod.snd
/-- right by its form; A, B: all names of letters and procedures in it -/
structure Prog (L : List Str) (P : List (Str × List St)) (A B : List Str) : Prop where
  l1 : 1 ≤ L.length
  l2 : L.length ≤ 20
  p1 : 1 ≤ P.length
  p2 : P.length ≤ 8
  okA : Nok A
  okB : Nok B
  inA : ∀ x ∈ L, x ∈ A
  inB : ∀ x ∈ P.map Prod.fst, x ∈ B
  ok : ∀ b ∈ nsP P, oks A B false b
  wd : wdbs (nsP P)
  ks : kss (nsP P) ≤ 12
  n : nss (nsP P) ≤ 200
theorem tup_strs : ∀ L : List Str, TupDs (L.map PyData.str)
  | [] => trivial
  | _ :: r => ⟨trivial, tup_strs r⟩
theorem tup_proc (p : Str × List St) : TupD (procD p) := ⟨trivial, tup_ds p.2, trivial⟩
theorem tup_procs : ∀ P : List (Str × List St), TupDs (P.map procD)
  | [] => trivial
  | p :: r => ⟨tup_proc p, tup_procs r⟩
theorem tup_prog (L : List Str) (P : List (Str × List St)) : TupD (progD L P) := ⟨tup_strs L, tup_procs P, trivial⟩
-- choices have six bodies at most
mutual
theorem m_n {L N : List Str} : ∀ (sec : Bool) (s : St), s.ok L N sec → s.m ≤ 6 * s.n
  | _, .dd _, _ | _, .ud _, _ | _, .cl _, _ | _, .rt, _ => by simp [St.m]
  | sec, .ch bs, h => by
    have := mss_n sec bs h.2.2
    have := h.2.1
    rw [St.m, St.n]
    omega
  | sec, .lp b, h => by
    have := ms_n sec b h
    rw [St.m, St.n]
    omega
  | sec, .en b c, h => by
    have := ms_n sec b h.1
    have := ms_n true c h.2
    rw [St.m, St.n]
    omega
theorem ms_n {L N : List Str} : ∀ (sec : Bool) (b : List St), oks L N sec b → ms b ≤ 6 * ns b
  | _, [], _ => by simp [ms]
  | sec, s :: r, h => by
    have := m_n sec s h.1
    have := ms_n sec r h.2
    rw [ms, ns]
    omega
theorem mss_n {L N : List Str} : ∀ (sec : Bool) (b : List (List St)), okss L N sec b → mss b ≤ b.length + 6 * nss b
  | _, [], _ => by simp [mss]
  | sec, s :: r, h => by
    have := ms_n sec s h.1
    have := mss_n sec r h.2
    rw [mss, nss, List.length_cons]
    omega
end
theorem dps_app {K : PySem.W.Frag} {H : Hp} : ∀ {vs ws : List V} {ds es : List PyData}, DpAll K H vs ds → DpAll K H ws es → DpAll K H (vs ++ ws) (ds ++ es)
  | _, _, _, _, .nil, h => h
  | _, _, _, _, .cons a t, h => .cons a (dps_app t h)
theorem ndl : (["letter"] : List Str).Nodup := by decide +kernel
theorem strs_get {L : List Str} {i : Nat} {d : PyData} (h : (L.map PyData.str)[i]? = some d) : ∃ x, L[i]? = some x ∧ d = .str x := by
  rw [List.getElem?_map] at h
  cases e : L[i]? with
  | none => rw [e] at h; cases h
  | some s => rw [e] at h; exact ⟨s, rfl, (Option.some.inj h).symm⟩
theorem procs_get {P : List (Str × List St)} {i : Nat} {d : PyData} (h : (P.map procD)[i]? = some d) : ∃ x, P[i]? = some x ∧ d = procD x := by
  rw [List.getElem?_map] at h
  cases e : P[i]? with
  | none => rw [e] at h; cases h
  | some s => rw [e] at h; exact ⟨s, rfl, (Option.some.inj h).symm⟩
section
variable {P : Program} {w : World} {K : PySem.W.Frag} {mg : Str → Option Value} {base : Heap}

def spProg (K : PySem.W.Frag) (Ts : List Addr) : Sp := fun vs H Q _ => ∃ v L P A B, vs = [v] ∧ Dp K H v (progD L P) ∧ Prog L P A B ∧ Tbs Ts H ∧ ∀ H', Go Ts H H' → Q (.bl true) H'
theorem sc_is_program : FnScope ["thing", "letters", "procedures", "procedure"] ["thing"] (C8.fnScope (topS 24)) := C8.fnScope_by (by decide +kernel)
theorem ok_is_program {Ts : List Addr} {f c T : Addr} {oc : Value} {od an : Option Addr} {kV doc pm ct : Value} {osl : Array (Option Value)}
    (lk : K.lookup f = some ⟨oc, od, .func (PySem.W.fnOf "is_program" "is_program" (C8.fnArgs (topS 24)) (C8.fnBody (topS 24)) (C8.fnScope (topS 24)) .none kV doc pm an (.ref c) ct), osl⟩) (hcd : PySem.W.codeIn K (.ref c) "is_program" = true)
    (TB : LamX.TabB base mg c T) (hT : T ∈ Ts) (B : Bl K mg) (c_is_row : C8.Cal P w K mg base 1 "is_row" (spRow K) []) (c_is_name : C8.Cal P w K mg base 4 "is_name" (spName K Ts) []) (c__are_bodies : C8.Cal P w K mg base 6 "_are_bodies" (spAB K Ts) []) :
    FnOk P w K mg base C8.CX0 8 f (PySem.W.fnOf "is_program" "is_program" (C8.fnArgs (topS 24)) (C8.fnBody (topS 24)) (C8.fnScope (topS 24)) .none kV doc pm an (.ref c) ct) ["thing"] (spProg K Ts) := by
  refine fn_of lk hcd sc_is_program (by rintro vs H Q E ⟨v, _, _, _, _, rfl, _⟩; rfl) ?_
  intro A outer s H vs Q E hr hsp
  suffices h : ∃ t, PSs (cxOf C8.CX0 P w K mg base ["thing", "letters", "procedures", "procedure"] "is_program" (C8.fnScope (topS 24)) f (.ref c) A outer s H E).nox (C8.fnBody (topS 24)) t ∧ t { nx := fun _ H' => Q .non H', rt := Q } (start ["thing", "letters", "procedures", "procedure"] vs) H by
    obtain ⟨t, h1, h2⟩ := h
    exact ⟨t, h1.nox, h2⟩
  obtain ⟨v, L, Ps, AL, BN, rfl, hd, hP, hTb, q⟩ := hsp
  refine ⟨_, (pss_cons (ps_if (pt_not (pt_val (C8.pe_c c_is_row hr (by decide) rfl (pa_cons (pv 0) (pa_cons pe_int (pa_cons pe_int pa_nil)))))) (pss_one (ps_ret pe_bl)) pss_nil)
    (pss_cons (ps_asg (pv 0) (pg_tup rfl (pgs_cons (pg_name (i := 1) sc_is_program.nd rfl (Or.inl rfl)) (pgs_cons (pg_name (i := 2) sc_is_program.nd rfl (Or.inl rfl)) pgs_nil))))
    (pss_cons (ps_if (PW.pt (pw_or (pt_not (pt_val (C8.pe_c c_is_row hr (by decide) rfl (pa_cons (pv 1) (pa_cons pe_int (pa_cons (pe_glob (v := .int 20) rfl B.MOST_LETTERS.choose_spec ⟨_, rfl⟩) pa_nil)))))) (pw_or1 (pt_not (pt_val (C8.pe_c c_is_row hr (by decide) rfl (pa_cons (pv 2) (pa_cons pe_int (pa_cons (pe_glob (v := .int 8) rfl B.MOST_PROCEDURES.choose_spec ⟨_, rfl⟩) pa_nil))))))))) (pss_one (ps_ret pe_bl)) pss_nil)
    (pss_cons (ps_for PassesOwn.never rfl (pi_tup (pv 2)) (pg_name (i := 3) sc_is_program.nd rfl (Or.inl rfl))
    (pss_one (ps_if (PW.pt (pw_or (pt_not (pt_val (C8.pe_c c_is_row hr (by decide) rfl (pa_cons (pv 3) (pa_cons pe_int (pa_cons pe_int pa_nil)))))) (pw_or1 (pt_not (pt_val (C8.pe_c c_is_name hr (by decide) rfl (pa_cons (pe_ix ix_tup (pv 3) pe_int (fun _ _ => rfl)) pa_nil))))))) (pss_one (ps_ret pe_bl)) pss_nil)))
    (pss_one (ps_ret (pe_and (UG.pe_allG (P := T) (N := ["letter"]) (k := 4) (g := gName 0) (hr.mono (by decide)) rfl B.all (by decide +kernel) TB rfl (gensc_by (by decide +kernel)) (pi_tup (pv 1))
      (fun _ _ _ _ _ _ _ => by exact pg_name (i := 0) ndl rfl (Or.inl rfl))
      (fun _ _ _ _ _ _ hr' => by exact C8.pe_c c_is_name hr' (by decide) rfl (pa_cons (pv 0) pa_nil))) (pe_one (C8.pe_c c__are_bodies hr (by decide) rfl (pa_cons (pe_lc (own := [("procedure", 3)]) (g := gName 3) (te := tOp (rIxT K) (tVar 3) (tC (.int 1))) (by rfl) sc_is_program.nd (pi_tup (pv 2)) (blkOk_by (own := [("procedure", 3)]) (N := ["thing", "letters", "procedures", "procedure"]) (sc := (C8.fnScope (topS 24))) (by decide +kernel)) (fun _ _ _ _ _ => pg_name (i := 3) sc_is_program.nd rfl (Or.inl rfl)) (fun _ _ _ _ _ => pts_nil) (fun _ _ _ _ _ => by exact (pe_ix ix_tup (pv 3) pe_int (fun _ _ => rfl)))) pa_nil)))))))))), ?_⟩
  have hd0 := hd
  obtain ⟨a, xs, rfl, hs, ha, hl⟩ := len_ok hd
  cases ha with
  | @cons vL _ _ _ hvL ha =>
  cases ha with
  | @cons vP _ _ _ hvP ha =>
  cases ha
  refine ⟨_, rfl, _, _, 2, 2, rfl, hd0, _, rfl, ?_⟩
  refine iteF ?_
  refine ⟨_, rfl, a, _, rfl, hs, rfl, _, _, rfl, _, _, rfl, rfl, ?_⟩
  refine ⟨_, rfl, _, _, 1, 20, rfl, hvL, _, rfl, ?_⟩
  have l1 := hP.l1
  have l2 := hP.l2
  have p1 := hP.p1
  have p2 := hP.p2
  rw [show rowD (.tuple (L.map PyData.str)) 1 20 = true by
    show (decide ((1 : Int) ≤ ((L.map PyData.str).length : Int)) && decide (((L.map PyData.str).length : Int) ≤ 20)) = true
    rw [List.length_map, Bool.and_eq_true, decide_eq_true_eq, decide_eq_true_eq]
    omega]
  refine iteF ?_
  refine ⟨_, rfl, _, _, 1, 8, rfl, hvP, _, rfl, ?_⟩
  rw [show rowD (.tuple (Ps.map procD)) 1 8 = true by
    show (decide ((1 : Int) ≤ ((Ps.map procD).length : Int)) && decide (((Ps.map procD).length : Int) ≤ 8)) = true
    rw [List.length_map, Bool.and_eq_true, decide_eq_true_eq, decide_eq_true_eq]
    omega]
  refine iteF ?_
  have hvL0 := hvL
  have hvP0 := hvP
  obtain ⟨la, lxs, rfl, hls, hla, hll⟩ := len_ok hvL
  obtain ⟨pa, pxs, rfl, hps, hpa, hpl⟩ := len_ok hvP
  rw [List.length_map] at hll hpl
  refine ⟨_, rfl, pa, rfl, ⟨_, hps⟩, ?_⟩
  refine for_tup (xs := pxs) (fun i σ H' => ∃ b3, σ = [some (.ref a), some (.ref la), some (.ref pa), b3] ∧ Go Ts H H') ?_ ?_ ?_ ?_
  · exact ⟨none, rfl, Go.refl hTb⟩
  · rintro i σ H' _ ⟨_, _, g⟩
    exact (Tk.go hTb g).sqt hps
  · rintro i x _ H1 hx ⟨b3, rfl, g⟩
    obtain ⟨d, hd, hdp⟩ := dps_get' hpa hx
    obtain ⟨p, hp, rfl⟩ := procs_get hd
    have hd1 := (Tk.go hTb g).dp _ (tup_proc p) hdp
    refine ⟨_, rfl, _, _, 2, 2, rfl, hd1, _, rfl, ?_⟩
    refine iteF ?_
    obtain ⟨qa, qxs, rfl, hqs, hqa, hql⟩ := len_ok hd1
    cases hqa with
    | @cons v0 _ _ _ h0 hqa =>
    have hnm : nameB p.1 = true := hP.okB p.1 (hP.inB _ (List.mem_map.mpr ⟨p, List.mem_of_getElem? hp, rfl⟩))
    refine ⟨_, rfl, _, _, _, _, rfl, rfl, hqs, at0 _ _, v0, _, rfl, h0, nameB_str hnm, g.1, fun H2 g2 => ⟨_, rfl, ?_⟩⟩
    rw [show nameD (.str p.1) = true from hnm]
    refine iteF ?_
    exact ⟨_, rfl, g.trans g2⟩
  · rintro σ H1 ⟨b3, rfl, g1⟩
    have hls1 := (Tk.go hTb g1).sqt hls
    refine ⟨_, rfl, la, rfl, ⟨_, hls1⟩, g1.1 T hT, lxs.length, fun i H' => i ≤ lxs.length ∧ Go Ts H H', ⟨?_⟩, ?_⟩
    · rintro i H2 ⟨hi, g2⟩
      have hls2 := (Tk.go hTb g2).sqt hls
      by_cases hlt : i < lxs.length
      · refine .inr ⟨hlt, ⟨_, _, hls2, List.getElem?_eq_getElem hlt⟩, ?_⟩
        rintro x H3 ⟨rfl, hx⟩
        have ex := hx _ hls2
        obtain ⟨d, hd, hdp⟩ := dps_get' hla ex
        obtain ⟨y, hy, rfl⟩ := strs_get hd
        cases hdp
        have hnm : nameB y = true := hP.okA y (hP.inA _ (List.mem_of_getElem? hy))
        refine ⟨_, rfl, .str y, .str y, rfl, .str y, nameB_str hnm, g2.1, fun H4 g4 => ⟨_, rfl, ?_⟩⟩
        rw [show nameD (.str y) = true from hnm]
        exact iteT ⟨hlt, g2.trans g4⟩
      · refine .inl ⟨⟨_, hls2, by omega⟩, ⟨_, rfl, ?_⟩⟩
        refine iteT ?_
        have hps2 := (Tk.go hTb g2).sqt hps
        refine ⟨_, rfl, pa, rfl, ⟨_, hps2⟩, fun Dd hDd => ?_⟩
        have bodies : ∀ i : Nat, i ≤ Ps.length → True := fun _ _ => trivial
        refine lc_tup (xs := pxs) (fun i H' => ∃ vs, H' Dd = some (.lst vs) ∧ DpAll K H' vs (dss ((nsP Ps).take i)) ∧ Tbs Ts H' ∧ Same H2 H') ?_ ?_ ?_ ?_
        · exact ⟨[], upd_same, by rw [List.take_zero]; exact .nil, tbs_new g2.1 hDd, same_new hDd _⟩
        · rintro i H' _ ⟨_, _, _, _, s5⟩
          exact (Tk.same s5).sqt hps2
        · rintro i x H5 hx ⟨vs, hv1, hv2, t5, s5⟩
          obtain ⟨d, hd, hdp⟩ := dps_get' hpa hx
          obtain ⟨p, hp, rfl⟩ := procs_get hd
          have hd1 := ((Tk.go hTb g2).trans (Tk.same s5)).dp _ (tup_proc p) hdp
          obtain ⟨qa, qxs, rfl, hqs, hqa, hql⟩ := len_ok hd1
          cases hqa with
          | @cons v0 _ _ _ h0 hqa =>
          cases hqa with
          | @cons v1 _ _ _ h1 hqa =>
          refine ⟨rfl, ?_⟩
          refine ⟨_, rfl, _, _, _, _, rfl, rfl, hqs, at1 _ _ _, vs, hv1, ?_, _, upd_same, ?_, tbs_upd t5 hv1 (fun ps z => by cases z), ?_⟩
          · have := dps_len hv2
            rw [dss_len] at this
            have h3 : ((nsP Ps).take i).length ≤ (nsP Ps).length := List.length_take_le' _ _
            have h4 : (nsP Ps).length = Ps.length := by unfold nsP; rw [List.length_map]
            exact Nat.lt_of_le_of_lt (show vs.length ≤ 10000 by omega) (by decide)
          · have tk5 : Tk H5 (upd H5 Dd (.lst (vs ++ [v1]))) := Tk.put hv1 _
            have e : (nsP Ps).take (i + 1) = (nsP Ps).take i ++ [p.2] := by
              unfold nsP
              rw [List.take_succ, List.getElem?_map, hp]
              rfl
            rw [e]
            have e2 : ∀ x y : List (List St), dss (x ++ y) = dss x ++ dss y := fun x y => by rw [dss_map, dss_map, dss_map, List.map_append]
            rw [e2]
            exact dps_app (tk5.dps _ (tup_dss _) hv2) (.cons (tk5.dp (.tuple (ds p.2)) (tup_ds p.2) h1) .nil)
          · intro b o e
            rw [upd_ne (fun z => by rw [z, hDd] at e; cases e)]
            exact s5 _ _ e
        · rintro H5 ⟨vs, hv1, hv2, t5, s5⟩
          have hpl2 : (nsP Ps).length = pxs.length := by unfold nsP; rw [List.length_map, hpl]
          rw [← hpl2, List.take_length] at hv2
          have hkk : ∀ b ∈ nsP Ps, ∃ sec, oks AL BN sec b := fun b hb => ⟨false, hP.ok b hb⟩
          have hms := mss_n false (nsP Ps) (okss_iff.mpr hP.ok)
          have hn := hP.n
          refine ⟨Dd, vs, nsP Ps, AL, BN, rfl, SqL.of hv1, hv2, hn, by omega, hP.ks, hP.wd, hkk, hP.okA, hP.okB, t5, fun H6 g6 => ?_⟩
          exact q _ (g2.trans ((Go.of_same g2.1 s5).trans g6))
    · intro H2 t2
      exact ⟨Nat.zero_le _, g1.trans (Go.of_tab g1.1 hT t2)⟩
def spWant (K : PySem.W.Frag) (Ts : List Addr) : Sp := fun vs H Q _ => ∃ v L P A B, vs = [v] ∧ Dp K H v (progD L P) ∧ Prog L P A B ∧ Tbs Ts H ∧ ∀ H', Go Ts H H' → Q .non H'
theorem sc_want_program : FnScope ["program"] ["program"] (C8.fnScope (topS 28)) := C8.fnScope_by (by decide +kernel)
theorem ok_want_program {Ts : List Addr} {f : Addr} {fd : FuncData} (F : C8.Def K mg "want_program" (topS 28) f fd) (b : Binds K fd ["program"] []) (B : Bl K mg) (c_is_program : C8.Cal P w K mg base 8 "is_program" (spProg K Ts) []) : C8.Cal P w K mg base 9 "want_program" (spWant K Ts) [] := by
  refine C8.cal0 F b .nil sc_want_program ?len ?body
  case len => rintro vs H Q E ⟨v, L, Ps, AL, BN, rfl, _⟩; rfl
  case body =>
    rintro cdv A outer s H vs Q E hr ⟨v, L, Ps, AL, BN, rfl, hd, hP, hTb, q⟩
    refine ⟨_, (pss_one (ps_if (pt_not (pt_val (C8.pe_c c_is_program hr (by decide) rfl (pa_cons (pv 0) pa_nil)))) pss_never pss_nil)), ?_⟩
    exact ⟨_, rfl, v, L, Ps, AL, BN, rfl, hd, hP, hTb, fun H1 g1 => ⟨_, rfl, iteF (q H1 g1)⟩⟩
end
end K06


set_option Elab.async false
set_option linter.all false
set_option maxRecDepth 100000
set_option maxHeartbeats 8000000
namespace K06
open PySem PySem.Spec PyProof.Rows L2
theorem for_enumT {K : PySem.W.Frag} {a : Addr} {xs : List V} {g : TG} {tb : TS} {D : Ends} {σ : L2.St} {H : Hp} (Pv : Nat → L2.St → Hp → Prop) (h0 : Pv 0 σ H) (hl : ∀ i σ H, i ≤ xs.length → Pv i σ H → SqT K H a xs)
    (hs : ∀ i x σ H Tp, xs[i]? = some x → Pv i σ H → H Tp = none → g (.ref Tp) σ (upd H Tp (.tup [.int (i : Nat), x])) fun σ2 H2 => tb { D with nx := Pv (i + 1), ct := Pv (i + 1), bk := D.nx } σ2 H2) (hd : ∀ σ H, Pv xs.length σ H → D.nx σ H) :
    ∃ W : Nat → Nat → L2.St → Hp → Prop, (∃ m, W 0 m σ H) ∧ ∀ i m σ H, W i m σ H →
      ((UG.Iet K a).stop i H ∧ D.nx σ H) ∨ ((UG.Iet K a).go i H ∧ ∃ N : L2.St → Hp → Prop, (∀ σ' H', N σ' H' → ∃ m', m' < m ∧ W (i + 1) m' σ' H') ∧ ∀ x H', (UG.Iet K a).yld i H x H' → g x σ H' fun σ2 H2 => tb { D with nx := N, ct := N, bk := D.nx } σ2 H2) := by
  refine ⟨fun i m σ H => m = xs.length - i ∧ i ≤ xs.length ∧ Pv i σ H, ⟨xs.length, by simp, Nat.zero_le _, h0⟩, ?_⟩
  rintro i m σ H ⟨rfl, hi, p⟩
  have q := hl i σ H hi p
  by_cases hlt : i < xs.length
  · refine .inr ⟨⟨xs, xs[i], q, List.getElem?_eq_getElem hlt⟩, Pv (i + 1), fun σ' H' p' => ⟨xs.length - (i + 1), by omega, rfl, hlt, p'⟩, ?_⟩
    rintro _ _ ⟨Tp, x, rfl, hTp, rfl, hx⟩
    exact hs i x σ H Tp (hx xs q) p hTp
  · have e : i = xs.length := by omega
    subst e
    exact .inl ⟨⟨xs, q, Nat.le_refl _⟩, hd σ H p⟩
theorem for_enumLL {K : PySem.W.Frag} {a : Addr} {xs : List V} {g : TG} {tb : TS} {D : Ends} {σ : L2.St} {H : Hp} (Pv : Nat → L2.St → Hp → Prop) (h0 : Pv 0 σ H) (hl : ∀ i σ H, i ≤ xs.length → Pv i σ H → SqL K H a xs)
    (hs : ∀ i x σ H Tp, xs[i]? = some x → Pv i σ H → H Tp = none → g (.ref Tp) σ (upd H Tp (.tup [.int (i : Nat), x])) fun σ2 H2 => tb { D with nx := Pv (i + 1), ct := Pv (i + 1), bk := D.nx } σ2 H2) (hd : ∀ σ H, Pv xs.length σ H → D.nx σ H) :
    ∃ W : Nat → Nat → L2.St → Hp → Prop, (∃ m, W 0 m σ H) ∧ ∀ i m σ H, W i m σ H →
      ((Ite K a).stop i H ∧ D.nx σ H) ∨ ((Ite K a).go i H ∧ ∃ N : L2.St → Hp → Prop, (∀ σ' H', N σ' H' → ∃ m', m' < m ∧ W (i + 1) m' σ' H') ∧ ∀ x H', (Ite K a).yld i H x H' → g x σ H' fun σ2 H2 => tb { D with nx := N, ct := N, bk := D.nx } σ2 H2) := by
  refine ⟨fun i m σ H => m = xs.length - i ∧ i ≤ xs.length ∧ Pv i σ H, ⟨xs.length, by simp, Nat.zero_le _, h0⟩, ?_⟩
  rintro i m σ H ⟨rfl, hi, p⟩
  have q := hl i σ H hi p
  by_cases hlt : i < xs.length
  · refine .inr ⟨⟨xs, xs[i], q, List.getElem?_eq_getElem hlt⟩, Pv (i + 1), fun σ' H' p' => ⟨xs.length - (i + 1), by omega, rfl, hlt, p'⟩, ?_⟩
    rintro _ _ ⟨Tp, x, rfl, hTp, rfl, hx⟩
    exact hs i x σ H Tp (hx xs q) p hTp
  · have e : i = xs.length := by omega
    subst e
    exact .inl ⟨⟨xs, q, Nat.le_refl _⟩, hd σ H p⟩
theorem inV_strs (k : Str) (L : List Str) : inV (.str k) (L.map V.str) = decide (k ∈ L) := by
  rw [inV_str]
  induction L with
  | nil => rfl
  | cons z r ih =>
    rw [List.any_cons, ih]
    by_cases h : k = z
    · subst h; simp
    · simp [h]
theorem flat_strs : ∀ L : List Str, (L.map V.str).all flatV = true
  | [] => rfl
  | _ :: r => by rw [List.map_cons, List.all_cons, flat_strs r]; rfl
theorem sIx_le {n i : Nat} (h : i ≤ n) : HT.sIx n n (some (i : Int)) = i := by
  rw [HT.sIx_nat]
  omega
theorem cut_take (xs : List V) {i : Nat} (h : i ≤ xs.length) : cutV xs none (some (i : Int)) = xs.take i := by
  unfold cutV
  rw [sIx_le h]
  have : HT.sIx xs.length 0 none = 0 := rfl
  rw [this]
  simp
/-- the word of a statement -/
def St.w : St → Str
  | .dd _ => "do"
  | .ud _ => "undo"
  | .cl _ => "call"
  | .ch _ => "choose"
  | .lp _ => "loop"
  | .rt => "return"
  | .en _ _ => "ensure"
theorem d_word : ∀ s : St, ∃ r, s.d = .tuple (.str s.w :: r)
  | .dd _ | .ud _ | .cl _ | .ch _ | .lp _ | .rt | .en _ _ => ⟨_, rfl⟩
def isEn : St → Bool
  | .en _ _ => true
  | _ => false
theorem w_en : ∀ s : St, decide (s.w = "ensure") = isEn s
  | .dd _ => (by decide +kernel : decide (("do" : Str) = "ensure") = false)
  | .ud _ => (by decide +kernel : decide (("undo" : Str) = "ensure") = false)
  | .cl _ => (by decide +kernel : decide (("call" : Str) = "ensure") = false)
  | .ch _ => (by decide +kernel : decide (("choose" : Str) = "ensure") = false)
  | .lp _ => (by decide +kernel : decide (("loop" : Str) = "ensure") = false)
  | .rt => (by decide +kernel : decide (("return" : Str) = "ensure") = false)
  | .en _ _ => (by decide +kernel : decide (("ensure" : Str) = "ensure") = true)
theorem bs_k {s : St} {j : Nat} {b : List St} (e : s.bs[j]? = some b) : ks b < s.k := by
  have := kss_mem (List.mem_of_getElem? e)
  have := k_bs s
  omega
-- what stands in it, in its order, each with whether it stands in a second body
mutual
def St.fs (sec : Bool) : St → List (St × Bool)
  | .dd x => [(.dd x, sec)]
  | .ud x => [(.ud x, sec)]
  | .cl x => [(.cl x, sec)]
  | .ch bs => (.ch bs, sec) :: fsss sec bs
  | .lp b => (.lp b, sec) :: fss sec b
  | .rt => [(.rt, sec)]
  | .en b c => (.en b c, sec) :: (fss sec b ++ fss true c)
def fss (sec : Bool) : List St → List (St × Bool)
  | [] => []
  | s :: r => s.fs sec ++ fss sec r
def fsss (sec : Bool) : List (List St) → List (St × Bool)
  | [] => []
  | b :: r => fss sec b ++ fsss sec r
end
def fsE (sec e : Bool) : Nat → List (List St) → List (St × Bool)
  | _, [] => []
  | j, b :: r => fss (sec || (e && decide ((j : Int) = 1))) b ++ fsE sec e (j + 1) r
theorem fsE_no (sec : Bool) : ∀ (bs : List (List St)) (j : Nat), fsE sec false j bs = fsss sec bs
  | [], _ => rfl
  | b :: r, j => by rw [fsE, fsss, fsE_no sec r, Bool.false_and, Bool.or_false]
theorem fs_bs (sec : Bool) : ∀ s : St, s.fs sec = (s, sec) :: fsE sec (isEn s) 0 s.bs
  | .dd _ | .ud _ | .cl _ | .rt => rfl
  | .ch bs => by rw [St.fs, show isEn (.ch bs) = false from rfl, fsE_no]; rfl
  | .lp b => by rw [St.fs, show isEn (.lp b) = false from rfl, fsE_no]; simp [St.bs, fsss]
  | .en b c => by
    rw [St.fs, show isEn (.en b c) = true from rfl]
    simp [St.bs, fsE]
theorem fsE_take (sec e : Bool) : ∀ {bs : List (List St)} {j : Nat} {b : List St} (k : Nat), bs[j]? = some b → fsE sec e k (bs.take (j + 1)) = fsE sec e k (bs.take j) ++ fss (sec || (e && decide (((k + j : Nat) : Int) = 1))) b
  | [], j, b, k, h => by simp at h
  | x :: r, 0, b, k, h => by
    simp at h
    subst h
    simp [fsE]
  | x :: r, j + 1, b, k, h => by
    have := fsE_take sec e (bs := r) (j := j) (b := b) (k + 1) (by simpa using h)
    rw [List.take_succ_cons, List.take_succ_cons, fsE, fsE, this, List.append_assoc, show k + (j + 1) = k + 1 + j by omega]
theorem fss_take (sec : Bool) : ∀ {b : List St} {i : Nat} {s : St}, b[i]? = some s → fss sec (b.take (i + 1)) = fss sec (b.take i) ++ s.fs sec
  | [], i, s, h => by simp at h
  | x :: r, 0, s, h => by
    simp at h
    subst h
    simp [fss]
  | x :: r, i + 1, s, h => by
    have := fss_take sec (b := r) (i := i) (s := s) (by simpa using h)
    rw [List.take_succ_cons, List.take_succ_cons, fss, fss, this, List.append_assoc]
mutual
theorem fs_len (sec : Bool) : ∀ s : St, (s.fs sec).length = s.n
  | .dd _ | .ud _ | .cl _ | .rt => rfl
  | .ch bs => by rw [St.fs, List.length_cons, fsss_len sec bs, St.n]; omega
  | .lp b => by rw [St.fs, List.length_cons, fss_len sec b, St.n]; omega
  | .en b c => by rw [St.fs, List.length_cons, List.length_append, fss_len sec b, fss_len true c, St.n]; omega
theorem fss_len (sec : Bool) : ∀ b : List St, (fss sec b).length = ns b
  | [] => rfl
  | s :: r => by rw [fss, List.length_append, fs_len sec s, fss_len sec r, ns]
theorem fsss_len (sec : Bool) : ∀ b : List (List St), (fsss sec b).length = nss b
  | [] => rfl
  | s :: r => by rw [fsss, List.length_append, fss_len sec s, fsss_len sec r, nss]
end
theorem fsE_len (sec e : Bool) : ∀ (j : Nat) (b : List (List St)), (fsE sec e j b).length = nss b
  | _, [] => rfl
  | j, s :: r => by rw [fsE, List.length_append, fss_len, fsE_len sec e (j + 1) r, nss]
/-- the list of what was found -/
inductive Fds (K : PySem.W.Frag) (H : Hp) : List V → List (St × Bool) → Prop
  | nil : Fds K H [] []
  | cons {p : Addr} {x : V} {s : St} {sec : Bool} {vs : List V} {l : List (St × Bool)} : SqT K H p [x, .bl sec] → Dp K H x s.d → Fds K H vs l → Fds K H (.ref p :: vs) ((s, sec) :: l)
theorem Fds.tk {K : PySem.W.Frag} {H H' : Hp} (t : Tk H H') : ∀ {vs : List V} {l : List (St × Bool)}, Fds K H vs l → Fds K H' vs l
  | _, _, .nil => .nil
  | _, _, .cons h1 h2 r => .cons (t.sqt h1) (t.dp _ (tup_St _) h2) (r.tk t)
theorem Fds.app {K : PySem.W.Frag} {H : Hp} : ∀ {vs ws : List V} {l m : List (St × Bool)}, Fds K H vs l → Fds K H ws m → Fds K H (vs ++ ws) (l ++ m)
  | _, _, _, _, .nil, h => h
  | _, _, _, _, .cons h1 h2 r, h => .cons h1 h2 (r.app h)
theorem Fds.len {K : PySem.W.Frag} {H : Hp} : ∀ {vs : List V} {l : List (St × Bool)}, Fds K H vs l → vs.length = l.length
  | _, _, .nil => rfl
  | _, _, .cons _ _ r => by rw [List.length_cons, List.length_cons, r.len]
theorem Fds.get {K : PySem.W.Frag} {H : Hp} : ∀ {vs : List V} {l : List (St × Bool)} {i : Nat} {v : V}, Fds K H vs l → vs[i]? = some v → ∃ p x s sec, v = .ref p ∧ SqT K H p [x, .bl sec] ∧ Dp K H x (St.d s) ∧ l[i]? = some (s, sec)
  | _, _, i, v, .nil, h => by simp at h
  | _, _, 0, v, .cons h1 h2 r, h => by
    simp at h
    exact ⟨_, _, _, _, h.symm, h1, h2, rfl⟩
  | _, _, i + 1, v, .cons h1 h2 r, h => by
    obtain ⟨p, x, s, sec, a, b, c, d⟩ := r.get (i := i) (v := v) (by simpa using h)
    exact ⟨p, x, s, sec, a, b, c, by simpa using d⟩
/-- the first name that stands ahead -/
def fd1 : List Str → List Str → Option Str
  | _, [] => none
  | seen, x :: r => if x ∈ seen then some x else fd1 (seen ++ [x]) r
def firstD (L : List Str) : Option Str := fd1 [] L
def optV : Option Str → V
  | none => .non
  | some x => .str x
theorem fd1_step {L : List Str} {i : Nat} {y : Str} (h : L[i]? = some y) : fd1 (L.take i) (L.drop i) = if y ∈ L.take i then some y else fd1 (L.take (i + 1)) (L.drop (i + 1)) := by
  obtain ⟨hi, e⟩ := List.getElem?_eq_some_iff.mp h
  rw [List.drop_eq_getElem_cons hi, fd1, e, List.take_succ, h]
  rfl
theorem ns_take : ∀ {b : List St} {i : Nat} {s : St}, b[i]? = some s → ns (b.take (i + 1)) = ns (b.take i) + s.n
  | [], i, s, h => by simp at h
  | x :: r, 0, s, h => by
    simp at h
    subst h
    simp [ns]
  | x :: r, i + 1, s, h => by
    have := ns_take (b := r) (i := i) (s := s) (by simpa using h)
    rw [List.take_succ_cons, List.take_succ_cons, ns, ns, this]
    omega
theorem ns_take_le : ∀ (b : List St) (i : Nat), ns (b.take i) ≤ ns b
  | [], i => by simp
  | x :: r, 0 => by simp [ns]
  | x :: r, i + 1 => by
    have := ns_take_le r i
    rw [List.take_succ_cons, ns, ns]
    omega
theorem nss_takeS : ∀ {b : List (List St)} {i : Nat} {s : List St}, b[i]? = some s → nss (b.take (i + 1)) = nss (b.take i) + ns s
  | [], i, s, h => by simp at h
  | x :: r, 0, s, h => by
    simp at h
    subst h
    simp [nss]
  | x :: r, i + 1, s, h => by
    have := nss_takeS (b := r) (i := i) (s := s) (by simpa using h)
    rw [List.take_succ_cons, List.take_succ_cons, nss, nss, this]
    omega
theorem nss_take_le : ∀ (b : List (List St)) (i : Nat), nss (b.take i) ≤ nss b
  | [], i => by simp
  | x :: r, 0 => by simp [nss]
  | x :: r, i + 1 => by
    have := nss_take_le r i
    rw [List.take_succ_cons, nss, nss]
    omega
theorem ds_get {b : List St} {i : Nat} {d : PyData} (h : (ds b)[i]? = some d) : ∃ s, b[i]? = some s ∧ d = St.d s := by
  rw [ds_map, List.getElem?_map] at h
  cases e : b[i]? with
  | none => rw [e] at h; cases h
  | some s => rw [e] at h; exact ⟨s, rfl, (Option.some.inj h).symm⟩
theorem dss_get {b : List (List St)} {i : Nat} {d : PyData} (h : (dss b)[i]? = some d) : ∃ s, b[i]? = some s ∧ d = .tuple (ds s) := by
  rw [dss_map, List.getElem?_map] at h
  cases e : b[i]? with
  | none => rw [e] at h; cases h
  | some s => rw [e] at h; exact ⟨s, rfl, (Option.some.inj h).symm⟩
section
variable {P : Program} {w : World} {K : PySem.W.Frag} {mg : Str → Option Value} {base : Heap}

def spFDT (K : PySem.W.Frag) : Sp := fun vs H Q _ => ∃ (a : Addr) (L : List Str), vs = [.ref a] ∧ SqT K H a (L.map V.str) ∧ ∀ H', Same H H' → Q (optV (firstD L)) H'
def spFDL (K : PySem.W.Frag) : Sp := fun vs H Q _ => ∃ (a : Addr) (L : List Str), vs = [.ref a] ∧ SqL K H a (L.map V.str) ∧ ∀ H', Same H H' → Q (optV (firstD L)) H'
theorem sc__first_double : FnScope ["names", "at", "name"] ["names"] (C8.fnScope (topS 35)) := C8.fnScope_by (by decide +kernel)
theorem ok_fdT {f : Addr} {fd : FuncData} (F : C8.Def K mg "_first_double" (topS 35) f fd) (b : Binds K fd ["names"] []) (B : Bl K mg)  : C8.Cal P w K mg base 1 "_first_double" (spFDT K) [] := by
  refine C8.cal0 F b .nil sc__first_double ?len ?body
  case len => rintro vs H Q E ⟨a, L, rfl, _⟩; rfl
  case body =>
    rintro cdv A outer s H vs Q E hr ⟨a, L, rfl, hs, q⟩
    refine ⟨_, (pss_cons (ps_for PassesOwn.never rfl (UG.pi_enumT rfl B.enumerate (pa_cons (pv 0) pa_nil)) (pg_tup rfl (pgs_cons (pg_name (i := 1) sc__first_double.nd rfl (Or.inl rfl)) (pgs_cons (pg_name (i := 2) sc__first_double.nd rfl (Or.inl rfl)) pgs_nil)))
    (pss_one (ps_if (pt_cmpR op_in_seq (pv 2) (pe_slice sl_tupA (pv 0) po_none (po_some (pv 1))) (by with_unfolding_all rfl)) (pss_one (ps_ret (pv 2))) pss_nil)))
    (pss_one (ps_ret pe_non))), ?_⟩
    refine ⟨_, rfl, a, _, rfl, hs, ?_⟩
    refine for_enumT (xs := L.map V.str) (fun i σ H' => ∃ b1 b2, σ = [some (.ref a), b1, b2] ∧ Same H H' ∧ firstD L = fd1 (L.take i) (L.drop i)) ⟨none, none, rfl, Same.refl H, rfl⟩ ?_ ?_ ?_
    · rintro i σ H' _ ⟨_, _, _, s1, _⟩
      exact sqt_ext (same_ext s1) hs
    · rintro i x _ H1 Tp hx ⟨b1, b2, rfl, s1, ei⟩ hTp
      obtain ⟨y, hy, rfl⟩ : ∃ y, L[i]? = some y ∧ x = .str y := by
        rw [List.getElem?_map] at hx
        cases e : L[i]? with
        | none => rw [e] at hx; cases hx
        | some s => rw [e] at hx; exact ⟨s, rfl, (Option.some.inj hx).symm⟩
      have hi := (List.getElem?_eq_some_iff.mp hy).1
      have s2 := s1.trans (same_new hTp (.tup [.int (i : Nat), .str y]))
      refine ⟨Tp, _, rfl, SqT.of upd_same, rfl, _, _, rfl, _, _, rfl, rfl, ?_⟩
      have hs2 := sqt_ext (same_ext s2) hs
      have e : cutV (L.map V.str) none (some (i : Int)) = (L.take i).map V.str := by
        rw [cut_take _ (by rw [List.length_map]; omega), List.map_take]
      have es := ei.trans (fd1_step hy)
      refine ⟨_, rfl, _, rfl, _, rfl, _, rfl, a, _, rfl, hs2, fun w => ?_, fun _ p hp => ?_⟩
      · exact absurd w.2 (by rw [sIx_le (by rw [List.length_map]; omega), List.length_map]; omega)
      · rw [e]
        refine ⟨p, _, rfl, .inr (SqT.of upd_same), rfl, flat_strs _, _, rfl, ?_⟩
        show if inV (.str y) ((L.take i).map V.str) = true then _ else _
        rw [inV_strs]
        by_cases c : y ∈ L.take i
        · rw [decide_eq_true c]
          rw [if_pos c] at es
          rw [es] at q
          exact iteT ⟨_, rfl, q _ (s2.trans (same_new hp _))⟩
        · rw [decide_eq_false c]
          rw [if_neg c] at es
          exact iteF ⟨_, _, rfl, s2.trans (same_new hp _), es⟩
    · rintro σ H1 ⟨b1, b2, rfl, s1, ei⟩
      rw [List.length_map, List.drop_length] at ei
      have := q H1 s1
      rw [ei] at this
      exact this
theorem ok_fdL {f : Addr} {fd : FuncData} (F : C8.Def K mg "_first_double" (topS 35) f fd) (b : Binds K fd ["names"] []) (B : Bl K mg)  : C8.Cal P w K mg base 1 "_first_double" (spFDL K) [] := by
  refine C8.cal0 F b .nil sc__first_double ?len ?body
  case len => rintro vs H Q E ⟨a, L, rfl, _⟩; rfl
  case body =>
    rintro cdv A outer s H vs Q E hr ⟨a, L, rfl, hs, q⟩
    refine ⟨_, (pss_cons (ps_for PassesOwn.never rfl (pi_enum rfl B.enumerate (pa_cons (pv 0) pa_nil)) (pg_tup rfl (pgs_cons (pg_name (i := 1) sc__first_double.nd rfl (Or.inl rfl)) (pgs_cons (pg_name (i := 2) sc__first_double.nd rfl (Or.inl rfl)) pgs_nil)))
    (pss_one (ps_if (pt_cmpR op_in_seq (pv 2) (pe_slice sl_list (pv 0) po_none (po_some (pv 1))) (by with_unfolding_all rfl)) (pss_one (ps_ret (pv 2))) pss_nil)))
    (pss_one (ps_ret pe_non))), ?_⟩
    refine ⟨_, rfl, a, _, rfl, hs, ?_⟩
    refine for_enumLL (xs := L.map V.str) (fun i σ H' => ∃ b1 b2, σ = [some (.ref a), b1, b2] ∧ Same H H' ∧ firstD L = fd1 (L.take i) (L.drop i)) ⟨none, none, rfl, Same.refl H, rfl⟩ ?_ ?_ ?_
    · rintro i σ H' _ ⟨_, _, _, s1, _⟩
      exact sq_ext (same_ext s1) hs
    · rintro i x _ H1 Tp hx ⟨b1, b2, rfl, s1, ei⟩ hTp
      obtain ⟨y, hy, rfl⟩ : ∃ y, L[i]? = some y ∧ x = .str y := by
        rw [List.getElem?_map] at hx
        cases e : L[i]? with
        | none => rw [e] at hx; cases hx
        | some s => rw [e] at hx; exact ⟨s, rfl, (Option.some.inj hx).symm⟩
      have hi := (List.getElem?_eq_some_iff.mp hy).1
      have s2 := s1.trans (same_new hTp (.tup [.int (i : Nat), .str y]))
      refine ⟨Tp, _, rfl, SqT.of upd_same, rfl, _, _, rfl, _, _, rfl, rfl, ?_⟩
      have hs2 := sq_ext (same_ext s2) hs
      have e : cutV (L.map V.str) none (some (i : Int)) = (L.take i).map V.str := by
        rw [cut_take _ (by rw [List.length_map]; omega), List.map_take]
      have es := ei.trans (fd1_step hy)
      refine ⟨_, rfl, _, rfl, _, rfl, _, rfl, a, _, rfl, hs2, fun p hp => ?_⟩
      rw [e]
      refine ⟨p, _, rfl, .inl (SqL.of upd_same), rfl, flat_strs _, _, rfl, ?_⟩
      show if inV (.str y) ((L.take i).map V.str) = true then _ else _
      rw [inV_strs]
      by_cases c : y ∈ L.take i
      · rw [decide_eq_true c]
        rw [if_pos c] at es
        rw [es] at q
        exact iteT ⟨_, rfl, q _ (s2.trans (same_new hp _))⟩
      · rw [decide_eq_false c]
        rw [if_neg c] at es
        exact iteF ⟨_, _, rfl, s2.trans (same_new hp _), es⟩
    · rintro σ H1 ⟨b1, b2, rfl, s1, ei⟩
      rw [List.length_map, List.drop_length] at ei
      have := q H1 s1
      rw [ei] at this
      exact this

def spFS (K : PySem.W.Frag) (n : Nat) : Sp := fun vs H Q _ => ∃ v b sec F acc, vs = [v, .bl sec, .ref F] ∧ Dp K H v (.tuple (ds b)) ∧ ks b < n ∧ H F = some (.lst acc) ∧ acc.length + ns b ≤ 1000 ∧
  ∀ H' more, H' F = some (.lst (acc ++ more)) → Fds K H' more (fss sec b) → Tk H H' → Kp [F] H H' → Q .non H'
theorem sc__find_statements : FnScope ["body", "is_second", "found", "statement", "at", "inner"] ["body", "is_second", "found"] (C8.fnScope (topS 37)) := C8.fnScope_by (by decide +kernel)
theorem ok_fs {n : Nat} {f : Addr} {fd : FuncData} (F : C8.Def K mg "_find_statements" (topS 37) f fd) (b : Binds K fd ["body", "is_second", "found"] []) (B : Bl K mg) (c_bodies_of : C8.Cal P w K mg base 1 "bodies_of" (spBod K) []) (c__find_statements : C8.Cal P w K mg base (n + 2) "_find_statements" (spFS K n) []) : C8.Cal P w K mg base (n + 3) "_find_statements" (spFS K (n + 1)) [] := by
  refine C8.cal0 F b .nil sc__find_statements ?len ?body
  case len => rintro vs H Q E ⟨v, b, sec, F, acc, rfl, _⟩; rfl
  case body =>
    rintro cdv A outer s H vs Q E hr ⟨v, b, sec, F, acc, rfl, hd, hk, hF, hacc, q⟩
    refine ⟨_, (pss_one (ps_for PassesOwn.never rfl (pi_tup (pv 0)) (pg_name (i := 3) sc__find_statements.nd rfl (Or.inl rfl))
    (pss_cons (ps_expr (pe_bm PySem.F.plainAttrs_list PySem.F.slot_list_append PySem.F.type_list_append mt_append (pv 2) (pa_cons (pe_tup (pa_cons (pv 3) (pa_cons (pv 1) pa_nil))) pa_nil)))
    (pss_one (ps_for PassesOwn.never rfl (UG.pi_enumT rfl B.enumerate (pa_cons (C8.pe_c c_bodies_of hr (by omega) rfl (pa_cons (pv 3) pa_nil)) pa_nil)) (pg_tup rfl (pgs_cons (pg_name (i := 4) sc__find_statements.nd rfl (Or.inl rfl)) (pgs_cons (pg_name (i := 5) sc__find_statements.nd rfl (Or.inl rfl)) pgs_nil)))
    (pss_one (ps_expr (C8.pe_c c__find_statements hr (by omega) rfl (pa_cons (pv 5) (pa_cons (pe_or (pv 1) (pe_one (pe_and (pe_cmpR op_eq (pe_ix ix_tup (pv 3) pe_int (fun _ _ => rfl)) pe_str (nomark _)) (pe_one (pe_cmpR op_eq (pv 4) pe_int (nomark _)))))) (pa_cons (pv 2) pa_nil))))))))))), ?_⟩
    obtain ⟨a, xs, rfl, hs, ha, hl⟩ := len_ok hd
    have hlb : xs.length = b.length := by rw [hl, ds_len]
    refine ⟨_, rfl, a, rfl, ⟨_, hs⟩, ?_⟩
    refine for_tup (xs := xs) (fun i σ H' => ∃ b3 b4 b5 more, σ = [some (.ref a), some (.bl sec), some (.ref F), b3, b4, b5] ∧ H' F = some (.lst (acc ++ more)) ∧ Fds K H' more (fss sec (b.take i)) ∧ Tk H H' ∧ Kp [F] H H') ?_ ?_ ?_ ?_
    · exact ⟨none, none, none, [], rfl, by rw [List.append_nil]; exact hF, by simpa [fss] using Fds.nil, Tk.refl H, Kp.refl H⟩
    · rintro i σ H' _ ⟨_, _, _, _, _, _, _, t, _⟩
      exact t.sqt hs
    · rintro i x _ H1 hx ⟨b3, b4, b5, more, rfl, hF1, fd1, t1, k1⟩
      have ml : more.length = ns (b.take i) := by rw [fd1.len, fss_len]
      obtain ⟨dd, hdd, hdp⟩ := dps_get' ha hx
      obtain ⟨s, hsb, rfl⟩ := ds_get hdd
      have hsm : s ∈ b := List.mem_of_getElem? hsb
      have hsk := ks_mem hsm
      have hnt := ns_take hsb
      have hntl := ns_take_le b (i + 1)
      have hnp := n_bs s
      have hd1 := t1.dp _ (tup_St s) hdp
      refine ⟨_, rfl, .inl ⟨rfl, _, SqL.of hF1⟩, _, rfl, _, rfl, (by show 2 ≤ sizeLine; decide), fun p hp => ?_⟩
      have np : p ≠ F := fun z => by rw [← z, hp] at hF1; cases hF1
      have hF2 : upd H1 p (.tup [x, .bl sec]) F = some (.lst (acc ++ more)) := by rw [upd_ne (Ne.symm np)]; exact hF1
      refine ⟨F, _, _, rfl, rfl, hF2, Nat.lt_of_le_of_lt (show _ ≤ 1000 by rw [List.length_append]; omega) (by decide), ?_⟩
      have t2 : Tk H1 (upd (upd H1 p (.tup [x, .bl sec])) F (.lst (acc ++ more ++ [.ref p]))) := (Tk.new hp _).trans (Tk.put hF2 _)
      have k2 : Kp [F] H1 (upd (upd H1 p (.tup [x, .bl sec])) F (.lst (acc ++ more ++ [.ref p]))) := (Kp.of_same (same_new hp _)).trans (Kp.put _ (by simp))
      have hF3 : upd (upd H1 p (.tup [x, .bl sec])) F (.lst (acc ++ more ++ [.ref p])) F = some (.lst (acc ++ (more ++ [.ref p]))) := by rw [upd_same, List.append_assoc]
      have fd3 : Fds K (upd (upd H1 p (.tup [x, .bl sec])) F (.lst (acc ++ more ++ [.ref p]))) (more ++ [.ref p]) (fss sec (b.take i) ++ [(s, sec)]) := (fd1.tk t2).app (.cons (SqT.of (by rw [upd_ne np]; exact upd_same)) (t2.dp _ (tup_St s) hd1) .nil)
      show (fun H3 => _) (upd (upd H1 p (.tup [x, .bl sec])) F (.lst (acc ++ more ++ [.ref p])))
      have t3 := t1.trans t2
      have k3 := k1.trans k2
      generalize upd (upd H1 p (.tup [x, .bl sec])) F (.lst (acc ++ more ++ [.ref p])) = H3 at hF3 fd3 t3 k3
      have hd3 := t3.dp _ (tup_St s) hdp
      refine ⟨_, rfl, x, s, rfl, hd3, fun v' H4 s4 hd4 => ?_⟩
      obtain ⟨ra, rxs, rfl, hrs, hra, hrl⟩ := len_ok hd4
      rw [dss_len] at hrl
      refine ⟨ra, _, rfl, hrs, ?_⟩
      refine for_enumT (xs := rxs) (fun j σ H' => ∃ b4 b5 more2, σ = [some (.ref a), some (.bl sec), some (.ref F), some x, b4, b5] ∧ H' F = some (.lst (acc ++ (more ++ [.ref p] ++ more2))) ∧ Fds K H' (more ++ [.ref p] ++ more2) (fss sec (b.take i) ++ [(s, sec)] ++ fsE sec (isEn s) 0 (s.bs.take j)) ∧ Tk H4 H' ∧ Kp [F] H4 H') ?_ ?_ ?_ ?_
      · exact ⟨b4, b5, [], rfl, by rw [List.append_nil]; exact s4 _ _ hF3, by rw [List.append_nil, List.take_zero, fsE, List.append_nil]; exact fd3.tk (Tk.same s4), Tk.refl _, Kp.refl _⟩
      · rintro j σ H' _ ⟨_, _, _, _, _, _, t, _⟩
        exact t.sqt hrs
      · rintro j y _ H5 Tp hy ⟨b4', b5', more2, rfl, hF5, fd5, t5, k5⟩ hTp
        have ml5 := fd5.len
        obtain ⟨dd2, hdd2, hdp2⟩ := dps_get' hra hy
        obtain ⟨b2, hb2, rfl⟩ := dss_get hdd2
        have sT := same_new hTp (.tup [.int (j : Nat), y])
        refine ⟨Tp, _, rfl, SqT.of upd_same, rfl, _, _, rfl, _, _, rfl, rfl, ?_⟩
        have hF6 := sT _ _ hF5
        have t6 := t5.trans (Tk.same sT)
        have k6 : Kp [F] H4 _ := k5.trans (Kp.of_same sT)
        have fd6 := fd5.tk (Tk.same sT)
        generalize upd H5 Tp (.tup [.int (j : Nat), y]) = H6 at hF6 t6 k6 fd6
        have hx6 := ((Tk.same s4).trans t6).dp _ (tup_St s) hd3
        obtain ⟨r, er⟩ := d_word s
        rw [er] at hx6
        obtain ⟨xa, xxs, rfl, hxs, hxa, hxl⟩ := len_ok hx6
        cases hxa with
        | @cons v0 _ _ _ h0 hxa =>
        cases h0
        have hfe := fsE_take sec (isEn s) 0 hb2
        rw [Nat.zero_add] at hfe
        have hkb := bs_k hb2
        have nt := nss_takeS hb2
        have ntl := nss_take_le s.bs (j + 1)
        refine ⟨_, rfl, _, rfl, _, rfl, ?_⟩
        have call : ∀ flag : Bool, (sec || (isEn s && decide ((j : Int) = 1))) = flag → spFS K n [y, .bl flag, .ref F] H6 (fun _ H' => ∃ b4 b5 more2, ([some (.ref a), some (.bl sec), some (.ref F), some (.ref xa), some (.int (j : Int)), some y] : L2.St) = [some (.ref a), some (.bl sec), some (.ref F), some (.ref xa), b4, b5] ∧ H' F = some (.lst (acc ++ (more ++ [.ref p] ++ more2))) ∧ Fds K H' (more ++ [.ref p] ++ more2) (fss sec (b.take i) ++ [(s, sec)] ++ fsE sec (isEn s) 0 (s.bs.take (j + 1))) ∧ Tk H4 H' ∧ Kp [F] H4 H') C8.E0 := fun flag hfl => by
          refine ⟨y, b2, flag, F, _, rfl, t6.dp (.tuple (ds b2)) (tup_ds b2) hdp2, by omega, hF6, ?_, fun H7 m7 h71 h72 t7 k7 => ?_⟩
          · have e1 := fsE_len sec (isEn s) 0 (s.bs.take j)
            simp only [List.length_append, fss_len, e1, List.length_cons, List.length_nil] at ml5 ⊢
            omega
          · refine ⟨_, _, more2 ++ m7, rfl, ?_, ?_, t6.trans t7, k6.trans k7⟩
            · rw [h71]; simp
            · have := (fd6.tk t7).app h72
              rw [← hfl] at this
              rw [hfe, ← List.append_assoc, ← List.append_assoc]
              exact this
        cases sec with
        | true =>
          refine iteT ?_
          exact ⟨_, rfl, call true (by rfl)⟩
        | false =>
          refine iteF ⟨_, rfl, _, _, _, _, rfl, rfl, hxs, at0 _ _, rfl, _, rfl, ?_⟩
          rw [dec_str, w_en]
          by_cases he : isEn s = true
          · refine ifT he ⟨_, rfl, rfl, ?_⟩
            rw [dec_int]
            exact ⟨_, rfl, call _ (by rw [he]; rfl)⟩
          · have he : isEn s = false := by simpa using he
            exact ifF he ⟨_, rfl, call false (by rw [he]; rfl)⟩
      · rintro σ H5 ⟨b4', b5', more2, rfl, hF5, fd5, t5, k5⟩
        rw [hrl, List.take_length] at fd5
        exact ⟨_, _, _, _, rfl, hF5, by rw [show fss sec (b.take (i + 1)) = fss sec (b.take i) ++ [(s, sec)] ++ fsE sec (isEn s) 0 s.bs by rw [fss_take sec hsb, fs_bs]; simp]; exact fd5, (t3.trans (Tk.same s4)).trans t5, (k3.trans (Kp.of_same s4)).trans k5⟩
    · rintro σ H1 ⟨b3, b4, b5, more, rfl, hF1, fd1, t1, k1⟩
      rw [hlb, List.take_length] at fd1
      exact q H1 more hF1 fd1 t1 k1
theorem fs_all {f : Addr} {fd : FuncData} (F : C8.Def K mg "_find_statements" (topS 37) f fd) (b : Binds K fd ["body", "is_second", "found"] []) (B : Bl K mg) (c_bodies_of : C8.Cal P w K mg base 1 "bodies_of" (spBod K) []) : ∀ n : Nat, C8.Cal P w K mg base (n + 2) "_find_statements" (spFS K n) []
  | 0 => by
    refine C8.cal0 F b .nil sc__find_statements ?len ?body
    case len => rintro vs H Q E ⟨_, _, _, _, _, _, _, h, _⟩; exact absurd h (Nat.not_lt_zero _)
    case body => rintro cdv A outer s H vs Q E hr ⟨_, _, _, _, _, _, _, h, _⟩; exact absurd h (Nat.not_lt_zero _)
  | n + 1 => ok_fs F b B c_bodies_of (fs_all F b B c_bodies_of n)
end
end K06


set_option Elab.async false
set_option linter.all false
set_option maxRecDepth 100000
set_option maxHeartbeats 8000000
namespace K06
open PySem PySem.Spec PyProof.Rows L2
theorem strs_vals {K : PySem.W.Frag} {H : Hp} : ∀ {L : List Str} {xs : List V}, DpAll K H xs (L.map PyData.str) → xs = L.map V.str
  | [], _, h => by cases h; rfl
  | x :: r, _, h => by
    cases h with
    | cons h1 h2 =>
      cases h1
      rw [strs_vals h2]
      rfl
/-- what is wrong with a statement -/
def fault1 (L N : List Str) : St × Bool → Option Str
  | (.dd x, _) => if x ∈ L then none else some "letter"
  | (.ud x, _) => if x ∈ L then none else some "letter"
  | (.cl x, _) => if x ∈ N then none else some "call"
  | (.rt, sec) => if sec = true then some "return" else none
  | _ => none
def bfault (L N : List Str) (b : List St) : Option Str := (fss false b).findSome? (fault1 L N)
theorem find_step {α β : Type} {f : α → Option β} {l : List α} {i : Nat} {e : α} (h : l[i]? = some e) : (l.drop i).findSome? f = (f e).or ((l.drop (i + 1)).findSome? f) := by
  obtain ⟨hi, q⟩ := List.getElem?_eq_some_iff.mp h
  rw [List.drop_eq_getElem_cons hi, q, List.findSome?_cons]
  cases f e <;> rfl
def pfault (L N : List Str) (p : Str × List St) : Option (Str × Str) := (bfault L N p.2).map fun w => (w, p.1)
/-- what check tells -/
def chkD (L : List Str) (P : List (Str × List St)) : PyData :=
  match firstD L with
  | some x => .tuple [.str "letter", .str x]
  | none => match firstD (P.map Prod.fst) with
    | some x => .tuple [.str "double", .str x]
    | none => match P.findSome? (pfault L (P.map Prod.fst)) with
      | some (w, n) => .tuple [.str w, .str n]
      | none => .none
theorem dp_tup2 {K : PySem.W.Frag} {H : Hp} {p : Addr} {x y : V} {d e : PyData} (h : H p = none) (hx : Dp K (upd H p (.tup [x, y])) x d) (hy : Dp K (upd H p (.tup [x, y])) y e) : Dp K (upd H p (.tup [x, y])) (.ref p) (.tuple [d, e]) := .tup (SqT.of upd_same) (.cons hx (.cons hy .nil))
section
variable {P : Program} {w : World} {K : PySem.W.Frag} {mg : Str → Option Value} {base : Heap}

def spBF (K : PySem.W.Frag) : Sp := fun vs H Q _ => ∃ v la na b L N, vs = [v, .ref la, .ref na] ∧ Dp K H v (.tuple (ds b)) ∧ ks b ≤ 12 ∧ ns b ≤ 200 ∧ SqT K H la (L.map V.str) ∧ SqL K H na (N.map V.str) ∧ ∀ H', Same H H' → Q (optV (bfault L N b)) H'
theorem sc__body_fault : FnScope ["body", "letters", "names", "found", "statement", "is_second", "word"] ["body", "letters", "names"] (C8.fnScope (topS 36)) := C8.fnScope_by (by decide +kernel)
theorem ok__body_fault {f : Addr} {fd : FuncData} (F : C8.Def K mg "_body_fault" (topS 36) f fd) (b : Binds K fd ["body", "letters", "names"] []) (B : Bl K mg) (c__find_statements : C8.Cal P w K mg base 15 "_find_statements" (spFS K 13) []) : C8.Cal P w K mg base 16 "_body_fault" (spBF K) [] := by
  refine C8.cal0 F b .nil sc__body_fault ?len ?body
  case len => rintro vs H Q E ⟨v, la, na, b, L, N, rfl, _⟩; rfl
  case body =>
    rintro cdv A outer s H vs Q E hr ⟨v, la, na, b, L, N, rfl, hd, hk, hn, hla, hna, q⟩
    refine ⟨_, (pss_cons (ps_set (i := 3) sc__body_fault.nd rfl (Or.inl rfl) (pe_lst pa_nil))
    (pss_cons (ps_expr (C8.pe_c c__find_statements hr (by decide) rfl (pa_cons (pv 0) (pa_cons pe_bl (pa_cons (pv 3) pa_nil)))))
    (pss_cons (ps_for PassesOwn.never rfl (pi_list (pv 3)) (pg_tup rfl (pgs_cons (pg_name (i := 4) sc__body_fault.nd rfl (Or.inl rfl)) (pgs_cons (pg_name (i := 5) sc__body_fault.nd rfl (Or.inl rfl)) pgs_nil)))
    (pss_cons (ps_set (i := 6) sc__body_fault.nd rfl (Or.inl rfl) (pe_ix ix_tup (pv 4) pe_int (fun _ _ => rfl)))
    (pss_cons (ps_if (PW.pt (pw_and (pt_cmpR op_in_seq (pv 6) (pe_tup (pa_cons pe_str (pa_cons pe_str pa_nil))) (by with_unfolding_all rfl)) (pw_and1 (pt_cmpR op_notIn_seq (pe_ix ix_tup (pv 4) pe_int (fun _ _ => rfl)) (pv 1) (by with_unfolding_all rfl))))) (pss_one (ps_ret pe_str)) pss_nil)
    (pss_cons (ps_if (PW.pt (pw_and (pt_cmpR op_eq (pv 6) pe_str (nomark _)) (pw_and1 (pt_cmpR op_notIn_seq (pe_ix ix_tup (pv 4) pe_int (fun _ _ => rfl)) (pv 2) (by with_unfolding_all rfl))))) (pss_one (ps_ret pe_str)) pss_nil)
    (pss_one (ps_if (PW.pt (pw_and (pt_cmpR op_eq (pv 6) pe_str (nomark _)) (pw_and1 (pt_val (pv 5))))) (pss_one (ps_ret pe_str)) pss_nil))))))
    (pss_one (ps_ret pe_non))))), ?_⟩
    refine ⟨(by show 0 ≤ sizeLine; decide), fun F hF => ?_⟩
    have s1 := same_new hF (.lst [])
    refine ⟨_, rfl, _, rfl, v, b, false, F, [], rfl, dp_ext (same_ext s1) _ hd, by omega, upd_same, by simp; omega, fun H2 more hF2 fd2 t2 k2 => ?_⟩
    rw [List.nil_append] at hF2
    have s2 : Same H H2 := fun p o e => k2 p o (fun z => by cases List.mem_singleton.mp z; rw [hF] at e; cases e) (s1 p o e)
    refine ⟨_, rfl, F, rfl, ⟨_, SqL.of hF2⟩, ?_⟩
    refine for_list (xs := more) (fun i σ H' => ∃ b4 b5 b6, σ = [some v, some (.ref la), some (.ref na), some (.ref F), b4, b5, b6] ∧ Same H2 H' ∧ bfault L N b = ((fss false b).drop i).findSome? (fault1 L N)) ?_ ?_ ?_ ?_
    · exact ⟨none, none, none, rfl, Same.refl _, rfl⟩
    · rintro i σ H' _ ⟨_, _, _, _, s3, _⟩
      exact SqL.of (s3 _ _ hF2)
    · rintro i x _ H3 hx ⟨b4, b5, b6, rfl, s3, ei⟩
      obtain ⟨p, xv, st, sec, rfl, hp, hxd, hst⟩ := fd2.get hx
      have es := ei.trans (find_step hst)
      have hp3 := (Tk.same s3).sqt hp
      have hd3 := (Tk.same s3).dp _ (tup_St st) hxd
      have hla3 := sqt_ext (same_ext (s2.trans s3)) hla
      have hna3 := sq_ext (same_ext (s2.trans s3)) hna
      refine ⟨p, _, rfl, hp3, rfl, _, _, rfl, _, _, rfl, rfl, ?_⟩
      cases st with
      | dd x =>
        obtain ⟨a, xs, rfl, hs, ha, hl⟩ := len_ok hd3
        cases ha with
        | cons h0 ha =>
        cases h0
        refine ⟨_, rfl, _, _, _, _, rfl, rfl, hs, at0 _ _, ?_⟩
        refine ⟨_, rfl, (by show 2 ≤ sizeLine; decide), fun p2 hp2 => ⟨p2, _, rfl, .inr (SqT.of upd_same), rfl, rfl, _, rfl, ?_⟩⟩
        have sN := same_new hp2 (.tup [.str "do", .str "undo"])
        have hs' := sqt_ext (same_ext sN) hs
        have hla4 := sqt_ext (same_ext sN) hla3
        have hna4 := sq_ext (same_ext sN) hna3
        refine ifT (by decide +kernel) ?_
        cases ha with
        | cons h1 ha =>
        cases h1
        refine ⟨_, rfl, _, _, _, _, rfl, rfl, hs', at1 _ _ _, _, rfl, la, _, rfl, .inr hla4, rfl, flat_strs _, _, rfl, ?_⟩
        show if (!inV (.str x) (L.map V.str)) = true then _ else _
        rw [inV_strs]
        by_cases hin : x ∈ L
        case neg =>
          rw [decide_eq_false hin]
          rw [fault1, if_neg hin] at es
          rw [es] at q
          exact iteT (q _ ((s2.trans s3).trans sN))
        rw [fault1, if_pos hin] at es
        rw [decide_eq_true hin]
        refine iteF ?_
        refine ⟨_, rfl, rfl, _, rfl, ?_⟩
        rw [dec_str]
        refine ifF (by decide +kernel) ?_
        refine ⟨_, rfl, rfl, _, rfl, ?_⟩
        rw [dec_str]
        refine ifF (by decide +kernel) ?_
        exact ⟨_, _, _, rfl, s3.trans sN, es⟩
      | ud x =>
        obtain ⟨a, xs, rfl, hs, ha, hl⟩ := len_ok hd3
        cases ha with
        | cons h0 ha =>
        cases h0
        refine ⟨_, rfl, _, _, _, _, rfl, rfl, hs, at0 _ _, ?_⟩
        refine ⟨_, rfl, (by show 2 ≤ sizeLine; decide), fun p2 hp2 => ⟨p2, _, rfl, .inr (SqT.of upd_same), rfl, rfl, _, rfl, ?_⟩⟩
        have sN := same_new hp2 (.tup [.str "do", .str "undo"])
        have hs' := sqt_ext (same_ext sN) hs
        have hla4 := sqt_ext (same_ext sN) hla3
        have hna4 := sq_ext (same_ext sN) hna3
        refine ifT (by decide +kernel) ?_
        cases ha with
        | cons h1 ha =>
        cases h1
        refine ⟨_, rfl, _, _, _, _, rfl, rfl, hs', at1 _ _ _, _, rfl, la, _, rfl, .inr hla4, rfl, flat_strs _, _, rfl, ?_⟩
        show if (!inV (.str x) (L.map V.str)) = true then _ else _
        rw [inV_strs]
        by_cases hin : x ∈ L
        case neg =>
          rw [decide_eq_false hin]
          rw [fault1, if_neg hin] at es
          rw [es] at q
          exact iteT (q _ ((s2.trans s3).trans sN))
        rw [fault1, if_pos hin] at es
        rw [decide_eq_true hin]
        refine iteF ?_
        refine ⟨_, rfl, rfl, _, rfl, ?_⟩
        rw [dec_str]
        refine ifF (by decide +kernel) ?_
        refine ⟨_, rfl, rfl, _, rfl, ?_⟩
        rw [dec_str]
        refine ifF (by decide +kernel) ?_
        exact ⟨_, _, _, rfl, s3.trans sN, es⟩
      | cl x =>
        obtain ⟨a, xs, rfl, hs, ha, hl⟩ := len_ok hd3
        cases ha with
        | cons h0 ha =>
        cases h0
        refine ⟨_, rfl, _, _, _, _, rfl, rfl, hs, at0 _ _, ?_⟩
        refine ⟨_, rfl, (by show 2 ≤ sizeLine; decide), fun p2 hp2 => ⟨p2, _, rfl, .inr (SqT.of upd_same), rfl, rfl, _, rfl, ?_⟩⟩
        have sN := same_new hp2 (.tup [.str "do", .str "undo"])
        have hs' := sqt_ext (same_ext sN) hs
        have hla4 := sqt_ext (same_ext sN) hla3
        have hna4 := sq_ext (same_ext sN) hna3
        refine ifF (by decide +kernel) ?_
        refine ⟨_, rfl, rfl, _, rfl, ?_⟩
        rw [dec_str]
        refine ifT (by decide +kernel) ?_
        cases ha with
        | cons h1 ha =>
        cases h1
        refine ⟨_, rfl, _, _, _, _, rfl, rfl, hs', at1 _ _ _, _, rfl, na, _, rfl, .inl hna4, rfl, flat_strs _, _, rfl, ?_⟩
        show if (!inV (.str x) (N.map V.str)) = true then _ else _
        rw [inV_strs]
        by_cases hin : x ∈ N
        case neg =>
          rw [decide_eq_false hin]
          rw [fault1, if_neg hin] at es
          rw [es] at q
          exact iteT (q _ ((s2.trans s3).trans sN))
        rw [fault1, if_pos hin] at es
        rw [decide_eq_true hin]
        refine iteF ?_
        refine ⟨_, rfl, rfl, _, rfl, ?_⟩
        rw [dec_str]
        refine ifF (by decide +kernel) ?_
        exact ⟨_, _, _, rfl, s3.trans sN, es⟩
      | rt =>
        obtain ⟨a, xs, rfl, hs, ha, hl⟩ := len_ok hd3
        cases ha with
        | cons h0 ha =>
        cases h0
        refine ⟨_, rfl, _, _, _, _, rfl, rfl, hs, at0 _ _, ?_⟩
        refine ⟨_, rfl, (by show 2 ≤ sizeLine; decide), fun p2 hp2 => ⟨p2, _, rfl, .inr (SqT.of upd_same), rfl, rfl, _, rfl, ?_⟩⟩
        have sN := same_new hp2 (.tup [.str "do", .str "undo"])
        have hs' := sqt_ext (same_ext sN) hs
        have hla4 := sqt_ext (same_ext sN) hla3
        have hna4 := sq_ext (same_ext sN) hna3
        refine ifF (by decide +kernel) ?_
        refine ⟨_, rfl, rfl, _, rfl, ?_⟩
        rw [dec_str]
        refine ifF (by decide +kernel) ?_
        refine ⟨_, rfl, rfl, _, rfl, ?_⟩
        rw [dec_str]
        refine ifT (by decide +kernel) ?_
        refine ⟨_, rfl, _, rfl, ?_⟩
        cases sec with
        | true =>
          rw [fault1, if_pos rfl] at es
          rw [es] at q
          exact iteT (q _ ((s2.trans s3).trans sN))
        | false =>
          rw [fault1, if_neg (by decide)] at es
          exact iteF ⟨_, _, _, rfl, s3.trans sN, es⟩
      | ch bs =>
        obtain ⟨a, xs, rfl, hs, ha, hl⟩ := len_ok hd3
        cases ha with
        | cons h0 ha =>
        cases h0
        refine ⟨_, rfl, _, _, _, _, rfl, rfl, hs, at0 _ _, ?_⟩
        refine ⟨_, rfl, (by show 2 ≤ sizeLine; decide), fun p2 hp2 => ⟨p2, _, rfl, .inr (SqT.of upd_same), rfl, rfl, _, rfl, ?_⟩⟩
        have sN := same_new hp2 (.tup [.str "do", .str "undo"])
        have hs' := sqt_ext (same_ext sN) hs
        have hla4 := sqt_ext (same_ext sN) hla3
        have hna4 := sq_ext (same_ext sN) hna3
        refine ifF (by decide +kernel) ?_
        refine ⟨_, rfl, rfl, _, rfl, ?_⟩
        rw [dec_str]
        refine ifF (by decide +kernel) ?_
        refine ⟨_, rfl, rfl, _, rfl, ?_⟩
        rw [dec_str]
        refine ifF (by decide +kernel) ?_
        exact ⟨_, _, _, rfl, s3.trans sN, es⟩
      | lp b =>
        obtain ⟨a, xs, rfl, hs, ha, hl⟩ := len_ok hd3
        cases ha with
        | cons h0 ha =>
        cases h0
        refine ⟨_, rfl, _, _, _, _, rfl, rfl, hs, at0 _ _, ?_⟩
        refine ⟨_, rfl, (by show 2 ≤ sizeLine; decide), fun p2 hp2 => ⟨p2, _, rfl, .inr (SqT.of upd_same), rfl, rfl, _, rfl, ?_⟩⟩
        have sN := same_new hp2 (.tup [.str "do", .str "undo"])
        have hs' := sqt_ext (same_ext sN) hs
        have hla4 := sqt_ext (same_ext sN) hla3
        have hna4 := sq_ext (same_ext sN) hna3
        refine ifF (by decide +kernel) ?_
        refine ⟨_, rfl, rfl, _, rfl, ?_⟩
        rw [dec_str]
        refine ifF (by decide +kernel) ?_
        refine ⟨_, rfl, rfl, _, rfl, ?_⟩
        rw [dec_str]
        refine ifF (by decide +kernel) ?_
        exact ⟨_, _, _, rfl, s3.trans sN, es⟩
      | en b c =>
        obtain ⟨a, xs, rfl, hs, ha, hl⟩ := len_ok hd3
        cases ha with
        | cons h0 ha =>
        cases h0
        refine ⟨_, rfl, _, _, _, _, rfl, rfl, hs, at0 _ _, ?_⟩
        refine ⟨_, rfl, (by show 2 ≤ sizeLine; decide), fun p2 hp2 => ⟨p2, _, rfl, .inr (SqT.of upd_same), rfl, rfl, _, rfl, ?_⟩⟩
        have sN := same_new hp2 (.tup [.str "do", .str "undo"])
        have hs' := sqt_ext (same_ext sN) hs
        have hla4 := sqt_ext (same_ext sN) hla3
        have hna4 := sq_ext (same_ext sN) hna3
        refine ifF (by decide +kernel) ?_
        refine ⟨_, rfl, rfl, _, rfl, ?_⟩
        rw [dec_str]
        refine ifF (by decide +kernel) ?_
        refine ⟨_, rfl, rfl, _, rfl, ?_⟩
        rw [dec_str]
        refine ifF (by decide +kernel) ?_
        exact ⟨_, _, _, rfl, s3.trans sN, es⟩
    · rintro σ H3 ⟨b4, b5, b6, rfl, s3, ei⟩
      rw [fd2.len, List.drop_length] at ei
      rw [ei] at q
      exact q H3 (s2.trans s3)
def spCheck (K : PySem.W.Frag) (Ts : List Addr) : Sp := fun vs H Q _ => ∃ v L P AL BN, vs = [v] ∧ Dp K H v (progD L P) ∧ Prog L P AL BN ∧ Tbs Ts H ∧ ∀ H' v', Go Ts H H' → Dp K H' v' (chkD L P) → Q v' H'
theorem sc_check : FnScope ["program", "letters", "procedures", "names", "procedure", "double", "name", "body", "word"] ["program"] (C8.fnScope (topS 34)) := C8.fnScope_by (by decide +kernel)
theorem ok_check {Ts : List Addr} {f : Addr} {fd : FuncData} (F : C8.Def K mg "check" (topS 34) f fd) (b : Binds K fd ["program"] []) (B : Bl K mg) (c_want_program : C8.Cal P w K mg base 9 "want_program" (spWant K Ts) []) (c_fdT : C8.Cal P w K mg base 1 "_first_double" (spFDT K) []) (c_fdL : C8.Cal P w K mg base 1 "_first_double" (spFDL K) []) (c__body_fault : C8.Cal P w K mg base 16 "_body_fault" (spBF K) []) : C8.Cal P w K mg base 17 "check" (spCheck K Ts) [] := by
  refine C8.cal0 F b .nil sc_check ?len ?body
  case len => rintro vs H Q E ⟨v, L, Ps, AL, BN, rfl, _⟩; rfl
  case body =>
    rintro cdv A outer s H vs Q E hr ⟨v, L, Ps, AL, BN, rfl, hd, hP, hTb, q⟩
    refine ⟨_, (pss_cons (ps_expr (C8.pe_c c_want_program hr (by decide) rfl (pa_cons (pv 0) pa_nil)))
    (pss_cons (ps_asg (pv 0) (pg_tup rfl (pgs_cons (pg_name (i := 1) sc_check.nd rfl (Or.inl rfl)) (pgs_cons (pg_name (i := 2) sc_check.nd rfl (Or.inl rfl)) pgs_nil))))
    (pss_cons (ps_setLc (i := 3) (te := tOp (rIxT K) (tVar 4) (tC (.int 0)))  (own := [("procedure", 4)]) (g := gName 4) (by rfl) sc_check.nd rfl rfl (sw_true rfl rfl rfl (by decide +kernel)) (pi_tup (pv 2)) (blkOk_by (own := [("procedure", 4)]) (N := ["program", "letters", "procedures", "names", "procedure", "double", "name", "body", "word"]) (sc := (C8.fnScope (topS 34))) (by decide +kernel)) (fun _ _ _ _ _ => pg_name (i := 4) sc_check.nd rfl (Or.inl rfl)) (fun _ _ _ _ _ => pts_nil) (fun _ _ _ _ _ => by exact (pe_ix ix_tup (pv 4) pe_int (fun _ _ => rfl))))
    (pss_cons (ps_set (i := 5) sc_check.nd rfl (Or.inl rfl) (C8.pe_c c_fdT hr (by decide) rfl (pa_cons (pv 1) pa_nil)))
    (pss_cons (ps_if (pt_cmpR op_notN (pv 5) pe_non (nomark _)) (pss_one (ps_ret (pe_tup (pa_cons pe_str (pa_cons (pv 5) pa_nil))))) pss_nil)
    (pss_cons (ps_set (i := 5) sc_check.nd rfl (Or.inl rfl) (C8.pe_c c_fdL hr (by decide) rfl (pa_cons (pv 3) pa_nil)))
    (pss_cons (ps_if (pt_cmpR op_notN (pv 5) pe_non (nomark _)) (pss_one (ps_ret (pe_tup (pa_cons pe_str (pa_cons (pv 5) pa_nil))))) pss_nil)
    (pss_cons (ps_for PassesOwn.never rfl (pi_tup (pv 2)) (pg_tup rfl (pgs_cons (pg_name (i := 6) sc_check.nd rfl (Or.inl rfl)) (pgs_cons (pg_name (i := 7) sc_check.nd rfl (Or.inl rfl)) pgs_nil)))
    (pss_cons (ps_set (i := 8) sc_check.nd rfl (Or.inl rfl) (C8.pe_c c__body_fault hr (by decide) rfl (pa_cons (pv 7) (pa_cons (pv 1) (pa_cons (pv 3) pa_nil)))))
    (pss_one (ps_if (pt_cmpR op_notN (pv 8) pe_non (nomark _)) (pss_one (ps_ret (pe_tup (pa_cons (pv 8) (pa_cons (pv 6) pa_nil))))) pss_nil))))
    (pss_one (ps_ret pe_non)))))))))), ?_⟩
    refine ⟨_, rfl, v, L, Ps, AL, BN, rfl, hd, hP, hTb, fun H1 g1 => ?_⟩
    have hd1 := (Tk.go hTb g1).dp _ (tup_prog L Ps) hd
    obtain ⟨a, xs, rfl, hs, ha, hl⟩ := len_ok hd1
    cases ha with
    | @cons vL _ _ _ hvL ha =>
    cases ha with
    | @cons vP _ _ _ hvP ha =>
    cases ha
    refine ⟨_, rfl, a, _, rfl, hs, rfl, _, _, rfl, _, _, rfl, rfl, ?_⟩
    obtain ⟨la, lxs, rfl, hls, hla, hll⟩ := len_ok hvL
    obtain ⟨pa, pxs, rfl, hps, hpa, hpl⟩ := len_ok hvP
    have elx : lxs = L.map V.str := strs_vals hla
    subst elx
    rw [List.length_map] at hpl
    refine ⟨_, rfl, pa, rfl, ⟨_, hps⟩, fun Dd hDd => ?_⟩
    refine lc_tup (xs := pxs) (fun i H' => H' Dd = some (.lst (((Ps.take i).map Prod.fst).map V.str)) ∧ Same H1 H') ?_ ?_ ?_ ?_
    · exact ⟨by simpa using upd_same, same_new hDd _⟩
    · rintro i H' _ ⟨_, s5⟩
      exact (Tk.same s5).sqt hps
    · rintro i x H5 hx ⟨hv1, s5⟩
      obtain ⟨d, hd, hdp⟩ := dps_get' hpa hx
      obtain ⟨p, hp, rfl⟩ := procs_get hd
      have hd5 := (Tk.same s5).dp _ (tup_proc p) hdp
      obtain ⟨qa, qxs, rfl, hqs, hqa, hql⟩ := len_ok hd5
      cases hqa with
      | @cons v0 _ _ _ h0 hqa =>
      cases h0
      refine ⟨rfl, ?_⟩
      refine ⟨_, rfl, _, _, _, _, rfl, rfl, hqs, at0 _ _, _, hv1, ?_, ?_, ?_⟩
      · have := hP.p2
        have h3 : (Ps.take i).length ≤ Ps.length := List.length_take_le' _ _
        exact Nat.lt_of_le_of_lt (show _ ≤ 8 by rw [List.length_map, List.length_map]; omega) (by decide)
      · rw [upd_same, List.take_succ, hp]
        simp
      · intro b o e
        rw [upd_ne (fun z => by rw [z, hDd] at e; cases e)]
        exact s5 _ _ e
    · rintro H5 ⟨hv1, s5⟩
      rw [hpl, List.take_length] at hv1
      have hls5 := (Tk.same s5).sqt hls
      refine ⟨_, rfl, la, L, rfl, hls5, fun H6 s6 => ?_⟩
      have ek : chkD L Ps = chkD L Ps := rfl
      conv at ek => rhs; unfold chkD
      have goS : ∀ {H' : Hp}, Same H1 H' → Go Ts H H' := fun s => g1.trans (Go.of_same g1.1 s)
      cases e1 : firstD L with
      | some x =>
        rw [e1] at ek
        refine ⟨_, rfl, rfl, _, rfl, ?_⟩
        refine iteT ⟨_, rfl, (by show 2 ≤ sizeLine; decide), fun p hp => ?_⟩
        exact q _ _ (goS ((s5.trans s6).trans (same_new hp _))) (by rw [ek]; exact dp_tup2 hp (.str _) (.str _))
      | none =>
      rw [e1] at ek
      refine ⟨_, rfl, rfl, _, rfl, ?_⟩
      refine iteF ?_
      have hv6 := s6 _ _ hv1
      refine ⟨_, rfl, Dd, Ps.map Prod.fst, rfl, SqL.of hv6, fun H7 s7 => ?_⟩
      cases e2 : firstD (Ps.map Prod.fst) with
      | some x =>
        rw [e2] at ek
        refine ⟨_, rfl, rfl, _, rfl, ?_⟩
        refine iteT ⟨_, rfl, (by show 2 ≤ sizeLine; decide), fun p hp => ?_⟩
        exact q _ _ (goS (((s5.trans s6).trans s7).trans (same_new hp _))) (by rw [ek]; exact dp_tup2 hp (.str _) (.str _))
      | none =>
      rw [e2] at ek
      refine ⟨_, rfl, rfl, _, rfl, ?_⟩
      refine iteF ?_
      have s17 : Same H1 H7 := s5.trans (s6.trans s7)
      have hv7 := s7 _ _ hv6
      refine ⟨_, rfl, pa, rfl, ⟨_, (Tk.same s17).sqt hps⟩, ?_⟩
      refine for_tup (xs := pxs) (fun i σ H' => ∃ b7 b8 b9, σ = [some (.ref a), some (.ref la), some (.ref pa), some (.ref Dd), none, some .non, b7, b8, b9] ∧ Same H7 H' ∧ Ps.findSome? (pfault L (Ps.map Prod.fst)) = (Ps.drop i).findSome? (pfault L (Ps.map Prod.fst))) ?_ ?_ ?_ ?_
      · exact ⟨none, none, none, rfl, Same.refl _, rfl⟩
      · rintro i σ H' _ ⟨_, _, _, _, s8, _⟩
        exact (Tk.same (s17.trans s8)).sqt hps
      · rintro i x _ H8 hx ⟨b7, b8, b9, rfl, s8, ei⟩
        obtain ⟨d, hd, hdp⟩ := dps_get' hpa hx
        obtain ⟨p, hp, rfl⟩ := procs_get hd
        have s18 := s17.trans s8
        have hd8 := (Tk.same s18).dp _ (tup_proc p) hdp
        obtain ⟨qa, qxs, rfl, hqs, hqa, hql⟩ := len_ok hd8
        cases hqa with
        | @cons v0 _ _ _ h0 hqa =>
        cases h0
        cases hqa with
        | @cons v1 _ _ _ h1 hqa =>
        cases hqa
        refine ⟨qa, _, rfl, hqs, rfl, _, _, rfl, _, _, rfl, rfl, ?_⟩
        have hpm : p.2 ∈ nsP Ps := List.mem_map.mpr ⟨p, List.mem_of_getElem? hp, rfl⟩
        have hk := kss_mem hpm
        have hn := nss_mem hpm
        have hk2 := hP.ks
        have hn2 := hP.n
        refine ⟨_, rfl, _, rfl, _, rfl, v1, la, Dd, p.2, L, Ps.map Prod.fst, rfl, h1, by omega, by omega, (Tk.same s18).sqt hls, SqL.of (s8 _ _ hv7), fun H9 s9 => ?_⟩
        have es := ei.trans (find_step hp)
        cases e3 : bfault L (Ps.map Prod.fst) p.2 with
        | some x =>
          rw [pfault, e3] at es
          rw [es] at ek
          refine ⟨_, rfl, rfl, _, rfl, ?_⟩
          refine iteT ⟨_, rfl, _, rfl, (by show 2 ≤ sizeLine; decide), fun p2 hp2 => ?_⟩
          exact q _ _ (goS ((s18.trans s9).trans (same_new hp2 _))) (by rw [ek]; exact dp_tup2 hp2 (.str _) (.str _))
        | none =>
          rw [pfault, e3] at es
          refine ⟨_, rfl, rfl, _, rfl, ?_⟩
          exact iteF ⟨_, _, _, rfl, s8.trans s9, es⟩
      · rintro σ H8 ⟨b7, b8, b9, rfl, s8, ei⟩
        rw [hpl, List.drop_length] at ei
        rw [ei] at ek
        exact q _ _ (goS (s17.trans s8)) (by rw [ek]; exact .non)
end
end K06


set_option Elab.async false
set_option linter.all false
set_option maxRecDepth 100000
set_option maxHeartbeats 8000000
namespace K06
open PySem PySem.Spec PyProof.Rows L2
/-! ### tuples of which the object is known: their methods may be called -/
def TupO (H : Hp) (a : Addr) (ys : List V) : Prop := ∃ o : Obj, H a = some (.frz o (.tup ys)) ∧ o.cls = .type "tuple" ∧ o.dict = none
theorem TupO.tk {H H' : Hp} {a : Addr} {ys : List V} (h : TupO H a ys) (t : Tk H H') : TupO H' a ys := let ⟨o, h1, h2⟩ := h; ⟨o, (t _ _).2 o h1, h2⟩
theorem TupO.sq {K : PySem.W.Frag} {H : Hp} {a : Addr} {ys : List V} (h : TupO H a ys) : SqT K H a ys := let ⟨o, h1, _⟩ := h; .inl (.inr ⟨o, h1⟩)
section
variable {X : Cx}
def rTupZ (K : PySem.W.Frag) : List V → Hp → VK → Prop := fun zs H Q => ∃ (l : Addr) (ys : List V), zs = [.ref l] ∧ SqL K H l ys ∧ ∀ (r : Addr) (ob : Obj), H r = none → ob.cls = .type "tuple" → ob.dict = none → Q (.ref r) (upd H r (.frz ob (.tup ys)))
theorem call_tupleZ : CallR X (.type "tuple") (rTupZ X.K) := by
  intro pins sh σ H zs us Q J rz hyp
  obtain ⟨l, ys, rfl, hl, fin⟩ := hyp
  obtain ⟨u, rfl, ru⟩ := vals1 rz
  have eu : u = Value.ref l := ru
  subst eu
  obtain ⟨its, ri, pp, hsz⟩ := J.list hl
  refine call_tuple_list pp.isList (fun hh keep => ?_) (by rw [List.size_toArray, ← ri.length]; exact hsz)
  have J2 := J.kept (t' := sh.toks) keep
  let ob : Obj := { cls := .type "tuple", data := .seq its.toArray }
  have J3 : Inv X pins σ (upd H hh.objs.size (.frz ob (.tup ys))) { sh with heap := hh.push ob } :=
    J2.laid (t' := sh.toks) (fun _ _ e => Heap.get?_push_of_some _ e) (Nat.le_refl _) ⟨Heap.get?_push_size _ rfl, hsz, its, ri, IsTup.new _ _⟩
  exact ⟨.ref hh.objs.size, _, J3, rfl, fin _ ob (J2.hok.fresh (Nat.le_refl _)) rfl rfl⟩
end
/-- a program's data -/
def PD (K : PySem.W.Frag) (H : Hp) (v : V) (L : List Str) (P : List (Str × List St)) : Prop := Dp K H v (progD L P)
theorem PD.tk {K : PySem.W.Frag} {H H' : Hp} {v : V} {L : List Str} {P : List (Str × List St)} (h : PD K H v L P) (t : Tk H H') : PD K H' v L P := t.dp _ (tup_prog L P) h
theorem PD.open {K : PySem.W.Frag} {H : Hp} {v : V} {L : List Str} {P : List (Str × List St)} (h : PD K H v L P) : ∃ a la pv, v = .ref a ∧ SqT K H a [.ref la, pv] ∧ SqT K H la (L.map V.str) ∧ Dp K H pv (.tuple (P.map procD)) := by
  obtain ⟨a, xs, rfl, hs, ha, _⟩ := len_ok h
  cases ha with
  | @cons vL _ _ _ hvL ha =>
  cases ha with
  | @cons vP _ _ _ hvP ha =>
  cases ha
  obtain ⟨la, lxs, rfl, hls, hla, _⟩ := len_ok hvL
  cases strs_vals hla
  exact ⟨a, la, vP, rfl, hs, hls, hvP⟩
theorem dp_strs {K : PySem.W.Frag} {H : Hp} : ∀ L : List Str, DpAll K H (L.map V.str) (L.map PyData.str)
  | [] => .nil
  | x :: r => .cons (.str x) (dp_strs r)
theorem PD.make {K : PySem.W.Frag} {H : Hp} {a la : Addr} {pv : V} {L : List Str} {P : List (Str × List St)} (h : SqT K H a [.ref la, pv]) (hl : SqT K H la (L.map V.str)) (hp : Dp K H pv (.tuple (P.map procD))) : PD K H (.ref a) L P := .tup h (.cons (.tup hl (dp_strs L)) (.cons hp .nil))
theorem ix_nat {n j : Nat} (hj : j < n) : ixN n (j : Int) = some j := by
  unfold ixN
  rw [if_pos (by omega), if_pos (by omega), Int.toNat_natCast]
theorem dss_snoc (secs : List (List St)) (c : List St) : dss (secs ++ [c]) = dss secs ++ [.tuple (ds c)] := by rw [dss_map, dss_map, List.map_append]; rfl
end K06


set_option Elab.async false
set_option linter.all false
set_option maxRecDepth 100000
set_option maxHeartbeats 8000000
namespace K06
open PySem PySem.Spec PyProof.Rows L2
/-! ### the well of draws -/
def Wl (H : Hp) (w l : Addr) (m : Nat) : Prop := ∃ (ns : List Int) (a n : Int), H w = some (.lst [.ref l, .int a, .int n]) ∧ H l = some (.lst (ns.map V.int)) ∧ w ≠ l ∧ 0 ≤ a ∧ a < 2147483648 ∧ 0 ≤ n ∧ n + m ≤ 1000000000000000000
theorem Wl.le {H : Hp} {w l : Addr} {m k : Nat} (h : Wl H w l m) (hk : k ≤ m) : Wl H w l k := by
  obtain ⟨ns, a, n, h1, h2, h3, h4, h5, h6, h7⟩ := h
  exact ⟨ns, a, n, h1, h2, h3, h4, h5, h6, by omega⟩
theorem Wl.kp {H H' : Hp} {w l : Addr} {m : Nat} {as : List Addr} (h : Wl H w l m) (k : Kp as H H') (nw : w ∉ as) (nl : l ∉ as) : Wl H' w l m := by
  obtain ⟨ns, a, n, h1, h2, h3⟩ := h
  exact ⟨ns, a, n, k _ _ nw h1, k _ _ nl h2, h3⟩
theorem Wl.same {H H' : Hp} {w l : Addr} {m : Nat} (h : Wl H w l m) (s : Same H H') : Wl H' w l m := by
  obtain ⟨ns, a, n, h1, h2, h3⟩ := h
  exact ⟨ns, a, n, s _ _ h1, s _ _ h2, h3⟩
theorem Wl.out {H : Hp} {w l p : Addr} {m : Nat} (h : Wl H w l m) (hp : H p = none) : p ∉ [w, l] := by
  obtain ⟨ns, a, n, h1, h2, _⟩ := h
  intro z
  rcases List.mem_cons.mp z with rfl | z
  · rw [h1] at hp; cases hp
  · cases List.mem_singleton.mp z
    rw [h2] at hp; cases hp
theorem dp_ints9 {K : PySem.W.Frag} {H : Hp} : ∀ ns : List Int, DpAll K H (ns.map V.int) (ns.map PyData.int)
  | [] => .nil
  | n :: ns => .cons (.int n) (dp_ints9 ns)
theorem canAll_ints : ∀ ns : List Int, PyData.canLayAll0 (ns.map PyData.int) = true ∧ PyData.depthAll (ns.map PyData.int) = 0
  | [] => ⟨rfl, rfl⟩
  | n :: ns => by
    have ih := canAll_ints ns
    constructor
    · rw [List.map_cons, PyData.canLayAll0, ih.1]; rfl
    · rw [List.map_cons, PyData.depthAll, ih.2]; rfl
theorem shaped_ints (ns : List Int) : SeqAt.shaped (.list (ns.map PyData.int)) = true := by
  have h := canAll_ints ns
  unfold SeqAt.shaped
  rw [PyData.canLay0, h.1, PyData.depth, h.2]
  decide
theorem eqv_nil9 (ds : List PyData) : PyData.eqv (.list ds) (.list []) = ds.isEmpty := by
  cases ds <;> simp [PyData.eqv, PyData.eqvAll]
theorem seq09 {α : Type} {x : α} (l : List α) : seqIndex? 0 (x :: l).length = some 0 := by
  unfold seqIndex?
  simp
section
variable {P : Program} {w : World} {K : PySem.W.Frag} {mg : Str → Option Value} {base : Heap}
def spDraw : Sp := fun vs H Q _ => ∃ (w l : Addr) (m : Nat) (k : Int), vs = [.ref w, .int k] ∧ Wl H w l (m + 1) ∧ 1 ≤ k ∧ k ≤ 1000000 ∧ ∀ (r : Int) H', 0 ≤ r → r < k → Wl H' w l m → Kp [w, l] H H' → Tk H H' → Q (.int r) H'
theorem sc__law_draw : FnScope ["well", "many", "top"] ["well", "many"] (C8.fnScope (topS 40)) := C8.fnScope_by (by decide +kernel)
theorem ok__law_draw {f : Addr} {fd : FuncData} (F : C8.Def K mg "_law_draw" (topS 40) f fd) (b : Binds K fd ["well", "many"] []) (B : Bl K mg)  : C8.Cal P w K mg base 1 "_law_draw" spDraw [] := by
  refine C8.cal0 F b .nil sc__law_draw ?len ?body
  case len => rintro vs H Q E ⟨w, l, m, k, rfl, _⟩; rfl
  case body =>
    rintro cdv A outer s H vs Q E hr ⟨w, l, m, k, rfl, ⟨ns, a, n, hw, hl, hwl, ha0, ha1, hn0, hn1⟩, hk0, hk1, q⟩
    refine ⟨_, (pss_cons (ps_if (pt_cmpR (op_neD hr.units) (pe_ix ix_list (pv 0) pe_int (fun _ _ => rfl)) (pe_lst pa_nil) (nomark _)) (pss_cons (ps_set (i := 2) sc__law_draw.nd rfl (Or.inl rfl) (pe_ix ix_list (pe_ix ix_list (pv 0) pe_int (fun _ _ => rfl)) pe_int (fun _ _ => rfl)))
    (pss_cons (ps_if (pt_cmpR op_lt (pv 2) (pv 1) (nomark _)) (pss_one (ps_expr (pe_bm PySem.F.plainAttrs_list PySem.F.slot_list_pop PySem.F.type_list_pop mt_popAt (pe_ix ix_list (pv 0) pe_int (fun _ _ => rfl)) (pa_cons pe_int pa_nil)))) (pss_one (ps_asg (pe_op op_fdiv (pv 2) (pv 1)) (pg_sub (pe_ix ix_list (pv 0) pe_int (fun _ _ => rfl)) pe_int set_list))))
    (pss_one (ps_ret (pe_op op_mod (pe_callTy call_int1 rfl B.int (by decide +kernel) (pa_cons (pv 2) pa_nil)) (pv 1)))))) pss_nil)
    (pss_cons (ps_asg (pe_op op_add (pe_ix ix_list (pv 0) pe_int (fun _ _ => rfl)) pe_int) (pg_sub (pv 0) pe_int set_list))
    (pss_cons (ps_asg (pe_op op_mod (pe_callTy call_int1 rfl B.int (by decide +kernel) (pa_cons (pe_op op_add (pe_op op_add (pe_op op_mul (pe_ix ix_list (pv 0) pe_int (fun _ _ => rfl)) pe_int) (pe_op op_mul (pe_op op_mul pe_int (pe_ix ix_list (pv 0) pe_int (fun _ _ => rfl))) (pe_ix ix_list (pv 0) pe_int (fun _ _ => rfl)))) pe_int) pa_nil)) pe_int) (pg_sub (pv 0) pe_int set_list))
    (pss_one (ps_ret (pe_op op_mod (pe_op op_fdiv (pe_op op_mod (pe_callTy call_int1 rfl B.int (by decide +kernel) (pa_cons (pe_op op_mul (pe_ix ix_list (pv 0) pe_int (fun _ _ => rfl)) (pe_ix ix_list (pv 0) pe_int (fun _ _ => rfl))) pa_nil)) pe_int) pe_int) (pv 1))))))), ?_⟩
    refine ⟨_, rfl, w, _, _, _, rfl, rfl, SqL.of hw, at0 _ _, (by show 0 ≤ sizeLine; decide), fun p hp => ?_⟩
    have s1 := same_new hp (.lst [])
    have nw : w ≠ p := fun z => by rw [z, hp] at hw; cases hw
    have nl : l ≠ p := fun z => by rw [z, hp] at hl; cases hl
    have hw1 := s1 _ _ hw
    have hl1 := s1 _ _ hl
    refine ⟨.list (ns.map PyData.int), .list [], .lst (SqL.of hl1) (dp_ints9 ns), .lst (SqL.of upd_same) .nil, shaped_ints ns, by decide +kernel, _, rfl, ?_⟩
    rw [eqv_nil9]
    generalize upd H p (.lst []) = H1 at s1 hw1 hl1
    have k1 : Kp [w, l] H H1 := Kp.of_same s1
    have t1 : Tk H H1 := Tk.same s1
    cases ns with
    | nil =>
      refine iteF ?_
      refine ⟨_, rfl, _, _, _, _, rfl, rfl, SqL.of hw1, rfl, _, _, rfl, rfl, _, rfl, w, _, 2, 2, rfl, rfl, hw1, rfl, ?_⟩
      have hw2 : upd H1 w (.lst [.ref l, .int a, .int (n + 1)]) w = some (.lst [.ref l, .int a, .int (n + 1)]) := upd_same
      have hl2 : upd H1 w (.lst [.ref l, .int a, .int (n + 1)]) l = some (.lst (([] : List Int).map V.int)) := by rw [upd_ne (Ne.symm hwl)]; exact hl1
      have k2 : Kp [w, l] H (upd H1 w (.lst [.ref l, .int a, .int (n + 1)])) := k1.trans (Kp.put _ (by simp))
      have t2 : Tk H (upd H1 w (.lst [.ref l, .int a, .int (n + 1)])) := t1.trans (Tk.put hw1 _)
      show (fun H2 => _) (upd H1 w (.lst [.ref l, .int a, .int (n + 1)]))
      generalize upd H1 w (.lst [.ref l, .int a, .int (n + 1)]) = H2 at hw2 hl2 k2 t2
      refine ⟨_, rfl, _, _, _, _, rfl, rfl, SqL.of hw2, rfl, _, _, rfl, rfl, .inl ⟨by omega, by omega⟩, ?_⟩
      refine ⟨_, rfl, _, _, _, _, rfl, rfl, SqL.of hw2, rfl, _, _, rfl, rfl, .inl ⟨by decide, by decide⟩, ?_⟩
      refine ⟨_, rfl, _, _, _, _, rfl, rfl, SqL.of hw2, rfl, _, _, rfl, rfl, .inr ⟨by omega, by omega⟩, ?_⟩
      refine ⟨_, _, rfl, rfl, _, _, rfl, rfl, .inl ⟨_, rfl, _, _, rfl, rfl, (show (0 : Int) < 2147483647 by decide), _, rfl, w, _, 1, 1, rfl, rfl, hw2, rfl, ?_⟩⟩
      have p1 := Int.emod_nonneg (a * 48271 + 69621 * (n + 1) * (n + 1) + 40692) (show (2147483647 : Int) ≠ 0 by decide)
      have p2 := Int.emod_lt_of_pos (a * 48271 + 69621 * (n + 1) * (n + 1) + 40692) (show (0 : Int) < 2147483647 by decide)
      show (fun H2 => _) (upd H2 w (.lst [.ref l, .int ((a * 48271 + 69621 * (n + 1) * (n + 1) + 40692) % 2147483647), .int (n + 1)]))
      generalize (a * 48271 + 69621 * (n + 1) * (n + 1) + 40692) % 2147483647 = a2 at p1 p2
      have hw3 : upd H2 w (.lst [.ref l, .int a2, .int (n + 1)]) w = some (.lst [.ref l, .int a2, .int (n + 1)]) := upd_same
      have hl3 : upd H2 w (.lst [.ref l, .int a2, .int (n + 1)]) l = some (.lst (([] : List Int).map V.int)) := by rw [upd_ne (Ne.symm hwl)]; exact hl2
      have k3 : Kp [w, l] H (upd H2 w (.lst [.ref l, .int a2, .int (n + 1)])) := k2.trans (Kp.put _ (by simp))
      have t3 : Tk H (upd H2 w (.lst [.ref l, .int a2, .int (n + 1)])) := t2.trans (Tk.put hw2 _)
      show (fun H2 => _) (upd H2 w (.lst [.ref l, .int a2, .int (n + 1)]))
      generalize upd H2 w (.lst [.ref l, .int a2, .int (n + 1)]) = H3 at hw3 hl3 k3 t3
      refine ⟨_, rfl, _, _, _, _, rfl, rfl, SqL.of hw3, rfl, ?_⟩
      refine ⟨_, rfl, _, _, _, _, rfl, rfl, SqL.of hw3, rfl, _, _, rfl, rfl, .inl ⟨by omega, by omega⟩, ?_⟩
      refine .inl ⟨_, rfl, _, _, rfl, rfl, (show (0 : Int) < 2147483629 by decide), _, _, rfl, rfl, ⟨by decide, by decide⟩, _, rfl, _, _, rfl, rfl, (show (0 : Int) < k by omega), ?_⟩
      exact q _ _ (Int.emod_nonneg _ (by omega)) (Int.emod_lt_of_pos _ (by omega)) ⟨[], a2, n + 1, hw3, hl3, hwl, p1, by omega, by omega, by omega⟩ k3 t3
    | cons n0 nr =>
      refine iteT ?_
      refine ⟨_, rfl, _, _, _, _, rfl, rfl, SqL.of hw1, rfl, _, _, _, _, rfl, rfl, SqL.of hl1, (show atI (V.int n0 :: nr.map V.int) 0 = some (.int n0) from at0 _ _), ?_⟩
      have fin : ∀ (H' : Hp) (ns' : List Int), H' w = some (.lst [.ref l, .int a, .int n]) → H' l = some (.lst (ns'.map V.int)) → Kp [w, l] H H' → Tk H H' → Q (.int (n0 % k)) H' := fun H' ns' e1 e2 e3 e4 =>
        q _ _ (Int.emod_nonneg _ (by omega)) (Int.emod_lt_of_pos _ (by omega)) ⟨ns', a, n, e1, e2, hwl, ha0, ha1, hn0, by omega⟩ e3 e4
      refine ⟨_, rfl, _, rfl, _, _, rfl, rfl, _, rfl, ?_⟩
      by_cases c1 : n0 < k
      · rw [decide_eq_true c1]
        refine iteT ?_
        refine ⟨_, rfl, _, _, _, _, rfl, rfl, SqL.of hw1, rfl, .inl ⟨rfl, _, SqL.of hl1⟩, l, _, 0, 0, .int n0, rfl, rfl, hl1, by decide, by decide, seq09 _, rfl, ?_⟩
        refine ⟨_, rfl, .inl ⟨_, rfl, _, rfl, _, _, rfl, rfl, (show (0 : Int) < k by omega), ?_⟩⟩
        refine fin _ nr (by rw [upd_ne hwl]; exact hw1) upd_same (k1.trans (Kp.put _ (by simp))) (t1.trans (Tk.put hl1 _))
      · rw [decide_eq_false c1]
        refine iteF ?_
        refine ⟨_, rfl, _, rfl, _, _, rfl, rfl, ⟨by omega, by omega⟩, _, rfl, _, _, _, _, rfl, rfl, SqL.of hw1, rfl, l, _, 0, 0, rfl, rfl, hl1, ix_nat (j := 0) (by simp), ?_⟩
        refine ⟨_, rfl, .inl ⟨_, rfl, _, rfl, _, _, rfl, rfl, (show (0 : Int) < k by omega), ?_⟩⟩
        refine fin _ (n0 / k :: nr) (by rw [upd_ne hwl]; exact hw1) upd_same (k1.trans (Kp.put _ (by simp))) (t1.trans (Tk.put hl1 _))
def spWell (K : PySem.W.Frag) : Sp := fun vs H Q _ => ∃ (a : Addr) (ns : List Int), vs = [.ref a] ∧ SqL K H a (ns.map V.int) ∧ ns.length ≤ 1000 ∧ ∀ H' w l, Same H H' → H w = none → H l = none → Wl H' w l 900000000000000000 → Q (.ref w) H'
theorem sc__law_well : FnScope ["script", "stir", "cell"] ["script"] (C8.fnScope (topS 39)) := C8.fnScope_by (by decide +kernel)
theorem ok__law_well {f : Addr} {fd : FuncData} (F : C8.Def K mg "_law_well" (topS 39) f fd) (b : Binds K fd ["script"] []) (B : Bl K mg)  : C8.Cal P w K mg base 1 "_law_well" (spWell K) [] := by
  refine C8.cal0 F b .nil sc__law_well ?len ?body
  case len => rintro vs H Q E ⟨a, ns, rfl, _⟩; rfl
  case body =>
    rintro cdv A outer s H vs Q E hr ⟨a, ns, rfl, hs, hlen, q⟩
    refine ⟨_, (pss_cons (ps_set (i := 1) sc__law_well.nd rfl (Or.inl rfl) pe_int)
    (pss_cons (ps_for PassesOwn.never rfl (pi_list (pv 0)) (pg_name (i := 2) sc__law_well.nd rfl (Or.inl rfl))
    (pss_one (ps_set (i := 1) sc__law_well.nd rfl (Or.inl rfl) (pe_op op_mod (pe_callTy call_int1 rfl B.int (by decide +kernel) (pa_cons (pe_op op_add (pe_op op_add (pe_op op_mul (pv 1) pe_int) (pe_op op_mod (pe_callTy call_int1 rfl B.int (by decide +kernel) (pa_cons (pv 2) pa_nil)) pe_int)) pe_int) pa_nil)) pe_int))))
    (pss_one (ps_ret (pe_lst (pa_cons (pe_lc (own := [("cell", 2)]) (g := gName 2) (by rfl) sc__law_well.nd (pi_list (pv 0)) (blkOk_by (own := [("cell", 2)]) (N := ["script", "stir", "cell"]) (sc := (C8.fnScope (topS 39))) (by decide +kernel)) (fun _ _ _ _ _ => pg_name (i := 2) sc__law_well.nd rfl (Or.inl rfl)) (fun _ _ _ _ _ => (pts_one (pt_cmpR op_gt (pv 2) (pe_op op_pow pe_int pe_int) (nomark _)))) (fun _ _ _ _ _ => (pe_op op_sub (pe_callTy call_int1 rfl B.int (by decide +kernel) (pa_cons (pv 2) pa_nil)) (pe_op op_pow pe_int pe_int)))) (pa_cons (pv 1) (pa_cons pe_int pa_nil)))))))), ?_⟩
    refine ⟨_, rfl, a, rfl, ⟨_, hs⟩, ?_⟩
    refine for_list (xs := ns.map V.int) (fun j σ H' => H' = H ∧ ∃ (z : Int) (b2 : Option V), σ = [some (.ref a), some (.int z), b2] ∧ 0 ≤ z ∧ z < 2147483647) ⟨rfl, 7, none, rfl, by omega, by omega⟩ ?_ ?_ ?_
    · rintro i σ H' _ ⟨rfl, _⟩
      exact hs
    · rintro i x _ H2 hx ⟨rfl, z, b2, rfl, z0, z1⟩
      rw [List.getElem?_map] at hx
      obtain ⟨n, _, rfl⟩ := Option.map_eq_some_iff.mp hx
      refine ⟨_, rfl, _, _, rfl, rfl, .inl ⟨by omega, by omega⟩, _, rfl, .inl ⟨_, rfl, _, _, rfl, rfl, (show (0 : Int) < 2147483629 by decide), _, _, rfl, rfl, _, _, rfl, rfl, .inl ⟨_, rfl, _, _, rfl, rfl, (show (0 : Int) < 2147483647 by decide), ?_⟩⟩⟩
      exact ⟨rfl, _, _, rfl, Int.emod_nonneg _ (by decide), Int.emod_lt_of_pos _ (by decide)⟩
    · rintro σ H2 ⟨rfl, z, b2, rfl, z0, z1⟩
      refine ⟨_, rfl, a, rfl, ⟨_, hs⟩, ?_⟩
      intro l hl
      have s1 := same_new hl (.lst [])
      refine lc_list (xs := ns.map V.int) (fun i H' => ∃ ns' : List Int, ns'.length ≤ i ∧ H' l = some (.lst (ns'.map V.int)) ∧ ∀ p o, p ≠ l → H2 p = some o → H' p = some o) ⟨[], Nat.le_refl _, upd_same, fun p o hp e => by rw [upd_ne hp]; exact e⟩ ?_ ?_ ?_
      · rintro i H' _ ⟨_, _, _, st⟩
        rcases hs with (h | ⟨ob, h⟩) | h
        · exact .inl (.inl (st _ _ (fun z => by rw [z, hl] at h; cases h) h))
        · exact .inl (.inr ⟨ob, st _ _ (fun z => by rw [z, hl] at h; cases h) h⟩)
        · exact .inr h
      · rintro i x H3 hx ⟨ns', hn', hl3, st⟩
        rw [List.getElem?_map] at hx
        obtain ⟨n, _, rfl⟩ := Option.map_eq_some_iff.mp hx
        have hil : i < ns.length := by
          by_cases h : i < ns.length
          · exact h
          · rw [List.getElem?_eq_none_iff.mpr (by omega)] at hx; cases hx
        refine ⟨rfl, ?_⟩
        refine ⟨_, rfl, _, _, rfl, rfl, ⟨by decide, by decide, by decide⟩, _, _, rfl, rfl, _, rfl, ?_⟩
        refine ite2 (fun _ => ?_) (fun _ => ⟨ns', by omega, hl3, st⟩)
        refine ⟨_, rfl, .inl ⟨_, rfl, _, _, rfl, rfl, ⟨by decide, by decide, by decide⟩, _, _, rfl, rfl, ?_⟩⟩
        refine ⟨_, hl3, Nat.lt_of_le_of_lt (show _ ≤ 1000 by rw [List.length_map]; omega) (by decide), ns' ++ [n - 10 ^ Int.toNat 18], by rw [List.length_append]; simp; omega, ?_, fun p o hp e => by rw [upd_ne hp]; exact st p o hp e⟩
        rw [List.map_append]
        exact upd_same
      · rintro H3 ⟨ns', hn', hl3, st⟩
        refine ⟨_, rfl, (by show 3 ≤ sizeLine; decide), fun w hw => ?_⟩
        have s3 : Same H2 H3 := fun p o e => st p o (fun z => by rw [z, hl] at e; cases e) e
        have s4 := s3.trans (same_new hw (.lst [.ref l, .int z, .int 0]))
        have hwl : w ≠ l := fun e => by rw [e, hl3] at hw; cases hw
        have hw2 : H2 w = none := by
          cases e : H2 w with
          | none => rfl
          | some o => rw [s3 _ _ e] at hw; cases hw
        exact q _ w l s4 hw2 hl ⟨ns', z, 0, upd_same, by rw [upd_ne (Ne.symm hwl)]; exact hl3, hwl, z0, by omega, by omega, by omega⟩
end
end K06


set_option Elab.async false
set_option linter.all false
set_option maxRecDepth 100000
set_option maxHeartbeats 8000000
namespace K06
open PySem PySem.Spec PyProof.Rows L2
/-! ### texts of word signs -/
def Sg (n : Nat) (s : Str) : Prop := s.length ≤ n ∧ ∀ c ∈ s.cps.toList, c ∈ wordS.cps.toList
theorem Sg.le {n m : Nat} {s : Str} (h : Sg n s) (hm : n ≤ m) : Sg m s := ⟨Nat.le_trans h.1 hm, h.2⟩
theorem Sg.app {n m : Nat} {s t : Str} (h : Sg n s) (g : Sg m t) : Sg (n + m) (s ++ t) := by
  constructor
  · show (s.cps ++ t.cps).size ≤ _
    rw [Array.size_append]
    exact Nat.add_le_add h.1 g.1
  · intro c hc
    have : c ∈ (s.cps ++ t.cps).toList := hc
    rw [Array.toList_append] at this
    rcases List.mem_append.mp this with z | z
    · exact h.2 c z
    · exact g.2 c z
theorem Sg.cut {n : Nat} {s : Str} (h : Sg n s) (lo hi : Option Int) : Sg n (cutS s lo hi) := by
  refine ⟨Nat.le_trans (cutS_length s lo hi) h.1, fun c hc => ?_⟩
  have : c ∈ (s.cps.toList.drop (HT.sIx s.length 0 lo)).take (HT.sIx s.length s.length hi - HT.sIx s.length 0 lo) := by
    unfold cutS at hc
    simpa using hc
  exact h.2 c (List.mem_of_mem_drop (List.mem_of_mem_take this))
theorem Sg.ten {n : Nat} {s : Str} (h : Sg n s) : Sg 10 (cutS s none (some 10)) := by
  refine ⟨?_, (h.cut none (some 10)).2⟩
  unfold cutS
  show (List.toArray _).size ≤ 10
  rw [List.size_toArray, List.length_take]
  refine Nat.le_trans (Nat.min_le_left _ _) ?_
  show (if (10 : Int) < 0 then ((10 : Int) + (s.length : Int)).toNat else min (10 : Int).toNat s.length) - 0 ≤ 10
  rw [if_neg (by decide)]
  exact Nat.le_trans (Nat.sub_le _ _) (Nat.min_le_left _ _)
theorem Sg.nil : Sg 0 "" := ⟨Nat.le_refl _, fun c hc => by cases hc⟩
theorem Sg.one {c : Nat} (h : c ∈ wordS.cps.toList) : Sg 1 ⟨#[c]⟩ := ⟨Nat.le_refl _, fun d hd => by
  have : d ∈ [c] := hd
  cases List.mem_singleton.mp this
  exact h⟩
theorem sg_nameB {s : Str} (h : nameB s = true) : Sg 10 s := by
  unfold nameB at h
  simp only [Bool.and_eq_true, decide_eq_true_eq, List.all_eq_true] at h
  exact ⟨h.1.1.1.2, h.2⟩
theorem small_in : ∀ c ∈ smallL.cps.toList, c ∈ wordS.cps.toList := by decide +kernel
theorem kept_sg : ∀ x ∈ keptW, x.length ≤ 10 ∧ ∀ c ∈ x.cps.toList, c ∈ wordS.cps.toList := by decide +kernel
def nth9 (k : Nat) : Str := "n" ++ (toString ((k : Int)) : Str)
theorem nth_ok : ∀ k < 400, nameB (nth9 k) = true := by decide +kernel
theorem nth_inj : ((List.range 41).map nth9).Nodup := by decide +kernel
theorem len_sub {α : Type} [DecidableEq α] : ∀ {l m : List α}, l.Nodup → (∀ x ∈ l, x ∈ m) → l.length ≤ m.length
  | [], _, _, _ => Nat.zero_le _
  | x :: l, m, hn, hs => by
    have h1 := List.nodup_cons.mp hn
    have hx := hs x (by simp)
    have ih := len_sub (l := l) (m := m.erase x) h1.2 (fun y hy => (List.mem_erase_of_ne (fun e => h1.1 (by rw [← e]; exact hy))).mpr (hs y (by simp [hy])))
    rw [List.length_erase_of_mem hx] at ih
    have : 0 < m.length := List.length_pos_of_mem hx
    simp only [List.length_cons]
    omega
theorem some_free {T : List Str} (h : T.length ≤ 40) : ∃ k < 41, nth9 k ∉ T := by
  by_cases z : ∃ k < 41, nth9 k ∉ T
  · exact z
  · exfalso
    have := len_sub nth_inj (m := T) (fun x hx => by
      obtain ⟨k, hk, rfl⟩ := List.mem_map.mp hx
      by_cases e : nth9 k ∈ T
      · exact e
      · exact absurd ⟨k, List.mem_range.mp hk, e⟩ z)
    rw [List.length_map, List.length_range] at this
    omega
end K06


set_option Elab.async false
set_option linter.all false
set_option maxRecDepth 100000
set_option maxHeartbeats 8000000
namespace K06
open PySem PySem.Spec PyProof.Rows L2
def tNth : TE := tOp (fun x y H Q => ∃ i j, x = V.str i ∧ y = V.str j ∧ i.length + j.length ≤ sizeLine ∧ Q (.str (i ++ j)) H) (tC (.str "n")) (tCB (fun xs H Q => ∃ i : Int, xs = [V.int i] ∧ i.natAbs.log2 < 1920 ∧ Q (.str (toString i)) H) (tCons (tVar 7) tNil))
def ttN (K : PySem.W.Frag) : TT := tTest (tOp (rIn K true) tNth (tVar 1))
def signS9 : Str := "abcdefghijklmnopqrstuvwxyz" ++ "0123456789"
theorem sml_all : ∀ j < 26, smallL.cps.toList[j]? = some (smallL.cps.toList.getD j 0) ∧ smallL.cps.toList.getD j 0 ∈ wordS.cps.toList := by decide +kernel
theorem sgn_all : ∀ j < 36, signS9.cps.toList[j]? = some (signS9.cps.toList.getD j 0) ∧ signS9.cps.toList.getD j 0 ∈ wordS.cps.toList := by decide +kernel
theorem sml_at {r : Int} (h0 : 0 ≤ r) (h1 : r < 26) : ∃ c, atI smallL.cps.toList r = some c ∧ c ∈ wordS.cps.toList := by
  obtain ⟨a, b⟩ := sml_all r.toNat (by omega)
  have := atI_nat a
  rw [show ((r.toNat : Nat) : Int) = r by omega] at this
  exact ⟨_, this, b⟩
theorem sgn_at {r : Int} (h0 : 0 ≤ r) (h1 : r < 36) : ∃ c, atI signS9.cps.toList r = some c ∧ c ∈ wordS.cps.toList := by
  obtain ⟨a, b⟩ := sgn_all r.toNat (by omega)
  have := atI_nat a
  rw [show ((r.toNat : Nat) : Int) = r by omega] at this
  exact ⟨_, this, b⟩
theorem Wl.upd {H : Hp} {w l p : Addr} {m : Nat} {o : HO} (h : Wl H w l m) (n : p ∉ [w, l]) : Wl (upd H p o) w l m := by
  obtain ⟨ns, a, k, h1, h2, h3⟩ := h
  exact ⟨ns, a, k, by rw [upd_ne (fun z => n (by simp [z]))]; exact h1, by rw [upd_ne (fun z => n (by simp [z]))]; exact h2, h3⟩
theorem Kp.none {as : List Addr} {H H' : Hp} {p : Addr} (k : Kp as H H') (n : p ∉ as) (h : H' p = none) : H p = none := by
  cases e : H p with
  | none => rfl
  | some o => rw [k _ _ n e] at h; cases h
theorem kp_new {as : List Addr} {H H' : Hp} {p : Addr} {o : HO} (k : Kp as H H') (h : H p = Option.none) : Kp as H (L2.upd H' p o) := fun q o' n e => by
  rw [upd_ne (fun z => by rw [z, h] at e; cases e)]
  exact k _ _ n e
theorem sum_one : ∀ ys : List Str, (∀ y ∈ ys, Sg 1 y) → (ys.map (·.length)).sum + ys.length * (Str.length "") ≤ ys.length
  | [], _ => Nat.le_refl _
  | x :: r, h => by
    have ih := sum_one r fun y hy => h y (by simp [hy])
    have := (h x (by simp)).1
    have e : Str.length "" = 0 := rfl
    rw [e] at ih ⊢
    simp only [List.map_cons, List.sum_cons, List.length_cons]
    omega
theorem old_at {L : List Str} {r : Int} (h : ∀ x ∈ L, x.length ≤ 10 ∧ ∀ c ∈ x.cps.toList, c ∈ wordS.cps.toList) (h0 : 0 ≤ r) (h1 : r < L.length) : ∃ old, Sg 10 old ∧ atI (L.map V.str) r = some (.str old) := by
  have hlt : r.toNat < L.length := by omega
  refine ⟨L[r.toNat], h _ (List.getElem_mem hlt), ?_⟩
  have := atI_nat (xs := L.map V.str) (j := r.toNat) (v := .str L[r.toNat]) (by rw [List.getElem?_map, List.getElem?_eq_getElem hlt]; rfl)
  rwa [show ((r.toNat : Nat) : Int) = r by omega] at this
theorem nth_len : ∀ k < 400, (Str.ofString "n").length + (toString ((k : Nat) : Int) : Str).length ≤ 10 := by decide +kernel
theorem name_by {fd : Str} {c : Nat} {cr : List Nat} (h : Sg 10 fd) (hc : fd.cps.toList = c :: cr) (h2 : c ∈ smallL.cps.toList) (h3 : fd ∉ keptW) : nameB fd = true := by
  have hl : 1 ≤ fd.length := by
    show 1 ≤ fd.cps.size
    rw [← Array.length_toList, hc]
    simp
  have hk : (keptW.any fun z => decide (fd = z)) = false := by
    rw [List.any_eq_false]
    intro z hz
    rw [decide_eq_true_eq]
    rintro rfl
    exact h3 hz
  have ha : (fd.cps.toList.all fun c => decide (c ∈ wordS.cps.toList)) = true := by
    rw [List.all_eq_true]
    intro x hx
    exact decide_eq_true (h.2 x hx)
  unfold nameB
  rw [ha, hk, hc, decide_eq_true hl, decide_eq_true h.1]
  show (true && true && decide (c ∈ smallL.cps.toList) && !false && true) = true
  rw [decide_eq_true h2]
  rfl
theorem sg_join : ∀ ys : List Str, (∀ y ∈ ys, Sg 1 y) → Sg ys.length (Str.join "" ys)
  | [], _ => Sg.nil
  | [x], h => h x (by simp)
  | x :: z :: r, h => by
    have ih := sg_join (z :: r) fun y hy => h y (by simp [hy])
    exact (((h x (by simp)).app Sg.nil).app ih).le (by simp; omega)
section
variable {P : Program} {w : World} {K : PySem.W.Frag} {mg : Str → Option Value} {base : Heap}
def spName9 : Sp := fun vs H Q _ => ∃ (w l t : Addr) (m : Nat) (T : List Str), vs = [.ref w, .ref t] ∧ Wl H w l (m + 30) ∧ H t = some (.lst (T.map V.str)) ∧ t ∉ [w, l] ∧ T.length ≤ 40 ∧ (∀ x ∈ T, nameB x = true) ∧ ∀ (r : Str) H', nameB r = true → r ∉ T → Wl H' w l m → Kp [w, l] H H' → Tk H H' → Q (.str r) H'
theorem sc__law_name : FnScope ["well", "taken", "small", "signs", "way", "words", "found", "k", "old", "at"] ["well", "taken"] (C8.fnScope (topS 42)) := C8.fnScope_by (by decide +kernel)
theorem ok__law_name {f : Addr} {fd : FuncData} (F : C8.Def K mg "_law_name" (topS 42) f fd) (b : Binds K fd ["well", "taken"] []) (B : Bl K mg) (c_draw : C8.Cal P w K mg base 1 "_law_draw" spDraw []) : C8.Cal P w K mg base 2 "_law_name" spName9 [] := by
  refine C8.cal0 F b .nil sc__law_name ?len ?body
  case len => rintro vs H Q E ⟨w, l, t, m, T, rfl, _⟩; rfl
  case body =>
    rintro cdv A outer s H vs Q E hr ⟨w, l, t, m, T, rfl, hW, ht, htn, hT, hTn, q⟩
    refine ⟨_, (pss_cons (ps_set (i := 2) sc__law_name.nd rfl (Or.inl rfl) pe_str)
    (pss_cons (ps_asg (pe_tup (pa_cons (pe_op op_add_str (pv 2) pe_str) (pa_cons (C8.pe_c c_draw hr (by decide) rfl (pa_cons (pv 0) (pa_cons pe_int pa_nil))) pa_nil))) (pg_tup rfl (pgs_cons (pg_name (i := 3) sc__law_name.nd rfl (Or.inr rfl)) (pgs_cons (pg_name (i := 4) sc__law_name.nd rfl (Or.inl rfl)) pgs_nil))))
    (pss_cons (ps_set (i := 5) sc__law_name.nd rfl (Or.inl rfl) (pe_lst (pa_cons pe_str (pa_cons pe_str (pa_cons pe_str (pa_cons pe_str (pa_cons pe_str (pa_cons pe_str (pa_cons pe_str (pa_cons pe_str (pa_cons pe_str (pa_cons pe_str (pa_cons pe_str pa_nil)))))))))))))
    (pss_cons (ps_set (i := 6) sc__law_name.nd rfl (Or.inl rfl) (pe_ix ix_str (pv 2) (C8.pe_c c_draw hr (by decide) rfl (pa_cons (pv 0) (pa_cons pe_int pa_nil))) (fun _ _ => rfl)))
    (C8.pss_cut (ps_if (pt_cmpR op_eq (pv 4) pe_int (nomark _)) (pss_one (ps_set (i := 6) sc__law_name.nd rfl (Or.inl rfl) (pe_op op_add_str (pv 6) (pe_join pe_str (pe_lc (own := [("k", 7)]) (g := gName 7) (by rfl) sc__law_name.nd (pi_range1 rfl B.range (pa_cons (C8.pe_c c_draw hr (by decide) rfl (pa_cons (pv 0) (pa_cons pe_int pa_nil))) pa_nil)) (blkOk_by (own := [("k", 7)]) (N := ["well", "taken", "small", "signs", "way", "words", "found", "k", "old", "at"]) (sc := (C8.fnScope (topS 42))) (by decide +kernel)) (fun _ _ _ _ _ => pg_name (i := 7) sc__law_name.nd rfl (Or.inl rfl)) (fun _ _ _ _ _ => pts_nil) (fun _ _ _ _ _ => (pe_ix ix_str (pv 3) (C8.pe_c c_draw hr (by decide) rfl (pa_cons (pv 0) (pa_cons pe_int pa_nil))) (fun _ _ => rfl)))))))) pss_nil)
    (C8.pss_cut (ps_if (pt_cmpR op_gt (pv 4) pe_int (nomark _)) (pss_cons (ps_set (i := 8) sc__law_name.nd rfl (Or.inl rfl) (pe_ix ix_list (pe_op op_cat (pe_ifExp (pt_cmpR op_eq (pv 4) pe_int (nomark _)) (pv 1) (pe_lst pa_nil)) (pv 5)) (C8.pe_c c_draw hr (by decide) rfl (pa_cons (pv 0) (pa_cons (pe_op op_add (pe_callB call_len_seq rfl B.len PySem.boot_len (pa_cons (pv 5) pa_nil)) (pe_ifExp (pt_cmpR op_eq (pv 4) pe_int (nomark _)) (pe_callB call_len_seq rfl B.len PySem.boot_len (pa_cons (pv 1) pa_nil)) pe_int)) pa_nil))) (fun _ _ => rfl)))
    (pss_cons (ps_set (i := 9) sc__law_name.nd rfl (Or.inl rfl) (C8.pe_c c_draw hr (by decide) rfl (pa_cons (pv 0) (pa_cons (pe_op op_add (pe_callB call_len_str rfl B.len PySem.boot_len (pa_cons (pv 8) pa_nil)) pe_int) pa_nil))))
    (pss_one (ps_set (i := 6) sc__law_name.nd rfl (Or.inl rfl) (pe_slice sl_str (pe_op op_add_str (pe_op op_add_str (pe_slice sl_str (pv 8) po_none (po_some (pv 9))) (pe_ix ix_list (pe_lst (pa_cons pe_str (pa_cons (pe_ix ix_str (pv 3) (C8.pe_c c_draw hr (by decide) rfl (pa_cons (pv 0) (pa_cons pe_int pa_nil))) (fun _ _ => rfl)) pa_nil))) (C8.pe_c c_draw hr (by decide) rfl (pa_cons (pv 0) (pa_cons pe_int pa_nil))) (fun _ _ => rfl))) (pe_slice sl_str (pv 8) (po_some (pe_op op_add (pv 9) (C8.pe_c c_draw hr (by decide) rfl (pa_cons (pv 0) (pa_cons pe_int pa_nil))))) po_none)) po_none (po_some pe_int)))))) pss_nil)
    (C8.pss_cut (ps_if (PW.pt (pw_or (pt_cmpR op_eq (pv 6) pe_str (nomark _)) (pw_or (pt_cmpR op_notIn_sign (pe_ix ix_str (pv 6) pe_int (fun _ _ => rfl)) (pv 2) (by with_unfolding_all rfl)) (pw_or (pt_cmpR op_in_seq (pv 6) (pv 5) (by with_unfolding_all rfl)) (pw_or1 (pt_cmpR op_in_seq (pv 6) (pv 1) (by with_unfolding_all rfl))))))) (pss_one (ps_set (i := 6) sc__law_name.nd rfl (Or.inl rfl) (pe_ix ix_list (pe_lc (own := [("k", 7)]) (g := gName 7) (tt := ttN K) (te := tNth) (by rfl) sc__law_name.nd (pi_range1 rfl B.range (pa_cons pe_int pa_nil)) (blkOk_by (own := [("k", 7)]) (N := ["well", "taken", "small", "signs", "way", "words", "found", "k", "old", "at"]) (sc := (C8.fnScope (topS 42))) (by decide +kernel)) (fun _ _ _ _ _ => pg_name (i := 7) sc__law_name.nd rfl (Or.inl rfl)) (fun _ _ _ _ _ => by exact (pts_one (pt_cmpR op_notIn_seq (pe_op op_add_str pe_str (pe_callTy call_str_int rfl B.str (by decide +kernel) (pa_cons (pv 7) pa_nil))) (pv 1) (by with_unfolding_all rfl)))) (fun _ _ _ _ _ => by exact (pe_op op_add_str pe_str (pe_callTy call_str_int rfl B.str (by decide +kernel) (pa_cons (pv 7) pa_nil))))) pe_int (fun _ _ => rfl)))) pss_nil)
    (pss_one (ps_ret (pv 6)))))))))), ?_⟩
    have hwt : t ≠ w ∧ t ≠ l := by
      constructor
      · intro z; exact htn (by simp [z])
      · intro z; exact htn (by simp [z])
    refine ⟨_, rfl, smallL, "0123456789", rfl, rfl, by decide +kernel, _, rfl, w, l, m + 29, 4, rfl, hW, by decide, by decide, fun way H1 y0 y1 hW1 k1 t1 => ?_⟩
    refine ⟨(by show 2 ≤ sizeLine; decide), fun tp htp => ?_⟩
    have s2 := same_new htp (.tup [.str signS9, .int way])
    refine ⟨tp, _, rfl, SqT.of upd_same, rfl, _, _, rfl, _, _, rfl, rfl, ?_⟩
    have hW2 := hW1.same s2
    have k2 : Kp [w, l] H (upd H1 tp (.tup [.str signS9, .int way])) := k1.trans (Kp.of_same s2)
    have t2 : Tk H (upd H1 tp (.tup [.str signS9, .int way])) := t1.trans (Tk.same s2)
    show (fun H5 => _) (upd H1 tp (.tup [.str signS9, .int way]))
    generalize upd H1 tp (.tup [.str signS9, .int way]) = H2 at hW2 k2 t2
    refine ⟨(by show 11 ≤ sizeLine; decide), fun wd hwd => ?_⟩
    have s3 := same_new hwd (.lst (keptW.map V.str))
    have nwd : wd ∉ [w, l] := hW2.out hwd
    have hW3 := hW2.same s3
    have k3 := k2.trans (Kp.of_same s3)
    have t3 := t2.trans (Tk.same s3)
    have hwd3 : upd H2 wd (.lst (keptW.map V.str)) wd = some (.lst (keptW.map V.str)) := upd_same
    show (fun H5 => _) (upd H2 wd (.lst (keptW.map V.str)))
    generalize upd H2 wd (.lst (keptW.map V.str)) = H3 at hW3 k3 t3 hwd3
    refine ⟨_, rfl, _, rfl, w, l, m + 28, 26, rfl, hW3, by decide, by decide, fun r4 H4 r40 r41 hW4 k4 t4 => ?_⟩
    obtain ⟨c0, hc0, hc0w⟩ := sml_at r40 r41
    refine ⟨smallL, r4, c0, rfl, rfl, by decide +kernel, hc0, ?_⟩
    have keep : ∀ {Hx : Hp}, Kp [w, l] H Hx → Hx t = some (.lst (T.map V.str)) := fun k => k _ _ htn ht
    -- a letter, and maybe more signs
    refine ⟨fun σ' H' => ∃ (fd : Str) (b7 b8 b9 : Option V), σ' = [some (.ref w), some (.ref t), some (.str smallL), some (.str signS9), some (.int way), some (.ref wd), some (.str fd), b7, b8, b9] ∧ Sg 10 fd ∧ H' wd = some (.lst (keptW.map V.str)) ∧ Wl H' w l (m + 18) ∧ Kp [w, l] H H' ∧ Tk H H', ?_, ?_⟩
    · have hwd4 := k4 _ _ nwd hwd3
      have k04 := k3.trans k4
      have t04 := t3.trans t4
      refine ⟨_, rfl, rfl, _, rfl, ?_⟩
      rw [dec_int]
      by_cases c1 : way = 1
      · rw [decide_eq_true c1]
        refine iteT ?_
        refine ⟨_, rfl, ⟨_, rfl⟩, _, rfl, w, l, m + 27, 10, rfl, hW4, by decide, by decide, fun n H5 n0 n1 hW5 k5 t5 => ⟨n, rfl, by omega, by omega, fun D hD => ?_⟩⟩
        have nD := hW5.out hD
        have s6 := same_new hD (.lst [])
        have k06 := (k04.trans k5).trans (Kp.of_same s6)
        have t06 := (t04.trans t5).trans (Tk.same s6)
        have hwd5 := k5 _ _ nwd hwd4
        have hDn : H D = none := (k04.trans k5).none nD hD
        have nDw : wd ≠ D := fun z => by rw [← z, hwd5] at hD; cases hD
        refine lc_range (fun j H' => ∃ ys : List Str, ys.length = j ∧ (∀ y ∈ ys, Sg 1 y) ∧ H' D = some (.lst (ys.map V.str)) ∧ H' wd = some (.lst (keptW.map V.str)) ∧ Wl H' w l (m + 18 + (n.toNat - j)) ∧ Kp [w, l] H H' ∧ Tk H H') ⟨[], rfl, fun y hy => (List.not_mem_nil hy).elim, upd_same, s6 _ _ hwd5, (hW5.same s6).le (by omega), k06, t06⟩ ?_ ?_
        · rintro j H7 hj ⟨ys, yl, yg, hD7, hwd7, hW7, k7, t7⟩
          refine ⟨rfl, ?_⟩
          obtain ⟨b, hb⟩ : ∃ b, m + 18 + (n.toNat - j) = b + 1 := ⟨m + 18 + (n.toNat - j) - 1, by omega⟩
          rw [hb] at hW7
          refine ⟨_, rfl, _, rfl, w, l, b, 36, rfl, hW7, by decide, by decide, fun r H8 r0 r1 hW8 k8 t8 => ?_⟩
          obtain ⟨c, hc, hcw⟩ := sgn_at r0 r1
          refine ⟨signS9, r, c, rfl, rfl, by decide +kernel, hc, ?_⟩
          have hD8 := k8 _ _ nD hD7
          have hp := Tk.put (o := .lst (ys.map V.str ++ [.str ⟨#[c]⟩])) hD8
          refine ⟨_, hD8, Nat.lt_of_le_of_lt (show _ ≤ 9 by rw [List.length_map]; omega) (by decide), ys ++ [⟨#[c]⟩], by rw [List.length_append, yl]; rfl, fun y hy => ?_, by rw [List.map_append]; exact upd_same, by rw [upd_ne nDw]; exact k8 _ _ nwd hwd7, ?_, ?_, ?_⟩
          · rcases List.mem_append.mp hy with h | h
            · exact yg y h
            · cases List.mem_singleton.mp h
              exact Sg.one hcw
          · exact (hW8.le (by omega)).upd nD
          · exact kp_new (k7.trans k8) hDn
          · exact (t7.trans t8).trans hp
        · rintro H7 ⟨ys, yl, yg, hD7, hwd7, hW7, k7, t7⟩
          have hj := sg_join ys yg
          refine ⟨_, D, ys, rfl, rfl, .inl (SqL.of hD7), ?_, ?_⟩
          · exact Nat.le_trans (sum_one ys yg) (by omega)
          rw [TL.join_eq]
          refine ⟨_, _, rfl, rfl, Nat.le_trans (show _ ≤ 20 from ?_) (by decide), ?_⟩
          · have := hj.1
            show 1 + _ ≤ 20
            omega
          · exact ⟨_, _, _, _, rfl, ((Sg.one hc0w).app hj).le (by omega), hwd7, hW7.le (by omega), k7, t7⟩
      · rw [decide_eq_false c1]
        exact iteF ⟨_, none, none, none, rfl, (Sg.one hc0w).le (by decide), hwd4, hW4.le (by omega), k04, t04⟩
    rintro _ H5 ⟨fd, b7, b8, b9, rfl, sg5, hwd5, hW5, k5, t5⟩
    -- a word near an old one
    refine ⟨fun σ' H' => ∃ (fd : Str) (b7 b8 b9 : Option V), σ' = [some (.ref w), some (.ref t), some (.str smallL), some (.str signS9), some (.int way), some (.ref wd), some (.str fd), b7, b8, b9] ∧ Sg 10 fd ∧ H' wd = some (.lst (keptW.map V.str)) ∧ Wl H' w l (m + 13) ∧ Kp [w, l] H H' ∧ Tk H H', ?_, ?_⟩
    · refine ⟨_, rfl, _, _, rfl, rfl, _, rfl, ?_⟩
      by_cases c1 : (1 : Int) < way
      · rw [decide_eq_true c1]
        refine iteT ?_
        refine ⟨_, rfl, rfl, _, rfl, ?_⟩
        rw [dec_int]
        have hT5 := k5 _ _ htn ht
        by_cases c2 : way = 2
        · rw [decide_eq_true c2]
          refine iteT ⟨_, rfl, _, rfl, t, wd, _, _, rfl, rfl, hT5, hwd5, Nat.le_trans (show _ ≤ 51 by rw [List.length_map, List.length_map, show keptW.length = 11 from rfl]; omega) (by decide), fun p hp => ?_⟩
          have s6 := same_new hp (.lst (T.map V.str ++ keptW.map V.str))
          have np := hW5.out hp
          refine ⟨_, rfl, _, rfl, wd, _, rfl, .inl (SqL.of (s6 _ _ hwd5)), _, rfl, rfl, _, rfl, ?_⟩
          rw [dec_int, decide_eq_true c2]
          refine iteT ⟨_, rfl, t, _, rfl, .inl (SqL.of (s6 _ _ hT5)), _, _, rfl, rfl, w, l, m + 17, _, rfl, hW5.same s6, ?_, ?_, fun r H7 r0 r1 hW7 k7' t7' => ?_⟩
          · rw [List.length_map, List.length_map, show keptW.length = 11 from rfl]; omega
          · rw [List.length_map, List.length_map, show keptW.length = 11 from rfl]; omega
          rw [List.length_map, List.length_map] at r1
          have hp7 := k7' _ _ np (upd_same (H := H5) (a := p) (o := .lst (T.map V.str ++ keptW.map V.str)))
          rw [← List.map_append] at hp7
          obtain ⟨old, sgo, hat⟩ := old_at (L := T ++ keptW) (fun x hx => by
            rcases List.mem_append.mp hx with h | h
            · exact sg_nameB (hTn x h)
            · exact kept_sg x h) r0 (by rw [List.length_append]; omega)
          refine ⟨p, _, r, .str old, rfl, rfl, SqL.of hp7, hat, ?_⟩
          have k7 := (Kp.of_same (as := [w, l]) s6).trans k7'
          have t7 := (Tk.same s6).trans t7'
          refine ⟨_, rfl, _, rfl, old, rfl, Nat.le_trans sgo.1 (by decide), _, _, rfl, rfl, w, l, m + 16, (old.length : Int) + 1, rfl, hW7, by omega, by have := sgo.1; omega, fun at_ H8 a0 a1 hW8 k8 t8 => ?_⟩
          refine ⟨_, rfl, _, rfl, _, rfl, old, rfl, Nat.le_trans sgo.1 (by decide), ?_⟩
          refine ⟨_, rfl, _, rfl, w, l, m + 15, 36, rfl, hW8, by decide, by decide, fun r9 H9 r90 r91 hW9 k9 t9 => ?_⟩
          obtain ⟨c, hc, hcw⟩ := sgn_at r90 r91
          refine ⟨signS9, r9, c, rfl, rfl, by decide +kernel, hc, (by show 2 ≤ sizeLine; decide), fun q hq => ?_⟩
          have sq := same_new hq (.lst [.str "", .str ⟨#[c]⟩])
          have hWq := hW9.same sq
          have nq := hW9.out hq
          have hq1 : upd H9 q (.lst [.str "", .str ⟨#[c]⟩]) q = some (.lst [.str "", .str ⟨#[c]⟩]) := upd_same
          have kq := (k7.trans (k8.trans k9)).trans (Kp.of_same sq)
          have tq := (t7.trans (t8.trans t9)).trans (Tk.same sq)
          show (fun H5 => _) (upd H9 q (.lst [.str "", .str ⟨#[c]⟩]))
          generalize upd H9 q (.lst [.str "", .str ⟨#[c]⟩]) = Hq at hWq hq1 kq tq
          refine ⟨_, rfl, w, l, m + 14, 2, rfl, hWq, by decide, by decide, fun r3 Hr r30 r31 hWr kr tr => ?_⟩
          obtain ⟨e, se, hat3⟩ : ∃ e : Str, Sg 1 e ∧ atI [V.str "", V.str ⟨#[c]⟩] r3 = some (.str e) := by
            rcases (show r3 = 0 ∨ r3 = 1 by omega) with rfl | rfl
            · exact ⟨"", Sg.nil.le (by decide), rfl⟩
            · exact ⟨⟨#[c]⟩, Sg.one hcw, rfl⟩
          refine ⟨q, _, r3, .str e, rfl, rfl, SqL.of (kr _ _ nq hq1), hat3, ?_⟩
          have s1 := (sgo.cut none (some at_)).app se
          refine ⟨_, _, rfl, rfl, Nat.le_trans (show _ ≤ 11 from Nat.add_le_add (sgo.cut none (some at_)).1 se.1) (by decide), ?_⟩
          refine ⟨_, rfl, _, rfl, _, rfl, w, l, m + 13, 2, rfl, hWr, by decide, by decide, fun r4 Hs r40 r41 hWs ks ts => ?_⟩
          refine ⟨_, _, rfl, rfl, _, rfl, old, rfl, Nat.le_trans sgo.1 (by decide), ?_⟩
          have s2 := s1.app (sgo.cut (some (at_ + r4)) none)
          refine ⟨_, _, rfl, rfl, Nat.le_trans (show _ ≤ 21 from Nat.add_le_add s1.1 (sgo.cut (some (at_ + r4)) none).1) (by decide), ?_⟩
          refine ⟨_, rfl, _, rfl, Nat.le_trans s2.1 (by decide), ?_⟩
          exact ⟨_, _, _, _, rfl, s2.ten, (kq.trans (kr.trans ks)) _ _ nwd hwd5, hWs, k5.trans (kq.trans (kr.trans ks)), t5.trans (tq.trans (tr.trans ts))⟩
        · rw [decide_eq_false c2]
          refine iteF ⟨(by show 0 ≤ sizeLine; decide), fun p0 hp0 => ?_⟩
          have s60 := same_new hp0 (.lst [])
          refine ⟨_, rfl, p0, wd, _, _, rfl, rfl, upd_same, s60 _ _ hwd5, (by show 11 ≤ sizeLine; decide), fun p hp => ?_⟩
          have s6 := s60.trans (same_new hp (.lst ([] ++ keptW.map V.str)))
          have np := (hW5.same s60).out hp
          refine ⟨_, rfl, _, rfl, wd, _, rfl, .inl (SqL.of (s6 _ _ hwd5)), _, rfl, rfl, _, rfl, ?_⟩
          rw [dec_int, decide_eq_false c2]
          refine iteF ⟨_, _, rfl, rfl, w, l, m + 17, _, rfl, hW5.same s6, ?_, ?_, fun r H7 r0 r1 hW7 k7' t7' => ?_⟩
          · rw [List.length_map, show keptW.length = 11 from rfl]; decide
          · rw [List.length_map, show keptW.length = 11 from rfl]; decide
          rw [List.length_map] at r1
          have hp7 := k7' _ _ np (upd_same (a := p) (o := .lst ([] ++ keptW.map V.str)))
          rw [List.nil_append] at hp7
          obtain ⟨old, sgo, hat⟩ := old_at (L := keptW) kept_sg r0 (by omega)
          refine ⟨p, _, r, .str old, rfl, rfl, SqL.of hp7, hat, ?_⟩
          have k7 := (Kp.of_same (as := [w, l]) s6).trans k7'
          have t7 := (Tk.same s6).trans t7'
          refine ⟨_, rfl, _, rfl, old, rfl, Nat.le_trans sgo.1 (by decide), _, _, rfl, rfl, w, l, m + 16, (old.length : Int) + 1, rfl, hW7, by omega, by have := sgo.1; omega, fun at_ H8 a0 a1 hW8 k8 t8 => ?_⟩
          refine ⟨_, rfl, _, rfl, _, rfl, old, rfl, Nat.le_trans sgo.1 (by decide), ?_⟩
          refine ⟨_, rfl, _, rfl, w, l, m + 15, 36, rfl, hW8, by decide, by decide, fun r9 H9 r90 r91 hW9 k9 t9 => ?_⟩
          obtain ⟨c, hc, hcw⟩ := sgn_at r90 r91
          refine ⟨signS9, r9, c, rfl, rfl, by decide +kernel, hc, (by show 2 ≤ sizeLine; decide), fun q hq => ?_⟩
          have sq := same_new hq (.lst [.str "", .str ⟨#[c]⟩])
          have hWq := hW9.same sq
          have nq := hW9.out hq
          have hq1 : upd H9 q (.lst [.str "", .str ⟨#[c]⟩]) q = some (.lst [.str "", .str ⟨#[c]⟩]) := upd_same
          have kq := (k7.trans (k8.trans k9)).trans (Kp.of_same sq)
          have tq := (t7.trans (t8.trans t9)).trans (Tk.same sq)
          show (fun H5 => _) (upd H9 q (.lst [.str "", .str ⟨#[c]⟩]))
          generalize upd H9 q (.lst [.str "", .str ⟨#[c]⟩]) = Hq at hWq hq1 kq tq
          refine ⟨_, rfl, w, l, m + 14, 2, rfl, hWq, by decide, by decide, fun r3 Hr r30 r31 hWr kr tr => ?_⟩
          obtain ⟨e, se, hat3⟩ : ∃ e : Str, Sg 1 e ∧ atI [V.str "", V.str ⟨#[c]⟩] r3 = some (.str e) := by
            rcases (show r3 = 0 ∨ r3 = 1 by omega) with rfl | rfl
            · exact ⟨"", Sg.nil.le (by decide), rfl⟩
            · exact ⟨⟨#[c]⟩, Sg.one hcw, rfl⟩
          refine ⟨q, _, r3, .str e, rfl, rfl, SqL.of (kr _ _ nq hq1), hat3, ?_⟩
          have s1 := (sgo.cut none (some at_)).app se
          refine ⟨_, _, rfl, rfl, Nat.le_trans (show _ ≤ 11 from Nat.add_le_add (sgo.cut none (some at_)).1 se.1) (by decide), ?_⟩
          refine ⟨_, rfl, _, rfl, _, rfl, w, l, m + 13, 2, rfl, hWr, by decide, by decide, fun r4 Hs r40 r41 hWs ks ts => ?_⟩
          refine ⟨_, _, rfl, rfl, _, rfl, old, rfl, Nat.le_trans sgo.1 (by decide), ?_⟩
          have s2 := s1.app (sgo.cut (some (at_ + r4)) none)
          refine ⟨_, _, rfl, rfl, Nat.le_trans (show _ ≤ 21 from Nat.add_le_add s1.1 (sgo.cut (some (at_ + r4)) none).1) (by decide), ?_⟩
          refine ⟨_, rfl, _, rfl, Nat.le_trans s2.1 (by decide), ?_⟩
          exact ⟨_, _, _, _, rfl, s2.ten, (kq.trans (kr.trans ks)) _ _ nwd hwd5, hWs, k5.trans (kq.trans (kr.trans ks)), t5.trans (tq.trans (tr.trans ts))⟩
      · rw [decide_eq_false c1]
        exact iteF ⟨_, b7, b8, b9, rfl, sg5, hwd5, hW5.le (by omega), k5, t5⟩
    rintro _ H6 ⟨fd, b7, b8, b9, rfl, sg6, hwd6, hW6, k6, t6⟩
    have hT6 := k6 _ _ htn ht
    refine ⟨fun σ' H' => ∃ (fd : Str) (b7 b8 b9 : Option V), σ' = [some (.ref w), some (.ref t), some (.str smallL), some (.str signS9), some (.int way), some (.ref wd), some (.str fd), b7, b8, b9] ∧ nameB fd = true ∧ fd ∉ T ∧ Wl H' w l (m + 13) ∧ Kp [w, l] H H' ∧ Tk H H', ?_, ?_⟩
    · refine ⟨_, rfl, rfl, _, rfl, ?_⟩
      rw [dec_str]
      by_cases g1 : fd = ""
      · rw [decide_eq_true g1]
        refine iteT (iteT ?_)
        refine ⟨400, rfl, by decide, by decide, fun D hD => ?_⟩
        have hDn : H D = none := k6.none (hW6.out hD) hD
        have nDt : t ≠ D := fun z => by rw [← z, hT6] at hD; cases hD
        refine lc_range (fun j H' => ∃ ys : List Str, H' D = some (.lst (ys.map V.str)) ∧ (∀ y ∈ ys, nameB y = true ∧ y ∉ T) ∧ ((∃ k < j, nth9 k ∉ T) → ys ≠ []) ∧ ys.length ≤ j ∧ H' t = some (.lst (T.map V.str)) ∧ Wl H' w l (m + 13) ∧ Kp [w, l] H H' ∧ Tk H H') ⟨[], upd_same, fun y hy => (List.not_mem_nil hy).elim, fun ⟨k, hk, _⟩ => absurd hk (Nat.not_lt_zero _), Nat.le_refl _, by rw [upd_ne nDt]; exact hT6, hW6.upd (hW6.out hD), kp_new k6 hDn, t6.trans (Tk.same (same_new hD _))⟩ ?_ ?_
        · rintro j H7 hj ⟨ys, hD7, hys, hne, hyl, hT7, hW7, k7, t7⟩
          have hj : j < 400 := hj
          have e0 : (0 : Int) + (j : Int) = (j : Int) := Int.zero_add _
          rw [e0]
          refine ⟨rfl, ?_⟩
          have lg : ((j : Nat) : Int).natAbs.log2 < 1920 := by
            show Nat.log2 j < 1920
            exact Nat.lt_of_le_of_lt (Nat.log2_le_self j) (by omega)
          refine ⟨_, rfl, _, rfl, lg, _, _, rfl, rfl, Nat.le_trans (nth_len j hj) (by decide), _, rfl, t, _, rfl, .inl (SqL.of hT7), rfl, flat_strs T, _, rfl, ?_⟩
          have en : ((Str.ofString "n") ++ (toString ((j : Nat) : Int) : Str)) = nth9 j := rfl
          rw [inV_strs]
          by_cases cj : nth9 j ∈ T
          · rw [show decide ((Str.ofString "n") ++ (toString ((j : Nat) : Int) : Str) ∈ T) = true from decide_eq_true cj]
            refine iteF ⟨ys, hD7, hys, fun ⟨k, hk, hkT⟩ => ?_, by omega, hT7, hW7, k7, t7⟩
            refine hne ⟨k, ?_, hkT⟩
            rcases Nat.lt_or_ge k j with h | h
            · exact h
            · exact absurd (by rw [show k = j by omega]; exact cj) hkT
          · rw [show decide ((Str.ofString "n") ++ (toString ((j : Nat) : Int) : Str) ∈ T) = false from decide_eq_false cj]
            refine iteT ⟨_, rfl, _, rfl, lg, _, _, rfl, rfl, Nat.le_trans (nth_len j hj) (by decide), ?_⟩
            refine ⟨_, hD7, Nat.lt_of_le_of_lt (show _ ≤ 400 by rw [List.length_map]; omega) (by decide), ys ++ [nth9 j], by rw [List.map_append]; exact upd_same, fun y hy => ?_, fun _ => by simp, by rw [List.length_append]; simp; omega, by rw [upd_ne nDt]; exact hT7, hW7.upd (hW6.out hD), kp_new k7 hDn, t7.trans (Tk.put hD7 _)⟩
            rcases List.mem_append.mp hy with h | h
            · exact hys y h
            · cases List.mem_singleton.mp h
              exact ⟨nth_ok j hj, cj⟩
        · rintro H7 ⟨ys, hD7, hys, hne, hyl, hT7, hW7, k7, t7⟩
          obtain ⟨k, hk, hkT⟩ := some_free hT
          cases ys with
          | nil => exact absurd rfl (hne ⟨k, Nat.lt_of_lt_of_le hk (by decide), hkT⟩)
          | cons y0 r =>
            obtain ⟨n0, nT⟩ := hys y0 (by simp)
            exact ⟨D, _, 0, .str y0, rfl, rfl, SqL.of hD7, at0 _ _, y0, _, _, _, rfl, n0, nT, hW7, k7, t7⟩
      rw [decide_eq_false g1]
      refine iteF ?_
      obtain ⟨c, cr, hcr⟩ : ∃ c cr, fd.cps.toList = c :: cr := by
        cases e : fd.cps.toList with
        | nil =>
          exact absurd (by
            cases fd with
            | mk cps =>
              have : cps = #[] := Array.toList_inj.mp e
              rw [this]
              rfl) g1
        | cons c cr => exact ⟨c, cr, rfl⟩
      refine ⟨_, rfl, fd, 0, c, rfl, rfl, Nat.le_trans sg6.1 (by decide), by rw [hcr]; exact at0 _ _, _, rfl, c, smallL, rfl, rfl, _, rfl, ?_⟩
      by_cases g2 : c ∈ smallL.cps.toList
      · rw [decide_eq_true g2]
        refine iteF ?_
        refine ⟨_, rfl, _, rfl, wd, _, rfl, .inl (SqL.of hwd6), rfl, flat_strs keptW, _, rfl, ?_⟩
        rw [inV_strs]
        by_cases g3 : fd ∈ keptW
        · rw [show decide (fd ∈ keptW) = true from decide_eq_true g3]
          refine iteT (iteT ?_)
          refine ⟨400, rfl, by decide, by decide, fun D hD => ?_⟩
          have hDn : H D = none := k6.none (hW6.out hD) hD
          have nDt : t ≠ D := fun z => by rw [← z, hT6] at hD; cases hD
          refine lc_range (fun j H' => ∃ ys : List Str, H' D = some (.lst (ys.map V.str)) ∧ (∀ y ∈ ys, nameB y = true ∧ y ∉ T) ∧ ((∃ k < j, nth9 k ∉ T) → ys ≠ []) ∧ ys.length ≤ j ∧ H' t = some (.lst (T.map V.str)) ∧ Wl H' w l (m + 13) ∧ Kp [w, l] H H' ∧ Tk H H') ⟨[], upd_same, fun y hy => (List.not_mem_nil hy).elim, fun ⟨k, hk, _⟩ => absurd hk (Nat.not_lt_zero _), Nat.le_refl _, by rw [upd_ne nDt]; exact hT6, hW6.upd (hW6.out hD), kp_new k6 hDn, t6.trans (Tk.same (same_new hD _))⟩ ?_ ?_
          · rintro j H7 hj ⟨ys, hD7, hys, hne, hyl, hT7, hW7, k7, t7⟩
            have hj : j < 400 := hj
            have e0 : (0 : Int) + (j : Int) = (j : Int) := Int.zero_add _
            rw [e0]
            refine ⟨rfl, ?_⟩
            have lg : ((j : Nat) : Int).natAbs.log2 < 1920 := by
              show Nat.log2 j < 1920
              exact Nat.lt_of_le_of_lt (Nat.log2_le_self j) (by omega)
            refine ⟨_, rfl, _, rfl, lg, _, _, rfl, rfl, Nat.le_trans (nth_len j hj) (by decide), _, rfl, t, _, rfl, .inl (SqL.of hT7), rfl, flat_strs T, _, rfl, ?_⟩
            have en : ((Str.ofString "n") ++ (toString ((j : Nat) : Int) : Str)) = nth9 j := rfl
            rw [inV_strs]
            by_cases cj : nth9 j ∈ T
            · rw [show decide ((Str.ofString "n") ++ (toString ((j : Nat) : Int) : Str) ∈ T) = true from decide_eq_true cj]
              refine iteF ⟨ys, hD7, hys, fun ⟨k, hk, hkT⟩ => ?_, by omega, hT7, hW7, k7, t7⟩
              refine hne ⟨k, ?_, hkT⟩
              rcases Nat.lt_or_ge k j with h | h
              · exact h
              · exact absurd (by rw [show k = j by omega]; exact cj) hkT
            · rw [show decide ((Str.ofString "n") ++ (toString ((j : Nat) : Int) : Str) ∈ T) = false from decide_eq_false cj]
              refine iteT ⟨_, rfl, _, rfl, lg, _, _, rfl, rfl, Nat.le_trans (nth_len j hj) (by decide), ?_⟩
              refine ⟨_, hD7, Nat.lt_of_le_of_lt (show _ ≤ 400 by rw [List.length_map]; omega) (by decide), ys ++ [nth9 j], by rw [List.map_append]; exact upd_same, fun y hy => ?_, fun _ => by simp, by rw [List.length_append]; simp; omega, by rw [upd_ne nDt]; exact hT7, hW7.upd (hW6.out hD), kp_new k7 hDn, t7.trans (Tk.put hD7 _)⟩
              rcases List.mem_append.mp hy with h | h
              · exact hys y h
              · cases List.mem_singleton.mp h
                exact ⟨nth_ok j hj, cj⟩
          · rintro H7 ⟨ys, hD7, hys, hne, hyl, hT7, hW7, k7, t7⟩
            obtain ⟨k, hk, hkT⟩ := some_free hT
            cases ys with
            | nil => exact absurd rfl (hne ⟨k, Nat.lt_of_lt_of_le hk (by decide), hkT⟩)
            | cons y0 r =>
              obtain ⟨n0, nT⟩ := hys y0 (by simp)
              exact ⟨D, _, 0, .str y0, rfl, rfl, SqL.of hD7, at0 _ _, y0, _, _, _, rfl, n0, nT, hW7, k7, t7⟩
        · rw [show decide (fd ∈ keptW) = false from decide_eq_false g3]
          refine iteF ?_
          refine ⟨_, rfl, _, rfl, t, _, rfl, .inl (SqL.of hT6), rfl, flat_strs T, _, rfl, ?_⟩
          rw [inV_strs]
          by_cases g4 : fd ∈ T
          · rw [show decide (fd ∈ T) = true from decide_eq_true g4]
            refine iteT ?_
            refine ⟨400, rfl, by decide, by decide, fun D hD => ?_⟩
            have hDn : H D = none := k6.none (hW6.out hD) hD
            have nDt : t ≠ D := fun z => by rw [← z, hT6] at hD; cases hD
            refine lc_range (fun j H' => ∃ ys : List Str, H' D = some (.lst (ys.map V.str)) ∧ (∀ y ∈ ys, nameB y = true ∧ y ∉ T) ∧ ((∃ k < j, nth9 k ∉ T) → ys ≠ []) ∧ ys.length ≤ j ∧ H' t = some (.lst (T.map V.str)) ∧ Wl H' w l (m + 13) ∧ Kp [w, l] H H' ∧ Tk H H') ⟨[], upd_same, fun y hy => (List.not_mem_nil hy).elim, fun ⟨k, hk, _⟩ => absurd hk (Nat.not_lt_zero _), Nat.le_refl _, by rw [upd_ne nDt]; exact hT6, hW6.upd (hW6.out hD), kp_new k6 hDn, t6.trans (Tk.same (same_new hD _))⟩ ?_ ?_
            · rintro j H7 hj ⟨ys, hD7, hys, hne, hyl, hT7, hW7, k7, t7⟩
              have hj : j < 400 := hj
              have e0 : (0 : Int) + (j : Int) = (j : Int) := Int.zero_add _
              rw [e0]
              refine ⟨rfl, ?_⟩
              have lg : ((j : Nat) : Int).natAbs.log2 < 1920 := by
                show Nat.log2 j < 1920
                exact Nat.lt_of_le_of_lt (Nat.log2_le_self j) (by omega)
              refine ⟨_, rfl, _, rfl, lg, _, _, rfl, rfl, Nat.le_trans (nth_len j hj) (by decide), _, rfl, t, _, rfl, .inl (SqL.of hT7), rfl, flat_strs T, _, rfl, ?_⟩
              have en : ((Str.ofString "n") ++ (toString ((j : Nat) : Int) : Str)) = nth9 j := rfl
              rw [inV_strs]
              by_cases cj : nth9 j ∈ T
              · rw [show decide ((Str.ofString "n") ++ (toString ((j : Nat) : Int) : Str) ∈ T) = true from decide_eq_true cj]
                refine iteF ⟨ys, hD7, hys, fun ⟨k, hk, hkT⟩ => ?_, by omega, hT7, hW7, k7, t7⟩
                refine hne ⟨k, ?_, hkT⟩
                rcases Nat.lt_or_ge k j with h | h
                · exact h
                · exact absurd (by rw [show k = j by omega]; exact cj) hkT
              · rw [show decide ((Str.ofString "n") ++ (toString ((j : Nat) : Int) : Str) ∈ T) = false from decide_eq_false cj]
                refine iteT ⟨_, rfl, _, rfl, lg, _, _, rfl, rfl, Nat.le_trans (nth_len j hj) (by decide), ?_⟩
                refine ⟨_, hD7, Nat.lt_of_le_of_lt (show _ ≤ 400 by rw [List.length_map]; omega) (by decide), ys ++ [nth9 j], by rw [List.map_append]; exact upd_same, fun y hy => ?_, fun _ => by simp, by rw [List.length_append]; simp; omega, by rw [upd_ne nDt]; exact hT7, hW7.upd (hW6.out hD), kp_new k7 hDn, t7.trans (Tk.put hD7 _)⟩
                rcases List.mem_append.mp hy with h | h
                · exact hys y h
                · cases List.mem_singleton.mp h
                  exact ⟨nth_ok j hj, cj⟩
            · rintro H7 ⟨ys, hD7, hys, hne, hyl, hT7, hW7, k7, t7⟩
              obtain ⟨k, hk, hkT⟩ := some_free hT
              cases ys with
              | nil => exact absurd rfl (hne ⟨k, Nat.lt_of_lt_of_le hk (by decide), hkT⟩)
              | cons y0 r =>
                obtain ⟨n0, nT⟩ := hys y0 (by simp)
                exact ⟨D, _, 0, .str y0, rfl, rfl, SqL.of hD7, at0 _ _, y0, _, _, _, rfl, n0, nT, hW7, k7, t7⟩
          · rw [show decide (fd ∈ T) = false from decide_eq_false g4]
            exact iteF ⟨fd, b7, b8, b9, rfl, name_by sg6 hcr g2 g3, g4, hW6, k6, t6⟩
      · rw [decide_eq_false g2]
        refine iteT (iteT ?_)
        refine ⟨400, rfl, by decide, by decide, fun D hD => ?_⟩
        have hDn : H D = none := k6.none (hW6.out hD) hD
        have nDt : t ≠ D := fun z => by rw [← z, hT6] at hD; cases hD
        refine lc_range (fun j H' => ∃ ys : List Str, H' D = some (.lst (ys.map V.str)) ∧ (∀ y ∈ ys, nameB y = true ∧ y ∉ T) ∧ ((∃ k < j, nth9 k ∉ T) → ys ≠ []) ∧ ys.length ≤ j ∧ H' t = some (.lst (T.map V.str)) ∧ Wl H' w l (m + 13) ∧ Kp [w, l] H H' ∧ Tk H H') ⟨[], upd_same, fun y hy => (List.not_mem_nil hy).elim, fun ⟨k, hk, _⟩ => absurd hk (Nat.not_lt_zero _), Nat.le_refl _, by rw [upd_ne nDt]; exact hT6, hW6.upd (hW6.out hD), kp_new k6 hDn, t6.trans (Tk.same (same_new hD _))⟩ ?_ ?_
        · rintro j H7 hj ⟨ys, hD7, hys, hne, hyl, hT7, hW7, k7, t7⟩
          have hj : j < 400 := hj
          have e0 : (0 : Int) + (j : Int) = (j : Int) := Int.zero_add _
          rw [e0]
          refine ⟨rfl, ?_⟩
          have lg : ((j : Nat) : Int).natAbs.log2 < 1920 := by
            show Nat.log2 j < 1920
            exact Nat.lt_of_le_of_lt (Nat.log2_le_self j) (by omega)
          refine ⟨_, rfl, _, rfl, lg, _, _, rfl, rfl, Nat.le_trans (nth_len j hj) (by decide), _, rfl, t, _, rfl, .inl (SqL.of hT7), rfl, flat_strs T, _, rfl, ?_⟩
          have en : ((Str.ofString "n") ++ (toString ((j : Nat) : Int) : Str)) = nth9 j := rfl
          rw [inV_strs]
          by_cases cj : nth9 j ∈ T
          · rw [show decide ((Str.ofString "n") ++ (toString ((j : Nat) : Int) : Str) ∈ T) = true from decide_eq_true cj]
            refine iteF ⟨ys, hD7, hys, fun ⟨k, hk, hkT⟩ => ?_, by omega, hT7, hW7, k7, t7⟩
            refine hne ⟨k, ?_, hkT⟩
            rcases Nat.lt_or_ge k j with h | h
            · exact h
            · exact absurd (by rw [show k = j by omega]; exact cj) hkT
          · rw [show decide ((Str.ofString "n") ++ (toString ((j : Nat) : Int) : Str) ∈ T) = false from decide_eq_false cj]
            refine iteT ⟨_, rfl, _, rfl, lg, _, _, rfl, rfl, Nat.le_trans (nth_len j hj) (by decide), ?_⟩
            refine ⟨_, hD7, Nat.lt_of_le_of_lt (show _ ≤ 400 by rw [List.length_map]; omega) (by decide), ys ++ [nth9 j], by rw [List.map_append]; exact upd_same, fun y hy => ?_, fun _ => by simp, by rw [List.length_append]; simp; omega, by rw [upd_ne nDt]; exact hT7, hW7.upd (hW6.out hD), kp_new k7 hDn, t7.trans (Tk.put hD7 _)⟩
            rcases List.mem_append.mp hy with h | h
            · exact hys y h
            · cases List.mem_singleton.mp h
              exact ⟨nth_ok j hj, cj⟩
        · rintro H7 ⟨ys, hD7, hys, hne, hyl, hT7, hW7, k7, t7⟩
          obtain ⟨k, hk, hkT⟩ := some_free hT
          cases ys with
          | nil => exact absurd rfl (hne ⟨k, Nat.lt_of_lt_of_le hk (by decide), hkT⟩)
          | cons y0 r =>
            obtain ⟨n0, nT⟩ := hys y0 (by simp)
            exact ⟨D, _, 0, .str y0, rfl, rfl, SqL.of hD7, at0 _ _, y0, _, _, _, rfl, n0, nT, hW7, k7, t7⟩
    rintro _ H7 ⟨fd, b7, b8, b9, rfl, n7, nT7, hW7, k7, t7⟩
    exact ⟨_, rfl, q _ _ n7 nT7 (hW7.le (by omega)) k7 t7⟩
end
end K06


set_option Elab.async false
set_option linter.all false
set_option maxRecDepth 100000
set_option maxHeartbeats 8000000
namespace K06
open PySem PySem.Spec PyProof.Rows L2
section
variable {P : Program} {w : World} {K : PySem.W.Frag} {mg : Str → Option Value} {base : Heap}
def spNames9 : Sp := fun vs H Q _ => ∃ (w l : Addr) (m many : Nat), vs = [.ref w, .int (many : Int)] ∧ Wl H w l (m + 30 * many) ∧ many ≤ 20 ∧ ∀ H' a L, TupO H' a (L.map V.str) → L.length = many → Nok L → L.Nodup → Wl H' w l m → Kp [w, l] H H' → Tk H H' → Q (.ref a) H'
theorem sc__law_names : FnScope ["well", "many", "found", "k"] ["well", "many"] (C8.fnScope (topS 43)) := C8.fnScope_by (by decide +kernel)
theorem ok__law_names {f : Addr} {fd : FuncData} (F : C8.Def K mg "_law_names" (topS 43) f fd) (b : Binds K fd ["well", "many"] []) (B : Bl K mg) (c_name : C8.Cal P w K mg base 2 "_law_name" spName9 []) : C8.Cal P w K mg base 3 "_law_names" spNames9 [] := by
  refine C8.cal0 F b .nil sc__law_names ?len ?body
  case len => rintro vs H Q E ⟨w, l, m, many, rfl, _⟩; rfl
  case body =>
    rintro cdv A outer s H vs Q E hr ⟨w, l, m, many, rfl, hW, hm, q⟩
    refine ⟨_, (pss_cons (ps_set (i := 2) sc__law_names.nd rfl (Or.inl rfl) (pe_lst pa_nil))
    (pss_cons (ps_for PassesOwn.never rfl (pi_range1 rfl B.range (pa_cons (pv 1) pa_nil)) (pg_name (i := 3) sc__law_names.nd rfl (Or.inl rfl))
    (pss_one (ps_expr (pe_bm PySem.F.plainAttrs_list PySem.F.slot_list_append PySem.F.type_list_append mt_append (pv 2) (pa_cons (C8.pe_c c_name hr (by decide) rfl (pa_cons (pv 0) (pa_cons (pv 2) pa_nil))) pa_nil)))))
    (pss_one (ps_ret (pe_callTy call_tupleZ rfl B.tuple (by decide +kernel) (pa_cons (pv 2) pa_nil)))))), ?_⟩
    refine ⟨(by show 0 ≤ sizeLine; decide), fun F hF => ?_⟩
    have nF := hW.out hF
    have s1 := same_new hF (.lst [])
    refine ⟨_, rfl, (many : Int), rfl, by omega, by omega, ?_⟩
    rw [Int.toNat_natCast]
    refine for_range (lo := 0) (n := many) (fun i σ H' => ∃ (L : List Str) (b3 : Option V), σ = [some (.ref w), some (.int (many : Int)), some (.ref F), b3] ∧ H' F = some (.lst (L.map V.str)) ∧ L.length = i ∧ Nok L ∧ L.Nodup ∧ Wl H' w l (m + 30 * (many - i)) ∧ Kp [w, l] H H' ∧ Tk H H') ⟨[], none, rfl, upd_same, rfl, fun x hx => (List.not_mem_nil hx).elim, List.nodup_nil, (hW.same s1).le (by omega), Kp.of_same s1, Tk.same s1⟩ ?_ ?_
    · rintro i _ H2 hi ⟨L, b3, rfl, hF2, hL, hLn, hLd, hW2, k2, t2⟩
      obtain ⟨b, hb⟩ : ∃ b, m + 30 * (many - i) = b + 30 ∧ m + 30 * (many - (i + 1)) = b := ⟨m + 30 * (many - (i + 1)), by omega, rfl⟩
      rw [hb.1] at hW2
      rw [hb.2]
      refine ⟨_, rfl, .inl ⟨rfl, _, SqL.of hF2⟩, ?_⟩
      refine ⟨_, rfl, _, rfl, w, l, F, b, L, rfl, hW2, hF2, nF, by omega, hLn, fun r H3 hr3 hrL hW3 k3 t3 => ?_⟩
      have hF3 := k3 _ _ nF hF2
      have hFn : H F = none := hF
      refine ⟨F, _, _, rfl, rfl, hF3, Nat.lt_of_le_of_lt (show _ ≤ 20 by rw [List.length_map]; omega) (by decide), ?_⟩
      refine ⟨L ++ [r], _, rfl, by rw [List.map_append]; exact upd_same, by rw [List.length_append, hL]; rfl, fun x hx => ?_, ?_, hW3.upd nF, kp_new (k2.trans k3) hFn, (t2.trans t3).trans (Tk.put hF3 _)⟩
      · rcases List.mem_append.mp hx with h | h
        · exact hLn x h
        · cases List.mem_singleton.mp h; exact hr3
      · rw [List.nodup_append]
        refine ⟨hLd, by simp, fun x hx y hy => ?_⟩
        cases List.mem_singleton.mp hy
        rintro rfl
        exact hrL hx
    · rintro σ H2 ⟨L, b3, rfl, hF2, hL, hLn, hLd, hW2, k2, t2⟩
      refine ⟨_, rfl, F, _, rfl, SqL.of hF2, fun lt ob hlt ho1 ho2 => ?_⟩
      have sl := same_new hlt (.frz ob (.tup (L.map V.str)))
      exact q _ lt L ⟨ob, upd_same, ho1, ho2⟩ hL hLn hLd ((hW2.same sl).le (by omega)) (k2.trans (Kp.of_same sl)) (t2.trans (Tk.same sl))
end
end K06


set_option Elab.async false
set_option linter.all false
set_option maxRecDepth 100000
set_option maxHeartbeats 8000000
namespace K06
open PySem PySem.Spec PyProof.Rows L2
def CS : Nat → Nat
  | 0 => 0
  | n + 1 => 12 + 24 * CS n
def CB (n : Nat) : Nat := 1 + 4 * CS n
theorem cs_succ (n : Nat) : CS (n + 1) = 6 + 6 * CB n := by unfold CB; rw [CS]; omega
/-- what the drawing of a program holds -/
structure Drw9 (K : PySem.W.Frag) (H : Hp) (w l R h la na : Addr) (L N : List Str) (m c : Nat) : Prop where
  wl : Wl H w l c
  room : H R = some (.lst [.int (m : Int)])
  hd : SqT K H h [.ref la, .ref na]
  hl : TupO H la (L.map V.str)
  hn : TupO H na (N.map V.str)
  n1 : R ∉ [w, l]
section
variable {K : PySem.W.Frag} {H H' : Hp} {w l R h la na : Addr} {L N : List Str} {m m' c c' : Nat}
theorem Drw9.same (d : Drw9 K H w l R h la na L N m c) (s : Same H H') : Drw9 K H' w l R h la na L N m c := ⟨d.wl.same s, s _ _ d.room, (Tk.same s).sqt d.hd, d.hl.tk (Tk.same s), d.hn.tk (Tk.same s), d.n1⟩
theorem Drw9.le (d : Drw9 K H w l R h la na L N m c) (e : c' ≤ c) : Drw9 K H w l R h la na L N m c' := ⟨d.wl.le e, d.room, d.hd, d.hl, d.hn, d.n1⟩
theorem Drw9.pick (d : Drw9 K H w l R h la na L N m c) (hc : Wl H' w l c') (k : Kp [w, l] H H') (t : Tk H H') : Drw9 K H' w l R h la na L N m c' :=
  ⟨hc, k _ _ d.n1 d.room, t.sqt d.hd, d.hl.tk t, d.hn.tk t, d.n1⟩
theorem Drw9.keep (d : Drw9 K H w l R h la na L N m c) (hc : Wl H' w l c') (hr : H' R = some (.lst [.int (m' : Int)])) (t : Tk H H') : Drw9 K H' w l R h la na L N m' c' :=
  ⟨hc, hr, t.sqt d.hd, d.hl.tk t, d.hn.tk t, d.n1⟩
theorem Drw9.put (d : Drw9 K H w l R h la na L N m c) (m' : Nat) : Drw9 K (upd H R (.lst [.int (m' : Int)])) w l R h la na L N m' c :=
  d.keep (d.wl.upd d.n1) upd_same (Tk.put d.room _)
end
theorem kp9 {w l R : Addr} {H H' : Hp} (k : Kp [w, l] H H') : Kp [w, l, R] H H' := k.mono fun a h => by
  rcases List.mem_cons.mp h with rfl | h
  · simp
  · cases List.mem_singleton.mp h; simp
theorem pick_str {L : List Str} {H : Hp} {r : Int} (h0 : 0 ≤ r) (h1 : r < L.length) : ∃ x, x ∈ L ∧ atI (L.map V.str) r = some (.str x) := by
  have hlt : r.toNat < L.length := by omega
  refine ⟨L[r.toNat], List.getElem_mem hlt, ?_⟩
  have := atI_nat (xs := L.map V.str) (j := r.toNat) (v := .str L[r.toNat]) (by rw [List.getElem?_map, List.getElem?_eq_getElem hlt]; rfl)
  rwa [show ((r.toNat : Nat) : Int) = r by omega] at this
theorem pick_int {L : List Int} {r : Int} (h0 : 0 ≤ r) (h1 : r < L.length) : ∃ x, x ∈ L ∧ atI (L.map V.int) r = some (.int x) := by
  have hlt : r.toNat < L.length := by omega
  refine ⟨L[r.toNat], List.getElem_mem hlt, ?_⟩
  have := atI_nat (xs := L.map V.int) (j := r.toNat) (v := .int L[r.toNat]) (by rw [List.getElem?_map, List.getElem?_eq_getElem hlt]; rfl)
  rwa [show ((r.toNat : Nat) : Int) = r by omega] at this
theorem ds_snoc (b : List St) (s : St) : ds (b ++ [s]) = ds b ++ [s.d] := by rw [ds_map, ds_map, List.map_append]; rfl
theorem ns_snoc (b : List St) (s : St) : ns (b ++ [s]) = ns b + s.n := by rw [ns_app]; simp [ns]
theorem ks_snoc (b : List St) (s : St) : ks (b ++ [s]) = max (ks b) s.k := by rw [ks_app]; simp [ks]
theorem inV_ints (r : Int) (L : List Int) : inV (.int r) (L.map V.int) = decide (r ∈ L) := by
  induction L with
  | nil => rfl
  | cons z l ih =>
    show (eqV (.int z) (.int r) || inV (.int r) (l.map V.int)) = _
    rw [ih]
    have e : eqV (.int z) (.int r) = decide (z = r) := by
      show (z == r) = _
      by_cases h : z = r
      · subst h; simp
      · rw [decide_eq_false h]; exact beq_eq_false_iff_ne.mpr h
    rw [e]
    by_cases h : r = z
    · subst h; simp
    · simp [h, Ne.symm h]
-- no body of more than m statements within, and no more than d statements with bodies around another
mutual
def St.wm (m : Nat) : Nat → St → Prop
  | d, .ch bs => 1 ≤ d ∧ wmbs m (d - 1) bs
  | d, .lp b => 1 ≤ d ∧ b.length ≤ m ∧ wms m (d - 1) b
  | d, .en b c => 1 ≤ d ∧ (b.length ≤ m ∧ wms m (d - 1) b) ∧ (c.length ≤ m ∧ wms m (d - 1) c)
  | _, .dd _ => True
  | _, .ud _ => True
  | _, .cl _ => True
  | _, .rt => True
def wms (m : Nat) : Nat → List St → Prop
  | _, [] => True
  | d, s :: r => s.wm m d ∧ wms m d r
def wmbs (m : Nat) : Nat → List (List St) → Prop
  | _, [] => True
  | d, b :: r => (b.length ≤ m ∧ wms m d b) ∧ wmbs m d r
end
theorem wms_iff {m d : Nat} : ∀ {b : List St}, wms m d b ↔ ∀ s ∈ b, s.wm m d
  | [] => by simp [wms]
  | s :: r => by rw [wms, wms_iff (b := r)]; simp
theorem wmbs_iff {m d : Nat} : ∀ {b : List (List St)}, wmbs m d b ↔ ∀ s ∈ b, s.length ≤ m ∧ wms m d s
  | [] => by simp [wmbs]
  | s :: r => by rw [wmbs, wmbs_iff (b := r)]; simp
mutual
theorem wm_le {m k : Nat} (h : m ≤ k) : ∀ (s : St) {d e : Nat}, d ≤ e → s.wm m d → s.wm k e
  | .dd _, _, _, _, _ | .ud _, _, _, _, _ | .cl _, _, _, _, _ | .rt, _, _, _, _ => trivial
  | .ch bs, d, e, g, q => ⟨Nat.le_trans q.1 g, wmbs_le h bs (by omega) q.2⟩
  | .lp b, d, e, g, q => ⟨Nat.le_trans q.1 g, Nat.le_trans q.2.1 h, wms_le h b (by omega) q.2.2⟩
  | .en b c, d, e, g, q => ⟨Nat.le_trans q.1 g, ⟨Nat.le_trans q.2.1.1 h, wms_le h b (by omega) q.2.1.2⟩, Nat.le_trans q.2.2.1 h, wms_le h c (by omega) q.2.2.2⟩
theorem wms_le {m k : Nat} (h : m ≤ k) : ∀ (b : List St) {d e : Nat}, d ≤ e → wms m d b → wms k e b
  | [], _, _, _, _ => trivial
  | s :: r, _, _, g, q => ⟨wm_le h s g q.1, wms_le h r g q.2⟩
theorem wmbs_le {m k : Nat} (h : m ≤ k) : ∀ (b : List (List St)) {d e : Nat}, d ≤ e → wmbs m d b → wmbs k e b
  | [], _, _, _, _ => trivial
  | s :: r, _, _, g, q => ⟨⟨Nat.le_trans q.1.1 h, wms_le h s g q.1.2⟩, wmbs_le h r g q.2⟩
end
mutual
theorem wm_wd {m : Nat} (h : m ≤ 60) : ∀ (s : St) {d : Nat}, s.wm m d → s.wd
  | .dd _, _, _ | .ud _, _, _ | .cl _, _, _ | .rt, _, _ => by simp [St.wd]
  | .ch bs, _, q => by rw [St.wd]; exact wmbs_wd h bs q.2
  | .lp b, _, q => by rw [St.wd]; exact ⟨Nat.le_trans q.2.1 h, wms_wd h b q.2.2⟩
  | .en b c, _, q => by rw [St.wd]; exact ⟨⟨Nat.le_trans q.2.1.1 h, wms_wd h b q.2.1.2⟩, Nat.le_trans q.2.2.1 h, wms_wd h c q.2.2.2⟩
theorem wms_wd {m : Nat} (h : m ≤ 60) : ∀ (b : List St) {d : Nat}, wms m d b → wdl b
  | [], _, _ => trivial
  | s :: r, _, q => ⟨wm_wd h s q.1, wms_wd h r q.2⟩
theorem wmbs_wd {m : Nat} (h : m ≤ 60) : ∀ (b : List (List St)) {d : Nat}, wmbs m d b → wdbs b
  | [], _, _ => trivial
  | s :: r, _, q => ⟨⟨Nat.le_trans q.1.1 h, wms_wd h s q.1.2⟩, wmbs_wd h r q.2⟩
end
mutual
theorem wm_k {m : Nat} : ∀ (s : St) {d : Nat}, s.wm m d → s.k ≤ d + 1
  | .dd _, _, _ | .ud _, _, _ | .cl _, _, _ | .rt, _, _ => by simp [St.k]
  | .ch bs, _, q => by have := wmbs_k bs q.2; have := q.1; rw [St.k]; omega
  | .lp b, _, q => by have := wms_k b q.2.2; have := q.1; rw [St.k]; omega
  | .en b c, _, q => by have := wms_k b q.2.1.2; have := wms_k c q.2.2.2; have := q.1; rw [St.k]; omega
theorem wms_k {m : Nat} : ∀ (b : List St) {d : Nat}, wms m d b → ks b ≤ d + 1
  | [], _, _ => by simp [ks]
  | s :: r, _, q => by have := wm_k s q.1; have := wms_k r q.2; rw [ks]; omega
theorem wmbs_k {m : Nat} : ∀ (b : List (List St)) {d : Nat}, wmbs m d b → kss b ≤ d + 1
  | [], _, _ => by simp [kss]
  | s :: r, _, q => by have := wms_k s q.1.2; have := wmbs_k r q.2; rw [kss]; omega
end
section
variable {P : Program} {w : World} {K : PySem.W.Frag} {mg : Str → Option Value} {base : Heap}

def spDB9 (K : PySem.W.Frag) (n : Nat) : Sp := fun vs H Q _ => ∃ w l h la na R deep sec L N m c, vs = [.ref w, .int (deep : Nat), .ref h, .bl sec, .ref R] ∧ Drw9 K H w l R h la na L N m (c + CB n) ∧ m ≤ 200 ∧ deep < n ∧ 1 ≤ L.length ∧ L.length ≤ 20 ∧ 1 ≤ N.length ∧ N.length ≤ 20 ∧
  ∀ H' v b m', Dp K H' v (.tuple (ds b)) → oks L N sec b → ns b + m' = m → ks b ≤ deep + 1 → b.length ≤ 4 → wms 4 deep b → Wl H' w l c → H' R = some (.lst [.int ((m' : Nat) : Int)]) → Kp [w, l, R] H H' → Tk H H' → Q v H'
def spDS9 (K : PySem.W.Frag) (n : Nat) : Sp := fun vs H Q _ => ∃ w l h la na R deep sec L N m c, vs = [.ref w, .int (deep : Nat), .ref h, .bl sec, .ref R] ∧ Drw9 K H w l R h la na L N m (c + CS n) ∧ m ≤ 200 ∧ deep < n ∧ 1 ≤ L.length ∧ L.length ≤ 20 ∧ 1 ≤ N.length ∧ N.length ≤ 20 ∧
  ∀ H' v s m', Dp K H' v (St.d s) → s.ok L N sec → s.n + m' = m + 1 → s.k ≤ deep + 1 → s.wm 4 deep → Wl H' w l c → H' R = some (.lst [.int ((m' : Nat) : Int)]) → Kp [w, l, R] H H' → Tk H H' → Q v H'
theorem sc__law_body : FnScope ["well", "deep", "heads", "is_second", "room", "found", "turn"] ["well", "deep", "heads", "is_second", "room"] (C8.fnScope (topS 44)) := C8.fnScope_by (by decide +kernel)
theorem sc__law_statement : FnScope ["well", "deep", "heads", "is_second", "room", "way", "many", "k", "body"] ["well", "deep", "heads", "is_second", "room"] (C8.fnScope (topS 45)) := C8.fnScope_by (by decide +kernel)
theorem ok_db9 {n e : Nat} {f : Addr} {fd : FuncData} (F : C8.Def K mg "_law_body" (topS 44) f fd) (b : Binds K fd ["well", "deep", "heads", "is_second", "room"] []) (B : Bl K mg) (c_draw : C8.Cal P w K mg base 1 "_law_draw" spDraw []) (c_stmt : C8.Cal P w K mg base e "_law_statement" (spDS9 K n) []) (he : 1 ≤ e) : C8.Cal P w K mg base (e + 1) "_law_body" (spDB9 K n) [] := by
  refine C8.cal0 F b .nil sc__law_body ?len ?body
  case len => rintro vs H Q E ⟨w, l, h, la, na, R, deep, sec, L, N, m, c, rfl, _⟩; rfl
  case body =>
    rintro cdv A outer s H vs Q E hr ⟨w, l, h, la, na, R, deep, sec, L, N, m, c, rfl, hD, hm, hdn, hL1, hL2, hN1, hN2, q⟩
    refine ⟨_, (pss_cons (ps_set (i := 5) sc__law_body.nd rfl (Or.inl rfl) (pe_tup pa_nil))
    (pss_cons (ps_for PassesOwn.never rfl (pi_range1 rfl B.range (pa_cons (C8.pe_c c_draw hr (by omega) rfl (pa_cons (pv 0) (pa_cons pe_int pa_nil))) pa_nil)) (pg_name (i := 6) sc__law_body.nd rfl (Or.inl rfl))
    (pss_one (ps_if (pt_cmpR op_gt (pe_ix ix_list (pv 4) pe_int (fun _ _ => rfl)) pe_int (nomark _)) (pss_cons (ps_asg (pe_op op_sub (pe_ix ix_list (pv 4) pe_int (fun _ _ => rfl)) pe_int) (pg_sub (pv 4) pe_int set_list))
    (pss_one (ps_set (i := 5) sc__law_body.nd rfl (Or.inl rfl) (pe_op op_catA (pv 5) (pe_tup (pa_cons (C8.pe_c c_stmt hr (by omega) rfl (pa_cons (pv 0) (pa_cons (pv 1) (pa_cons (pv 2) (pa_cons (pv 3) (pa_cons (pv 4) pa_nil)))))) pa_nil)))))) pss_nil)))
    (pss_one (ps_ret (pv 5))))), ?_⟩
    refine ⟨(by show 0 ≤ sizeLine; decide), fun f0 hf0 => ?_⟩
    have s1 := same_new hf0 (.tup [])
    have D1 := hD.same s1
    have hf1 : upd H f0 (.tup []) f0 = some (.tup []) := upd_same
    generalize upd H f0 (.tup []) = H1 at s1 D1 hf1
    refine ⟨_, rfl, w, l, c + 4 * CS n, 5, rfl, D1.wl.le (by unfold CB; omega), by omega, by omega, fun r H2 r0 r1 hc2 k2 t2 => ?_⟩
    refine ⟨r, rfl, by omega, by omega, ?_⟩
    have D2 := D1.pick hc2 k2 t2
    have k02 : Kp [w, l, R] H H2 := (Kp.of_same s1).trans (kp9 k2)
    have t02 : Tk H H2 := (Tk.same s1).trans t2
    refine for_range (lo := 0) (n := r.toNat) (fun i σ H' => ∃ b6 v b m', σ = [some (.ref w), some (.int (deep : Nat)), some (.ref h), some (.bl sec), some (.ref R), some v, b6] ∧ Dp K H' v (.tuple (ds b)) ∧ oks L N sec b ∧ ns b + m' = m ∧ ks b ≤ deep + 1 ∧ (b.length ≤ i ∧ wms 4 deep b) ∧ Drw9 K H' w l R h la na L N m' (c + CS n * (4 - i)) ∧ Kp [w, l, R] H H' ∧ Tk H H') ?_ ?_ ?_
    · exact ⟨none, _, [], m, rfl, .tup (t2.sqt (SqT.of hf1)) .nil, trivial, by simp [ns], by simp [ks], ⟨Nat.le_refl _, trivial⟩, D2.le (by omega), k02, t02⟩
    · rintro i _ H3 hi ⟨b7, v, b, m', rfl, hb, ho, hn, hk, ⟨hbl, hwm⟩, D3, k3, t3⟩
      have hi4 : i < 4 := by omega
      have ec : CS n * (4 - i) = CS n * (4 - (i + 1)) + CS n := by
        rw [show 4 - i = (4 - (i + 1)) + 1 by omega]
        exact Nat.mul_succ _ _
      refine ⟨_, rfl, R, _, _, _, rfl, rfl, SqL.of D3.room, at0 _ _, _, _, rfl, rfl, _, rfl, ?_⟩
      by_cases c1 : (0 : Int) < (m' : Int)
      · rw [decide_eq_true c1]
        refine iteT ?_
        refine ⟨_, rfl, R, _, _, _, rfl, rfl, SqL.of D3.room, at0 _ _, _, _, rfl, rfl, _, rfl, R, _, _, 0, rfl, rfl, D3.room, rfl, ?_⟩
        have D4 := D3.put (m' - 1)
        have em : ((m' : Nat) : Int) - 1 = ((m' - 1 : Nat) : Int) := by omega
        have tP := Tk.put D3.room (.lst [.int ((m' - 1 : Nat) : Int)])
        have kP : Kp [w, l, R] H3 (upd H3 R (.lst [.int ((m' - 1 : Nat) : Int)])) := Kp.put _ (by simp)
        show (fun H4 => _) (upd H3 R (.lst [.int (((m' : Nat) : Int) - 1)]))
        rw [em]
        have hb4 := tP.dp (.tuple (ds b)) (tup_ds b) hb
        generalize upd H3 R (.lst [.int ((m' - 1 : Nat) : Int)]) = H4 at D4 tP kP hb4
        refine ⟨_, rfl, _, rfl, _, rfl, _, rfl, _, rfl, _, rfl, w, l, h, la, na, R, deep, sec, L, N, m' - 1, c + CS n * (4 - (i + 1)), rfl, D4.le (by omega), by omega, hdn, hL1, hL2, hN1, hN2, fun H5 x st m5 hw hso hsn hsk hsw hc5 hr5 k5 t5 => ?_⟩
        refine ⟨(by show 1 ≤ sizeLine; decide), fun y hy => ?_⟩
        have sy := same_new hy (.tup [x])
        have t45 : Tk H4 (upd H5 y (.tup [x])) := t5.trans (Tk.same sy)
        have hb5 := t45.dp (.tuple (ds b)) (tup_ds b) hb4
        have hw5 := (Tk.same sy).dp _ (tup_St st) hw
        obtain ⟨ba, bxs, rfl, hbs, hba, hbx⟩ := len_ok hb5
        rw [ds_len] at hbx
        have D5 := (D4.keep hc5 hr5 t5).same sy
        have hyT : SqT K (upd H5 y (.tup [x])) y [x] := SqT.of upd_same
        have k5y : Kp [w, l, R] H (upd H5 y (.tup [x])) := k3.trans (kP.trans (k5.trans (Kp.of_same sy)))
        have t5y : Tk H (upd H5 y (.tup [x])) := t3.trans (tP.trans t45)
        generalize upd H5 y (.tup [x]) = H6 at hbs hba hw5 D5 hyT k5y t5y
        have fin : oks L N sec (b ++ [st]) ∧ ns (b ++ [st]) + m5 = m ∧ ks (b ++ [st]) ≤ deep + 1 ∧ ((b ++ [st]).length ≤ i + 1 ∧ wms 4 deep (b ++ [st])) := by
          refine ⟨oks_iff.mpr fun x hx => ?_, by rw [ns_snoc]; omega, by rw [ks_snoc]; omega, by simp; omega, wms_iff.mpr fun x hx => (List.mem_append.mp hx).elim (wms_iff.mp hwm x) fun z => by cases List.mem_singleton.mp z; exact hsw⟩
          rcases List.mem_append.mp hx with h | h
          · exact oks_iff.mp ho x h
          · cases List.mem_singleton.mp h
            exact hso
        refine ⟨ba, y, bxs, [x], rfl, rfl, hbs, hyT, Nat.le_trans (show bxs.length + 1 ≤ 6 by omega) (by decide), fun z => ?_, fun _ z => (by cases z), fun _ _ p hp => ?_⟩
        · have : b = [] := by
            cases b with
            | nil => rfl
            | cons _ _ => rw [z] at hbx; simp at hbx
          subst this
          exact ⟨_, _, [st], m5, rfl, .tup hyT (.cons hw5 .nil), fin.1, fin.2.1, fin.2.2.1, fin.2.2.2, D5, k5y, t5y⟩
        · have sp := same_new hp (.tup (bxs ++ [x]))
          refine ⟨_, _, b ++ [st], m5, rfl, .tup (SqT.of upd_same) ?_, fin.1, fin.2.1, fin.2.2.1, fin.2.2.2, D5.same sp, k5y.trans (Kp.of_same sp), t5y.trans (Tk.same sp)⟩
          rw [ds_snoc]
          exact dps_ext (same_ext sp) _ (dps_app hba (.cons hw5 .nil))
      · rw [decide_eq_false c1]
        exact iteF ⟨_, _, b, m', rfl, hb, ho, hn, hk, ⟨by omega, hwm⟩, D3.le (by omega), k3, t3⟩
    · rintro σ H3 ⟨b7, v, b, m', rfl, hb, ho, hn, hk, ⟨hbl, hwm⟩, D3, k3, t3⟩
      exact ⟨_, rfl, q H3 v b m' hb ho hn hk (by omega) hwm (D3.wl.le (by omega)) D3.room k3 t3⟩
theorem tupo_sq {K : PySem.W.Frag} {H : Hp} {a : Addr} {ys : List V} (h : TupO H a ys) : SqT K H a ys := let ⟨o, h1, _⟩ := h; .inl (.inr ⟨o, h1⟩)
theorem ok_dst9 {n e : Nat} {f : Addr} {fd : FuncData} (F : C8.Def K mg "_law_statement" (topS 45) f fd) (b : Binds K fd ["well", "deep", "heads", "is_second", "room"] []) (B : Bl K mg) (c_draw : C8.Cal P w K mg base 1 "_law_draw" spDraw []) (c_body : C8.Cal P w K mg base e "_law_body" (spDB9 K n) []) (he : 1 ≤ e) : C8.Cal P w K mg base (e + 1) "_law_statement" (spDS9 K (n + 1)) [] := by
  refine C8.cal0 F b .nil sc__law_statement ?len ?body
  case len => rintro vs H Q E ⟨w, l, h, la, na, R, deep, sec, L, N, m, c, rfl, _⟩; rfl
  case body =>
    rintro cdv A outer s H vs Q E hr ⟨w, l, h, la, na, R, deep, sec, L, N, m, c, rfl, hD, hm, hdn, hL1, hL2, hN1, hN2, q⟩
    refine ⟨_, (C8.pss_cut (ps_set (i := 5) sc__law_statement.nd rfl (Or.inl rfl) (C8.pe_c c_draw hr (by omega) rfl (pa_cons (pv 0) (pa_cons (pe_ifExp (pt_cmpR op_gt (pv 1) pe_int (nomark _)) pe_int pe_int) pa_nil))))
    (pss_cons (ps_if (pt_cmpR op_eq (pv 5) pe_int (nomark _)) (pss_one (ps_ret (pe_tup (pa_cons pe_str (pa_cons (pe_ix ix_tup (pe_ix ix_tup (pv 2) pe_int (fun _ _ => rfl)) (C8.pe_c c_draw hr (by omega) rfl (pa_cons (pv 0) (pa_cons (pe_callB call_len_seq rfl B.len PySem.boot_len (pa_cons (pe_ix ix_tup (pv 2) pe_int (fun _ _ => rfl)) pa_nil)) pa_nil))) (fun _ _ => rfl)) pa_nil))))) pss_nil)
    (pss_cons (ps_if (PW.pt (pw_and (pt_cmpR op_eq (pv 5) pe_int (nomark _)) (pw_and1 (pt_not (pt_val (pv 3)))))) (pss_one (ps_ret (pe_tup (pa_cons pe_str pa_nil)))) pss_nil)
    (pss_cons (ps_if (pt_cmpR op_lt (pv 5) pe_int (nomark _)) (pss_one (ps_ret (pe_tup (pa_cons (pe_ix ix_list (pe_lst (pa_cons pe_str (pa_cons pe_str pa_nil))) (C8.pe_c c_draw hr (by omega) rfl (pa_cons (pv 0) (pa_cons pe_int pa_nil))) (fun _ _ => rfl)) (pa_cons (pe_ix ix_tup (pe_ix ix_tup (pv 2) pe_int (fun _ _ => rfl)) (C8.pe_c c_draw hr (by omega) rfl (pa_cons (pv 0) (pa_cons (pe_callB call_len_seq rfl B.len PySem.boot_len (pa_cons (pe_ix ix_tup (pv 2) pe_int (fun _ _ => rfl)) pa_nil)) pa_nil))) (fun _ _ => rfl)) pa_nil))))) pss_nil)
    (pss_cons (ps_if (pt_cmpR op_lt (pv 5) pe_int (nomark _)) (pss_cons (ps_set (i := 6) sc__law_statement.nd rfl (Or.inl rfl) (pe_ix ix_list (pe_lst (pa_cons pe_int (pa_cons pe_int (pa_cons pe_int (pa_cons pe_int pa_nil))))) (C8.pe_c c_draw hr (by omega) rfl (pa_cons (pv 0) (pa_cons pe_int pa_nil))) (fun _ _ => rfl)))
    (pss_one (ps_ret (pe_tup (pa_cons pe_str (pa_cons (pe_callTy call_tuple_of rfl B.tuple (by decide +kernel) (pa_cons (pe_lc (own := [("k", 7)]) (g := gName 7) (te := tCall (spDB9 K n) [] C8.E0 (tCons (tVar 0) (tCons (tOp (rI0 fun i j => .int (i - j)) (tVar 1) (tC (.int 1))) (tCons (tVar 2) (tCons (tVar 3) (tCons (tVar 4) tNil)))))) (by rfl) sc__law_statement.nd (pi_range1 rfl B.range (pa_cons (pv 6) pa_nil)) (blkOk_by (own := [("k", 7)]) (N := ["well", "deep", "heads", "is_second", "room", "way", "many", "k", "body"]) (sc := (C8.fnScope (topS 45))) (by decide +kernel)) (fun _ _ _ _ _ => pg_name (i := 7) sc__law_statement.nd rfl (Or.inl rfl)) (fun _ _ _ _ _ => pts_nil) (fun _ _ _ _ _ => by exact (C8.pe_c c_body hr (by omega) rfl (pa_cons (pv 0) (pa_cons (pe_op op_sub (pv 1) pe_int) (pa_cons (pv 2) (pa_cons (pv 3) (pa_cons (pv 4) pa_nil)))))))) pa_nil)) pa_nil)))))) pss_nil)
    (pss_cons (ps_if (pt_cmpR op_eq (pv 5) pe_int (nomark _)) (pss_one (ps_ret (pe_tup (pa_cons pe_str (pa_cons (C8.pe_c c_body hr (by omega) rfl (pa_cons (pv 0) (pa_cons (pe_op op_sub (pv 1) pe_int) (pa_cons (pv 2) (pa_cons (pv 3) (pa_cons (pv 4) pa_nil)))))) pa_nil))))) pss_nil)
    (pss_cons (ps_set (i := 8) sc__law_statement.nd rfl (Or.inl rfl) (C8.pe_c c_body hr (by omega) rfl (pa_cons (pv 0) (pa_cons (pe_op op_sub (pv 1) pe_int) (pa_cons (pv 2) (pa_cons (pv 3) (pa_cons (pv 4) pa_nil)))))))
    (pss_one (ps_ret (pe_tup (pa_cons pe_str (pa_cons (pv 8) (pa_cons (C8.pe_c c_body hr (by omega) rfl (pa_cons (pv 0) (pa_cons (pe_op op_sub (pv 1) pe_int) (pa_cons (pv 2) (pa_cons pe_bl (pa_cons (pv 4) pa_nil)))))) pa_nil))))))))))))), ?_⟩
    have cs := cs_succ n
    refine ⟨fun σ' H' => ∃ r : Int, σ' = [some (.ref w), some (.int (deep : Nat)), some (.ref h), some (.bl sec), some (.ref R), some (.int r), none, none, none] ∧ 0 ≤ r ∧ r < 11 ∧ (5 ≤ r → 0 < deep) ∧ Drw9 K H' w l R h la na L N m (c + 5 + 6 * CB n) ∧ Kp [w, l, R] H H' ∧ Tk H H', ?_, ?_⟩
    · refine ⟨_, rfl, _, rfl, _, _, rfl, rfl, _, rfl, ?_⟩
      by_cases c1 : (0 : Int) < (deep : Nat)
      · rw [decide_eq_true c1]
        refine iteT ⟨w, l, c + 5 + 6 * CB n, 11, rfl, hD.wl.le (by omega), by omega, by omega, fun r H1 r0 r1 hc1 k1 t1 => ?_⟩
        exact ⟨r, rfl, r0, r1, fun _ => by omega, hD.pick hc1 k1 t1, kp9 k1, t1⟩
      · rw [decide_eq_false c1]
        refine iteF ⟨w, l, c + 5 + 6 * CB n, 5, rfl, hD.wl.le (by omega), by omega, by omega, fun r H1 r0 r1 hc1 k1 t1 => ?_⟩
        exact ⟨r, rfl, r0, by omega, fun _ => by omega, hD.pick hc1 k1 t1, kp9 k1, t1⟩
    rintro _ H1 ⟨r, rfl, r0, r12, rd, D1, k1, t1⟩
    refine ⟨_, rfl, rfl, _, rfl, ?_⟩
    rw [dec_int]
    by_cases c3 : r = 3
    · rw [decide_eq_true c3]
      refine iteT ⟨_, rfl, h, _, _, _, rfl, rfl, D1.hd, at1 _ _ _, _, rfl, _, rfl, h, _, _, _, rfl, rfl, D1.hd, at1 _ _ _, na, _, rfl, .inr (tupo_sq D1.hn), w, l, c, _, rfl, D1.wl.le (by omega), by rw [List.length_map]; omega, by rw [List.length_map]; omega, fun r2 H2 r20 r21 hc2 k2 t2 => ?_⟩
      have D2 := D1.pick hc2 k2 t2
      rw [List.length_map] at r21
      obtain ⟨x, hx, hat⟩ := pick_str (L := N) (H := H2) r20 r21
      refine ⟨na, _, _, _, rfl, rfl, tupo_sq D2.hn, hat, (by show 2 ≤ sizeLine; decide), fun p hp => ?_⟩
      have sp := same_new hp (.tup [.str "call", .str x])
      exact q _ _ (.cl x) m (.tup (SqT.of upd_same) (.cons (.str _) (.cons (.str _) .nil))) hx (by simp [St.n]; omega) (by simp [St.k]) trivial (D2.same sp).wl (D2.same sp).room (k1.trans ((kp9 k2).trans (Kp.of_same sp))) (t1.trans (t2.trans (Tk.same sp)))
    rw [decide_eq_false c3]
    refine iteF ?_
    have ret : ∀ X : Prop, (sec = false → r = 4 → False) ∨ (sec = false ∧ r = 4) := fun _ => by
      by_cases h : sec = false ∧ r = 4
      · exact .inr h
      · exact .inl fun a b => h ⟨a, b⟩
    rcases ret True with c4 | ⟨c4, c4b⟩
    rotate_left
    · refine ⟨_, rfl, rfl, _, rfl, ?_⟩
      rw [dec_int, decide_eq_true c4b]
      refine iteT ⟨_, rfl, _, rfl, ?_⟩
      subst c4
      refine iteT ⟨(by show 1 ≤ sizeLine; decide), fun p hp => ?_⟩
      have sp := same_new hp (.tup [.str "return"])
      exact q _ _ .rt m (.tup (SqT.of upd_same) (.cons (.str _) .nil)) trivial (by simp [St.n]; omega) (by simp [St.k]) trivial ((D1.same sp).wl.le (by omega)) (D1.same sp).room (k1.trans (Kp.of_same sp)) (t1.trans (Tk.same sp))
    refine ⟨_, rfl, rfl, _, rfl, ?_⟩
    rw [dec_int]
    have go4 : ∀ {A B : Prop}, B → ((if decide (r = 4) = true then (∃ v, ([some (.ref w), some (.int (deep : Nat)), some (.ref h), some (.bl sec), some (.ref R), some (.int r), none, none, none] : L2.St)[3]? = some (some v) ∧ ∃ k, v = .bl k ∧ if (!k) = true then A else B) else B)) := fun {A B} b => by
      by_cases h : r = 4
      · rw [if_pos (by simpa using h)]
        refine ⟨_, rfl, _, rfl, ?_⟩
        cases sec with
        | true => exact iteF b
        | false => exact (c4 rfl h).elim
      · rw [if_neg (by simpa using h)]
        exact b
    refine go4 ?_
    refine ⟨_, rfl, _, _, rfl, rfl, _, rfl, ?_⟩
    by_cases c5 : r < 5
    · rw [decide_eq_true c5]
      refine iteT ?_
      refine ⟨(by show 2 ≤ sizeLine; decide), fun l5 hl5 => ?_⟩
      have s5 := same_new hl5 (.lst [.str "do", .str "undo"])
      have D5 := D1.same s5
      have hl6 : upd H1 l5 (.lst [.str "do", .str "undo"]) l5 = some (.lst ((["do", "undo"] : List Str).map V.str)) := upd_same
      have nl5 := D1.wl.out hl5
      refine ⟨_, rfl, w, l, c + 1, 2, rfl, D5.wl.le (by omega), by omega, by omega, fun r6 H6 r60 r61 hc6 k6 t6 => ?_⟩
      have D6 := D5.pick hc6 k6 t6
      obtain ⟨wd, hwd, hatw⟩ := pick_str (L := ["do", "undo"]) (H := H6) r60 r61
      refine ⟨l5, _, _, _, rfl, rfl, SqL.of (k6 _ _ nl5 hl6), hatw, ?_⟩
      refine ⟨_, rfl, h, _, _, _, rfl, rfl, D6.hd, at0 _ _, _, rfl, _, rfl, h, _, _, _, rfl, rfl, D6.hd, at0 _ _, la, _, rfl, .inr (tupo_sq D6.hl), w, l, c, _, rfl, D6.wl, by rw [List.length_map]; omega, by rw [List.length_map]; omega, fun r7 H7 r70 r71 hc7 k7 t7 => ?_⟩
      have D7 := D6.pick hc7 k7 t7
      rw [List.length_map] at r71
      obtain ⟨x, hx, hat⟩ := pick_str (L := L) (H := H7) r70 r71
      refine ⟨la, _, _, _, rfl, rfl, tupo_sq D7.hl, hat, (by show 2 ≤ sizeLine; decide), fun p hp => ?_⟩
      have sp := same_new hp (.tup [.str wd, .str x])
      have kk : Kp [w, l, R] H (upd H7 p (.tup [.str wd, .str x])) := k1.trans ((Kp.of_same s5).trans ((kp9 k6).trans ((kp9 k7).trans (Kp.of_same sp))))
      have tt : Tk H (upd H7 p (.tup [.str wd, .str x])) := t1.trans ((Tk.same s5).trans (t6.trans (t7.trans (Tk.same sp))))
      simp at hwd
      rcases hwd with rfl | rfl
      · exact q _ _ (.dd x) m (.tup (SqT.of upd_same) (.cons (.str _) (.cons (.str _) .nil))) hx (by simp [St.n]; omega) (by simp [St.k]) trivial (D7.same sp).wl (D7.same sp).room kk tt
      · exact q _ _ (.ud x) m (.tup (SqT.of upd_same) (.cons (.str _) (.cons (.str _) .nil))) hx (by simp [St.n]; omega) (by simp [St.k]) trivial (D7.same sp).wl (D7.same sp).room kk tt
    rw [decide_eq_false c5]
    refine iteF ?_
    have hd0 : 0 < deep := rd (by omega)
    refine ⟨_, rfl, _, _, rfl, rfl, _, rfl, ?_⟩
    by_cases c7 : r < 7
    · rw [decide_eq_true c7]
      refine iteT ?_
      refine ⟨(by show 4 ≤ sizeLine; decide), fun l3 hl3 => ?_⟩
      have s3 := same_new hl3 (.lst [.int 2, .int 2, .int 3, .int 6])
      have D3 := D1.same s3
      have hl4 : upd H1 l3 (.lst [.int 2, .int 2, .int 3, .int 6]) l3 = some (.lst (([2, 2, 3, 6] : List Int).map V.int)) := upd_same
      have nl3 := D1.wl.out hl3
      refine ⟨_, rfl, w, l, c + 6 * CB n, 4, rfl, D3.wl.le (by omega), by omega, by omega, fun r3 H4 r30 r31 hc4 k4 t4 => ?_⟩
      have D4 := D3.pick hc4 k4 t4
      obtain ⟨mm, hmm, hat⟩ := pick_int (L := [2, 2, 3, 6]) r30 r31
      have hmm2 : 2 ≤ mm ∧ mm ≤ 6 := by simp at hmm; omega
      have k04 : Kp [w, l, R] H H4 := k1.trans ((Kp.of_same s3).trans (kp9 k4))
      have t04 : Tk H H4 := t1.trans ((Tk.same s3).trans t4)
      refine ⟨l3, _, _, _, rfl, rfl, SqL.of (k4 _ _ nl3 hl4), hat, ?_⟩
      refine ⟨_, rfl, mm, rfl, by omega, by omega, fun Dd hDd => ?_⟩
      have nDw := D4.wl.out hDd
      have nDR : Dd ≠ R := fun z => by have := D4.room; rw [← z, hDd] at this; cases this
      have nD3 : Dd ∉ [w, l, R] := fun z => by
        rcases List.mem_cons.mp z with rfl | z
        · exact nDw (by simp)
        · rcases List.mem_cons.mp z with rfl | z
          · exact nDw (by simp)
          · exact nDR (List.mem_singleton.mp z)
      have hDH : H Dd = none := k04.none nD3 hDd
      refine lc_range (fun j H' => ∃ vs bs m', H' Dd = some (.lst vs) ∧ DpAll K H' vs (dss bs) ∧ okss L N sec bs ∧ nss bs + m' = m ∧ kss bs ≤ deep ∧ (bs.length = j ∧ wmbs 4 (deep - 1) bs) ∧ Drw9 K H' w l R h la na L N m' (c + CB n * (6 - j)) ∧ Kp [w, l, R] H H' ∧ Tk H H') ?_ ?_ ?_
      · refine ⟨[], [], m, upd_same, .nil, trivial, by simp [nss], by simp [kss], ⟨rfl, trivial⟩, (D4.same (same_new hDd _)).le (by omega), k04.trans (Kp.new _ hDd), t04.trans (Tk.new hDd _)⟩
      · rintro j H5 hj ⟨vs, bs, m', h51, h52, h53, h54, h55, ⟨h56, hwm⟩, D5, k5, t5⟩
        refine ⟨rfl, ?_⟩
        have hjm : j < mm.toNat := hj
        have ec : CB n * (6 - j) = CB n * (6 - (j + 1)) + CB n := by
          rw [show 6 - j = (6 - (j + 1)) + 1 by omega]
          exact Nat.mul_succ _ _
        refine ⟨_, rfl, _, rfl, _, _, rfl, rfl, _, rfl, _, rfl, _, rfl, w, l, h, la, na, R, deep - 1, sec, L, N, m', c + CB n * (6 - (j + 1)), (by rw [show (((deep - 1 : Nat)) : Int) = (deep : Int) - 1 by omega]; rfl), D5.le (by omega), by omega, by omega, hL1, hL2, hN1, hN2, fun H6 v b m6 hv hvo hvn hvk hvl hvw hc6 hr6 k6 t6 => ?_⟩
        have h61 := k6 _ _ nD3 h51
        have tD := Tk.put h61 (.lst (vs ++ [v]))
        have D6 := D5.keep hc6 hr6 t6
        have D7 : Drw9 K (upd H6 Dd (.lst (vs ++ [v]))) w l R h la na L N m6 (c + CB n * (6 - (j + 1))) := D6.keep (D6.wl.upd nDw) (by rw [upd_ne (Ne.symm nDR)]; exact D6.room) tD
        have hvl2 := dps_len h52
        rw [dss_len] at hvl2
        refine ⟨vs, h61, Nat.lt_of_le_of_lt (show vs.length ≤ 6 by omega) (by decide), vs ++ [v], bs ++ [b], m6, upd_same, ?_, ?_, ?_, ?_, ⟨by rw [List.length_append, h56]; rfl, wmbs_iff.mpr fun x hx => (List.mem_append.mp hx).elim (wmbs_iff.mp hwm x) fun z => by cases List.mem_singleton.mp z; exact ⟨hvl, hvw⟩⟩, D7, kp_new (k5.trans k6) hDH, t5.trans (t6.trans tD)⟩
        · rw [dss_snoc]
          exact dps_app (tD.dps _ (tup_dss bs) (t6.dps _ (tup_dss bs) h52)) (.cons (tD.dp (.tuple (ds b)) (tup_ds b) hv) .nil)
        · refine okss_iff.mpr fun x hx => (List.mem_append.mp hx).elim (okss_iff.mp h53 x) fun z => ?_
          cases List.mem_singleton.mp z
          exact hvo
        · rw [nss_app]; simp [nss]; omega
        · have e1 : ∀ (x y : List (List St)), kss (x ++ y) = max (kss x) (kss y) := fun x y => by
            induction x with
            | nil => simp [kss]
            | cons z l ih => rw [List.cons_append, kss, kss, ih]; omega
          rw [e1]
          simp [kss]
          omega
      · rintro H5 ⟨vs, bs, m', h51, h52, h53, h54, h55, ⟨h56, hwm⟩, D5, k5, t5⟩
        refine ⟨Dd, _, rfl, .inl ⟨SqL.of h51, fun z hz => ⟨(by show 2 ≤ sizeLine; decide), fun x hx => ?_⟩⟩⟩
        have nzw : z ≠ x := fun qq => by rw [← qq, upd_same] at hx; cases hx
        have sP := (same_new hz (.tup vs)).trans (same_new hx (.tup [.str "choose", .ref z]))
        refine q _ _ (.ch bs) m' (.tup (SqT.of upd_same) (.cons (.str _) (.cons (.tup (SqT.of (by rw [upd_ne nzw]; exact upd_same)) ((Tk.same sP).dps _ (tup_dss bs) h52)) .nil))) ⟨by omega, by omega, h53⟩ (by rw [St.n]; omega) (by rw [St.k]; omega) ⟨hd0, hwm⟩ ((D5.same sP).wl.le (by omega)) (D5.same sP).room (k5.trans (Kp.of_same sP)) (t5.trans (Tk.same sP))
    rw [decide_eq_false c7]
    refine iteF ?_
    refine ⟨_, rfl, rfl, _, rfl, ?_⟩
    rw [dec_int]
    by_cases c11 : r = 7
    · rw [decide_eq_true c11]
      refine iteT ?_
      refine ⟨_, rfl, _, rfl, _, _, rfl, rfl, _, rfl, _, rfl, _, rfl, w, l, h, la, na, R, deep - 1, sec, L, N, m, c, (by rw [show (((deep - 1 : Nat)) : Int) = (deep : Int) - 1 by omega]; rfl), D1.le (by omega), hm, by omega, hL1, hL2, hN1, hN2, fun H4 v b m4 hv hvo hvn hvk hvl hvw hc4 hr4 k4 t4 => ⟨(by show 2 ≤ sizeLine; decide), fun p hp => ?_⟩⟩
      have D4 := D1.keep hc4 hr4 t4
      have sp := same_new hp (.tup [.str "loop", v])
      exact q _ _ (.lp b) m4 (.tup (SqT.of upd_same) (.cons (.str _) (.cons ((Tk.same sp).dp (.tuple (ds b)) (tup_ds b) hv) .nil))) hvo (by rw [St.n]; omega) (by rw [St.k]; omega) ⟨hd0, hvl, hvw⟩ (D4.same sp).wl (D4.same sp).room (k1.trans (k4.trans (Kp.of_same sp))) (t1.trans (t4.trans (Tk.same sp)))
    rw [decide_eq_false c11]
    refine iteF ?_
    refine ⟨_, rfl, _, rfl, _, _, rfl, rfl, _, rfl, _, rfl, _, rfl, w, l, h, la, na, R, deep - 1, sec, L, N, m, c + CB n, (by rw [show (((deep - 1 : Nat)) : Int) = (deep : Int) - 1 by omega]; rfl), D1.le (by omega), hm, by omega, hL1, hL2, hN1, hN2, fun H4 v b m4 hv hvo hvn hvk hvl hvw hc4 hr4 k4 t4 => ?_⟩
    have D4 := D1.keep hc4 hr4 t4
    refine ⟨_, rfl, _, rfl, _, rfl, _, _, rfl, rfl, _, rfl, _, rfl, w, l, h, la, na, R, deep - 1, true, L, N, m4, c, (by rw [show (((deep - 1 : Nat)) : Int) = (deep : Int) - 1 by omega]; rfl), D4, by omega, by omega, hL1, hL2, hN1, hN2, fun H5 v5 b5 m5 hv5 hvo5 hvn5 hvk5 hvl5 hvw5 hc5 hr5 k5 t5 => ⟨(by show 3 ≤ sizeLine; decide), fun p hp => ?_⟩⟩
    have D5 := D4.keep hc5 hr5 t5
    have sp := same_new hp (.tup [.str "ensure", v, v5])
    exact q _ _ (.en b b5) m5 (.tup (SqT.of upd_same) (.cons (.str _) (.cons ((t5.trans (Tk.same sp)).dp (.tuple (ds b)) (tup_ds b) hv) (.cons ((Tk.same sp).dp (.tuple (ds b5)) (tup_ds b5) hv5) .nil)))) ⟨hvo, hvo5⟩ (by rw [St.n]; omega) (by rw [St.k]; omega) ⟨hd0, ⟨hvl, hvw⟩, hvl5, hvw5⟩ (D5.same sp).wl (D5.same sp).room (k1.trans (k4.trans (k5.trans (Kp.of_same sp)))) (t1.trans (t4.trans (t5.trans (Tk.same sp))))
end
end K06


set_option Elab.async false
set_option linter.all false
set_option maxRecDepth 100000
set_option maxHeartbeats 8000000
namespace K06
open PySem PySem.Spec PyProof.Rows L2
section
variable {P : Program} {w : World} {K : PySem.W.Frag} {mg : Str → Option Value} {base : Heap}
theorem drw9 {fb fs : Addr} {fdb fds : FuncData} (Fb : C8.Def K mg "_law_body" (topS 44) fb fdb) (bb : Binds K fdb ["well", "deep", "heads", "is_second", "room"] []) (Fs : C8.Def K mg "_law_statement" (topS 45) fs fds) (bs : Binds K fds ["well", "deep", "heads", "is_second", "room"] []) (B : Bl K mg) (c_draw : C8.Cal P w K mg base 1 "_law_draw" spDraw []) :
    ∀ n : Nat, C8.Cal P w K mg base (2 * n + 3) "_law_body" (spDB9 K n) []
  | 0 => by
    refine ok_db9 Fb bb B c_draw ?_ (by omega)
    refine C8.cal0 (k := 1) Fs bs .nil sc__law_statement ?len ?body
    case len => rintro vs H Q E ⟨_, _, _, _, _, _, _, _, _, _, _, _, _, _, _, h, _⟩; exact absurd h (Nat.not_lt_zero _)
    case body => rintro cdv A outer s H vs Q E hr ⟨_, _, _, _, _, _, _, _, _, _, _, _, _, _, _, h, _⟩; exact absurd h (Nat.not_lt_zero _)
  | n + 1 => by
    have := ok_db9 (n := n + 1) Fb bb B c_draw (ok_dst9 Fs bs B c_draw (drw9 Fb bb Fs bs B c_draw n) (by omega)) (by omega)
    rw [show 2 * (n + 1) + 3 = 2 * n + 3 + 1 + 1 by omega]
    exact this
/-- a plan, spoilt j times -/
structure Plan (L : List Str) (P : List (Str × List St)) (A B : List Str) (j : Nat) : Prop where
  l1 : 1 ≤ L.length
  l2 : L.length ≤ 20
  p1 : 1 ≤ P.length
  p2 : P.length ≤ 8
  okA : Nok A
  okB : Nok B
  inA : ∀ x ∈ L, x ∈ A
  inB : ∀ x ∈ P.map Prod.fst, x ∈ B
  ok : ∀ b ∈ nsP P, oks A B false b
  wm : ∀ b ∈ nsP P, b.length ≤ 4 + j ∧ wms (4 + j) (7 + 2 * j) b
  n : nss (nsP P) ≤ 190 + 4 * j
  lenA : A.length ≤ 20 + j
  lenB : B.length ≤ 8 + j
theorem kss_of {m : Nat} : ∀ {bl : List (List St)}, (∀ b ∈ bl, ks b ≤ m) → kss bl ≤ m
  | [], _ => by simp [kss]
  | z :: l, h => by
    have h1 := h z (by simp)
    have h2 := kss_of (bl := l) fun b hb => h b (by simp [hb])
    rw [kss]
    omega
theorem Plan.prog {L : List Str} {P : List (Str × List St)} {A B : List Str} {j : Nat} (h : Plan L P A B j) (hj : j ≤ 2) : Prog L P A B :=
  ⟨h.l1, h.l2, h.p1, h.p2, h.okA, h.okB, h.inA, h.inB, h.ok, wmbs_wd (m := 4 + j) (by omega) _ (wmbs_iff.mpr h.wm), Nat.le_trans (wmbs_k _ (wmbs_iff.mpr h.wm)) (by omega), by have := h.n; omega⟩
def CP : Nat := 1300 + 8 * (1 + CB 8)
def spPlan (K : PySem.W.Frag) : Sp := fun vs H Q _ => ∃ (w l : Addr) (c size : Nat), vs = [.ref w, .int (size : Int)] ∧ Wl H w l (c + CP) ∧ size ≤ 190 ∧ ∀ H' v L Ps, PD K H' v L Ps → Plan L Ps L (Ps.map Prod.fst) 0 → Wl H' w l c → Kp [w, l] H H' → Tk H H' → Q v H'
theorem sc__law_plan : FnScope ["well", "size", "letters", "names", "room", "heads", "procedures", "name"] ["well", "size"] (C8.fnScope (topS 46)) := C8.fnScope_by (by decide +kernel)
theorem ok__law_plan {f : Addr} {fd : FuncData} (F : C8.Def K mg "_law_plan" (topS 46) f fd) (b : Binds K fd ["well", "size"] []) (B : Bl K mg) (c_draw : C8.Cal P w K mg base 1 "_law_draw" spDraw []) (c_names : C8.Cal P w K mg base 3 "_law_names" spNames9 []) (c_body : C8.Cal P w K mg base 19 "_law_body" (spDB9 K 8) []) : C8.Cal P w K mg base 20 "_law_plan" (spPlan K) [] := by
  refine C8.cal0 F b .nil sc__law_plan ?len ?body
  case len => rintro vs H Q E ⟨w, l, c, size, rfl, _⟩; rfl
  case body =>
    rintro cdv A outer s H vs Q E hr ⟨w, l, c, size, rfl, hW, hsz, q⟩
    refine ⟨_, (pss_cons (ps_set (i := 2) sc__law_plan.nd rfl (Or.inl rfl) (C8.pe_c c_names hr (by decide) rfl (pa_cons (pv 0) (pa_cons (pe_op op_add pe_int (C8.pe_c c_draw hr (by decide) rfl (pa_cons (pv 0) (pa_cons (pe_ix ix_list (pe_lst (pa_cons pe_int (pa_cons pe_int (pa_cons pe_int pa_nil)))) (C8.pe_c c_draw hr (by decide) rfl (pa_cons (pv 0) (pa_cons pe_int pa_nil))) (fun _ _ => rfl)) pa_nil)))) pa_nil))))
    (pss_cons (ps_set (i := 3) sc__law_plan.nd rfl (Or.inl rfl) (C8.pe_c c_names hr (by decide) rfl (pa_cons (pv 0) (pa_cons (pe_op op_add pe_int (C8.pe_c c_draw hr (by decide) rfl (pa_cons (pv 0) (pa_cons (pe_ix ix_list (pe_lst (pa_cons pe_int (pa_cons pe_int (pa_cons pe_int pa_nil)))) (C8.pe_c c_draw hr (by decide) rfl (pa_cons (pv 0) (pa_cons pe_int pa_nil))) (fun _ _ => rfl)) pa_nil)))) pa_nil))))
    (pss_cons (ps_asg (pe_tup (pa_cons (pe_lst (pa_cons (pv 1) pa_nil)) (pa_cons (pe_tup (pa_cons (pv 2) (pa_cons (pv 3) pa_nil))) pa_nil))) (pg_tup rfl (pgs_cons (pg_name (i := 4) sc__law_plan.nd rfl (Or.inr rfl)) (pgs_cons (pg_name (i := 5) sc__law_plan.nd rfl (Or.inr rfl)) pgs_nil))))
    (pss_cons (ps_set (i := 6) sc__law_plan.nd rfl (Or.inl rfl) (pe_callTy call_tuple_of rfl B.tuple (by decide +kernel) (pa_cons (pe_lc (own := [("name", 7)]) (g := gName 7) (te := tTup (tCons (tVar 7) (tCons (tCall (spDB9 K 8) [] C8.E0 (tCons (tVar 0) (tCons (tOp (rIxL K) (tLst (tCons (tC (.int 2)) (tCons (tC (.int 4)) (tCons (tC (.int 7)) tNil)))) (tCall spDraw [] C8.E0 (tCons (tVar 0) (tCons (tC (.int 3)) tNil)))) (tCons (tVar 5) (tCons (tC (.bl false)) (tCons (tVar 4) tNil)))))) tNil))) (by rfl) sc__law_plan.nd (pi_tup (pv 3)) (blkOk_by (own := [("name", 7)]) (N := ["well", "size", "letters", "names", "room", "heads", "procedures", "name"]) (sc := (C8.fnScope (topS 46))) (by decide +kernel)) (fun _ _ _ _ _ => pg_name (i := 7) sc__law_plan.nd rfl (Or.inl rfl)) (fun _ _ _ _ _ => pts_nil) (fun _ _ _ _ _ => by exact (pe_tup (pa_cons (pv 7) (pa_cons (C8.pe_c c_body hr (by decide) rfl (pa_cons (pv 0) (pa_cons (pe_ix ix_list (pe_lst (pa_cons pe_int (pa_cons pe_int (pa_cons pe_int pa_nil)))) (C8.pe_c c_draw hr (by decide) rfl (pa_cons (pv 0) (pa_cons pe_int pa_nil))) (fun _ _ => rfl)) (pa_cons (pv 5) (pa_cons pe_bl (pa_cons (pv 4) pa_nil)))))) pa_nil))))) pa_nil)))
    (pss_one (ps_ret (pe_tup (pa_cons (pv 2) (pa_cons (pv 6) pa_nil))))))))), ?_⟩
    unfold CP at hW
    obtain ⟨X, hX⟩ : ∃ X, X = c + 8 * (1 + CB 8) := ⟨_, rfl⟩
    have hW1 : Wl H w l (X + 1300) := hW.le (by omega)
    have k1 : Kp [w, l] H H := Kp.refl H
    have t1 : Tk H H := Tk.refl H
    refine ⟨_, rfl, ?_⟩
    refine ⟨_, rfl, (by show 3 ≤ sizeLine; decide), fun p1 hp1 => ?_⟩
    have sp1 := same_new hp1 (.lst [.int 2, .int 5, .int 20])
    have np1 := hW1.out hp1
    have hq1 : upd H p1 (.lst [.int 2, .int 5, .int 20]) p1 = some (.lst (([2, 5, 20] : List Int).map V.int)) := upd_same
    have hWa1 := hW1.same sp1
    generalize upd H p1 (.lst [.int 2, .int 5, .int 20]) = Ha1 at sp1 hq1 hWa1
    refine ⟨_, rfl, w, l, X + 1299, 3, rfl, hWa1.le (by omega), by decide, by decide, fun r1 Hb1 rr01 rr11 hWb1 kb1 tb1 => ?_⟩
    obtain ⟨mm1, hmm1, hat1⟩ := pick_int (L := [2, 5, 20]) rr01 rr11
    have hmx1 : 1 ≤ mm1 ∧ mm1 ≤ 20 := by simp at hmm1; omega
    refine ⟨p1, _, r1, .int mm1, rfl, rfl, SqL.of (kb1 _ _ np1 hq1), hat1, w, l, X + 1298, mm1, rfl, hWb1, by omega, by omega, fun ra1 Hc1 ra01 ra11 hWc1 kc1 tc1 => ?_⟩
    refine ⟨_, _, rfl, rfl, w, l, X + 698, (1 + ra1).toNat, by rw [show (((1 + ra1).toNat : Nat) : Int) = 1 + ra1 by omega]; rfl, hWc1.le (by omega), by omega, fun H2 la L hL Ll Ln Ld hW2 kd1 td1 => ?_⟩
    have k2 : Kp [w, l] H H2 := k1.trans ((Kp.of_same sp1).trans (kb1.trans (kc1.trans kd1)))
    have t2 : Tk H H2 := t1.trans ((Tk.same sp1).trans (tb1.trans (tc1.trans td1)))
    refine ⟨_, rfl, ?_⟩
    refine ⟨_, rfl, (by show 3 ≤ sizeLine; decide), fun p2 hp2 => ?_⟩
    have sp2 := same_new hp2 (.lst [.int 2, .int 3, .int 8])
    have np2 := hW2.out hp2
    have hq2 : upd H2 p2 (.lst [.int 2, .int 3, .int 8]) p2 = some (.lst (([2, 3, 8] : List Int).map V.int)) := upd_same
    have hWa2 := hW2.same sp2
    generalize upd H2 p2 (.lst [.int 2, .int 3, .int 8]) = Ha2 at sp2 hq2 hWa2
    refine ⟨_, rfl, w, l, X + 697, 3, rfl, hWa2.le (by omega), by decide, by decide, fun r2 Hb2 rr02 rr12 hWb2 kb2 tb2 => ?_⟩
    obtain ⟨mm2, hmm2, hat2⟩ := pick_int (L := [2, 3, 8]) rr02 rr12
    have hmx2 : 1 ≤ mm2 ∧ mm2 ≤ 8 := by simp at hmm2; omega
    refine ⟨p2, _, r2, .int mm2, rfl, rfl, SqL.of (kb2 _ _ np2 hq2), hat2, w, l, X + 696, mm2, rfl, hWb2, by omega, by omega, fun ra2 Hc2 ra02 ra12 hWc2 kc2 tc2 => ?_⟩
    refine ⟨_, _, rfl, rfl, w, l, X + 96, (1 + ra2).toNat, by rw [show (((1 + ra2).toNat : Nat) : Int) = 1 + ra2 by omega]; rfl, hWc2.le (by omega), by omega, fun H3 na N hN Nl Nn Nd hW3 kd2 td2 => ?_⟩
    have k3 : Kp [w, l] H H3 := k2.trans ((Kp.of_same sp2).trans (kb2.trans (kc2.trans kd2)))
    have t3 : Tk H H3 := t2.trans ((Tk.same sp2).trans (tb2.trans (tc2.trans td2)))
    have hla3 := hL.tk ((Tk.same sp2).trans (tb2.trans (tc2.trans td2)))
    refine ⟨_, rfl, (by show 1 ≤ sizeLine; decide), fun R hR => ?_⟩
    have sR := same_new hR (.lst [.int (size : Int)])
    refine ⟨_, rfl, _, rfl, (by show 2 ≤ sizeLine; decide), fun hd hhd => ⟨(by show 2 ≤ sizeLine; decide), fun tp htp => ?_⟩⟩
    have sH := same_new hhd (.tup [.ref la, .ref na])
    have sT := same_new htp (.tup [.ref R, .ref hd])
    have sA := sR.trans (sH.trans sT)
    have nR := hW3.out hR
    have hRH : H R = none := k3.none nR hR
    refine ⟨tp, _, rfl, SqT.of upd_same, rfl, _, _, rfl, _, _, rfl, rfl, ?_⟩
    have D6 : Drw9 K (upd (upd (upd H3 R (.lst [.int (size : Int)])) hd (.tup [.ref la, .ref na])) tp (.tup [.ref R, .ref hd])) w l R hd la na L N size (c + (1 + CB 8) * (8 - 0)) :=
      ⟨(hW3.same sA).le (by omega), (sH.trans sT) _ _ upd_same, (Tk.same sT).sqt (SqT.of upd_same), hla3.tk (Tk.same sA), hN.tk (Tk.same sA), nR⟩
    have k6 := k3.trans (Kp.of_same sA)
    have t6 := t3.trans (Tk.same sA)
    generalize upd (upd (upd H3 R (.lst [.int (size : Int)])) hd (.tup [.ref la, .ref na])) tp (.tup [.ref R, .ref hd]) = H6 at D6 k6 t6
    have hN8 : N.length ≤ 8 := by rw [Nl]; omega
    have hN1 : 1 ≤ N.length := by rw [Nl]; omega
    have hL20 : L.length ≤ 20 := by rw [Ll]; omega
    have hL1 : 1 ≤ L.length := by rw [Ll]; omega
    refine ⟨_, rfl, na, rfl, ⟨_, tupo_sq D6.hn⟩, fun Dd hDd => ?_⟩
    have nD := D6.wl.out hDd
    have nDR : Dd ≠ R := fun z => by have := D6.room; rw [← z, hDd] at this; cases this
    have hDH : H Dd = none := k6.none nD hDd
    have nD3 : Dd ∉ [w, l, R] := fun z => by
      rcases List.mem_cons.mp z with rfl | z
      · exact nD (by simp)
      · rcases List.mem_cons.mp z with rfl | z
        · exact nD (by simp)
        · exact nDR (List.mem_singleton.mp z)
    have sD := same_new hDd (.lst [])
    refine lc_tup (xs := N.map V.str) (fun i H' => ∃ vs Ps m', Ps.map Prod.fst = N.take i ∧ H' Dd = some (.lst vs) ∧ DpAll K H' vs (Ps.map procD) ∧ (∀ x ∈ nsP Ps, (oks L N false x ∧ x.length ≤ 4 ∧ wms 4 7 x) ∧ ks x ≤ 8) ∧ nss (nsP Ps) + m' = size ∧ Drw9 K H' w l R hd la na L N m' (c + (1 + CB 8) * (8 - i)) ∧ Kp [w, l] H H' ∧ Tk H H') ⟨[], [], size, by simp, upd_same, .nil, fun x hx => (List.not_mem_nil hx).elim, by simp [nsP, nss], D6.same sD, k6.trans (Kp.of_same sD), t6.trans (Tk.same sD)⟩ ?_ ?_ ?_
    · rintro i H' _ ⟨_, _, _, _, _, _, _, _, D, _, _⟩
      exact tupo_sq D.hn
    · rintro i x H8 hx ⟨vs, Ps, m', hfst, hv1, hv2, hoks, hns, D8, k8, t8⟩
      obtain ⟨nm, hnm, rfl⟩ : ∃ y, N[i]? = some y ∧ x = .str y := by
        rw [List.getElem?_map] at hx
        cases e : N[i]? with
        | none => rw [e] at hx; cases hx
        | some s => rw [e] at hx; exact ⟨s, rfl, (Option.some.inj hx).symm⟩
      have hil := (List.getElem?_eq_some_iff.mp hnm).1
      have ec : (1 + CB 8) * (8 - i) = (1 + CB 8) * (8 - (i + 1)) + (1 + CB 8) := by
        rw [show 8 - i = (8 - (i + 1)) + 1 by omega]
        exact Nat.mul_succ _ _
      refine ⟨rfl, ?_⟩
      refine ⟨_, rfl, _, rfl, (by show 3 ≤ sizeLine; decide), fun p hp => ?_⟩
      have sp := same_new hp (.lst [.int 2, .int 4, .int 7])
      have np := D8.wl.out hp
      have hq : upd H8 p (.lst [.int 2, .int 4, .int 7]) p = some (.lst (([2, 4, 7] : List Int).map V.int)) := upd_same
      have Dp8 := D8.same sp
      have kp8 := k8.trans (Kp.of_same sp)
      have tp8 := t8.trans (Tk.same sp)
      have hv1p := sp _ _ hv1
      have hv2p := (Tk.same sp).dps _ (tup_procs Ps) hv2
      generalize upd H8 p (.lst [.int 2, .int 4, .int 7]) = H9 at hq Dp8 kp8 tp8 hv1p hv2p
      refine ⟨_, rfl, w, l, c + (1 + CB 8) * (8 - (i + 1)) + CB 8, 3, rfl, Dp8.wl.le (by omega), by decide, by decide, fun r Ha r0 r1 hWa ka ta => ?_⟩
      obtain ⟨dp, hdp, hat⟩ := pick_int (L := [2, 4, 7]) r0 r1
      have hdp2 : 2 ≤ dp ∧ dp ≤ 7 := by simp at hdp; omega
      have Da := Dp8.pick hWa ka ta
      refine ⟨p, _, r, .int dp, rfl, rfl, SqL.of (ka _ _ np hq), hat, ?_⟩
      refine ⟨_, rfl, _, rfl, w, l, hd, la, na, R, dp.toNat, false, L, N, m', c + (1 + CB 8) * (8 - (i + 1)), by rw [show ((dp.toNat : Nat) : Int) = dp by omega]; rfl, Da, by omega, by omega, hL1, hL20, hN1, by omega, fun Hb v b m9 hv hvo hvn hvk hvl9 hvw hcb hrb kb tb => ?_⟩
      refine ⟨(by show 2 ≤ sizeLine; decide), fun z hz => ?_⟩
      have sz := same_new hz (.tup [.str nm, v])
      have Db := (Da.keep hcb hrb tb).same sz
      have hvb := sz _ _ (kb _ _ nD3 (ka _ _ nD hv1p))
      have tAll := ta.trans (tb.trans (Tk.same sz))
      have hfl : Ps.length = i := by
        have := congrArg List.length hfst
        rw [List.length_map, List.length_take] at this
        omega
      have hvl := dps_len hv2
      rw [List.length_map] at hvl
      have tD := Tk.put hvb (.lst (vs ++ [.ref z]))
      have kR : Kp [w, l] Ha Hb ∨ True := .inr trivial
      have kab : Kp [w, l] H Hb := fun qq o n e => by
        have e2 := (kp8.trans ka) _ _ n e
        refine kb _ _ (fun h => ?_) e2
        rcases List.mem_cons.mp h with rfl | h
        · exact n (by simp)
        · rcases List.mem_cons.mp h with rfl | h
          · exact n (by simp)
          · rw [List.mem_singleton.mp h, hRH] at e; cases e
      refine ⟨vs, hvb, Nat.lt_of_le_of_lt (show vs.length ≤ 8 by omega) (by decide), vs ++ [.ref z], Ps ++ [(nm, b)], m9, ?_, upd_same, ?_, ?_, ?_, ?_, kp_new (kab.trans (Kp.of_same sz)) hDH, (tp8.trans tAll).trans tD⟩
      · rw [List.map_append, hfst, List.take_succ, hnm]
        rfl
      · rw [List.map_append]
        refine dps_app ((tAll.trans tD).dps _ (tup_procs Ps) hv2p) (.cons ?_ .nil)
        exact .tup (tD.sqt (SqT.of upd_same)) (.cons (.str _) (.cons (((Tk.same sz).trans tD).dp (.tuple (ds b)) (tup_ds b) hv) .nil))
      · intro x hx
        unfold nsP at hx
        rw [List.map_append] at hx
        rcases List.mem_append.mp hx with h | h
        · exact hoks x h
        · cases List.mem_singleton.mp h
          exact ⟨⟨hvo, hvl9, wms_le (Nat.le_refl _) _ (by omega) hvw⟩, (show ks b ≤ 8 by omega)⟩
      · unfold nsP at hns ⊢
        rw [List.map_append, nss_app]
        simp [nss]
        omega
      · exact Db.keep (Db.wl.upd nD) (by rw [upd_ne (Ne.symm nDR)]; exact Db.room) tD
    · rintro H8 ⟨vs, Ps, m', hfst, hv1, hv2, hoks, hns, D8, k8, t8⟩
      rw [List.length_map, List.take_length] at hfst
      refine ⟨Dd, _, rfl, .inl ⟨SqL.of hv1, fun pt hpt => ?_⟩⟩
      have s9 := same_new hpt (.tup vs)
      refine ⟨_, rfl, _, rfl, (by show 2 ≤ sizeLine; decide), fun ra hra => ?_⟩
      have sa := same_new hra (.tup [.ref la, .ref pt])
      have sAll := s9.trans sa
      have hlen : Ps.length = N.length := by rw [← hfst, List.length_map]
      have PG : Plan L Ps L (Ps.map Prod.fst) 0 := ⟨by omega, by omega, by omega, by omega, Ln, by rw [hfst]; exact Nn, fun _ h => h, fun _ h => h, fun b hb => by rw [hfst]; exact (hoks b hb).1.1, fun b hb => (hoks b hb).1.2, by omega, by omega, by rw [List.length_map]; omega⟩
      refine q _ _ L Ps (PD.make (SqT.of upd_same) (tupo_sq (D8.hl.tk (Tk.same sAll))) (.tup (SqT.of (sa _ _ upd_same)) ((Tk.same sAll).dps _ (tup_procs Ps) hv2))) PG ((D8.wl.le (by omega)).same sAll) (k8.trans (Kp.of_same sAll)) (t8.trans (Tk.same sAll))
end
end K06


set_option Elab.async false
set_option linter.all false
set_option maxRecDepth 100000
set_option maxHeartbeats 8000000
namespace K06
open PySem PySem.Spec PyProof.Rows L2
theorem sql_kp {K : PySem.W.Frag} {H H' : Hp} {a : Addr} {as : List Addr} {xs : List V} (h : SqL K H a xs) (k : Kp as H H') (n : a ∉ as) : SqL K H' a xs := by
  rcases h with (h | ⟨o, h⟩) | h
  · exact .inl (.inl (k _ _ n h))
  · exact .inl (.inr ⟨o, k _ _ n h⟩)
  · exact .inr h
/-! ### names for names -/
theorem Tk.putD {H : Hp} {a : Addr} {kvs : List (Key × V)} (h : H a = some (.dK kvs)) (o : HO) : Tk H (upd H a o) := fun p ys => by
  constructor
  · intro e
    rw [upd_ne (fun z => by rw [z, h] at e; cases e)]
    exact e
  · intro u e
    rw [upd_ne (fun z => by rw [z, h] at e; cases e)]
    exact e
theorem atI_lastB {α : Type} {xs : List α} {v : α} : atI (xs ++ [v]) (-1) = some v := by
  unfold atI ixN
  rw [List.length_append, if_neg (by decide), if_pos (by simp; omega)]
  show (xs ++ [v])[(-1 + ((xs.length + [v].length : Nat) : Int)).toNat]? = some v
  rw [show (-1 + ((xs.length + [v].length : Nat) : Int)).toNat = xs.length by simp; omega]
  simp
theorem look_mem {M : List (Str × Str)} {x y : Str} (h : M.lookup x = some y) : x ∈ M.map Prod.fst := by
  induction M with
  | nil => cases h
  | cons p r ih =>
    rw [List.lookup_cons] at h
    rw [List.map_cons]
    by_cases e : x = p.1
    · rw [e]; exact List.mem_cons_self
    · rw [beq_eq_false_iff_ne.mpr e] at h
      exact List.mem_cons_of_mem _ (ih h)
theorem look_none {M : List (Str × Str)} {x : Str} (h : M.lookup x = none) : x ∉ M.map Prod.fst := by
  intro z
  obtain ⟨p, hp, rfl⟩ := List.mem_map.mp z
  rw [List.lookup_eq_none_iff] at h
  have := h p hp
  simp at this
def DM (M : List (Str × Str)) : List (Key × V) := M.map fun p => ((Sum.inr p.1 : Key), V.str p.2)
theorem dm_val (M : List (Str × Str)) (x : Str) : valV (DM M) (Sum.inr x : Key) = (M.lookup x).map V.str := by
  unfold valV DM
  induction M with
  | nil => rfl
  | cons p r ih =>
    rw [List.map_cons, List.find?_cons, List.lookup_cons]
    by_cases h : x = p.1
    · subst h
      simp
    · have e1 : decide ((Sum.inr p.1 : Key) = Sum.inr x) = false := decide_eq_false (fun z => h (Sum.inr.inj z).symm)
      have e2 : (x == p.1) = false := beq_eq_false_iff_ne.mpr h
      rw [e1, e2]
      exact ih
theorem dm_put {M : List (Str × Str)} {x y : Str} (h : M.lookup x = none) : putK (DM M) (Sum.inr x : Key) (.str y) = DM (M ++ [(x, y)]) := by
  have e : ((DM M).any fun kv => decide (kv.1 = (Sum.inr x : Key))) = false := by
    rw [List.any_eq_false]
    intro kv hkv
    unfold DM at hkv
    obtain ⟨p, hp, rfl⟩ := List.mem_map.mp hkv
    rw [decide_eq_true_eq]
    intro z
    have hz := Sum.inr.inj z
    rw [List.lookup_eq_none_iff] at h
    have := h p hp
    simp [hz] at this
  unfold putK
  rw [e]
  show DM M ++ [_] = _
  unfold DM
  rw [List.map_append]
  rfl
section
variable {P : Program} {w : World} {K : PySem.W.Frag} {mg : Str → Option Value} {base : Heap}
def spPairing (K : PySem.W.Frag) : Sp := fun vs H Q _ => ∃ (w l x : Addr) (c : Nat) (X S : List Str), vs = [.ref w, .ref x] ∧ Wl H w l (c + 1200) ∧ SqL K H x (X.map V.str) ∧ x ∉ [w, l] ∧ S.length ≤ 40 ∧ (∀ y ∈ X, y ∈ S) ∧ ∀ H' d M, H' d = some (.dK (DM M)) → H d = none → (∀ y ∈ X, y ∈ M.map Prod.fst) → (M.map Prod.fst).Nodup → (M.map Prod.snd).Nodup → Nok (M.map Prod.snd) → (∀ y ∈ M.map Prod.fst, y ∈ X) → Wl H' w l c → Kp [w, l] H H' → Tk H H' → Q (.ref d) H'
theorem sc__law_pairing : FnScope ["well", "names", "found", "taken", "old"] ["well", "names"] (C8.fnScope (topS 50)) := C8.fnScope_by (by decide +kernel)
theorem ok__law_pairing {f : Addr} {fd : FuncData} (F : C8.Def K mg "_law_pairing" (topS 50) f fd) (b : Binds K fd ["well", "names"] []) (B : Bl K mg) (c_name : C8.Cal P w K mg base 2 "_law_name" spName9 []) : C8.Cal P w K mg base 3 "_law_pairing" (spPairing K) [] := by
  refine C8.cal0 F b .nil sc__law_pairing ?len ?body
  case len => rintro vs H Q E ⟨w, l, x, c, X, S, rfl, _⟩; rfl
  case body =>
    rintro cdv A outer s H vs Q E hr ⟨w, l, x, c, X, S, rfl, hW, hx, nx, hS, hXS, q⟩
    refine ⟨_, (pss_cons (ps_par (i := 2) (j := 3) rfl sc__law_pairing.nd rfl rfl (by decide) rfl rfl (pa_cons pe_dnewK (pa_cons (pe_lst pa_nil) pa_nil)) (by with_unfolding_all rfl))
    (pss_cons (ps_for PassesOwn.never rfl (pi_list (pv 1)) (pg_name (i := 4) sc__law_pairing.nd rfl (Or.inl rfl))
    (pss_one (ps_if (pt_cmp (pc_dnotin (hu_of hr) (pv 4) (pv 2))) (pss_cons (ps_expr (pe_bm PySem.F.plainAttrs_list PySem.F.slot_list_append PySem.F.type_list_append mt_append (pv 3) (pa_cons (C8.pe_c c_name hr (by decide) rfl (pa_cons (pv 0) (pa_cons (pv 3) pa_nil))) pa_nil)))
    (pss_one (ps_dput (hu_of hr) (pv 2) (pv 4) (pe_ix ix_list (pv 3) (pe_un un_neg pe_int) (fun _ _ => rfl)) rfl))) pss_nil)))
    (pss_one (ps_ret (pv 2))))), ?_⟩
    intro d hd
    refine ⟨(by show 0 ≤ sizeLine; decide), fun t ht => ⟨_, _, rfl, ?_⟩⟩
    have sd := same_new hd (.dK [])
    have st := same_new ht (.lst [])
    have s2 := sd.trans st
    have nd := hW.out hd
    have nt := (hW.same sd).out ht
    have ndt : d ≠ t := fun z => by rw [← z, upd_same] at ht; cases ht
    have htH : H t = none := by
      cases e : H t with
      | none => rfl
      | some o => rw [sd _ _ e] at ht; cases ht
    have hd2 := st _ _ (upd_same (H := H) (a := d) (o := .dK []))
    have hx2 : ∀ (H' : Hp), Kp [w, l] H H' → SqL K H' x (X.map V.str) := fun H' k => sql_kp hx k nx
    refine ⟨_, rfl, x, rfl, ⟨_, hx2 _ (Kp.of_same s2)⟩, ?_⟩
    refine for_list (xs := X.map V.str) (fun i σ H' => ∃ (M : List (Str × Str)) (b4 : Option V), σ = [some (.ref w), some (.ref x), some (.ref d), some (.ref t), b4] ∧ H' d = some (.dK (DM M)) ∧ H' t = some (.lst ((M.map Prod.snd).map V.str)) ∧ (∀ y ∈ X.take i, y ∈ M.map Prod.fst) ∧ (M.map Prod.fst).Nodup ∧ (M.map Prod.snd).Nodup ∧ Nok (M.map Prod.snd) ∧ (∀ y ∈ M.map Prod.fst, y ∈ X) ∧ Wl H' w l (c + 30 * (40 - M.length)) ∧ Kp [w, l] H H' ∧ Tk H H')
      ⟨[], none, rfl, hd2, upd_same, by simp, List.nodup_nil, List.nodup_nil, fun y hy => (List.not_mem_nil hy).elim, by simp, (hW.same s2).le (by simp), Kp.of_same s2, Tk.same s2⟩ ?_ ?_ ?_
    · rintro i σ H' _ ⟨_, _, _, _, _, _, _, _, _, _, _, k, _⟩
      exact hx2 _ k
    · rintro i y _ H5 hy ⟨M, b4, rfl, hd5, ht5, hXM, hM1, hM2, hM3, hMX, hW5, k5, t5⟩
      obtain ⟨nm, hnm, rfl⟩ : ∃ z, X[i]? = some z ∧ y = .str z := by
        rw [List.getElem?_map] at hy
        cases e : X[i]? with
        | none => rw [e] at hy; cases hy
        | some s => rw [e] at hy; exact ⟨s, rfl, (Option.some.inj hy).symm⟩
      have hil := (List.getElem?_eq_some_iff.mp hnm).1
      have htake : X.take (i + 1) = X.take i ++ [nm] := by rw [List.take_succ, hnm]; rfl
      have hnmX : nm ∈ X := List.mem_of_getElem? hnm
      refine ⟨_, rfl, _, rfl, d, _, rfl, DGet.k (k := Sum.inr nm) hd5, _, rfl, ?_⟩
      rw [dm_val]
      cases e : M.lookup nm with
      | some y =>
        refine iteF ⟨M, _, rfl, hd5, ht5, fun z hz => ?_, hM1, hM2, hM3, hMX, hW5, k5, t5⟩
        rw [htake] at hz
        rcases List.mem_append.mp hz with h | h
        · exact hXM z h
        · cases List.mem_singleton.mp h
          exact look_mem e
      | none =>
        have nK : nm ∉ M.map Prod.fst := look_none e
        have hlt : M.length + 1 ≤ 40 := by
          have := len_sub (l := nm :: M.map Prod.fst) (m := S) (List.nodup_cons.mpr ⟨nK, hM1⟩) (fun z hz => by
            rcases List.mem_cons.mp hz with rfl | h
            · exact hXS _ hnmX
            · exact hXS z (hMX z h))
          rw [List.length_cons, List.length_map] at this
          omega
        obtain ⟨b, hb1, hb2⟩ : ∃ b, c + 30 * (40 - M.length) = b + 30 ∧ b = c + 30 * (40 - (M.length + 1)) := ⟨_, by omega, rfl⟩
        rw [hb1] at hW5
        refine iteT ⟨_, rfl, .inl ⟨rfl, _, SqL.of ht5⟩, _, rfl, _, rfl, w, l, t, b, M.map Prod.snd, rfl, hW5, ht5, nt, by rw [List.length_map]; omega, hM3, fun r H6 hr6 hrM hW6 k6 t6 => ?_⟩
        have ht6 := k6 _ _ nt ht5
        have hd6 := k6 _ _ nd hd5
        refine ⟨t, _, _, rfl, rfl, ht6, Nat.lt_of_le_of_lt (show _ ≤ 40 by rw [List.length_map, List.length_map]; omega) (by decide), ?_⟩
        have hd7 : upd H6 t (.lst ((M.map Prod.snd).map V.str ++ [.str r])) d = some (.dK (DM M)) := by rw [upd_ne ndt]; exact hd6
        refine ⟨_, rfl, 1, rfl, t, _, _, _, rfl, rfl, SqL.of upd_same, atI_lastB, ?_⟩
        refine ⟨_, rfl, _, rfl, d, _, rfl, DPut.k (k := Sum.inr nm) hd7 (Nat.lt_of_le_of_lt (show _ ≤ 40 by unfold DM; rw [List.length_map]; omega) (by decide)), ?_⟩
        rw [dm_put e]
        refine ⟨M ++ [(nm, r)], _, rfl, upd_same, ?_, fun z hz => ?_, ?_, ?_, ?_, fun z hz => ?_, ?_, kp_new (kp_new (k5.trans k6) htH) hd, ((t5.trans t6).trans (Tk.put ht6 _)).trans (Tk.putD hd7 _)⟩
        · rw [upd_ne (Ne.symm ndt), upd_same, List.map_append, List.map_append]
          rfl
        · rw [htake] at hz
          rw [List.map_append]
          rcases List.mem_append.mp hz with h | h
          · exact List.mem_append_left _ (hXM z h)
          · cases List.mem_singleton.mp h
            exact List.mem_append_right _ (by simp)
        · rw [List.map_append, List.nodup_append]
          refine ⟨hM1, by simp, fun z hz y hy => ?_⟩
          have : y = nm := by simpa using hy
          rw [this]
          rintro rfl
          exact nK hz
        · rw [List.map_append, List.nodup_append]
          refine ⟨hM2, by simp, fun z hz y hy => ?_⟩
          have : y = r := by simpa using hy
          rw [this]
          rintro rfl
          exact hrM hz
        · intro z hz
          rw [List.map_append] at hz
          rcases List.mem_append.mp hz with h | h
          · exact hM3 z h
          · have : z = r := by simpa using h
            rw [this]; exact hr6
        · rw [List.map_append] at hz
          rcases List.mem_append.mp hz with h | h
          · exact hMX z h
          · have : z = nm := by simpa using h
            rw [this]; exact hnmX
        · rw [List.length_append]
          rw [hb2] at hW6
          exact ((hW6.upd nt).upd nd)
    · rintro σ H5 ⟨M, b4, rfl, hd5, ht5, hXM, hM1, hM2, hM3, hMX, hW5, k5, t5⟩
      rw [List.length_map, List.take_length] at hXM
      exact ⟨_, rfl, q H5 d M hd5 hd hXM hM1 hM2 hM3 hMX (hW5.le (by omega)) k5 t5⟩
end
end K06


set_option Elab.async false
set_option linter.all false
set_option maxRecDepth 100000
set_option maxHeartbeats 8000000
namespace K06
open PySem PySem.Spec PyProof.Rows L2
-- more names: still right
mutual
theorem ok_mono {A B A' B' : List Str} (ha : ∀ x ∈ A, x ∈ A') (hb : ∀ x ∈ B, x ∈ B') (s2 : Bool) : ∀ (s : St) (sec : Bool), s.ok A B sec → s.ok A' B' s2
  | .dd _, _, h | .ud _, _, h => ha _ h
  | .cl _, _, h => hb _ h
  | .rt, _, _ => trivial
  | .ch bs, sec, h => ⟨h.1, h.2.1, okss_mono ha hb s2 bs sec h.2.2⟩
  | .lp b, sec, h => oks_mono ha hb s2 b sec h
  | .en b c, sec, h => ⟨oks_mono ha hb s2 b sec h.1, oks_mono ha hb true c true h.2⟩
theorem oks_mono {A B A' B' : List Str} (ha : ∀ x ∈ A, x ∈ A') (hb : ∀ x ∈ B, x ∈ B') (s2 : Bool) : ∀ (b : List St) (sec : Bool), oks A B sec b → oks A' B' s2 b
  | [], _, _ => trivial
  | s :: r, sec, h => ⟨ok_mono ha hb s2 s sec h.1, oks_mono ha hb s2 r sec h.2⟩
theorem okss_mono {A B A' B' : List Str} (ha : ∀ x ∈ A, x ∈ A') (hb : ∀ x ∈ B, x ∈ B') (s2 : Bool) : ∀ (b : List (List St)) (sec : Bool), okss A B sec b → okss A' B' s2 b
  | [], _, _ => trivial
  | s :: r, sec, h => ⟨oks_mono ha hb s2 s sec h.1, okss_mono ha hb s2 r sec h.2⟩
end
/-- a statement's own name -/
def own (A B : List Str) : St → Prop
  | .dd x => x ∈ A
  | .ud x => x ∈ A
  | .cl x => x ∈ B
  | _ => True
theorem own_mono {A B A' B' : List Str} (ha : ∀ x ∈ A, x ∈ A') (hb : ∀ x ∈ B, x ∈ B') : ∀ (s : St), own A B s → own A' B' s
  | .dd _, h | .ud _, h => ha _ h
  | .cl _, h => hb _ h
  | .rt, _ | .ch _, _ | .lp _, _ | .en _ _, _ => trivial
/-- all names that were met are there: of i statements, and of the next one and j of its bodies -/
def Dn (b : List St) (i : Nat) (A B : List Str) : Prop := oks A B false (b.take i)
def De (b : List St) (i : Nat) (s : St) (j : Nat) (A B : List Str) : Prop := Dn b i A B ∧ own A B s ∧ ∀ c ∈ s.bs.take j, oks A B false c
theorem Dn.mono {b : List St} {i : Nat} {A B A' B' : List Str} (h : Dn b i A B) (ha : ∀ x ∈ A, x ∈ A') (hb : ∀ x ∈ B, x ∈ B') : Dn b i A' B' := oks_mono ha hb false _ _ h
theorem De.mono {b : List St} {i : Nat} {s : St} {j : Nat} {A B A' B' : List Str} (h : De b i s j A B) (ha : ∀ x ∈ A, x ∈ A') (hb : ∀ x ∈ B, x ∈ B') : De b i s j A' B' := ⟨h.1.mono ha hb, own_mono ha hb s h.2.1, fun c hc => oks_mono ha hb false _ _ (h.2.2 c hc)⟩
theorem De.fin {L N : List Str} {sec : Bool} {b : List St} {i : Nat} {s : St} {A B : List Str} (h : De b i s s.bs.length A B) (e : b[i]? = some s) (ho : s.ok L N sec) : Dn b (i + 1) A B := by
  obtain ⟨h1, h2, h3⟩ := h
  rw [List.take_length] at h3
  have hs : s.ok A B false := by
    cases s with
    | dd x => exact h2
    | ud x => exact h2
    | cl x => exact h2
    | rt => trivial
    | ch bs => exact ⟨ho.1, ho.2.1, okss_iff.mpr fun c hc => h3 c hc⟩
    | lp c => exact h3 c (by simp [St.bs])
    | en c d => exact ⟨h3 c (by simp [St.bs]), oks_mono (fun _ h => h) (fun _ h => h) true _ _ (h3 d (by simp [St.bs]))⟩
  unfold Dn
  rw [List.take_succ, e]
  refine oks_iff.mpr fun x hx => ?_
  rcases List.mem_append.mp hx with z | z
  · exact oks_iff.mp h1 x z
  · cases List.mem_singleton.mp (show x ∈ [s] from z)
    exact hs
def NO (K : PySem.W.Frag) (L N : List Str) (D : List Str → List Str → Prop) (k : Nat) (H : Hp) (v : V) : Prop := ∃ (p la lb : Addr) (A B : List Str), v = .ref p ∧ SqT K H p [.ref la, .ref lb] ∧ H la = some (.lst (A.map V.str)) ∧ H lb = some (.lst (B.map V.str)) ∧ (∀ y ∈ A, y ∈ L) ∧ (∀ y ∈ B, y ∈ N) ∧ A.length ≤ k ∧ B.length ≤ k ∧ D A B
theorem NO.same {K : PySem.W.Frag} {L N : List Str} {D : List Str → List Str → Prop} {k : Nat} {H H' : Hp} {v : V} (h : NO K L N D k H v) (s : Same H H') : NO K L N D k H' v := by
  obtain ⟨p, la, lb, A, B, e, h1, h2, h3, h4⟩ := h
  exact ⟨p, la, lb, A, B, e, (Tk.same s).sqt h1, s _ _ h2, s _ _ h3, h4⟩
theorem NO.le {K : PySem.W.Frag} {L N : List Str} {D D' : List Str → List Str → Prop} {k j : Nat} {H : Hp} {v : V} (h : NO K L N D k H v) (e : k ≤ j) (d : ∀ A B, D A B → D' A B) : NO K L N D' j H v := by
  obtain ⟨p, la, lb, A, B, e', h1, h2, h3, h4, h5, h6, h7, h8⟩ := h
  exact ⟨p, la, lb, A, B, e', h1, h2, h3, h4, h5, by omega, by omega, d _ _ h8⟩
theorem De.snoc {b : List St} {i : Nat} {s : St} {j : Nat} {A B : List Str} {c : List St} (e : s.bs[j]? = some c) (h : De b i s j A B) (hc : oks A B false c) : De b i s (j + 1) A B := ⟨h.1, h.2.1, fun x hx => by
  rw [List.take_succ, e] at hx
  rcases List.mem_append.mp hx with z | z
  · exact h.2.2 x z
  · cases List.mem_singleton.mp (show x ∈ [c] from z)
    exact hc⟩
theorem n_of_bs (s : St) : s.n = 1 + nss s.bs := by
  cases s <;> simp [St.n, St.bs, nss]
theorem k_of_bs (s : St) : ∀ b ∈ s.bs, ks b < s.k := by
  intro b hb
  cases s with
  | ch bs => have := kss_mem (b := bs) hb; rw [St.k]; omega
  | lp c => have : b = c := by simpa [St.bs] using hb
            rw [this, St.k]; omega
  | en c e =>
    have : b = c ∨ b = e := by simpa [St.bs] using hb
    rw [St.k]
    rcases this with rfl | rfl <;> omega
  | _ => simp [St.bs] at hb
theorem nss_take {b : List (List St)} {i : Nat} {c : List St} (h : b[i]? = some c) : nss (b.take (i + 1)) = nss (b.take i) + ns c := by
  rw [List.take_succ, h]
  show nss (b.take i ++ [c]) = _
  rw [nss_app]
  simp [nss]
section
variable {P : Program} {w : World} {K : PySem.W.Frag} {mg : Str → Option Value} {base : Heap}
def spNO (K : PySem.W.Frag) (n : Nat) : Sp := fun vs H Q _ => ∃ v b L N sec, vs = [v] ∧ Dp K H v (.tuple (ds b)) ∧ ks b < n ∧ ns b ≤ 1000 ∧ oks L N sec b ∧ ∀ H' v', Same H H' → NO K L N (fun A B => oks A B false b) (ns b) H' v' → Q v' H'
theorem sc__law_names_of : FnScope ["body", "found", "statement", "bodies", "inner", "more"] ["body"] (C8.fnScope (topS 51)) := C8.fnScope_by (by decide +kernel)
theorem ok_no {n : Nat} {f : Addr} {fd : FuncData} (F : C8.Def K mg "_law_names_of" (topS 51) f fd) (b : Binds K fd ["body"] []) (B : Bl K mg) (c_no : C8.Cal P w K mg base (n + 1) "_law_names_of" (spNO K n) []) : C8.Cal P w K mg base (n + 2) "_law_names_of" (spNO K (n + 1)) [] := by
  refine C8.cal0 F b .nil sc__law_names_of ?len ?body
  case len => rintro vs H Q E ⟨v, b, L, N, sec, rfl, _⟩; rfl
  case body =>
    rintro cdv A outer s H vs Q E hr ⟨v, b, L, N, sec, rfl, hd, hk, hn, hok, q⟩
    refine ⟨_, (pss_cons (ps_set (i := 1) sc__law_names_of.nd rfl (Or.inl rfl) (pe_tup (pa_cons (pe_lst pa_nil) (pa_cons (pe_lst pa_nil) pa_nil))))
    (pss_cons (ps_for PassesOwn.never rfl (pi_tup (pv 0)) (pg_name (i := 2) sc__law_names_of.nd rfl (Or.inl rfl))
    (pss_cons (ps_set (i := 3) sc__law_names_of.nd rfl (Or.inl rfl) (pe_tup pa_nil))
    (C8.pss_cut (ps_if (pt_cmpR op_in_seq (pe_ix ix_tup (pv 2) pe_int (fun _ _ => rfl)) (pe_tup (pa_cons pe_str (pa_cons pe_str pa_nil))) (by with_unfolding_all rfl)) (pss_one (ps_set (i := 1) sc__law_names_of.nd rfl (Or.inl rfl) (pe_tup (pa_cons (pe_op op_cat (pe_ix ix_tup (pv 1) pe_int (fun _ _ => rfl)) (pe_lst (pa_cons (pe_ix ix_tup (pv 2) pe_int (fun _ _ => rfl)) pa_nil))) (pa_cons (pe_ix ix_tup (pv 1) pe_int (fun _ _ => rfl)) pa_nil))))) (pss_one (ps_if (pt_cmpR op_eq (pe_ix ix_tup (pv 2) pe_int (fun _ _ => rfl)) pe_str (nomark _)) (pss_one (ps_set (i := 1) sc__law_names_of.nd rfl (Or.inl rfl) (pe_tup (pa_cons (pe_ix ix_tup (pv 1) pe_int (fun _ _ => rfl)) (pa_cons (pe_op op_cat (pe_ix ix_tup (pv 1) pe_int (fun _ _ => rfl)) (pe_lst (pa_cons (pe_ix ix_tup (pv 2) pe_int (fun _ _ => rfl)) pa_nil))) pa_nil))))) (pss_one (ps_if (pt_cmpR op_eq (pe_ix ix_tup (pv 2) pe_int (fun _ _ => rfl)) pe_str (nomark _)) (pss_one (ps_set (i := 3) sc__law_names_of.nd rfl (Or.inl rfl) (pe_ix ix_tup (pv 2) pe_int (fun _ _ => rfl)))) (pss_one (ps_set (i := 3) sc__law_names_of.nd rfl (Or.inl rfl) (pe_slice sl_tupA (pv 2) (po_some pe_int) po_none))))))))
    (pss_one (ps_for PassesOwn.never rfl (pi_tup (pv 3)) (pg_name (i := 4) sc__law_names_of.nd rfl (Or.inl rfl))
    (pss_cons (ps_set (i := 5) sc__law_names_of.nd rfl (Or.inl rfl) (C8.pe_c c_no hr (by omega) rfl (pa_cons (pv 4) pa_nil)))
    (pss_one (ps_set (i := 1) sc__law_names_of.nd rfl (Or.inl rfl) (pe_tup (pa_cons (pe_op op_cat (pe_ix ix_tup (pv 1) pe_int (fun _ _ => rfl)) (pe_ix ix_tup (pv 5) pe_int (fun _ _ => rfl))) (pa_cons (pe_op op_cat (pe_ix ix_tup (pv 1) pe_int (fun _ _ => rfl)) (pe_ix ix_tup (pv 5) pe_int (fun _ _ => rfl))) pa_nil)))))))))))
    (pss_one (ps_ret (pv 1))))), ?_⟩
    obtain ⟨a, xs, rfl, hs, ha, hl⟩ := len_ok hd
    have hlb : xs.length = b.length := by rw [hl, ds_len]
    refine ⟨(by show 0 ≤ sizeLine; decide), fun la hla => ⟨(by show 0 ≤ sizeLine; decide), fun lb hlb' => ⟨(by show 2 ≤ sizeLine; decide), fun p hp => ?_⟩⟩⟩
    have sa := same_new hla (.lst [])
    have sb := same_new hlb' (.lst [])
    have sp := same_new hp (.tup [.ref la, .ref lb])
    have s0 := sa.trans (sb.trans sp)
    have hno0 : NO K L N (Dn b 0) 0 (upd (upd (upd H la (.lst [])) lb (.lst [])) p (.tup [.ref la, .ref lb])) (.ref p) := ⟨p, la, lb, [], [], rfl, SqT.of upd_same, (sb.trans sp) _ _ upd_same, sp _ _ upd_same, fun y hy => (List.not_mem_nil hy).elim, fun y hy => (List.not_mem_nil hy).elim, Nat.le_refl _, Nat.le_refl _, trivial⟩
    refine ⟨_, rfl, a, rfl, ⟨_, (Tk.same s0).sqt hs⟩, ?_⟩
    refine for_tup (xs := xs) (fun i σ H' => ∃ fv b2 b3 b4 b5, σ = [some (.ref a), some fv, b2, b3, b4, b5] ∧ NO K L N (Dn b i) (ns (b.take i)) H' fv ∧ Same H H') ⟨_, none, none, none, none, rfl, by simpa [ns] using hno0, s0⟩ ?_ ?_ ?_
    · rintro i σ H' _ ⟨_, _, _, _, _, _, _, s1⟩
      exact (Tk.same s1).sqt hs
    · rintro i x _ H1 hx ⟨fv, b2, b3, b4, b5, rfl, hno, s1⟩
      obtain ⟨dd, hdd, hdp⟩ := dps_get' ha hx
      obtain ⟨st, hsb, rfl⟩ := ds_get hdd
      have hsm : st ∈ b := List.mem_of_getElem? hsb
      have hso : st.ok L N sec := oks_iff.mp hok st hsm
      have hsk := ks_mem hsm
      have hnt := ns_take hsb
      have hnb0 := ns_take_le b i
      have hdp1 := (Tk.same s1).dp _ (tup_St st) hdp
      refine ⟨(by show 0 ≤ sizeLine; decide), fun bt hbt => ?_⟩
      have s2 := same_new hbt (.tup [])
      have hbt2 : SqT K (upd H1 bt (.tup [])) bt [] := SqT.of upd_same
      have hno2 := hno.same s2
      have hdp2 := (Tk.same s2).dp _ (tup_St st) hdp1
      have s02 := s1.trans s2
      generalize upd H1 bt (.tup []) = H2 at hbt2 hno2 hdp2 s02
      refine ⟨fun σ' H' => ∃ fv bv b4 b5 sv, σ' = [some (.ref a), some fv, some sv, some bv, b4, b5] ∧ NO K L N (De b i st 0) (ns (b.take i) + 1) H' fv ∧ Dp K H' bv (.tuple (dss st.bs)) ∧ Same H H', ?_, ?_⟩
      · cases st with
        | dd x =>
          obtain ⟨sa, sxs, rfl, hss, hsa, hsl⟩ := len_ok hdp2
          cases hsa with
          | cons h0 hsa =>
          cases h0
          refine ⟨_, rfl, _, _, _, _, rfl, rfl, hss, at0 _ _, (by show 2 ≤ sizeLine; decide), fun z1 hz1 => ⟨z1, _, rfl, .inr (SqT.of upd_same), rfl, rfl, _, rfl, ?_⟩⟩
          have sz := same_new hz1 (.tup [.str "do", .str "undo"])
          have hss1 := (Tk.same sz).sqt hss
          obtain ⟨p, la, lb, A1, B1, rfl, hp, hA, hB, hA1, hB1, hA2, hB2, hDD⟩ := hno2.same sz
          have hbt3 := (Tk.same sz).sqt hbt2
          have s03 := s02.trans sz
          have sz2 := sz
          generalize upd H2 z1 (.tup [.str "do", .str "undo"]) = H3 at hss1 hp hA hB hbt3 s03 sz2
          refine ifT (by decide +kernel) ?_
          cases hsa with
          | cons h1 hsa =>
          cases h1
          refine ⟨_, rfl, p, _, _, _, rfl, rfl, hp, at0 _ _, _, rfl, _, _, _, _, rfl, rfl, hss1, at1 _ _ _, (by show 1 ≤ sizeLine; decide), fun z2 hz2 => ?_⟩
          have s4 := same_new hz2 (.lst [.str x])
          refine ⟨la, z2, _, _, rfl, rfl, s4 _ _ hA, upd_same, Nat.le_trans (show _ ≤ 1001 by rw [List.length_map]; simp; omega) (by decide), fun z3 hz3 => ?_⟩
          have s5 := s4.trans (same_new hz3 (.lst (A1.map V.str ++ [.str x])))
          refine ⟨_, rfl, p, _, _, _, rfl, rfl, (Tk.same s5).sqt hp, at1 _ _ _, (by show 2 ≤ sizeLine; decide), fun z4 hz4 => ?_⟩
          have s6 := same_new hz4 (.tup [.ref z3, .ref lb])
          have hz3' := s6 _ _ (upd_same (H := upd H3 z2 (.lst [.str x])) (a := z3) (o := .lst (A1.map V.str ++ [.str x])))
          refine ⟨_, _, _, _, _, rfl, ⟨z4, z3, lb, A1 ++ [x], B1, rfl, SqT.of upd_same, by rw [hz3', List.map_append]; rfl, (s5.trans s6) _ _ hB, fun y hy => ?_, hB1, by rw [List.length_append]; simp; omega, by omega, hDD.mono (fun _ h => List.mem_append_left _ h) (fun _ h => h), (by simp [own]), fun c hc => (List.not_mem_nil hc).elim⟩, .tup ((Tk.same (s5.trans s6)).sqt hbt3) .nil, s03.trans (s5.trans s6)⟩
          rcases List.mem_append.mp hy with h | h
          · exact hA1 y h
          · cases List.mem_singleton.mp h
            exact hso
        | ud x =>
          obtain ⟨sa, sxs, rfl, hss, hsa, hsl⟩ := len_ok hdp2
          cases hsa with
          | cons h0 hsa =>
          cases h0
          refine ⟨_, rfl, _, _, _, _, rfl, rfl, hss, at0 _ _, (by show 2 ≤ sizeLine; decide), fun z1 hz1 => ⟨z1, _, rfl, .inr (SqT.of upd_same), rfl, rfl, _, rfl, ?_⟩⟩
          have sz := same_new hz1 (.tup [.str "do", .str "undo"])
          have hss1 := (Tk.same sz).sqt hss
          obtain ⟨p, la, lb, A1, B1, rfl, hp, hA, hB, hA1, hB1, hA2, hB2, hDD⟩ := hno2.same sz
          have hbt3 := (Tk.same sz).sqt hbt2
          have s03 := s02.trans sz
          have sz2 := sz
          generalize upd H2 z1 (.tup [.str "do", .str "undo"]) = H3 at hss1 hp hA hB hbt3 s03 sz2
          refine ifT (by decide +kernel) ?_
          cases hsa with
          | cons h1 hsa =>
          cases h1
          refine ⟨_, rfl, p, _, _, _, rfl, rfl, hp, at0 _ _, _, rfl, _, _, _, _, rfl, rfl, hss1, at1 _ _ _, (by show 1 ≤ sizeLine; decide), fun z2 hz2 => ?_⟩
          have s4 := same_new hz2 (.lst [.str x])
          refine ⟨la, z2, _, _, rfl, rfl, s4 _ _ hA, upd_same, Nat.le_trans (show _ ≤ 1001 by rw [List.length_map]; simp; omega) (by decide), fun z3 hz3 => ?_⟩
          have s5 := s4.trans (same_new hz3 (.lst (A1.map V.str ++ [.str x])))
          refine ⟨_, rfl, p, _, _, _, rfl, rfl, (Tk.same s5).sqt hp, at1 _ _ _, (by show 2 ≤ sizeLine; decide), fun z4 hz4 => ?_⟩
          have s6 := same_new hz4 (.tup [.ref z3, .ref lb])
          have hz3' := s6 _ _ (upd_same (H := upd H3 z2 (.lst [.str x])) (a := z3) (o := .lst (A1.map V.str ++ [.str x])))
          refine ⟨_, _, _, _, _, rfl, ⟨z4, z3, lb, A1 ++ [x], B1, rfl, SqT.of upd_same, by rw [hz3', List.map_append]; rfl, (s5.trans s6) _ _ hB, fun y hy => ?_, hB1, by rw [List.length_append]; simp; omega, by omega, hDD.mono (fun _ h => List.mem_append_left _ h) (fun _ h => h), (by simp [own]), fun c hc => (List.not_mem_nil hc).elim⟩, .tup ((Tk.same (s5.trans s6)).sqt hbt3) .nil, s03.trans (s5.trans s6)⟩
          rcases List.mem_append.mp hy with h | h
          · exact hA1 y h
          · cases List.mem_singleton.mp h
            exact hso
        | cl x =>
          obtain ⟨sa, sxs, rfl, hss, hsa, hsl⟩ := len_ok hdp2
          cases hsa with
          | cons h0 hsa =>
          cases h0
          refine ⟨_, rfl, _, _, _, _, rfl, rfl, hss, at0 _ _, (by show 2 ≤ sizeLine; decide), fun z1 hz1 => ⟨z1, _, rfl, .inr (SqT.of upd_same), rfl, rfl, _, rfl, ?_⟩⟩
          have sz := same_new hz1 (.tup [.str "do", .str "undo"])
          have hss1 := (Tk.same sz).sqt hss
          obtain ⟨p, la, lb, A1, B1, rfl, hp, hA, hB, hA1, hB1, hA2, hB2, hDD⟩ := hno2.same sz
          have hbt3 := (Tk.same sz).sqt hbt2
          have s03 := s02.trans sz
          have sz2 := sz
          generalize upd H2 z1 (.tup [.str "do", .str "undo"]) = H3 at hss1 hp hA hB hbt3 s03 sz2
          refine ifF (by decide +kernel) ?_
          refine ⟨_, rfl, _, _, _, _, rfl, rfl, hss1, at0 _ _, rfl, _, rfl, ?_⟩
          rw [dec_str]
          refine ifT (by decide +kernel) ?_
          cases hsa with
          | cons h1 hsa =>
          cases h1
          refine ⟨_, rfl, p, _, _, _, rfl, rfl, hp, at0 _ _, _, rfl, p, _, _, _, rfl, rfl, hp, at1 _ _ _, _, rfl, _, _, _, _, rfl, rfl, hss1, at1 _ _ _, (by show 1 ≤ sizeLine; decide), fun z2 hz2 => ?_⟩
          have s4 := same_new hz2 (.lst [.str x])
          refine ⟨lb, z2, _, _, rfl, rfl, s4 _ _ hB, upd_same, Nat.le_trans (show _ ≤ 1001 by rw [List.length_map]; simp; omega) (by decide), fun z3 hz3 => ?_⟩
          have s5 := s4.trans (same_new hz3 (.lst (B1.map V.str ++ [.str x])))
          refine ⟨(by show 2 ≤ sizeLine; decide), fun z4 hz4 => ?_⟩
          have s6 := same_new hz4 (.tup [.ref la, .ref z3])
          have hz3' := s6 _ _ (upd_same (H := upd H3 z2 (.lst [.str x])) (a := z3) (o := .lst (B1.map V.str ++ [.str x])))
          refine ⟨_, _, _, _, _, rfl, ⟨z4, la, z3, A1, B1 ++ [x], rfl, SqT.of upd_same, (s5.trans s6) _ _ hA, by rw [hz3', List.map_append]; rfl, hA1, fun y hy => ?_, by omega, by rw [List.length_append]; simp; omega, hDD.mono (fun _ h => h) (fun _ h => List.mem_append_left _ h), (by simp [own]), fun c hc => (List.not_mem_nil hc).elim⟩, .tup ((Tk.same (s5.trans s6)).sqt hbt3) .nil, s03.trans (s5.trans s6)⟩
          rcases List.mem_append.mp hy with h | h
          · exact hB1 y h
          · cases List.mem_singleton.mp h
            exact hso
        | ch bs =>
          obtain ⟨sa, sxs, rfl, hss, hsa, hsl⟩ := len_ok hdp2
          cases hsa with
          | cons h0 hsa =>
          cases h0
          refine ⟨_, rfl, _, _, _, _, rfl, rfl, hss, at0 _ _, (by show 2 ≤ sizeLine; decide), fun z1 hz1 => ⟨z1, _, rfl, .inr (SqT.of upd_same), rfl, rfl, _, rfl, ?_⟩⟩
          have sz := same_new hz1 (.tup [.str "do", .str "undo"])
          have hss1 := (Tk.same sz).sqt hss
          obtain ⟨p, la, lb, A1, B1, rfl, hp, hA, hB, hA1, hB1, hA2, hB2, hDD⟩ := hno2.same sz
          have hbt3 := (Tk.same sz).sqt hbt2
          have s03 := s02.trans sz
          have sz2 := sz
          generalize upd H2 z1 (.tup [.str "do", .str "undo"]) = H3 at hss1 hp hA hB hbt3 s03 sz2
          have hnoX : NO K L N (De b i (.ch bs) 0) (ns (b.take i) + 1) H3 (.ref p) := ⟨p, la, lb, A1, B1, rfl, hp, hA, hB, hA1, hB1, by omega, by omega, hDD, trivial, fun c hc => (List.not_mem_nil hc).elim⟩
          refine ifF (by decide +kernel) ?_
          refine ⟨_, rfl, _, _, _, _, rfl, rfl, hss1, at0 _ _, rfl, _, rfl, ?_⟩
          rw [dec_str]
          refine ifF (by decide +kernel) ?_
          refine ⟨_, rfl, _, _, _, _, rfl, rfl, hss1, at0 _ _, rfl, _, rfl, ?_⟩
          rw [dec_str]
          refine ifT (by decide +kernel) ?_
          cases hsa with
          | cons h1 hsa =>
          exact ⟨_, rfl, _, _, _, _, rfl, rfl, hss1, at1 _ _ _, _, _, _, _, _, rfl, hnoX, (Tk.same sz2).dp (.tuple (dss bs)) (tup_dss bs) h1, s03⟩
        | lp c =>
          obtain ⟨sa, sxs, rfl, hss, hsa, hsl⟩ := len_ok hdp2
          cases hsa with
          | cons h0 hsa =>
          cases h0
          refine ⟨_, rfl, _, _, _, _, rfl, rfl, hss, at0 _ _, (by show 2 ≤ sizeLine; decide), fun z1 hz1 => ⟨z1, _, rfl, .inr (SqT.of upd_same), rfl, rfl, _, rfl, ?_⟩⟩
          have sz := same_new hz1 (.tup [.str "do", .str "undo"])
          have hss1 := (Tk.same sz).sqt hss
          obtain ⟨p, la, lb, A1, B1, rfl, hp, hA, hB, hA1, hB1, hA2, hB2, hDD⟩ := hno2.same sz
          have hbt3 := (Tk.same sz).sqt hbt2
          have s03 := s02.trans sz
          have sz2 := sz
          generalize upd H2 z1 (.tup [.str "do", .str "undo"]) = H3 at hss1 hp hA hB hbt3 s03 sz2
          have hnoX : NO K L N (De b i (.lp c) 0) (ns (b.take i) + 1) H3 (.ref p) := ⟨p, la, lb, A1, B1, rfl, hp, hA, hB, hA1, hB1, by omega, by omega, hDD, trivial, fun c hc => (List.not_mem_nil hc).elim⟩
          refine ifF (by decide +kernel) ?_
          refine ⟨_, rfl, _, _, _, _, rfl, rfl, hss1, at0 _ _, rfl, _, rfl, ?_⟩
          rw [dec_str]
          refine ifF (by decide +kernel) ?_
          refine ⟨_, rfl, _, _, _, _, rfl, rfl, hss1, at0 _ _, rfl, _, rfl, ?_⟩
          rw [dec_str]
          refine ifF (by decide +kernel) ?_
          cases hsa with
          | @cons v1 _ _ _ h1 hsa =>
          cases hsa
          refine ⟨_, rfl, 1, rfl, _, _, rfl, hss1, fun w => ?_, fun _ r hr2 => ?_⟩
          · exact absurd w.1 (by show ¬ (HT.sIx 2 0 (some 1) = 0); decide)
          · have s4 := same_new hr2 (.tup [v1])
            exact ⟨_, _, _, _, _, rfl, hnoX.same s4, .tup (SqT.of upd_same) (.cons ((Tk.same (sz2.trans s4)).dp (.tuple (ds c)) (tup_ds c) h1) .nil), s03.trans s4⟩
        | rt =>
          obtain ⟨sa, sxs, rfl, hss, hsa, hsl⟩ := len_ok hdp2
          cases hsa with
          | cons h0 hsa =>
          cases h0
          refine ⟨_, rfl, _, _, _, _, rfl, rfl, hss, at0 _ _, (by show 2 ≤ sizeLine; decide), fun z1 hz1 => ⟨z1, _, rfl, .inr (SqT.of upd_same), rfl, rfl, _, rfl, ?_⟩⟩
          have sz := same_new hz1 (.tup [.str "do", .str "undo"])
          have hss1 := (Tk.same sz).sqt hss
          obtain ⟨p, la, lb, A1, B1, rfl, hp, hA, hB, hA1, hB1, hA2, hB2, hDD⟩ := hno2.same sz
          have hbt3 := (Tk.same sz).sqt hbt2
          have s03 := s02.trans sz
          have sz2 := sz
          generalize upd H2 z1 (.tup [.str "do", .str "undo"]) = H3 at hss1 hp hA hB hbt3 s03 sz2
          have hnoX : NO K L N (De b i .rt 0) (ns (b.take i) + 1) H3 (.ref p) := ⟨p, la, lb, A1, B1, rfl, hp, hA, hB, hA1, hB1, by omega, by omega, hDD, trivial, fun c hc => (List.not_mem_nil hc).elim⟩
          refine ifF (by decide +kernel) ?_
          refine ⟨_, rfl, _, _, _, _, rfl, rfl, hss1, at0 _ _, rfl, _, rfl, ?_⟩
          rw [dec_str]
          refine ifF (by decide +kernel) ?_
          refine ⟨_, rfl, _, _, _, _, rfl, rfl, hss1, at0 _ _, rfl, _, rfl, ?_⟩
          rw [dec_str]
          refine ifF (by decide +kernel) ?_
          cases hsa
          refine ⟨_, rfl, 1, rfl, _, _, rfl, hss1, fun w => ?_, fun _ r hr2 => ?_⟩
          · exact absurd w.1 (by show ¬ (HT.sIx 1 0 (some 1) = 0); decide)
          · have s4 := same_new hr2 (.tup [])
            exact ⟨_, _, _, _, _, rfl, hnoX.same s4, .tup (SqT.of upd_same) .nil, s03.trans s4⟩
        | en c e =>
          obtain ⟨sa, sxs, rfl, hss, hsa, hsl⟩ := len_ok hdp2
          cases hsa with
          | cons h0 hsa =>
          cases h0
          refine ⟨_, rfl, _, _, _, _, rfl, rfl, hss, at0 _ _, (by show 2 ≤ sizeLine; decide), fun z1 hz1 => ⟨z1, _, rfl, .inr (SqT.of upd_same), rfl, rfl, _, rfl, ?_⟩⟩
          have sz := same_new hz1 (.tup [.str "do", .str "undo"])
          have hss1 := (Tk.same sz).sqt hss
          obtain ⟨p, la, lb, A1, B1, rfl, hp, hA, hB, hA1, hB1, hA2, hB2, hDD⟩ := hno2.same sz
          have hbt3 := (Tk.same sz).sqt hbt2
          have s03 := s02.trans sz
          have sz2 := sz
          generalize upd H2 z1 (.tup [.str "do", .str "undo"]) = H3 at hss1 hp hA hB hbt3 s03 sz2
          have hnoX : NO K L N (De b i (.en c e) 0) (ns (b.take i) + 1) H3 (.ref p) := ⟨p, la, lb, A1, B1, rfl, hp, hA, hB, hA1, hB1, by omega, by omega, hDD, trivial, fun c hc => (List.not_mem_nil hc).elim⟩
          refine ifF (by decide +kernel) ?_
          refine ⟨_, rfl, _, _, _, _, rfl, rfl, hss1, at0 _ _, rfl, _, rfl, ?_⟩
          rw [dec_str]
          refine ifF (by decide +kernel) ?_
          refine ⟨_, rfl, _, _, _, _, rfl, rfl, hss1, at0 _ _, rfl, _, rfl, ?_⟩
          rw [dec_str]
          refine ifF (by decide +kernel) ?_
          cases hsa with
          | @cons v1 _ _ _ h1 hsa =>
          cases hsa with
          | @cons v2 _ _ _ h2 hsa =>
          cases hsa
          refine ⟨_, rfl, 1, rfl, _, _, rfl, hss1, fun w => ?_, fun _ r hr2 => ?_⟩
          · exact absurd w.1 (by show ¬ (HT.sIx 3 0 (some 1) = 0); decide)
          · have s4 := same_new hr2 (.tup [v1, v2])
            exact ⟨_, _, _, _, _, rfl, hnoX.same s4, .tup (SqT.of upd_same) (.cons ((Tk.same (sz2.trans s4)).dp (.tuple (ds c)) (tup_ds c) h1) (.cons ((Tk.same (sz2.trans s4)).dp (.tuple (ds e)) (tup_ds e) h2) .nil)), s03.trans s4⟩
      · rintro _ H3 ⟨fv, bv, b4, b5, sv, rfl, hno3, hbv, s3⟩
        obtain ⟨ba, bxs, rfl, hbs, hba, hbl⟩ := len_ok hbv
        refine ⟨_, rfl, ba, rfl, ⟨_, hbs⟩, ?_⟩
        refine for_tup (xs := bxs) (fun j σ H' => ∃ fv b4 b5, σ = [some (.ref a), some fv, some sv, some (.ref ba), b4, b5] ∧ NO K L N (De b i st j) (ns (b.take i) + 1 + nss (st.bs.take j)) H' fv ∧ Same H3 H') ⟨fv, b4, b5, rfl, by simpa [nss] using hno3, fun _ _ e => e⟩ ?_ ?_ ?_
        · rintro j σ H' _ ⟨_, _, _, _, _, s4⟩
          exact (Tk.same s4).sqt hbs
        · rintro j y _ H4 hy ⟨fv, b4, b5, rfl, hno4, s4⟩
          obtain ⟨dd, hdd, hdp5⟩ := dps_get' hba hy
          obtain ⟨c, hcb, rfl⟩ : ∃ c, st.bs[j]? = some c ∧ dd = .tuple (ds c) := by
            rw [dss_map, List.getElem?_map] at hdd
            cases e : st.bs[j]? with
            | none => rw [e] at hdd; cases hdd
            | some c => rw [e] at hdd; exact ⟨c, rfl, (Option.some.inj hdd).symm⟩
          have hcm : c ∈ st.bs := List.mem_of_getElem? hcb
          obtain ⟨sec', hco⟩ := ok_bs hso c hcm
          have hck := k_of_bs st c hcm
          have hcn := nss_mem hcm
          have hsn := n_of_bs st
          have hnb := ns_take_le b (i + 1)
          refine ⟨_, rfl, y, c, L, N, sec', rfl, (Tk.same s4).dp (.tuple (ds c)) (tup_ds c) hdp5, by omega, by omega, hco, fun H5 mv s5 hmv => ?_⟩
          obtain ⟨p, la, lb, A1, B1, rfl, hp, hA, hB, hA1, hB1, hA2, hB2, hDD⟩ := hno4.same s5
          obtain ⟨mp, ma, mb, A2, B2, rfl, hmp, hmA, hmB, gA, gB, lA, lB, gDD⟩ := hmv
          have hta := nss_take hcb
          have htb := nss_take_le st.bs (j + 1)
          refine ⟨_, rfl, p, _, _, _, rfl, rfl, hp, at0 _ _, _, rfl, mp, _, _, _, rfl, rfl, hmp, at0 _ _, la, ma, _, _, rfl, rfl, hA, hmA, Nat.le_trans (show _ ≤ 3000 by rw [List.length_map, List.length_map]; omega) (by decide), fun z1 hz1 => ?_⟩
          have s6 := same_new hz1 (.lst (A1.map V.str ++ A2.map V.str))
          refine ⟨_, rfl, p, _, _, _, rfl, rfl, (Tk.same s6).sqt hp, at1 _ _ _, _, rfl, mp, _, _, _, rfl, rfl, (Tk.same s6).sqt hmp, at1 _ _ _, lb, mb, _, _, rfl, rfl, s6 _ _ hB, s6 _ _ hmB, Nat.le_trans (show _ ≤ 3000 by rw [List.length_map, List.length_map]; omega) (by decide), fun z2 hz2 => ⟨(by show 2 ≤ sizeLine; decide), fun z3 hz3 => ?_⟩⟩
          have s7 := same_new hz2 (.lst (B1.map V.str ++ B2.map V.str))
          have s8 := same_new hz3 (.tup [.ref z1, .ref z2])
          have e1 := (s7.trans s8) _ _ (upd_same (H := H5) (a := z1) (o := .lst (A1.map V.str ++ A2.map V.str)))
          have e2 := s8 _ _ (upd_same (a := z2) (o := .lst (B1.map V.str ++ B2.map V.str)))
          refine ⟨_, _, _, rfl, ⟨z3, z1, z2, A1 ++ A2, B1 ++ B2, rfl, SqT.of upd_same, by rw [e1, List.map_append], by rw [e2, List.map_append], fun q hq => ?_, fun q hq => ?_, by rw [List.length_append]; omega, by rw [List.length_append]; omega, De.snoc hcb (hDD.mono (fun _ h => List.mem_append_left _ h) (fun _ h => List.mem_append_left _ h)) (oks_mono (fun _ h => List.mem_append_right _ h) (fun _ h => List.mem_append_right _ h) false _ _ gDD)⟩, s4.trans (s5.trans (s6.trans (s7.trans s8)))⟩
          · exact (List.mem_append.mp hq).elim (hA1 q) (gA q)
          · exact (List.mem_append.mp hq).elim (hB1 q) (gB q)
        · rintro σ H4 ⟨fv, b4, b5, rfl, hno4, s4⟩
          have hj : bxs.length = st.bs.length := by rw [hbl, dss_len]
          rw [hj, List.take_length] at hno4
          have := n_of_bs st
          exact ⟨_, _, _, _, _, rfl, hno4.le (by omega) fun A B h => h.fin hsb hso, s3.trans s4⟩
    · rintro σ H1 ⟨fv, b2, b3, b4, b5, rfl, hno, s1⟩
      rw [hlb, List.take_length] at hno
      refine ⟨_, rfl, q H1 _ s1 (hno.le (Nat.le_refl _) fun A B h => ?_)⟩
      unfold Dn at h
      rwa [List.take_length] at h
end
end K06


set_option Elab.async false
set_option linter.all false
set_option maxRecDepth 100000
set_option maxHeartbeats 8000000
namespace K06
open PySem PySem.Spec PyProof.Rows L2
theorem no_pad : True := trivial
mutual
def St.ren (f g : Str → Str) : St → St
  | .dd x => .dd (f x)
  | .ud x => .ud (f x)
  | .cl x => .cl (g x)
  | .ch bs => .ch (renss f g bs)
  | .lp b => .lp (rens f g b)
  | .rt => .rt
  | .en b c => .en (rens f g b) (rens f g c)
def rens (f g : Str → Str) : List St → List St
  | [] => []
  | s :: r => s.ren f g :: rens f g r
def renss (f g : Str → Str) : List (List St) → List (List St)
  | [] => []
  | b :: r => rens f g b :: renss f g r
end
theorem rens_map (f g : Str → Str) : ∀ b : List St, rens f g b = b.map (St.ren f g)
  | [] => rfl
  | s :: r => by rw [rens, rens_map f g r]; rfl
theorem renss_map (f g : Str → Str) : ∀ b : List (List St), renss f g b = b.map (rens f g)
  | [] => rfl
  | s :: r => by rw [renss, renss_map f g r]; rfl
mutual
theorem ren_n (f g : Str → Str) : ∀ s : St, (s.ren f g).n = s.n ∧ (s.ren f g).k = s.k
  | .dd _ | .ud _ | .cl _ | .rt => ⟨rfl, rfl⟩
  | .ch bs => by have := ren_nss f g bs; simp [St.ren, St.n, St.k, this.1, this.2]
  | .lp b => by have := ren_ns f g b; simp [St.ren, St.n, St.k, this.1, this.2]
  | .en b c => by have := ren_ns f g b; have h := ren_ns f g c; simp [St.ren, St.n, St.k, this.1, this.2, h.1, h.2]
theorem ren_ns (f g : Str → Str) : ∀ b : List St, ns (rens f g b) = ns b ∧ ks (rens f g b) = ks b
  | [] => ⟨rfl, rfl⟩
  | s :: r => by have := ren_n f g s; have h := ren_ns f g r; simp [rens, ns, ks, this.1, this.2, h.1, h.2]
theorem ren_nss (f g : Str → Str) : ∀ b : List (List St), nss (renss f g b) = nss b ∧ kss (renss f g b) = kss b
  | [] => ⟨rfl, rfl⟩
  | s :: r => by have := ren_ns f g s; have h := ren_nss f g r; simp [renss, nss, kss, this.1, this.2, h.1, h.2]
end
mutual
theorem ren_ok {L N L' N' : List Str} {f g : Str → Str} (hf : ∀ x ∈ L, f x ∈ L') (hg : ∀ x ∈ N, g x ∈ N') : ∀ (s : St) (sec : Bool), s.ok L N sec → (s.ren f g).ok L' N' sec
  | .dd x, _, h => hf x h
  | .ud x, _, h => hf x h
  | .cl x, _, h => hg x h
  | .ch bs, sec, h => by
    have hl : (renss f g bs).length = bs.length := by rw [renss_map, List.length_map]
    exact ⟨by rw [hl]; exact h.1, by rw [hl]; exact h.2.1, ren_okss hf hg bs sec h.2.2⟩
  | .lp b, sec, h => ren_oks hf hg b sec h
  | .rt, _, h => h
  | .en b c, sec, h => ⟨ren_oks hf hg b sec h.1, ren_oks hf hg c true h.2⟩
theorem ren_oks {L N L' N' : List Str} {f g : Str → Str} (hf : ∀ x ∈ L, f x ∈ L') (hg : ∀ x ∈ N, g x ∈ N') : ∀ (b : List St) (sec : Bool), oks L N sec b → oks L' N' sec (rens f g b)
  | [], _, _ => trivial
  | s :: r, sec, h => ⟨ren_ok hf hg s sec h.1, ren_oks hf hg r sec h.2⟩
theorem ren_okss {L N L' N' : List Str} {f g : Str → Str} (hf : ∀ x ∈ L, f x ∈ L') (hg : ∀ x ∈ N, g x ∈ N') : ∀ (b : List (List St)) (sec : Bool), okss L N sec b → okss L' N' sec (renss f g b)
  | [], _, _ => trivial
  | s :: r, sec, h => ⟨ren_oks hf hg s sec h.1, ren_okss hf hg r sec h.2⟩
end
theorem rens_snoc (f g : Str → Str) (b : List St) (s : St) : rens f g (b ++ [s]) = rens f g b ++ [s.ren f g] := by rw [rens_map, rens_map, List.map_append]; rfl
theorem tail0 (x : V) : cutV [x] (some 1) none = [] := rfl
theorem renss_snoc (f g : Str → Str) (b : List (List St)) (s : List St) : renss f g (b ++ [s]) = renss f g b ++ [rens f g s] := by rw [renss_map, renss_map, List.map_append]; rfl
/-- what a dict of names tells -/
def fn (M : List (Str × Str)) (x : Str) : Str := (M.lookup x).getD ""
theorem fn_val {M : List (Str × Str)} {x : Str} (h : x ∈ M.map Prod.fst) : valV (DM M) (Sum.inr x : Key) = some (.str (fn M x)) := by
  rw [dm_val]
  unfold fn
  cases e : M.lookup x with
  | none => exact absurd h (look_none e)
  | some y => rfl
section
variable {P : Program} {w : World} {K : PySem.W.Frag} {mg : Str → Option Value} {base : Heap}
def spTB (K : PySem.W.Frag) (n : Nat) : Sp := fun vs H Q _ => ∃ v pr d0 d1 b L N sec M0 M1, vs = [v, .ref pr] ∧ Dp K H v (.tuple (ds b)) ∧ H pr = some (.lst [.ref d0, .ref d1]) ∧ H d0 = some (.dK (DM M0)) ∧ H d1 = some (.dK (DM M1)) ∧ (∀ x ∈ L, x ∈ M0.map Prod.fst) ∧ (∀ x ∈ N, x ∈ M1.map Prod.fst) ∧ ks b < n ∧ b.length ≤ 1000 ∧ ns b ≤ 1000 ∧ oks L N sec b ∧ ∀ H' v', Same H H' → Dp K H' v' (.tuple (ds (rens (fn M0) (fn M1) b))) → Q v' H'
theorem sc__law_turned_body : FnScope ["body", "pairs", "found", "statement", "word", "inner"] ["body", "pairs"] (C8.fnScope (topS 52)) := C8.fnScope_by (by decide +kernel)
theorem ok_tb {n : Nat} {f : Addr} {fd : FuncData} (F : C8.Def K mg "_law_turned_body" (topS 52) f fd) (b : Binds K fd ["body", "pairs"] []) (B : Bl K mg) (c_tb : C8.Cal P w K mg base (n + 1) "_law_turned_body" (spTB K n) []) : C8.Cal P w K mg base (n + 2) "_law_turned_body" (spTB K (n + 1)) [] := by
  refine C8.cal0 F b .nil sc__law_turned_body ?len ?body
  case len => rintro vs H Q E ⟨v, pr, d0, d1, b, L, N, sec, M0, M1, rfl, _⟩; rfl
  case body =>
    rintro cdv A outer s H vs Q E hr ⟨v, pr, d0, d1, b, L, N, sec, M0, M1, rfl, hd, hpr, hd0, hd1, hL0, hN1, hk, hbl, hn, hok, q⟩
    refine ⟨_, (pss_cons (ps_set (i := 2) sc__law_turned_body.nd rfl (Or.inl rfl) (pe_lst pa_nil))
    (pss_cons (ps_for PassesOwn.never rfl (pi_tup (pv 0)) (pg_name (i := 3) sc__law_turned_body.nd rfl (Or.inl rfl))
    (pss_cons (ps_set (i := 4) sc__law_turned_body.nd rfl (Or.inl rfl) (pe_ix ix_tup (pv 3) pe_int (fun _ _ => rfl)))
    (pss_one (ps_if (pt_cmpR op_in_seq (pv 4) (pe_tup (pa_cons pe_str (pa_cons pe_str pa_nil))) (by with_unfolding_all rfl)) (pss_one (ps_expr (pe_bm PySem.F.plainAttrs_list PySem.F.slot_list_append PySem.F.type_list_append mt_append (pv 2) (pa_cons (pe_tup (pa_cons (pv 4) (pa_cons (pe_dget (hu_of hr) (pe_ix ix_list (pv 1) pe_int (fun _ _ => rfl)) (pe_ix ix_tup (pv 3) pe_int (fun _ _ => rfl)) (fun _ _ => rfl)) pa_nil))) pa_nil)))) (pss_one (ps_if (pt_cmpR op_eq (pv 4) pe_str (nomark _)) (pss_one (ps_expr (pe_bm PySem.F.plainAttrs_list PySem.F.slot_list_append PySem.F.type_list_append mt_append (pv 2) (pa_cons (pe_tup (pa_cons (pv 4) (pa_cons (pe_dget (hu_of hr) (pe_ix ix_list (pv 1) pe_int (fun _ _ => rfl)) (pe_ix ix_tup (pv 3) pe_int (fun _ _ => rfl)) (fun _ _ => rfl)) pa_nil))) pa_nil)))) (pss_one (ps_if (pt_cmpR op_eq (pv 4) pe_str (nomark _)) (pss_one (ps_expr (pe_bm PySem.F.plainAttrs_list PySem.F.slot_list_append PySem.F.type_list_append mt_append (pv 2) (pa_cons (pe_tup (pa_cons (pv 4) (pa_cons (pe_callTy call_tuple_of rfl B.tuple (by decide +kernel) (pa_cons (pe_lc (own := [("inner", 5)]) (g := gName 5) (te := tCall (spTB K n) [] C8.E0 (tCons (tVar 5) (tCons (tVar 1) tNil))) (by rfl) sc__law_turned_body.nd (pi_tup (pe_ix ix_tup (pv 3) pe_int (fun _ _ => rfl))) (blkOk_by (own := [("inner", 5)]) (N := ["body", "pairs", "found", "statement", "word", "inner"]) (sc := (C8.fnScope (topS 52))) (by decide +kernel)) (fun _ _ _ _ _ => pg_name (i := 5) sc__law_turned_body.nd rfl (Or.inl rfl)) (fun _ _ _ _ _ => pts_nil) (fun _ _ _ _ _ => by exact (C8.pe_c c_tb hr (by omega) rfl (pa_cons (pv 5) (pa_cons (pv 1) pa_nil))))) pa_nil)) pa_nil))) pa_nil)))) (pss_one (ps_expr (pe_bm PySem.F.plainAttrs_list PySem.F.slot_list_append PySem.F.type_list_append mt_append (pv 2) (pa_cons (pe_op op_catA (pe_tup (pa_cons (pv 4) pa_nil)) (pe_callTy call_tuple_of rfl B.tuple (by decide +kernel) (pa_cons (pe_lc (own := [("inner", 5)]) (g := gName 5) (te := tCall (spTB K n) [] C8.E0 (tCons (tVar 5) (tCons (tVar 1) tNil))) (by rfl) sc__law_turned_body.nd (pi_tup (pe_slice sl_tupA (pv 3) (po_some pe_int) po_none)) (blkOk_by (own := [("inner", 5)]) (N := ["body", "pairs", "found", "statement", "word", "inner"]) (sc := (C8.fnScope (topS 52))) (by decide +kernel)) (fun _ _ _ _ _ => pg_name (i := 5) sc__law_turned_body.nd rfl (Or.inl rfl)) (fun _ _ _ _ _ => pts_nil) (fun _ _ _ _ _ => by exact (C8.pe_c c_tb hr (by omega) rfl (pa_cons (pv 5) (pa_cons (pv 1) pa_nil))))) pa_nil))) pa_nil))))))))))))
    (pss_one (ps_ret (pe_callTy call_tuple_of rfl B.tuple (by decide +kernel) (pa_cons (pv 2) pa_nil)))))), ?_⟩
    obtain ⟨a, xs, rfl, hs, ha, hl⟩ := len_ok hd
    have hlb : xs.length = b.length := by rw [hl, ds_len]
    refine ⟨(by show 0 ≤ sizeLine; decide), fun F hF => ?_⟩
    have s0 := same_new hF (.lst [])
    have nF : ∀ q o, H q = some o → q ≠ F := fun q o e z => by rw [z, hF] at e; cases e
    refine ⟨_, rfl, a, rfl, ⟨_, (Tk.same s0).sqt hs⟩, ?_⟩
    refine for_tup (xs := xs) (fun i σ H' => ∃ b3 b4 b5 vs, σ = [some (.ref a), some (.ref pr), some (.ref F), b3, b4, b5] ∧ H' F = some (.lst vs) ∧ DpAll K H' vs (ds (rens (fn M0) (fn M1) (b.take i))) ∧ Same H H') ⟨none, none, none, [], rfl, upd_same, .nil, s0⟩ ?_ ?_ ?_
    · rintro i σ H' _ ⟨_, _, _, _, _, _, _, s1⟩
      exact (Tk.same s1).sqt hs
    · rintro i x _ H1 hx ⟨b3, b4, b5, vs, rfl, hF1, hv1, s1⟩
      obtain ⟨dd, hdd, hdp⟩ := dps_get' ha hx
      obtain ⟨st, hsb, rfl⟩ := ds_get hdd
      have hsm : st ∈ b := List.mem_of_getElem? hsb
      have hso : st.ok L N sec := oks_iff.mp hok st hsm
      have hsk := ks_mem hsm
      have hnt := ns_take hsb
      have hnb := ns_take_le b (i + 1)
      have hsn := n_of_bs st
      have hdp1 := (Tk.same s1).dp _ (tup_St st) hdp
      have hil := (List.getElem?_eq_some_iff.mp hsb).1
      have hvl := dps_len hv1
      rw [ds_len, rens_map, List.length_map, List.length_take] at hvl
      have htake : b.take (i + 1) = b.take i ++ [st] := by rw [List.take_succ, hsb]; rfl
      cases st with
        | dd x =>
          obtain ⟨sa, sxs, rfl, hss, hsa, hsl⟩ := len_ok hdp1
          cases hsa with
          | cons h0 hsa =>
          cases h0
          refine ⟨_, rfl, _, _, _, _, rfl, rfl, hss, at0 _ _, ?_⟩
          refine ⟨_, rfl, (by show 2 ≤ sizeLine; decide), fun z1 hz1 => ⟨z1, _, rfl, .inr (SqT.of upd_same), rfl, rfl, _, rfl, ?_⟩⟩
          have sz := same_new hz1 (.tup [.str "do", .str "undo"])
          have hss1 := (Tk.same sz).sqt hss
          have hF2 := sz _ _ hF1
          have hv2 := (Tk.same sz).dps _ (tup_ds _) hv1
          have s02 := s1.trans sz
          have t12 : Tk H1 (upd H1 z1 (.tup [.str "do", .str "undo"])) := Tk.same sz
          generalize upd H1 z1 (.tup [.str "do", .str "undo"]) = H2 at hss1 hF2 hv2 s02 t12
          refine ifT (by decide +kernel) ?_
          cases hsa with
          | cons h1 hsa =>
          cases h1
          have dg : DGet H2 d0 (.str x) (some (.str (fn M0 x))) := by
            have := DGet.k (k := Sum.inr x) (s02 _ _ hd0)
            rw [fn_val (hL0 x hso)] at this
            exact this
          refine ⟨_, rfl, .inl ⟨rfl, _, SqL.of hF2⟩, _, rfl, _, rfl, pr, _, _, _, rfl, rfl, SqL.of (s02 _ _ hpr), at0 _ _, _, rfl, _, _, _, _, rfl, rfl, hss1, at1 _ _ _, d0, _, rfl, dg, (by show 2 ≤ sizeLine; decide), fun z3 hz3 => ?_⟩
          have s3 := same_new hz3 (.tup [.str "do", .str (fn M0 x)])
          refine ⟨F, _, _, rfl, rfl, (s3) _ _ hF2, Nat.lt_of_le_of_lt (show vs.length ≤ 1000 by omega) (by decide), ?_⟩
          have tP := Tk.put ((s3) _ _ hF2) (.lst (vs ++ [.ref z3]))
          refine ⟨_, _, _, vs ++ [.ref z3], rfl, upd_same, ?_, fun qq oo e => by rw [upd_ne (nF qq oo e)]; exact (s02.trans (s3)) _ _ e⟩
          rw [htake, rens_snoc, ds_snoc]
          refine dps_app (((Tk.same (s3)).trans tP).dps _ (tup_ds _) hv2) (.cons ?_ .nil)
          exact .tup (tP.sqt (SqT.of upd_same)) (.cons (.str _) (.cons (.str _) .nil))
        | ud x =>
          obtain ⟨sa, sxs, rfl, hss, hsa, hsl⟩ := len_ok hdp1
          cases hsa with
          | cons h0 hsa =>
          cases h0
          refine ⟨_, rfl, _, _, _, _, rfl, rfl, hss, at0 _ _, ?_⟩
          refine ⟨_, rfl, (by show 2 ≤ sizeLine; decide), fun z1 hz1 => ⟨z1, _, rfl, .inr (SqT.of upd_same), rfl, rfl, _, rfl, ?_⟩⟩
          have sz := same_new hz1 (.tup [.str "do", .str "undo"])
          have hss1 := (Tk.same sz).sqt hss
          have hF2 := sz _ _ hF1
          have hv2 := (Tk.same sz).dps _ (tup_ds _) hv1
          have s02 := s1.trans sz
          have t12 : Tk H1 (upd H1 z1 (.tup [.str "do", .str "undo"])) := Tk.same sz
          generalize upd H1 z1 (.tup [.str "do", .str "undo"]) = H2 at hss1 hF2 hv2 s02 t12
          refine ifT (by decide +kernel) ?_
          cases hsa with
          | cons h1 hsa =>
          cases h1
          have dg : DGet H2 d0 (.str x) (some (.str (fn M0 x))) := by
            have := DGet.k (k := Sum.inr x) (s02 _ _ hd0)
            rw [fn_val (hL0 x hso)] at this
            exact this
          refine ⟨_, rfl, .inl ⟨rfl, _, SqL.of hF2⟩, _, rfl, _, rfl, pr, _, _, _, rfl, rfl, SqL.of (s02 _ _ hpr), at0 _ _, _, rfl, _, _, _, _, rfl, rfl, hss1, at1 _ _ _, d0, _, rfl, dg, (by show 2 ≤ sizeLine; decide), fun z3 hz3 => ?_⟩
          have s3 := same_new hz3 (.tup [.str "undo", .str (fn M0 x)])
          refine ⟨F, _, _, rfl, rfl, (s3) _ _ hF2, Nat.lt_of_le_of_lt (show vs.length ≤ 1000 by omega) (by decide), ?_⟩
          have tP := Tk.put ((s3) _ _ hF2) (.lst (vs ++ [.ref z3]))
          refine ⟨_, _, _, vs ++ [.ref z3], rfl, upd_same, ?_, fun qq oo e => by rw [upd_ne (nF qq oo e)]; exact (s02.trans (s3)) _ _ e⟩
          rw [htake, rens_snoc, ds_snoc]
          refine dps_app (((Tk.same (s3)).trans tP).dps _ (tup_ds _) hv2) (.cons ?_ .nil)
          exact .tup (tP.sqt (SqT.of upd_same)) (.cons (.str _) (.cons (.str _) .nil))
        | cl x =>
          obtain ⟨sa, sxs, rfl, hss, hsa, hsl⟩ := len_ok hdp1
          cases hsa with
          | cons h0 hsa =>
          cases h0
          refine ⟨_, rfl, _, _, _, _, rfl, rfl, hss, at0 _ _, ?_⟩
          refine ⟨_, rfl, (by show 2 ≤ sizeLine; decide), fun z1 hz1 => ⟨z1, _, rfl, .inr (SqT.of upd_same), rfl, rfl, _, rfl, ?_⟩⟩
          have sz := same_new hz1 (.tup [.str "do", .str "undo"])
          have hss1 := (Tk.same sz).sqt hss
          have hF2 := sz _ _ hF1
          have hv2 := (Tk.same sz).dps _ (tup_ds _) hv1
          have s02 := s1.trans sz
          have t12 : Tk H1 (upd H1 z1 (.tup [.str "do", .str "undo"])) := Tk.same sz
          generalize upd H1 z1 (.tup [.str "do", .str "undo"]) = H2 at hss1 hF2 hv2 s02 t12
          refine ifF (by decide +kernel) ?_
          refine ⟨_, rfl, rfl, _, rfl, ?_⟩
          rw [dec_str]
          refine ifT (by decide +kernel) ?_
          cases hsa with
          | cons h1 hsa =>
          cases h1
          have dg : DGet H2 d1 (.str x) (some (.str (fn M1 x))) := by
            have := DGet.k (k := Sum.inr x) (s02 _ _ hd1)
            rw [fn_val (hN1 x hso)] at this
            exact this
          refine ⟨_, rfl, .inl ⟨rfl, _, SqL.of hF2⟩, _, rfl, _, rfl, pr, _, _, _, rfl, rfl, SqL.of (s02 _ _ hpr), at1 _ _ _, _, rfl, _, _, _, _, rfl, rfl, hss1, at1 _ _ _, d1, _, rfl, dg, (by show 2 ≤ sizeLine; decide), fun z3 hz3 => ?_⟩
          have s3 := same_new hz3 (.tup [.str "call", .str (fn M1 x)])
          refine ⟨F, _, _, rfl, rfl, (s3) _ _ hF2, Nat.lt_of_le_of_lt (show vs.length ≤ 1000 by omega) (by decide), ?_⟩
          have tP := Tk.put ((s3) _ _ hF2) (.lst (vs ++ [.ref z3]))
          refine ⟨_, _, _, vs ++ [.ref z3], rfl, upd_same, ?_, fun qq oo e => by rw [upd_ne (nF qq oo e)]; exact (s02.trans (s3)) _ _ e⟩
          rw [htake, rens_snoc, ds_snoc]
          refine dps_app (((Tk.same (s3)).trans tP).dps _ (tup_ds _) hv2) (.cons ?_ .nil)
          exact .tup (tP.sqt (SqT.of upd_same)) (.cons (.str _) (.cons (.str _) .nil))
        | ch bs =>
          obtain ⟨sa, sxs, rfl, hss, hsa, hsl⟩ := len_ok hdp1
          cases hsa with
          | cons h0 hsa =>
          cases h0
          refine ⟨_, rfl, _, _, _, _, rfl, rfl, hss, at0 _ _, ?_⟩
          refine ⟨_, rfl, (by show 2 ≤ sizeLine; decide), fun z1 hz1 => ⟨z1, _, rfl, .inr (SqT.of upd_same), rfl, rfl, _, rfl, ?_⟩⟩
          have sz := same_new hz1 (.tup [.str "do", .str "undo"])
          have hss1 := (Tk.same sz).sqt hss
          have hF2 := sz _ _ hF1
          have hv2 := (Tk.same sz).dps _ (tup_ds _) hv1
          have s02 := s1.trans sz
          have t12 : Tk H1 (upd H1 z1 (.tup [.str "do", .str "undo"])) := Tk.same sz
          generalize upd H1 z1 (.tup [.str "do", .str "undo"]) = H2 at hss1 hF2 hv2 s02 t12
          refine ifF (by decide +kernel) ?_
          refine ⟨_, rfl, rfl, _, rfl, ?_⟩
          rw [dec_str]
          refine ifF (by decide +kernel) ?_
          refine ⟨_, rfl, rfl, _, rfl, ?_⟩
          rw [dec_str]
          refine ifT (by decide +kernel) ?_
          cases hsa with
          | @cons v1 _ _ _ h1 hsa =>
          cases hsa
          obtain ⟨ba, bxs, rfl, hbs, hba, hbl'⟩ := len_ok (show Dp K H2 v1 (.tuple (dss (St.ch bs).bs)) from t12.dp (.tuple (dss bs)) (tup_dss bs) h1)
          have bs6 := hso.2.1
          have sB : Same H2 H2 := fun _ _ e => e
          refine ⟨_, rfl, .inl ⟨rfl, _, SqL.of hF2⟩, _, rfl, _, rfl, _, _, _, _, rfl, rfl, hss1, at1 _ _ _, ba, rfl, ⟨_, hbs⟩, fun D hD => ?_⟩
          have hblen : bxs.length = ((St.ch bs).bs).length := by rw [dps_len hba, dss_len]
          refine lc_tup (xs := bxs) (fun j H' => ∃ ws, H' D = some (.lst ws) ∧ DpAll K H' ws (dss (renss (fn M0) (fn M1) (((St.ch bs).bs).take j))) ∧ Same H2 H') ⟨[], upd_same, .nil, same_new hD _⟩ ?_ ?_ ?_
          · rintro j H' _ ⟨_, _, _, s5⟩
            exact (Tk.same s5).sqt hbs
          · rintro j y H5 hy ⟨ws, hw1, hw2, s5⟩
            obtain ⟨dd, hdd, hdp5⟩ := dps_get' hba hy
            obtain ⟨cc, hcb, rfl⟩ : ∃ cc, ((St.ch bs).bs)[j]? = some cc ∧ dd = .tuple (ds cc) := by
              rw [dss_map, List.getElem?_map] at hdd
              cases e : ((St.ch bs).bs)[j]? with
              | none => rw [e] at hdd; cases hdd
              | some cc => rw [e] at hdd; exact ⟨cc, rfl, (Option.some.inj hdd).symm⟩
            have hcm : cc ∈ (St.ch bs).bs := List.mem_of_getElem? hcb
            obtain ⟨sec', hco⟩ := ok_bs hso cc hcm
            have hck := k_of_bs _ cc hcm
            have hcn := nss_mem hcm
            have hjl := (List.getElem?_eq_some_iff.mp hcb).1
            have hb6 : ((St.ch bs).bs).length ≤ 6 := bs6
            have sB5 := s02.trans (sB.trans s5)
            have hlc := len_ns cc
            refine ⟨rfl, _, rfl, _, rfl, y, pr, d0, d1, cc, L, N, sec', M0, M1, rfl, (Tk.same s5).dp (.tuple (ds cc)) (tup_ds cc) hdp5, sB5 _ _ hpr, sB5 _ _ hd0, sB5 _ _ hd1, hL0, hN1, by omega, by omega, by omega, hco, fun H6 v6 s6 hv6 => ?_⟩
            have hw6 := s6 _ _ hw1
            have tD := Tk.put hw6 (.lst (ws ++ [v6]))
            have hwl := dps_len hw2
            rw [dss_len, renss_map, List.length_map, List.length_take] at hwl
            have nD : ∀ q o, H2 q = some o → q ≠ D := fun q o e z => by rw [z, hD] at e; cases e
            refine ⟨ws, hw6, Nat.lt_of_le_of_lt (show ws.length ≤ 6 by omega) (by decide), ws ++ [v6], upd_same, ?_, fun q o e => by rw [upd_ne (nD q o e)]; exact s6 _ _ (s5 _ _ e)⟩
            rw [List.take_succ, hcb]
            show DpAll K _ _ (dss (renss (fn M0) (fn M1) (((St.ch bs).bs).take j ++ [cc])))
            rw [renss_snoc, dss_snoc]
            exact dps_app (((Tk.same s6).trans tD).dps _ (tup_dss _) hw2) (.cons (tD.dp (.tuple (ds (rens (fn M0) (fn M1) cc))) (tup_ds _) hv6) .nil)
          rintro H5 ⟨ws, hw1, hw2, s5⟩
          rw [hblen, List.take_length] at hw2
          refine ⟨D, _, rfl, .inl ⟨SqL.of hw1, fun z3 hz3 => ⟨(by show 2 ≤ sizeLine; decide), fun z4 hz4 => ?_⟩⟩⟩
          have s3 := same_new hz3 (.tup ws)
          have s4 := same_new hz4 (.tup [.str "choose", .ref z3])
          refine ⟨F, _, _, rfl, rfl, (s5.trans (s3.trans s4)) _ _ hF2, Nat.lt_of_le_of_lt (show vs.length ≤ 1000 by omega) (by decide), ?_⟩
          have tP := Tk.put ((s5.trans (s3.trans s4)) _ _ hF2) (.lst (vs ++ [.ref z4]))
          refine ⟨_, _, _, vs ++ [.ref z4], rfl, upd_same, ?_, fun qq oo e => by rw [upd_ne (nF qq oo e)]; exact (s02.trans (s5.trans (s3.trans s4))) _ _ e⟩
          rw [htake, rens_snoc, ds_snoc]
          refine dps_app (((Tk.same (s5.trans (s3.trans s4))).trans tP).dps _ (tup_ds _) hv2) (.cons ?_ .nil)
          exact .tup (tP.sqt (SqT.of upd_same)) (.cons (.str _) (.cons (.tup (((Tk.same s4).trans tP).sqt (SqT.of upd_same)) ((((Tk.same s3).trans (Tk.same s4)).trans tP).dps _ (tup_dss _) hw2)) .nil))
        | lp c =>
          obtain ⟨sa, sxs, rfl, hss, hsa, hsl⟩ := len_ok hdp1
          cases hsa with
          | cons h0 hsa =>
          cases h0
          refine ⟨_, rfl, _, _, _, _, rfl, rfl, hss, at0 _ _, ?_⟩
          refine ⟨_, rfl, (by show 2 ≤ sizeLine; decide), fun z1 hz1 => ⟨z1, _, rfl, .inr (SqT.of upd_same), rfl, rfl, _, rfl, ?_⟩⟩
          have sz := same_new hz1 (.tup [.str "do", .str "undo"])
          have hss1 := (Tk.same sz).sqt hss
          have hF2 := sz _ _ hF1
          have hv2 := (Tk.same sz).dps _ (tup_ds _) hv1
          have s02 := s1.trans sz
          have t12 : Tk H1 (upd H1 z1 (.tup [.str "do", .str "undo"])) := Tk.same sz
          generalize upd H1 z1 (.tup [.str "do", .str "undo"]) = H2 at hss1 hF2 hv2 s02 t12
          refine ifF (by decide +kernel) ?_
          refine ⟨_, rfl, rfl, _, rfl, ?_⟩
          rw [dec_str]
          refine ifF (by decide +kernel) ?_
          refine ⟨_, rfl, rfl, _, rfl, ?_⟩
          rw [dec_str]
          refine ifF (by decide +kernel) ?_
          cases hsa with
          | @cons v1 _ _ _ h1 hsa =>
          cases hsa
          have hbaX : DpAll K H2 [v1] (dss (St.lp c).bs) := (.cons (t12.dp (.tuple (ds c)) (tup_ds c) h1) .nil)
          refine ⟨_, rfl, .inl ⟨rfl, _, SqL.of hF2⟩, _, rfl, (by show 1 ≤ sizeLine; decide), fun z2 hz2 => ?_⟩
          have sz2 := same_new hz2 (.tup [.str "loop"])
          refine ⟨_, rfl, 1, rfl, _, _, rfl, (Tk.same sz2).sqt hss1, fun w => absurd w.1 (by show ¬ (HT.sIx 2 0 (some 1) = 0); decide), fun _ ba hba' => ?_⟩
          rw [tail1]
          have sba := same_new hba' (.tup [v1])
          have sB := sz2.trans sba
          have hbs : SqT K (upd (upd H2 z2 (.tup [.str "loop"])) ba (.tup [v1])) ba [v1] := SqT.of upd_same
          have hz2B : SqT K (upd (upd H2 z2 (.tup [.str "loop"])) ba (.tup [v1])) z2 [.str "loop"] := (Tk.same sba).sqt (SqT.of upd_same)
          have hba : DpAll K (upd (upd H2 z2 (.tup [.str "loop"])) ba (.tup [v1])) [v1] (dss (St.lp c).bs) := (Tk.same sB).dps _ (tup_dss _) hbaX
          show (fun HX => _) (upd (upd H2 z2 (.tup [.str "loop"])) ba (.tup [v1]))
          generalize upd (upd H2 z2 (.tup [.str "loop"])) ba (.tup [v1]) = HB at sB hbs hba hz2B
          obtain ⟨bxs, ebx⟩ : ∃ l : List V, l = [v1] := ⟨_, rfl⟩
          rw [← ebx] at hbs hba
          have bs6 : (St.lp c).bs.length ≤ 6 := by simp [St.bs]
          refine ⟨ba, rfl, ⟨_, hbs⟩, fun D hD => ?_⟩
          have hblen : bxs.length = ((St.lp c).bs).length := by rw [dps_len hba, dss_len]
          refine lc_tup (xs := bxs) (fun j H' => ∃ ws, H' D = some (.lst ws) ∧ DpAll K H' ws (dss (renss (fn M0) (fn M1) (((St.lp c).bs).take j))) ∧ Same HB H') ⟨[], upd_same, .nil, same_new hD _⟩ ?_ ?_ ?_
          · rintro j H' _ ⟨_, _, _, s5⟩
            exact (Tk.same s5).sqt hbs
          · rintro j y H5 hy ⟨ws, hw1, hw2, s5⟩
            obtain ⟨dd, hdd, hdp5⟩ := dps_get' hba hy
            obtain ⟨cc, hcb, rfl⟩ : ∃ cc, ((St.lp c).bs)[j]? = some cc ∧ dd = .tuple (ds cc) := by
              rw [dss_map, List.getElem?_map] at hdd
              cases e : ((St.lp c).bs)[j]? with
              | none => rw [e] at hdd; cases hdd
              | some cc => rw [e] at hdd; exact ⟨cc, rfl, (Option.some.inj hdd).symm⟩
            have hcm : cc ∈ (St.lp c).bs := List.mem_of_getElem? hcb
            obtain ⟨sec', hco⟩ := ok_bs hso cc hcm
            have hck := k_of_bs _ cc hcm
            have hcn := nss_mem hcm
            have hjl := (List.getElem?_eq_some_iff.mp hcb).1
            have hb6 : ((St.lp c).bs).length ≤ 6 := bs6
            have sB5 := s02.trans (sB.trans s5)
            have hlc := len_ns cc
            refine ⟨rfl, _, rfl, _, rfl, y, pr, d0, d1, cc, L, N, sec', M0, M1, rfl, (Tk.same s5).dp (.tuple (ds cc)) (tup_ds cc) hdp5, sB5 _ _ hpr, sB5 _ _ hd0, sB5 _ _ hd1, hL0, hN1, by omega, by omega, by omega, hco, fun H6 v6 s6 hv6 => ?_⟩
            have hw6 := s6 _ _ hw1
            have tD := Tk.put hw6 (.lst (ws ++ [v6]))
            have hwl := dps_len hw2
            rw [dss_len, renss_map, List.length_map, List.length_take] at hwl
            have nD : ∀ q o, HB q = some o → q ≠ D := fun q o e z => by rw [z, hD] at e; cases e
            refine ⟨ws, hw6, Nat.lt_of_le_of_lt (show ws.length ≤ 6 by omega) (by decide), ws ++ [v6], upd_same, ?_, fun q o e => by rw [upd_ne (nD q o e)]; exact s6 _ _ (s5 _ _ e)⟩
            rw [List.take_succ, hcb]
            show DpAll K _ _ (dss (renss (fn M0) (fn M1) (((St.lp c).bs).take j ++ [cc])))
            rw [renss_snoc, dss_snoc]
            exact dps_app (((Tk.same s6).trans tD).dps _ (tup_dss _) hw2) (.cons (tD.dp (.tuple (ds (rens (fn M0) (fn M1) cc))) (tup_ds _) hv6) .nil)
          rintro H5 ⟨ws, hw1, hw2, s5⟩
          rw [hblen, List.take_length] at hw2
          refine ⟨D, _, rfl, .inl ⟨SqL.of hw1, fun z3 hz3 => ?_⟩⟩
          have s3 := same_new hz3 (.tup ws)
          have hwl := dps_len hw2
          refine ⟨z2, z3, _, ws, rfl, rfl, (Tk.same (s5.trans s3)).sqt hz2B, SqT.of upd_same, Nat.le_trans (show 1 + ws.length ≤ 7 by rw [hwl, dss_len, renss_map, List.length_map]; omega) (by decide), fun z => (by cases z), fun _ z => ?_, fun _ _ z4 hz4 => ?_⟩
          · rw [z] at hwl; exact absurd hwl (by simp [dss, renss, St.bs])
          have s4 := same_new hz4 (.tup (([.str "loop"] : List V) ++ ws))
          refine ⟨F, _, _, rfl, rfl, (sB.trans (s5.trans (s3.trans s4))) _ _ hF2, Nat.lt_of_le_of_lt (show vs.length ≤ 1000 by omega) (by decide), ?_⟩
          have tP := Tk.put ((sB.trans (s5.trans (s3.trans s4))) _ _ hF2) (.lst (vs ++ [.ref z4]))
          refine ⟨_, _, _, vs ++ [.ref z4], rfl, upd_same, ?_, fun qq oo e => by rw [upd_ne (nF qq oo e)]; exact (s02.trans (sB.trans (s5.trans (s3.trans s4)))) _ _ e⟩
          rw [htake, rens_snoc, ds_snoc]
          refine dps_app (((Tk.same (sB.trans (s5.trans (s3.trans s4)))).trans tP).dps _ (tup_ds _) hv2) (.cons ?_ .nil)
          exact .tup (tP.sqt (SqT.of upd_same)) (.cons (.str _) ((((Tk.same s3).trans (Tk.same s4)).trans tP).dps (dss (renss (fn M0) (fn M1) (St.lp c).bs)) (tup_dss _) hw2))
        | rt =>
          obtain ⟨sa, sxs, rfl, hss, hsa, hsl⟩ := len_ok hdp1
          cases hsa with
          | cons h0 hsa =>
          cases h0
          refine ⟨_, rfl, _, _, _, _, rfl, rfl, hss, at0 _ _, ?_⟩
          refine ⟨_, rfl, (by show 2 ≤ sizeLine; decide), fun z1 hz1 => ⟨z1, _, rfl, .inr (SqT.of upd_same), rfl, rfl, _, rfl, ?_⟩⟩
          have sz := same_new hz1 (.tup [.str "do", .str "undo"])
          have hss1 := (Tk.same sz).sqt hss
          have hF2 := sz _ _ hF1
          have hv2 := (Tk.same sz).dps _ (tup_ds _) hv1
          have s02 := s1.trans sz
          have t12 : Tk H1 (upd H1 z1 (.tup [.str "do", .str "undo"])) := Tk.same sz
          generalize upd H1 z1 (.tup [.str "do", .str "undo"]) = H2 at hss1 hF2 hv2 s02 t12
          refine ifF (by decide +kernel) ?_
          refine ⟨_, rfl, rfl, _, rfl, ?_⟩
          rw [dec_str]
          refine ifF (by decide +kernel) ?_
          refine ⟨_, rfl, rfl, _, rfl, ?_⟩
          rw [dec_str]
          refine ifF (by decide +kernel) ?_
          cases hsa
          have hbaX : DpAll K H2 [] (dss (St.rt).bs) := .nil
          refine ⟨_, rfl, .inl ⟨rfl, _, SqL.of hF2⟩, _, rfl, (by show 1 ≤ sizeLine; decide), fun z2 hz2 => ?_⟩
          have sz2 := same_new hz2 (.tup [.str "return"])
          refine ⟨_, rfl, 1, rfl, _, _, rfl, (Tk.same sz2).sqt hss1, fun w => absurd w.1 (by show ¬ (HT.sIx 1 0 (some 1) = 0); decide), fun _ ba hba' => ?_⟩
          rw [tail0]
          have sba := same_new hba' (.tup [])
          have sB := sz2.trans sba
          have hbs : SqT K (upd (upd H2 z2 (.tup [.str "return"])) ba (.tup [])) ba [] := SqT.of upd_same
          have hz2B : SqT K (upd (upd H2 z2 (.tup [.str "return"])) ba (.tup [])) z2 [.str "return"] := (Tk.same sba).sqt (SqT.of upd_same)
          have hba : DpAll K (upd (upd H2 z2 (.tup [.str "return"])) ba (.tup [])) [] (dss (St.rt).bs) := (Tk.same sB).dps _ (tup_dss _) hbaX
          show (fun HX => _) (upd (upd H2 z2 (.tup [.str "return"])) ba (.tup []))
          generalize upd (upd H2 z2 (.tup [.str "return"])) ba (.tup []) = HB at sB hbs hba hz2B
          obtain ⟨bxs, ebx⟩ : ∃ l : List V, l = [] := ⟨_, rfl⟩
          rw [← ebx] at hbs hba
          have bs6 : (St.rt).bs.length ≤ 6 := by simp [St.bs]
          refine ⟨ba, rfl, ⟨_, hbs⟩, fun D hD => ?_⟩
          have hblen : bxs.length = ((St.rt).bs).length := by rw [dps_len hba, dss_len]
          refine lc_tup (xs := bxs) (fun j H' => ∃ ws, H' D = some (.lst ws) ∧ DpAll K H' ws (dss (renss (fn M0) (fn M1) (((St.rt).bs).take j))) ∧ Same HB H') ⟨[], upd_same, .nil, same_new hD _⟩ ?_ ?_ ?_
          · rintro j H' _ ⟨_, _, _, s5⟩
            exact (Tk.same s5).sqt hbs
          · rintro j y H5 hy ⟨ws, hw1, hw2, s5⟩
            obtain ⟨dd, hdd, hdp5⟩ := dps_get' hba hy
            obtain ⟨cc, hcb, rfl⟩ : ∃ cc, ((St.rt).bs)[j]? = some cc ∧ dd = .tuple (ds cc) := by
              rw [dss_map, List.getElem?_map] at hdd
              cases e : ((St.rt).bs)[j]? with
              | none => rw [e] at hdd; cases hdd
              | some cc => rw [e] at hdd; exact ⟨cc, rfl, (Option.some.inj hdd).symm⟩
            have hcm : cc ∈ (St.rt).bs := List.mem_of_getElem? hcb
            obtain ⟨sec', hco⟩ := ok_bs hso cc hcm
            have hck := k_of_bs _ cc hcm
            have hcn := nss_mem hcm
            have hjl := (List.getElem?_eq_some_iff.mp hcb).1
            have hb6 : ((St.rt).bs).length ≤ 6 := bs6
            have sB5 := s02.trans (sB.trans s5)
            have hlc := len_ns cc
            refine ⟨rfl, _, rfl, _, rfl, y, pr, d0, d1, cc, L, N, sec', M0, M1, rfl, (Tk.same s5).dp (.tuple (ds cc)) (tup_ds cc) hdp5, sB5 _ _ hpr, sB5 _ _ hd0, sB5 _ _ hd1, hL0, hN1, by omega, by omega, by omega, hco, fun H6 v6 s6 hv6 => ?_⟩
            have hw6 := s6 _ _ hw1
            have tD := Tk.put hw6 (.lst (ws ++ [v6]))
            have hwl := dps_len hw2
            rw [dss_len, renss_map, List.length_map, List.length_take] at hwl
            have nD : ∀ q o, HB q = some o → q ≠ D := fun q o e z => by rw [z, hD] at e; cases e
            refine ⟨ws, hw6, Nat.lt_of_le_of_lt (show ws.length ≤ 6 by omega) (by decide), ws ++ [v6], upd_same, ?_, fun q o e => by rw [upd_ne (nD q o e)]; exact s6 _ _ (s5 _ _ e)⟩
            rw [List.take_succ, hcb]
            show DpAll K _ _ (dss (renss (fn M0) (fn M1) (((St.rt).bs).take j ++ [cc])))
            rw [renss_snoc, dss_snoc]
            exact dps_app (((Tk.same s6).trans tD).dps _ (tup_dss _) hw2) (.cons (tD.dp (.tuple (ds (rens (fn M0) (fn M1) cc))) (tup_ds _) hv6) .nil)
          rintro H5 ⟨ws, hw1, hw2, s5⟩
          rw [hblen, List.take_length] at hw2
          refine ⟨D, _, rfl, .inl ⟨SqL.of hw1, fun z3 hz3 => ?_⟩⟩
          have s3 := same_new hz3 (.tup ws)
          have hwl := dps_len hw2
          have hw0 : ws = [] := List.eq_nil_of_length_eq_zero hwl
          refine ⟨z2, z3, _, ws, rfl, rfl, (Tk.same (s5.trans s3)).sqt hz2B, SqT.of upd_same, by rw [hw0]; decide, fun z => (by cases z), fun _ _ => ?_, fun _ z => absurd hw0 z⟩
          refine ⟨F, _, _, rfl, rfl, (sB.trans (s5.trans s3)) _ _ hF2, Nat.lt_of_le_of_lt (show vs.length ≤ 1000 by omega) (by decide), ?_⟩
          have tP := Tk.put ((sB.trans (s5.trans s3)) _ _ hF2) (.lst (vs ++ [.ref z2]))
          refine ⟨_, _, _, vs ++ [.ref z2], rfl, upd_same, ?_, fun qq oo e => by rw [upd_ne (nF qq oo e)]; exact (s02.trans (sB.trans (s5.trans s3))) _ _ e⟩
          rw [htake, rens_snoc, ds_snoc]
          refine dps_app (((Tk.same (sB.trans (s5.trans s3))).trans tP).dps _ (tup_ds _) hv2) (.cons ?_ .nil)
          exact .tup (((Tk.same (s5.trans s3)).trans tP).sqt hz2B) (.cons (.str _) .nil)
        | en c e =>
          obtain ⟨sa, sxs, rfl, hss, hsa, hsl⟩ := len_ok hdp1
          cases hsa with
          | cons h0 hsa =>
          cases h0
          refine ⟨_, rfl, _, _, _, _, rfl, rfl, hss, at0 _ _, ?_⟩
          refine ⟨_, rfl, (by show 2 ≤ sizeLine; decide), fun z1 hz1 => ⟨z1, _, rfl, .inr (SqT.of upd_same), rfl, rfl, _, rfl, ?_⟩⟩
          have sz := same_new hz1 (.tup [.str "do", .str "undo"])
          have hss1 := (Tk.same sz).sqt hss
          have hF2 := sz _ _ hF1
          have hv2 := (Tk.same sz).dps _ (tup_ds _) hv1
          have s02 := s1.trans sz
          have t12 : Tk H1 (upd H1 z1 (.tup [.str "do", .str "undo"])) := Tk.same sz
          generalize upd H1 z1 (.tup [.str "do", .str "undo"]) = H2 at hss1 hF2 hv2 s02 t12
          refine ifF (by decide +kernel) ?_
          refine ⟨_, rfl, rfl, _, rfl, ?_⟩
          rw [dec_str]
          refine ifF (by decide +kernel) ?_
          refine ⟨_, rfl, rfl, _, rfl, ?_⟩
          rw [dec_str]
          refine ifF (by decide +kernel) ?_
          cases hsa with
          | @cons v1 _ _ _ h1 hsa =>
          cases hsa with
          | @cons v2 _ _ _ h2 hsa =>
          cases hsa
          have hbaX : DpAll K H2 [v1, v2] (dss (St.en c e).bs) := (.cons (t12.dp (.tuple (ds c)) (tup_ds c) h1) (.cons (t12.dp (.tuple (ds e)) (tup_ds e) h2) .nil))
          refine ⟨_, rfl, .inl ⟨rfl, _, SqL.of hF2⟩, _, rfl, (by show 1 ≤ sizeLine; decide), fun z2 hz2 => ?_⟩
          have sz2 := same_new hz2 (.tup [.str "ensure"])
          refine ⟨_, rfl, 1, rfl, _, _, rfl, (Tk.same sz2).sqt hss1, fun w => absurd w.1 (by show ¬ (HT.sIx 3 0 (some 1) = 0); decide), fun _ ba hba' => ?_⟩
          rw [tail2]
          have sba := same_new hba' (.tup [v1, v2])
          have sB := sz2.trans sba
          have hbs : SqT K (upd (upd H2 z2 (.tup [.str "ensure"])) ba (.tup [v1, v2])) ba [v1, v2] := SqT.of upd_same
          have hz2B : SqT K (upd (upd H2 z2 (.tup [.str "ensure"])) ba (.tup [v1, v2])) z2 [.str "ensure"] := (Tk.same sba).sqt (SqT.of upd_same)
          have hba : DpAll K (upd (upd H2 z2 (.tup [.str "ensure"])) ba (.tup [v1, v2])) [v1, v2] (dss (St.en c e).bs) := (Tk.same sB).dps _ (tup_dss _) hbaX
          show (fun HX => _) (upd (upd H2 z2 (.tup [.str "ensure"])) ba (.tup [v1, v2]))
          generalize upd (upd H2 z2 (.tup [.str "ensure"])) ba (.tup [v1, v2]) = HB at sB hbs hba hz2B
          obtain ⟨bxs, ebx⟩ : ∃ l : List V, l = [v1, v2] := ⟨_, rfl⟩
          rw [← ebx] at hbs hba
          have bs6 : (St.en c e).bs.length ≤ 6 := by simp [St.bs]
          refine ⟨ba, rfl, ⟨_, hbs⟩, fun D hD => ?_⟩
          have hblen : bxs.length = ((St.en c e).bs).length := by rw [dps_len hba, dss_len]
          refine lc_tup (xs := bxs) (fun j H' => ∃ ws, H' D = some (.lst ws) ∧ DpAll K H' ws (dss (renss (fn M0) (fn M1) (((St.en c e).bs).take j))) ∧ Same HB H') ⟨[], upd_same, .nil, same_new hD _⟩ ?_ ?_ ?_
          · rintro j H' _ ⟨_, _, _, s5⟩
            exact (Tk.same s5).sqt hbs
          · rintro j y H5 hy ⟨ws, hw1, hw2, s5⟩
            obtain ⟨dd, hdd, hdp5⟩ := dps_get' hba hy
            obtain ⟨cc, hcb, rfl⟩ : ∃ cc, ((St.en c e).bs)[j]? = some cc ∧ dd = .tuple (ds cc) := by
              rw [dss_map, List.getElem?_map] at hdd
              cases e : ((St.en c e).bs)[j]? with
              | none => rw [e] at hdd; cases hdd
              | some cc => rw [e] at hdd; exact ⟨cc, rfl, (Option.some.inj hdd).symm⟩
            have hcm : cc ∈ (St.en c e).bs := List.mem_of_getElem? hcb
            obtain ⟨sec', hco⟩ := ok_bs hso cc hcm
            have hck := k_of_bs _ cc hcm
            have hcn := nss_mem hcm
            have hjl := (List.getElem?_eq_some_iff.mp hcb).1
            have hb6 : ((St.en c e).bs).length ≤ 6 := bs6
            have sB5 := s02.trans (sB.trans s5)
            have hlc := len_ns cc
            refine ⟨rfl, _, rfl, _, rfl, y, pr, d0, d1, cc, L, N, sec', M0, M1, rfl, (Tk.same s5).dp (.tuple (ds cc)) (tup_ds cc) hdp5, sB5 _ _ hpr, sB5 _ _ hd0, sB5 _ _ hd1, hL0, hN1, by omega, by omega, by omega, hco, fun H6 v6 s6 hv6 => ?_⟩
            have hw6 := s6 _ _ hw1
            have tD := Tk.put hw6 (.lst (ws ++ [v6]))
            have hwl := dps_len hw2
            rw [dss_len, renss_map, List.length_map, List.length_take] at hwl
            have nD : ∀ q o, HB q = some o → q ≠ D := fun q o e z => by rw [z, hD] at e; cases e
            refine ⟨ws, hw6, Nat.lt_of_le_of_lt (show ws.length ≤ 6 by omega) (by decide), ws ++ [v6], upd_same, ?_, fun q o e => by rw [upd_ne (nD q o e)]; exact s6 _ _ (s5 _ _ e)⟩
            rw [List.take_succ, hcb]
            show DpAll K _ _ (dss (renss (fn M0) (fn M1) (((St.en c e).bs).take j ++ [cc])))
            rw [renss_snoc, dss_snoc]
            exact dps_app (((Tk.same s6).trans tD).dps _ (tup_dss _) hw2) (.cons (tD.dp (.tuple (ds (rens (fn M0) (fn M1) cc))) (tup_ds _) hv6) .nil)
          rintro H5 ⟨ws, hw1, hw2, s5⟩
          rw [hblen, List.take_length] at hw2
          refine ⟨D, _, rfl, .inl ⟨SqL.of hw1, fun z3 hz3 => ?_⟩⟩
          have s3 := same_new hz3 (.tup ws)
          have hwl := dps_len hw2
          refine ⟨z2, z3, _, ws, rfl, rfl, (Tk.same (s5.trans s3)).sqt hz2B, SqT.of upd_same, Nat.le_trans (show 1 + ws.length ≤ 7 by rw [hwl, dss_len, renss_map, List.length_map]; omega) (by decide), fun z => (by cases z), fun _ z => ?_, fun _ _ z4 hz4 => ?_⟩
          · rw [z] at hwl; exact absurd hwl (by simp [dss, renss, St.bs])
          have s4 := same_new hz4 (.tup (([.str "ensure"] : List V) ++ ws))
          refine ⟨F, _, _, rfl, rfl, (sB.trans (s5.trans (s3.trans s4))) _ _ hF2, Nat.lt_of_le_of_lt (show vs.length ≤ 1000 by omega) (by decide), ?_⟩
          have tP := Tk.put ((sB.trans (s5.trans (s3.trans s4))) _ _ hF2) (.lst (vs ++ [.ref z4]))
          refine ⟨_, _, _, vs ++ [.ref z4], rfl, upd_same, ?_, fun qq oo e => by rw [upd_ne (nF qq oo e)]; exact (s02.trans (sB.trans (s5.trans (s3.trans s4)))) _ _ e⟩
          rw [htake, rens_snoc, ds_snoc]
          refine dps_app (((Tk.same (sB.trans (s5.trans (s3.trans s4)))).trans tP).dps _ (tup_ds _) hv2) (.cons ?_ .nil)
          exact .tup (tP.sqt (SqT.of upd_same)) (.cons (.str _) ((((Tk.same s3).trans (Tk.same s4)).trans tP).dps (dss (renss (fn M0) (fn M1) (St.en c e).bs)) (tup_dss _) hw2))
    · rintro σ H1 ⟨b3, b4, b5, vs, rfl, hF1, hv1, s1⟩
      rw [hlb, List.take_length] at hv1
      refine ⟨_, rfl, F, _, rfl, .inl ⟨SqL.of hF1, fun z hz => ?_⟩⟩
      have sz := same_new hz (.tup vs)
      exact q _ _ (s1.trans sz) (.tup (SqT.of upd_same) ((Tk.same sz).dps _ (tup_ds _) hv1))
end
end K06


set_option Elab.async false
set_option linter.all false
set_option maxRecDepth 100000
set_option maxHeartbeats 8000000
namespace K06
open PySem PySem.Spec PyProof.Rows L2
/-! ### sums and slices of tuples, as data -/
theorem catA_dp {K : PySem.W.Frag} {H : Hp} {x y : V} {d1 d2 : List PyData} {Q : VK} (hx : Dp K H x (.tuple d1)) (hy : Dp K H y (.tuple d2)) (hl : d1.length + d2.length ≤ 1000) (t1 : TupDs d1) (t2 : TupDs d2)
    (q : ∀ v H', Same H H' → Dp K H' v (.tuple (d1 ++ d2)) → Q v H') : rCatA K x y H Q := by
  obtain ⟨a, xs, rfl, hs, ha, la⟩ := len_ok hx
  obtain ⟨b, ys, rfl, hb, hb2, lb⟩ := len_ok hy
  refine ⟨a, b, xs, ys, rfl, rfl, hs, hb, Nat.le_trans (by omega) (show 1000 ≤ sizeLine by decide), fun z => ?_, fun _ z => ?_, fun _ _ p hp => ?_⟩
  · have : d1 = [] := List.eq_nil_of_length_eq_zero (by rw [← la, z]; rfl)
    subst this
    exact q _ H (Same.refl H) (.tup hb hb2)
  · have : d2 = [] := List.eq_nil_of_length_eq_zero (by rw [← lb, z]; rfl)
    subst this
    rw [List.append_nil] at q
    exact q _ H (Same.refl H) (.tup hs ha)
  · have sp := same_new hp (.tup (xs ++ ys))
    exact q _ _ sp (.tup (SqT.of upd_same) (dps_app ((Tk.same sp).dps _ t1 ha) ((Tk.same sp).dps _ t2 hb2)))
theorem dps_take {K : PySem.W.Frag} {H : Hp} : ∀ {xs : List V} {d : List PyData} (i : Nat), DpAll K H xs d → DpAll K H (xs.take i) (d.take i)
  | _, _, 0, _ => by simpa using .nil
  | _, _, _ + 1, .nil => .nil
  | _, _, i + 1, .cons h r => .cons h (dps_take i r)
theorem dps_drop {K : PySem.W.Frag} {H : Hp} : ∀ {xs : List V} {d : List PyData} (i : Nat), DpAll K H xs d → DpAll K H (xs.drop i) (d.drop i)
  | _, _, 0, h => h
  | _, _, _ + 1, .nil => .nil
  | _, _, i + 1, .cons _ r => dps_drop i r
theorem tup_take : ∀ {d : List PyData} (i : Nat), TupDs d → TupDs (d.take i)
  | _, 0, _ => by rw [List.take_zero]; exact trivial
  | [], _ + 1, _ => trivial
  | _ :: _, i + 1, h => ⟨h.1, tup_take i h.2⟩
theorem tup_drop : ∀ {d : List PyData} (i : Nat), TupDs d → TupDs (d.drop i)
  | _, 0, h => h
  | [], _ + 1, h => h
  | _ :: _, i + 1, h => tup_drop i h.2
/-- t[lo:hi], lo and hi within the tuple -/
theorem sliceA_dp {K : PySem.W.Frag} {H : Hp} {x : V} {d : List PyData} {Q : VK} {lo hi : Option Int} {i j : Nat} (hx : Dp K H x (.tuple d)) (td : TupDs d) (hi1 : HT.sIx d.length 0 lo = i) (hj : HT.sIx d.length d.length hi = j)
    (q : ∀ v H', Same H H' → Dp K H' v (.tuple ((d.drop i).take (j - i))) → Q v H') : rSlA K x lo hi H Q := by
  obtain ⟨a, xs, rfl, hs, ha, la⟩ := len_ok hx
  refine ⟨a, xs, rfl, hs, fun z => ?_, fun _ p hp => ?_⟩
  · rw [la, hi1, hj] at z
    rw [z.1, z.2] at q
    have e : (d.drop 0).take (d.length - 0) = d := by simp
    rw [e] at q
    exact q _ H (Same.refl H) (.tup hs ha)
  · have sp := same_new hp (.tup (cutV xs lo hi))
    refine q _ _ sp (.tup (SqT.of upd_same) ?_)
    have e : cutV xs lo hi = (xs.drop i).take (j - i) := by
      unfold cutV
      rw [la, hi1, hj]
    have h2 := dps_take (j - i) (dps_drop i ((Tk.same sp).dps _ td ha))
    rw [← e] at h2
    exact h2
theorem sIx_lo {n i : Nat} (h : i ≤ n) : HT.sIx n 0 (some (i : Int)) = i := by
  rw [HT.sIx_nat]; omega
theorem sIx_hi {n i : Nat} (h : i ≤ n) : HT.sIx n n (some (i : Int)) = i := by
  rw [HT.sIx_nat]; omega
theorem ds_take (b : List St) (i : Nat) : (ds b).take i = ds (b.take i) := by rw [ds_map, ds_map, List.map_take]
theorem ds_drop (b : List St) (i : Nat) : (ds b).drop i = ds (b.drop i) := by rw [ds_map, ds_map, List.map_drop]
theorem dss_take (b : List (List St)) (i : Nat) : (dss b).take i = dss (b.take i) := by rw [dss_map, dss_map, List.map_take]
theorem dss_drop (b : List (List St)) (i : Nat) : (dss b).drop i = dss (b.drop i) := by rw [dss_map, dss_map, List.map_drop]
theorem ds_app (a b : List St) : ds (a ++ b) = ds a ++ ds b := by rw [ds_map, ds_map, ds_map, List.map_append]
theorem dss_app (a b : List (List St)) : dss (a ++ b) = dss a ++ dss b := by rw [dss_map, dss_map, dss_map, List.map_append]
end K06


set_option Elab.async false
set_option linter.all false
set_option maxRecDepth 100000
set_option maxHeartbeats 8000000
namespace K06
open PySem PySem.Spec PyProof.Rows L2
section
variable {P : Program} {w : World} {K : PySem.W.Frag} {mg : Str → Option Value} {base : Heap}
theorem no_all {f : Addr} {fd : FuncData} (F : C8.Def K mg "_law_names_of" (topS 51) f fd) (b : Binds K fd ["body"] []) (B : Bl K mg) : ∀ n : Nat, C8.Cal P w K mg base (n + 1) "_law_names_of" (spNO K n) []
  | 0 => by
    refine C8.cal0 (k := 0) F b .nil sc__law_names_of ?len ?body
    case len => rintro vs H Q E ⟨_, _, _, _, _, _, _, h, _⟩; exact absurd h (Nat.not_lt_zero _)
    case body => rintro cdv A outer s H vs Q E hr ⟨_, _, _, _, _, _, _, h, _⟩; exact absurd h (Nat.not_lt_zero _)
  | n + 1 => ok_no F b B (no_all F b B n)
theorem tb_all {f : Addr} {fd : FuncData} (F : C8.Def K mg "_law_turned_body" (topS 52) f fd) (b : Binds K fd ["body", "pairs"] []) (B : Bl K mg) : ∀ n : Nat, C8.Cal P w K mg base (n + 1) "_law_turned_body" (spTB K n) []
  | 0 => by
    refine C8.cal0 (k := 0) F b .nil sc__law_turned_body ?len ?body
    case len => rintro vs H Q E ⟨_, _, _, _, _, _, _, _, _, _, _, _, _, _, _, _, _, h, _⟩; exact absurd h (Nat.not_lt_zero _)
    case body => rintro cdv A outer s H vs Q E hr ⟨_, _, _, _, _, _, _, _, _, _, _, _, _, _, _, _, _, h, _⟩; exact absurd h (Nat.not_lt_zero _)
  | n + 1 => ok_tb F b B (tb_all F b B n)
end
end K06


set_option Elab.async false
set_option linter.all false
set_option maxRecDepth 100000
set_option maxHeartbeats 8000000
namespace K06
open PySem PySem.Spec PyProof.Rows L2
def LS (S L : List Str) (k : Nat) (H : Hp) (a : Addr) (X : List Str) : Prop := H a = some (.lst (X.map V.str)) ∧ (∀ y ∈ X, y ∈ S) ∧ (∀ y ∈ L, y ∈ X) ∧ X.length ≤ k
section
variable {P : Program} {w : World} {K : PySem.W.Frag} {mg : Str → Option Value} {base : Heap}
def spPairs (K : PySem.W.Frag) : Sp := fun vs H Q _ => ∃ (w l : Addr) (v : V) (c : Nat) (L : List Str) (Ps : List (Str × List St)) (AL BN : List Str), vs = [.ref w, v] ∧ Wl H w l (c + 2400) ∧ PD K H v L Ps ∧ Prog L Ps AL BN ∧ AL.length ≤ 40 ∧ BN.length ≤ 40 ∧ ∀ H' pr d0 d1 M0 M1, H' pr = some (.lst [.ref d0, .ref d1]) → H' d0 = some (.dK (DM M0)) → H' d1 = some (.dK (DM M1)) → (∀ y ∈ L, y ∈ M0.map Prod.fst) → (∀ y ∈ Ps.map Prod.fst, y ∈ M1.map Prod.fst) → (∀ b ∈ nsP Ps, oks (M0.map Prod.fst) (M1.map Prod.fst) false b) →
  (M0.map Prod.fst).Nodup → (M0.map Prod.snd).Nodup → Nok (M0.map Prod.snd) → (M1.map Prod.fst).Nodup → (M1.map Prod.snd).Nodup → Nok (M1.map Prod.snd) → Nok (M0.map Prod.fst) → Nok (M1.map Prod.fst) → Wl H' w l c → Kp [w, l] H H' → Tk H H' → Q (.ref pr) H'
theorem sc__law_pairs : FnScope ["well", "plan", "some", "procedure", "name", "body", "more"] ["well", "plan"] (C8.fnScope (topS 54)) := C8.fnScope_by (by decide +kernel)
theorem ok__law_pairs {f : Addr} {fd : FuncData} (F : C8.Def K mg "_law_pairs" (topS 54) f fd) (b : Binds K fd ["well", "plan"] []) (B : Bl K mg) (hlist : mg "list" = none) (c_no : C8.Cal P w K mg base 14 "_law_names_of" (spNO K 13) []) (c_pairing : C8.Cal P w K mg base 3 "_law_pairing" (spPairing K) []) : C8.Cal P w K mg base 15 "_law_pairs" (spPairs K) [] := by
  refine C8.cal0 F b .nil sc__law_pairs ?len ?body
  case len => rintro vs H Q E ⟨w, l, v, c, L, Ps, AL, BN, rfl, _⟩; rfl
  case body =>
    rintro cdv A outer s H vs Q E hr ⟨w, l, v, c, L, Ps, AL, BN, rfl, hW, hpd, hP, hAL, hBN, q⟩
    refine ⟨_, (pss_cons (ps_set (i := 2) sc__law_pairs.nd rfl (Or.inl rfl) (pe_lst (pa_cons (pe_callTy call_list_of rfl hlist (by decide +kernel) (pa_cons (pe_ix ix_tup (pv 1) pe_int (fun _ _ => rfl)) pa_nil)) (pa_cons (pe_lc (own := [("procedure", 3)]) (g := gName 3) (te := tOp (rIxT K) (tVar 3) (tC (.int 0))) (by rfl) sc__law_pairs.nd (pi_tup (pe_ix ix_tup (pv 1) pe_int (fun _ _ => rfl))) (blkOk_by (own := [("procedure", 3)]) (N := ["well", "plan", "some", "procedure", "name", "body", "more"]) (sc := (C8.fnScope (topS 54))) (by decide +kernel)) (fun _ _ _ _ _ => pg_name (i := 3) sc__law_pairs.nd rfl (Or.inl rfl)) (fun _ _ _ _ _ => pts_nil) (fun _ _ _ _ _ => by exact (pe_ix ix_tup (pv 3) pe_int (fun _ _ => rfl)))) pa_nil))))
    (pss_cons (ps_for PassesOwn.never rfl (pi_tup (pe_ix ix_tup (pv 1) pe_int (fun _ _ => rfl))) (pg_tup rfl (pgs_cons (pg_name (i := 4) sc__law_pairs.nd rfl (Or.inl rfl)) (pgs_cons (pg_name (i := 5) sc__law_pairs.nd rfl (Or.inl rfl)) pgs_nil)))
    (pss_cons (ps_set (i := 6) sc__law_pairs.nd rfl (Or.inl rfl) (C8.pe_c c_no hr (by decide) rfl (pa_cons (pv 5) pa_nil)))
    (pss_one (ps_set (i := 2) sc__law_pairs.nd rfl (Or.inl rfl) (pe_lst (pa_cons (pe_op op_cat (pe_ix ix_list (pv 2) pe_int (fun _ _ => rfl)) (pe_ix ix_tup (pv 6) pe_int (fun _ _ => rfl))) (pa_cons (pe_op op_cat (pe_ix ix_list (pv 2) pe_int (fun _ _ => rfl)) (pe_ix ix_tup (pv 6) pe_int (fun _ _ => rfl))) pa_nil)))))))
    (pss_one (ps_ret (pe_lst (pa_cons (C8.pe_c c_pairing hr (by decide) rfl (pa_cons (pv 0) (pa_cons (pe_ix ix_list (pv 2) pe_int (fun _ _ => rfl)) pa_nil))) (pa_cons (C8.pe_c c_pairing hr (by decide) rfl (pa_cons (pv 0) (pa_cons (pe_ix ix_list (pv 2) pe_int (fun _ _ => rfl)) pa_nil))) pa_nil))))))), ?_⟩
    obtain ⟨pga, la, pvv, rfl, hps0, hla, hpv⟩ := hpd.open
    have hkk := hP.ks
    obtain ⟨pa, pxs, rfl, hps, hpa, hpl⟩ := len_ok hpv
    rw [List.length_map] at hpl
    have hNlen : (Ps.map Prod.fst).length ≤ 8 := by rw [List.length_map]; exact hP.p2
    have hp2 := hP.p2
    have hl2 := hP.l2
    have hn2 := hP.n
    refine ⟨_, rfl, _, _, _, _, rfl, rfl, hps0, at0 _ _, la, _, rfl, .inr hla, fun x0 hx0 => ?_⟩
    have s1 := same_new hx0 (.lst (L.map V.str))
    refine ⟨_, rfl, _, _, _, _, rfl, rfl, (Tk.same s1).sqt hps0, at1 _ _ _, pa, rfl, ⟨_, (Tk.same s1).sqt hps⟩, fun D hD => ?_⟩
    have hDn : H D = none := by
      cases e : H D with
      | none => rfl
      | some o => rw [s1 _ _ e] at hD; cases hD
    refine lc_tup (xs := pxs) (fun i H' => H' D = some (.lst (((Ps.take i).map Prod.fst).map V.str)) ∧ Same (upd H x0 (.lst (L.map V.str))) H') ?_ ?_ ?_ ?_
    · exact ⟨by simpa using upd_same, same_new hD _⟩
    · rintro i H' _ ⟨_, s5⟩
      exact (Tk.same (s1.trans s5)).sqt hps
    · rintro i x H5 hx ⟨hv1, s5⟩
      obtain ⟨d, hd, hdp⟩ := dps_get' hpa hx
      obtain ⟨p, hp, rfl⟩ := procs_get hd
      have hd5 := (Tk.same (s1.trans s5)).dp _ (tup_proc p) hdp
      obtain ⟨qa, qxs, rfl, hqs, hqa, hql⟩ := len_ok hd5
      cases hqa with
      | @cons v0 _ _ _ h0 hqa =>
      cases h0
      refine ⟨rfl, ?_⟩
      refine ⟨_, rfl, _, _, _, _, rfl, rfl, hqs, at0 _ _, _, hv1, ?_, ?_, ?_⟩
      · have h3 : (Ps.take i).length ≤ Ps.length := List.length_take_le' _ _
        exact Nat.lt_of_le_of_lt (show _ ≤ 8 by rw [List.length_map, List.length_map]; omega) (by decide)
      · rw [upd_same, List.take_succ, hp]
        simp
      · intro qq oo e
        rw [upd_ne (fun z => by rw [z, hD] at e; cases e)]
        exact s5 _ _ e
    rintro H2 ⟨hD2, s2⟩
    rw [hpl, List.take_length] at hD2
    refine ⟨(by show 2 ≤ sizeLine; decide), fun sm hsm => ?_⟩
    have s3 := same_new hsm (.lst [.ref x0, .ref D])
    have hsmn : H sm = none := by
      cases e : H sm with
      | none => rfl
      | some o => rw [s2 _ _ (s1 _ _ e)] at hsm; cases hsm
    have s03 := s1.trans (s2.trans s3)
    have hx3 := (s2.trans s3) _ _ (upd_same (H := H) (a := x0) (o := .lst (L.map V.str)))
    have hD3 := s3 _ _ hD2
    refine ⟨_, rfl, _, _, _, _, rfl, rfl, (Tk.same s03).sqt hps0, at1 _ _ _, pa, rfl, ⟨_, (Tk.same s03).sqt hps⟩, ?_⟩
    refine for_tup (xs := pxs) (fun i σ H' => ∃ sm x0 x1 X0 X1 b3 b4 b5 b6, σ = [some (.ref w), some (.ref pga), some (.ref sm), b3, b4, b5, b6] ∧ H' sm = some (.lst [.ref x0, .ref x1]) ∧ LS AL L (20 + nss ((nsP Ps).take i)) H' x0 X0 ∧ (LS BN (Ps.map Prod.fst) (8 + nss ((nsP Ps).take i)) H' x1 X1 ∧ ∀ b ∈ (nsP Ps).take i, oks X0 X1 false b) ∧ H sm = none ∧ H x0 = none ∧ H x1 = none ∧ Same H H') ?_ ?_ ?_ ?_
    · exact ⟨sm, x0, D, L, Ps.map Prod.fst, _, _, _, _, rfl, upd_same, ⟨hx3, hP.inA, fun y hy => hy, by omega⟩, ⟨⟨hD3, hP.inB, fun y hy => hy, by omega⟩, fun b hb => (List.not_mem_nil hb).elim⟩, hsmn, hx0, hDn, s03⟩
    · rintro i σ H' _ ⟨_, _, _, _, _, _, _, _, _, _, _, _, _, _, _, _, s5⟩
      exact (Tk.same s5).sqt hps
    · rintro i x _ H4 hx ⟨sm, x0, x1, X0, X1, b3, b4, b5, b6, rfl, hsm4, hL4, ⟨hN4, hall⟩, e1, e2, e3, s4⟩
      obtain ⟨d, hd, hdp⟩ := dps_get' hpa hx
      obtain ⟨p, hp, rfl⟩ := procs_get hd
      have hd5 := (Tk.same s4).dp _ (tup_proc p) hdp
      obtain ⟨qa, qxs, rfl, hqs, hqa, hql⟩ := len_ok hd5
      cases hqa with
      | @cons v0 _ _ _ h0 hqa =>
      cases h0
      cases hqa with
      | @cons v1 _ _ _ h1 hqa =>
      cases hqa
      have hpm : p ∈ Ps := List.mem_of_getElem? hp
      have hbm : p.2 ∈ nsP Ps := List.mem_map.mpr ⟨p, hpm, rfl⟩
      have hbi : (nsP Ps)[i]? = some p.2 := by unfold nsP; rw [List.getElem?_map, hp]; rfl
      have hkk2 := kss_mem hbm
      have hnn := nss_mem hbm
      have hta := nss_take hbi
      have htb := nss_take_le (nsP Ps) (i + 1)
      refine ⟨qa, _, rfl, hqs, rfl, _, _, rfl, _, _, rfl, rfl, ?_⟩
      refine ⟨_, rfl, v1, p.2, AL, BN, false, rfl, h1, by omega, by omega, hP.ok _ hbm, fun H5 mv s5 hmv => ?_⟩
      obtain ⟨mp, ma, mb, A2, B2, rfl, hmp, hmA, hmB, gA, gB, lA, lB, gDD⟩ := hmv
      have hsm5 := s5 _ _ hsm4
      refine ⟨_, rfl, sm, _, _, _, rfl, rfl, SqL.of hsm5, at0 _ _, _, rfl, mp, _, _, _, rfl, rfl, hmp, at0 _ _, x0, ma, _, _, rfl, rfl, s5 _ _ hL4.1, hmA, Nat.le_trans (show _ ≤ 3000 by rw [List.length_map, List.length_map]; have := hL4.2.2.2; omega) (by decide), fun z1 hz1 => ?_⟩
      have s6 := same_new hz1 (.lst (X0.map V.str ++ A2.map V.str))
      refine ⟨_, rfl, sm, _, _, _, rfl, rfl, SqL.of (s6 _ _ hsm5), at1 _ _ _, _, rfl, mp, _, _, _, rfl, rfl, (Tk.same s6).sqt hmp, at1 _ _ _, x1, mb, _, _, rfl, rfl, s6 _ _ (s5 _ _ hN4.1), s6 _ _ hmB, Nat.le_trans (show _ ≤ 3000 by rw [List.length_map, List.length_map]; have := hN4.2.2.2; omega) (by decide), fun z2 hz2 => ⟨(by show 2 ≤ sizeLine; decide), fun z3 hz3 => ?_⟩⟩
      have s7 := same_new hz2 (.lst (X1.map V.str ++ B2.map V.str))
      have s8 := same_new hz3 (.lst [.ref z1, .ref z2])
      have f1 := (s7.trans s8) _ _ (upd_same (H := H5) (a := z1) (o := .lst (X0.map V.str ++ A2.map V.str)))
      have f2 := s8 _ _ (upd_same (a := z2) (o := .lst (X1.map V.str ++ B2.map V.str)))
      have sAll := s4.trans (s5.trans (s6.trans (s7.trans s8)))
      have newN : ∀ {z : Addr} {Hx : Hp}, Same H Hx → Hx z = none → H z = none := fun {z Hx} sx hz => by
        cases e : H z with
        | none => rfl
        | some o => rw [sx _ _ e] at hz; cases hz
      refine ⟨z3, z1, z2, X0 ++ A2, X1 ++ B2, _, _, _, _, rfl, upd_same, ⟨by rw [f1, List.map_append], fun y hy => (List.mem_append.mp hy).elim (hL4.2.1 y) (gA y), fun y hy => List.mem_append_left _ (hL4.2.2.1 y hy), by rw [List.length_append]; have := hL4.2.2.2; omega⟩, ⟨⟨by rw [f2, List.map_append], fun y hy => (List.mem_append.mp hy).elim (hN4.2.1 y) (gB y), fun y hy => List.mem_append_left _ (hN4.2.2.1 y hy), by rw [List.length_append]; have := hN4.2.2.2; omega⟩, fun b hb => ?_⟩, newN (s4.trans (s5.trans (s6.trans s7))) hz3, newN (s4.trans s5) hz1, newN (s4.trans (s5.trans s6)) hz2, sAll⟩
      rw [List.take_succ, hbi] at hb
      rcases List.mem_append.mp hb with z | z
      · exact oks_mono (fun _ h => List.mem_append_left _ h) (fun _ h => List.mem_append_left _ h) false _ _ (hall b z)
      · cases List.mem_singleton.mp (show b ∈ [p.2] from z)
        exact oks_mono (fun _ h => List.mem_append_right _ h) (fun _ h => List.mem_append_right _ h) false _ _ gDD
    · rintro σ H4 ⟨sm, x0, x1, X0, X1, b3, b4, b5, b6, rfl, hsm4, hL4, ⟨hN4, hall⟩, e1, e2, e3, s4⟩
      rw [hpl, show Ps.length = (nsP Ps).length by unfold nsP; rw [List.length_map], List.take_length] at hall
      have nsm := hW.out e1
      have nx0 := hW.out e2
      have nx1 := hW.out e3
      refine ⟨_, rfl, _, rfl, sm, _, _, _, rfl, rfl, SqL.of hsm4, at0 _ _, w, l, x0, c + 1200, X0, AL, rfl, (hW.same s4).le (by omega), SqL.of hL4.1, nx0, hAL, hL4.2.1, fun H6 d0 M0 hd0 hd0n g1 g2 g3 g4 g5 hW6 k6 t6 => ?_⟩
      refine ⟨_, rfl, _, rfl, sm, _, _, _, rfl, rfl, SqL.of (k6 _ _ nsm hsm4), at1 _ _ _, w, l, x1, c, X1, BN, rfl, hW6, SqL.of (k6 _ _ nx1 hN4.1), nx1, hBN, hN4.2.1, fun H7 d1 M1 hd1 hd1n j1 j2 j3 j4 j5 hW7 k7 t7 => ?_⟩
      have nd0 := (hW.same s4).out hd0n
      refine ⟨(by show 2 ≤ sizeLine; decide), fun pr hpr => ?_⟩
      have s8 := same_new hpr (.lst [.ref d0, .ref d1])
      exact q _ pr d0 d1 M0 M1 upd_same (s8 _ _ (k7 _ _ nd0 hd0)) (s8 _ _ hd1) (fun y hy => g1 y (hL4.2.2.1 y hy)) (fun y hy => j1 y (hN4.2.2.1 y hy)) (fun b hb => oks_mono g1 j1 false _ _ (hall b hb)) g2 g3 g4 j2 j3 j4 (fun y hy => hP.okA y (hL4.2.1 y (g5 y hy))) (fun y hy => hP.okB y (hN4.2.1 y (j5 y hy))) (hW7.same s8) ((Kp.of_same s4).trans (k6.trans (k7.trans (Kp.of_same s8)))) ((Tk.same s4).trans (t6.trans (t7.trans (Tk.same s8))))
end
end K06


set_option Elab.async false
set_option linter.all false
set_option maxRecDepth 100000
set_option maxHeartbeats 8000000
namespace K06
open PySem PySem.Spec PyProof.Rows L2
/-- the program with other names -/
def renL (M0 : List (Str × Str)) (L : List Str) : List Str := L.map (fn M0)
def renP (M0 M1 : List (Str × Str)) (Ps : List (Str × List St)) : List (Str × List St) := Ps.map fun p => (fn M1 p.1, rens (fn M0) (fn M1) p.2)
theorem dget_fn {H : Hp} {d : Addr} {M : List (Str × Str)} {x : Str} (hd : H d = some (.dK (DM M))) (h : x ∈ M.map Prod.fst) : DGet H d (.str x) (some (.str (fn M x))) := by
  have := DGet.k (k := Sum.inr x) hd
  rw [fn_val h] at this
  exact this
section
variable {P : Program} {w : World} {K : PySem.W.Frag} {mg : Str → Option Value} {base : Heap}

def spTP (K : PySem.W.Frag) : Sp := fun vs H Q _ => ∃ v pr d0 d1 L Ps AL BN M0 M1, vs = [v, .ref pr] ∧ PD K H v L Ps ∧ Prog L Ps AL BN ∧ H pr = some (.lst [.ref d0, .ref d1]) ∧ H d0 = some (.dK (DM M0)) ∧ H d1 = some (.dK (DM M1)) ∧ (∀ x ∈ L, x ∈ M0.map Prod.fst) ∧ (∀ x ∈ Ps.map Prod.fst, x ∈ M1.map Prod.fst) ∧ (∀ b ∈ nsP Ps, oks (M0.map Prod.fst) (M1.map Prod.fst) false b) ∧
  ∀ H' v', Same H H' → PD K H' v' (renL M0 L) (renP M0 M1 Ps) → Q v' H'
theorem sc__law_turned_plan : FnScope ["plan", "pairs", "letters", "letter", "name", "body"] ["plan", "pairs"] (C8.fnScope (topS 53)) := C8.fnScope_by (by decide +kernel)
theorem ok__law_turned_plan {f : Addr} {fd : FuncData} (F : C8.Def K mg "_law_turned_plan" (topS 53) f fd) (b : Binds K fd ["plan", "pairs"] []) (B : Bl K mg) (c_tb : C8.Cal P w K mg base 14 "_law_turned_body" (spTB K 13) []) : C8.Cal P w K mg base 15 "_law_turned_plan" (spTP K) [] := by
  refine C8.cal0 F b .nil sc__law_turned_plan ?len ?body
  case len => rintro vs H Q E ⟨v, pr, d0, d1, L, Ps, AL, BN, M0, M1, rfl, _⟩; rfl
  case body =>
    rintro cdv A outer s H vs Q E hr ⟨v, pr, d0, d1, L, Ps, AL, BN, M0, M1, rfl, hpd, hP, hpr, hd0, hd1, hL, hN, hall, q⟩
    obtain ⟨a, la, pvv, rfl, hs, hla, hpv⟩ := hpd.open
    refine ⟨_, (pss_cons (ps_set (i := 2) sc__law_turned_plan.nd rfl (Or.inl rfl) (pe_callTy call_tupleZ rfl B.tuple (by decide +kernel) (pa_cons (pe_lc (own := [("letter", 3)]) (g := gName 3) (te := tDGet (tOp (rIxL K) (tVar 1) (tC (.int 0))) (tVar 3)) (by rfl) sc__law_turned_plan.nd (pi_tup (pe_ix ix_tup (pv 0) pe_int (fun _ _ => rfl))) (blkOk_by (own := [("letter", 3)]) (N := ["plan", "pairs", "letters", "letter", "name", "body"]) (sc := (C8.fnScope (topS 53))) (by decide +kernel)) (fun _ _ _ _ _ => pg_name (i := 3) sc__law_turned_plan.nd rfl (Or.inl rfl)) (fun _ _ _ _ _ => pts_nil) (fun _ _ _ _ _ => by exact (pe_dget (hu_of hr) (pe_ix ix_list (pv 1) pe_int (fun _ _ => rfl)) (pv 3) (fun _ _ => rfl)))) pa_nil)))
    (pss_one (ps_ret (pe_tup (pa_cons (pv 2) (pa_cons (pe_callTy call_tuple_of rfl B.tuple (by decide +kernel) (pa_cons (pe_lc (own := [("name", 4), ("body", 5)]) (g := gTup K 2 (gCons (gName 4) (gCons (gName 5) gNil))) (te := tTup (tCons (tDGet (tOp (rIxL K) (tVar 1) (tC (.int 1))) (tVar 4)) (tCons (tCall (spTB K 13) [] C8.E0 (tCons (tVar 5) (tCons (tVar 1) tNil))) tNil))) (by rfl) sc__law_turned_plan.nd (pi_tup (pe_ix ix_tup (pv 0) pe_int (fun _ _ => rfl))) (blkOk_by (own := [("name", 4), ("body", 5)]) (N := ["plan", "pairs", "letters", "letter", "name", "body"]) (sc := (C8.fnScope (topS 53))) (by decide +kernel)) (fun _ _ _ _ _ => by exact pg_tup rfl (pgs_cons (pg_name (i := 4) sc__law_turned_plan.nd rfl (Or.inl rfl)) (pgs_cons (pg_name (i := 5) sc__law_turned_plan.nd rfl (Or.inl rfl)) pgs_nil))) (fun _ _ _ _ _ => pts_nil) (fun _ _ _ _ _ => by exact (pe_tup (pa_cons (pe_dget (hu_of hr) (pe_ix ix_list (pv 1) pe_int (fun _ _ => rfl)) (pv 4) (fun _ _ => rfl)) (pa_cons (C8.pe_c c_tb hr (by decide) rfl (pa_cons (pv 5) (pa_cons (pv 1) pa_nil))) pa_nil))))) pa_nil)) pa_nil)))))), ?_⟩
    obtain ⟨pa, pxs, rfl, hps, hpa, hpl⟩ := len_ok hpv
    rw [List.length_map] at hpl
    refine ⟨_, rfl, _, _, _, _, rfl, rfl, hs, at0 _ _, la, rfl, ⟨_, hla⟩, fun D1 hD1 => ?_⟩
    refine lc_tup (xs := L.map V.str) (fun i H' => H' D1 = some (.lst (((L.take i).map (fn M0)).map V.str)) ∧ Same H H') ?_ ?_ ?_ ?_
    · exact ⟨by simpa using upd_same, same_new hD1 _⟩
    · rintro i H' _ ⟨_, s1⟩
      exact (Tk.same s1).sqt hla
    · rintro i x H1 hx ⟨hv1, s1⟩
      rw [List.getElem?_map] at hx
      cases hy : L[i]? with
      | none => rw [hy] at hx; cases hx
      | some y =>
      rw [hy] at hx
      cases hx
      have hm := hL y (List.mem_of_getElem? hy)
      refine ⟨rfl, _, rfl, _, _, _, _, rfl, rfl, SqL.of (s1 _ _ hpr), at0 _ _, _, rfl, d0, _, rfl, dget_fn (s1 _ _ hd0) hm, _, hv1, ?_, ?_, ?_⟩
      · have := hP.l2
        have h3 : (L.take i).length ≤ L.length := List.length_take_le' _ _
        exact Nat.lt_of_le_of_lt (show _ ≤ 20 by rw [List.length_map, List.length_map]; omega) (by decide)
      · rw [upd_same, List.take_succ, hy]
        simp
      · intro b o e
        rw [upd_ne (fun z => by rw [z, hD1] at e; cases e)]
        exact s1 _ _ e
    · rintro H1 ⟨hv1, s1⟩
      rw [List.length_map, List.take_length] at hv1
      refine ⟨D1, _, rfl, SqL.of hv1, fun r ob hr0 oc od => ?_⟩
      have sr := s1.trans (same_new hr0 (.frz ob (.tup (((L.map (fn M0)).map V.str)))))
      have hto : TupO (upd H1 r (.frz ob (.tup ((L.map (fn M0)).map V.str)))) r ((renL M0 L).map V.str) := ⟨ob, upd_same, oc, od⟩
      generalize upd H1 r (.frz ob (.tup ((L.map (fn M0)).map V.str))) = H2 at sr hto
      refine ⟨_, rfl, ?_⟩
      refine ⟨_, rfl, _, _, _, _, rfl, rfl, (Tk.same sr).sqt hs, at1 _ _ _, pa, rfl, ⟨_, (Tk.same sr).sqt hps⟩, fun D2 hD2 => ?_⟩
      have hD20 : ∀ b o, H2 b = some o → b ≠ D2 := fun b o e z => by rw [z, hD2] at e; cases e
      refine lc_tup (xs := pxs) (fun i H' => Same H2 H' ∧ ∃ vs, H' D2 = some (.lst vs) ∧ DpAll K H' vs ((renP M0 M1 (Ps.take i)).map procD)) ?_ ?_ ?_ ?_
      · exact ⟨same_new hD2 _, [], upd_same, by simpa [renP] using .nil⟩
      · rintro i H' _ ⟨s2, _⟩
        exact (Tk.same (sr.trans s2)).sqt hps
      · rintro i x H3 hx ⟨s2, fv, hF, hfv⟩
        obtain ⟨d, hd, hdp⟩ := dps_get' hpa hx
        obtain ⟨p, hp, rfl⟩ := procs_get hd
        have s3 := sr.trans s2
        have hd3 := (Tk.same s3).dp _ (tup_proc p) hdp
        obtain ⟨qa, qxs, rfl, hqs, hqa, hql⟩ := len_ok hd3
        cases hqa with
        | @cons v0 _ _ _ h0 hqa =>
        cases h0
        cases hqa with
        | @cons v1 _ _ _ h1 hqa =>
        cases hqa
        have hpm : p ∈ Ps := List.mem_of_getElem? hp
        have hbm : p.2 ∈ nsP Ps := List.mem_map.mpr ⟨p, hpm, rfl⟩
        have hkk := kss_mem hbm
        have hnn := nss_mem hbm
        have hbl := len_ns p.2
        have hk12 := hP.ks
        have hn200 := hP.n
        refine ⟨qa, _, rfl, hqs, rfl, _, _, rfl, _, _, rfl, rfl, rfl, ?_⟩
        refine ⟨_, rfl, _, _, _, _, rfl, rfl, SqL.of (s3 _ _ hpr), at1 _ _ _, _, rfl, d1, _, rfl, dget_fn (s3 _ _ hd1) (hN p.1 (List.mem_map.mpr ⟨p, hpm, rfl⟩)), _, rfl, _, rfl, v1, pr, d0, d1, p.2, M0.map Prod.fst, M1.map Prod.fst, false, M0, M1, rfl, h1, s3 _ _ hpr, s3 _ _ hd0, s3 _ _ hd1, (fun _ h => h), (fun _ h => h), by omega, by omega, by omega, hall _ hbm, fun H4 v4 s4 h4 => ?_⟩
        refine ⟨(by show 2 ≤ sizeLine; decide), fun y hy => ?_⟩
        have sy := s4.trans (same_new hy (.tup [.str (fn M1 p.1), v4]))
        have hF5 := sy _ _ hF
        have hml := dps_len hfv
        have hml2 : fv.length ≤ 8 := by
          rw [hml, List.length_map, renP, List.length_map]
          have := List.length_take_le' i Ps
          have := hP.p2
          omega
        have tU := Tk.put hF5 (.lst (fv ++ [.ref y]))
        refine ⟨fv, hF5, Nat.lt_of_le_of_lt hml2 (by decide), fun b o e => ?_, fv ++ [.ref y], upd_same, ?_⟩
        · rw [upd_ne (hD20 _ _ e)]
          exact sy _ _ (s2 _ _ e)
        · have e2 : (renP M0 M1 (Ps.take (i + 1))).map procD = (renP M0 M1 (Ps.take i)).map procD ++ [procD (fn M1 p.1, rens (fn M0) (fn M1) p.2)] := by
            rw [List.take_succ, hp]
            simp [renP]
          rw [e2]
          refine dps_app (((Tk.same sy).trans tU).dps _ (tup_procs _) hfv) (.cons ?_ .nil)
          refine .tup (tU.sqt (SqT.of upd_same)) (.cons (.str _) (.cons ?_ .nil))
          exact ((Tk.same (same_new hy _)).trans tU).dp (.tuple (ds (rens (fn M0) (fn M1) p.2))) (tup_ds _) h4
      · rintro H3 ⟨s2, fv, hF, hfv⟩
        rw [hpl, List.take_length] at hfv
        refine ⟨D2, _, rfl, .inl ⟨SqL.of hF, fun z hz => ⟨(by show 2 ≤ sizeLine; decide), fun y hy => ?_⟩⟩⟩
        have sz := same_new hz (.tup fv)
        have sy := same_new hy (.tup [.ref r, .ref z])
        have nzy : z ≠ y := fun w => by rw [← w, upd_same] at hy; cases hy
        refine q _ _ (sr.trans (s2.trans (sz.trans sy))) (PD.make (SqT.of upd_same) (tupo_sq (hto.tk (Tk.same (s2.trans (sz.trans sy))))) (.tup (SqT.of (by rw [upd_ne nzy]; exact upd_same)) ?_))
        exact dps_ext (same_ext (sz.trans sy)) _ hfv
end
end K06


set_option Elab.async false
set_option linter.all false
set_option maxRecDepth 100000
set_option maxHeartbeats 8000000
namespace K06
open PySem PySem.Spec PyProof.Rows L2
theorem oks_app {L N : List Str} {sec : Bool} {a b : List St} : oks L N sec (a ++ b) ↔ oks L N sec a ∧ oks L N sec b := by
  rw [oks_iff, oks_iff, oks_iff]
  exact List.forall_mem_append
theorem okss_app {L N : List Str} {sec : Bool} {a b : List (List St)} : okss L N sec (a ++ b) ↔ okss L N sec a ∧ okss L N sec b := by
  rw [okss_iff, okss_iff, okss_iff]
  exact List.forall_mem_append
theorem kss_app : ∀ a b : List (List St), kss (a ++ b) = max (kss a) (kss b)
  | [], _ => by simp [kss]
  | x :: r, b => by
    rw [List.cons_append, kss, kss, kss_app r b]
    omega
theorem split_at {α : Type} {b : List α} {k : Nat} {s : α} (h : b[k]? = some s) : b = b.take k ++ s :: b.drop (k + 1) := by
  obtain ⟨hk, e⟩ := List.getElem?_eq_some_iff.mp h
  rw [← e, List.getElem_cons_drop, List.take_append_drop]
/-- a body with another statement somewhere in it -/
structure Wp (A B : List Str) (m d e k : Nat) (b b' : List St) : Prop where
  ok : oks A B false b'
  l : b'.length ≤ m + 1
  w : wms (m + 1) (d + e) b'
  n : ns b' ≤ ns b + k
structure Wp1 (A B : List Str) (m d e k : Nat) (s s' : St) : Prop where
  ok : s'.ok A B false
  w : s'.wm (m + 1) (d + e)
  n : s'.n ≤ s.n + k
theorem oks_any {A B : List Str} {s1 : Bool} (s2 : Bool) {b : List St} (h : oks A B s1 b) : oks A B s2 b := oks_mono (fun _ h => h) (fun _ h => h) s2 b s1 h
theorem wms_app {m d : Nat} {a b : List St} : wms m d (a ++ b) ↔ wms m d a ∧ wms m d b := by
  rw [wms_iff, wms_iff, wms_iff]
  exact List.forall_mem_append
theorem wmbs_app {m d : Nat} {a b : List (List St)} : wmbs m d (a ++ b) ↔ wmbs m d a ∧ wmbs m d b := by
  rw [wmbs_iff, wmbs_iff, wmbs_iff]
  exact List.forall_mem_append
theorem Wp.of1 {A B : List Str} {m d e k : Nat} {b : List St} {i : Nat} {s s' : St} (h : b[i]? = some s) (hb : oks A B false b) (hl : b.length ≤ m) (hw : wms m d b) (w : Wp1 A B m d e k s s') : Wp A B m d e k b (b.take i ++ s' :: b.drop (i + 1)) := by
  have eq := split_at h
  generalize b.take i = x at eq
  generalize b.drop (i + 1) = y at eq
  subst eq
  obtain ⟨o1, o2, o3⟩ := oks_app.mp hb
  obtain ⟨w1, w2, w3⟩ := wms_app.mp hw
  refine ⟨oks_app.mpr ⟨o1, w.ok, o3⟩, ?_, wms_app.mpr ⟨wms_le (by omega) _ (by omega) w1, w.w, wms_le (by omega) _ (by omega) w3⟩, ?_⟩
  · simp only [List.length_append, List.length_cons] at hl ⊢
    omega
  · have := w.n
    rw [ns_app, ns_app, ns, ns]; omega
theorem Wp.put {A B : List Str} {m d e : Nat} {b : List St} {x : St} {i j : Nat} (h1 : i ≤ j) (h3 : i ≤ b.length) (hb : oks A B false b) (hl : b.length ≤ m) (hw : wms m d b) (ho : x.ok A B false) (hx : x.wm (m + 1) e) : Wp A B m d e x.n b (b.take i ++ x :: b.drop j) := by
  have e2 : ns b = ns (b.take i) + ns (b.drop i) := by rw [← ns_app, List.take_append_drop]
  have e3 : ns (b.drop i) = ns ((b.drop i).take (j - i)) + ns (b.drop j) := by
    rw [← ns_app, show b.drop j = (b.drop i).drop (j - i) by rw [List.drop_drop]; congr 1; omega, List.take_append_drop]
  have sub : ∀ s, s ∈ b.take i ∨ s ∈ b.drop j → s ∈ b := fun s h => h.elim List.mem_of_mem_take List.mem_of_mem_drop
  refine ⟨oks_app.mpr ⟨oks_iff.mpr fun s hs => oks_iff.mp hb s (sub s (.inl hs)), ho, oks_iff.mpr fun s hs => oks_iff.mp hb s (sub s (.inr hs))⟩, ?_,
    wms_app.mpr ⟨wms_iff.mpr fun s hs => wm_le (by omega) s (by omega) (wms_iff.mp hw s (sub s (.inl hs))), wm_le (Nat.le_refl _) x (by omega) hx, wms_iff.mpr fun s hs => wm_le (by omega) s (by omega) (wms_iff.mp hw s (sub s (.inr hs)))⟩, ?_⟩
  · rw [List.length_append, List.length_cons, List.length_take, List.length_drop]
    omega
  · rw [ns_app, ns]; omega
theorem Wp.ch {A B : List Str} {m d e k : Nat} {bs : List (List St)} {j : Nat} {b b' : List St} (h : bs[j]? = some b) (ho : (St.ch bs).ok A B false) (hw : (St.ch bs).wm m d) (w : Wp A B m (d - 1) e k b b') : Wp1 A B m d e k (.ch bs) (.ch (bs.take j ++ b' :: bs.drop (j + 1))) := by
  have eq := split_at h
  generalize bs.take j = x at eq
  generalize bs.drop (j + 1) = y at eq
  subst eq
  obtain ⟨l1, l2, o⟩ := ho
  obtain ⟨o1, o2, o3⟩ := okss_app.mp o
  obtain ⟨d1, hw⟩ := hw
  obtain ⟨w1, w2, w3⟩ := wmbs_app.mp hw
  have ww := w.w
  rw [show d - 1 + e = d + e - 1 by omega] at ww
  refine ⟨⟨by simpa using l1, by simpa using l2, okss_app.mpr ⟨o1, w.ok, o3⟩⟩, ⟨by omega, wmbs_app.mpr ⟨wmbs_le (by omega) _ (by omega) w1, ⟨w.l, ww⟩, wmbs_le (by omega) _ (by omega) w3⟩⟩, ?_⟩
  have := w.n
  rw [St.n, St.n, nss_app, nss_app, nss, nss]; omega
theorem Wp.lp {A B : List Str} {m d e k : Nat} {b b' : List St} (hw : (St.lp b).wm m d) (w : Wp A B m (d - 1) e k b b') : Wp1 A B m d e k (.lp b) (.lp b') := by
  have ww := w.w
  obtain ⟨d1, hw⟩ := hw
  rw [show d - 1 + e = d + e - 1 by omega] at ww
  refine ⟨w.ok, ⟨by omega, w.l, ww⟩, ?_⟩
  have := w.n
  rw [St.n, St.n]; omega
theorem Wp.en1 {A B : List Str} {m d e k : Nat} {b b' c : List St} (hw : (St.en b c).wm m d) (hc : oks A B true c) (w : Wp A B m (d - 1) e k b b') : Wp1 A B m d e k (.en b c) (.en b' c) := by
  have ww := w.w
  obtain ⟨d1, hw, hv⟩ := hw
  rw [show d - 1 + e = d + e - 1 by omega] at ww
  refine ⟨⟨w.ok, hc⟩, ⟨by omega, ⟨w.l, ww⟩, Nat.le_trans hv.1 (by omega), wms_le (by omega) _ (by omega) hv.2⟩, ?_⟩
  have := w.n
  rw [St.n, St.n]; omega
theorem Wp.en2 {A B : List Str} {m d e k : Nat} {b c c' : List St} (hw : (St.en b c).wm m d) (hb : oks A B false b) (w : Wp A B m (d - 1) e k c c') : Wp1 A B m d e k (.en b c) (.en b c') := by
  have ww := w.w
  obtain ⟨d1, hw, hv⟩ := hw
  rw [show d - 1 + e = d + e - 1 by omega] at ww
  refine ⟨⟨hb, oks_any true w.ok⟩, ⟨by omega, ⟨Nat.le_trans hw.1 (by omega), wms_le (by omega) _ (by omega) hw.2⟩, w.l, ww⟩, ?_⟩
  have := w.n
  rw [St.n, St.n]; omega
def St.word : St → Str
  | .dd _ => "do"
  | .ud _ => "undo"
  | .cl _ => "call"
  | .ch _ => "choose"
  | .lp _ => "loop"
  | .rt => "return"
  | .en _ _ => "ensure"
def St.isO : St → Bool
  | .ch _ | .lp _ | .en _ _ => true
  | _ => false
theorem head_of {K : PySem.W.Frag} {H : Hp} {v : V} {s : St} (h : Dp K H v s.d) : ∃ a xs, v = V.ref a ∧ SqT K H a xs ∧ atI xs 0 = some (.str s.word) := by
  cases s <;> (obtain ⟨a, xs, rfl, hs, ha, hl⟩ := len_ok h; cases ha with | cons h0 ha => cases h0; exact ⟨a, _, rfl, hs, at0 _ _⟩)
theorem word_in : ∀ s : St, inV (.str s.word) [V.str "choose", V.str "loop", V.str "ensure"] = s.isO
  | .dd _ => (by decide +kernel : inV (.str "do") [V.str "choose", V.str "loop", V.str "ensure"] = false)
  | .ud _ => (by decide +kernel : inV (.str "undo") [V.str "choose", V.str "loop", V.str "ensure"] = false)
  | .cl _ => (by decide +kernel : inV (.str "call") [V.str "choose", V.str "loop", V.str "ensure"] = false)
  | .ch _ => (by decide +kernel : inV (.str "choose") [V.str "choose", V.str "loop", V.str "ensure"] = true)
  | .lp _ => (by decide +kernel : inV (.str "loop") [V.str "choose", V.str "loop", V.str "ensure"] = true)
  | .rt => (by decide +kernel : inV (.str "return") [V.str "choose", V.str "loop", V.str "ensure"] = false)
  | .en _ _ => (by decide +kernel : inV (.str "ensure") [V.str "choose", V.str "loop", V.str "ensure"] = true)
/-- the indexes of the statements with bodies -/
def outs (b : List St) (i : Nat) : List Nat := (List.range i).filter fun k => (b[k]?).any St.isO
theorem outs_succ (b : List St) (i : Nat) {s : St} (h : b[i]? = some s) : outs b (i + 1) = if s.isO = true then outs b i ++ [i] else outs b i := by
  unfold outs
  rw [List.range_succ, List.filter_append]
  have e : [i].filter (fun k => (b[k]?).any St.isO) = if s.isO = true then [i] else [] := by
    rw [List.filter_cons, show ((b[i]?).any St.isO) = s.isO by rw [h]; rfl]
    cases s.isO <;> rfl
  rw [e]
  split <;> simp
theorem outs_get {b : List St} {i j : Nat} {k : Nat} (h : (outs b i)[j]? = some k) : ∃ s, b[k]? = some s ∧ s.isO = true := by
  have hm := List.mem_of_getElem? h
  unfold outs at hm
  have := (List.mem_filter.mp hm).2
  cases e : b[k]? with
  | none => rw [e] at this; cases this
  | some s => rw [e] at this; exact ⟨s, rfl, this⟩
theorem outs_len (b : List St) (i : Nat) : (outs b i).length ≤ i := by
  have := List.length_filter_le (fun k => (b[k]?).any St.isO) (List.range i)
  rw [List.length_range] at this
  exact this
def ixI (ks : List Nat) : List Int := ks.map fun k : Nat => ((k : Nat) : Int)
def ixV (ks : List Nat) : List V := (ixI ks).map V.int
def ttO (K : PySem.W.Frag) : TT := tTest (tOp (rIn K false) (tOp (rIxT K) (tOp (rIxT K) (tVar 1) (tVar 4)) (tC (.int 0))) (tTup (tCons (tC (.str "choose")) (tCons (tC (.str "loop")) (tCons (tC (.str "ensure")) tNil)))))
theorem slTo {K : PySem.W.Frag} {H : Hp} {x : V} {d : List PyData} {Q : VK} {i : Nat} (hx : Dp K H x (.tuple d)) (td : TupDs d) (h : i ≤ d.length) (q : ∀ v H', Same H H' → Dp K H' v (.tuple (d.take i)) → Q v H') : rSlA K x none (some (i : Int)) H Q :=
  sliceA_dp (i := 0) (j := i) hx td rfl (sIx_hi h) fun v H' s hv => q v H' s (by rw [List.drop_zero, Nat.sub_zero] at hv; exact hv)
theorem slFrom {K : PySem.W.Frag} {H : Hp} {x : V} {d : List PyData} {Q : VK} {i : Nat} (hx : Dp K H x (.tuple d)) (td : TupDs d) (h : i ≤ d.length) (q : ∀ v H', Same H H' → Dp K H' v (.tuple (d.drop i)) → Q v H') : rSlA K x (some (i : Int)) none H Q :=
  sliceA_dp (i := i) (j := d.length) hx td (sIx_lo h) rfl fun v H' s hv => q v H' s (by rw [List.take_of_length_le (by rw [List.length_drop]; exact Nat.le_refl _)] at hv; exact hv)
theorem slBeyond {K : PySem.W.Frag} {H : Hp} {x : V} {d : List PyData} {Q : VK} {i : Nat} (hx : Dp K H x (.tuple d)) (td : TupDs d) (q : ∀ v H', Same H H' → Dp K H' v (.tuple (d.drop i)) → Q v H') : rSlA K x (some (i : Int)) none H Q := by
  by_cases h : i ≤ d.length
  · exact slFrom hx td h q
  · refine sliceA_dp (i := d.length) (j := d.length) hx td (by rw [HT.sIx_nat]; omega) rfl fun v H' s hv => q v H' s ?_
    rw [Nat.sub_self, List.take_zero] at hv
    rw [List.drop_eq_nil_of_le (by omega)]
    exact hv
theorem slMid {K : PySem.W.Frag} {H : Hp} {x : V} {d : List PyData} {Q : VK} {i j : Nat} (hx : Dp K H x (.tuple d)) (td : TupDs d) (h1 : i ≤ d.length) (h2 : j ≤ d.length) (q : ∀ v H', Same H H' → Dp K H' v (.tuple ((d.drop i).take (j - i))) → Q v H') : rSlA K x (some (i : Int)) (some (j : Int)) H Q :=
  sliceA_dp (i := i) (j := j) hx td (sIx_lo h1) (sIx_hi h2) q
/-- the bodies of a loop or an ensure, by their index in the statement -/
theorem pick_body {A B : List Str} {m d : Nat} : ∀ {s : St}, s.isO = true → (∀ bs, s ≠ .ch bs) → s.ok A B false → s.wm m d → ∃ dl, s.d = .tuple dl ∧ TupDs dl ∧ 2 ≤ dl.length ∧ dl.length ≤ 3 ∧ ∀ r, r + 1 < dl.length → ∃ bj, dl[1 + r]? = some (.tuple (ds bj)) ∧ oks A B false bj ∧ ns bj ≤ s.n ∧ ks bj < s.k ∧ bj.length ≤ m ∧ wms m (d - 1) bj ∧
    ∀ b' e k, Wp A B m (d - 1) e k bj b' → ∃ s', s'.d = .tuple (dl.take (1 + r) ++ [.tuple (ds b')] ++ dl.drop (1 + r + 1)) ∧ Wp1 A B m d e k s s'
  | .ch bs, _, h, _, _ => absurd rfl (h bs)
  | .lp b, _, _, ho, hw => ⟨_, rfl, ⟨trivial, tup_ds b, trivial⟩, by simp, by simp, fun r hr => by
    have e : r = 0 := by simp at hr; omega
    subst e
    exact ⟨b, rfl, ho, by rw [St.n]; omega, by rw [St.k]; omega, hw.2.1, hw.2.2, fun b' e k w => ⟨.lp b', rfl, w.lp hw⟩⟩⟩
  | .en b c, _, _, ho, hw => ⟨_, rfl, ⟨trivial, tup_ds b, tup_ds c, trivial⟩, by simp, by simp, fun r hr => by
    have e : r = 0 ∨ r = 1 := by simp at hr; omega
    rcases e with rfl | rfl
    · exact ⟨b, rfl, ho.1, by rw [St.n]; omega, by rw [St.k]; omega, hw.2.1.1, hw.2.1.2, fun b' e k w => ⟨.en b' c, rfl, w.en1 hw ho.2⟩⟩
    · exact ⟨c, rfl, oks_any false ho.2, by rw [St.n]; omega, by rw [St.k]; omega, hw.2.2.1, hw.2.2.2, fun b' e k w => ⟨.en b b', rfl, w.en2 hw ho.1⟩⟩⟩
theorem dec_gt0 (i : Int) : decide ((0 : Int) < i) = true ∨ decide ((0 : Int) < i) = false := by cases decide ((0 : Int) < i) <;> simp
section
variable {P : Program} {w : World} {K : PySem.W.Frag} {mg : Str → Option Value} {base : Heap}

def spPut (K : PySem.W.Frag) (n : Nat) : Sp := fun vs H Q _ => ∃ w l bv xv c A B b x m d e, vs = [.ref w, bv, xv] ∧ Wl H w l (c + (3 * n + 2)) ∧ ks b < n ∧ Dp K H bv (.tuple (ds b)) ∧ Dp K H xv (St.d x) ∧ ns b ≤ 250 ∧ oks A B false b ∧ x.ok A B false ∧ b.length ≤ m ∧ wms m d b ∧ x.wm (m + 1) e ∧
  ∀ H' v' b', Dp K H' v' (.tuple (ds b')) → Wp A B m d e x.n b b' → Wl H' w l c → Kp [w, l] H H' → Tk H H' → Q v' H'
def spPI (K : PySem.W.Frag) (n : Nat) : Sp := fun vs H Q _ => ∃ w l sv xv c A B s x m d e, vs = [.ref w, sv, xv] ∧ Wl H w l (c + (3 * n + 3)) ∧ s.isO = true ∧ s.k ≤ n ∧ Dp K H sv (St.d s) ∧ Dp K H xv (St.d x) ∧ s.n ≤ 250 ∧ s.ok A B false ∧ x.ok A B false ∧ s.wm m d ∧ x.wm (m + 1) e ∧
  ∀ H' v' s', Dp K H' v' (St.d s') → Wp1 A B m d e x.n s s' → Wl H' w l c → Kp [w, l] H H' → Tk H H' → Q v' H'
theorem sc__law_put_in : FnScope ["well", "outer", "statement", "k"] ["well", "outer", "statement"] (C8.fnScope (topS 48)) := C8.fnScope_by (by decide +kernel)
theorem ok_pi {n e : Nat} {f : Addr} {fd : FuncData} (F : C8.Def K mg "_law_put_in" (topS 48) f fd) (b : Binds K fd ["well", "outer", "statement"] []) (B : Bl K mg) (c_draw : C8.Cal P w K mg base 1 "_law_draw" spDraw []) (c_put : C8.Cal P w K mg base e "_law_put" (spPut K n) []) (he : 1 ≤ e) : C8.Cal P w K mg base (e + 1) "_law_put_in" (spPI K n) [] := by
  refine C8.cal0 F b .nil sc__law_put_in ?len ?body
  case len => rintro vs H Q E ⟨w, l, sv, xv, c, AL, BN, st, x, m, d, e', rfl, _⟩; rfl
  case body =>
    rintro cdv A outer s H vs Q E hr ⟨w, l, sv, xv, c, AL, BN, st, x, m, d, e', rfl, hW4, hio, hkn, hst4, hxv, hsn, hso, hxo, hsw, hxw, q⟩
    refine ⟨_, (pss_cons (ps_if (pt_cmpR op_eq (pe_ix ix_tup (pv 1) pe_int (fun _ _ => rfl)) pe_str (nomark _)) (pss_cons (ps_set (i := 3) sc__law_put_in.nd rfl (Or.inl rfl) (C8.pe_c c_draw hr (by omega) rfl (pa_cons (pv 0) (pa_cons (pe_callB call_len_seq rfl B.len PySem.boot_len (pa_cons (pe_ix ix_tup (pv 1) pe_int (fun _ _ => rfl)) pa_nil)) pa_nil))))
    (pss_one (ps_ret (pe_tup (pa_cons pe_str (pa_cons (pe_op op_catA (pe_op op_catA (pe_slice sl_tupA (pe_ix ix_tup (pv 1) pe_int (fun _ _ => rfl)) po_none (po_some (pv 3))) (pe_tup (pa_cons (C8.pe_c c_put hr (by omega) rfl (pa_cons (pv 0) (pa_cons (pe_ix ix_tup (pe_ix ix_tup (pv 1) pe_int (fun _ _ => rfl)) (pv 3) (fun _ _ => rfl)) (pa_cons (pv 2) pa_nil)))) pa_nil))) (pe_slice sl_tupA (pe_ix ix_tup (pv 1) pe_int (fun _ _ => rfl)) (po_some (pe_op op_add (pv 3) pe_int)) po_none)) pa_nil)))))) pss_nil)
    (pss_cons (ps_set (i := 3) sc__law_put_in.nd rfl (Or.inl rfl) (pe_op op_add pe_int (C8.pe_c c_draw hr (by omega) rfl (pa_cons (pv 0) (pa_cons (pe_op op_sub (pe_callB call_len_seq rfl B.len PySem.boot_len (pa_cons (pv 1) pa_nil)) pe_int) pa_nil)))))
    (pss_one (ps_ret (pe_op op_catA (pe_op op_catA (pe_slice sl_tupA (pv 1) po_none (po_some (pv 3))) (pe_tup (pa_cons (C8.pe_c c_put hr (by omega) rfl (pa_cons (pv 0) (pa_cons (pe_ix ix_tup (pv 1) (pv 3) (fun _ _ => rfl)) (pa_cons (pv 2) pa_nil)))) pa_nil))) (pe_slice sl_tupA (pv 1) (po_some (pe_op op_add (pv 3) pe_int)) po_none)))))), ?_⟩
    obtain ⟨sa, sxs, rfl, hss, hs0⟩ := head_of hst4
    refine ⟨_, rfl, _, _, _, _, rfl, rfl, hss, hs0, rfl, _, rfl, ?_⟩
    rw [dec_str]
    by_cases hch : ∃ bs, st = .ch bs
    · obtain ⟨bs, rfl⟩ := hch
      refine ifT (by show decide ((("choose" : Str)) = "choose") = true; decide +kernel) ?_
      obtain ⟨sa2, sxs2, e2, hss2, hsa, hsl⟩ := len_ok hst4
      cases e2
      cases hsa with
      | @cons w0 _ _ _ q0 hsa =>
      cases q0
      cases hsa with
      | @cons v1 _ _ _ hb1 hsa =>
      cases hsa
      obtain ⟨ra, rxs, rfl, hrs, hra, hrl⟩ := len_ok hb1
      rw [dss_len] at hrl
      have hb2 : 2 ≤ bs.length := hso.1
      have hb6 : bs.length ≤ 6 := hso.2.1
      refine ⟨_, rfl, _, rfl, _, _, _, _, rfl, rfl, hss2, at1 _ _ _, ra, rxs, rfl, .inr hrs, w, l, c + (3 * n + 2), (rxs.length : Nat), rfl, hW4.le (by omega), by omega, by omega, fun r3 H5 y0 y1 hW5 k5 t5 => ?_⟩
      obtain ⟨j, rfl⟩ : ∃ j : Nat, r3 = (j : Int) := ⟨r3.toNat, by omega⟩
      have hj : j < rxs.length := by omega
      have hxj := List.getElem?_eq_getElem hj
      generalize rxs[j] = xj at hxj
      obtain ⟨dj, hdj, hdpj⟩ := dps_get' hra hxj
      obtain ⟨bj, hbj, rfl⟩ := dss_get hdj
      have hjm := List.mem_of_getElem? hbj
      have hjn := nss_mem hjm
      have hjk := kss_mem hjm
      rw [St.n] at hsn
      rw [St.k] at hkn
      obtain ⟨hjl0, hjw⟩ := wmbs_iff.mp hsw.2 bj hjm
      have hb5 := t5.dp (.tuple (dss bs)) (tup_dss bs) (.tup hrs hra)
      have hjl : j ≤ (dss bs).length := by rw [dss_len]; omega
      refine ⟨_, rfl, _, _, _, _, rfl, rfl, t5.sqt hss2, at1 _ _ _, _, rfl, _, rfl, slTo hb5 (tup_dss bs) hjl fun vA HA sA hA => ?_⟩
      have t5A := t5.trans (Tk.same sA)
      refine ⟨_, rfl, _, rfl, _, _, _, _, rfl, rfl, t5A.sqt hss2, at1 _ _ _, _, rfl, _, _, _, _, rfl, rfl, t5A.sqt hrs, atI_nat hxj, _, rfl, ?_⟩
      refine ⟨w, l, xj, xv, c, AL, BN, bj, x, m, d - 1, e', rfl, hW5.same sA, by omega, t5A.dp (.tuple (ds bj)) (tup_ds bj) hdpj, t5A.dp _ (tup_St x) hxv, by omega, okss_iff.mp hso.2.2 bj hjm, hxo, hjl0, hjw, hxw, fun H6 v6 b6 hv6 wr6 hW6 k6 t6 => ?_⟩
      have t56 := t5A.trans t6
      refine ⟨(by show 1 ≤ sizeLine; decide), fun z hz => ?_⟩
      have sz := same_new hz (.tup [v6])
      refine catA_dp ((t6.trans (Tk.same sz)).dp (.tuple ((dss bs).take j)) (tup_take j (tup_dss bs)) hA) (.tup (SqT.of upd_same) (.cons ((Tk.same sz).dp (.tuple (ds b6)) (tup_ds b6) hv6) .nil)) (by rw [List.length_take, dss_len]; simp; omega) (tup_take j (tup_dss bs)) ⟨tup_ds b6, trivial⟩ fun vB HB sB hB => ?_
      have sAB := sz.trans sB
      have t6B := t56.trans (Tk.same sAB)
      have ej : ((j : Nat) : Int) + 1 = ((j + 1 : Nat) : Int) := by omega
      refine ⟨_, rfl, _, _, _, _, rfl, rfl, t6B.sqt hss2, at1 _ _ _, _, rfl, _, _, rfl, rfl, _, rfl, ?_⟩
      rw [ej]
      dsimp only [tNoPart]
      refine slFrom (i := j + 1) (t6B.dp (.tuple (dss bs)) (tup_dss bs) (.tup hrs hra)) (tup_dss bs) (by rw [dss_len]; omega) fun vC HC sC hC => ?_
      have tB : TupDs ((dss bs).take j ++ [.tuple (ds b6)]) := tupds_iff.mpr fun d hd => (List.mem_append.mp hd).elim (tupds_iff.mp (tup_take j (tup_dss bs)) d) fun z => by
        cases List.mem_singleton.mp z
        exact tup_ds b6
      refine catA_dp ((Tk.same sC).dp (.tuple _) tB hB) hC (by rw [List.length_append, List.length_take, List.length_drop, dss_len]; simp; omega) tB (tup_drop (j + 1) (tup_dss bs)) fun vR HR sR hR => ?_
      have eb : (dss bs).take j ++ [.tuple (ds b6)] ++ (dss bs).drop (j + 1) = dss (bs.take j ++ b6 :: bs.drop (j + 1)) := by
        rw [dss_take, dss_drop, dss_app, List.append_assoc]
        rfl
      rw [eb] at hR
      refine ⟨(by show 2 ≤ sizeLine; decide), fun y hy => ?_⟩
      have sy := same_new hy (.tup [.str "choose", vR])
      have sAll := sAB.trans (sC.trans (sR.trans sy))
      exact q _ _ (.ch (bs.take j ++ b6 :: bs.drop (j + 1))) (.tup (SqT.of upd_same) (.cons (.str _) (.cons ((Tk.same sy).dp (.tuple (dss _)) (tup_dss _) hR) .nil))) (Wp.ch hbj hso hsw wr6) (hW6.same sAll) (k5.trans ((Kp.of_same sA).trans (k6.trans (Kp.of_same sAll)))) (t56.trans (Tk.same sAll))
    · have hno : ∀ bs, st ≠ .ch bs := fun bs e => hch ⟨bs, e⟩
      refine ifF ?_ ?_
      · cases st with
        | ch bs => exact absurd rfl (hno bs)
        | dd _ => cases hio
        | ud _ => cases hio
        | cl _ => cases hio
        | rt => cases hio
        | lp _ => show decide ((("loop" : Str)) = "choose") = false; decide +kernel
        | en _ _ => show decide ((("ensure" : Str)) = "choose") = false; decide +kernel
      obtain ⟨dl, hdl, tdl, l2, l3, pick⟩ := pick_body hio hno hso hsw
      rw [hdl] at hst4
      obtain ⟨sa2, sxs2, e2, hss2, hsa, hsl⟩ := len_ok hst4
      cases e2
      refine ⟨_, rfl, _, rfl, _, sxs2, rfl, .inr hss2, _, _, rfl, rfl, w, l, c + (3 * n + 2), ((sxs2.length : Int) - 1), rfl, hW4.le (by omega), by omega, by omega, fun r3 H5 y0 y1 hW5 k5 t5 => ?_⟩
      obtain ⟨j, rfl⟩ : ∃ j : Nat, r3 = (j : Int) := ⟨r3.toNat, by omega⟩
      have hj : j + 1 < dl.length := by omega
      obtain ⟨bj, hbj, hoj, hnj, hkj, hlj, hwj, back⟩ := pick j hj
      have hj1 : 1 + j < sxs2.length := by omega
      have hxj := List.getElem?_eq_getElem hj1
      generalize sxs2[1 + j] = xj at hxj
      obtain ⟨dj, hdj, hdpj⟩ := dps_get' hsa hxj
      rw [hbj] at hdj
      cases hdj
      have e1j : (1 : Int) + (j : Nat) = ((1 + j : Nat) : Int) := by omega
      refine ⟨_, _, rfl, rfl, ?_⟩
      show gName 3 (.int ((1 : Int) + (j : Nat))) _ _ _
      rw [e1j]
      have hst5 := t5.dp (.tuple dl) tdl hst4
      refine ⟨_, rfl, _, rfl, _, rfl, slTo hst5 tdl (by omega) fun vA HA sA hA => ?_⟩
      have t5A := t5.trans (Tk.same sA)
      refine ⟨_, rfl, _, rfl, _, rfl, _, _, _, _, rfl, rfl, t5A.sqt hss2, atI_nat hxj, _, rfl, ?_⟩
      refine ⟨w, l, xj, xv, c, AL, BN, bj, x, m, d - 1, e', rfl, hW5.same sA, by omega, t5A.dp (.tuple (ds bj)) (tup_ds bj) hdpj, t5A.dp _ (tup_St x) hxv, by omega, hoj, hxo, hlj, hwj, hxw, fun H6 v6 b6 hv6 wr6 hW6 k6 t6 => ?_⟩
      obtain ⟨st', hd', wr'⟩ := back b6 _ _ wr6
      refine ⟨(by show 1 ≤ sizeLine; decide), fun z hz => ?_⟩
      have sz := same_new hz (.tup [v6])
      have tA : TupDs (dl.take (1 + j)) := tup_take (1 + j) tdl
      refine catA_dp ((t6.trans (Tk.same sz)).dp (.tuple _) tA hA) (.tup (SqT.of upd_same) (.cons ((Tk.same sz).dp (.tuple (ds b6)) (tup_ds b6) hv6) .nil)) (by rw [List.length_take]; simp; omega) tA ⟨tup_ds b6, trivial⟩ fun vB HB sB hB => ?_
      have sAB := sz.trans sB
      have ej : ((1 + j : Nat) : Int) + 1 = ((1 + j + 1 : Nat) : Int) := by omega
      have t6B := t6.trans (Tk.same sAB)
      refine ⟨_, rfl, _, rfl, _, _, rfl, rfl, _, rfl, ?_⟩
      rw [ej]
      dsimp only [tNoPart]
      refine slFrom (i := 1 + j + 1) ((t5A.trans t6B).dp (.tuple dl) tdl hst4) tdl (by omega) fun vC HC sC hC => ?_
      have tB : TupDs (dl.take (1 + j) ++ [.tuple (ds b6)]) := tupds_iff.mpr fun d hd => (List.mem_append.mp hd).elim (tupds_iff.mp tA d) fun z => by
        cases List.mem_singleton.mp z
        exact tup_ds b6
      refine catA_dp ((Tk.same sC).dp (.tuple _) tB hB) hC (by rw [List.length_append, List.length_take, List.length_drop]; simp; omega) tB (tup_drop (1 + j + 1) tdl) fun vR HR sR hR => ?_
      rw [← hd'] at hR
      have sAll := sAB.trans (sC.trans sR)
      exact q _ _ st' hR wr' (hW6.same sAll) (k5.trans ((Kp.of_same sA).trans (k6.trans (Kp.of_same sAll)))) (t5A.trans (t6.trans (Tk.same sAll)))
theorem sc__law_put : FnScope ["well", "body", "statement", "outer", "k", "at"] ["well", "body", "statement"] (C8.fnScope (topS 47)) := C8.fnScope_by (by decide +kernel)
theorem ok_put {n e : Nat} {f : Addr} {fd : FuncData} (F : C8.Def K mg "_law_put" (topS 47) f fd) (b : Binds K fd ["well", "body", "statement"] []) (B : Bl K mg) (c_draw : C8.Cal P w K mg base 1 "_law_draw" spDraw []) (c_pi : C8.Cal P w K mg base e "_law_put_in" (spPI K n) []) (he : 1 ≤ e) : C8.Cal P w K mg base (e + 1) "_law_put" (spPut K (n + 1)) [] := by
  refine C8.cal0 F b .nil sc__law_put ?len ?body
  case len => rintro vs H Q E ⟨w, l, bv, xv, c, AL, BN, b, x, m, d, e', rfl, _⟩; rfl
  case body =>
    rintro cdv A outer s H vs Q E hr ⟨w, l, bv, yv, c, AL, BN, b, y, m, d, e', rfl, hW, hdn, hd, hyv, hn, hok, hyo, hlen, hwd, hyw, q⟩
    refine ⟨_, (pss_cons (ps_setLc (i := 3)  (own := [("k", 4)]) (tt := ttO K) (g := gName 4) (by rfl) sc__law_put.nd rfl rfl (sw_true rfl rfl rfl (by decide +kernel)) (pi_range1 rfl B.range (pa_cons (pe_callB call_len_seq rfl B.len PySem.boot_len (pa_cons (pv 1) pa_nil)) pa_nil)) (blkOk_by (own := [("k", 4)]) (N := ["well", "body", "statement", "outer", "k", "at"]) (sc := (C8.fnScope (topS 47))) (by decide +kernel)) (fun _ _ _ _ _ => pg_name (i := 4) sc__law_put.nd rfl (Or.inl rfl)) (fun _ _ _ _ _ => by exact (pts_one (pt_cmpR op_in_seq (pe_ix ix_tup (pe_ix ix_tup (pv 1) (pv 4) (fun _ _ => rfl)) pe_int (fun _ _ => rfl)) (pe_tup (pa_cons pe_str (pa_cons pe_str (pa_cons pe_str pa_nil)))) (by with_unfolding_all rfl)))) (fun _ _ _ _ _ => (pv 4)))
    (C8.pss_cut (ps_if (PW.pt (pw_and (pt_cmpR (op_neD hr.units) (pv 3) (pe_lst pa_nil) (nomark _)) (pw_and1 (pt_cmpR op_gt (C8.pe_c c_draw hr (by omega) rfl (pa_cons (pv 0) (pa_cons pe_int pa_nil))) pe_int (nomark _))))) (pss_cons (ps_set (i := 4) sc__law_put.nd rfl (Or.inl rfl) (pe_ix ix_list (pv 3) (C8.pe_c c_draw hr (by omega) rfl (pa_cons (pv 0) (pa_cons (pe_callB call_len_seq rfl B.len PySem.boot_len (pa_cons (pv 3) pa_nil)) pa_nil))) (fun _ _ => rfl)))
    (pss_one (ps_ret (pe_op op_catA (pe_op op_catA (pe_slice sl_tupA (pv 1) po_none (po_some (pv 4))) (pe_tup (pa_cons (C8.pe_c c_pi hr (by omega) rfl (pa_cons (pv 0) (pa_cons (pe_ix ix_tup (pv 1) (pv 4) (fun _ _ => rfl)) (pa_cons (pv 2) pa_nil)))) pa_nil))) (pe_slice sl_tupA (pv 1) (po_some (pe_op op_add (pv 4) pe_int)) po_none))))) pss_nil)
    (pss_cons (ps_set (i := 5) sc__law_put.nd rfl (Or.inl rfl) (C8.pe_c c_draw hr (by omega) rfl (pa_cons (pv 0) (pa_cons (pe_op op_add (pe_callB call_len_seq rfl B.len PySem.boot_len (pa_cons (pv 1) pa_nil)) pe_int) pa_nil))))
    (pss_one (ps_ret (pe_op op_catA (pe_op op_catA (pe_slice sl_tupA (pv 1) po_none (po_some (pv 5))) (pe_tup (pa_cons (pv 2) pa_nil))) (pe_slice sl_tupA (pv 1) (po_some (pe_op op_add (pv 5) (C8.pe_c c_draw hr (by omega) rfl (pa_cons (pv 0) (pa_cons pe_int pa_nil))))) po_none))))))), ?_⟩
    obtain ⟨ba, bxs, rfl, hbs, hba, hbl⟩ := len_ok hd
    rw [ds_len] at hbl
    have hbn := len_ns b
    have hbl60 : bxs.length ≤ 300 := by omega
    refine ⟨_, rfl, ba, bxs, rfl, .inr hbs, _, rfl, by omega, by omega, fun O hO => ?_⟩
    have hO0 : ∀ x o, H x = some o → x ≠ O := fun x o e z => by rw [z, hO] at e; cases e
    refine lc_range (lo := 0) (n := ((bxs.length : Int)).toNat) (fun i H' => H' O = some (.lst (ixV (outs b i))) ∧ Same H H') ?_ ?_ ?_
    · exact ⟨upd_same, same_new hO _⟩
    · rintro i H1 hi ⟨hv1, s1⟩
      have hib : i < bxs.length := by omega
      have hx := List.getElem?_eq_getElem hib
      generalize bxs[i] = x at hx
      obtain ⟨d, hdd, hdp⟩ := dps_get' hba hx
      obtain ⟨st, hst, rfl⟩ := ds_get hdd
      obtain ⟨sa, sxs, rfl, hss, hs0⟩ := head_of ((Tk.same s1).dp _ (tup_St st) hdp)
      have ei : ((0 : Int) + (i : Nat)) = ((i : Nat) : Int) := by omega
      rw [ei]
      refine ⟨rfl, ?_⟩
      refine ⟨_, rfl, _, rfl, _, _, _, _, rfl, rfl, (Tk.same s1).sqt hbs, atI_nat hx, _, _, _, _, rfl, rfl, hss, hs0, (by show 3 ≤ sizeLine; decide), fun p hp => ⟨p, _, rfl, .inr (SqT.of upd_same), rfl, rfl, _, rfl, ?_⟩⟩
      have s2 := s1.trans (same_new hp (.tup [.str "choose", .str "loop", .str "ensure"]))
      have hv2 := (same_new hp (.tup [.str "choose", .str "loop", .str "ensure"])) _ _ hv1
      show (if (if false = true then _ else inV (.str st.word) [V.str "choose", V.str "loop", V.str "ensure"]) = true then _ else _)
      rw [if_neg Bool.false_ne_true, word_in]
      have es := outs_succ b i hst
      cases ho : st.isO with
      | false =>
        rw [ho, if_neg Bool.false_ne_true] at es
        refine ifF rfl ⟨?_, s2⟩
        rw [es]
        exact hv2
      | true =>
        rw [ho, if_pos rfl] at es
        refine ifT rfl ⟨_, rfl, _, hv2, ?_, ?_, fun y o e => ?_⟩
        · have := outs_len b i
          exact Nat.lt_of_le_of_lt (show _ ≤ 300 by rw [ixV, ixI, List.length_map, List.length_map]; omega) (by decide)
        · rw [es]
          unfold ixV ixI
          rw [List.map_append, List.map_append]
          exact upd_same
        · rw [upd_ne (hO0 _ _ e)]
          exact s2 _ _ e
    · rintro H1 ⟨hv1, s1⟩
      have en : ((bxs.length : Int)).toNat = b.length := by omega
      rw [en] at hv1
      generalize hks : outs b b.length = ks at hv1
      have hkl : ks.length ≤ 300 := by have := outs_len b b.length; rw [hks] at this; omega
      have hW1 := hW.same s1
      have hd1 := (Tk.same s1).dp (.tuple (ds b)) (tup_ds b) hd
      have k1 : Kp [w, l] H H1 := Kp.of_same s1
      have hwO : ∀ H', Kp [w, l] H1 H' → ∀ o, H1 O = some o → H' O = some o := fun H' k o e => k _ _ (by
        obtain ⟨ns', a', n', hw0, hl0, _⟩ := id hW
        intro z
        rcases List.mem_cons.mp z with z | z
        · exact hO0 _ _ hw0 z.symm
        · exact hO0 _ _ hl0 (List.mem_singleton.mp z).symm) e
      refine ⟨fun σ' H' => σ' = [some (.ref w), some (.ref ba), some yv, some (.ref O), none, none] ∧ Wl H' w l (c + 2) ∧ Kp [w, l] H H' ∧ Tk H H', ?_, ?_⟩
      · refine ⟨_, rfl, (by show 0 ≤ sizeLine; decide), fun p0 hp0 => ⟨.list ((ixI ks).map PyData.int), .list [], .lst (SqL.of ((same_new hp0 _) _ _ hv1)) (dp_ints9 _), .lst (SqL.of upd_same) .nil, shaped_ints _, by decide +kernel, _, rfl, ?_⟩⟩
        rw [eqv_nil9]
        have sp := same_new hp0 (.lst [])
        have hv2 := sp _ _ hv1
        have hW2 := hW1.same sp
        have k2 : Kp [w, l] H1 (upd H1 p0 (.lst [])) := Kp.of_same sp
        have t2 : Tk H (upd H1 p0 (.lst [])) := Tk.same (s1.trans sp)
        generalize upd H1 p0 (.lst []) = H2 at hv2 hW2 k2 t2
        cases hk : ks with
        | nil => exact ifF rfl (ifF rfl ⟨rfl, hW2.le (by omega), k1.trans k2, t2⟩)
        | cons k0 kr =>
        rw [← hk]
        refine ifT (by rw [hk]; rfl) ?_
        refine ⟨_, rfl, w, l, c + (3 * n + 4), 4, rfl, hW2.le (by omega), by decide, by decide, fun r H3 r0 r1 hW3 k3 t3 => ⟨_, _, rfl, rfl, _, rfl, ?_⟩⟩
        rcases dec_gt0 r with hz | hz
        rotate_left
        · rw [hz]
          exact iteF ⟨rfl, hW3.le (by omega), k1.trans (k2.trans k3), t2.trans t3⟩
        rw [hz]
        refine iteT ?_
        have hv3 := hwO H3 (k2.trans k3) _ hv1
        have hkl2 : (ixV ks).length = ks.length := by unfold ixV ixI; rw [List.length_map, List.length_map]
        have hk1 : 1 ≤ ks.length := by rw [hk]; simp
        refine ⟨_, rfl, _, rfl, _, rfl, O, _, rfl, .inl (SqL.of hv3), w, l, c + (3 * n + 3), ((ixV ks).length : Nat), rfl, hW3.le (by omega), by omega, by omega, fun r2 H4 z0 z1 hW4 k4 t4 => ?_⟩
        obtain ⟨j2, rfl⟩ : ∃ j2 : Nat, r2 = (j2 : Int) := ⟨r2.toNat, by omega⟩
        have hj2 : j2 < ks.length := by omega
        have hkj := List.getElem?_eq_getElem hj2
        generalize ks[j2] = k at hkj
        obtain ⟨st, hst, hio⟩ := outs_get (by rw [hks]; exact hkj)
        have hkb : k < b.length := (List.getElem?_eq_some_iff.mp hst).1
        have hv4 := hwO H4 (k2.trans (k3.trans k4)) _ hv1
        have hvx : (ixV ks)[j2]? = some (V.int (k : Int)) := by unfold ixV ixI; rw [List.getElem?_map, List.getElem?_map, hkj]; rfl
        refine ⟨O, _, _, _, rfl, rfl, SqL.of hv4, atI_nat hvx, ?_⟩
        have t04 : Tk H H4 := t2.trans (t3.trans t4)
        have k04 : Kp [w, l] H H4 := k1.trans (k2.trans (k3.trans k4))
        have hxk : k < bxs.length := by omega
        have hx := List.getElem?_eq_getElem hxk
        generalize bxs[k] = x at hx
        obtain ⟨d, hdd, hdp0⟩ := dps_get' hba hx
        obtain ⟨st2, hst2, rfl⟩ := ds_get hdd
        rw [hst] at hst2
        cases hst2
        have hso := oks_iff.mp hok st (List.mem_of_getElem? hst)
        have hsn := ns_mem (List.mem_of_getElem? hst)
        have hsk := ks_mem (List.mem_of_getElem? hst)
        have hsw := wms_iff.mp hwd st (List.mem_of_getElem? hst)
        have hd4 := t04.dp (.tuple (ds b)) (tup_ds b) hd
        have hkl5 : k ≤ (ds b).length := by rw [ds_len]; omega
        refine ⟨_, rfl, _, rfl, _, rfl, slTo hd4 (tup_ds b) hkl5 fun vA HA sA hA => ?_⟩
        have t4A := t04.trans (Tk.same sA)
        refine ⟨_, rfl, _, rfl, _, rfl, _, _, _, _, rfl, rfl, t4A.sqt hbs, atI_nat hx, _, rfl, ?_⟩
        refine ⟨w, l, x, yv, c, AL, BN, st, y, m, d, e', rfl, hW4.same sA, hio, by omega, t4A.dp _ (tup_St st) hdp0, t4A.dp _ (tup_St y) hyv, by omega, hso, hyo, hsw, hyw, fun H5 v st' hv wr hW5 k5 t5 => ?_⟩
        refine ⟨(by show 1 ≤ sizeLine; decide), fun z hz => ?_⟩
        have sz := same_new hz (.tup [v])
        refine catA_dp ((t5.trans (Tk.same sz)).dp (.tuple ((ds b).take k)) (tup_take k (tup_ds b)) hA) (.tup (SqT.of upd_same) (.cons ((Tk.same sz).dp _ (tup_St st') hv) .nil)) (by rw [List.length_take, ds_len]; simp; omega) (tup_take k (tup_ds b)) ⟨tup_St st', trivial⟩ fun vB HB sB hB => ?_
        have sAB := sz.trans sB
        have t5B := t4A.trans (t5.trans (Tk.same sAB))
        have ek : ((k : Nat) : Int) + 1 = ((k + 1 : Nat) : Int) := by omega
        refine ⟨_, rfl, _, rfl, _, _, rfl, rfl, _, rfl, ?_⟩
        rw [ek]
        dsimp only [tNoPart]
        refine slFrom (i := k + 1) (t5B.dp (.tuple (ds b)) (tup_ds b) hd) (tup_ds b) (by rw [ds_len]; omega) fun vC HC sC hC => ?_
        have tB : TupDs ((ds b).take k ++ [st'.d]) := tupds_iff.mpr fun d hd => (List.mem_append.mp hd).elim (tupds_iff.mp (tup_take k (tup_ds b)) d) fun z => by
          cases List.mem_singleton.mp z
          exact tup_St st'
        refine catA_dp ((Tk.same sC).dp (.tuple _) tB hB) hC (by rw [List.length_append, List.length_take, List.length_drop, ds_len]; simp; omega) tB (tup_drop (k + 1) (tup_ds b)) fun vR HR sR hR => ?_
        have eb : (ds b).take k ++ [st'.d] ++ (ds b).drop (k + 1) = ds (b.take k ++ st' :: b.drop (k + 1)) := by
          rw [ds_take, ds_drop, ds_app, List.append_assoc]
          rfl
        rw [eb] at hR
        have sAll := sAB.trans (sC.trans sR)
        exact q _ _ _ hR (Wp.of1 hst hok hlen hwd wr) (hW5.same sAll) (k04.trans ((Kp.of_same sA).trans (k5.trans (Kp.of_same sAll)))) (t4A.trans (t5.trans (Tk.same sAll)))
      · rintro _ H2 ⟨rfl, hW2, k2, t2⟩
        have hd2 := t2.dp (.tuple (ds b)) (tup_ds b) hd
        obtain ⟨ba2, bxs2, e2, hbs2, _, hbl2⟩ := len_ok hd2
        cases e2
        rw [ds_len] at hbl2
        refine ⟨_, rfl, _, rfl, ba, bxs2, rfl, .inr hbs2, _, _, rfl, rfl, w, l, c + 1, ((bxs2.length : Int) + 1), rfl, hW2, by omega, by omega, fun r H3 r0 r1 hW3 k3 t3 => ?_⟩
        obtain ⟨lo, rfl⟩ : ∃ lo : Nat, r = (lo : Int) := ⟨r.toNat, by omega⟩
        have hd3 := t3.dp (.tuple (ds b)) (tup_ds b) hd2
        have hlo : lo ≤ (ds b).length := by rw [ds_len]; omega
        refine ⟨_, rfl, _, rfl, _, rfl, slTo hd3 (tup_ds b) hlo fun vA HA sA hA => ?_⟩
        refine ⟨_, rfl, (by show 1 ≤ sizeLine; decide), fun z hz => ?_⟩
        have sz := same_new hz (.tup [yv])
        have ty := (t2.trans t3).trans (Tk.same (sA.trans sz))
        refine catA_dp ((Tk.same sz).dp (.tuple ((ds b).take lo)) (tup_take lo (tup_ds b)) hA) (.tup (SqT.of upd_same) (.cons (ty.dp _ (tup_St y) hyv) .nil)) (by rw [List.length_take, ds_len]; simp; omega) (tup_take lo (tup_ds b)) ⟨tup_St y, trivial⟩ fun vB HB sB hB => ?_
        have sAB := sA.trans (sz.trans sB)
        refine ⟨_, rfl, _, rfl, _, rfl, w, l, c, 2, rfl, hW3.same sAB, by decide, by decide, fun r2 H4 z0 z1 hW4 k4 t4 => ?_⟩
        obtain ⟨df, rfl⟩ : ∃ df : Nat, r2 = (df : Int) := ⟨r2.toNat, by omega⟩
        have eh : ((lo : Nat) : Int) + (df : Nat) = ((lo + df : Nat) : Int) := by omega
        refine ⟨_, _, rfl, rfl, _, rfl, ?_⟩
        rw [eh]
        dsimp only [tNoPart]
        have tB : TupDs ((ds b).take lo ++ [y.d]) := tupds_iff.mpr fun d hd => (List.mem_append.mp hd).elim (tupds_iff.mp (tup_take lo (tup_ds b)) d) fun z => by
          cases List.mem_singleton.mp z
          exact tup_St y
        have t34 := t3.trans ((Tk.same sAB).trans t4)
        refine slBeyond (i := lo + df) (t34.dp (.tuple (ds b)) (tup_ds b) hd2) (tup_ds b) fun vC HC sC hC => ?_
        refine catA_dp ((t4.trans (Tk.same sC)).dp (.tuple _) tB hB) hC (by rw [List.length_append, List.length_take, List.length_drop, ds_len]; simp; omega) tB (tup_drop (lo + df) (tup_ds b)) fun vR HR sR hR => ?_
        have eb : (ds b).take lo ++ [y.d] ++ (ds b).drop (lo + df) = ds (b.take lo ++ y :: b.drop (lo + df)) := by
          rw [ds_take, ds_drop, ds_app, List.append_assoc]
          rfl
        rw [eb] at hR
        have sAll := sC.trans sR
        exact q _ _ _ hR (Wp.put (by omega) (by rw [ds_len] at hlo; exact hlo) hok hlen hwd hyo hyw) (hW4.same sAll) (k2.trans (k3.trans ((Kp.of_same sAB).trans (k4.trans (Kp.of_same sAll))))) (t2.trans (t34.trans (Tk.same sAll)))
theorem put_all {fp fi : Addr} {fdp fdi : FuncData} (Fp : C8.Def K mg "_law_put" (topS 47) fp fdp) (bp : Binds K fdp ["well", "body", "statement"] []) (Fi : C8.Def K mg "_law_put_in" (topS 48) fi fdi) (bi : Binds K fdi ["well", "outer", "statement"] []) (B : Bl K mg) (c_draw : C8.Cal P w K mg base 1 "_law_draw" spDraw []) : ∀ n : Nat, C8.Cal P w K mg base (2 * n + 1) "_law_put" (spPut K n) []
  | 0 => by
    refine C8.cal0 Fp bp .nil sc__law_put ?len ?body
    case len => rintro vs H Q E ⟨_, _, _, _, _, _, _, _, _, _, _, _, rfl, _⟩; rfl
    case body => rintro cdv A outer s H vs Q E hr ⟨_, _, _, _, _, _, _, _, _, _, _, _, _, _, h, _⟩; exact absurd h (Nat.not_lt_zero _)
  | n + 1 => ok_put Fp bp B c_draw (ok_pi Fi bi B c_draw (put_all Fp bp Fi bi B c_draw n) (by omega)) (by omega)
end
end K06


set_option Elab.async false
set_option linter.all false
set_option maxRecDepth 100000
set_option maxHeartbeats 8000000
namespace K06
open PySem PySem.Spec PyProof.Rows L2
/-! ### what the spoiling keeps -/
theorem Nok.cons {A : List Str} {x : Str} (h : Nok A) (hx : nameB x = true) : Nok (x :: A) := fun y hy => (List.mem_cons.mp hy).elim (fun z => by rw [z]; exact hx) (h y)
theorem strs_app (a b : List Str) : (a ++ b).map PyData.str = a.map PyData.str ++ b.map PyData.str := List.map_append
theorem Plan.letter {L : List Str} {P : List (Str × List St)} {A B : List Str} {j k : Nat} {y : Str} (h : Plan L P A B j) (hl : L.length < 20) (hy : y ∈ L) : Plan (L.take k ++ y :: L.drop k) P A B (j + 1) :=
  { h with
    l1 := by simp; omega
    l2 := by rw [List.length_append, List.length_cons, List.length_take, List.length_drop]; omega
    inA := fun x hx => h.inA x (by
      rcases List.mem_append.mp hx with z | z
      · exact List.mem_of_mem_take z
      · rcases List.mem_cons.mp z with rfl | z
        · exact hy
        · exact List.mem_of_mem_drop z)
    wm := fun b hb => ⟨Nat.le_trans (h.wm b hb).1 (by omega), wms_le (by omega) _ (by omega) (h.wm b hb).2⟩
    n := by have := h.n; omega
    lenA := by have := h.lenA; omega
    lenB := by have := h.lenB; omega }
theorem Plan.proc {L : List Str} {P : List (Str × List St)} {A B A' B' : List Str} {j i e k : Nat} {p : Str × List St} {nm : Str} {b' : List St} (h : Plan L P A B j) (hp : P[i]? = some p) (ha : ∀ x ∈ A, x ∈ A') (hb : ∀ x ∈ B, x ∈ B') (oa : Nok A') (ob : Nok B') (la : A'.length ≤ A.length + 1) (lb : B'.length ≤ B.length + 1)
    (hn : nm ∈ B) (w : Wp A' B' (4 + j) (7 + 2 * j) e k p.2 b') (he : e ≤ 2) (hk : k ≤ 4) : Plan L (P.take i ++ (nm, b') :: P.drop (i + 1)) A' B' (j + 1) := by
  have eq := split_at hp
  generalize P.take i = x at eq
  generalize P.drop (i + 1) = y at eq
  subst eq
  have l1 := h.p1
  have l2 := h.p2
  have hB := h.inB
  have hok := h.ok
  have hwm := h.wm
  have hnn := h.n
  unfold nsP at hok hwm hnn
  simp only [List.map_append, List.map_cons, List.length_append, List.length_cons] at l1 l2 hB hok hwm hnn
  refine ⟨h.l1, h.l2, by simp; omega, by simp only [List.length_append, List.length_cons]; omega, oa, ob, fun z hz => ha z (h.inA z hz), ?_, ?_, ?_, ?_, by have := h.lenA; omega, by have := h.lenB; omega⟩
  · intro z hz
    simp only [List.map_append, List.map_cons] at hz
    rcases List.mem_append.mp hz with q | q
    · exact hb z (hB z (List.mem_append_left _ q))
    · rcases List.mem_cons.mp q with rfl | q
      · exact hb _ hn
      · exact hb z (hB z (List.mem_append_right _ (List.mem_cons_of_mem _ q)))
  · intro z hz
    unfold nsP at hz
    simp only [List.map_append, List.map_cons] at hz
    rcases List.mem_append.mp hz with q | q
    · exact oks_mono ha hb false _ _ (hok z (List.mem_append_left _ q))
    · rcases List.mem_cons.mp q with rfl | q
      · exact w.ok
      · exact oks_mono ha hb false _ _ (hok z (List.mem_append_right _ (List.mem_cons_of_mem _ q)))
  · intro z hz
    unfold nsP at hz
    simp only [List.map_append, List.map_cons] at hz
    have up : ∀ z, z ∈ (x.map Prod.snd) ++ p.2 :: y.map Prod.snd → z.length ≤ 4 + (j + 1) ∧ wms (4 + (j + 1)) (7 + 2 * (j + 1)) z := fun z hz => ⟨Nat.le_trans (hwm z hz).1 (by omega), wms_le (by omega) _ (by omega) (hwm z hz).2⟩
    rcases List.mem_append.mp hz with q | q
    · exact up z (List.mem_append_left _ q)
    · rcases List.mem_cons.mp q with rfl | q
      · exact ⟨w.l, wms_le (by omega) _ (by omega) w.w⟩
      · exact up z (List.mem_append_right _ (List.mem_cons_of_mem _ q))
  · have := w.n
    unfold nsP
    simp only [List.map_append, List.map_cons, nss_app, nss] at hnn ⊢
    omega
theorem Wp.refl {A B : List Str} {m d : Nat} {b : List St} (ho : oks A B false b) (hl : b.length ≤ m) (hw : wms m d b) : Wp A B m d 0 0 b b := ⟨ho, by omega, wms_le (by omega) _ (by omega) hw, Nat.le_refl _⟩
/-- the second bodies that are put in -/
def secs3 (l0 : Str) : List (List St) := [[.rt], [.en [.rt] []], [.dd l0, .lp [.rt]]]
theorem sec3_ok {A B : List Str} {l0 : Str} (h : l0 ∈ A) {m : Nat} (hm : 2 ≤ m) : ∀ b ∈ secs3 l0, (St.en [] b).ok A B false ∧ (St.en [] b).wm m 2 ∧ (St.en [] b).n ≤ 4 := by
  intro b hb
  unfold secs3 at hb
  simp only [List.mem_cons, List.not_mem_nil, or_false] at hb
  rcases hb with rfl | rfl | rfl
  · refine ⟨by simp [St.ok, oks], ?_, by simp [St.n, ns]⟩
    simp [St.wm, wms]
    omega
  · refine ⟨by simp [St.ok, oks], ?_, by simp [St.n, ns]⟩
    simp [St.wm, wms]
    omega
  · refine ⟨by simp [St.ok, oks, h], ?_, by simp [St.n, ns]⟩
    simp [St.wm, wms]
    omega
section
variable {P : Program} {w : World} {K : PySem.W.Frag} {mg : Str → Option Value} {base : Heap}

def spSpoil (K : PySem.W.Frag) : Sp := fun vs H Q _ => ∃ w l v c L Ps A B j, vs = [.ref w, v] ∧ Wl H w l (c + 100) ∧ PD K H v L Ps ∧ Plan L Ps A B j ∧ j ≤ 1 ∧
  ∀ H' v' L' P' A' B', PD K H' v' L' P' → Plan L' P' A' B' (j + 1) → Wl H' w l c → Kp [w, l] H H' → Tk H H' → Q v' H'
theorem sc__law_spoilt : FnScope ["well", "plan", "letters", "procedures", "names", "procedure", "at", "way", "name", "body", "k", "seconds"] ["well", "plan"] (C8.fnScope (topS 49)) := C8.fnScope_by (by decide +kernel)
theorem ok__law_spoilt {f : Addr} {fd : FuncData} (F : C8.Def K mg "_law_spoilt" (topS 49) f fd) (b : Binds K fd ["well", "plan"] []) (B : Bl K mg) (c_draw : C8.Cal P w K mg base 1 "_law_draw" spDraw []) (c_name : C8.Cal P w K mg base 2 "_law_name" spName9 []) (c_put : C8.Cal P w K mg base 25 "_law_put" (spPut K 12) []) : C8.Cal P w K mg base 26 "_law_spoilt" (spSpoil K) [] := by
  refine C8.cal0 F b .nil sc__law_spoilt ?len ?body
  case len => rintro vs H Q E ⟨w, l, v, c, L, Ps, AL, BN, j, rfl, _⟩; rfl
  case body =>
    rintro cdv A outer s H vs Q E hr ⟨w, l, v, c, L, Ps, AL, BN, j, rfl, hW, hpd, hP, hj, q⟩
    refine ⟨_, (pss_cons (ps_asg (pv 1) (pg_tup rfl (pgs_cons (pg_name (i := 2) sc__law_spoilt.nd rfl (Or.inl rfl)) (pgs_cons (pg_name (i := 3) sc__law_spoilt.nd rfl (Or.inl rfl)) pgs_nil))))
    (pss_cons (ps_setLc (i := 4) (te := tOp (rIxT K) (tVar 5) (tC (.int 0)))  (own := [("procedure", 5)]) (g := gName 5) (by rfl) sc__law_spoilt.nd rfl rfl (sw_true rfl rfl rfl (by decide +kernel)) (pi_tup (pv 3)) (blkOk_by (own := [("procedure", 5)]) (N := ["well", "plan", "letters", "procedures", "names", "procedure", "at", "way", "name", "body", "k", "seconds"]) (sc := (C8.fnScope (topS 49))) (by decide +kernel)) (fun _ _ _ _ _ => pg_name (i := 5) sc__law_spoilt.nd rfl (Or.inl rfl)) (fun _ _ _ _ _ => pts_nil) (fun _ _ _ _ _ => by exact (pe_ix ix_tup (pv 5) pe_int (fun _ _ => rfl))))
    (pss_cons (ps_par (i := 6) (j := 7) rfl sc__law_spoilt.nd rfl rfl (by decide) rfl rfl (pa_cons (C8.pe_c c_draw hr (by decide) rfl (pa_cons (pv 0) (pa_cons (pe_callB call_len_seq rfl B.len PySem.boot_len (pa_cons (pv 3) pa_nil)) pa_nil))) (pa_cons (C8.pe_c c_draw hr (by decide) rfl (pa_cons (pv 0) (pa_cons pe_int pa_nil))) pa_nil)) (by with_unfolding_all rfl))
    (pss_cons (ps_asg (pe_ix ix_tup (pv 3) (pv 6) (fun _ _ => rfl)) (pg_tup rfl (pgs_cons (pg_name (i := 8) sc__law_spoilt.nd rfl (Or.inl rfl)) (pgs_cons (pg_name (i := 9) sc__law_spoilt.nd rfl (Or.inl rfl)) pgs_nil))))
    (C8.pss_cut (ps_if (PW.pt (pw_and (pt_cmpR op_eq (pv 7) pe_int (nomark _)) (pw_and1 (pt_cmpR op_lt (pe_callB call_len_seq rfl B.len PySem.boot_len (pa_cons (pv 2) pa_nil)) pe_int (nomark _))))) (pss_cons (ps_set (i := 10) sc__law_spoilt.nd rfl (Or.inl rfl) (C8.pe_c c_draw hr (by decide) rfl (pa_cons (pv 0) (pa_cons (pe_op op_add (pe_callB call_len_seq rfl B.len PySem.boot_len (pa_cons (pv 2) pa_nil)) pe_int) pa_nil))))
    (pss_one (ps_ret (pe_tup (pa_cons (pe_op op_catA (pe_op op_catA (pe_slice sl_tupA (pv 2) po_none (po_some (pv 10))) (pe_tup (pa_cons (pe_ix ix_tup (pv 2) (C8.pe_c c_draw hr (by decide) rfl (pa_cons (pv 0) (pa_cons (pe_callB call_len_seq rfl B.len PySem.boot_len (pa_cons (pv 2) pa_nil)) pa_nil))) (fun _ _ => rfl)) pa_nil))) (pe_slice sl_tupA (pv 2) (po_some (pv 10)) po_none)) (pa_cons (pv 3) pa_nil)))))) pss_nil)
    (C8.pss_cut (ps_if (pt_cmpR op_eq (pv 7) pe_int (nomark _)) (pss_one (ps_set (i := 8) sc__law_spoilt.nd rfl (Or.inl rfl) (pe_ix ix_list (pv 4) (C8.pe_c c_draw hr (by decide) rfl (pa_cons (pv 0) (pa_cons (pe_callB call_len_seq rfl B.len PySem.boot_len (pa_cons (pv 4) pa_nil)) pa_nil))) (fun _ _ => rfl)))) (pss_one (ps_if (pt_cmpR op_lt (pv 7) pe_int (nomark _)) (pss_one (ps_set (i := 9) sc__law_spoilt.nd rfl (Or.inl rfl) (C8.pe_c c_put hr (by decide) rfl (pa_cons (pv 0) (pa_cons (pv 9) (pa_cons (pe_tup (pa_cons (pe_ix ix_list (pe_lst (pa_cons pe_str (pa_cons pe_str pa_nil))) (C8.pe_c c_draw hr (by decide) rfl (pa_cons (pv 0) (pa_cons pe_int pa_nil))) (fun _ _ => rfl)) (pa_cons (C8.pe_c c_name hr (by decide) rfl (pa_cons (pv 0) (pa_cons (pe_callTy call_list_of rfl B.list (by decide +kernel) (pa_cons (pv 2) pa_nil)) pa_nil))) pa_nil))) pa_nil)))))) (pss_one (ps_if (pt_cmpR op_eq (pv 7) pe_int (nomark _)) (pss_one (ps_set (i := 9) sc__law_spoilt.nd rfl (Or.inl rfl) (C8.pe_c c_put hr (by decide) rfl (pa_cons (pv 0) (pa_cons (pv 9) (pa_cons (pe_tup (pa_cons pe_str (pa_cons (C8.pe_c c_name hr (by decide) rfl (pa_cons (pv 0) (pa_cons (pv 4) pa_nil))) pa_nil))) pa_nil)))))) (pss_one (ps_if (pt_cmpR op_eq (pv 7) pe_int (nomark _)) (pss_cons (ps_set (i := 11) sc__law_spoilt.nd rfl (Or.inl rfl) (pe_lst (pa_cons (pe_tup (pa_cons (pe_tup (pa_cons pe_str pa_nil)) pa_nil)) (pa_cons (pe_tup (pa_cons (pe_tup (pa_cons pe_str (pa_cons (pe_tup (pa_cons (pe_tup (pa_cons pe_str pa_nil)) pa_nil)) (pa_cons (pe_tup pa_nil) pa_nil)))) pa_nil)) (pa_cons (pe_tup (pa_cons (pe_tup (pa_cons pe_str (pa_cons (pe_ix ix_tup (pv 2) pe_int (fun _ _ => rfl)) pa_nil))) (pa_cons (pe_tup (pa_cons pe_str (pa_cons (pe_tup (pa_cons (pe_tup (pa_cons pe_str pa_nil)) pa_nil)) pa_nil))) pa_nil))) pa_nil)))))
    (pss_one (ps_set (i := 9) sc__law_spoilt.nd rfl (Or.inl rfl) (C8.pe_c c_put hr (by decide) rfl (pa_cons (pv 0) (pa_cons (pv 9) (pa_cons (pe_tup (pa_cons pe_str (pa_cons (pe_tup pa_nil) (pa_cons (pe_ix ix_list (pv 11) (C8.pe_c c_draw hr (by decide) rfl (pa_cons (pv 0) (pa_cons pe_int pa_nil))) (fun _ _ => rfl)) pa_nil)))) pa_nil))))))) (pss_one (ps_set (i := 9) sc__law_spoilt.nd rfl (Or.inl rfl) (C8.pe_c c_put hr (by decide) rfl (pa_cons (pv 0) (pa_cons (pv 9) (pa_cons (pe_tup (pa_cons pe_str pa_nil)) pa_nil)))))))))))))
    (pss_one (ps_ret (pe_tup (pa_cons (pv 2) (pa_cons (pe_op op_catA (pe_op op_catA (pe_slice sl_tupA (pv 3) po_none (po_some (pv 6))) (pe_tup (pa_cons (pe_tup (pa_cons (pv 8) (pa_cons (pv 9) pa_nil))) pa_nil))) (pe_slice sl_tupA (pv 3) (po_some (pe_op op_add (pv 6) pe_int)) po_none)) pa_nil))))))))))), ?_⟩
    obtain ⟨pga, la, pvv, rfl, hps0, hla, hpv⟩ := hpd.open
    obtain ⟨pa, pxs, rfl, hps, hpa, hpl⟩ := len_ok hpv
    rw [List.length_map] at hpl
    have hp1 := hP.p1
    have hp2 := hP.p2
    have hl1 := hP.l1
    have hl2 := hP.l2
    refine ⟨_, rfl, pga, _, rfl, hps0, rfl, _, _, rfl, _, _, rfl, rfl, ?_⟩
    refine ⟨_, rfl, pa, rfl, ⟨_, hps⟩, fun D hD => ?_⟩
    refine lc_tup (xs := pxs) (fun i H' => H' D = some (.lst (((Ps.take i).map Prod.fst).map V.str)) ∧ Same H H') ?_ ?_ ?_ ?_
    · exact ⟨by simpa using upd_same, same_new hD _⟩
    · rintro i H' _ ⟨_, s5⟩
      exact (Tk.same s5).sqt hps
    · rintro i x H5 hx ⟨hv1, s5⟩
      obtain ⟨d, hd, hdp⟩ := dps_get' hpa hx
      obtain ⟨p, hp, rfl⟩ := procs_get hd
      have hd5 := (Tk.same s5).dp _ (tup_proc p) hdp
      obtain ⟨qa, qxs, rfl, hqs, hqa, hql⟩ := len_ok hd5
      cases hqa with
      | @cons v0 _ _ _ h0 hqa =>
      cases h0
      refine ⟨rfl, ?_⟩
      refine ⟨_, rfl, _, _, _, _, rfl, rfl, hqs, at0 _ _, _, hv1, ?_, ?_, ?_⟩
      · have h3 : (Ps.take i).length ≤ Ps.length := List.length_take_le' _ _
        exact Nat.lt_of_le_of_lt (show _ ≤ 8 by rw [List.length_map, List.length_map]; omega) (by decide)
      · rw [upd_same, List.take_succ, hp]
        simp
      · intro qq oo e
        rw [upd_ne (fun z => by rw [z, hD] at e; cases e)]
        exact s5 _ _ e
    rintro H2 ⟨hD2, s2⟩
    rw [hpl, List.take_length] at hD2
    have hW2 := hW.same s2
    have nD := hW.out hD
    refine ⟨_, rfl, _, rfl, pa, pxs, rfl, .inr ((Tk.same s2).sqt hps), w, l, c + 99, (pxs.length : Nat), rfl, hW2.le (by omega), by omega, by omega, fun r1 H3 r10 r11 hW3 k3 t3 => ?_⟩
    obtain ⟨i, rfl⟩ : ∃ i : Nat, r1 = (i : Int) := ⟨r1.toNat, by omega⟩
    have hi : i < pxs.length := by omega
    refine ⟨_, rfl, w, l, c + 98, 8, rfl, hW3, by decide, by decide, fun way H4 wy0 wy1 hW4 k4 t4 => ⟨_, _, rfl, ?_⟩⟩
    have t02 := Tk.same s2
    have t04 := t02.trans (t3.trans t4)
    have k04 : Kp [w, l] H H4 := (Kp.of_same s2).trans (k3.trans k4)
    have hxi := List.getElem?_eq_getElem hi
    generalize pxs[i] = xp at hxi
    obtain ⟨dp, hdp, hdpp⟩ := dps_get' hpa hxi
    obtain ⟨p, hp, rfl⟩ := procs_get hdp
    have hd4 := t04.dp _ (tup_proc p) hdpp
    obtain ⟨qa, qxs, rfl, hqs, hqa, hql⟩ := len_ok hd4
    cases hqa with
    | @cons v0 _ _ _ h0 hqa =>
    cases h0
    cases hqa with
    | @cons bv _ _ _ hbv hqa =>
    cases hqa
    refine ⟨_, rfl, _, rfl, _, _, _, _, rfl, rfl, t04.sqt hps, atI_nat hxi, ?_⟩
    refine ⟨qa, _, rfl, hqs, rfl, _, _, rfl, _, _, rfl, rfl, ?_⟩
    have hD4 := k4 _ _ nD (k3 _ _ nD hD2)
    have hpm : p ∈ Ps := List.mem_of_getElem? hp
    have hbm : p.2 ∈ nsP Ps := List.mem_map.mpr ⟨p, hpm, rfl⟩
    have hnm : p.1 ∈ BN := hP.inB _ (List.mem_map.mpr ⟨p, hpm, rfl⟩)
    have hbo := hP.ok _ hbm
    obtain ⟨hbl, hbw⟩ := hP.wm _ hbm
    have hbn := nss_mem hbm
    have hnn := hP.n
    have hbk := wms_k _ hbw
    have hlA := hP.lenA
    have hlB := hP.lenB
    have hdL : ∀ {H'}, Tk H H' → Dp K H' (.ref la) (.tuple (L.map PyData.str)) := fun t => .tup (t.sqt hla) (dp_strs L)
    have hdP : ∀ {H'}, Tk H H' → Dp K H' (.ref pa) (.tuple (Ps.map procD)) := fun t => t.dp (.tuple (Ps.map procD)) (tup_procs Ps) hpv
    refine ⟨fun σ' H' => σ' = [some (.ref w), some (.ref pga), some (.ref la), some (.ref pa), some (.ref D), none, some (.int (i : Nat)), some (.int way), some (.str p.1), some bv, none, none] ∧ H' = H4, ?_, ?_⟩
    · refine ⟨_, rfl, rfl, _, rfl, ?_⟩
      rw [dec_int]
      by_cases c0 : way = 0
      rotate_left
      · exact ifF (by simpa using c0) ⟨rfl, rfl⟩
      refine ifT (by simpa using c0) ⟨_, rfl, la, _, rfl, .inr (t04.sqt hla), _, _, rfl, rfl, _, rfl, ?_⟩
      by_cases c1 : (((L.map V.str).length : Nat) : Int) < 20
      rotate_left
      · exact ifF (by simpa using c1) ⟨rfl, rfl⟩
      refine ifT (by simpa using c1) ?_
      rw [List.length_map] at c1
      refine ⟨_, rfl, _, rfl, la, L.map V.str, rfl, .inr (t04.sqt hla), _, _, rfl, rfl, w, l, c + 97, (((L.map V.str).length : Nat) : Int) + 1, rfl, hW4.le (by omega), by omega, by rw [List.length_map]; omega, fun r5 H5 y0 y1 hW5 k5 t5 => ?_⟩
      rw [List.length_map] at y1
      obtain ⟨k, rfl⟩ : ∃ k : Nat, r5 = (k : Int) := ⟨r5.toNat, by omega⟩
      have hkl : k ≤ (L.map PyData.str).length := by rw [List.length_map]; omega
      have t05 := t04.trans t5
      refine ⟨_, rfl, _, rfl, _, rfl, slTo (hdL t05) (tup_strs L) hkl fun vA HA sA hA => ?_⟩
      have t0A := t05.trans (Tk.same sA)
      refine ⟨_, rfl, _, rfl, _, rfl, la, L.map V.str, rfl, .inr (t0A.sqt hla), w, l, c + 96, (((L.map V.str).length : Nat) : Int), rfl, (hW5.same sA).le (by omega), by rw [List.length_map]; omega, by rw [List.length_map]; omega, fun r6 H6 z0 z1 hW6 k6 t6 => ?_⟩
      rw [List.length_map] at z1
      obtain ⟨y, hy, hat⟩ := pick_str (L := L) (H := H6) z0 z1
      have t06 := t0A.trans t6
      refine ⟨la, _, _, _, rfl, rfl, t06.sqt hla, hat, (by show 1 ≤ sizeLine; decide), fun z hz => ?_⟩
      have sz := same_new hz (.tup [.str y])
      refine catA_dp ((t6.trans (Tk.same sz)).dp (.tuple _) (tup_take k (tup_strs L)) hA) (d2 := [.str y]) (.tup (SqT.of upd_same) (.cons (.str _) .nil)) (by rw [List.length_take, List.length_map]; simp; omega) (tup_take k (tup_strs L)) ⟨trivial, trivial⟩ fun vB HB sB hB => ?_
      have sAB := sz.trans sB
      have t0B := t06.trans (Tk.same sAB)
      refine ⟨_, rfl, _, rfl, _, rfl, ?_⟩
      dsimp only [tNoPart]
      refine slFrom (i := k) (hdL t0B) (tup_strs L) hkl fun vC HC sC hC => ?_
      have tB : TupDs ((L.map PyData.str).take k ++ [.str y]) := tupds_iff.mpr fun d hd => (List.mem_append.mp hd).elim (tupds_iff.mp (tup_take k (tup_strs L)) d) fun z => by
        cases List.mem_singleton.mp z
        exact trivial
      refine catA_dp ((Tk.same sC).dp (.tuple _) tB hB) hC (by rw [List.length_append, List.length_take, List.length_drop, List.length_map]; simp; omega) tB (tup_drop k (tup_strs L)) fun vR HR sR hR => ?_
      have eb : (L.map PyData.str).take k ++ [.str y] ++ (L.map PyData.str).drop k = (L.take k ++ y :: L.drop k).map PyData.str := by
        rw [← List.map_take, ← List.map_drop, List.map_append, List.map_cons, List.append_assoc]
        rfl
      rw [eb] at hR
      refine ⟨_, rfl, (by show 2 ≤ sizeLine; decide), fun u hu => ?_⟩
      have su := same_new hu (.tup [vR, .ref pa])
      have sAll := sC.trans (sR.trans su)
      have t0Z := t0B.trans (Tk.same sAll)
      exact q _ _ _ Ps _ _ (.tup (SqT.of upd_same) (.cons ((Tk.same su).dp (.tuple _) (tup_strs _) hR) (.cons (hdP t0Z) .nil))) (hP.letter (by omega) hy) ((hW6.le (by omega)).same (sAB.trans sAll)) (k04.trans (k5.trans ((Kp.of_same sA).trans (k6.trans (Kp.of_same (sAB.trans sAll)))))) t0Z
    rintro _ _ ⟨rfl, rfl⟩
    rename Hp => H4
    refine ⟨fun σ' H' => ∃ nm bv' b' A' B' e k x10 x11, σ' = [some (.ref w), some (.ref pga), some (.ref la), some (.ref pa), some (.ref D), none, some (.int (i : Nat)), some (.int way), some (.str nm), some bv', x10, x11] ∧ Dp K H' bv' (.tuple (ds b')) ∧ nm ∈ BN ∧ Wp A' B' (4 + j) (7 + 2 * j) e k p.2 b' ∧ e ≤ 2 ∧ k ≤ 4 ∧ ((∀ x ∈ AL, x ∈ A') ∧ (∀ x ∈ BN, x ∈ B') ∧ Nok A' ∧ Nok B' ∧ A'.length ≤ AL.length + 1 ∧ B'.length ≤ BN.length + 1) ∧ Wl H' w l c ∧ Kp [w, l] H H' ∧ Tk H H', ?_, ?_⟩
    rotate_left
    · rintro _ H5 ⟨nm, bv', b', A', B', e, k, x10, x11, rfl, hb', hnm', wp, he, hk, ⟨ha, hb, oa, ob, la', lb'⟩, hW5, k5, t5⟩
      have hkl : i ≤ (Ps.map procD).length := by rw [List.length_map]; omega
      refine ⟨_, rfl, _, rfl, _, rfl, _, rfl, slTo (hdP t5) (tup_procs Ps) hkl fun vA HA sA hA => ?_⟩
      have t0A := t5.trans (Tk.same sA)
      refine ⟨_, rfl, _, rfl, (by show 2 ≤ sizeLine; decide), fun y hy => ⟨(by show 1 ≤ sizeLine; decide), fun z hz => ?_⟩⟩
      have nyz : y ≠ z := fun q => by rw [← q, upd_same] at hz; cases hz
      have sy := same_new hy (.tup [.str nm, bv'])
      have sz := same_new hz (.tup [.ref y])
      have syz := sy.trans sz
      have hy3 : Dp K (upd (upd HA y (.tup [.str nm, bv'])) z (.tup [.ref y])) (.ref y) (procD (nm, b')) := .tup (SqT.of (by rw [upd_ne nyz]; exact upd_same)) (.cons (.str _) (.cons ((Tk.same (sA.trans syz)).dp (.tuple (ds b')) (tup_ds b') hb') .nil))
      refine catA_dp ((Tk.same syz).dp (.tuple _) (tup_take i (tup_procs Ps)) hA) (d2 := [procD (nm, b')]) (.tup (SqT.of upd_same) (.cons hy3 .nil)) (by rw [List.length_take, List.length_map]; simp; omega) (tup_take i (tup_procs Ps)) ⟨tup_proc _, trivial⟩ fun vB HB sB hB => ?_
      have sAB := syz.trans sB
      have t0B := t0A.trans (Tk.same sAB)
      have ei : ((i : Nat) : Int) + 1 = ((i + 1 : Nat) : Int) := by omega
      refine ⟨_, rfl, _, rfl, _, _, rfl, rfl, _, rfl, ?_⟩
      rw [ei]
      dsimp only [tNoPart]
      refine slFrom (i := i + 1) (hdP t0B) (tup_procs Ps) (by rw [List.length_map]; omega) fun vC HC sC hC => ?_
      have tB : TupDs ((Ps.map procD).take i ++ [procD (nm, b')]) := tupds_iff.mpr fun d hd => (List.mem_append.mp hd).elim (tupds_iff.mp (tup_take i (tup_procs Ps)) d) fun z => by
        cases List.mem_singleton.mp z
        exact tup_proc _
      refine catA_dp ((Tk.same sC).dp (.tuple _) tB hB) hC (by rw [List.length_append, List.length_take, List.length_drop, List.length_map]; simp; omega) tB (tup_drop (i + 1) (tup_procs Ps)) fun vR HR sR hR => ?_
      have eb : (Ps.map procD).take i ++ [procD (nm, b')] ++ (Ps.map procD).drop (i + 1) = (Ps.take i ++ (nm, b') :: Ps.drop (i + 1)).map procD := by
        rw [← List.map_take, ← List.map_drop, List.map_append, List.map_cons, List.append_assoc]
        rfl
      rw [eb] at hR
      refine ⟨(by show 2 ≤ sizeLine; decide), fun u hu => ?_⟩
      have su := same_new hu (.tup [.ref la, vR])
      have sAll := sC.trans (sR.trans su)
      have t0Z := t0B.trans (Tk.same sAll)
      exact q _ _ L _ _ _ (.tup (SqT.of upd_same) (.cons (hdL t0Z) (.cons ((Tk.same su).dp (.tuple _) (tup_procs _) hR) .nil))) (hP.proc hp ha hb oa ob la' lb' hnm' wp he hk) (hW5.same (sA.trans (sAB.trans sAll))) (k5.trans (Kp.of_same (sA.trans (sAB.trans sAll)))) t0Z
    have same0 : (∀ x ∈ AL, x ∈ AL) ∧ (∀ x ∈ BN, x ∈ BN) ∧ Nok AL ∧ Nok BN ∧ AL.length ≤ AL.length + 1 ∧ BN.length ≤ BN.length + 1 := ⟨fun _ h => h, fun _ h => h, hP.okA, hP.okB, by omega, by omega⟩
    have put : ∀ {H5 : Hp} {xv : V} {x : St} {A' B' : List Str} {e k : Nat} {Q' : VK}, Wl H5 w l (c + 38) → Kp [w, l] H4 H5 → Tk H4 H5 → Dp K H5 xv x.d → x.ok A' B' false → x.wm (4 + j + 1) e → x.n ≤ k →
        ((∀ x ∈ AL, x ∈ A') ∧ (∀ x ∈ BN, x ∈ B') ∧ Nok A' ∧ Nok B' ∧ A'.length ≤ AL.length + 1 ∧ B'.length ≤ BN.length + 1) → (∀ H' v' b', Dp K H' v' (.tuple (ds b')) → Wp A' B' (4 + j) (7 + 2 * j) e k p.2 b' → Wl H' w l c → Kp [w, l] H H' → Tk H H' → Q' v' H') → spPut K 12 [.ref w, bv, xv] H5 Q' C8.E0 := fun {H5 xv x A' B' e k Q'} hW5 k5 t5 hx xo xw xn all q' =>
      ⟨w, l, bv, xv, c, A', B', p.2, x, 4 + j, 7 + 2 * j, e, rfl, hW5, by omega, t5.dp (.tuple (ds p.2)) (tup_ds p.2) hbv, hx, by omega, oks_mono all.1 all.2.1 false _ _ hbo, xo, hbl, hbw, xw, fun H' v' b' h1 w1 h2 k2 t2 => q' H' v' b' h1 ⟨w1.ok, w1.l, w1.w, Nat.le_trans w1.n (by omega)⟩ h2 (k04.trans (k5.trans k2)) (t04.trans (t5.trans t2))⟩
    have withA : ∀ {r : Str}, nameB r = true → (∀ x ∈ AL, x ∈ r :: AL) ∧ (∀ x ∈ BN, x ∈ BN) ∧ Nok (r :: AL) ∧ Nok BN ∧ (r :: AL).length ≤ AL.length + 1 ∧ BN.length ≤ BN.length + 1 := fun h => ⟨fun _ h => List.mem_cons_of_mem _ h, fun _ h => h, hP.okA.cons h, hP.okB, by simp, by omega⟩
    have withB : ∀ {r : Str}, nameB r = true → (∀ x ∈ AL, x ∈ AL) ∧ (∀ x ∈ BN, x ∈ r :: BN) ∧ Nok AL ∧ Nok (r :: BN) ∧ AL.length ≤ AL.length + 1 ∧ (r :: BN).length ≤ BN.length + 1 := fun h => ⟨fun _ h => h, fun _ h => List.mem_cons_of_mem _ h, hP.okA, hP.okB.cons h, by omega, by simp⟩
    have hnL : ∀ x ∈ L, nameB x = true := fun x hx => hP.okA x (hP.inA x hx)
    have hnN : ∀ x ∈ Ps.map Prod.fst, nameB x = true := fun x hx => hP.okB x (hP.inB x hx)
    refine ⟨_, rfl, rfl, _, rfl, ?_⟩
    rw [dec_int]
    by_cases c1 : way = 1
    · refine ifT (by simpa using c1) ⟨_, rfl, _, rfl, _, rfl, D, _, rfl, .inl (SqL.of hD4), w, l, c + 97, ((((Ps.map Prod.fst).map V.str).length : Nat) : Int), rfl, hW4.le (by omega), by rw [List.length_map, List.length_map]; omega, by rw [List.length_map, List.length_map]; omega, fun r5 H5 y0 y1 hW5 k5 t5 => ?_⟩
      rw [List.length_map] at y1
      obtain ⟨y, hy, hat⟩ := pick_str (L := Ps.map Prod.fst) (H := H5) y0 y1
      refine ⟨D, _, _, _, rfl, rfl, SqL.of (k5 _ _ nD hD4), hat, ?_⟩
      exact ⟨y, bv, p.2, AL, BN, 0, 0, none, none, rfl, t5.dp (.tuple (ds p.2)) (tup_ds p.2) hbv, hP.inB _ hy, Wp.refl hbo hbl hbw, by omega, by omega, same0, hW5.le (by omega), k04.trans k5, t04.trans t5⟩
    refine ifF (by simpa using c1) ?_
    refine ⟨_, rfl, _, _, rfl, rfl, _, rfl, ?_⟩
    by_cases c2 : way < 4
    · refine ifT (by simpa using c2) ?_
      refine ⟨_, rfl, _, rfl, (by show 2 ≤ sizeLine; decide), fun l5 hl5 => ?_⟩
      have s5 := same_new hl5 (.lst [.str "do", .str "undo"])
      have hl6 : upd H4 l5 (.lst [.str "do", .str "undo"]) l5 = some (.lst ((["do", "undo"] : List Str).map V.str)) := upd_same
      have nl5 := hW4.out hl5
      refine ⟨_, rfl, w, l, c + 97, 2, rfl, (hW4.same s5).le (by omega), by omega, by omega, fun r6 H6 r60 r61 hW6 k6 t6 => ?_⟩
      obtain ⟨wd, hwd, hatw⟩ := pick_str (L := ["do", "undo"]) (H := H6) r60 r61
      have t46 := (Tk.same s5).trans t6
      have k46 := (Kp.of_same (as := [w, l]) s5).trans k6
      refine ⟨l5, _, _, _, rfl, rfl, SqL.of (k6 _ _ nl5 hl6), hatw, ?_⟩
      refine ⟨_, rfl, _, rfl, la, _, rfl, .inr ((t04.trans t46).sqt hla), fun x0 hx0 => ?_⟩
      have s7 := same_new hx0 (.lst (L.map V.str))
      have nx0 := hW6.out hx0
      refine ⟨w, l, x0, c + 67, L, rfl, (hW6.same s7).le (by omega), upd_same, nx0, by omega, hnL, fun r H8 hr0 hr1 hW8 k8 t8 => ?_⟩
      refine ⟨(by show 2 ≤ sizeLine; decide), fun z hz => ?_⟩
      have sz := same_new hz (.tup [.str wd, .str r])
      have t4z := t46.trans ((Tk.same s7).trans (t8.trans (Tk.same sz)))
      have k4z := k46.trans ((Kp.of_same s7).trans (k8.trans (Kp.of_same sz)))
      have hz2 : SqT K (upd H8 z (.tup [.str wd, .str r])) z [.str wd, .str r] := SqT.of upd_same
      have hWz := (hW8.same sz).le (show c + 38 ≤ c + 67 by omega)
      simp at hwd
      rcases hwd with rfl | rfl
      · exact put (x := .dd r) (e := 0) (k := 1) hWz k4z t4z (.tup hz2 (.cons (.str _) (.cons (.str _) .nil))) List.mem_cons_self trivial (by simp [St.n]) (withA hr0) fun H' v' b' h1 w1 h2 k2 t2 => ⟨p.1, v', b', _, _, 0, 1, none, none, rfl, h1, hnm, w1, by omega, by omega, withA hr0, h2, k2, t2⟩
      · exact put (x := .ud r) (e := 0) (k := 1) hWz k4z t4z (.tup hz2 (.cons (.str _) (.cons (.str _) .nil))) List.mem_cons_self trivial (by simp [St.n]) (withA hr0) fun H' v' b' h1 w1 h2 k2 t2 => ⟨p.1, v', b', _, _, 0, 1, none, none, rfl, h1, hnm, w1, by omega, by omega, withA hr0, h2, k2, t2⟩
    refine ifF (by simpa using c2) ?_
    refine ⟨_, rfl, rfl, _, rfl, ?_⟩
    rw [dec_int]
    by_cases c3 : way = 4
    · refine ifT (by simpa using c3) ?_
      refine ⟨_, rfl, _, rfl, _, rfl, _, rfl, w, l, D, c + 68, Ps.map Prod.fst, rfl, hW4.le (by omega), hD4, nD, by rw [List.length_map]; omega, hnN, fun r H8 hr0 hr1 hW8 k8 t8 => ?_⟩
      refine ⟨(by show 2 ≤ sizeLine; decide), fun z hz => ?_⟩
      have sz := same_new hz (.tup [.str "call", .str r])
      have hz2 : SqT K (upd H8 z (.tup [.str "call", .str r])) z [.str "call", .str r] := SqT.of upd_same
      exact put (x := .cl r) (e := 0) (k := 1) ((hW8.same sz).le (by omega)) (k8.trans (Kp.of_same sz)) (t8.trans (Tk.same sz)) (.tup hz2 (.cons (.str _) (.cons (.str _) .nil))) List.mem_cons_self trivial (by simp [St.n]) (withB hr0) fun H' v' b' h1 w1 h2 k2 t2 => ⟨p.1, v', b', _, _, 0, 1, none, none, rfl, h1, hnm, w1, by omega, by omega, withB hr0, h2, k2, t2⟩
    refine ifF (by simpa using c3) ?_
    refine ⟨_, rfl, rfl, _, rfl, ?_⟩
    rw [dec_int]
    by_cases c4 : way = 5
    rotate_left
    · refine ifF (by simpa using c4) ?_
      refine ⟨_, rfl, _, rfl, (by show 1 ≤ sizeLine; decide), fun z hz => ?_⟩
      have sz := same_new hz (.tup [.str "return"])
      exact put (x := .rt) (e := 0) (k := 1) ((hW4.same sz).le (by omega)) (Kp.of_same sz) (Tk.same sz) (.tup (SqT.of upd_same) (.cons (.str _) .nil)) trivial trivial (by simp [St.n]) same0 fun H' v' b' h1 w1 h2 k2 t2 => ⟨p.1, v', b', _, _, 0, 1, none, none, rfl, h1, hnm, w1, by omega, by omega, same0, h2, k2, t2⟩
    refine ifT (by simpa using c4) ?_
    obtain ⟨l0, lr, eL⟩ : ∃ l0 lr, L = l0 :: lr := by
      cases L with
      | nil => simp at hl1
      | cons a r => exact ⟨a, r, rfl⟩
    have hl0 : l0 ∈ AL := hP.inA _ (by rw [eL]; exact List.mem_cons_self)
    refine ⟨(by show 1 ≤ sizeLine; decide), fun a1 h1 => ⟨(by show 1 ≤ sizeLine; decide), fun a2 h2 => ?_⟩⟩
    have n12 : a1 ≠ a2 := fun q => by rw [← q, upd_same] at h2; cases h2
    have s1 := (same_new h1 (.tup [.str "return"])).trans (same_new h2 (.tup [.ref a1]))
    have d1 : Dp K (upd (upd H4 a1 (.tup [.str "return"])) a2 (.tup [.ref a1])) (.ref a2) (.tuple (ds [.rt])) := .tup (SqT.of upd_same) (.cons (.tup (SqT.of (by rw [upd_ne n12]; exact upd_same)) (.cons (.str _) .nil)) .nil)
    generalize upd (upd H4 a1 (.tup [.str "return"])) a2 (.tup [.ref a1]) = I1 at s1 d1
    refine ⟨(by show 1 ≤ sizeLine; decide), fun a3 h3 => ⟨(by show 1 ≤ sizeLine; decide), fun a4 h4 => ?_⟩⟩
    have n34 : a3 ≠ a4 := fun q => by rw [← q, upd_same] at h4; cases h4
    have s2' := (same_new h3 (.tup [.str "return"])).trans (same_new h4 (.tup [.ref a3]))
    have d2 : Dp K (upd (upd I1 a3 (.tup [.str "return"])) a4 (.tup [.ref a3])) (.ref a4) (.tuple (ds [.rt])) := .tup (SqT.of upd_same) (.cons (.tup (SqT.of (by rw [upd_ne n34]; exact upd_same)) (.cons (.str _) .nil)) .nil)
    generalize upd (upd I1 a3 (.tup [.str "return"])) a4 (.tup [.ref a3]) = I2 at s2' d2
    refine ⟨(by show 0 ≤ sizeLine; decide), fun a5 h5 => ⟨(by show 3 ≤ sizeLine; decide), fun a6 h6 => ⟨(by show 1 ≤ sizeLine; decide), fun a7 h7 => ?_⟩⟩⟩
    have n56 : a5 ≠ a6 := fun q => by rw [← q, upd_same] at h6; cases h6
    have n67 : a6 ≠ a7 := fun q => by rw [← q, upd_same] at h7; cases h7
    have n57 : a5 ≠ a7 := fun q => by rw [← q, upd_ne n56, upd_same] at h7; cases h7
    have s3' := (same_new h5 (.tup [])).trans ((same_new h6 (.tup [.str "ensure", .ref a4, .ref a5])).trans (same_new h7 (.tup [.ref a6])))
    have d3 : Dp K (upd (upd (upd I2 a5 (.tup [])) a6 (.tup [.str "ensure", .ref a4, .ref a5])) a7 (.tup [.ref a6])) (.ref a7) (.tuple (ds [.en [.rt] []])) :=
      .tup (SqT.of upd_same) (.cons (.tup (SqT.of (by rw [upd_ne n67]; exact upd_same)) (.cons (.str _) (.cons ((Tk.same s3').dp (.tuple (ds [.rt])) (tup_ds _) d2) (.cons (.tup (SqT.of (by rw [upd_ne n57, upd_ne n56]; exact upd_same)) .nil) .nil)))) .nil)
    generalize upd (upd (upd I2 a5 (.tup [])) a6 (.tup [.str "ensure", .ref a4, .ref a5])) a7 (.tup [.ref a6]) = I3 at s3' d3
    have t13 : Tk H4 I3 := Tk.same (s1.trans (s2'.trans s3'))
    refine ⟨_, rfl, la, _, 0, .str l0, rfl, rfl, (t04.trans t13).sqt hla, by rw [eL]; exact at0 _ _, (by show 2 ≤ sizeLine; decide), fun a8 h8 => ?_⟩
    have s4' := same_new h8 (.tup [.str "do", .str l0])
    have d4 : Dp K (upd I3 a8 (.tup [.str "do", .str l0])) (.ref a8) (St.d (.dd l0)) := .tup (SqT.of upd_same) (.cons (.str _) (.cons (.str _) .nil))
    generalize upd I3 a8 (.tup [.str "do", .str l0]) = I4 at s4' d4
    refine ⟨(by show 1 ≤ sizeLine; decide), fun b1 g1 => ⟨(by show 1 ≤ sizeLine; decide), fun b2 g2 => ⟨(by show 2 ≤ sizeLine; decide), fun b3 g3 => ⟨(by show 2 ≤ sizeLine; decide), fun b4 g4 => ?_⟩⟩⟩⟩
    have m12 : b1 ≠ b2 := fun q => by rw [← q, upd_same] at g2; cases g2
    have m23 : b2 ≠ b3 := fun q => by rw [← q, upd_same] at g3; cases g3
    have m13 : b1 ≠ b3 := fun q => by rw [← q, upd_ne m12, upd_same] at g3; cases g3
    have m34 : b3 ≠ b4 := fun q => by rw [← q, upd_same] at g4; cases g4
    have m24 : b2 ≠ b4 := fun q => by rw [← q, upd_ne m23, upd_same] at g4; cases g4
    have m14 : b1 ≠ b4 := fun q => by rw [← q, upd_ne m13, upd_ne m12, upd_same] at g4; cases g4
    have s5' := (same_new g1 (.tup [.str "return"])).trans ((same_new g2 (.tup [.ref b1])).trans ((same_new g3 (.tup [.str "loop", .ref b2])).trans (same_new g4 (.tup [.ref a8, .ref b3]))))
    have d5 : Dp K (upd (upd (upd (upd I4 b1 (.tup [.str "return"])) b2 (.tup [.ref b1])) b3 (.tup [.str "loop", .ref b2])) b4 (.tup [.ref a8, .ref b3])) (.ref b4) (.tuple (ds [.dd l0, .lp [.rt]])) := by
      refine .tup (SqT.of upd_same) (.cons ((Tk.same s5').dp _ (tup_St (.dd l0)) d4) (.cons (.tup (SqT.of (by rw [upd_ne m34]; exact upd_same)) (.cons (.str _) (.cons (.tup (SqT.of (by rw [upd_ne m24, upd_ne m23]; exact upd_same)) (.cons (.tup (SqT.of (by rw [upd_ne m14, upd_ne m13, upd_ne m12]; exact upd_same)) (.cons (.str _) .nil)) .nil)) .nil))) .nil))
    generalize upd (upd (upd (upd I4 b1 (.tup [.str "return"])) b2 (.tup [.ref b1])) b3 (.tup [.str "loop", .ref b2])) b4 (.tup [.ref a8, .ref b3]) = I5 at s5' d5
    refine ⟨(by show 3 ≤ sizeLine; decide), fun sl hsl => ?_⟩
    have s6' := same_new hsl (.lst [.ref a2, .ref a7, .ref b4])
    have hs6 : upd I5 sl (.lst [.ref a2, .ref a7, .ref b4]) sl = some (.lst [.ref a2, .ref a7, .ref b4]) := upd_same
    have dall : ∀ (r : Int), 0 ≤ r → r < 3 → ∃ x b, atI [V.ref a2, V.ref a7, V.ref b4] r = some x ∧ b ∈ secs3 l0 ∧ Dp K (upd I5 sl (.lst [.ref a2, .ref a7, .ref b4])) x (.tuple (ds b)) := fun r r0 r1 => by
      have : r = 0 ∨ r = 1 ∨ r = 2 := by omega
      rcases this with rfl | rfl | rfl
      · exact ⟨_, _, at0 _ _, by simp [secs3], (Tk.same (s2'.trans (s3'.trans (s4'.trans (s5'.trans s6'))))).dp (.tuple (ds [.rt])) (tup_ds _) d1⟩
      · exact ⟨_, _, at1 _ _ _, by simp [secs3], (Tk.same (s4'.trans (s5'.trans s6'))).dp (.tuple (ds [.en [.rt] []])) (tup_ds _) d3⟩
      · exact ⟨_, _, at2 _ _ _ _, by simp [secs3], (Tk.same s6').dp (.tuple (ds [.dd l0, .lp [.rt]])) (tup_ds _) d5⟩
    have sI := s1.trans (s2'.trans (s3'.trans (s4'.trans (s5'.trans s6'))))
    generalize upd I5 sl (.lst [.ref a2, .ref a7, .ref b4]) = I6 at s6' hs6 dall sI
    have hWI := hW4.same sI
    have nsl : sl ∉ [w, l] := (hW4.same (s1.trans (s2'.trans (s3'.trans (s4'.trans s5'))))).out hsl
    refine ⟨_, rfl, _, rfl, (by show 0 ≤ sizeLine; decide), fun e1 he1 => ?_⟩
    have s7' := same_new he1 (.tup [])
    have q7 : SqT K (upd I6 e1 (.tup [])) e1 [] := SqT.of upd_same
    have hs7 := s7' _ _ hs6
    refine ⟨_, rfl, _, rfl, w, l, c + 97, 3, rfl, (hWI.same s7').le (by omega), by decide, by decide, fun r H8 r0 r1 hW8 k8 t8 => ?_⟩
    obtain ⟨xv, b, hat, hbm', hdx⟩ := dall r r0 r1
    obtain ⟨o1, o2, o3⟩ := sec3_ok (A := AL) (B := BN) hl0 (m := 4 + j + 1) (by omega) b hbm'
    refine ⟨sl, _, _, _, rfl, rfl, SqL.of (k8 _ _ nsl hs7), hat, (by show 3 ≤ sizeLine; decide), fun z hz => ?_⟩
    have sz := same_new hz (.tup [.str "ensure", .ref e1, xv])
    have t8z := t8.trans (Tk.same sz)
    exact put (x := .en [] b) (e := 2) (k := 4) ((hW8.same sz).le (by omega)) ((Kp.of_same (sI.trans s7')).trans (k8.trans (Kp.of_same sz))) ((Tk.same (sI.trans s7')).trans t8z) (.tup (SqT.of upd_same) (.cons (.str _) (.cons (.tup (t8z.sqt q7) .nil) (.cons (((Tk.same s7').trans t8z).dp (.tuple (ds b)) (tup_ds b) hdx) .nil)))) o1 o2 o3 same0 fun H' v' b' h1 w1 h2 k2 t2 => ⟨p.1, v', b', _, _, 2, 4, none, _, rfl, h1, hnm, w1, by omega, by omega, same0, h2, k2, t2⟩
end
end K06


set_option Elab.async false
set_option linter.all false
set_option maxRecDepth 100000
set_option maxHeartbeats 8000000
namespace K06
open PySem PySem.Spec PyProof.Rows L2
/-! ### the words of a text -/
def obr : Str := "{"
def cbr : Str := "}"
def smc : Str := ";"
mutual
def St.tk : St → List Str
  | .dd x => ["do", x, smc]
  | .ud x => ["undo", x, smc]
  | .cl x => ["call", x, smc]
  | .ch bs => "choose" :: tkE "or" 0 bs
  | .lp b => "loop" :: obr :: (tks b ++ [cbr])
  | .rt => ["return", smc]
  | .en b c => "ensure" :: obr :: (tks b ++ cbr :: "finally" :: obr :: (tks c ++ [cbr]))
def tks : List St → List Str
  | [] => []
  | s :: r => s.tk ++ tks r
/-- bodies, each but the first with the word ahead of it -/
def tkE (sep : Str) : Nat → List (List St) → List Str
  | _, [] => []
  | j, b :: r => (if j = 0 then [] else [sep]) ++ (obr :: (tks b ++ cbr :: tkE sep (j + 1) r))
end
def btk (b : List St) : List Str := obr :: (tks b ++ [cbr])
def St.sep : St → Str
  | .ch _ => "or"
  | _ => "finally"
theorem sep_eq : ∀ s : St, (if decide (s.w = "choose") = true then ("or" : Str) else "finally") = s.sep
  | .dd _ => (by decide +kernel : (if decide (("do" : Str) = "choose") = true then ("or" : Str) else "finally") = "finally")
  | .ud _ => (by decide +kernel : (if decide (("undo" : Str) = "choose") = true then ("or" : Str) else "finally") = "finally")
  | .cl _ => (by decide +kernel : (if decide (("call" : Str) = "choose") = true then ("or" : Str) else "finally") = "finally")
  | .ch _ => (by decide +kernel : (if decide (("choose" : Str) = "choose") = true then ("or" : Str) else "finally") = "or")
  | .lp _ => (by decide +kernel : (if decide (("loop" : Str) = "choose") = true then ("or" : Str) else "finally") = "finally")
  | .rt => (by decide +kernel : (if decide (("return" : Str) = "choose") = true then ("or" : Str) else "finally") = "finally")
  | .en _ _ => (by decide +kernel : (if decide (("ensure" : Str) = "choose") = true then ("or" : Str) else "finally") = "finally")
/-- the words behind the first one, of a statement without bodies -/
def St.tl : St → List Str
  | .dd x => [x]
  | .ud x => [x]
  | .cl x => [x]
  | _ => []
theorem tk_plain : ∀ {s : St}, s.isO = false → s.tk = s.w :: (s.tl ++ [smc]) ∧ s.bs = [] ∧ s.d = .tuple ((s.w :: s.tl).map PyData.str)
  | .dd _, _ | .ud _, _ | .cl _, _ | .rt, _ => ⟨rfl, rfl, rfl⟩
  | .ch _, h | .lp _, h | .en _ _, h => by cases h
theorem tk_bodies : ∀ {s : St}, s.isO = true → s.tk = s.w :: tkE s.sep 0 s.bs
  | .ch bs, _ => by rw [St.tk]; rfl
  | .lp b, _ => by rw [St.tk]; simp [St.bs, tkE, St.w]
  | .en b c, _ => by rw [St.tk]; simp [St.bs, tkE, St.w, St.sep]
  | .dd _, h | .ud _, h | .cl _, h | .rt, h => by cases h
theorem tks_take : ∀ {b : List St} {i : Nat} {s : St}, b[i]? = some s → tks (b.take (i + 1)) = tks (b.take i) ++ s.tk
  | [], i, s, h => by simp at h
  | x :: r, 0, s, h => by
    simp at h
    subst h
    simp [tks]
  | x :: r, i + 1, s, h => by
    have := tks_take (b := r) (i := i) (s := s) (by simpa using h)
    rw [List.take_succ_cons, List.take_succ_cons, tks, tks, this, List.append_assoc]
theorem tkE_take (sep : Str) : ∀ {bs : List (List St)} {j : Nat} {b : List St} (k : Nat), bs[j]? = some b → tkE sep k (bs.take (j + 1)) = tkE sep k (bs.take j) ++ ((if k + j = 0 then [] else [sep]) ++ btk b)
  | [], j, b, k, h => by simp at h
  | x :: r, 0, b, k, h => by
    simp at h
    subst h
    simp [tkE, btk]
  | x :: r, j + 1, b, k, h => by
    have := tkE_take sep (bs := r) (j := j) (b := b) (k + 1) (by simpa using h)
    rw [List.take_succ_cons, List.take_succ_cons, tkE, tkE, this, show k + 1 + j = k + (j + 1) by omega]
    simp
mutual
theorem tk_len {A B : List Str} : ∀ (s : St) (sec : Bool), s.ok A B sec → s.tk.length ≤ 19 * s.n
  | .dd _, _, _ | .ud _, _, _ | .cl _, _, _ | .rt, _, _ => by simp [St.tk, St.n]
  | .ch bs, sec, h => by
    have := tkE_len "or" 0 bs sec h.2.2
    have := h.2.1
    rw [St.tk, List.length_cons, St.n]
    omega
  | .lp b, sec, h => by
    have := tks_len b sec h
    rw [St.tk, St.n]
    simp only [List.length_cons, List.length_append, List.length_nil]
    omega
  | .en b c, sec, h => by
    have := tks_len b sec h.1
    have := tks_len c true h.2
    rw [St.tk, St.n]
    simp only [List.length_cons, List.length_append, List.length_nil]
    omega
theorem tks_len {A B : List Str} : ∀ (b : List St) (sec : Bool), oks A B sec b → (tks b).length ≤ 19 * ns b
  | [], _, _ => by simp [tks]
  | s :: r, sec, h => by
    have := tk_len s sec h.1
    have := tks_len r sec h.2
    rw [tks, List.length_append, ns]
    omega
theorem tkE_len {A B : List Str} (sep : Str) : ∀ (j : Nat) (b : List (List St)) (sec : Bool), okss A B sec b → (tkE sep j b).length ≤ 3 * b.length + 19 * nss b
  | _, [], _, _ => by simp [tkE]
  | j, s :: r, sec, h => by
    have := tks_len s sec h.1
    have := tkE_len sep (j + 1) r sec h.2
    rw [tkE, nss]
    have h1 : ((if j = 0 then [] else [sep] : List Str)).length ≤ 1 := by split <;> simp
    simp only [List.length_append, List.length_cons]
    omega
end
theorem tkE_app (sep : Str) : ∀ (a b : List (List St)) (k : Nat), tkE sep k (a ++ b) = tkE sep k a ++ tkE sep (k + a.length) b
  | [], b, k => rfl
  | x :: r, b, k => by
    rw [List.cons_append, tkE, tkE, tkE_app sep r b (k + 1), show k + 1 + r.length = k + (x :: r).length by simp; omega]
    simp
theorem tkE_le (sep : Str) (k : Nat) (b : List (List St)) (j : Nat) : (tkE sep k (b.take j)).length ≤ (tkE sep k b).length := by
  conv => rhs; rw [← List.take_append_drop j b, tkE_app, List.length_append]
  omega
theorem tks_app : ∀ a b : List St, tks (a ++ b) = tks a ++ tks b
  | [], b => rfl
  | x :: r, b => by rw [List.cons_append, tks, tks, tks_app r b, List.append_assoc]
/-- a program's words -/
def ptk (L : List Str) (P : List (Str × List St)) : List Str := "letters" :: (L ++ smc :: P.flatMap fun p => "proc" :: p.1 :: btk p.2)
theorem st_cells {K : PySem.W.Frag} {H : Hp} {v : V} {s : St} (h : Dp K H v s.d) : ∃ a xs, v = V.ref a ∧ SqT K H a xs ∧ atI xs 0 = some (.str s.w) := by
  cases s <;> (obtain ⟨a, xs, rfl, hs, ha, hl⟩ := len_ok h; cases ha with | cons h0 ha => cases h0; exact ⟨a, _, rfl, hs, at0 _ _⟩)
section
variable {P : Program} {w : World} {K : PySem.W.Frag} {mg : Str → Option Value} {base : Heap}

def spWB (K : PySem.W.Frag) (n : Nat) : Sp := fun vs H Q _ => ∃ v F acc b A B, vs = [v, .ref F] ∧ Dp K H v (.tuple (ds b)) ∧ ks b < n ∧ oks A B false b ∧ H F = some (.lst (acc.map V.str)) ∧ acc.length + (btk b).length ≤ 10000 ∧
  ∀ H', H' F = some (.lst ((acc ++ btk b).map V.str)) → Tk H H' → Kp [F] H H' → Q .non H'
def spWS (K : PySem.W.Frag) (n : Nat) : Sp := fun vs H Q _ => ∃ v F acc s A B, vs = [v, .ref F] ∧ Dp K H v (St.d s) ∧ s.k ≤ n ∧ s.ok A B false ∧ H F = some (.lst (acc.map V.str)) ∧ acc.length + s.tk.length ≤ 10000 ∧
  ∀ H', H' F = some (.lst ((acc ++ s.tk).map V.str)) → Tk H H' → Kp [F] H H' → Q .non H'
theorem sc__write_body : FnScope ["body", "words", "statement"] ["body", "words"] (C8.fnScope (topS 30)) := C8.fnScope_by (by decide +kernel)
theorem sc__write_statement : FnScope ["statement", "words", "bodies", "at", "body"] ["statement", "words"] (C8.fnScope (topS 31)) := C8.fnScope_by (by decide +kernel)
theorem app_str {H : Hp} {F : Addr} {acc : List Str} {x : Str} {ys : List Str} {o : HO} (e : ys = acc ++ [x]) (h : o = .lst (acc.map V.str ++ [.str x])) : upd H F o F = some (.lst (ys.map V.str)) := by
  rw [upd_same, h, e, List.map_append]
  rfl
theorem ok_wb {n e : Nat} {f : Addr} {fd : FuncData} (F : C8.Def K mg "_write_body" (topS 30) f fd) (b : Binds K fd ["body", "words"] []) (B : Bl K mg) (c_ws : C8.Cal P w K mg base e "_write_statement" (spWS K n) []) (he : 1 ≤ e) : C8.Cal P w K mg base (e + 1) "_write_body" (spWB K (n + 1)) [] := by
  refine C8.cal0 F b .nil sc__write_body ?len ?body
  case len => rintro vs H Q E ⟨v, F, acc, b, AL, BN, rfl, _⟩; rfl
  case body =>
    rintro cdv A outer s H vs Q E hr ⟨v, F, acc, b, AL, BN, rfl, hd, hk, hok, hF, hl, q⟩
    refine ⟨_, (pss_cons (ps_expr (pe_bm PySem.F.plainAttrs_list PySem.F.slot_list_append PySem.F.type_list_append mt_append (pv 1) (pa_cons pe_str pa_nil)))
    (pss_cons (ps_for PassesOwn.never rfl (pi_tup (pv 0)) (pg_name (i := 2) sc__write_body.nd rfl (Or.inl rfl))
    (pss_one (ps_expr (C8.pe_c c_ws hr (by omega) rfl (pa_cons (pv 2) (pa_cons (pv 1) pa_nil))))))
    (pss_one (ps_expr (pe_bm PySem.F.plainAttrs_list PySem.F.slot_list_append PySem.F.type_list_append mt_append (pv 1) (pa_cons pe_str pa_nil)))))), ?_⟩
    obtain ⟨a, xs, rfl, hs, ha, hxl⟩ := len_ok hd
    rw [ds_len] at hxl
    have hbl : (btk b).length = 2 + (tks b).length := by unfold btk; simp; omega
    refine ⟨_, rfl, .inl ⟨rfl, _, SqL.of hF⟩, F, _, _, rfl, rfl, hF, Nat.lt_of_le_of_lt (show (acc.map V.str).length ≤ 10000 by rw [List.length_map]; omega) (by decide), ?_⟩
    have t1 := Tk.put hF (.lst (acc.map V.str ++ [.str "{"]))
    have k1 : Kp [F] H (upd H F (.lst (acc.map V.str ++ [.str "{"]))) := Kp.put _ (by simp)
    have hF1 : upd H F (.lst (acc.map V.str ++ [.str "{"])) F = some (.lst ((acc ++ [obr]).map V.str)) := app_str rfl rfl
    show (fun H3 => _) (upd H F (.lst (acc.map V.str ++ [.str "{"])))
    generalize upd H F (.lst (acc.map V.str ++ [.str "{"])) = H1 at t1 k1 hF1
    refine ⟨_, rfl, a, rfl, ⟨_, t1.sqt hs⟩, ?_⟩
    refine for_tup (xs := xs) (fun i σ H' => ∃ b2, σ = [some (.ref a), some (.ref F), b2] ∧ H' F = some (.lst ((acc ++ [obr] ++ tks (b.take i)).map V.str)) ∧ Tk H H' ∧ Kp [F] H H') ⟨none, rfl, by simpa [tks] using hF1, t1, k1⟩ ?_ ?_ ?_
    · rintro i σ H' _ ⟨_, _, _, t, _⟩
      exact t.sqt hs
    · rintro i x _ H2 hx ⟨b2, rfl, hF2, t2, k2⟩
      obtain ⟨dd, hdd, hdp⟩ := dps_get' ha hx
      obtain ⟨st, hst, rfl⟩ := ds_get hdd
      have hsm : st ∈ b := List.mem_of_getElem? hst
      have hsk := ks_mem hsm
      have htk := tks_take hst
      have hle : (tks (b.take (i + 1))).length ≤ (tks b).length := by
        conv => rhs; rw [← List.take_append_drop (i + 1) b]
        rw [tks_app, List.length_append]
        omega
      rw [htk, List.length_append] at hle
      refine ⟨_, rfl, _, rfl, x, F, acc ++ [obr] ++ tks (b.take i), st, AL, BN, rfl, t2.dp _ (tup_St st) hdp, by omega, oks_iff.mp hok st hsm, hF2, by simp only [List.length_append, List.length_cons, List.length_nil]; omega, fun H3 hF3 t3 k3 => ?_⟩
      exact ⟨_, rfl, by rw [htk]; simpa using hF3, t2.trans t3, k2.trans k3⟩
    · rintro σ H2 ⟨b2, rfl, hF2, t2, k2⟩
      rw [hxl, List.take_length] at hF2
      refine ⟨_, rfl, .inl ⟨rfl, _, SqL.of hF2⟩, F, _, _, rfl, rfl, hF2, Nat.lt_of_le_of_lt (show _ ≤ 10000 by rw [List.length_map]; simp only [List.length_append, List.length_cons, List.length_nil]; omega) (by decide), ?_⟩
      refine q _ (app_str ?_ rfl) (t2.trans (Tk.put hF2 _)) (k2.trans (Kp.put _ (by simp)))
      unfold btk
      simp
      rfl
theorem ok_ws {n e : Nat} {f : Addr} {fd : FuncData} (F : C8.Def K mg "_write_statement" (topS 31) f fd) (b : Binds K fd ["statement", "words"] []) (B : Bl K mg) (c_bodies_of : C8.Cal P w K mg base 1 "bodies_of" (spBod K) []) (c_wb : C8.Cal P w K mg base e "_write_body" (spWB K n) []) (he : 1 ≤ e) : C8.Cal P w K mg base (e + 1) "_write_statement" (spWS K n) [] := by
  refine C8.cal0 F b .nil sc__write_statement ?len ?body
  case len => rintro vs H Q E ⟨v, F, acc, b, AL, BN, rfl, _⟩; rfl
  case body =>
    rintro cdv A outer s H vs Q E hr ⟨v, F, acc, st, AL, BN, rfl, hd, hk, hok, hF, hl, q⟩
    refine ⟨_, (pss_cons (ps_expr (pe_bm PySem.F.plainAttrs_list PySem.F.slot_list_append PySem.F.type_list_append mt_append (pv 1) (pa_cons (pe_ix ix_tup (pv 0) pe_int (fun _ _ => rfl)) pa_nil)))
    (pss_cons (ps_set (i := 2) sc__write_statement.nd rfl (Or.inl rfl) (C8.pe_c c_bodies_of hr (by omega) rfl (pa_cons (pv 0) pa_nil)))
    (C8.pss_cut (ps_if (pt_not (pt_truth (pv 2) (by intro _; rfl))) (pss_one (ps_expr (pe_bm PySem.F.plainAttrs_list PySem.F.slot_list_extend PySem.F.type_list_extend mt_extend (pv 1) (pa_cons (pe_lst (StX.pa_star (pe_slice sl_tupA (pv 0) (po_some pe_int) po_none) (pa_cons pe_str pa_nil))) pa_nil)))) pss_nil)
    (pss_one (ps_for PassesOwn.never rfl (UG.pi_enumT rfl B.enumerate (pa_cons (pv 2) pa_nil)) (pg_tup rfl (pgs_cons (pg_name (i := 3) sc__write_statement.nd rfl (Or.inl rfl)) (pgs_cons (pg_name (i := 4) sc__write_statement.nd rfl (Or.inl rfl)) pgs_nil)))
    (pss_cons (ps_if (pt_cmpR op_gt (pv 3) pe_int (nomark _)) (pss_one (ps_expr (pe_bm PySem.F.plainAttrs_list PySem.F.slot_list_append PySem.F.type_list_append mt_append (pv 1) (pa_cons (pe_ifExp (pt_cmpR op_eq (pe_ix ix_tup (pv 0) pe_int (fun _ _ => rfl)) pe_str (nomark _)) pe_str pe_str) pa_nil)))) pss_nil)
    (pss_one (ps_expr (C8.pe_c c_wb hr (by omega) rfl (pa_cons (pv 4) (pa_cons (pv 1) pa_nil))))))))))), ?_⟩
    obtain ⟨a, xs, rfl, hs, hs0⟩ := st_cells hd
    have hnm : acc.length + 1 ≤ 10000 := by
      have : 1 ≤ st.tk.length := by
        cases h : st.isO with
        | true => rw [tk_bodies h]; simp
        | false => rw [(tk_plain h).1]; simp
      omega
    refine ⟨_, rfl, .inl ⟨rfl, _, SqL.of hF⟩, _, rfl, _, _, _, _, rfl, rfl, hs, hs0, F, _, _, rfl, rfl, hF, Nat.lt_of_le_of_lt (show (acc.map V.str).length ≤ 10000 by rw [List.length_map]; omega) (by decide), ?_⟩
    have t1 := Tk.put hF (.lst (acc.map V.str ++ [.str st.w]))
    have k1 : Kp [F] H (upd H F (.lst (acc.map V.str ++ [.str st.w]))) := Kp.put _ (by simp)
    have hF1 : upd H F (.lst (acc.map V.str ++ [.str st.w])) F = some (.lst ((acc ++ [st.w]).map V.str)) := app_str rfl rfl
    show (fun H3 => _) (upd H F (.lst (acc.map V.str ++ [.str st.w])))
    generalize upd H F (.lst (acc.map V.str ++ [.str st.w])) = H1 at t1 k1 hF1
    refine ⟨_, rfl, .ref a, st, rfl, t1.dp _ (tup_St st) hd, fun v' H2 s2 hb2 => ?_⟩
    obtain ⟨ba, bxs, rfl, hbs, hba, hbl⟩ := len_ok hb2
    rw [dss_len] at hbl
    have t2 := t1.trans (Tk.same s2)
    have k2 : Kp [F] H H2 := k1.trans (Kp.of_same s2)
    have hF2 := s2 _ _ hF1
    refine ⟨fun σ' H' => ∃ pre, σ' = [some (.ref a), some (.ref F), some (.ref ba), none, none] ∧ H' F = some (.lst ((acc ++ [st.w] ++ pre).map V.str)) ∧ acc ++ [st.w] ++ pre ++ tkE st.sep 0 st.bs = acc ++ st.tk ∧ Tk H2 H' ∧ Kp [F] H H', ?_, ?_⟩
    · refine ⟨_, rfl, _, .inr (.inl ⟨_, hbs, rfl⟩), ?_⟩
      cases h : st.isO with
      | true =>
        have hb1 : bxs.isEmpty = false := by
          cases bxs with
          | cons _ _ => rfl
          | nil =>
            cases st with
            | ch bs => have := hok.1; simp [St.bs] at hbl; omega
            | lp _ => simp [St.bs] at hbl
            | en _ _ => simp [St.bs] at hbl
            | dd _ => cases h
            | ud _ => cases h
            | cl _ => cases h
            | rt => cases h
        rw [hb1]
        exact ifF rfl ⟨[], rfl, by simpa using hF2, by rw [tk_bodies h]; simp, Tk.refl _, k2⟩
      | false =>
        obtain ⟨e1, e2, e3⟩ := tk_plain h
        have hb1 : bxs.isEmpty = true := by
          rw [e2] at hbl
          cases bxs with
          | nil => rfl
          | cons _ _ => simp at hbl
        rw [hb1]
        have hdw := t2.dp _ (tup_St st) hd
        rw [e3] at hdw
        have hl4 : st.tl.length ≤ 1 := by cases st <;> simp [St.tl]
        refine ifT rfl ⟨_, rfl, .inl ⟨rfl, _, SqL.of hF2⟩, _, rfl, 1, rfl, ?_⟩
        dsimp only [tNoPart]
        refine slFrom (i := 1) hdw (tup_strs _) (by simp) fun vC H3 s3 hC => ?_
        rw [List.map_cons, List.drop_succ_cons, List.drop_zero] at hC
        obtain ⟨ca, cxs, rfl, hcs, hca, hcl⟩ := len_ok hC
        cases strs_vals hca
        refine ⟨ca, _, rfl, .inl hcs, Nat.le_trans (show _ ≤ 2 by rw [List.length_append, List.length_map]; simp; omega) (by decide), fun p hp => ?_⟩
        have sp := same_new hp (.lst (st.tl.map V.str ++ [.str ";"]))
        have hF3 := (s3.trans sp) _ _ hF2
        refine ⟨F, p, _, _, rfl, rfl, hF3, upd_same, Nat.le_trans (show _ ≤ 20000 by rw [List.length_map, List.length_append, List.length_append, List.length_map]; simp; omega) (by decide), ?_⟩
        refine ⟨st.tl ++ [smc], rfl, ?_, by rw [e1, e2]; simp [tkE], (Tk.same (s3.trans sp)).trans (Tk.put hF3 _), k2.trans ((Kp.of_same (s3.trans sp)).trans (Kp.put _ (by simp)))⟩
        rw [upd_same]
        simp only [List.map_append]
        rfl
    · rintro _ H3 ⟨pre, rfl, hF3, etk, t3, k3⟩
      refine ⟨_, rfl, ba, _, rfl, t3.sqt hbs, ?_⟩
      have hdb3 := t3.dp (.tuple (dss st.bs)) (tup_dss _) (.tup hbs hba)
      have etl : acc.length + 1 + pre.length + (tkE st.sep 0 st.bs).length ≤ 10000 := by
        have := congrArg List.length etk
        simp only [List.length_append, List.length_cons, List.length_nil] at this
        omega
      refine for_enumT (xs := bxs) (fun j σ H' => ∃ b4 b5, σ = [some (.ref a), some (.ref F), some (.ref ba), b4, b5] ∧ H' F = some (.lst ((acc ++ [st.w] ++ pre ++ tkE st.sep 0 (st.bs.take j)).map V.str)) ∧ Tk H3 H' ∧ Kp [F] H H') ⟨none, none, rfl, by simpa [tkE] using hF3, Tk.refl _, k3⟩ ?_ ?_ ?_
      · rintro j σ H' _ ⟨_, _, _, _, t, _⟩
        exact (t3.trans t).sqt hbs
      · rintro j y _ H4 Tp hy ⟨b4, b5, rfl, hF4, t4, k4⟩ hTp
        obtain ⟨dd2, hdd2, hdp2⟩ := dps_get' hba hy
        obtain ⟨b2, hb2', rfl⟩ := dss_get hdd2
        have sT := same_new hTp (.tup [.int (j : Nat), y])
        refine ⟨Tp, _, rfl, SqT.of upd_same, rfl, _, _, rfl, _, _, rfl, rfl, ?_⟩
        have hF5 := sT _ _ hF4
        have t5 := t4.trans (Tk.same sT)
        have k5 := k4.trans (Kp.of_same (as := [F]) sT)
        generalize upd H4 Tp (.tup [.int (j : Nat), y]) = H5 at hF5 t5 k5
        have htk := tkE_take st.sep 0 hb2'
        rw [Nat.zero_add] at htk
        have hle : (tkE st.sep 0 (st.bs.take (j + 1))).length ≤ (tkE st.sep 0 st.bs).length := tkE_le _ _ _ _
        have hkb := bs_k hb2'
        rw [htk] at hle
        simp only [List.length_append] at hle
        have hob : oks AL BN false b2 := by
          obtain ⟨sec', ho⟩ := ok_bs hok b2 (List.mem_of_getElem? hb2')
          exact oks_any false ho
        have fin : ∀ (H6 : Hp) (pr : List Str), H6 F = some (.lst ((acc ++ [st.w] ++ pre ++ tkE st.sep 0 (st.bs.take j) ++ pr).map V.str)) → pr = (if j = 0 then [] else [st.sep]) → Tk H5 H6 → Kp [F] H5 H6 → spWB K n [y, .ref F] H6 (fun _ H' => ∃ b4 b5, ([some (.ref a), some (.ref F), some (.ref ba), some (.int (j : Int)), some y] : L2.St) = [some (.ref a), some (.ref F), some (.ref ba), b4, b5] ∧ H' F = some (.lst ((acc ++ [st.w] ++ pre ++ tkE st.sep 0 (st.bs.take (j + 1))).map V.str)) ∧ Tk H3 H' ∧ Kp [F] H H') C8.E0 := fun H6 pr hF6 epr t6 k6 => by
          subst epr
          refine ⟨y, F, _, b2, AL, BN, rfl, ((t3.trans t5).trans t6).dp (.tuple (ds b2)) (tup_ds b2) hdp2, by omega, hob, hF6, by simp only [List.length_append, List.length_cons, List.length_nil]; omega, fun H7 hF7 t7 k7 => ?_⟩
          refine ⟨_, _, rfl, ?_, t5.trans (t6.trans t7), k5.trans (k6.trans k7)⟩
          rw [htk, ← List.append_assoc, ← List.append_assoc]
          exact hF7
        refine ⟨_, rfl, _, _, rfl, rfl, _, rfl, ?_⟩
        by_cases hj : (0 : Int) < (j : Nat)
        · rw [decide_eq_true hj]
          have hj0 : ¬ j = 0 := by omega
          have hs5 := (t2.trans (t3.trans t5)).sqt hs
          rw [if_neg hj0] at hle htk
          refine iteT ⟨_, rfl, .inl ⟨rfl, _, SqL.of hF5⟩, _, rfl, _, _, _, _, rfl, rfl, hs5, hs0, rfl, _, rfl, ?_⟩
          rw [dec_str]
          have hsz : ((acc ++ [st.w] ++ pre ++ tkE st.sep 0 (st.bs.take j)).map V.str).length < sizeLine := Nat.lt_of_le_of_lt (show _ ≤ 10000 by rw [List.length_map]; simp only [List.length_append, List.length_cons, List.length_nil]; omega) (by decide)
          have es := sep_eq st
          by_cases hw : decide (st.w = "choose") = true
          · rw [if_pos hw] at es
            refine ifT hw ⟨F, _, _, rfl, rfl, hF5, hsz, ?_⟩
            exact ⟨_, rfl, _, rfl, fin _ [st.sep] (app_str rfl (by rw [← es])) (by rw [if_neg hj0]) (Tk.put hF5 _) (Kp.put _ (by simp))⟩
          · rw [if_neg hw] at es
            refine ifF (by simpa using hw) ⟨F, _, _, rfl, rfl, hF5, hsz, ?_⟩
            exact ⟨_, rfl, _, rfl, fin _ [st.sep] (app_str rfl (by rw [← es])) (by rw [if_neg hj0]) (Tk.put hF5 _) (Kp.put _ (by simp))⟩
        · rw [decide_eq_false hj]
          have hj0 : j = 0 := by omega
          exact iteF ⟨_, rfl, _, rfl, fin H5 [] (by rw [List.append_nil]; exact hF5) (by rw [if_pos hj0]) (Tk.refl _) (Kp.refl _)⟩
      · rintro σ H4 ⟨b4, b5, rfl, hF4, t4, k4⟩
        rw [hbl, List.take_length, etk] at hF4
        exact q H4 hF4 ((t2.trans t3).trans t4) k4
theorem wb_all {fb fs : Addr} {fdb fds : FuncData} (Fb : C8.Def K mg "_write_body" (topS 30) fb fdb) (bb : Binds K fdb ["body", "words"] []) (Fs : C8.Def K mg "_write_statement" (topS 31) fs fds) (bs : Binds K fds ["statement", "words"] []) (B : Bl K mg) (c_bodies_of : C8.Cal P w K mg base 1 "bodies_of" (spBod K) []) : ∀ n : Nat, C8.Cal P w K mg base (2 * n + 2) "_write_body" (spWB K n) []
  | 0 => by
    refine C8.cal0 Fb bb .nil sc__write_body ?len ?body
    case len => rintro vs H Q E ⟨_, _, _, _, _, _, rfl, _⟩; rfl
    case body => rintro cdv A outer s H vs Q E hr ⟨_, _, _, _, _, _, _, _, h, _⟩; exact absurd h (Nat.not_lt_zero _)
  | n + 1 => ok_wb Fb bb B (ok_ws Fs bs B c_bodies_of (wb_all Fb bb Fs bs B c_bodies_of n) (by omega)) (by omega)
/-- what the text is: the program's words, with blanks between them -/
def textOf (L : List Str) (P : List (Str × List St)) : Str := Str.join " " (ptk L P)
def spWP (K : PySem.W.Frag) (Ts : List Addr) : Sp := fun vs H Q _ => ∃ v L P AL BN, vs = [v] ∧ Dp K H v (progD L P) ∧ Prog L P AL BN ∧ Tbs Ts H ∧ ∀ H', Go Ts H H' → Q (.str (textOf L P)) H'
theorem btk_len {A B : List Str} {b : List St} {sec : Bool} (h : oks A B sec b) : (btk b).length ≤ 2 + 19 * ns b := by
  have := tks_len b sec h
  unfold btk
  simp only [List.length_cons, List.length_append, List.length_nil]
  omega
/-- the words of procedures -/
def rtk (P : List (Str × List St)) : List Str := P.flatMap fun p => "proc" :: p.1 :: btk p.2
theorem rtk_len {A B : List Str} : ∀ {P : List (Str × List St)}, (∀ b ∈ nsP P, oks A B false b) → (rtk P).length ≤ 4 * P.length + 19 * nss (nsP P)
  | [], _ => by simp [rtk, nsP, nss]
  | p :: r, h => by
    have h1 := btk_len (h p.2 (by simp [nsP]))
    have h2 := rtk_len (P := r) fun b hb => h b (by unfold nsP at hb ⊢; exact List.mem_cons_of_mem _ hb)
    unfold rtk at h2 ⊢
    unfold nsP at h2 ⊢
    rw [List.flatMap_cons, List.length_append, List.map_cons, nss]
    simp only [List.length_cons] at h1 h2 ⊢
    omega
theorem rtk_take {P : List (Str × List St)} {i : Nat} {p : Str × List St} (h : P[i]? = some p) : rtk (P.take (i + 1)) = rtk (P.take i) ++ (["proc", p.1] : List Str) ++ btk p.2 := by
  unfold rtk
  rw [List.take_succ, h]
  simp
theorem rtk_le (P : List (Str × List St)) (i : Nat) : (rtk (P.take i)).length ≤ (rtk P).length := by
  conv => rhs; rw [← List.take_append_drop i P]; unfold rtk; rw [List.flatMap_append, List.length_append]
  unfold rtk
  omega
/-- the words of the language, and the signs -/
def fixW : List Str := ["do", "undo", "call", "return", "choose", "loop", "ensure", "or", "finally", obr, cbr, smc, "letters", "proc"]
/-- what holds of all words -/
structure Wd (R : Str → Prop) : Prop where
  fix : ∀ x ∈ fixW, R x
  name : ∀ x, nameB x = true → R x
mutual
theorem tk_sh {A B : List Str} {R : Str → Prop} (hR : Wd R) (hA : Nok A) (hB : Nok B) : ∀ (s : St) (sec : Bool), s.ok A B sec → ∀ x ∈ s.tk, R x
  | .dd y, _, h => by
    intro x hx
    simp only [St.tk, List.mem_cons, List.not_mem_nil, or_false] at hx
    rcases hx with rfl | rfl | rfl
    · exact hR.fix _ (by decide +kernel)
    · exact hR.name _ (hA _ h)
    · exact hR.fix _ (by decide +kernel)
  | .ud y, _, h => by
    intro x hx
    simp only [St.tk, List.mem_cons, List.not_mem_nil, or_false] at hx
    rcases hx with rfl | rfl | rfl
    · exact hR.fix _ (by decide +kernel)
    · exact hR.name _ (hA _ h)
    · exact hR.fix _ (by decide +kernel)
  | .cl y, _, h => by
    intro x hx
    simp only [St.tk, List.mem_cons, List.not_mem_nil, or_false] at hx
    rcases hx with rfl | rfl | rfl
    · exact hR.fix _ (by decide +kernel)
    · exact hR.name _ (hB _ h)
    · exact hR.fix _ (by decide +kernel)
  | .rt, _, _ => by
    intro x hx
    simp only [St.tk, List.mem_cons, List.not_mem_nil, or_false] at hx
    rcases hx with rfl | rfl
    · exact hR.fix _ (by decide +kernel)
    · exact hR.fix _ (by decide +kernel)
  | .ch bs, sec, h => by
    intro x hx
    rw [St.tk] at hx
    rcases List.mem_cons.mp hx with rfl | hx
    · exact hR.fix _ (by decide +kernel)
    · exact tkE_sh hR hA hB (hR.fix _ (by decide +kernel)) 0 bs sec h.2.2 x hx
  | .lp b, sec, h => by
    intro x hx
    simp only [St.tk, List.mem_cons, List.mem_append, List.not_mem_nil, or_false] at hx
    rcases hx with rfl | rfl | hx | rfl
    · exact hR.fix _ (by decide +kernel)
    · exact hR.fix _ (by decide +kernel)
    · exact tks_sh hR hA hB b sec h x hx
    · exact hR.fix _ (by decide +kernel)
  | .en b c, sec, h => by
    intro x hx
    simp only [St.tk, List.mem_cons, List.mem_append, List.not_mem_nil, or_false] at hx
    rcases hx with rfl | rfl | hx | rfl | rfl | rfl | hx | rfl
    · exact hR.fix _ (by decide +kernel)
    · exact hR.fix _ (by decide +kernel)
    · exact tks_sh hR hA hB b sec h.1 x hx
    · exact hR.fix _ (by decide +kernel)
    · exact hR.fix _ (by decide +kernel)
    · exact hR.fix _ (by decide +kernel)
    · exact tks_sh hR hA hB c true h.2 x hx
    · exact hR.fix _ (by decide +kernel)
theorem tks_sh {A B : List Str} {R : Str → Prop} (hR : Wd R) (hA : Nok A) (hB : Nok B) : ∀ (b : List St) (sec : Bool), oks A B sec b → ∀ x ∈ tks b, R x
  | [], _, _ => fun x hx => by simp [tks] at hx
  | s :: r, sec, h => fun x hx => by
    rw [tks] at hx
    exact (List.mem_append.mp hx).elim (tk_sh hR hA hB s sec h.1 x) (tks_sh hR hA hB r sec h.2 x)
theorem tkE_sh {A B : List Str} {R : Str → Prop} (hR : Wd R) (hA : Nok A) (hB : Nok B) {sep : Str} (hs : R sep) : ∀ (j : Nat) (b : List (List St)) (sec : Bool), okss A B sec b → ∀ x ∈ tkE sep j b, R x
  | _, [], _, _ => fun x hx => by simp [tkE] at hx
  | j, s :: r, sec, h => fun x hx => by
    rw [tkE] at hx
    rcases List.mem_append.mp hx with hx | hx
    · split at hx
      · cases hx
      · cases List.mem_singleton.mp hx
        exact hs
    · rcases List.mem_cons.mp hx with rfl | hx
      · exact hR.fix _ (by decide +kernel)
      · rcases List.mem_append.mp hx with hx | hx
        · exact tks_sh hR hA hB s sec h.1 x hx
        · rcases List.mem_cons.mp hx with rfl | hx
          · exact hR.fix _ (by decide +kernel)
          · exact tkE_sh hR hA hB hs (j + 1) r sec h.2 x hx
end
theorem ptk_all {L : List Str} {P : List (Str × List St)} {A B : List Str} {R : Str → Prop} (hR : Wd R) (h : Prog L P A B) : ∀ x ∈ ptk L P, R x := by
  intro x hx
  unfold ptk at hx
  rcases List.mem_cons.mp hx with rfl | hx
  · exact hR.fix _ (by decide +kernel)
  · rcases List.mem_append.mp hx with hx | hx
    · exact hR.name _ (h.okA _ (h.inA _ hx))
    · rcases List.mem_cons.mp hx with rfl | hx
      · exact hR.fix _ (by decide +kernel)
      · obtain ⟨p, hp, hx⟩ := List.mem_flatMap.mp hx
        have hb : p.2 ∈ nsP P := List.mem_map.mpr ⟨p, hp, rfl⟩
        rcases List.mem_cons.mp hx with rfl | hx
        · exact hR.fix _ (by decide +kernel)
        · rcases List.mem_cons.mp hx with rfl | hx
          · exact hR.name _ (h.okB _ (h.inB _ (List.mem_map.mpr ⟨p, hp, rfl⟩)))
          · unfold btk at hx
            rcases List.mem_cons.mp hx with rfl | hx
            · exact hR.fix _ (by decide +kernel)
            · rcases List.mem_append.mp hx with hx | hx
              · exact tks_sh hR h.okA h.okB _ _ (h.ok _ hb) x hx
              · cases List.mem_singleton.mp hx
                exact hR.fix _ (by decide +kernel)
def Sh (x : Str) : Prop := x.length ≤ 10
theorem wd_sh : Wd Sh := ⟨by unfold Sh; decide +kernel, fun x h => nameB_len h⟩
theorem ptk_sh {L : List Str} {P : List (Str × List St)} {A B : List Str} (h : Prog L P A B) : ∀ x ∈ ptk L P, Sh x := ptk_all wd_sh h
theorem sum_sh : ∀ {l : List Str}, (∀ x ∈ l, Sh x) → (l.map (·.length)).sum ≤ 10 * l.length
  | [], _ => by simp
  | x :: r, h => by
    have h1 : x.length ≤ 10 := h x (by simp)
    have h2 := sum_sh (l := r) fun y hy => h y (by simp [hy])
    simp only [List.map_cons, List.sum_cons, List.length_cons]
    omega
theorem ptk_eq (L : List Str) (P : List (Str × List St)) : ptk L P = (["letters"] : List Str) ++ L ++ [smc] ++ rtk P := by
  unfold ptk rtk
  simp
theorem sc_write_program : FnScope ["program", "letters", "procedures", "words", "name", "body"] ["program"] (C8.fnScope (topS 29)) := C8.fnScope_by (by decide +kernel)
theorem ok_write_program {Ts : List Addr} {f : Addr} {fd : FuncData} (F : C8.Def K mg "write_program" (topS 29) f fd) (b : Binds K fd ["program"] []) (B : Bl K mg) (c_want : C8.Cal P w K mg base 9 "want_program" (spWant K Ts) []) (c_wb : C8.Cal P w K mg base 28 "_write_body" (spWB K 13) []) : C8.Cal P w K mg base 29 "write_program" (spWP K Ts) [] := by
  refine C8.cal0 F b .nil sc_write_program ?len ?body
  case len => rintro vs H Q E ⟨v, L, Ps, AL, BN, rfl, _⟩; rfl
  case body =>
    rintro cdv A outer s H vs Q E hr ⟨v, L, Ps, AL, BN, rfl, hd, hP, hTb, q⟩
    refine ⟨_, (pss_cons (ps_expr (C8.pe_c c_want hr (by decide) rfl (pa_cons (pv 0) pa_nil)))
    (pss_cons (ps_asg (pv 0) (pg_tup rfl (pgs_cons (pg_name (i := 1) sc_write_program.nd rfl (Or.inl rfl)) (pgs_cons (pg_name (i := 2) sc_write_program.nd rfl (Or.inl rfl)) pgs_nil))))
    (pss_cons (ps_set (i := 3) sc_write_program.nd rfl (Or.inl rfl) (pe_lst (pa_cons pe_str (StX.pa_star (pv 1) (pa_cons pe_str pa_nil)))))
    (pss_cons (ps_for PassesOwn.never rfl (pi_tup (pv 2)) (pg_tup rfl (pgs_cons (pg_name (i := 4) sc_write_program.nd rfl (Or.inl rfl)) (pgs_cons (pg_name (i := 5) sc_write_program.nd rfl (Or.inl rfl)) pgs_nil)))
    (pss_cons (ps_expr (pe_bm PySem.F.plainAttrs_list PySem.F.slot_list_extend PySem.F.type_list_extend mt_extend (pv 3) (pa_cons (pe_lst (pa_cons pe_str (pa_cons (pv 4) pa_nil))) pa_nil)))
    (pss_one (ps_expr (C8.pe_c c_wb hr (by decide) rfl (pa_cons (pv 5) (pa_cons (pv 3) pa_nil)))))))
    (pss_one (ps_ret (pe_join pe_str (pv 3)))))))), ?_⟩
    refine ⟨_, rfl, v, L, Ps, AL, BN, rfl, hd, hP, hTb, fun H1 g1 => ?_⟩
    have hd1 := (Tk.go hTb g1).dp _ (tup_prog L Ps) hd
    obtain ⟨a, la, pv, rfl, hs, hls, hvP⟩ := PD.open hd1
    obtain ⟨pa, pxs, rfl, hps, hpa, hpl⟩ := len_ok hvP
    rw [List.length_map] at hpl
    have hl2 := hP.l2
    have hp2 := hP.p2
    have hnn := hP.n
    have hrl := rtk_len hP.ok
    refine ⟨_, rfl, a, _, rfl, hs, rfl, _, _, rfl, _, _, rfl, rfl, ?_⟩
    refine ⟨_, rfl, la, _, rfl, .inl hls, Nat.le_trans (show _ ≤ 22 by simp only [List.length_cons, List.length_append, List.length_map, List.length_nil]; omega) (by decide), fun F hF => ?_⟩
    have s2 := same_new hF (.lst (V.str "letters" :: (L.map V.str ++ [.str ";"])))
    have hF2 : upd H1 F (.lst (V.str "letters" :: (L.map V.str ++ [.str ";"]))) F = some (.lst (((["letters"] : List Str) ++ L ++ [smc]).map V.str)) := by
      rw [upd_same]
      simp only [List.map_append]
      rfl
    have nF : ∀ z o, H1 z = some o → z ≠ F := fun z o e q => by rw [q, hF] at e; cases e
    generalize upd H1 F (.lst (V.str "letters" :: (L.map V.str ++ [.str ";"]))) = H2 at s2 hF2
    have len4 : ∀ i, (rtk (Ps.take i)).length ≤ 3900 := fun i => by have := rtk_le Ps i; omega
    refine ⟨_, rfl, pa, rfl, ⟨_, (Tk.same s2).sqt hps⟩, ?_⟩
    refine for_tup (xs := pxs) (fun i σ H' => ∃ b4 b5, σ = [some (.ref a), some (.ref la), some (.ref pa), some (.ref F), b4, b5] ∧ H' F = some (.lst (((["letters"] : List Str) ++ L ++ [smc] ++ rtk (Ps.take i)).map V.str)) ∧ Tk H2 H' ∧ Kp [F] H2 H') ⟨none, none, rfl, by simpa [rtk] using hF2, Tk.refl _, Kp.refl _⟩ ?_ ?_ ?_
    · rintro i σ H' _ ⟨_, _, _, _, t, _⟩
      exact ((Tk.same s2).trans t).sqt hps
    · rintro i x _ H3 hx ⟨b4, b5, rfl, hF3, t3, k3⟩
      obtain ⟨d, hd, hdp⟩ := dps_get' hpa hx
      obtain ⟨p, hp, rfl⟩ := procs_get hd
      have hd3 := ((Tk.same s2).trans t3).dp _ (tup_proc p) hdp
      obtain ⟨qa, qxs, rfl, hqs, hqa, hql⟩ := len_ok hd3
      cases hqa with
      | @cons v0 _ _ _ h0 hqa =>
      cases h0
      cases hqa with
      | @cons v1 _ _ _ h1 hqa =>
      cases hqa
      have hbm : p.2 ∈ nsP Ps := List.mem_map.mpr ⟨p, List.mem_of_getElem? hp, rfl⟩
      have hk := kss_mem hbm
      have hk2 := hP.ks
      have htk := rtk_take hp
      have l1 := len4 i
      have l2 := len4 (i + 1)
      rw [htk] at l2
      simp only [List.length_append, List.length_cons, List.length_nil] at l2
      refine ⟨qa, _, rfl, hqs, rfl, _, _, rfl, _, _, rfl, rfl, ?_⟩
      refine ⟨_, rfl, .inl ⟨rfl, _, SqL.of hF3⟩, _, rfl, (by show 2 ≤ sizeLine; decide), fun z hz => ?_⟩
      have sz := same_new hz (.lst [.str "proc", .str p.1])
      have hF4 := sz _ _ hF3
      refine ⟨F, z, _, _, rfl, rfl, hF4, upd_same, Nat.le_trans (show _ ≤ 10000 by simp only [List.length_map, List.length_append, List.length_cons, List.length_nil]; omega) (by decide), ?_⟩
      have t4 := (Tk.same sz).trans (Tk.put hF4 (.lst (((["letters"] : List Str) ++ L ++ [smc] ++ rtk (Ps.take i)).map V.str ++ [.str "proc", .str p.1])))
      have k4 : Kp [F] H3 (upd (upd H3 z (.lst [.str "proc", .str p.1])) F (.lst (((["letters"] : List Str) ++ L ++ [smc] ++ rtk (Ps.take i)).map V.str ++ [.str "proc", .str p.1]))) := (Kp.of_same sz).trans (Kp.put _ (by simp))
      have hF5 : upd (upd H3 z (.lst [.str "proc", .str p.1])) F (.lst (((["letters"] : List Str) ++ L ++ [smc] ++ rtk (Ps.take i)).map V.str ++ [.str "proc", .str p.1])) F = some (.lst (((["letters"] : List Str) ++ L ++ [smc] ++ rtk (Ps.take i) ++ (["proc", p.1] : List Str)).map V.str)) := by
        rw [upd_same]
        simp only [List.map_append]
        rfl
      generalize upd (upd H3 z (.lst [.str "proc", .str p.1])) F (.lst (((["letters"] : List Str) ++ L ++ [smc] ++ rtk (Ps.take i)).map V.str ++ [.str "proc", .str p.1])) = H5 at t4 k4 hF5
      refine ⟨_, rfl, _, rfl, v1, F, _, p.2, AL, BN, rfl, t4.dp (.tuple (ds p.2)) (tup_ds p.2) h1, by omega, hP.ok _ hbm, hF5, by simp only [List.length_append, List.length_cons, List.length_nil]; omega, fun H6 hF6 t6 k6 => ?_⟩
      refine ⟨_, _, rfl, ?_, t3.trans (t4.trans t6), k3.trans (k4.trans k6)⟩
      rw [hF6, htk]
      simp only [List.append_assoc]
    · rintro σ H3 ⟨b4, b5, rfl, hF3, t3, k3⟩
      rw [hpl, List.take_length, ← ptk_eq] at hF3
      have sh := sum_sh (ptk_sh hP)
      have pl : (ptk L Ps).length ≤ 4000 := by
        rw [ptk_eq]
        simp only [List.length_append, List.length_cons, List.length_nil]
        have := len4 Ps.length
        rw [List.take_length] at this
        omega
      refine ⟨⟨_, rfl⟩, _, rfl, _, F, ptk L Ps, rfl, rfl, .inl (SqL.of hF3), Nat.le_trans (show _ ≤ 44000 by have : Str.length " " = 1 := rfl; rw [this]; omega) (by decide), ?_⟩
      rw [TL.join_eq]
      refine q H3 (g1.trans ?_)
      have s13 : Same H1 H3 := fun z o e => k3 z o (by simpa using nF z o e) (s2 z o e)
      exact Go.of_same g1.1 s13
end
end K06


set_option Elab.async false
set_option linter.all false
set_option maxRecDepth 100000
set_option maxHeartbeats 8000000
namespace K06
open PySem PySem.Spec PyProof.Rows L2
/-- a word of a text: word signs, or one sign -/
def Tokn (w : Str) : Prop := (TL.tl w ≠ [] ∧ ∀ c ∈ TL.tl w, c ∈ wordS.cps.toList) ∨ w = obr ∨ w = cbr ∨ w = smc
def gapL (gap : Bool) : List Nat := if gap = true then [32] else []
/-- a piece of a text: a word, or a blank -/
structure Piece (u v : List Nat) (c : Nat) : Prop where
  head : ∃ ur, u = c :: ur
  word : c ∈ wordS.cps.toList → (∀ x ∈ u, x ∈ wordS.cps.toList) ∧ ∀ x r, v = x :: r → x ∉ wordS.cps.toList
  one : c ∉ wordS.cps.toList → u = [c]
theorem not32 : (32 : Nat) ∉ wordS.cps.toList := by decide +kernel
theorem Tokn.piece {w : Str} (h : Tokn w) {v : List Nat} (hv : v = [] ∨ ∃ r, v = 32 :: r) : ∃ c, Piece (TL.tl w) v c ∧ c ∉ TL.tl (Str.ofString " \n") := by
  have hv' : ∀ x r, v = x :: r → x ∉ wordS.cps.toList := fun x r e => by
    rcases hv with rfl | ⟨r', rfl⟩
    · cases e
    · cases e
      exact not32
  rcases h with ⟨h1, h2⟩ | h
  · cases e : TL.tl w with
    | nil => exact absurd e h1
    | cons c ur =>
      rw [e] at h2
      refine ⟨c, ⟨⟨ur, rfl⟩, fun _ => ⟨h2, hv'⟩, fun z => absurd (h2 c (by simp)) z⟩, fun z => ?_⟩
      have h3 := h2 c (by simp)
      have : ∀ x ∈ wordS.cps.toList, x ∉ TL.tl (Str.ofString " \n") := by decide +kernel
      exact this c h3 z
  · have go : ∀ (w : Str) (c : Nat), TL.tl w = [c] → c ∉ wordS.cps.toList → c ∉ TL.tl (Str.ofString " \n") → ∃ c, Piece (TL.tl w) v c ∧ c ∉ TL.tl (Str.ofString " \n") := fun w c e n1 n2 => ⟨c, ⟨⟨[], e⟩, fun z => absurd z n1, fun _ => e⟩, n2⟩
    rcases h with rfl | rfl | rfl
    · exact go obr 123 (by decide +kernel) (by decide +kernel) (by decide +kernel)
    · exact go cbr 125 (by decide +kernel) (by decide +kernel) (by decide +kernel)
    · exact go smc 59 (by decide +kernel) (by decide +kernel) (by decide +kernel)
theorem blank_piece (v : List Nat) : Piece [32] v 32 := ⟨⟨[], rfl⟩, fun z => absurd z not32, fun _ => rfl⟩
/-- the list of words as objects -/
def Wds (K : PySem.W.Frag) (H : Hp) (xs : List V) (ts : List Str) : Prop := xs.length = ts.length ∧ ∀ (i : Nat) w, ts[i]? = some w → ∃ p n, xs[i]? = some (V.ref p) ∧ SqT K H p [.str w, .int n]
theorem Wds.same {K : PySem.W.Frag} {H H' : Hp} {xs : List V} {ts : List Str} (h : Wds K H xs ts) (t : Tk H H') : Wds K H' xs ts := ⟨h.1, fun i w e => by
  obtain ⟨p, n, h1, h2⟩ := h.2 i w e
  exact ⟨p, n, h1, t.sqt h2⟩⟩
theorem Wds.snoc {K : PySem.W.Frag} {H : Hp} {xs : List V} {ts : List Str} {p : Addr} {w : Str} {n : Int} (h : Wds K H xs ts) (hp : SqT K H p [.str w, .int n]) : Wds K H (xs ++ [.ref p]) (ts ++ [w]) := by
  refine ⟨by rw [List.length_append, List.length_append, h.1]; rfl, fun i y e => ?_⟩
  by_cases hi : i < ts.length
  · rw [List.getElem?_append_left hi] at e
    rw [List.getElem?_append_left (by rw [h.1]; exact hi)]
    exact h.2 i y e
  · rw [List.getElem?_append_right (by omega)] at e
    rw [List.getElem?_append_right (by rw [h.1]; omega), h.1]
    have : i - ts.length = 0 := by
      cases hz : i - ts.length with
      | zero => rfl
      | succ k => rw [hz] at e; simp at e
    rw [this] at e ⊢
    simp at e
    subst e
    exact ⟨p, n, rfl, hp⟩
theorem wds_nil {K : PySem.W.Frag} {H : Hp} : Wds K H [] [] := ⟨rfl, fun i w e => by simp at e⟩
/-- what is still to be read -/
def remL (gap : Bool) (rest : List Str) : List Nat := gapL gap ++ TL.joinL [32] (rest.map TL.tl)
theorem rem_cons (w : Str) (r : List Str) : remL false (w :: r) = TL.tl w ++ remL (!r.isEmpty) r := by
  cases r with
  | nil => simp [remL, gapL, TL.joinL]
  | cons z r => simp [remL, gapL, TL.joinL]
theorem cut_piece {T : Str} {i : Nat} {u v : List Nat} (h : T.cps.toList.drop i = u ++ v) (hi : i ≤ T.length) : cutS T (some (i : Int)) (some ((i + u.length : Nat) : Int)) = ⟨u.toArray⟩ := by
  have hl : i + u.length ≤ T.length := by
    have e := congrArg List.length h
    rw [List.length_drop, List.length_append] at e
    have : T.cps.toList.length = T.length := Array.length_toList
    omega
  unfold cutS
  rw [sIx_lo hi, sIx_hi hl, h]
  congr 1
  rw [show i + u.length - i = u.length by omega, List.take_left]
def SwI (K : PySem.W.Frag) (H : Hp) (T : Str) (F : Addr) (ts : List Str) (i : Nat) (σ' : L2.St) (H' : Hp) : Prop := ∃ dn rest gap b3 xs, σ' = [some (.str T), some (.ref F), some (.int (i : Int)), b3] ∧ i ≤ T.length ∧ ts = dn ++ rest ∧ T.cps.toList.drop i = remL gap rest ∧ (gap = true → rest ≠ []) ∧ H' F = some (.lst xs) ∧ Wds K H' xs dn ∧ Same H H'
section
variable {P : Program} {w : World} {K : PySem.W.Frag} {mg : Str → Option Value} {base : Heap}

def spSW (K : PySem.W.Frag) : Sp := fun vs H Q _ => ∃ T ts, vs = [.str T] ∧ T.length ≤ 100000 ∧ T.cps.toList = TL.joinL [32] (ts.map TL.tl) ∧ ts ≠ [] ∧ ts.length ≤ 10000 ∧ (∀ w ∈ ts, Tokn w) ∧
  ∀ H' F xs, Same H H' → H F = none → H' F = some (.lst xs) → Wds K H' xs (ts ++ ([""] : List Str)) → Q (.ref F) H'
theorem sc_split_words : FnScope ["text", "words", "at", "start"] ["text"] (C8.fnScope (topS 14)) := C8.fnScope_by (by decide +kernel)
theorem ok_split_words {f : Addr} {fd : FuncData} (F : C8.Def K mg "split_words" (topS 14) f fd) (b : Binds K fd ["text"] []) (B : Bl K mg)  : C8.Cal P w K mg base 1 "split_words" (spSW K) [] := by
  refine C8.cal0 F b .nil sc_split_words ?len ?body
  case len => rintro vs H Q E ⟨T, ts, rfl, _⟩; rfl
  case body =>
    rintro cdv A outer s H vs Q E hr ⟨T, ts, rfl, hT, hcs, hne, hlen, htok, q⟩
    refine ⟨_, (pss_cons (ps_set (i := 1) sc_split_words.nd rfl (Or.inl rfl) (pe_lst pa_nil))
    (pss_cons (ps_set (i := 2) sc_split_words.nd rfl (Or.inl rfl) pe_int)
    (pss_cons (ps_while PassesOwn.never (pt_cmpR op_lt (pv 2) (pe_callB call_len_str rfl B.len PySem.boot_len (pa_cons (pv 0) pa_nil)) (nomark _)) (pss_cons (ps_set (i := 3) sc_split_words.nd rfl (Or.inl rfl) (pv 2))
    (pss_cons (ps_aug (i := 2) sc_split_words.nd rfl (Or.inl rfl) pe_int ip_add)
    (C8.pss_cut (ps_if (pt_cmpR op_in_sign (pe_ix ix_str (pv 0) (pv 3) (fun _ _ => rfl)) (pe_glob (v := .str wordS) rfl B.WORD_SIGNS.choose_spec ⟨_, rfl⟩) (by with_unfolding_all rfl)) (pss_one (ps_while PassesOwn.never (PW.pt (pw_and (pt_cmpR op_lt (pv 2) (pe_callB call_len_str rfl B.len PySem.boot_len (pa_cons (pv 0) pa_nil)) (nomark _)) (pw_and1 (pt_cmpR op_in_sign (pe_ix ix_str (pv 0) (pv 2) (fun _ _ => rfl)) (pe_glob (v := .str wordS) rfl B.WORD_SIGNS.choose_spec ⟨_, rfl⟩) (by with_unfolding_all rfl))))) (pss_one (ps_aug (i := 2) sc_split_words.nd rfl (Or.inl rfl) pe_int ip_add)))) pss_nil)
    (pss_one (ps_if (pt_cmpR op_notIn_sign (pe_ix ix_str (pv 0) (pv 3) (fun _ _ => rfl)) pe_str (by with_unfolding_all rfl)) (pss_one (ps_expr (pe_bm PySem.F.plainAttrs_list PySem.F.slot_list_append PySem.F.type_list_append mt_append (pv 1) (pa_cons (pe_tup (pa_cons (pe_slice sl_str (pv 0) (po_some (pv 3)) (po_some (pv 2))) (pa_cons (pv 3) pa_nil))) pa_nil)))) pss_nil))))))
    (pss_cons (ps_expr (pe_bm PySem.F.plainAttrs_list PySem.F.slot_list_append PySem.F.type_list_append mt_append (pv 1) (pa_cons (pe_tup (pa_cons pe_str (pa_cons (pe_callB call_len_str rfl B.len PySem.boot_len (pa_cons (pv 0) pa_nil)) pa_nil))) pa_nil)))
    (pss_one (ps_ret (pv 1))))))), ?_⟩
    have hsz : T.length ≤ sizeLine := Nat.le_trans hT (by decide)
    have hll : T.cps.toList.length = T.length := Array.length_toList
    refine ⟨(by show 0 ≤ sizeLine; decide), fun F hF => ?_⟩
    have nF : ∀ z o, H z = some o → z ≠ F := fun z o e q => by rw [q, hF] at e; cases e
    refine ⟨fun m σ H' => ∃ i, m = T.length - i ∧ SwI K H T F ts i σ H', ⟨_, 0, rfl, [], ts, false, none, [], rfl, Nat.zero_le _, rfl, by rw [List.drop_zero, hcs]; rfl, (fun z => by cases z), upd_same, wds_nil, same_new hF _⟩, ?_⟩
    rintro m _ H1 ⟨i, rfl, dn, rest, gap, b3, xs, rfl, hi, hts, hdr, hgap, hF1, hw1, s1⟩
    have lxs : xs.length ≤ 10000 := by
      rw [hw1.1]
      have := congrArg List.length hts
      rw [List.length_append] at this
      omega
    refine ⟨_, rfl, _, rfl, T, rfl, hsz, _, _, rfl, rfl, _, rfl, ?_⟩
    by_cases hlt : (i : Int) < ((T.length : Nat) : Int)
    · rw [decide_eq_true hlt]
      refine iteT ⟨fun σ' H' => ∃ i', i < i' ∧ SwI K H T F ts i' σ' H', fun σ' H' ⟨i', hl, h⟩ => ⟨T.length - i', by obtain ⟨_, _, _, _, _, _, z, _⟩ := h; omega, i', rfl, h⟩, ?_⟩
      -- the piece that is read
      obtain ⟨u, c, v, hu, P, kind⟩ : ∃ u c v, T.cps.toList.drop i = u ++ v ∧ Piece u v c ∧ ((gap = true ∧ u = [32] ∧ v = remL false rest ∧ c = 32) ∨ (gap = false ∧ ∃ w r, rest = w :: r ∧ u = TL.tl w ∧ v = remL (!r.isEmpty) r ∧ c ∉ TL.tl (Str.ofString " \n"))) := by
        cases gap with
        | true => exact ⟨[32], 32, remL false rest, by rw [hdr]; rfl, blank_piece _, .inl ⟨rfl, rfl, rfl, rfl⟩⟩
        | false =>
          cases rest with
          | nil =>
            have := congrArg List.length hdr
            rw [List.length_drop, hll] at this
            simp [remL, gapL, TL.joinL] at this
            omega
          | cons w r =>
            rw [rem_cons] at hdr
            obtain ⟨c, P, hc⟩ := (htok w (by rw [hts]; simp)).piece (v := remL (!r.isEmpty) r) (by
              cases r with
              | nil => exact .inl rfl
              | cons z r => exact .inr ⟨_, rfl⟩)
            exact ⟨_, c, _, hdr, P, .inr ⟨rfl, w, r, rfl, rfl, rfl, hc⟩⟩
      obtain ⟨ur, hur⟩ := P.head
      have hul : i + u.length ≤ T.length := by
        have e := congrArg List.length hu
        rw [List.length_drop, List.length_append] at e
        omega
      have hget : ∀ j, j < u.length → T.cps.toList[i + j]? = u[j]? := fun j hj => by
        rw [← List.getElem?_drop, hu, List.getElem?_append_left hj]
      have hc0 : atI T.cps.toList (i : Int) = some c := atI_nat (by
        have := hget 0 (by rw [hur]; simp)
        rw [hur] at this
        simpa using this)
      refine ⟨_, rfl, ?_⟩
      refine ⟨_, rfl, _, _, rfl, rfl, ?_⟩
      refine ⟨fun σ' H' => σ' = [some (.str T), some (.ref F), some (.int ((i + u.length : Nat) : Int)), some (.int (i : Int))] ∧ H1 = H', ?_, ?_⟩
      · refine ⟨_, rfl, _, rfl, T, _, c, rfl, rfl, hsz, hc0, c, wordS, rfl, rfl, _, rfl, ?_⟩
        by_cases hc : c ∈ wordS.cps.toList
        · obtain ⟨hall, hend⟩ := P.word hc
          refine ifT (by simpa using hc) ?_
          refine ⟨fun m σ' H' => ∃ j, m = u.length - j ∧ 1 ≤ j ∧ j ≤ u.length ∧ σ' = [some (.str T), some (.ref F), some (.int ((i + j : Nat) : Int)), some (.int (i : Int))] ∧ H1 = H', ⟨_, 1, rfl, Nat.le_refl _, by rw [hur]; simp, rfl, rfl⟩, ?_⟩
          rintro m _ _ ⟨j, rfl, hj1, hj, rfl, rfl⟩
          refine ⟨_, rfl, _, rfl, T, rfl, hsz, _, _, rfl, rfl, _, rfl, ?_⟩
          have out : ∀ {X : Prop}, j = u.length → ((([some (.str T), some (.ref F), some (.int ((i + u.length : Nat) : Int)), some (.int (i : Int))] : L2.St) = [some (.str T), some (.ref F), some (.int ((i + j : Nat) : Int)), some (.int (i : Int))] → X) → X) := fun e h => h (by rw [e])
          by_cases hl2 : ((i + j : Nat) : Int) < ((T.length : Nat) : Int)
          · rw [decide_eq_true hl2]
            refine iteT ?_
            by_cases hj2 : j < u.length
            · have hg := hget j hj2
              obtain ⟨x, hx⟩ : ∃ x, u[j]? = some x := ⟨_, List.getElem?_eq_getElem hj2⟩
              have hxw := hall x (List.mem_of_getElem? hx)
              refine ⟨_, rfl, _, rfl, T, _, x, rfl, rfl, hsz, atI_nat (hg.trans hx), x, wordS, rfl, rfl, _, rfl, ?_⟩
              refine ifT (by simpa using hxw) ?_
              refine ⟨fun σ' H' => σ' = [some (.str T), some (.ref F), some (.int ((i + (j + 1) : Nat) : Int)), some (.int (i : Int))] ∧ H1 = H', fun σ' H' ⟨e1, e2⟩ => ⟨u.length - (j + 1), by omega, j + 1, rfl, by omega, by omega, e1, e2⟩, ?_⟩
              exact ⟨_, rfl, _, _, rfl, rfl, by show _ = _; rw [show ((i + (j + 1) : Nat) : Int) = ((i + j : Nat) : Int) + 1 by omega]; rfl, rfl⟩
            · have ej : j = u.length := by omega
              subst ej
              obtain ⟨x, r, hv⟩ : ∃ x r, v = x :: r := by
                cases v with
                | nil =>
                  have e := congrArg List.length hu
                  rw [List.length_drop, List.length_append, List.length_nil] at e
                  omega
                | cons x r => exact ⟨x, r, rfl⟩
              have hx : T.cps.toList[i + u.length]? = some x := by
                rw [← List.getElem?_drop, hu, List.getElem?_append_right (Nat.le_refl _), Nat.sub_self, hv]
                rfl
              refine ⟨_, rfl, _, rfl, T, _, x, rfl, rfl, hsz, atI_nat hx, x, wordS, rfl, rfl, _, rfl, ?_⟩
              exact ifF (by simpa using hend x r hv) ⟨rfl, rfl⟩
          · rw [decide_eq_false hl2]
            have ej : j = u.length := by omega
            subst ej
            exact iteF (iteF ⟨rfl, rfl⟩)
        · have e1 := P.one hc
          refine ifF (by simpa using hc) ?_
          exact ⟨by rw [e1]; rfl, rfl⟩
      · rintro _ _ ⟨rfl, rfl⟩
        refine ⟨_, rfl, _, rfl, T, _, c, rfl, rfl, hsz, hc0, c, Str.ofString " 
", rfl, rfl, _, rfl, ?_⟩
        have hdrop : T.cps.toList.drop (i + u.length) = v := by
          rw [← List.drop_drop, hu, List.drop_left]
        have hpos : 0 < u.length := by rw [hur]; simp
        rcases kind with ⟨rfl, rfl, rfl, rfl⟩ | ⟨rfl, w, r, rfl, rfl, rfl, hcn⟩
        · refine ifF (by decide +kernel) ⟨i + 1, by omega, dn, rest, false, _, xs, rfl, hul, hts, hdrop, fun z => (by cases z), hF1, hw1, s1⟩
        · refine ifT (by simpa using hcn) ?_
          have hcut := cut_piece (T := T) hu hi
          refine ⟨_, rfl, .inl ⟨rfl, _, SqL.of hF1⟩, _, rfl, _, rfl, _, rfl, _, rfl, _, rfl, T, rfl, hsz, _, rfl, (by show 2 ≤ sizeLine; decide), fun p hp => ?_⟩
          rw [hcut, TL.mk_tl]
          have np : p ≠ F := fun q => by rw [← q, hp] at hF1; cases hF1
          have sp := same_new hp (.tup [.str w, .int (i : Int)])
          have hF2 := sp _ _ hF1
          refine ⟨F, _, _, rfl, rfl, hF2, Nat.lt_of_le_of_lt lxs (by decide), ?_⟩
          refine ⟨i + (TL.tl w).length, by omega, dn ++ [w], r, !r.isEmpty, _, xs ++ [.ref p], rfl, hul, by rw [hts]; simp, hdrop, fun z => by cases r <;> simp at z ⊢, upd_same, (hw1.same ((Tk.same sp).trans (Tk.put hF2 _))).snoc (SqT.of (by rw [upd_ne np]; exact upd_same)), fun z o e => ?_⟩
          rw [upd_ne (nF z o e)]
          exact sp _ _ (s1 z o e)
    · rw [decide_eq_false hlt]
      refine iteF ?_
      have ei : i = T.length := by omega
      subst ei
      have hd0 : T.cps.toList.drop T.length = [] := List.drop_eq_nil_of_le (by omega)
      have hr0 : rest = [] := by
        rw [hd0] at hdr
        cases rest with
        | nil => rfl
        | cons w r =>
          exfalso
          cases gap with
          | true => simp [remL, gapL] at hdr
          | false =>
            rw [rem_cons] at hdr
            obtain ⟨c, P, _⟩ := (htok w (by rw [hts]; simp)).piece (v := []) (.inl rfl)
            obtain ⟨ur, hur⟩ := P.head
            rw [hur] at hdr
            simp at hdr
      subst hr0
      rw [List.append_nil] at hts
      subst hts
      refine ⟨_, rfl, .inl ⟨rfl, _, SqL.of hF1⟩, _, rfl, T, rfl, hsz, (by show 2 ≤ sizeLine; decide), fun p hp => ?_⟩
      have np : p ≠ F := fun q => by rw [← q, hp] at hF1; cases hF1
      have sp := same_new hp (.tup [.str "", .int ((T.length : Nat) : Int)])
      have hF2 := sp _ _ hF1
      refine ⟨F, _, _, rfl, rfl, hF2, Nat.lt_of_le_of_lt lxs (by decide), ?_⟩
      refine ⟨_, rfl, q _ F (xs ++ [.ref p]) (fun z o e => ?_) hF upd_same ((hw1.same ((Tk.same sp).trans (Tk.put hF2 _))).snoc (SqT.of (by rw [upd_ne np]; exact upd_same)))⟩
      rw [upd_ne (nF z o e)]
      exact sp _ _ (s1 z o e)
end
end K06


set_option Elab.async false
set_option linter.all false
set_option maxRecDepth 100000
set_option maxHeartbeats 8000000
namespace K06
open PySem PySem.Spec PyProof.Rows L2
/-! ### the reader -/
def rf (F : Addr) (i d : Int) : List (Str × V) := [("words", .ref F), ("at", .int i), ("depth", .int d)]
theorem rf_words (F : Addr) (i d : Int) : (rf F i d).lookup ("words" : Str) = some (.ref F) := by
  unfold rf
  rw [List.lookup_cons]
  rfl
theorem rf_at (F : Addr) (i d : Int) : (rf F i d).lookup ("at" : Str) = some (.int i) := by
  unfold rf
  rw [List.lookup_cons, show (("at" : Str) == "words") = false by decide +kernel]
  rfl
theorem rf_depth (F : Addr) (i d : Int) : (rf F i d).lookup ("depth" : Str) = some (.int d) := by
  unfold rf
  rw [List.lookup_cons, show (("depth" : Str) == "words") = false by decide +kernel, List.lookup_cons, show (("depth" : Str) == "at") = false by decide +kernel]
  rfl
theorem rf_no (F : Addr) (i d : Int) {m : Str} (h1 : (m == ("words" : Str)) = false) (h2 : (m == ("at" : Str)) = false) (h3 : (m == ("depth" : Str)) = false) : (rf F i d).lookup m = none := by
  unfold rf
  rw [List.lookup_cons, h1, List.lookup_cons, h2, List.lookup_cons, h3]
  rfl
theorem rf_put_at (F : Addr) (i d j : Int) : putF "at" (.int j) (rf F i d) = rf F j d := by
  unfold rf putF
  rw [if_neg (by decide +kernel)]
  unfold putF
  rw [if_pos rfl]
theorem rf_put_depth (F : Addr) (i d j : Int) : putF "depth" (.int j) (rf F i d) = rf F i j := by
  unfold rf putF
  rw [if_neg (by decide +kernel)]
  unfold putF
  rw [if_neg (by decide +kernel)]
  unfold putF
  rw [if_pos rfl]
structure Txt (K : PySem.W.Frag) (mg : Str → Option Value) (C : Addr) : Prop where
  cl : Cls K C
  nW : NoAttr K C "words"
  nA : NoAttr K C "at"
  nD : NoAttr K C "depth"
/-- the reader at p: its words, where it is, how deep -/
def Rd (K : PySem.W.Frag) (C : Addr) (H : Hp) (p F : Addr) (xs : List V) (ts : List Str) (i d : Nat) : Prop := ∃ dx, H p = some (.ins C dx (rf F (i : Int) (d : Int))) ∧ H F = some (.lst xs) ∧ Wds K H xs ts
/-- nothing else is changed than the reader and the tables -/
structure RG (Ts : List Addr) (p : Addr) (H H' : Hp) : Prop where
  t : Tbs Ts H'
  k : Kp (p :: Ts) H H'
  tk : Tk H H'
theorem RG.refl {Ts : List Addr} {p : Addr} {H : Hp} (t : Tbs Ts H) : RG Ts p H H := ⟨t, Kp.refl H, Tk.refl H⟩
theorem RG.trans {Ts : List Addr} {p : Addr} {H H1 H2 : Hp} (a : RG Ts p H H1) (b : RG Ts p H1 H2) : RG Ts p H H2 := ⟨b.t, a.k.trans b.k, a.tk.trans b.tk⟩
theorem RG.same {Ts : List Addr} {p : Addr} {H H' : Hp} (t : Tbs Ts H) (s : Same H H') : RG Ts p H H' := ⟨t.same s, Kp.of_same s, Tk.same s⟩
theorem RG.go {Ts : List Addr} {p : Addr} {H H' : Hp} (t : Tbs Ts H) (g : Go Ts H H') : RG Ts p H H' := ⟨g.1, g.2.mono fun _ h => List.mem_cons_of_mem _ h, Tk.go t g⟩
theorem Rd.same {K : PySem.W.Frag} {C : Addr} {H H' : Hp} {p F : Addr} {xs : List V} {ts : List Str} {i d : Nat} (h : Rd K C H p F xs ts i d) (s : Same H H') : Rd K C H' p F xs ts i d := by
  obtain ⟨dx, h1, h2, h3⟩ := h
  exact ⟨dx, s _ _ h1, s _ _ h2, h3.same (Tk.same s)⟩
theorem Rd.go {K : PySem.W.Frag} {C : Addr} {Ts : List Addr} {H H' : Hp} {p F : Addr} {xs : List V} {ts : List Str} {i d : Nat} (h : Rd K C H p F xs ts i d) (t : Tbs Ts H) (g : Go Ts H H') : Rd K C H' p F xs ts i d := by
  obtain ⟨dx, h1, h2, h3⟩ := h
  have e := Go.ext t g
  refine ⟨dx, e _ _ h1 (fun ps z => by cases z), e _ _ h2 (fun ps z => by cases z), h3.same (Tk.go t g)⟩
/-- another list is changed -/
theorem Rd.other {K : PySem.W.Frag} {C : Addr} {H : Hp} {p F D : Addr} {xs ys : List V} {ts : List Str} {i d : Nat} (h : Rd K C H p F xs ts i d) (e : H D = some (.lst ys)) (n : D ≠ F) (o : HO) : Rd K C (upd H D o) p F xs ts i d := by
  obtain ⟨dx, h1, h2, h3⟩ := h
  refine ⟨dx, by rw [upd_ne (fun z => by rw [z, e] at h1; cases h1)]; exact h1, by rw [upd_ne (Ne.symm n)]; exact h2, h3.same (Tk.put e o)⟩
theorem Rd.not_tab {K : PySem.W.Frag} {C : Addr} {Ts : List Addr} {H : Hp} {p F : Addr} {xs : List V} {ts : List Str} {i d : Nat} (h : Rd K C H p F xs ts i d) (t : Tbs Ts H) {D : Addr} (hD : H D = none) : D ∉ p :: Ts := fun z => by
  obtain ⟨dx, h1, _⟩ := h
  rcases List.mem_cons.mp z with rfl | z
  · rw [hD] at h1; cases h1
  · exact tbs_cut (ms := []) (o := .rng 0 0) t hD z
theorem drop_get {ts : List Str} {i : Nat} {w : Str} {r : List Str} (h : ts.drop i = w :: r) : ts[i]? = some w ∧ ts.drop (i + 1) = r := by
  refine ⟨?_, ?_⟩
  · have := congrArg (fun l => l[0]?) h
    rw [List.getElem?_drop] at this
    simpa using this
  · rw [← List.drop_drop, h]
    rfl
section
variable {P : Program} {w : World} {K : PySem.W.Frag} {mg : Str → Option Value} {base : Heap}

def spWord (K : PySem.W.Frag) (C : Addr) : Sp := fun vs H Q _ => ∃ p F xs ts i d w, vs = [.ref p] ∧ Rd K C H p F xs ts i d ∧ ts[i]? = some w ∧ Q (.str w) H
theorem sc_word : FnScope ["self"] ["self"] (C8.fnScope (inClass (topS 15) 1)) := C8.fnScope_by (by decide +kernel)
theorem okm_word {C f : Addr} {fd : FuncData} (T : Txt K mg C) (me : Meth K C "word" f) (F : C8.Fun K "word" "Reader.word" (inClass (topS 15) 1) f fd) (b : Binds K fd ["self"] []) (B : Bl K mg)  : C8.Met P w K mg base 1 C "word" (spWord K C) [] := by
  refine C8.met0 T.cl me F b sc_word ?len ?body
  case len => rintro vs H Q E ⟨p, F, xs, ts, i, d, w, rfl, _⟩; rfl
  case body =>
    rintro cdv A outer s H vs Q E hr ⟨p, F, xs, ts, i, d, w, rfl, hR, hw, q⟩
    refine ⟨_, (pss_one (ps_ret (pe_ix ix_tup (pe_ix ix_list (pe_fld (pv 0) rfl) (pe_fld (pv 0) rfl) (fun _ _ => rfl)) pe_int (fun _ _ => rfl)))), ?_⟩
    obtain ⟨dx, h1, h2, h3⟩ := hR
    obtain ⟨wp, n, hx, hwp⟩ := h3.2 i w hw
    exact ⟨_, rfl, p, C, dx, _, _, rfl, h1, T.cl, T.nW, rf_words _ _ _, _, rfl, p, C, dx, _, _, rfl, h1, T.cl, T.nA, rf_at _ _ _, F, xs, _, _, rfl, rfl, SqL.of h2, atI_nat hx, wp, _, _, _, rfl, rfl, hwp, at0 _ _, q⟩
def spTake (K : PySem.W.Frag) (C : Addr) : Sp := fun vs H Q _ => ∃ p F xs ts i d w, vs = [.ref p, .str w] ∧ Rd K C H p F xs ts i d ∧ ts[i]? = some w ∧ ∀ H', Rd K C H' p F xs ts (i + 1) d → (∀ Ts, Tbs Ts H → RG Ts p H H') → Q .non H'
theorem sc_take : FnScope ["self", "wanted"] ["self", "wanted"] (C8.fnScope (inClass (topS 15) 3)) := C8.fnScope_by (by decide +kernel)
theorem okm_take {C f : Addr} {fd : FuncData} (T : Txt K mg C) (me : Meth K C "take" f) (F : C8.Fun K "take" "Reader.take" (inClass (topS 15) 3) f fd) (b : Binds K fd ["self", "wanted"] []) (B : Bl K mg) (c_word : C8.Met P w K mg base 1 C "word" (spWord K C) []) : C8.Met P w K mg base 2 C "take" (spTake K C) [] := by
  refine C8.met0 T.cl me F b sc_take ?len ?body
  case len => rintro vs H Q E ⟨p, F, xs, ts, i, d, w, rfl, _⟩; rfl
  case body =>
    rintro cdv A outer s H vs Q E hr ⟨p, F, xs, ts, i, d, w, rfl, hR, hw, q⟩
    refine ⟨_, (pss_cons (ps_if (pt_cmpR op_ne (C8.pe_mt0 c_word hr (by decide) (pv 0)) (pv 1) (nomark _)) pss_never pss_nil)
    (pss_one (ps_fldaug (pv 0) pe_int in_add))), ?_⟩
    obtain ⟨dx, h1, h2, h3⟩ := id hR
    refine ⟨_, rfl, p, dx, _, rfl, h1, rf_no _ _ _ (by decide +kernel) (by decide +kernel) (by decide +kernel), p, F, xs, ts, i, d, w, rfl, hR, hw, _, rfl, rfl, _, rfl, ?_⟩
    rw [dec_str, decide_eq_true rfl]
    refine iteF ?_
    refine ⟨_, rfl, p, C, dx, _, _, rfl, h1, T.cl, T.nA, rf_at _ _ _, _, _, rfl, rfl, dx, _, h1, (by show 3 < 1000; decide), ?_⟩
    rw [rf_put_at]
    have t1 := Tk.putI h1 (.ins C dx (rf F ((i : Int) + 1) (d : Int)))
    refine q _ ⟨dx, by rw [upd_same]; rfl, by rw [upd_ne (fun z => by rw [z, h1] at h2; cases h2)]; exact h2, h3.same t1⟩ fun Ts hT => ⟨tbs_upd hT h1 (fun ps z => by cases z), Kp.put _ (by simp), t1⟩
def spTN (K : PySem.W.Frag) (C : Addr) (Ts : List Addr) : Sp := fun vs H Q _ => ∃ p F xs ts i d w, vs = [.ref p] ∧ Tbs Ts H ∧ Rd K C H p F xs ts i d ∧ ts[i]? = some w ∧ nameB w = true ∧ ∀ H', Rd K C H' p F xs ts (i + 1) d → RG Ts p H H' → Q (.str w) H'
theorem sc_take_name : FnScope ["self", "name"] ["self"] (C8.fnScope (inClass (topS 15) 4)) := C8.fnScope_by (by decide +kernel)
theorem okm_take_name {Ts : List Addr} {C f : Addr} {fd : FuncData} (T : Txt K mg C) (me : Meth K C "take_name" f) (F : C8.Fun K "take_name" "Reader.take_name" (inClass (topS 15) 4) f fd) (b : Binds K fd ["self"] []) (B : Bl K mg) (c_word : C8.Met P w K mg base 1 C "word" (spWord K C) []) (c_is_name : C8.Cal P w K mg base 4 "is_name" (spName K Ts) []) : C8.Met P w K mg base 5 C "take_name" (spTN K C Ts) [] := by
  refine C8.met0 T.cl me F b sc_take_name ?len ?body
  case len => rintro vs H Q E ⟨p, F, xs, ts, i, d, w, rfl, _⟩; rfl
  case body =>
    rintro cdv A outer s H vs Q E hr ⟨p, F, xs, ts, i, d, w, rfl, hT, hR, hw, hn, q⟩
    refine ⟨_, (pss_cons (ps_set (i := 1) sc_take_name.nd rfl (Or.inl rfl) (C8.pe_mt0 c_word hr (by decide) (pv 0)))
    (pss_cons (ps_if (pt_not (pt_val (C8.pe_c c_is_name hr (by decide) rfl (pa_cons (pv 1) pa_nil)))) pss_never pss_nil)
    (pss_cons (ps_fldaug (pv 0) pe_int in_add)
    (pss_one (ps_ret (pv 1)))))), ?_⟩
    obtain ⟨dx, h1, h2, h3⟩ := id hR
    refine ⟨_, rfl, p, dx, _, rfl, h1, rf_no _ _ _ (by decide +kernel) (by decide +kernel) (by decide +kernel), p, F, xs, ts, i, d, w, rfl, hR, hw, ?_⟩
    refine ⟨_, rfl, .str w, .str w, rfl, .str w, nameB_str hn, hT, fun H2 g2 => ⟨_, rfl, ?_⟩⟩
    rw [show nameD (.str w) = true from hn]
    refine iteF ?_
    have R2 := hR.go hT g2
    obtain ⟨dx2, k1, k2, k3⟩ := id R2
    refine ⟨_, rfl, p, C, dx2, _, _, rfl, k1, T.cl, T.nA, rf_at _ _ _, _, _, rfl, rfl, dx2, _, k1, (by show 3 < 1000; decide), ?_⟩
    rw [rf_put_at]
    have t1 := Tk.putI k1 (.ins C dx2 (rf F ((i : Int) + 1) (d : Int)))
    refine ⟨_, rfl, q _ ⟨dx2, by rw [upd_same]; rfl, by rw [upd_ne (fun z => by rw [z, k1] at k2; cases k2)]; exact k2, k3.same t1⟩ ((RG.go hT g2).trans ⟨tbs_upd g2.1 k1 (fun ps z => by cases z), Kp.put _ (by simp), t1⟩)⟩
end
end K06


set_option Elab.async false
set_option linter.all false
set_option maxRecDepth 100000
set_option maxHeartbeats 8000000
namespace K06
open PySem PySem.Spec PyProof.Rows L2
theorem tk_head : ∀ s : St, ∃ r, s.tk = s.w :: r
  | .dd _ | .ud _ | .cl _ | .rt => ⟨_, rfl⟩
  | .ch bs => ⟨_, by rw [St.tk]; rfl⟩
  | .lp b => ⟨_, by rw [St.tk]; rfl⟩
  | .en b c => ⟨_, by rw [St.tk]; rfl⟩
theorem w_not : ∀ s : St, s.w ≠ "or" ∧ s.w ≠ cbr
  | .dd _ => ⟨(by decide +kernel : (("do" : Str) ≠ "or")), (by decide +kernel : (("do" : Str) ≠ cbr))⟩
  | .ud _ => ⟨(by decide +kernel : (("undo" : Str) ≠ "or")), (by decide +kernel : (("undo" : Str) ≠ cbr))⟩
  | .cl _ => ⟨(by decide +kernel : (("call" : Str) ≠ "or")), (by decide +kernel : (("call" : Str) ≠ cbr))⟩
  | .ch _ => ⟨(by decide +kernel : (("choose" : Str) ≠ "or")), (by decide +kernel : (("choose" : Str) ≠ cbr))⟩
  | .lp _ => ⟨(by decide +kernel : (("loop" : Str) ≠ "or")), (by decide +kernel : (("loop" : Str) ≠ cbr))⟩
  | .rt => ⟨(by decide +kernel : (("return" : Str) ≠ "or")), (by decide +kernel : (("return" : Str) ≠ cbr))⟩
  | .en _ _ => ⟨(by decide +kernel : (("ensure" : Str) ≠ "or")), (by decide +kernel : (("ensure" : Str) ≠ cbr))⟩
theorem drop_app {ts a r : List Str} {i : Nat} (h : ts.drop i = a ++ r) : ts.drop (i + a.length) = r := by
  rw [← List.drop_drop, h, List.drop_left]
section
variable {P : Program} {w : World} {K : PySem.W.Frag} {mg : Str → Option Value} {base : Heap}

def spPl (K : PySem.W.Frag) (C : Addr) (Ts : List Addr) : Sp := fun vs H Q _ => ∃ p F xs ts i d st r AL BN, vs = [.ref p, .str (St.w st)] ∧ Tbs Ts H ∧ Rd K C H p F xs ts i d ∧ st.isO = false ∧ ts.drop i = st.tk ++ r ∧ st.ok AL BN false ∧ Nok AL ∧ Nok BN ∧
  ∀ H' v, Rd K C H' p F xs ts (i + st.tk.length) d → Dp K H' v st.d → RG Ts p H H' → Q v H'
theorem sc_plain : FnScope ["self", "word", "named"] ["self", "word"] (C8.fnScope (inClass (topS 15) 9)) := C8.fnScope_by (by decide +kernel)
theorem okm_plain {Ts : List Addr} {C f : Addr} {fd : FuncData} (T : Txt K mg C) (me : Meth K C "plain" f) (F : C8.Fun K "plain" "Reader.plain" (inClass (topS 15) 9) f fd) (b : Binds K fd ["self", "word"] []) (B : Bl K mg) (c_take : C8.Met P w K mg base 2 C "take" (spTake K C) []) (c_take_name : C8.Met P w K mg base 5 C "take_name" (spTN K C Ts) []) : C8.Met P w K mg base 6 C "plain" (spPl K C Ts) [] := by
  refine C8.met0 T.cl me F b sc_plain ?len ?body
  case len => rintro vs H Q E ⟨p, F, xs, ts, i, d, st, r, AL, BN, rfl, _⟩; rfl
  case body =>
    rintro cdv A outer s H vs Q E hr ⟨p, F, xs, ts, i, d, st, r, AL, BN, rfl, hT, hR, hio, hdr, hok, hA, hB, q⟩
    refine ⟨_, (pss_cons (ps_expr (C8.pe_mt c_take hr (by decide) (pv 0) (pa_cons (pv 1) pa_nil)))
    (pss_cons (ps_set (i := 2) sc_plain.nd rfl (Or.inl rfl) (pe_ifExp (pt_cmpR op_eq (pv 1) pe_str (nomark _)) (pe_tup pa_nil) (pe_tup (pa_cons (C8.pe_mt0 c_take_name hr (by decide) (pv 0)) pa_nil))))
    (pss_cons (ps_expr (C8.pe_mt c_take hr (by decide) (pv 0) (pa_cons pe_str pa_nil)))
    (pss_one (ps_ret (pe_tup (pa_cons (pv 1) (StX.pa_star (pv 2) pa_nil)))))))), ?_⟩
    obtain ⟨dx, h1, _⟩ := id hR
    obtain ⟨etk, _, ed⟩ := tk_plain hio
    rw [etk] at hdr
    obtain ⟨g1, g2⟩ := drop_get hdr
    refine ⟨_, rfl, p, dx, _, rfl, h1, rf_no _ _ _ (by decide +kernel) (by decide +kernel) (by decide +kernel), _, rfl, p, F, xs, ts, i, d, st.w, rfl, hR, g1, fun H1 R1 G1 => ?_⟩
    have G1 := G1 Ts hT
    refine ⟨_, rfl, rfl, _, rfl, ?_⟩
    rw [dec_str]
    by_cases hrt : st = .rt
    · subst hrt
      refine ifT (by decide +kernel) ⟨(by show 0 ≤ sizeLine; decide), fun z hz => ?_⟩
      have sz := same_new hz (.tup [])
      have hz1 : SqT K (upd H1 z (.tup [])) z [] := SqT.of upd_same
      have R2 := R1.same sz
      obtain ⟨dx2, k1, _⟩ := id R2
      obtain ⟨g3, g4⟩ := drop_get g2
      refine ⟨_, rfl, p, dx2, _, rfl, k1, rf_no _ _ _ (by decide +kernel) (by decide +kernel) (by decide +kernel), p, F, xs, ts, i + 1, d, smc, rfl, R2, g3, fun H3 R3 G3 => ?_⟩
      have G2 := G1.trans (RG.same G1.t sz)
      have G3 := G3 Ts G2.t
      refine ⟨_, rfl, _, rfl, z, [], rfl, .inl (G3.tk.sqt hz1), (by show 1 ≤ sizeLine; decide), fun y hy => ?_⟩
      have sy := same_new hy (.tup [V.str "return"])
      exact q _ _ (R3.same sy) (.tup (SqT.of upd_same) (.cons (.str _) .nil)) ((G2.trans G3).trans (RG.same G3.t sy))
    · obtain ⟨x, ex, hx⟩ : ∃ x, st.tl = [x] ∧ nameB x = true := by
        cases st with
        | dd x => exact ⟨x, rfl, hA _ hok⟩
        | ud x => exact ⟨x, rfl, hA _ hok⟩
        | cl x => exact ⟨x, rfl, hB _ hok⟩
        | rt => exact absurd rfl hrt
        | ch _ => cases hio
        | lp _ => cases hio
        | en _ _ => cases hio
      rw [ex] at g2 etk ed
      obtain ⟨g3, g4⟩ := drop_get g2
      obtain ⟨dx1, m1, _⟩ := id R1
      refine ifF ?_ ⟨_, rfl, p, dx1, _, rfl, m1, rf_no _ _ _ (by decide +kernel) (by decide +kernel) (by decide +kernel), p, F, xs, ts, i + 1, d, x, rfl, G1.t, R1, g3, hx, fun H2 R2 G2 => ?_⟩
      · cases st with
        | rt => exact absurd rfl hrt
        | dd _ => show decide ((("do" : Str)) = "return") = false; decide +kernel
        | ud _ => show decide ((("undo" : Str)) = "return") = false; decide +kernel
        | cl _ => show decide ((("call" : Str)) = "return") = false; decide +kernel
        | ch _ => cases hio
        | lp _ => cases hio
        | en _ _ => cases hio
      refine ⟨(by show 1 ≤ sizeLine; decide), fun z hz => ?_⟩
      have sz := same_new hz (.tup [.str x])
      have hz1 : SqT K (upd H2 z (.tup [.str x])) z [.str x] := SqT.of upd_same
      have R3 := R2.same sz
      obtain ⟨dx3, k1, _⟩ := id R3
      obtain ⟨g5, g6⟩ := drop_get g4
      refine ⟨_, rfl, p, dx3, _, rfl, k1, rf_no _ _ _ (by decide +kernel) (by decide +kernel) (by decide +kernel), p, F, xs, ts, i + 1 + 1, d, smc, rfl, R3, g5, fun H4 R4 G4 => ?_⟩
      have G3 := (G1.trans G2).trans (RG.same G2.t sz)
      have G4 := G4 Ts G3.t
      refine ⟨_, rfl, _, rfl, z, [.str x], rfl, .inl (G4.tk.sqt hz1), (by show 2 ≤ sizeLine; decide), fun y hy => ?_⟩
      have sy := same_new hy (.tup [V.str st.w, .str x])
      refine q _ _ ?_ (by rw [ed]; exact .tup (SqT.of upd_same) (.cons (.str _) (.cons (.str _) .nil))) ((G3.trans G4).trans (RG.same G4.t sy))
      rw [etk]
      exact R4.same sy
theorem RG.put {Ts : List Addr} {p D : Addr} {H H' : Hp} {ys : List V} (g : RG Ts p H H') (n : H D = none) (e : H' D = some (.lst ys)) (zs : List V) : RG Ts p H (upd H' D (.lst zs)) := ⟨tbs_upd g.t e (fun ps z => by cases z), kp_new g.k n, g.tk.trans (Tk.put e _)⟩
theorem tks_drop {b : List St} {j : Nat} {s : St} (h : b[j]? = some s) : tks (b.drop j) = s.tk ++ tks (b.drop (j + 1)) := by
  obtain ⟨hj, e⟩ := List.getElem?_eq_some_iff.mp h
  rw [List.drop_eq_getElem_cons hj, tks, e]
def spRB (K : PySem.W.Frag) (C : Addr) (Ts : List Addr) (n : Nat) : Sp := fun vs H Q _ => ∃ p F xs ts i d b r AL BN, vs = [.ref p] ∧ Tbs Ts H ∧ Rd K C H p F xs ts i d ∧ ks b < n ∧ d + n ≤ 39 ∧ ns b ≤ 1000 ∧ ts.drop i = btk b ++ r ∧ oks AL BN false b ∧ Nok AL ∧ Nok BN ∧
  ∀ H' v, Rd K C H' p F xs ts (i + (btk b).length) d → Dp K H' v (.tuple (ds b)) → RG Ts p H H' → Q v H'
def spRS (K : PySem.W.Frag) (C : Addr) (Ts : List Addr) (n : Nat) : Sp := fun vs H Q _ => ∃ p F xs ts i d st r AL BN, vs = [.ref p] ∧ Tbs Ts H ∧ Rd K C H p F xs ts i d ∧ St.k st ≤ n ∧ d + n ≤ 39 ∧ st.n ≤ 1000 ∧ ts.drop i = st.tk ++ r ∧ (∃ w r', r = w :: r' ∧ w ≠ "or") ∧ st.ok AL BN false ∧ Nok AL ∧ Nok BN ∧
  ∀ H' v, Rd K C H' p F xs ts (i + st.tk.length) d → Dp K H' v st.d → RG Ts p H H' → Q v H'
def spRC (K : PySem.W.Frag) (C : Addr) (Ts : List Addr) (n : Nat) : Sp := fun vs H Q _ => ∃ p F xs ts i d bs r AL BN, vs = [.ref p] ∧ Tbs Ts H ∧ Rd K C H p F xs ts i d ∧ kss bs < n ∧ d + n ≤ 39 ∧ nss bs ≤ 1000 ∧ ts.drop i = (St.ch bs).tk ++ r ∧ (∃ w r', r = w :: r' ∧ w ≠ "or") ∧ (St.ch bs).ok AL BN false ∧ Nok AL ∧ Nok BN ∧
  ∀ H' v, Rd K C H' p F xs ts (i + (St.ch bs).tk.length) d → Dp K H' v (St.d (.ch bs)) → RG Ts p H H' → Q v H'
theorem sc_body : FnScope ["self", "statements"] ["self"] (C8.fnScope (inClass (topS 15) 7)) := C8.fnScope_by (by decide +kernel)
theorem sc_statement : FnScope ["self", "word", "body"] ["self"] (C8.fnScope (inClass (topS 15) 8)) := C8.fnScope_by (by decide +kernel)
theorem sc_choice : FnScope ["self", "bodies"] ["self"] (C8.fnScope (inClass (topS 15) 10)) := C8.fnScope_by (by decide +kernel)
theorem okm_body {Ts : List Addr} {n e : Nat} {C f : Addr} {fd : FuncData} (T : Txt K mg C) (me : Meth K C "body" f) (F : C8.Fun K "body" "Reader.body" (inClass (topS 15) 7) f fd) (b : Binds K fd ["self"] []) (B : Bl K mg) (c_word : C8.Met P w K mg base 1 C "word" (spWord K C) []) (c_take : C8.Met P w K mg base 2 C "take" (spTake K C) []) (c_statement : C8.Met P w K mg base e C "statement" (spRS K C Ts n) []) (he : 2 ≤ e) : C8.Met P w K mg base (e + 1) C "body" (spRB K C Ts (n + 1)) [] := by
  refine C8.met0 T.cl me F b sc_body ?len ?body
  case len => rintro vs H Q E ⟨p, F, xs, ts, i, d, b, r, AL, BN, rfl, _⟩; rfl
  case body =>
    rintro cdv A outer s H vs Q E hr ⟨p, F, xs, ts, i, d, b, r, AL, BN, rfl, hT, hR, hk, hd, hn, hdr, hok, hA, hB, q⟩
    refine ⟨_, (pss_cons (ps_if (pt_cmpR op_eq (pe_fld (pv 0) rfl) (pe_glob (v := .int 39) rfl B.MOST_OPEN.choose_spec ⟨_, rfl⟩) (nomark _)) pss_never pss_nil)
    (pss_cons (ps_expr (C8.pe_mt c_take hr (by omega) (pv 0) (pa_cons pe_str pa_nil)))
    (pss_cons (ps_fldaug (pv 0) pe_int in_add)
    (pss_cons (ps_set (i := 1) sc_body.nd rfl (Or.inl rfl) (pe_lst pa_nil))
    (pss_cons (ps_while PassesOwn.never (pt_cmpR op_ne (C8.pe_mt0 c_word hr (by omega) (pv 0)) pe_str (nomark _)) (pss_one (ps_expr (pe_bm PySem.F.plainAttrs_list PySem.F.slot_list_append PySem.F.type_list_append mt_append (pv 1) (pa_cons (C8.pe_mt0 c_statement hr (by omega) (pv 0)) pa_nil)))))
    (pss_cons (ps_expr (C8.pe_mt c_take hr (by omega) (pv 0) (pa_cons pe_str pa_nil)))
    (pss_cons (ps_fldaug (pv 0) pe_int in_sub)
    (pss_one (ps_ret (pe_callTy call_tuple_of rfl B.tuple (by decide +kernel) (pa_cons (pv 1) pa_nil))))))))))), ?_⟩
    obtain ⟨dx, h1, _⟩ := id hR
    have hbn := len_ns b
    refine ⟨_, rfl, p, C, dx, _, _, rfl, h1, T.cl, T.nD, rf_depth _ _ _, rfl, _, rfl, ?_⟩
    rw [dec_int, show decide ((d : Int) = 39) = false from decide_eq_false (by omega)]
    refine iteF ?_
    unfold btk at hdr
    rw [List.cons_append, List.append_assoc] at hdr
    obtain ⟨g1, g2⟩ := drop_get hdr
    refine ⟨_, rfl, p, dx, _, rfl, h1, rf_no _ _ _ (by decide +kernel) (by decide +kernel) (by decide +kernel), p, F, xs, ts, i, d, obr, rfl, hR, g1, fun H1 R1 G1 => ?_⟩
    have G1 := G1 Ts hT
    obtain ⟨dx1, m1, m2, m3⟩ := id R1
    refine ⟨_, rfl, p, C, dx1, _, _, rfl, m1, T.cl, T.nD, rf_depth _ _ _, _, _, rfl, rfl, dx1, _, m1, (by show 3 < 1000; decide), ?_⟩
    rw [rf_put_depth]
    have tA := Tk.putI m1 (.ins C dx1 (rf F ((i + 1 : Nat) : Int) ((d : Int) + 1)))
    have R2 : Rd K C (upd H1 p (.ins C dx1 (rf F ((i + 1 : Nat) : Int) ((d : Int) + 1)))) p F xs ts (i + 1) (d + 1) := ⟨dx1, by rw [upd_same]; rfl, by rw [upd_ne (fun z => by rw [z, m1] at m2; cases m2)]; exact m2, m3.same tA⟩
    have G2 : RG Ts p H (upd H1 p (.ins C dx1 (rf F ((i + 1 : Nat) : Int) ((d : Int) + 1)))) := G1.trans ⟨tbs_upd G1.t m1 (fun ps z => by cases z), Kp.put _ (by simp), tA⟩
    generalize upd H1 p (.ins C dx1 (rf F ((i + 1 : Nat) : Int) ((d : Int) + 1))) = H2 at R2 G2
    refine ⟨(by show 0 ≤ sizeLine; decide), fun D hD => ?_⟩
    have nD := R2.not_tab G2.t hD
    have hDn : H D = none := G2.k.none nD hD
    have nDF : D ≠ F := fun z => by obtain ⟨_, _, z2, _⟩ := id R2; rw [← z, hD] at z2; cases z2
    have sD := same_new hD (.lst [])
    refine ⟨fun m σ' H' => ∃ j vs, m = b.length - j ∧ j ≤ b.length ∧ σ' = [some (.ref p), some (.ref D)] ∧ Rd K C H' p F xs ts (i + 1 + (tks (b.take j)).length) (d + 1) ∧ ts.drop (i + 1 + (tks (b.take j)).length) = tks (b.drop j) ++ ([cbr] ++ r) ∧ H' D = some (.lst vs) ∧ DpAll K H' vs (ds (b.take j)) ∧ RG Ts p H H', ⟨_, 0, [], rfl, Nat.zero_le _, rfl, R2.same sD, g2, upd_same, .nil, G2.trans (RG.same G2.t sD)⟩, ?_⟩
    rintro m _ H3 ⟨j, vs, rfl, hj, rfl, R3, hdr3, hD3, hv3, G3⟩
    obtain ⟨dx3, k1, _⟩ := id R3
    by_cases hjl : j < b.length
    · have hs := List.getElem?_eq_getElem hjl
      generalize b[j] = st at hs
      have hsm : st ∈ b := List.mem_of_getElem? hs
      have hsk := ks_mem hsm
      have hsn := ns_mem hsm
      obtain ⟨tr, etr⟩ := tk_head st
      have htd := tks_drop hs
      rw [htd, List.append_assoc] at hdr3
      have hdr4 := hdr3
      rw [etr, List.cons_append] at hdr4
      obtain ⟨g5, _⟩ := drop_get hdr4
      refine ⟨_, rfl, p, dx3, _, rfl, k1, rf_no _ _ _ (by decide +kernel) (by decide +kernel) (by decide +kernel), p, F, xs, ts, _, d + 1, st.w, rfl, R3, g5, rfl, _, rfl, ?_⟩
      rw [dec_str]
      refine ifT (by have := (w_not st).2; unfold cbr at this; simpa using this) ?_
      have htt := tks_take hs
      refine ⟨fun σ' H' => ∃ vs, σ' = [some (.ref p), some (.ref D)] ∧ Rd K C H' p F xs ts (i + 1 + (tks (b.take (j + 1))).length) (d + 1) ∧ ts.drop (i + 1 + (tks (b.take (j + 1))).length) = tks (b.drop (j + 1)) ++ ([cbr] ++ r) ∧ H' D = some (.lst vs) ∧ DpAll K H' vs (ds (b.take (j + 1))) ∧ RG Ts p H H', fun σ' H' ⟨vs, e⟩ => ⟨b.length - (j + 1), by omega, j + 1, vs, rfl, by omega, e⟩, ?_⟩
      refine ⟨_, rfl, .inl ⟨rfl, _, SqL.of hD3⟩, _, rfl, p, dx3, _, rfl, k1, rf_no _ _ _ (by decide +kernel) (by decide +kernel) (by decide +kernel), p, F, xs, ts, _, d + 1, st, tks (b.drop (j + 1)) ++ ([cbr] ++ r), AL, BN, rfl, G3.t, R3, by omega, by omega, by omega, hdr3, ?_, oks_iff.mp hok st hsm, hA, hB, fun H4 v R4 dv G4 => ?_⟩
      · cases hb2 : b.drop (j + 1) with
        | nil => exact ⟨cbr, r, rfl, by decide +kernel⟩
        | cons s2 r2 =>
          obtain ⟨t2, e2⟩ := tk_head s2
          exact ⟨s2.w, t2 ++ tks r2 ++ ([cbr] ++ r), by rw [tks, e2]; simp, (w_not s2).1⟩
      · have hD4 := G4.k _ _ nD hD3
        have hvl := dps_len hv3
        rw [ds_len, List.length_take] at hvl
        refine ⟨D, _, _, rfl, rfl, hD4, Nat.lt_of_le_of_lt (show vs.length ≤ 1000 by omega) (by decide), ?_⟩
        have tU := Tk.put hD4 (.lst (vs ++ [v]))
        refine ⟨vs ++ [v], rfl, ?_, ?_, upd_same, ?_, (G3.trans G4).put hDn hD4 _⟩
        · rw [htt, List.length_append, ← Nat.add_assoc]
          exact R4.other hD4 nDF _
        · rw [htt, List.length_append, ← Nat.add_assoc]
          exact drop_app hdr3
        · rw [List.take_succ, hs]
          show DpAll K _ _ (ds (b.take j ++ [st]))
          rw [ds_app]
          exact dps_app ((G4.tk.trans tU).dps _ (tup_ds _) hv3) (.cons (tU.dp _ (tup_St st) dv) .nil)
    · have ej : j = b.length := by omega
      subst ej
      rw [List.take_length] at R3 hdr3 hv3
      rw [List.drop_length] at hdr3
      obtain ⟨g5, g6⟩ := drop_get (show ts.drop _ = cbr :: r from hdr3)
      refine ⟨_, rfl, p, dx3, _, rfl, k1, rf_no _ _ _ (by decide +kernel) (by decide +kernel) (by decide +kernel), p, F, xs, ts, _, d + 1, cbr, rfl, R3, g5, rfl, _, rfl, ?_⟩
      rw [dec_str]
      refine ifF (by decide +kernel) ?_
      refine ⟨_, rfl, p, dx3, _, rfl, k1, rf_no _ _ _ (by decide +kernel) (by decide +kernel) (by decide +kernel), p, F, xs, ts, _, d + 1, cbr, rfl, R3, g5, fun H4 R4 G4 => ?_⟩
      have G4 := G4 Ts G3.t
      obtain ⟨dx4, n1, n2, n3⟩ := id R4
      refine ⟨_, rfl, p, C, dx4, _, _, rfl, n1, T.cl, T.nD, rf_depth _ _ _, _, _, rfl, rfl, dx4, _, n1, (by show 3 < 1000; decide), ?_⟩
      rw [rf_put_depth]
      have tB := Tk.putI n1 (.ins C dx4 (rf F ((i + 1 + (tks b).length + 1 : Nat) : Int) (((d + 1 : Nat) : Int) - 1)))
      have R5 : Rd K C (upd H4 p (.ins C dx4 (rf F ((i + 1 + (tks b).length + 1 : Nat) : Int) (((d + 1 : Nat) : Int) - 1)))) p F xs ts (i + (btk b).length) d := ⟨dx4, by rw [upd_same, show (((d + 1 : Nat) : Int) - 1) = (d : Int) by omega, show i + (btk b).length = i + 1 + (tks b).length + 1 by unfold btk; simp; omega], by rw [upd_ne (fun z => by rw [z, n1] at n2; cases n2)]; exact n2, n3.same tB⟩
      have G5 : RG Ts p H4 (upd H4 p (.ins C dx4 (rf F ((i + 1 + (tks b).length + 1 : Nat) : Int) (((d + 1 : Nat) : Int) - 1)))) := ⟨tbs_upd G4.t n1 (fun ps z => by cases z), Kp.put _ (by simp), tB⟩
      generalize upd H4 p (.ins C dx4 (rf F ((i + 1 + (tks b).length + 1 : Nat) : Int) (((d + 1 : Nat) : Int) - 1))) = H5 at R5 G5
      have hD5 := G5.k _ _ nD (G4.k _ _ nD hD3)
      refine ⟨_, rfl, D, _, rfl, .inl ⟨SqL.of hD5, fun z hz => ?_⟩⟩
      have sz := same_new hz (.tup vs)
      exact q _ _ (R5.same sz) (.tup (SqT.of upd_same) ((G4.tk.trans (G5.tk.trans (Tk.same sz))).dps _ (tup_ds b) hv3)) ((G3.trans G4).trans (G5.trans (RG.same G5.t sz)))
end
end K06


set_option Elab.async false
set_option linter.all false
set_option maxRecDepth 100000
set_option maxHeartbeats 8000000
namespace K06
open PySem PySem.Spec PyProof.Rows L2
theorem tkE_pos (sep : Str) : ∀ (bs : List (List St)) (j : Nat), tkE sep (j + 1) bs = tkE sep 1 bs
  | [], _ => rfl
  | b :: r, j => by rw [tkE, tkE, tkE_pos sep r (j + 1), tkE_pos sep r 1, if_neg (by omega), if_neg (by omega)]
theorem tkr_drop {bs : List (List St)} {k : Nat} {c : List St} {r : List Str} (h : bs[k]? = some c) : tkE "or" 1 (bs.drop k) ++ r = ("or" : Str) :: (btk c ++ (tkE "or" 1 (bs.drop (k + 1)) ++ r)) := by
  obtain ⟨hj, e⟩ := List.getElem?_eq_some_iff.mp h
  rw [List.drop_eq_getElem_cons hj, e, tkE, if_neg (by omega), tkE_pos]
  unfold btk
  simp
theorem tk0_drop {bs : List (List St)} {c : List St} {r : List Str} (h : bs[0]? = some c) : tkE "or" 0 bs ++ r = btk c ++ (tkE "or" 1 (bs.drop 1) ++ r) := by
  cases bs with
  | nil => cases h
  | cons x y =>
    simp at h
    subst h
    rw [tkE, if_pos rfl]
    unfold btk
    simp
theorem spt_mono {K : PySem.W.Frag} {C : Addr} {vs : List V} {H : Hp} {Q Q' : VK} {E : XK} (h : spTake K C vs H Q E) (f : ∀ v H', Q v H' → Q' v H') : spTake K C vs H Q' E := by
  obtain ⟨p, F, xs, ts, i, d, w, a, b, c, q⟩ := h
  exact ⟨p, F, xs, ts, i, d, w, a, b, c, fun H' x y => f _ _ (q H' x y)⟩
theorem spr_mono {K : PySem.W.Frag} {C : Addr} {Ts : List Addr} {n : Nat} {vs : List V} {H : Hp} {Q Q' : VK} {E : XK} (h : spRB K C Ts n vs H Q E) (f : ∀ v H', Q v H' → Q' v H') : spRB K C Ts n vs H Q' E := by
  obtain ⟨p, F, xs, ts, i, d, b, r, AL, BN, a1, a2, a3, a4, a5, a6, a7, a8, a9, a10, q⟩ := h
  exact ⟨p, F, xs, ts, i, d, b, r, AL, BN, a1, a2, a3, a4, a5, a6, a7, a8, a9, a10, fun H' v x y z => f _ _ (q H' v x y z)⟩
section
variable {P : Program} {w : World} {K : PySem.W.Frag} {mg : Str → Option Value} {base : Heap}

theorem okm_choice {Ts : List Addr} {n e : Nat} {C f : Addr} {fd : FuncData} (T : Txt K mg C) (me : Meth K C "choice" f) (F : C8.Fun K "choice" "Reader.choice" (inClass (topS 15) 10) f fd) (b : Binds K fd ["self"] []) (B : Bl K mg) (c_word : C8.Met P w K mg base 1 C "word" (spWord K C) []) (c_take : C8.Met P w K mg base 2 C "take" (spTake K C) []) (c_body : C8.Met P w K mg base e C "body" (spRB K C Ts n) []) (he : 2 ≤ e) : C8.Met P w K mg base (e + 1) C "choice" (spRC K C Ts n) [] := by
  refine C8.met0 T.cl me F b sc_choice ?len ?body
  case len => rintro vs H Q E ⟨p, F, xs, ts, i, d, bs, r, AL, BN, rfl, _⟩; rfl
  case body =>
    rintro cdv A outer s H vs Q E hr ⟨p, F, xs, ts, i, d, bs, r, AL, BN, rfl, hT, hR, hk, hd, hn, hdr, hend, hok, hA, hB, q⟩
    refine ⟨_, (pss_cons (ps_expr (C8.pe_mt c_take hr (by omega) (pv 0) (pa_cons pe_str pa_nil)))
    (pss_cons (ps_set (i := 1) sc_choice.nd rfl (Or.inl rfl) (pe_lst (pa_cons (C8.pe_mt0 c_body hr (by omega) (pv 0)) pa_nil)))
    (pss_cons (ps_expr (C8.pe_mt c_take hr (by omega) (pv 0) (pa_cons pe_str pa_nil)))
    (pss_cons (ps_expr (pe_bm PySem.F.plainAttrs_list PySem.F.slot_list_append PySem.F.type_list_append mt_append (pv 1) (pa_cons (C8.pe_mt0 c_body hr (by omega) (pv 0)) pa_nil)))
    (pss_cons (ps_while PassesOwn.never (pt_cmpR op_eq (C8.pe_mt0 c_word hr (by omega) (pv 0)) pe_str (nomark _)) (pss_cons (ps_expr (C8.pe_mt c_take hr (by omega) (pv 0) (pa_cons pe_str pa_nil)))
    (pss_one (ps_expr (pe_bm PySem.F.plainAttrs_list PySem.F.slot_list_append PySem.F.type_list_append mt_append (pv 1) (pa_cons (C8.pe_mt0 c_body hr (by omega) (pv 0)) pa_nil))))))
    (pss_one (ps_ret (pe_tup (pa_cons pe_str (pa_cons (pe_callTy call_tuple_of rfl B.tuple (by decide +kernel) (pa_cons (pv 1) pa_nil)) pa_nil)))))))))), ?_⟩
    obtain ⟨dx, h1, _⟩ := id hR
    have hb2 : 2 ≤ bs.length := hok.1
    have hb6 : bs.length ≤ 6 := hok.2.1
    have hokb := okss_iff.mp hok.2.2
    have etk : (St.ch bs).tk = ("choose" : Str) :: tkE "or" 0 bs := by rw [St.tk]
    rw [etk, List.cons_append] at hdr
    obtain ⟨g1, g2⟩ := drop_get hdr
    refine ⟨_, rfl, p, dx, _, rfl, h1, rf_no _ _ _ (by decide +kernel) (by decide +kernel) (by decide +kernel), p, F, xs, ts, i, d, "choose", rfl, hR, g1, fun H1 R1 G1 => ?_⟩
    have G1 := G1 Ts hT
    obtain ⟨dx1, m1, _⟩ := id R1
    -- the first body
    have hs0 := List.getElem?_eq_getElem (l := bs) (i := 0) (by omega)
    generalize bs[0] = c0 at hs0
    have hm0 := List.mem_of_getElem? hs0
    have hk0 := kss_mem hm0
    have hn0 := nss_mem hm0
    rw [tk0_drop hs0] at g2
    refine ⟨_, rfl, p, dx1, _, rfl, m1, rf_no _ _ _ (by decide +kernel) (by decide +kernel) (by decide +kernel), p, F, xs, ts, i + 1, d, c0, _, AL, BN, rfl, G1.t, R1, by omega, hd, by omega, g2, hokb c0 hm0, hA, hB, fun H2 v0 R2 dv0 G2 => ⟨(by show 1 ≤ sizeLine; decide), fun D hD => ?_⟩⟩
    have nD := R2.not_tab G2.t hD
    have G12 := G1.trans G2
    have hDn : H D = none := G12.k.none nD hD
    have nDF : D ≠ F := fun z => by obtain ⟨_, _, z2, _⟩ := id R2; rw [← z, hD] at z2; cases z2
    have sD := same_new hD (.lst [v0])
    have I1 : ∃ vs, upd H2 D (.lst [v0]) D = some (.lst vs) ∧ DpAll K (upd H2 D (.lst [v0])) vs (dss (bs.take 1)) := ⟨[v0], upd_same, by
      rw [List.take_succ, hs0]
      exact .cons ((Tk.same sD).dp (.tuple (ds c0)) (tup_ds c0) dv0) .nil⟩
    have hE0 := tkE_take "or" 0 hs0
    rw [if_pos rfl, List.take_zero, tkE] at hE0
    have R3 : Rd K C (upd H2 D (.lst [v0])) p F xs ts (i + 1 + (tkE "or" 0 (bs.take 1)).length) d := by
      rw [hE0]
      exact R2.same sD
    have hdr3 : ts.drop (i + 1 + (tkE "or" 0 (bs.take 1)).length) = tkE "or" 1 (bs.drop 1) ++ r := by
      rw [hE0]
      exact drop_app g2
    have G3 := G12.trans (RG.same G12.t sD)
    generalize upd H2 D (.lst [v0]) = H3 at I1 R3 G3
    obtain ⟨vs3, hD3, hv3⟩ := I1
    -- one more body
    have more : ∀ {k : Nat} {H3 : Hp} {vs3 : List V}, 1 ≤ k → k < bs.length → Rd K C H3 p F xs ts (i + 1 + (tkE "or" 0 (bs.take k)).length) d → ts.drop (i + 1 + (tkE "or" 0 (bs.take k)).length) = tkE "or" 1 (bs.drop k) ++ r → H3 D = some (.lst vs3) → DpAll K H3 vs3 (dss (bs.take k)) → RG Ts p H H3 →
        ∀ {Q' : Hp → Prop}, (∀ H5 vs5, Rd K C H5 p F xs ts (i + 1 + (tkE "or" 0 (bs.take (k + 1))).length) d → ts.drop (i + 1 + (tkE "or" 0 (bs.take (k + 1))).length) = tkE "or" 1 (bs.drop (k + 1)) ++ r → H5 D = some (.lst vs5) → DpAll K H5 vs5 (dss (bs.take (k + 1))) → RG Ts p H H5 → Q' H5) →
        spTake K C [.ref p, .str "or"] H3 (fun v H4 => ∃ dx4, H4 p = some (.ins C dx4 (rf F ((i + 1 + (tkE "or" 0 (bs.take k)).length + 1 : Nat) : Int) d)) ∧ H4 D = some (.lst vs3) ∧ spRB K C Ts n [.ref p] H4 (fun v H5 => ∃ vs4, H5 D = some (.lst vs4) ∧ vs4.length < sizeLine ∧ Q' (upd H5 D (.lst (vs4 ++ [v])))) C8.E0) C8.E0 := fun {k H3 vs3} k1 k2 R hdr hD' hv G {Q'} q' => by
      have hs := List.getElem?_eq_getElem (l := bs) (i := k) k2
      generalize bs[k] = c at hs
      have hm := List.mem_of_getElem? hs
      have hkc := kss_mem hm
      have hnc := nss_mem hm
      have hE := tkE_take "or" 0 hs
      rw [if_neg (by omega)] at hE
      rw [tkr_drop hs] at hdr
      obtain ⟨u, w⟩ := drop_get hdr
      refine ⟨p, F, xs, ts, _, d, "or", rfl, R, u, fun H4 R4 G4 => ?_⟩
      have G4 := G4 Ts G.t
      have hD4 := G4.k _ _ nD hD'
      obtain ⟨dx4, n1, _⟩ := id R4
      refine ⟨dx4, n1, hD4, p, F, xs, ts, _, d, c, _, AL, BN, rfl, G4.t, R4, by omega, hd, by omega, w, hokb c hm, hA, hB, fun H5 v R5 dv G5 => ?_⟩
      have hD5 := G5.k _ _ nD hD4
      have hvl := dps_len hv
      rw [dss_len, List.length_take] at hvl
      have tU := Tk.put hD5 (.lst (vs3 ++ [v]))
      have el : i + 1 + (tkE "or" 0 (bs.take k)).length + 1 + (btk c).length = i + 1 + (tkE "or" 0 (bs.take (k + 1))).length := by
        rw [hE]
        simp only [List.length_append, List.length_cons, List.length_nil]
        omega
      refine ⟨vs3, hD5, Nat.lt_of_le_of_lt (show vs3.length ≤ 6 by omega) (by decide), q' _ (vs3 ++ [v]) ?_ ?_ upd_same ?_ ((G.trans (G4.trans G5)).put hDn hD5 _)⟩
      · rw [← el]
        exact R5.other hD5 nDF _
      · rw [← el]
        exact drop_app w
      · rw [List.take_succ, hs]
        show DpAll K _ _ (dss (bs.take k ++ [c]))
        rw [dss_app]
        exact dps_app ((G4.tk.trans (G5.tk.trans tU)).dps _ (tup_dss _) hv) (.cons (tU.dp (.tuple (ds c)) (tup_ds c) dv) .nil)
    obtain ⟨dx3, k3, _⟩ := id R3
    refine ⟨_, rfl, p, dx3, _, rfl, k3, rf_no _ _ _ (by decide +kernel) (by decide +kernel) (by decide +kernel), ?_⟩
    dsimp only [tCons, tC, tNil]
    refine spt_mono (more (Q' := fun H5 => ∃ vs5, Rd K C H5 p F xs ts (i + 1 + (tkE "or" 0 (bs.take 2)).length) d ∧ ts.drop (i + 1 + (tkE "or" 0 (bs.take 2)).length) = tkE "or" 1 (bs.drop 2) ++ r ∧ H5 D = some (.lst vs5) ∧ DpAll K H5 vs5 (dss (bs.take 2)) ∧ RG Ts p H H5) (Nat.le_refl 1) (by omega) R3 hdr3 hD3 hv3 G3 fun H5 vs5 a1 a2 a3 a4 a5 => ⟨vs5, a1, a2, a3, a4, a5⟩) fun v H4 ⟨dx4, n1, hD4, hB4⟩ => ?_
    refine ⟨_, rfl, .inl ⟨rfl, _, SqL.of hD4⟩, _, rfl, p, dx4, _, rfl, n1, rf_no _ _ _ (by decide +kernel) (by decide +kernel) (by decide +kernel), ?_⟩
    dsimp only [tNil]
    refine spr_mono hB4 fun v2 H5 ⟨vs4, hD5, hl5, vs6, a1, a2, a3, a4, a5⟩ => ?_
    refine ⟨D, _, _, rfl, rfl, hD5, hl5, ?_⟩
    show (fun H6 => _) (upd H5 D (.lst (vs4 ++ [v2])))
    generalize upd H5 D (.lst (vs4 ++ [v2])) = H6 at a1 a3 a4 a5
    refine ⟨fun m σ' H' => ∃ k vs, m = bs.length - k ∧ 2 ≤ k ∧ k ≤ bs.length ∧ σ' = [some (.ref p), some (.ref D)] ∧ Rd K C H' p F xs ts (i + 1 + (tkE "or" 0 (bs.take k)).length) d ∧ ts.drop (i + 1 + (tkE "or" 0 (bs.take k)).length) = tkE "or" 1 (bs.drop k) ++ r ∧ H' D = some (.lst vs) ∧ DpAll K H' vs (dss (bs.take k)) ∧ RG Ts p H H', ⟨_, 2, vs6, rfl, Nat.le_refl _, hb2, rfl, a1, a2, a3, a4, a5⟩, ?_⟩
    rintro m _ H7 ⟨k, vs, rfl, k2, kb, rfl, R7, hdr7, hD7, hv7, G7⟩
    obtain ⟨dx7, j1, _⟩ := id R7
    by_cases hkl : k < bs.length
    · have hs := List.getElem?_eq_getElem hkl
      have hX := hdr7
      rw [tkr_drop hs] at hX
      obtain ⟨u, _⟩ := drop_get hX
      refine ⟨_, rfl, p, dx7, _, rfl, j1, rf_no _ _ _ (by decide +kernel) (by decide +kernel) (by decide +kernel), p, F, xs, ts, _, d, "or", rfl, R7, u, rfl, _, rfl, ?_⟩
      rw [dec_str]
      refine ifT (by decide +kernel) ⟨fun σ' H' => ∃ vs, σ' = [some (.ref p), some (.ref D)] ∧ Rd K C H' p F xs ts (i + 1 + (tkE "or" 0 (bs.take (k + 1))).length) d ∧ ts.drop (i + 1 + (tkE "or" 0 (bs.take (k + 1))).length) = tkE "or" 1 (bs.drop (k + 1)) ++ r ∧ H' D = some (.lst vs) ∧ DpAll K H' vs (dss (bs.take (k + 1))) ∧ RG Ts p H H', fun σ' H' ⟨vs, e⟩ => ⟨bs.length - (k + 1), by omega, k + 1, vs, rfl, by omega, by omega, e⟩, ?_⟩
      refine ⟨_, rfl, p, dx7, _, rfl, j1, rf_no _ _ _ (by decide +kernel) (by decide +kernel) (by decide +kernel), ?_⟩
      dsimp only [tCons, tC, tNil]
      refine spt_mono (more (Q' := fun H5 => ∃ vs5, Rd K C H5 p F xs ts (i + 1 + (tkE "or" 0 (bs.take (k + 1))).length) d ∧ ts.drop (i + 1 + (tkE "or" 0 (bs.take (k + 1))).length) = tkE "or" 1 (bs.drop (k + 1)) ++ r ∧ H5 D = some (.lst vs5) ∧ DpAll K H5 vs5 (dss (bs.take (k + 1))) ∧ RG Ts p H H5) (by omega) hkl R7 hdr7 hD7 hv7 G7 fun H5 vs5 a1 a2 a3 a4 a5 => ⟨vs5, a1, a2, a3, a4, a5⟩) fun v H8 ⟨dx8, n8, hD8, hB8⟩ => ?_
      refine ⟨_, rfl, .inl ⟨rfl, _, SqL.of hD8⟩, _, rfl, p, dx8, _, rfl, n8, rf_no _ _ _ (by decide +kernel) (by decide +kernel) (by decide +kernel), ?_⟩
      dsimp only [tNil]
      refine spr_mono hB8 fun v2 H9 ⟨vs9, hD9, hl9, vs10, b1, b2, b3, b4, b5⟩ => ?_
      exact ⟨D, _, _, rfl, rfl, hD9, hl9, vs10, rfl, b1, b2, b3, b4, b5⟩
    · have ek : k = bs.length := by omega
      subst ek
      rw [List.take_length] at R7 hdr7 hv7
      rw [List.drop_length, tkE, List.nil_append] at hdr7
      obtain ⟨w, r', er, nw⟩ := hend
      rw [er] at hdr7
      obtain ⟨u, _⟩ := drop_get hdr7
      refine ⟨_, rfl, p, dx7, _, rfl, j1, rf_no _ _ _ (by decide +kernel) (by decide +kernel) (by decide +kernel), p, F, xs, ts, _, d, w, rfl, R7, u, rfl, _, rfl, ?_⟩
      rw [dec_str]
      refine ifF (by simpa using nw) ⟨_, rfl, D, _, rfl, .inl ⟨SqL.of hD7, fun z hz => ⟨(by show 2 ≤ sizeLine; decide), fun y hy => ?_⟩⟩⟩
      have nzy : z ≠ y := fun qq => by rw [← qq, upd_same] at hy; cases hy
      have sz := (same_new hz (.tup vs)).trans (same_new hy (.tup [.str "choose", .ref z]))
      refine q _ _ ?_ (.tup (SqT.of upd_same) (.cons (.str _) (.cons (.tup (SqT.of (by rw [upd_ne nzy]; exact upd_same)) ((Tk.same sz).dps _ (tup_dss bs) hv7)) .nil))) (G7.trans (RG.same G7.t sz))
      rw [etk, List.length_cons, show i + ((tkE "or" 0 bs).length + 1) = i + 1 + (tkE "or" 0 bs).length by omega]
      exact R7.same sz
end
end K06


set_option Elab.async false
set_option linter.all false
set_option maxRecDepth 100000
set_option maxHeartbeats 8000000
namespace K06
open PySem PySem.Spec PyProof.Rows L2
section
variable {P : Program} {w : World} {K : PySem.W.Frag} {mg : Str → Option Value} {base : Heap}

theorem okm_statement {Ts : List Addr} {n e : Nat} {C f : Addr} {fd : FuncData} (T : Txt K mg C) (me : Meth K C "statement" f) (F : C8.Fun K "statement" "Reader.statement" (inClass (topS 15) 8) f fd) (b : Binds K fd ["self"] []) (B : Bl K mg) (c_word : C8.Met P w K mg base 1 C "word" (spWord K C) []) (c_take : C8.Met P w K mg base 2 C "take" (spTake K C) []) (c_plain : C8.Met P w K mg base 6 C "plain" (spPl K C Ts) []) (c_choice : C8.Met P w K mg base (e + 1) C "choice" (spRC K C Ts n) []) (c_body : C8.Met P w K mg base e C "body" (spRB K C Ts n) []) (he : 5 ≤ e) : C8.Met P w K mg base (e + 2) C "statement" (spRS K C Ts n) [] := by
  refine C8.met0 T.cl me F b sc_statement ?len ?body
  case len => rintro vs H Q E ⟨p, F, xs, ts, i, d, st, r, AL, BN, rfl, _⟩; rfl
  case body =>
    rintro cdv A outer s H vs Q E hr ⟨p, F, xs, ts, i, d, st, r, AL, BN, rfl, hT, hR, hk, hd, hn, hdr, hend, hok, hA, hB, q⟩
    refine ⟨_, (pss_cons (ps_set (i := 1) sc_statement.nd rfl (Or.inl rfl) (C8.pe_mt0 c_word hr (by omega) (pv 0)))
    (pss_cons (ps_if (pt_cmpR op_in_seq (pv 1) (pe_tup (pa_cons pe_str (pa_cons pe_str (pa_cons pe_str (pa_cons pe_str pa_nil))))) (by with_unfolding_all rfl)) (pss_one (ps_ret (C8.pe_mt c_plain hr (by omega) (pv 0) (pa_cons (pv 1) pa_nil)))) pss_nil)
    (pss_cons (ps_if (pt_cmpR op_eq (pv 1) pe_str (nomark _)) (pss_one (ps_ret (C8.pe_mt0 c_choice hr (by omega) (pv 0)))) pss_nil)
    (pss_cons (ps_if (pt_cmpR op_eq (pv 1) pe_str (nomark _)) (pss_cons (ps_expr (C8.pe_mt c_take hr (by omega) (pv 0) (pa_cons pe_str pa_nil)))
    (pss_one (ps_ret (pe_tup (pa_cons pe_str (pa_cons (C8.pe_mt0 c_body hr (by omega) (pv 0)) pa_nil)))))) pss_nil)
    (pss_cons (ps_expr (C8.pe_mt c_take hr (by omega) (pv 0) (pa_cons pe_str pa_nil)))
    (pss_cons (ps_set (i := 2) sc_statement.nd rfl (Or.inl rfl) (C8.pe_mt0 c_body hr (by omega) (pv 0)))
    (pss_cons (ps_expr (C8.pe_mt c_take hr (by omega) (pv 0) (pa_cons pe_str pa_nil)))
    (pss_one (ps_ret (pe_tup (pa_cons pe_str (pa_cons (pv 2) (pa_cons (C8.pe_mt0 c_body hr (by omega) (pv 0)) pa_nil))))))))))))), ?_⟩
    obtain ⟨dx, h1, _⟩ := id hR
    obtain ⟨tr, etr⟩ := tk_head st
    have hdr0 := hdr
    rw [etr, List.cons_append] at hdr0
    obtain ⟨g1, g2⟩ := drop_get hdr0
    refine ⟨_, rfl, p, dx, _, rfl, h1, rf_no _ _ _ (by decide +kernel) (by decide +kernel) (by decide +kernel), p, F, xs, ts, i, d, st.w, rfl, hR, g1, ?_⟩
    refine ⟨_, rfl, (by show 4 ≤ sizeLine; decide), fun z hz => ⟨z, _, rfl, .inr (SqT.of upd_same), rfl, rfl, _, rfl, ?_⟩⟩
    have sz := same_new hz (.tup [.str "do", .str "undo", .str "call", .str "return"])
    have R2 := hR.same sz
    have hT2 := hT.same sz
    have G2 := RG.same (p := p) hT sz
    generalize upd H z (.tup [.str "do", .str "undo", .str "call", .str "return"]) = H2 at sz R2 hT2 G2
    obtain ⟨dx2, k2, _⟩ := id R2
    cases st with
    | dd x =>
      refine ifT (by simp only [St.w]; first | decide +kernel | exact decide_eq_false (by decide +kernel)) ⟨_, rfl, p, dx2, _, rfl, k2, rf_no _ _ _ (by decide +kernel) (by decide +kernel) (by decide +kernel), _, rfl, p, F, xs, ts, i, d, .dd x, r, AL, BN, rfl, hT2, R2, rfl, hdr, hok, hA, hB, fun H3 v R3 dv G3 => ?_⟩
      exact q _ v R3 dv (G2.trans G3)
    | ud x =>
      refine ifT (by simp only [St.w]; first | decide +kernel | exact decide_eq_false (by decide +kernel)) ⟨_, rfl, p, dx2, _, rfl, k2, rf_no _ _ _ (by decide +kernel) (by decide +kernel) (by decide +kernel), _, rfl, p, F, xs, ts, i, d, .ud x, r, AL, BN, rfl, hT2, R2, rfl, hdr, hok, hA, hB, fun H3 v R3 dv G3 => ?_⟩
      exact q _ v R3 dv (G2.trans G3)
    | cl x =>
      refine ifT (by simp only [St.w]; first | decide +kernel | exact decide_eq_false (by decide +kernel)) ⟨_, rfl, p, dx2, _, rfl, k2, rf_no _ _ _ (by decide +kernel) (by decide +kernel) (by decide +kernel), _, rfl, p, F, xs, ts, i, d, .cl x, r, AL, BN, rfl, hT2, R2, rfl, hdr, hok, hA, hB, fun H3 v R3 dv G3 => ?_⟩
      exact q _ v R3 dv (G2.trans G3)
    | rt =>
      refine ifT (by simp only [St.w]; first | decide +kernel | exact decide_eq_false (by decide +kernel)) ⟨_, rfl, p, dx2, _, rfl, k2, rf_no _ _ _ (by decide +kernel) (by decide +kernel) (by decide +kernel), _, rfl, p, F, xs, ts, i, d, .rt, r, AL, BN, rfl, hT2, R2, rfl, hdr, hok, hA, hB, fun H3 v R3 dv G3 => ?_⟩
      exact q _ v R3 dv (G2.trans G3)
    | ch bs =>
      refine ifF (by simp only [St.w]; first | decide +kernel | exact decide_eq_false (by decide +kernel)) ?_
      refine ⟨_, rfl, rfl, _, rfl, ?_⟩
      rw [dec_str]
      refine ifT (by simp only [St.w]; first | decide +kernel | exact decide_eq_false (by decide +kernel)) ⟨_, rfl, p, dx2, _, rfl, k2, rf_no _ _ _ (by decide +kernel) (by decide +kernel) (by decide +kernel), p, F, xs, ts, i, d, bs, r, AL, BN, rfl, hT2, R2, by rw [St.k] at hk; omega, hd, by rw [St.n] at hn; omega, hdr, hend, hok, hA, hB, fun H3 v R3 dv G3 => ?_⟩
      exact q _ v R3 dv (G2.trans G3)
    | lp b =>
      refine ifF (by simp only [St.w]; first | decide +kernel | exact decide_eq_false (by decide +kernel)) ?_
      refine ⟨_, rfl, rfl, _, rfl, ?_⟩
      rw [dec_str]
      refine ifF (by simp only [St.w]; first | decide +kernel | exact decide_eq_false (by decide +kernel)) ?_
      refine ⟨_, rfl, rfl, _, rfl, ?_⟩
      rw [dec_str]
      refine ifT (by simp only [St.w]; first | decide +kernel | exact decide_eq_false (by decide +kernel)) ⟨_, rfl, p, dx2, _, rfl, k2, rf_no _ _ _ (by decide +kernel) (by decide +kernel) (by decide +kernel), p, F, xs, ts, i, d, "loop", rfl, R2, g1, fun H3 R3 G3 => ?_⟩
      have G3 := G3 Ts hT2
      obtain ⟨dx3, k3, _⟩ := id R3
      have etk : (St.lp b).tk = (("loop" : Str) :: btk b) := by rw [St.tk]; rfl
      rw [etk, List.cons_append] at hdr
      obtain ⟨_, g3⟩ := drop_get hdr
      rw [St.k] at hk
      rw [St.n] at hn
      refine ⟨_, rfl, p, dx3, _, rfl, k3, rf_no _ _ _ (by decide +kernel) (by decide +kernel) (by decide +kernel), p, F, xs, ts, i + 1, d, b, r, AL, BN, rfl, G3.t, R3, by omega, hd, by omega, g3, hok, hA, hB, fun H4 v R4 dv G4 => ⟨(by show 2 ≤ sizeLine; decide), fun y hy => ?_⟩⟩
      have sy := same_new hy (.tup [.str "loop", v])
      refine q _ _ ?_ (.tup (SqT.of upd_same) (.cons (.str _) (.cons ((Tk.same sy).dp (.tuple (ds b)) (tup_ds b) dv) .nil))) ((G2.trans G3).trans (G4.trans (RG.same G4.t sy)))
      rw [etk, List.length_cons, show i + ((btk b).length + 1) = i + 1 + (btk b).length by omega]
      exact R4.same sy
    | en b c =>
      refine ifF (by simp only [St.w]; first | decide +kernel | exact decide_eq_false (by decide +kernel)) ?_
      refine ⟨_, rfl, rfl, _, rfl, ?_⟩
      rw [dec_str]
      refine ifF (by simp only [St.w]; first | decide +kernel | exact decide_eq_false (by decide +kernel)) ?_
      refine ⟨_, rfl, rfl, _, rfl, ?_⟩
      rw [dec_str]
      refine ifF (by simp only [St.w]; first | decide +kernel | exact decide_eq_false (by decide +kernel)) ⟨_, rfl, p, dx2, _, rfl, k2, rf_no _ _ _ (by decide +kernel) (by decide +kernel) (by decide +kernel), p, F, xs, ts, i, d, "ensure", rfl, R2, g1, fun H3 R3 G3 => ?_⟩
      have G3 := G3 Ts hT2
      obtain ⟨dx3, k3, _⟩ := id R3
      have etk : (St.en b c).tk = (("ensure" : Str) :: (btk b ++ ("finally" : Str) :: btk c)) := by rw [St.tk]; unfold btk; simp
      rw [etk, List.cons_append, List.append_assoc, List.cons_append] at hdr
      obtain ⟨_, g3⟩ := drop_get hdr
      rw [St.k] at hk
      rw [St.n] at hn
      refine ⟨_, rfl, p, dx3, _, rfl, k3, rf_no _ _ _ (by decide +kernel) (by decide +kernel) (by decide +kernel), p, F, xs, ts, i + 1, d, b, _, AL, BN, rfl, G3.t, R3, by omega, hd, by omega, g3, hok.1, hA, hB, fun H4 v R4 dv G4 => ?_⟩
      have g4 := drop_app g3
      obtain ⟨u5, u6⟩ := drop_get g4
      obtain ⟨dx4, k4, _⟩ := id R4
      refine ⟨_, rfl, p, dx4, _, rfl, k4, rf_no _ _ _ (by decide +kernel) (by decide +kernel) (by decide +kernel), p, F, xs, ts, _, d, "finally", rfl, R4, u5, fun H5 R5 G5 => ?_⟩
      have G5 := G5 Ts G4.t
      obtain ⟨dx5, k5, _⟩ := id R5
      refine ⟨_, rfl, _, rfl, p, dx5, _, rfl, k5, rf_no _ _ _ (by decide +kernel) (by decide +kernel) (by decide +kernel), p, F, xs, ts, _, d, c, r, AL, BN, rfl, G5.t, R5, by omega, hd, by omega, u6, oks_any false hok.2, hA, hB, fun H6 v2 R6 dv2 G6 => ⟨(by show 3 ≤ sizeLine; decide), fun y hy => ?_⟩⟩
      have sy := same_new hy (.tup [.str "ensure", v, v2])
      refine q _ _ ?_ (.tup (SqT.of upd_same) (.cons (.str _) (.cons ((G5.tk.trans (G6.tk.trans (Tk.same sy))).dp (.tuple (ds b)) (tup_ds b) dv) (.cons ((Tk.same sy).dp (.tuple (ds c)) (tup_ds c) dv2) .nil)))) ((G2.trans G3).trans ((G4.trans G5).trans (G6.trans (RG.same G6.t sy))))
      rw [etk]
      simp only [List.length_cons, List.length_append]
      rw [show i + ((btk b).length + ((btk c).length + 1) + 1) = i + 1 + (btk b).length + 1 + (btk c).length by omega]
      exact R6.same sy
theorem met_mono {j k : Nat} {C : Addr} {m : Str} {sp : Sp} {dvs : List V} (c : C8.Met P w K mg base j C m sp dvs) (h : j ≤ k) : C8.Met P w K mg base k C m sp dvs := by
  obtain ⟨f, fd, ps, ds, a1, a2, a3, a4, a5⟩ := c.ex
  exact ⟨f, fd, ps, ds, a1, a2, a3.mono h, a4, a5⟩
theorem rb_all {C : Addr} {Ts : List Addr} (T : Txt K mg C) (B : Bl K mg) {fbody : Addr} {fdbody : FuncData} (mebody : Meth K C "body" fbody) (Fbody : C8.Fun K "body" "Reader.body" (inClass (topS 15) 7) fbody fdbody) (bbody : Binds K fdbody ["self"] []) {fstatement : Addr} {fdstatement : FuncData} (mestatement : Meth K C "statement" fstatement) (Fstatement : C8.Fun K "statement" "Reader.statement" (inClass (topS 15) 8) fstatement fdstatement) (bstatement : Binds K fdstatement ["self"] []) {fchoice : Addr} {fdchoice : FuncData} (mechoice : Meth K C "choice" fchoice) (Fchoice : C8.Fun K "choice" "Reader.choice" (inClass (topS 15) 10) fchoice fdchoice) (bchoice : Binds K fdchoice ["self"] []) (c_word : C8.Met P w K mg base 1 C "word" (spWord K C) []) (c_take : C8.Met P w K mg base 2 C "take" (spTake K C) []) (c_plain : C8.Met P w K mg base 6 C "plain" (spPl K C Ts) []) : ∀ n : Nat, C8.Met P w K mg base (3 * n + 7) C "body" (spRB K C Ts n) []
  | 0 => by
    refine C8.met0 (k := 6) T.cl mebody Fbody bbody sc_body ?len ?body
    case len => rintro vs H Q E ⟨_, _, _, _, _, _, _, _, _, _, rfl, _⟩; rfl
    case body => rintro cdv A outer s H vs Q E hr ⟨_, _, _, _, _, _, _, _, _, _, _, _, _, h, _⟩; exact absurd h (Nat.not_lt_zero _)
  | n + 1 => by
    have ih := rb_all T B mebody Fbody bbody mestatement Fstatement bstatement mechoice Fchoice bchoice c_word c_take c_plain n
    have hc := okm_choice T mechoice Fchoice bchoice B c_word c_take ih (by omega)
    have hs := okm_statement T mestatement Fstatement bstatement B c_word c_take c_plain hc ih (by omega)
    exact okm_body T mebody Fbody bbody B c_word c_take hs (by omega)
end
end K06


set_option Elab.async false
set_option linter.all false
set_option maxRecDepth 100000
set_option maxHeartbeats 8000000
namespace K06
open PySem PySem.Spec PyProof.Rows L2
theorem w_fix : ∀ x ∈ (["do", "undo", "call", "return", "choose", "loop", "ensure", "or", "finally", "letters", "proc"] : List Str), TL.tl x ≠ [] ∧ ∀ c ∈ TL.tl x, c ∈ wordS.cps.toList := by decide +kernel
theorem wd_tok : Wd Tokn := ⟨fun x hx => by
  unfold fixW at hx
  by_cases h : x = obr ∨ x = cbr ∨ x = smc
  · exact .inr h
  · refine .inl (w_fix x ?_)
    simp only [List.mem_cons, List.not_mem_nil, or_false] at hx ⊢
    rcases hx with h1 | h1 | h1 | h1 | h1 | h1 | h1 | h1 | h1 | h1 | h1 | h1 | h1 | h1 <;> simp_all, fun x h => .inl (by
  have hs := sg_nameB h
  unfold nameB at h
  simp only [Bool.and_eq_true, decide_eq_true_eq] at h
  refine ⟨fun e => ?_, hs.2⟩
  have e2 : x.cps.toList = [] := e
  have : x.cps.toList.length = x.length := Array.length_toList
  rw [e2] at this
  have h1 := h.1.1.1.1
  simp at this
  omega)⟩
theorem nm_smc {x : Str} (h : nameB x = true) : x ≠ smc := fun e => by
  rw [e] at h
  exact absurd h (by decide +kernel)
theorem join_len (y : Str) : ∀ l : List Str, (Str.join y l).length ≤ (l.map (·.length)).sum + l.length * y.length
  | [] => by
    show Str.length "" ≤ _
    exact Nat.zero_le _
  | [x] => by
    show x.length ≤ _
    simp
  | x :: z :: r => by
    have ih := join_len y (z :: r)
    have e : (Str.join y (x :: z :: r)).length = x.length + y.length + (Str.join y (z :: r)).length := by
      show ((x ++ y ++ Str.join y (z :: r) : Str).cps).size = _
      show ((x.cps ++ y.cps) ++ (Str.join y (z :: r)).cps).size = _
      rw [Array.size_append, Array.size_append]
      rfl
    rw [e]
    simp only [List.map_cons, List.sum_cons, List.length_cons] at ih ⊢
    have : (r.length + 1 + 1) * y.length = (r.length + 1) * y.length + y.length := Nat.succ_mul _ _
    omega
theorem text_len {L : List Str} {P : List (Str × List St)} {A B : List Str} (h : Prog L P A B) : (textOf L P).length ≤ 100000 ∧ (ptk L P).length ≤ 4000 := by
  have hl2 := h.l2
  have hp2 := h.p2
  have hnn := h.n
  have hrl := rtk_len h.ok
  have pl : (ptk L P).length ≤ 4000 := by
    rw [ptk_eq]
    simp only [List.length_append, List.length_cons, List.length_nil]
    omega
  have sh := sum_sh (ptk_sh h)
  refine ⟨?_, pl⟩
  have := join_len " " (ptk L P)
  unfold textOf
  have e1 : Str.length " " = 1 := rfl
  rw [e1] at this
  omega
theorem letters_drop {L : List Str} {j : Nat} {x : Str} (h : L[j]? = some x) (r : List Str) : L.drop j ++ r = x :: (L.drop (j + 1) ++ r) := by
  obtain ⟨hj, e⟩ := List.getElem?_eq_some_iff.mp h
  rw [List.drop_eq_getElem_cons hj, e]
  rfl
theorem rtk_drop {P : List (Str × List St)} {j : Nat} {p : Str × List St} (h : P[j]? = some p) : rtk (P.drop j) = ("proc" : Str) :: p.1 :: (btk p.2 ++ rtk (P.drop (j + 1))) := by
  obtain ⟨hj, e⟩ := List.getElem?_eq_some_iff.mp h
  rw [List.drop_eq_getElem_cons hj, e]
  unfold rtk
  rw [List.flatMap_cons]
  rfl
section
variable {P : Program} {w : World} {K : PySem.W.Frag} {mg : Str → Option Value} {base : Heap}

def spPr (K : PySem.W.Frag) (C : Addr) (Ts : List Addr) : Sp := fun vs H Q _ => ∃ p F xs ts i pr r AL BN, vs = [.ref p] ∧ Tbs Ts H ∧ Rd K C H p F xs ts i 0 ∧ ks (Prod.snd pr) < 13 ∧ ns (Prod.snd pr) ≤ 1000 ∧ ts.drop i = ("proc" : Str) :: Prod.fst pr :: (btk (Prod.snd pr) ++ r) ∧ nameB (Prod.fst pr) = true ∧ oks AL BN false (Prod.snd pr) ∧ Nok AL ∧ Nok BN ∧
  ∀ H' v, Rd K C H' p F xs ts (i + 2 + (btk (Prod.snd pr)).length) 0 → Dp K H' v (procD pr) → RG Ts p H H' → Q v H'
theorem sc_procedure : FnScope ["self", "name"] ["self"] (C8.fnScope (inClass (topS 15) 6)) := C8.fnScope_by (by decide +kernel)
theorem okm_procedure {Ts : List Addr} {C f : Addr} {fd : FuncData} (T : Txt K mg C) (me : Meth K C "procedure" f) (F : C8.Fun K "procedure" "Reader.procedure" (inClass (topS 15) 6) f fd) (b : Binds K fd ["self"] []) (B : Bl K mg) (c_take : C8.Met P w K mg base 2 C "take" (spTake K C) []) (c_take_name : C8.Met P w K mg base 5 C "take_name" (spTN K C Ts) []) (c_body : C8.Met P w K mg base 46 C "body" (spRB K C Ts 13) []) : C8.Met P w K mg base 47 C "procedure" (spPr K C Ts) [] := by
  refine C8.met0 T.cl me F b sc_procedure ?len ?body
  case len => rintro vs H Q E ⟨p, F, xs, ts, i, pr, r, AL, BN, rfl, _⟩; rfl
  case body =>
    rintro cdv A outer s H vs Q E hr ⟨p, F, xs, ts, i, pr, r, AL, BN, rfl, hT, hR, hk, hn, hdr, hnm, hok, hA, hB, q⟩
    refine ⟨_, (pss_cons (ps_expr (C8.pe_mt c_take hr (by decide) (pv 0) (pa_cons pe_str pa_nil)))
    (pss_cons (ps_set (i := 1) sc_procedure.nd rfl (Or.inl rfl) (C8.pe_mt0 c_take_name hr (by decide) (pv 0)))
    (pss_one (ps_ret (pe_tup (pa_cons (pv 1) (pa_cons (C8.pe_mt0 c_body hr (by decide) (pv 0)) pa_nil))))))), ?_⟩
    obtain ⟨dx, h1, _⟩ := id hR
    obtain ⟨g1, g2⟩ := drop_get hdr
    refine ⟨_, rfl, p, dx, _, rfl, h1, rf_no _ _ _ (by decide +kernel) (by decide +kernel) (by decide +kernel), p, F, xs, ts, i, 0, "proc", rfl, hR, g1, fun H1 R1 G1 => ?_⟩
    have G1 := G1 Ts hT
    obtain ⟨dx1, m1, _⟩ := id R1
    obtain ⟨g3, g4⟩ := drop_get g2
    refine ⟨_, rfl, p, dx1, _, rfl, m1, rf_no _ _ _ (by decide +kernel) (by decide +kernel) (by decide +kernel), p, F, xs, ts, i + 1, 0, pr.1, rfl, G1.t, R1, g3, hnm, fun H2 R2 G2 => ?_⟩
    obtain ⟨dx2, m2, _⟩ := id R2
    refine ⟨_, rfl, _, rfl, p, dx2, _, rfl, m2, rf_no _ _ _ (by decide +kernel) (by decide +kernel) (by decide +kernel), p, F, xs, ts, i + 1 + 1, 0, pr.2, r, AL, BN, rfl, G2.t, R2, hk, by omega, hn, g4, hok, hA, hB, fun H3 v R3 dv G3 => ⟨(by show 2 ≤ sizeLine; decide), fun y hy => ?_⟩⟩
    have sy := same_new hy (.tup [.str pr.1, v])
    exact q _ _ (R3.same sy) (.tup (SqT.of upd_same) (.cons (.str _) (.cons ((Tk.same sy).dp (.tuple (ds pr.2)) (tup_ds pr.2) dv) .nil))) ((G1.trans G2).trans (G3.trans (RG.same G3.t sy)))

def spWh (K : PySem.W.Frag) (C : Addr) (Ts : List Addr) : Sp := fun vs H Q _ => ∃ p F xs L Ps AL BN, vs = [.ref p] ∧ Tbs Ts H ∧ Rd K C H p F xs (ptk L Ps ++ ([""] : List Str)) 0 0 ∧ Prog L Ps AL BN ∧
  ∀ H' v, Dp K H' v (progD L Ps) → RG Ts p H H' → Q v H'
theorem sc_whole : FnScope ["self", "letters", "procedures"] ["self"] (C8.fnScope (inClass (topS 15) 5)) := C8.fnScope_by (by decide +kernel)
theorem okm_whole {Ts : List Addr} {C f : Addr} {fd : FuncData} (T : Txt K mg C) (me : Meth K C "whole" f) (F : C8.Fun K "whole" "Reader.whole" (inClass (topS 15) 5) f fd) (b : Binds K fd ["self"] []) (B : Bl K mg) (c_word : C8.Met P w K mg base 1 C "word" (spWord K C) []) (c_take : C8.Met P w K mg base 2 C "take" (spTake K C) []) (c_take_name : C8.Met P w K mg base 5 C "take_name" (spTN K C Ts) []) (c_procedure : C8.Met P w K mg base 47 C "procedure" (spPr K C Ts) []) : C8.Met P w K mg base 48 C "whole" (spWh K C Ts) [] := by
  refine C8.met0 T.cl me F b sc_whole ?len ?body
  case len => rintro vs H Q E ⟨p, F, xs, L, Ps, AL, BN, rfl, _⟩; rfl
  case body =>
    rintro cdv A outer s H vs Q E hr ⟨p, F, xs, L, Ps, AL, BN, rfl, hT, hR, hP, q⟩
    refine ⟨_, (pss_cons (ps_expr (C8.pe_mt c_take hr (by decide) (pv 0) (pa_cons pe_str pa_nil)))
    (pss_cons (ps_set (i := 1) sc_whole.nd rfl (Or.inl rfl) (pe_lst (pa_cons (C8.pe_mt0 c_take_name hr (by decide) (pv 0)) pa_nil)))
    (pss_cons (ps_while PassesOwn.never (pt_cmpR op_ne (C8.pe_mt0 c_word hr (by decide) (pv 0)) pe_str (nomark _)) (pss_one (ps_expr (pe_bm PySem.F.plainAttrs_list PySem.F.slot_list_append PySem.F.type_list_append mt_append (pv 1) (pa_cons (C8.pe_mt0 c_take_name hr (by decide) (pv 0)) pa_nil)))))
    (pss_cons (ps_expr (C8.pe_mt c_take hr (by decide) (pv 0) (pa_cons pe_str pa_nil)))
    (pss_cons (ps_set (i := 2) sc_whole.nd rfl (Or.inl rfl) (pe_lst (pa_cons (C8.pe_mt0 c_procedure hr (by decide) (pv 0)) pa_nil)))
    (pss_cons (ps_while PassesOwn.never (pt_cmpR op_ne (C8.pe_mt0 c_word hr (by decide) (pv 0)) pe_str (nomark _)) (pss_one (ps_expr (pe_bm PySem.F.plainAttrs_list PySem.F.slot_list_append PySem.F.type_list_append mt_append (pv 2) (pa_cons (C8.pe_mt0 c_procedure hr (by decide) (pv 0)) pa_nil)))))
    (pss_one (ps_ret (pe_tup (pa_cons (pe_callTy call_tuple_of rfl B.tuple (by decide +kernel) (pa_cons (pv 1) pa_nil)) (pa_cons (pe_callTy call_tuple_of rfl B.tuple (by decide +kernel) (pa_cons (pv 2) pa_nil)) pa_nil))))))))))), ?_⟩
    obtain ⟨dx, h1, _⟩ := id hR
    have hl1 := hP.l1
    have hl2 := hP.l2
    have hp1 := hP.p1
    have hp2 := hP.p2
    have hk2 := hP.ks
    have hn2 := hP.n
    generalize ets : ptk L Ps ++ ([""] : List Str) = ts at hR
    have hdr : ts.drop 0 = ("letters" : Str) :: (L.drop 0 ++ (smc :: (rtk (Ps.drop 0) ++ ([""] : List Str)))) := by
      rw [List.drop_zero, List.drop_zero, List.drop_zero, ← ets, ptk_eq]
      simp
    have hnL : ∀ x ∈ L, nameB x = true := fun x hx => hP.okA x (hP.inA x hx)
    have hnN : ∀ x ∈ Ps.map Prod.fst, nameB x = true := fun x hx => hP.okB x (hP.inB x hx)
    obtain ⟨g1, g2⟩ := drop_get hdr
    refine ⟨_, rfl, p, dx, _, rfl, h1, rf_no _ _ _ (by decide +kernel) (by decide +kernel) (by decide +kernel), p, F, xs, ts, 0, 0, "letters", rfl, hR, g1, fun H1 R1 G1 => ?_⟩
    have G1 := G1 Ts hT
    obtain ⟨dx1, m1, _⟩ := id R1
    have hs0 := List.getElem?_eq_getElem (l := L) (i := 0) (by omega)
    generalize L[0] = x0 at hs0
    rw [letters_drop hs0] at g2
    obtain ⟨g3, g4⟩ := drop_get g2
    refine ⟨_, rfl, p, dx1, _, rfl, m1, rf_no _ _ _ (by decide +kernel) (by decide +kernel) (by decide +kernel), p, F, xs, ts, 0 + 1, 0, x0, rfl, G1.t, R1, g3, hnL _ (List.mem_of_getElem? hs0), fun H2 R2 G2 => ⟨(by show 1 ≤ sizeLine; decide), fun D hD => ?_⟩⟩
    have nD := R2.not_tab G2.t hD
    have G12 := G1.trans G2
    have hDn : H D = none := G12.k.none nD hD
    have nDF : D ≠ F := fun z => by obtain ⟨_, _, z2, _⟩ := id R2; rw [← z, hD] at z2; cases z2
    have sD := same_new hD (.lst [.str x0])
    have I1 : upd H2 D (.lst [.str x0]) D = some (.lst ((L.take 1).map V.str)) := by
      rw [upd_same, List.take_succ, hs0]
      rfl
    have R3 := R2.same sD
    have G3 := G12.trans (RG.same G12.t sD)
    generalize upd H2 D (.lst [.str x0]) = H3 at I1 R3 G3
    refine ⟨fun m σ' H' => ∃ j, m = L.length - j ∧ 1 ≤ j ∧ j ≤ L.length ∧ σ' = [some (.ref p), some (.ref D), none] ∧ Rd K C H' p F xs ts (1 + j) 0 ∧ ts.drop (1 + j) = L.drop j ++ (smc :: (rtk (Ps.drop 0) ++ ([""] : List Str))) ∧ H' D = some (.lst ((L.take j).map V.str)) ∧ RG Ts p H H', ⟨_, 1, rfl, Nat.le_refl _, hl1, rfl, R3, g4, I1, G3⟩, ?_⟩
    rintro m _ H4 ⟨j, rfl, hj1, hj, rfl, R4, hdr4, hD4, G4⟩
    obtain ⟨dx4, m4, _⟩ := id R4
    by_cases hjl : j < L.length
    · have hs := List.getElem?_eq_getElem hjl
      generalize L[j] = x at hs
      have hx := hnL _ (List.mem_of_getElem? hs)
      rw [letters_drop hs] at hdr4
      obtain ⟨u5, u6⟩ := drop_get hdr4
      refine ⟨_, rfl, p, dx4, _, rfl, m4, rf_no _ _ _ (by decide +kernel) (by decide +kernel) (by decide +kernel), p, F, xs, ts, _, 0, x, rfl, R4, u5, rfl, _, rfl, ?_⟩
      rw [dec_str]
      refine ifT (by have := nm_smc hx; unfold smc at this; simpa using this) ⟨fun σ' H' => σ' = [some (.ref p), some (.ref D), none] ∧ Rd K C H' p F xs ts (1 + (j + 1)) 0 ∧ ts.drop (1 + (j + 1)) = L.drop (j + 1) ++ (smc :: (rtk (Ps.drop 0) ++ ([""] : List Str))) ∧ H' D = some (.lst ((L.take (j + 1)).map V.str)) ∧ RG Ts p H H', fun σ' H' e => ⟨L.length - (j + 1), by omega, j + 1, rfl, by omega, by omega, e⟩, ?_⟩
      refine ⟨_, rfl, .inl ⟨rfl, _, SqL.of hD4⟩, _, rfl, p, dx4, _, rfl, m4, rf_no _ _ _ (by decide +kernel) (by decide +kernel) (by decide +kernel), p, F, xs, ts, _, 0, x, rfl, G4.t, R4, u5, hx, fun H5 R5 G5 => ?_⟩
      have hD5 := G5.k _ _ nD hD4
      refine ⟨D, _, _, rfl, rfl, hD5, Nat.lt_of_le_of_lt (show _ ≤ 20 by rw [List.length_map, List.length_take]; omega) (by decide), rfl, ?_, ?_, ?_, (G4.trans G5).put hDn hD5 _⟩
      · exact R5.other hD5 nDF _
      · exact u6
      · rw [upd_same, List.take_succ, hs, List.map_append]
        rfl
    have ej : j = L.length := by omega
    subst ej
    rw [List.take_length] at hD4
    rw [List.drop_length, List.nil_append] at hdr4
    obtain ⟨u5, u6⟩ := drop_get hdr4
    refine ⟨_, rfl, p, dx4, _, rfl, m4, rf_no _ _ _ (by decide +kernel) (by decide +kernel) (by decide +kernel), p, F, xs, ts, _, 0, smc, rfl, R4, u5, rfl, _, rfl, ?_⟩
    rw [dec_str]
    refine ifF (by decide +kernel) ?_
    refine ⟨_, rfl, p, dx4, _, rfl, m4, rf_no _ _ _ (by decide +kernel) (by decide +kernel) (by decide +kernel), p, F, xs, ts, _, 0, smc, rfl, R4, u5, fun H5 R5 G5 => ?_⟩
    have G5 := G5 Ts G4.t
    have G45 := G4.trans G5
    have hD5 := G5.k _ _ nD hD4
    obtain ⟨dx5, m5, _⟩ := id R5
    -- the first procedure
    have ht0 := List.getElem?_eq_getElem (l := Ps) (i := 0) (by omega)
    generalize Ps[0] = p0 at ht0
    have proc : ∀ {pr : Str × List St}, pr ∈ Ps → ks pr.2 < 13 ∧ ns pr.2 ≤ 1000 ∧ nameB pr.1 = true ∧ oks AL BN false pr.2 := fun {pr} hm => by
      have hb : pr.2 ∈ nsP Ps := List.mem_map.mpr ⟨pr, hm, rfl⟩
      have := kss_mem hb
      have := nss_mem hb
      exact ⟨by omega, by omega, hnN _ (List.mem_map.mpr ⟨pr, hm, rfl⟩), hP.ok _ hb⟩
    obtain ⟨a1, a2, a3, a4⟩ := proc (List.mem_of_getElem? ht0)
    have u7 : ts.drop (1 + L.length + 1) = ("proc" : Str) :: p0.1 :: (btk p0.2 ++ (rtk (Ps.drop 1) ++ ([""] : List Str))) := by
      rw [u6, rtk_drop ht0]
      simp
    refine ⟨_, rfl, p, dx5, _, rfl, m5, rf_no _ _ _ (by decide +kernel) (by decide +kernel) (by decide +kernel), p, F, xs, ts, _, p0, _, AL, BN, rfl, G45.t, R5, a1, a2, u7, a3, a4, hP.okA, hP.okB, fun H6 v0 R6 dv0 G6 => ⟨(by show 1 ≤ sizeLine; decide), fun E1 hE1 => ?_⟩⟩
    have G456 := G45.trans G6
    have nE := R6.not_tab G456.t hE1
    have hEn : H E1 = none := G456.k.none nE hE1
    have nEF : E1 ≠ F := fun z => by obtain ⟨_, _, z2, _⟩ := id R6; rw [← z, hE1] at z2; cases z2
    have hD6 := G6.k _ _ nD hD5
    have nDE : D ≠ E1 := fun z => by rw [← z, hD6] at hE1; cases hE1
    have sE := same_new hE1 (.lst [v0])
    have rt1 : rtk (Ps.take 1) = ("proc" : Str) :: p0.1 :: btk p0.2 := by
      rw [rtk_take ht0, List.take_zero]
      simp [rtk]
    have R7 : Rd K C (upd H6 E1 (.lst [v0])) p F xs ts (1 + L.length + 1 + (rtk (Ps.take 1)).length) 0 := by
      rw [rt1, List.length_cons, List.length_cons, show 1 + L.length + 1 + ((btk p0.2).length + 1 + 1) = 1 + L.length + 1 + 2 + (btk p0.2).length by omega]
      exact R6.same sE
    have hdr7 : ts.drop (1 + L.length + 1 + (rtk (Ps.take 1)).length) = rtk (Ps.drop 1) ++ ([""] : List Str) := by
      rw [rt1]
      exact drop_app (a := ("proc" : Str) :: p0.1 :: btk p0.2) (by rw [u7]; simp)
    have I7 : ∃ vs, upd H6 E1 (.lst [v0]) E1 = some (.lst vs) ∧ DpAll K (upd H6 E1 (.lst [v0])) vs ((Ps.take 1).map procD) := ⟨[v0], upd_same, by
      rw [List.take_succ, ht0]
      exact .cons ((Tk.same sE).dp _ (tup_proc p0) dv0) .nil⟩
    have G7 := G456.trans (RG.same G456.t sE)
    have hD7 := sE _ _ hD6
    generalize upd H6 E1 (.lst [v0]) = H7 at R7 I7 G7 hD7
    obtain ⟨vs7, hE7, hv7⟩ := I7
    refine ⟨fun m σ' H' => ∃ j vs, m = Ps.length - j ∧ 1 ≤ j ∧ j ≤ Ps.length ∧ σ' = [some (.ref p), some (.ref D), some (.ref E1)] ∧ Rd K C H' p F xs ts (1 + L.length + 1 + (rtk (Ps.take j)).length) 0 ∧ ts.drop (1 + L.length + 1 + (rtk (Ps.take j)).length) = rtk (Ps.drop j) ++ ([""] : List Str) ∧ H' D = some (.lst (L.map V.str)) ∧ H' E1 = some (.lst vs) ∧ DpAll K H' vs ((Ps.take j).map procD) ∧ RG Ts p H H', ⟨_, 1, vs7, rfl, Nat.le_refl _, hp1, rfl, R7, hdr7, hD7, hE7, hv7, G7⟩, ?_⟩
    rintro m _ H8 ⟨j, vs, rfl, hj1, hj, rfl, R8, hdr8, hD8, hE8, hv8, G8⟩
    obtain ⟨dx8, m8, _⟩ := id R8
    by_cases hjl : j < Ps.length
    · have hs := List.getElem?_eq_getElem hjl
      generalize Ps[j] = pr at hs
      obtain ⟨b1, b2, b3, b4⟩ := proc (List.mem_of_getElem? hs)
      have hX : ts.drop (1 + L.length + 1 + (rtk (Ps.take j)).length) = ("proc" : Str) :: pr.1 :: (btk pr.2 ++ (rtk (Ps.drop (j + 1)) ++ ([""] : List Str))) := by
        rw [hdr8, rtk_drop hs]
        simp
      obtain ⟨u9, _⟩ := drop_get hX
      refine ⟨_, rfl, p, dx8, _, rfl, m8, rf_no _ _ _ (by decide +kernel) (by decide +kernel) (by decide +kernel), p, F, xs, ts, _, 0, "proc", rfl, R8, u9, rfl, _, rfl, ?_⟩
      rw [dec_str]
      refine ifT (by decide +kernel) ⟨fun σ' H' => ∃ vs, σ' = [some (.ref p), some (.ref D), some (.ref E1)] ∧ Rd K C H' p F xs ts (1 + L.length + 1 + (rtk (Ps.take (j + 1))).length) 0 ∧ ts.drop (1 + L.length + 1 + (rtk (Ps.take (j + 1))).length) = rtk (Ps.drop (j + 1)) ++ ([""] : List Str) ∧ H' D = some (.lst (L.map V.str)) ∧ H' E1 = some (.lst vs) ∧ DpAll K H' vs ((Ps.take (j + 1)).map procD) ∧ RG Ts p H H', fun σ' H' ⟨vs, e⟩ => ⟨Ps.length - (j + 1), by omega, j + 1, vs, rfl, by omega, by omega, e⟩, ?_⟩
      refine ⟨_, rfl, .inl ⟨rfl, _, SqL.of hE8⟩, _, rfl, p, dx8, _, rfl, m8, rf_no _ _ _ (by decide +kernel) (by decide +kernel) (by decide +kernel), p, F, xs, ts, _, pr, _, AL, BN, rfl, G8.t, R8, b1, b2, hX, b3, b4, hP.okA, hP.okB, fun H9 v R9 dv G9 => ?_⟩
      have hE9 := G9.k _ _ nE hE8
      have hD9 := G9.k _ _ nD hD8
      have hvl := dps_len hv8
      rw [List.length_map, List.length_take] at hvl
      have tU := Tk.put hE9 (.lst (vs ++ [v]))
      have ert : rtk (Ps.take (j + 1)) = rtk (Ps.take j) ++ (("proc" : Str) :: pr.1 :: btk pr.2) := by rw [rtk_take hs]; simp
      have el : 1 + L.length + 1 + (rtk (Ps.take j)).length + 2 + (btk pr.2).length = 1 + L.length + 1 + (rtk (Ps.take (j + 1))).length := by
        rw [ert]
        simp only [List.length_append, List.length_cons]
        omega
      refine ⟨E1, _, _, rfl, rfl, hE9, Nat.lt_of_le_of_lt (show vs.length ≤ 8 by omega) (by decide), vs ++ [v], rfl, ?_, ?_, by rw [upd_ne nDE]; exact hD9, upd_same, ?_, (G8.trans G9).put hEn hE9 _⟩
      · rw [← el]
        exact R9.other hE9 nEF _
      · rw [ert, List.length_append, ← Nat.add_assoc]
        exact drop_app (a := ("proc" : Str) :: pr.1 :: btk pr.2) (by rw [hX]; simp)
      · rw [List.take_succ, hs, List.map_append]
        exact dps_app ((G9.tk.trans tU).dps _ (tup_procs _) hv8) (.cons (tU.dp _ (tup_proc pr) dv) .nil)
    have ej : j = Ps.length := by omega
    subst ej
    rw [List.take_length] at hdr8 hv8 R8
    rw [List.drop_length] at hdr8
    obtain ⟨u9, _⟩ := drop_get (show ts.drop _ = ("" : Str) :: [] from hdr8)
    refine ⟨_, rfl, p, dx8, _, rfl, m8, rf_no _ _ _ (by decide +kernel) (by decide +kernel) (by decide +kernel), p, F, xs, ts, _, 0, "", rfl, R8, u9, rfl, _, rfl, ?_⟩
    rw [dec_str]
    refine ifF (by decide +kernel) ⟨_, rfl, D, _, rfl, .inl ⟨SqL.of hD8, fun z hz => ?_⟩⟩
    have sz := same_new hz (.tup (L.map V.str))
    refine ⟨_, rfl, E1, _, rfl, .inl ⟨SqL.of (sz _ _ hE8), fun y hy => ⟨(by show 2 ≤ sizeLine; decide), fun x hx => ?_⟩⟩⟩
    have nzy : z ≠ y := fun qq => by rw [← qq, upd_same] at hy; cases hy
    have nyx : y ≠ x := fun qq => by rw [← qq, upd_same] at hx; cases hx
    have nzx : z ≠ x := fun qq => by rw [← qq, upd_ne nzy, upd_same] at hx; cases hx
    have s3 := sz.trans ((same_new hy (.tup vs)).trans (same_new hx (.tup [.ref z, .ref y])))
    exact q _ _ (.tup (SqT.of upd_same) (.cons (.tup (SqT.of (by rw [upd_ne nzx, upd_ne nzy]; exact upd_same)) (dp_strs L)) (.cons (.tup (SqT.of (by rw [upd_ne nyx]; exact upd_same)) ((Tk.same s3).dps _ (tup_procs Ps) hv8)) .nil))) (G8.trans (RG.same G8.t s3))
end
end K06


set_option Elab.async false
set_option linter.all false
set_option maxRecDepth 100000
set_option maxHeartbeats 8000000
namespace K06
open PySem PySem.Spec PyProof.Rows L2
theorem len2 (F : Addr) : (putF "at" (V.int 0) (putF "words" (V.ref F) [])).length = 2 := by
  show (putF "at" (V.int 0) [("words", V.ref F)]).length = 2
  unfold putF
  rw [if_neg (by decide +kernel)]
  rfl
theorem rf_made (F : Addr) : putF "depth" (V.int 0) (putF "at" (V.int 0) (putF "words" (V.ref F) [])) = rf F ((0 : Nat) : Int) ((0 : Nat) : Int) := by
  show putF "depth" (V.int 0) (putF "at" (V.int 0) [("words", V.ref F)]) = _
  have e : putF "at" (V.int 0) [("words", V.ref F)] = ([("words", V.ref F), ("at", V.int 0)] : List (Str × V)) := by
    unfold putF
    rw [if_neg (by decide +kernel)]
    rfl
  rw [e]
  unfold putF
  rw [if_neg (by decide +kernel)]
  unfold putF
  rw [if_neg (by decide +kernel)]
  rfl
theorem fin_rg {Ts : List Addr} {p : Addr} {H H' : Hp} (g : RG Ts p H H') (n : H p = none) : Go Ts H H' := ⟨g.t, fun q o h e => g.k q o (fun z => (List.mem_cons.mp z).elim (fun z => by rw [z, n] at e; cases e) h) e⟩
section
variable {P : Program} {w : World} {K : PySem.W.Frag} {mg : Str → Option Value} {base : Heap}

def spIn (K : PySem.W.Frag) (C : Addr) : Sp := fun vs H Q _ => ∃ p dx T ts, vs = [.ref p, .str T] ∧ H p = some (.ins C dx []) ∧ T.length ≤ 100000 ∧ T.cps.toList = TL.joinL [32] (ts.map TL.tl) ∧ ts ≠ [] ∧ ts.length ≤ 10000 ∧ (∀ w ∈ ts, Tokn w) ∧
  ∀ H' F xs, Rd K C H' p F xs (ts ++ ([""] : List Str)) 0 0 → (∀ q o, q ≠ p → H q = some o → H' q = some o) → Tk H H' → Q .non H'
theorem sc___init__ : FnScope ["self", "text"] ["self", "text"] (C8.fnScope (inClass (topS 15) 0)) := C8.fnScope_by (by decide +kernel)
theorem okm_init {C f : Addr} {fd : FuncData} (T : Txt K mg C) (Mk0 : Mk K C f) (hm : mg "Reader" = some (.ref C)) (F : C8.Fun K "__init__" "Reader.__init__" (inClass (topS 15) 0) f fd) (b : Binds K fd ["self", "text"] []) (B : Bl K mg) (c_split : C8.Cal P w K mg base 1 "split_words" (spSW K) []) : C8.Mak P w K mg base 2 "Reader" C (spIn K C) [] := by
  refine C8.mak0 Mk0 hm F b .nil sc___init__ ?len ?body
  case len => rintro vs H Q E ⟨p, dx, T, ts, rfl, _⟩; rfl
  case body =>
    rintro cdv A outer s H vs Q E hr ⟨p, dx, tx, ts, rfl, hp, h1, h2, h3, h4, h5, q⟩
    refine ⟨_, (pss_cons (ps_fld (pv 0) (C8.pe_c c_split hr (by decide) rfl (pa_cons (pv 1) pa_nil)) rfl)
    (pss_cons (ps_fld (pv 0) pe_int rfl)
    (pss_one (ps_fld (pv 0) pe_int rfl)))), ?_⟩
    refine ⟨_, rfl, tx, ts, rfl, h1, h2, h3, h4, h5, fun H1 F1 xs s1 hF1 hF2 hw => ?_⟩
    have hp1 := s1 _ _ hp
    have npF : p ≠ F1 := fun z => by rw [z, hF1] at hp; cases hp
    refine ⟨_, rfl, p, C, dx, [], rfl, hp1, T.cl, T.nW, (by decide), ?_⟩
    have i1 := Tk.putI hp1 (.ins C dx (putF "words" (.ref F1) []))
    have k1 : ∀ q o, q ≠ p → H q = some o → upd H1 p (.ins C dx (putF "words" (.ref F1) [])) q = some o := fun q o n e => by rw [upd_ne n]; exact s1 _ _ e
    have e1 : upd H1 p (.ins C dx (putF "words" (.ref F1) [])) p = some (.ins C dx (putF "words" (.ref F1) [])) := upd_same
    have f1 : upd H1 p (.ins C dx (putF "words" (.ref F1) [])) F1 = some (.lst xs) := by rw [upd_ne (Ne.symm npF)]; exact hF2
    have w1 := hw.same i1
    have t1 := (Tk.same s1).trans i1
    generalize upd H1 p (.ins C dx (putF "words" (.ref F1) [])) = H2 at k1 e1 f1 w1 t1
    refine ⟨_, rfl, p, C, dx, _, rfl, e1, T.cl, T.nA, (by show 1 < 1000; decide), ?_⟩
    have i2 := Tk.putI e1 (.ins C dx (putF "at" (.int 0) (putF "words" (.ref F1) [])))
    have k2 : ∀ q o, q ≠ p → H q = some o → upd H2 p (.ins C dx (putF "at" (.int 0) (putF "words" (.ref F1) []))) q = some o := fun q o n e => by rw [upd_ne n]; exact k1 q o n e
    have e2 : upd H2 p (.ins C dx (putF "at" (.int 0) (putF "words" (.ref F1) []))) p = some (.ins C dx (putF "at" (.int 0) (putF "words" (.ref F1) []))) := upd_same
    have f2 : upd H2 p (.ins C dx (putF "at" (.int 0) (putF "words" (.ref F1) []))) F1 = some (.lst xs) := by rw [upd_ne (Ne.symm npF)]; exact f1
    have w2 := w1.same i2
    have t2 := t1.trans i2
    generalize upd H2 p (.ins C dx (putF "at" (.int 0) (putF "words" (.ref F1) []))) = H3 at k2 e2 f2 w2 t2
    refine ⟨_, rfl, p, C, dx, _, rfl, e2, T.cl, T.nD, (by rw [len2]; decide), ?_⟩
    have i3 := Tk.putI e2 (.ins C dx (putF "depth" (.int 0) (putF "at" (.int 0) (putF "words" (.ref F1) []))))
    have k3 : ∀ q o, q ≠ p → H q = some o → upd H3 p (.ins C dx (putF "depth" (.int 0) (putF "at" (.int 0) (putF "words" (.ref F1) [])))) q = some o := fun q o n e => by rw [upd_ne n]; exact k2 q o n e
    refine q _ F1 xs ⟨dx, ?_, by rw [upd_ne (Ne.symm npF)]; exact f2, w2.same i3⟩ k3 (t2.trans i3)
    rw [upd_same, rf_made]

def spRP (K : PySem.W.Frag) (Ts : List Addr) : Sp := fun vs H Q _ => ∃ L Ps AL BN, vs = [.str (textOf L Ps)] ∧ Prog L Ps AL BN ∧ Tbs Ts H ∧ ∀ H' v, Go Ts H H' → Dp K H' v (progD L Ps) → Q v H'
theorem sc_read_program : FnScope ["text", "program"] ["text"] (C8.fnScope (topS 32)) := C8.fnScope_by (by decide +kernel)
theorem ok_read_program {Ts : List Addr} {f : Addr} {fd : FuncData} (F : C8.Def K mg "read_program" (topS 32) f fd) (b : Binds K fd ["text"] []) (B : Bl K mg) {C : Addr} (T : Txt K mg C) (c_init : C8.Mak P w K mg base 2 "Reader" C (spIn K C) []) (c_whole : C8.Met P w K mg base 48 C "whole" (spWh K C Ts) []) (c_is_program : C8.Cal P w K mg base 8 "is_program" (spProg K Ts) []) : C8.Cal P w K mg base 49 "read_program" (spRP K Ts) [] := by
  refine C8.cal0 F b .nil sc_read_program ?len ?body
  case len => rintro vs H Q E ⟨L, Ps, AL, BN, rfl, _⟩; rfl
  case body =>
    rintro cdv A outer s H vs Q E hr ⟨L, Ps, AL, BN, rfl, hP, hTb, q⟩
    refine ⟨_, (pss_cons (ps_if (pt_not (pt_val (pe_isD (c := "str") B (pv 0) rfl rfl B.str (by decide +kernel) (by decide)))) pss_never pss_nil)
    (pss_cons (ps_set (i := 1) sc_read_program.nd rfl (Or.inl rfl) (C8.pe_mt0 c_whole hr (by decide) (C8.pe_mk c_init hr (by decide) rfl (pa_cons (pv 0) pa_nil))))
    (pss_cons (ps_if (pt_not (pt_val (C8.pe_c c_is_program hr (by decide) rfl (pa_cons (pv 1) pa_nil)))) pss_never pss_nil)
    (pss_one (ps_ret (pv 1)))))), ?_⟩
    refine ⟨_, rfl, _, .str (textOf L Ps), rfl, .str _, _, rfl, iteF ?_⟩
    obtain ⟨l1, l2⟩ := text_len hP
    have hcs : (textOf L Ps).cps.toList = TL.joinL [32] ((ptk L Ps).map TL.tl) := TL.tl_join " " (ptk L Ps)
    refine ⟨_, rfl, fun x dx hx hdx ndx => ?_⟩
    have s0 := (same_new hdx (.own x)).trans (same_new (show upd H dx (.own x) x = none by rw [upd_ne (Ne.symm ndx)]; exact hx) (.ins C dx []))
    have hx0 : upd (upd H dx (.own x)) x (.ins C dx []) x = some (.ins C dx []) := upd_same
    generalize upd (upd H dx (.own x)) x (.ins C dx []) = H0 at s0 hx0
    refine ⟨x, dx, textOf L Ps, ptk L Ps, rfl, hx0, l1, hcs, by rw [ptk_eq]; simp, by omega, ptk_all wd_tok hP, fun H1 F1 xs R1 k1 t1 => ⟨rfl, ?_⟩⟩
    obtain ⟨dx1, m1, _⟩ := id R1
    have s1 : Same H H1 := fun q o e => k1 q o (fun z => by rw [z, hx] at e; cases e) (s0 _ _ e)
    refine ⟨x, dx1, _, rfl, m1, rf_no _ _ _ (by decide +kernel) (by decide +kernel) (by decide +kernel), x, F1, xs, L, Ps, AL, BN, rfl, hTb.same s1, R1, hP, fun H2 v dv G2 => ?_⟩
    have g2 : Go Ts H H2 := fin_rg ((RG.same hTb s1).trans G2) hx
    refine ⟨_, rfl, v, L, Ps, AL, BN, rfl, dv, hP, g2.1, fun H3 g3 => ⟨_, rfl, iteF ?_⟩⟩
    exact ⟨_, rfl, q H3 v (g2.trans g3) ((Tk.go g2.1 g3).dp _ (tup_prog L Ps) dv)⟩
end
end K06


set_option Elab.async false
set_option linter.all false
set_option maxRecDepth 100000
set_option maxHeartbeats 8000000
namespace K06
open PySem PySem.Spec PyProof.Rows L2
theorem kit_list : ∀ n ∈ ["NoneType", "bool", "int", "str", "list", "tuple", "dict"], kitB n "list" = some (isiN "list" n) := by decide +kernel
section
variable {X : Cx}
theorem call_isL : CallR X (.builtin "isinstance") (rIsD X.K "list") := by
  intro pins sh σ H xs us Q J r hyp
  obtain ⟨v, d, rfl, hd, q⟩ := hyp
  exact call_isi pins sh σ H _ us Q J r ⟨v, .ty "list", _, _, _, rfl, .ty "list", dp_ty hd, kit_ty (kit_list (tyN d) (by cases d <;> simp [tyN])), q⟩
theorem pe_isL {e : Expr} {te : TE} {p1 p2 p3 : Pos} (B : Bl X.K X.mg) (he : PE X e te) (hg : Gl X "isinstance") (hx : Gl X "list") (hm : X.mg "list" = none)
    (hs1 : starEach [e, .Name "list" p3] X.env = (false, eval e X.env) :: starEach [.Name "list" p3] X.env := by rfl)
    (hs2 : starEach [.Name "list" p3] X.env = (false, eval (.Name "list" p3) X.env) :: starEach [] X.env := by rfl) (hpl : (backTo p2 (starEach [.Name "list" p3] X.env)).any (·.1) = false := by rfl) :
    PE X (.Call (.Name "isinstance" p1) [e, .Name "list" p3] [] p2) (tCB (rIsD X.K "list") (tCons te (tCons (tC (.ty "list")) tNil))) :=
  pe_callB (pos := p2) (p := p1) call_isL hg B.isi (by decide +kernel) (pa_cons he (pa_cons (pe_bltn (v := .ty "list") (pos := p3) hx hm (by decide +kernel) rfl (by decide) (by decide)) pa_nil hs2) hs1) (by decide) (by decide) hs1 hpl
/-- x is True, x is False of what is no truth value -/
theorem op_isBO : OpR X (compareOp .Is) (fun x y H Q => ∃ c : Bool, y = .bl c ∧ (match x with | .int _ => True | .str _ => True | .ref _ => True | _ => False) ∧ Q (.bl false) H) := by
  intro pins sh σ H x y v u Q J rx ry hyp
  obtain ⟨c, rfl, hx, q⟩ := hyp
  have eu : u = Value.bool c := ry
  subst eu
  show wpAny _ _ ((isSame v (Value.bool c)) >>= fun z => pure (Value.bool z)) _ _ sh
  have go : ∀ {v : Value}, plainIs v (Value.bool c) = true → (v == Value.bool c) = false → wpAny (model X.prog X.w) X.A ((isSame v (Value.bool c)) >>= fun z => pure (Value.bool z)) (EP X pins σ Q) X.xe sh := fun h1 h2 =>
    wpAny_bind (wpAny_isSame_plain h1 (by rw [h2]; exact wpAny_pure (fin_bl J q rfl)))
  cases x with
  | int i => obtain ⟨t, rfl⟩ := rx; exact go rfl rfl
  | str z => obtain ⟨t, rfl⟩ := rx; exact go rfl rfl
  | ref a => cases rx; exact go rfl rfl
  | _ => exact hx.elim
end
theorem op_isBA {X : Cx} : OpR X (compareOp .Is) (fun x y H Q => ∃ c : Bool, y = .bl c ∧ ((∃ k : Bool, x = .bl k ∧ Q (.bl (decide (k = c))) H) ∨ ((match x with | .int _ => True | .str _ => True | .ref _ => True | _ => False) ∧ Q (.bl false) H))) := by
  intro pins sh σ H x y v u Q J rx ry hyp
  obtain ⟨c, rfl, h | h⟩ := hyp
  · obtain ⟨k, rfl, q⟩ := h
    exact op_isBl pins sh σ H _ _ _ _ Q J rx ry ⟨k, c, rfl, rfl, q⟩
  · exact op_isBO pins sh σ H _ _ _ _ Q J rx ry ⟨c, rfl, h.1, h.2⟩
/-- data that _law_same tells apart, n levels deep -/
def Sd : Nat → PyData → Prop
  | 0, _ => False
  | n + 1, d => d = .none ∨ d = .bool true ∨ (∃ i, d = .int i) ∨ (∃ s, d = .str s) ∨ (∃ ds, d = .tuple ds ∧ ds.length ≤ 5000 ∧ ∀ e ∈ ds, Sd n e) ∨ ∃ ds, d = .list ds ∧ ds.length ≤ 5000 ∧ ∀ e ∈ ds, Sd n e
theorem Sd.le {n m : Nat} {d : PyData} (h : n ≤ m) (s : Sd n d) : Sd m d := by
  induction n generalizing m d with
  | zero => exact s.elim
  | succ n ih =>
    cases m with
    | zero => omega
    | succ m =>
      rcases s with h1 | h1 | h1 | h1 | ⟨ds, h1, h2, h3⟩ | ⟨ds, h1, h2, h3⟩
      · exact .inl h1
      · exact .inr (.inl h1)
      · exact .inr (.inr (.inl h1))
      · exact .inr (.inr (.inr (.inl h1)))
      · exact .inr (.inr (.inr (.inr (.inl ⟨ds, h1, h2, fun e he => ih (by omega) (h3 e he)⟩))))
      · exact .inr (.inr (.inr (.inr (.inr ⟨ds, h1, h2, fun e he => ih (by omega) (h3 e he)⟩))))
theorem sd_str (n : Nat) (x : Str) : Sd (n + 1) (.str x) := .inr (.inr (.inr (.inl ⟨x, rfl⟩)))
theorem sd_tup {n : Nat} {ds : List PyData} (h : ds.length ≤ 5000) (a : ∀ e ∈ ds, Sd n e) : Sd (n + 1) (.tuple ds) := .inr (.inr (.inr (.inr (.inl ⟨ds, rfl, h, a⟩))))
mutual
theorem sd_st : ∀ (s : St) (A B : List Str) (sec : Bool), s.ok A B sec → s.wd → ∀ n, 3 * s.k ≤ n + 1 → Sd (n + 1) s.d
  | .dd x, _, _, _, _, _, n, hn | .ud x, _, _, _, _, _, n, hn | .cl x, _, _, _, _, _, n, hn => by
    have hn : 3 * 1 ≤ n + 1 := hn
    obtain ⟨n, rfl⟩ : ∃ n', n = n' + 1 := ⟨n - 1, by omega⟩
    exact sd_tup (by simp) (by intro e he; simp at he; rcases he with rfl | rfl <;> exact sd_str _ _)
  | .rt, _, _, _, _, _, n, hn => by
    have hn : 3 * 1 ≤ n + 1 := hn
    obtain ⟨n, rfl⟩ : ∃ n', n = n' + 1 := ⟨n - 1, by omega⟩
    exact sd_tup (by simp) (by intro e he; simp at he; rcases he with rfl; exact sd_str _ _)
  | .ch bs, A, B, sec, ho, hw, n, hn => by
    rw [St.k] at hn
    obtain ⟨n, rfl⟩ : ∃ n', n = n' + 2 := ⟨n - 2, by omega⟩
    refine sd_tup (by simp) fun e he => ?_
    simp only [List.mem_cons, List.not_mem_nil, or_false] at he
    rcases he with rfl | rfl
    · exact sd_str _ _
    · refine sd_tup (by rw [dss_len]; have := ho.2.1; omega) fun e he => ?_
      exact sd_dss bs A B sec ho.2.2 hw n (by omega) e he
  | .lp b, A, B, sec, ho, hw, n, hn => by
    rw [St.k] at hn
    obtain ⟨n, rfl⟩ : ∃ n', n = n' + 2 := ⟨n - 2, by omega⟩
    refine sd_tup (by simp) fun e he => ?_
    simp only [List.mem_cons, List.not_mem_nil, or_false] at he
    rcases he with rfl | rfl
    · exact sd_str _ _
    · exact sd_tup (by rw [ds_len]; have := hw.1; omega) fun e he => sd_ds b A B sec ho hw.2 n (by omega) e he
  | .en b c, A, B, sec, ho, hw, n, hn => by
    rw [St.k] at hn
    obtain ⟨n, rfl⟩ : ∃ n', n = n' + 2 := ⟨n - 2, by omega⟩
    refine sd_tup (by simp) fun e he => ?_
    simp only [List.mem_cons, List.not_mem_nil, or_false] at he
    rcases he with rfl | rfl | rfl
    · exact sd_str _ _
    · exact sd_tup (by rw [ds_len]; have := hw.1.1; omega) fun e he => sd_ds b A B sec ho.1 hw.1.2 n (by omega) e he
    · exact sd_tup (by rw [ds_len]; have := hw.2.1; omega) fun e he => sd_ds c A B true ho.2 hw.2.2 n (by omega) e he
theorem sd_ds : ∀ (b : List St) (A B : List Str) (sec : Bool), oks A B sec b → wdl b → ∀ n, 3 * ks b ≤ n + 1 → ∀ e ∈ ds b, Sd (n + 1) e
  | [], _, _, _, _, _, _, _, e, he => by simp [ds] at he
  | s :: r, A, B, sec, ho, hw, n, hn, e, he => by
    rw [ks] at hn
    rcases List.mem_cons.mp (show e ∈ s.d :: ds r from he) with rfl | he
    · exact sd_st s A B sec ho.1 hw.1 n (by omega)
    · exact sd_ds r A B sec ho.2 hw.2 n (by omega) e he
theorem sd_dss : ∀ (b : List (List St)) (A B : List Str) (sec : Bool), okss A B sec b → wdbs b → ∀ n, 3 * kss b ≤ n → ∀ e ∈ dss b, Sd (n + 1) e
  | [], _, _, _, _, _, _, _, e, he => by simp [dss] at he
  | s :: r, A, B, sec, ho, hw, n, hn, e, he => by
    rw [kss] at hn
    rcases List.mem_cons.mp (show e ∈ PyData.tuple (ds s) :: dss r from he) with rfl | he
    · refine sd_tup (by rw [ds_len]; have := hw.1.1; omega) fun e he => ?_
      cases n with
      | zero =>
        cases s with
        | nil => simp [ds] at he
        | cons x y => have := ks_pos (b := x :: y) (by simp); omega
      | succ n => exact sd_ds s A B sec ho.1 hw.1.2 n (by omega) e he
    · exact sd_dss r A B sec ho.2 hw.2 n (by omega) e he
end
section
variable {P : Program} {w : World} {K : PySem.W.Frag} {mg : Str → Option Value} {base : Heap}

def spSameT (K : PySem.W.Frag) (n : Nat) : Sp := fun vs H Q _ => ∃ v w d, vs = [v, w] ∧ Dp K H v d ∧ Dp K H w d ∧ Sd n d ∧ ∀ H', Same H H' → Q (.bl true) H'
theorem sc__law_same : FnScope ["found", "due", "k"] ["found", "due"] (C8.fnScope (topS 41)) := C8.fnScope_by (by decide +kernel)
theorem ok_same {n : Nat} {f : Addr} {fd : FuncData} (F : C8.Def K mg "_law_same" (topS 41) f fd) (b : Binds K fd ["found", "due"] []) (B : Bl K mg) (c__law_same : C8.Cal P w K mg base (n + 1) "_law_same" (spSameT K n) []) : C8.Cal P w K mg base (n + 2) "_law_same" (spSameT K (n + 1)) [] := by
  refine C8.cal0 F b .nil sc__law_same ?len ?body
  case len => rintro vs H Q E ⟨v, w, d, rfl, _⟩; rfl
  case body =>
    rintro cdv A outer s H vs Q E hr ⟨v, w', d, rfl, hv, hw, sd, q⟩
    refine ⟨_, (pss_cons (ps_if (pt_cmpR op_isN (pv 1) pe_non (nomark _)) (pss_one (ps_ret (pe_cmpR op_isN (pv 0) pe_non (nomark _)))) pss_nil)
    (pss_cons (ps_if (pt_cmpR op_isBA (pv 1) pe_bl (nomark _)) (pss_one (ps_ret (pe_cmpR op_isBA (pv 0) pe_bl (nomark _)))) pss_nil)
    (pss_cons (ps_if (pt_cmpR op_isBA (pv 1) pe_bl (nomark _)) (pss_one (ps_ret (pe_cmpR op_isBA (pv 0) pe_bl (nomark _)))) pss_nil)
    (pss_cons (ps_if (pt_val (pe_isD (c := "int") B (pv 1) rfl rfl B.int (by decide +kernel) (by decide))) (pss_one (ps_ret (pe_and (pe_isD (c := "int") B (pv 0) rfl rfl B.int (by decide +kernel) (by decide)) (pe_and (pe_not (pe_isD (c := "bool") B (pv 0) rfl rfl B.bool (by decide +kernel) (by decide))) (pe_one (pe_cmpR op_eq (pv 0) (pv 1) (nomark _))))))) pss_nil)
    (pss_cons (ps_if (pt_val (pe_isD (c := "str") B (pv 1) rfl rfl B.str (by decide +kernel) (by decide))) (pss_one (ps_ret (pe_and (pe_isD (c := "str") B (pv 0) rfl rfl B.str (by decide +kernel) (by decide)) (pe_one (pe_cmpR op_eq (pv 0) (pv 1) (nomark _)))))) pss_nil)
    (pss_cons (ps_if (PW.pt (pw_or (pt_cmpR op_ne (pe_isD (c := "tuple") B (pv 1) rfl rfl B.tuple (by decide +kernel) (by decide)) (pe_isD (c := "tuple") B (pv 0) rfl rfl B.tuple (by decide +kernel) (by decide)) (nomark _)) (pw_or1 (pt_cmpR op_ne (pe_isL B (pv 1) rfl rfl B.list) (pe_isL B (pv 0) rfl rfl B.list) (nomark _))))) (pss_one (ps_ret pe_bl)) pss_nil)
    (pss_cons (ps_if (pt_cmpR op_ne (pe_callB call_len_seq rfl B.len PySem.boot_len (pa_cons (pv 0) pa_nil)) (pe_callB call_len_seq rfl B.len PySem.boot_len (pa_cons (pv 1) pa_nil)) (nomark _)) (pss_one (ps_ret pe_bl)) pss_nil)
    (pss_one (ps_ret (pe_callB (cr_all rfl) rfl B.all (by decide +kernel) (pa_cons (pe_lc (own := [("k", 2)]) (g := gName 2) (te := tCall (spSameT K n) [] C8.E0 (tCons (tOp (rIx K) (tVar 0) (tVar 2)) (tCons (tOp (rIx K) (tVar 1) (tVar 2)) tNil))) (by rfl) sc__law_same.nd (pi_range1 rfl B.range (pa_cons (pe_callB call_len_seq rfl B.len PySem.boot_len (pa_cons (pv 1) pa_nil)) pa_nil)) (blkOk_by (own := [("k", 2)]) (N := ["found", "due", "k"]) (sc := (C8.fnScope (topS 41))) (by decide +kernel)) (fun _ _ _ _ _ => pg_name (i := 2) sc__law_same.nd rfl (Or.inl rfl)) (fun _ _ _ _ _ => pts_nil) (fun _ _ _ _ _ => by exact (C8.pe_c c__law_same hr (by omega) rfl (pa_cons (pe_ix ix_seq (pv 0) (pv 2) (fun _ _ => rfl)) (pa_cons (pe_ix ix_seq (pv 1) (pv 2) (fun _ _ => rfl)) pa_nil))))) pa_nil))))))))))), ?_⟩
    rcases sd with rfl | rfl | ⟨i, rfl⟩ | ⟨z, rfl⟩ | ⟨ds, rfl, hl, hds⟩ | ⟨ds, rfl, hl, hds⟩
    · cases hv
      cases hw
      refine ⟨_, rfl, rfl, _, rfl, ?_⟩
      refine iteT ⟨_, rfl, rfl, ?_⟩
      rw [decide_eq_true rfl]
      exact q H (Same.refl H)
    · cases hv
      cases hw
      refine ⟨_, rfl, rfl, _, rfl, ?_⟩
      refine iteF ?_
      refine ⟨_, rfl, true, rfl, .inl ⟨true, rfl, _, rfl, ?_⟩⟩
      refine ifT (by decide) ⟨_, rfl, true, rfl, .inl ⟨true, rfl, ?_⟩⟩
      exact q H (Same.refl H)
    · cases hv
      cases hw
      refine ⟨_, rfl, rfl, _, rfl, ?_⟩
      refine iteF ?_
      refine ⟨_, rfl, true, rfl, .inr ⟨trivial, _, rfl, iteF ?_⟩⟩
      refine ⟨_, rfl, false, rfl, .inr ⟨trivial, _, rfl, iteF ?_⟩⟩
      refine ⟨_, rfl, .int i, .int i, rfl, .int i, _, rfl, iteT ?_⟩
      refine ⟨_, rfl, .int i, .int i, rfl, .int i, _, rfl, iteT ?_⟩
      refine ⟨_, rfl, .int i, .int i, rfl, .int i, _, rfl, ?_⟩
      refine ⟨_, rfl, ?_⟩
      refine iteT ?_
      refine ⟨_, rfl, _, rfl, rfl, ?_⟩
      rw [decide_eq_true rfl]
      exact q H (Same.refl H)
    · cases hv
      cases hw
      refine ⟨_, rfl, rfl, _, rfl, ?_⟩
      refine iteF ?_
      refine ⟨_, rfl, true, rfl, .inr ⟨trivial, _, rfl, iteF ?_⟩⟩
      refine ⟨_, rfl, false, rfl, .inr ⟨trivial, _, rfl, iteF ?_⟩⟩
      refine ⟨_, rfl, .str z, .str z, rfl, .str z, _, rfl, iteF ?_⟩
      refine ⟨_, rfl, .str z, .str z, rfl, .str z, _, rfl, iteT ?_⟩
      refine ⟨_, rfl, .str z, .str z, rfl, .str z, _, rfl, iteT ?_⟩
      refine ⟨_, rfl, _, rfl, rfl, ?_⟩
      rw [decide_eq_true rfl]
      exact q H (Same.refl H)
    · cases hv with
      | @tup a xs _ hs ha =>
      cases hw with
      | @tup b ys _ ht hb =>
      refine ⟨_, rfl, rfl, _, rfl, ?_⟩
      refine iteF ?_
      refine ⟨_, rfl, true, rfl, .inr ⟨trivial, _, rfl, iteF ?_⟩⟩
      refine ⟨_, rfl, false, rfl, .inr ⟨trivial, _, rfl, iteF ?_⟩⟩
      refine ⟨_, rfl, .ref b, .tuple ds, rfl, .tup ht hb, _, rfl, iteF ?_⟩
      refine ⟨_, rfl, .ref b, .tuple ds, rfl, .tup ht hb, _, rfl, iteF ?_⟩
      have la := dps_len ha
      have lb := dps_len hb
      refine ⟨_, rfl, .ref b, .tuple ds, rfl, .tup ht hb, _, rfl, .ref a, .tuple ds, rfl, .tup hs ha, rfl, _, rfl, iteF ?_⟩
      refine ⟨_, rfl, .ref b, .tuple ds, rfl, .tup ht hb, _, rfl, .ref a, .tuple ds, rfl, .tup hs ha, rfl, _, rfl, iteF ?_⟩
      refine ⟨_, rfl, a, xs, rfl, .inr hs, _, rfl, b, ys, rfl, .inr ht, rfl, _, rfl, ?_⟩
      rw [show (!decide (V.int ((xs.length : Nat) : Int) = V.int ((ys.length : Nat) : Int))) = false by rw [la, lb, decide_eq_true rfl]; rfl]
      refine iteF ?_
      refine ⟨_, rfl, b, ys, rfl, .inr ht, _, rfl, by omega, by omega, fun D hD => ?_⟩
      rw [Int.toNat_natCast]
      refine lc_range (fun j H' => H' D = some (.lst (List.replicate j (V.bl true))) ∧ Same H H') ⟨upd_same, same_new hD _⟩ ?_ ?_
      · rintro j H1 hj ⟨hD1, s1⟩
        refine ⟨rfl, ?_⟩
        have ea : xs[j]? = some (xs[j]'(by omega)) := List.getElem?_eq_getElem (by omega)
        have eb : ys[j]? = some (ys[j]'(by omega)) := List.getElem?_eq_getElem (by omega)
        obtain ⟨d1, hd1, hp1⟩ := dps_get' ha ea
        obtain ⟨d2, hd2, hp2⟩ := dps_get' hb eb
        rw [hd1] at hd2
        cases hd2
        have i1 : atI xs (0 + (j : Int)) = some (xs[j]'(by omega)) := by
          rw [show (0 : Int) + (j : Int) = ((j : Nat) : Int) by omega]
          exact atI_nat ea
        have i2 : atI ys (0 + (j : Int)) = some (ys[j]'(by omega)) := by
          rw [show (0 : Int) + (j : Int) = ((j : Nat) : Int) by omega]
          exact atI_nat eb
        refine ⟨_, rfl, _, rfl, .inr (.inl ⟨a, xs, _, _, rfl, rfl, sqt_ext (same_ext s1) hs, i1, _, rfl, _, rfl, .inr (.inl ⟨b, ys, _, _, rfl, rfl, sqt_ext (same_ext s1) ht, i2, _, _, d1, rfl, dp_ext (same_ext s1) _ hp1, dp_ext (same_ext s1) _ hp2, hds d1 (List.mem_of_getElem? hd1), fun H2 s2 => ?_⟩)⟩)⟩
        refine ⟨_, s2 _ _ hD1, Nat.lt_of_le_of_lt (show _ ≤ 5000 by rw [List.length_replicate]; omega) (by decide), ?_, fun p o h => ?_⟩
        · rw [List.replicate_succ']
          exact upd_same
        · have : p ≠ D := fun z => by rw [z, hD] at h; cases h
          rw [upd_ne this]
          exact s2 _ _ (s1 _ _ h)
      · rintro H1 ⟨hD1, s1⟩
        refine ⟨D, List.replicate ys.length true, rfl, SqL.of (by rw [hD1, List.map_replicate]), ?_⟩
        rw [show (List.replicate ys.length true).all id = true by rw [List.all_eq_true]; intro z hz; rw [List.eq_of_mem_replicate hz]; rfl]
        exact q H1 s1
    · cases hv with
      | @lst a xs _ hs ha =>
      cases hw with
      | @lst b ys _ ht hb =>
      refine ⟨_, rfl, rfl, _, rfl, ?_⟩
      refine iteF ?_
      refine ⟨_, rfl, true, rfl, .inr ⟨trivial, _, rfl, iteF ?_⟩⟩
      refine ⟨_, rfl, false, rfl, .inr ⟨trivial, _, rfl, iteF ?_⟩⟩
      refine ⟨_, rfl, .ref b, .list ds, rfl, .lst ht hb, _, rfl, iteF ?_⟩
      refine ⟨_, rfl, .ref b, .list ds, rfl, .lst ht hb, _, rfl, iteF ?_⟩
      have la := dps_len ha
      have lb := dps_len hb
      refine ⟨_, rfl, .ref b, .list ds, rfl, .lst ht hb, _, rfl, .ref a, .list ds, rfl, .lst hs ha, rfl, _, rfl, iteF ?_⟩
      refine ⟨_, rfl, .ref b, .list ds, rfl, .lst ht hb, _, rfl, .ref a, .list ds, rfl, .lst hs ha, rfl, _, rfl, iteF ?_⟩
      refine ⟨_, rfl, a, xs, rfl, .inl hs, _, rfl, b, ys, rfl, .inl ht, rfl, _, rfl, ?_⟩
      rw [show (!decide (V.int ((xs.length : Nat) : Int) = V.int ((ys.length : Nat) : Int))) = false by rw [la, lb, decide_eq_true rfl]; rfl]
      refine iteF ?_
      refine ⟨_, rfl, b, ys, rfl, .inl ht, _, rfl, by omega, by omega, fun D hD => ?_⟩
      rw [Int.toNat_natCast]
      refine lc_range (fun j H' => H' D = some (.lst (List.replicate j (V.bl true))) ∧ Same H H') ⟨upd_same, same_new hD _⟩ ?_ ?_
      · rintro j H1 hj ⟨hD1, s1⟩
        refine ⟨rfl, ?_⟩
        have ea : xs[j]? = some (xs[j]'(by omega)) := List.getElem?_eq_getElem (by omega)
        have eb : ys[j]? = some (ys[j]'(by omega)) := List.getElem?_eq_getElem (by omega)
        obtain ⟨d1, hd1, hp1⟩ := dps_get' ha ea
        obtain ⟨d2, hd2, hp2⟩ := dps_get' hb eb
        rw [hd1] at hd2
        cases hd2
        have i1 : atI xs (0 + (j : Int)) = some (xs[j]'(by omega)) := by
          rw [show (0 : Int) + (j : Int) = ((j : Nat) : Int) by omega]
          exact atI_nat ea
        have i2 : atI ys (0 + (j : Int)) = some (ys[j]'(by omega)) := by
          rw [show (0 : Int) + (j : Int) = ((j : Nat) : Int) by omega]
          exact atI_nat eb
        refine ⟨_, rfl, _, rfl, .inl ⟨a, xs, _, _, rfl, rfl, sq_ext (same_ext s1) hs, i1, _, rfl, _, rfl, .inl ⟨b, ys, _, _, rfl, rfl, sq_ext (same_ext s1) ht, i2, _, _, d1, rfl, dp_ext (same_ext s1) _ hp1, dp_ext (same_ext s1) _ hp2, hds d1 (List.mem_of_getElem? hd1), fun H2 s2 => ?_⟩⟩⟩
        refine ⟨_, s2 _ _ hD1, Nat.lt_of_le_of_lt (show _ ≤ 5000 by rw [List.length_replicate]; omega) (by decide), ?_, fun p o h => ?_⟩
        · rw [List.replicate_succ']
          exact upd_same
        · have : p ≠ D := fun z => by rw [z, hD] at h; cases h
          rw [upd_ne this]
          exact s2 _ _ (s1 _ _ h)
      · rintro H1 ⟨hD1, s1⟩
        refine ⟨D, List.replicate ys.length true, rfl, SqL.of (by rw [hD1, List.map_replicate]), ?_⟩
        rw [show (List.replicate ys.length true).all id = true by rw [List.all_eq_true]; intro z hz; rw [List.eq_of_mem_replicate hz]; rfl]
        exact q H1 s1
theorem same_all {f : Addr} {fd : FuncData} (F : C8.Def K mg "_law_same" (topS 41) f fd) (b : Binds K fd ["found", "due"] []) (B : Bl K mg) : ∀ n : Nat, C8.Cal P w K mg base (n + 1) "_law_same" (spSameT K n) []
  | 0 => by
    refine C8.cal0 F b .nil sc__law_same ?len ?body
    case len => rintro vs H Q E ⟨_, _, _, _, _, _, sd, _⟩; exact sd.elim
    case body => rintro cdv A outer s H vs Q E hr ⟨_, _, _, _, _, _, sd, _⟩; exact sd.elim
  | n + 1 => ok_same F b B (same_all F b B n)
end
end K06


set_option Elab.async false
set_option linter.all false
set_option maxRecDepth 100000
set_option maxHeartbeats 4000000
/-! len(set(t)), t a tuple of texts: how many there are, told by whether they are all unlike -/
namespace UG
open PySem PySem.Spec PyProof.Rows L2
section
variable {prog : Program} {w : World} {A : Around} {E : Value → Shared → Prop} {s : Shared}
/-- c is how many unlike ones there are among the first i, as far as it matters -/
def Cnt (xs : List Str) (i c : Nat) : Prop := c ≤ i ∧ (c = i ↔ (xs.take i).Nodup)
theorem Cnt.old {xs : List Str} {i c : Nat} {x : Str} (h : Cnt xs i c) (e : xs[i]? = some x) (m : x ∈ xs.take i) : Cnt xs (i + 1) c := by
  refine ⟨by have := h.1; omega, fun z => by have := h.1; omega, fun z => ?_⟩
  exfalso
  rw [List.take_succ, e] at z
  exact (List.nodup_append.mp z).2.2 x m x (by simp) rfl
theorem Cnt.new {xs : List Str} {i c : Nat} {x : Str} (h : Cnt xs i c) (e : xs[i]? = some x) (m : x ∉ xs.take i) : Cnt xs (i + 1) (c + 1) := by
  refine ⟨by have := h.1; omega, fun z => ?_, fun z => ?_⟩
  · rw [List.take_succ, e]
    refine List.nodup_append.mpr ⟨h.2.mp (by omega), by simp, fun a ha b hb q => ?_⟩
    have : b = x := by simpa using hb
    rw [q, this] at ha
    exact m ha
  · rw [List.take_succ, e] at z
    have := h.2.mpr (List.nodup_append.mp z).1
    omega
theorem cnt_zero (xs : List Str) : Cnt xs 0 0 := ⟨Nat.le_refl _, by simp⟩
/-- the set of the first i texts stands at S -/
def Got (prog : Program) (w : World) (h : Heap) (S : Addr) (xs : List Str) (i : Nat) : Prop := ∃ c, Cnt xs i c ∧ h.SetOf (strKind prog w) S (fun k => decide (k ∈ xs.take i)) c
theorem Got.at {h h' : Heap} {S : Addr} {xs : List Str} {i : Nat} (g : Got prog w h S xs i) (k : ∀ o, h.get? S = some o → h'.get? S = some o) : Got prog w h' S xs i := by
  obtain ⟨c, hc, o, es, ep, t, ho, r⟩ := g
  exact ⟨c, hc, o, es, ep, t, k o ho, r⟩
theorem loop_texts {R : Result → Shared → Prop} {I : Addr} {fp wr : List Addr} {G : Array GenState → Array GenState → Prop} {n : Nat} {Pv : Nat → Value → Prop} {St : Nat → Shared → Prop}
    (W : WalksS prog w A.in1 I fp wr G n Pv St) (S : Addr) (out : S ∉ fp) (xs : List Str) (hn : xs.length = n) (few : n + 1 < scanBound) (val : ∀ i v, Pv i v → ∃ x t, xs[i]? = some x ∧ v = .str x t)
    (fin : ∀ s', Moved (S :: wr) G s s' → Got prog w s'.heap S xs n → R (.ok (.ret .none)) s') (hst : St 0 s) (g0 : Got prog w s.heap S xs 0) :
    codeAny (model prog w) A (.builtin "set.update.loop" ⟨[.ref S, .ref I], []⟩) R s := by
  have nw : S ∉ wr := fun h => out (W.sub _ h)
  have up : ∀ b ∈ wr, b ∈ S :: wr := fun b hb => List.mem_cons_of_mem _ hb
  -- from any turn on
  suffices go : ∀ (k i : Nat) (s1 : Shared), i + k = n → St i s1 → Got prog w s1.heap S xs i → (∀ s', Moved (S :: wr) G s1 s' → Got prog w s'.heap S xs n → R (.ok (.ret .none)) s') →
      codeAny (model prog w) A (.builtin "set.update.loop" ⟨[.ref S, .ref I], []⟩) R s1 from go n 0 s (Nat.zero_add n) hst g0 fin
  intro k
  induction k with
  | zero =>
    intro i s1 hi st g fin
    obtain rfl : i = n := by omega
    refine codeAny_builtin PyProof.Rows.F.entry_set_update_loop ?_
    rw [Around.under_plainId PyProof.Rows.F.plain_set_update_loop _]
    refine wpAny_bind (m := pyNext (.ref I)) (W.done s1 _ _ st fun s' hm => ?_)
    exact wpAny_pure (fin s' (hm.mono up) (g.at fun o e => hm.heap S o nw e))
  | succ k ih =>
    intro i s1 hi st g fin
    refine codeAny_builtin PyProof.Rows.F.entry_set_update_loop ?_
    rw [Around.under_plainId PyProof.Rows.F.plain_set_update_loop _]
    refine wpAny_bind (m := pyNext (.ref I)) (W.item i s1 _ _ (by omega) st fun v s' hp st' hm => ?_)
    obtain ⟨x, t, ex, rfl⟩ := val i v hp
    obtain ⟨c, hc, hS⟩ := g.at (h' := s'.heap) fun o e => hm.heap S o nw e
    show wpAny _ A.in1 (holding [Value.str x t] (setAdd S (.str x t)) >>= _) _ _ s'
    refine wpAny_bind (wpAny_holding ?_)
    unfold setAdd
    refine wpAny_holding (wpAny_bind ((strKind prog w).pyHash (k := x) (strKind_is _ _ _ _) ?_))
    have hc1 := hc.1
    refine wpAny_setAddHashed_of (knd := strKind prog w) (s := { s' with toks := s'.toks + 1 }) (strKind_is _ _ _ _) rfl hS (by omega) fun h' moved hS2 => ?_
    have g' : Got prog w h' S xs (i + 1) := by
      by_cases m : x ∈ xs.take i
      · refine ⟨c, hc.old ex m, SetOf_congr hS2 (fun j => ?_) (by rw [if_pos (decide_eq_true m)])⟩
        rw [List.take_succ, ex]
        by_cases q : j = x
        · subst q; simp [m]
        · simp [q]
      · refine ⟨c + 1, hc.new ex m, SetOf_congr hS2 (fun j => ?_) (by rw [if_neg (by simpa using m)])⟩
        rw [List.take_succ, ex]
        by_cases q : j = x
        · subst q; simp
        · simp [q]
    refine wpAny_pure ⟨plainId_quiet PyProof.Rows.F.plain_set_update_loop _, ih (i + 1) _ (by omega) (W.frame _ s' _ _ st' (Nat.le_succ _) fun b hb o e => ?_) g' fun s2 hm2 g2 => ?_⟩
    · rw [moved.2 b (fun z : b = S => out (by rw [← z]; exact hb))]
      exact e
    · refine fin s2 (Moved.trans W.gtrans ((hm.mono up).then_heap (Nat.le_succ _) fun b o hb e => ?_) hm2) g2
      rw [moved.2 b (fun z : b = S => hb (by rw [z]; exact List.mem_cons_self))]
      exact e
theorem strs_vals_at {xs : List Str} {its : List Value} (h : Vals (xs.map V.str) its) : ∀ (i : Nat) v, its[i]? = some v → ∃ x t, xs[i]? = some x ∧ v = Value.str x t := by
  intro i v hv
  have hi : i < its.length := (List.getElem?_eq_some_iff.mp hv).1
  have hl : i < xs.length := by
    have := h.length
    rw [List.length_map] at this
    omega
  obtain ⟨u, hu, t, ht⟩ := h.get (i := i) (x := .str xs[i]) (by simp [hl])
  refine ⟨xs[i], t, List.getElem?_eq_getElem hl, ?_⟩
  rw [hv] at hu
  cases hu
  exact ht
set_option maxHeartbeats 4000000 in
/-- set(t): the new set stands at the heap's end, and what stood in the heap stays -/
theorem set_of_texts {l : Addr} {items : Array Value} {xs : List Str} {Q : Value → Shared → Prop} (calm : A.handled = none) (tup : s.heap.IsTuple l items) (vs : Vals (xs.map V.str) items.toList) (few : xs.length + 1 < scanBound)
    (q : ∀ (h' : Heap) (tk : Nat), Got prog w h' s.heap.objs.size xs xs.length → (∀ b o, s.heap.get? b = some o → h'.get? b = some o) → Q (.ref s.heap.objs.size) { s with heap := h', toks := tk }) :
    wpAny (model prog w) A (call (.type "set") [.ref l]) Q E s := by
  have size : xs.length = items.size := by
    have := vs.length
    rw [List.length_map, Array.length_toList] at this
    exact this
  obtain ⟨c, tl, hmro⟩ := PySem.F.called_set.mro
  have hmade := PySem.F.called_set.made
  have hsub := PySem.F.called_set.sub
  refine wpAny_call (codeAny_of_tree ?_)
  show wpAny _ _ (callAny (.type "set") _) _ _ _
  refine wpAny_pure ⟨Code.quiet_builtin _ (by decide +kernel), codeAny_builtin PySem.F.entry_type_call ?_⟩
  rw [Around.under_plain (weight_type_call_type "set" [.ref l] []) rfl]
  have k1 := PySem.F.called_set.notType
  have k2 := PySem.F.called_set.canCreate
  have k3 := PySem.F.typeCall_set_1 (.ref l)
  repeat (any_goals (first | assumption | wp_step))
  -- the empty set
  refine codeAny_mono (code_set_new_1 (.ref l) (E := E) (Q₁ := fun v s1 => ∃ led : Bool, v = .ref s.heap.objs.size ∧ s1 = { s with heap := s.heap.push { cls := .type "set", dict := none, data := .set #[] 0 (.fresh 0 0 led) } }) fun led => ⟨led, rfl, rfl⟩) fun r s1 hr => ?_
  match r, hr with
  | .error _, hr => exact hr
  | .ok .next, hr => exact hr.elim
  | .ok .brk, hr => exact hr.elim
  | .ok .cont, hr => exact hr.elim
  | .ok (.ret v), hr =>
    obtain ⟨led, rfl, rfl⟩ := hr
    have hS : (s.heap.push { cls := .type "set", dict := none, data := .set #[] 0 (.fresh 0 0 led) }).get? s.heap.objs.size = some { cls := .type "set", dict := none, data := .set #[] 0 (.fresh 0 0 led) } := Heap.get?_push_size _ rfl
    have ty : Shared.TypeIs { s with heap := s.heap.push { cls := .type "set", dict := none, data := .set #[] 0 (.fresh 0 0 led) } } (.ref s.heap.objs.size) "set" := ⟨_, hS, rfl⟩
    have k4 := PySem.F.called_set.init.lookup
    have k5 := PySem.F.called_set.init.bind (.ref s.heap.objs.size)
    repeat (any_goals (first | assumption | wp_step))
    -- its filling
    refine codeAny_mono (codeAny_call_builtin (R := wants (fun r s2 => r = .none ∧ ∃ h' tk, s2 = { s with heap := h', toks := tk } ∧ Got prog w h' s.heap.objs.size xs xs.length ∧ (∀ b o, s.heap.get? b = some o → h'.get? b = some o)) E)
      PySem.F.called_set.init.plain PySem.F.entry_set_init (check_set_init_1 ty ?_)) fun r2 s2 hr2 => ?_
    · obtain ⟨⟨ocls, odict, odata, oslots⟩, ho, oc, n, od⟩ := tup
      simp only at oc od
      subst oc od
      have ho1 : (s.heap.push { cls := .type "set", dict := none, data := .set #[] 0 (.fresh 0 0 led) }).get? l = some { cls := .type "tuple", dict := odict, data := .seq items n, slots := oslots } := Heap.get?_push_of_some _ ho
      have j1 := PySem.F.sub_tuple_set
      have j2 := PySem.F.sub_tuple_frozenset
      have j3 : (Value.type "tuple" == Value.type "dict") = false := by decide
      have tup1 : (s.heap.push { cls := .type "set", dict := none, data := .set #[] 0 (.fresh 0 0 led) }).IsTuple l items := ⟨_, ho1, rfl, n, rfl⟩
      unfold Builtin.«set.__init__» noKeywords Builtin.Frozenset.updateFrom
      generalize hPI : pyIter = PI
      wp_walk
      subst hPI
      refine wpAny_pyIter_tuple tup1 ?_
      refine wpAny_bind (wpAny_runValue ?_)
      have ll : l < s.heap.objs.size := Heap.lt_size ho
      have sz : (s.heap.push { cls := .type "set", dict := none, data := .set #[] 0 (.fresh 0 0 led) }).objs.size = s.heap.objs.size + 1 := Heap.size_push ..
      have cl3 : A.in1.in1.in1.handled = none := by simp [calm]
      have nI : l ≠ (s.heap.push { cls := .type "set", dict := none, data := .set #[] 0 (.fresh 0 0 led) }).objs.size := by
        rw [Heap.size_push]
        exact Nat.ne_of_lt (Nat.lt_succ_of_lt ll)
      have nS : s.heap.objs.size ∉ [(s.heap.push { cls := .type "set", dict := none, data := .set #[] 0 (.fresh 0 0 led) }).objs.size, l] := by
        rw [Heap.size_push]
        simp only [List.mem_cons, List.not_mem_nil, or_false, not_or]
        exact ⟨Nat.ne_of_lt (Nat.lt_succ_self _), Nat.ne_of_gt ll⟩
      refine loop_texts ((Walks.tuple cl3 _ l nI items).toS) s.heap.objs.size nS xs size (by omega) (fun i v hv => strs_vals_at vs i v (by rw [Array.getElem?_toList]; exact hv)) ?fin ⟨⟨_, Heap.get?_push_size _ rfl, rfl, rfl⟩, tup1.push _⟩ ⟨0, cnt_zero xs, ?g0⟩
      case g0 =>
        have at1 : ((s.heap.push { cls := .type "set", dict := none, data := .set #[] 0 (.fresh 0 0 led) }).push { cls := .type "tuple_iterator", data := .fields #[.ref l, .int 0 0] }).get? s.heap.objs.size = some { cls := .type "set", dict := none, data := .set #[] 0 (.fresh 0 0 led) } := by
          exact Heap.get?_push_of_some _ hS
        exact SetOf_congr ((setObjOf_fresh (knd := strKind prog w) led).setOf at1 (by unfold scanBound; omega)) (fun k => by simp) rfl
      case fin =>
        rintro ⟨h', g', d', tk', os'⟩ hm g
        obtain rfl : g' = s.gens := hm.gens
        obtain rfl : d' = s.drawn := hm.drawn
        obtain rfl : os' = s.os := hm.os
        show wpAny _ _ _ _ _ _
        refine wpAny_pure ?_
        show wpAny _ _ (ret Value.none) _ _ _
        rw [← size] at g
        refine wpAny_pure ⟨rfl, h', tk', rfl, g, fun b o e => ?_⟩
        have lb := Heap.lt_size e
        refine hm.heap b o ?_ (Heap.get?_push_of_some _ (Heap.get?_push_of_some _ e))
        rw [Heap.size_push]
        simp only [List.mem_cons, List.not_mem_nil, or_false, not_or]
        exact ⟨Nat.ne_of_lt lb, Nat.ne_of_lt (Nat.lt_succ_of_lt lb)⟩
    · match r2, hr2 with
      | .error _, hr2 => exact hr2
      | .ok .next, hr2 => exact hr2.elim
      | .ok .brk, hr2 => exact hr2.elim
      | .ok .cont, hr2 => exact hr2.elim
      | .ok (.ret _), hr2 =>
        obtain ⟨rfl, h', tk, rfl, g, k⟩ := hr2
        repeat (any_goals (first | assumption | wp_step))
        exact q h' tk g k
end
/-- len(set(t)) -/
def tLenSetS (K : PySem.W.Frag) (ta : TE) : TE := fun σ H Q => ta σ H fun x H1 => ∃ (l : Addr) (xs : List Str), x = .ref l ∧ SqT K H1 l (xs.map V.str) ∧ xs.length ≤ 1000 ∧ ∀ c : Nat, (c = xs.length ↔ xs.Nodup) → Q (.int (c : Nat)) H1
theorem pe_lenSetS {X : Cx} {a : Expr} {ta : TE} {p p2 q pos : Pos} (hg : Gl X "len") (hm : X.mg "len" = none) (hg2 : Gl X "set") (hm2 : X.mg "set" = none) (ha : PE X a ta) (hc : X.calm = true := by rfl)
    (na : starEach [a] X.env = (false, eval a X.env) :: starEach [] X.env := by rfl) : PE X (.Call (.Name "len" p) [.Call (.Name "set" p2) [a] [] q] [] pos) (tLenSetS X.K ta) := by
  refine ⟨fun pins sh σ H Q I h => ?_⟩
  refine Call_ (ld_blt I hg hm PySem.boot_len ?_)
  refine PyProof.Rows.callWith_builtin1 (PyProof.Rows.args_cons ?_ rfl) rfl rfl
  refine Call_ (ld_blt I hg2 hm2 PyProof.Rows.boot_set ?_)
  refine PyProof.Rows.callWith_type1 (PyProof.Rows.args_cons (thn (ha.run pins sh σ H _ I h) fun v s1 ⟨x, H1, I1, r1, q1⟩ => PyProof.Rows.args_nil ?_) na) na rfl
  obtain ⟨l, xs, rfl, hq, hl, q1⟩ := q1
  cases r1
  obtain ⟨its, r, pl, hz⟩ := I1.tuple hq
  refine set_of_texts (xs := xs) (I1.ok.hd hc) pl (by simpa using r) (by unfold scanBound; omega) fun h' tk g hk => ?_
  obtain ⟨c, hc1, hS⟩ := g
  refine PyProof.Rows.args_nil ?_
  rw [List.take_length] at hS
  obtain ⟨o, es, ep, t, ho, hex, hd, _, _, _, hf, hn⟩ := hS
  have I2 : Inv X pins σ H1 { s1 with heap := h', toks := tk } := I1.kept fun b o e => hk b o e
  have := hc1.1
  exact call_len_set ho hex hd hf (by rw [hn] <;> omega) ⟨.int (c : Nat), H1, I2.tok _, ⟨_, by rw [hn]⟩, q1 c (by have := hc1.2; rwa [List.take_length] at this)⟩
end UG


set_option Elab.async false
set_option linter.all false
set_option maxRecDepth 100000
set_option maxHeartbeats 8000000
namespace K06
open PySem PySem.Spec PyProof.Rows L2
def Inj (f : Str → Str) (L : List Str) : Prop := ∀ x ∈ L, ∀ y ∈ L, f x = f y → x = y
theorem Inj.sub {f : Str → Str} {L M : List Str} (h : Inj f M) (s : ∀ x ∈ L, x ∈ M) : Inj f L := fun x hx y hy => h x (s x hx) y (s y hy)
theorem fn_inj {M : List (Str × Str)} {L : List Str} (h1 : (M.map Prod.fst).Nodup) (h2 : (M.map Prod.snd).Nodup) (hL : ∀ x ∈ L, x ∈ M.map Prod.fst) : Inj (fn M) L := by
  have key : ∀ x ∈ M.map Prod.fst, (x, fn M x) ∈ M := fun x hx => by
    unfold fn
    cases e : M.lookup x with
    | none => exact absurd hx (look_none e)
    | some y =>
      obtain ⟨l1, l2, e2, _⟩ := List.lookup_eq_some_iff.mp e
      rw [e2]
      simp
  have two : ∀ {M : List (Str × Str)} {x y z : Str}, (M.map Prod.snd).Nodup → (x, z) ∈ M → (y, z) ∈ M → x = y := by
    intro M
    induction M with
    | nil => intro x y z _ h; cases h
    | cons p r ih =>
      intro x y z hn hx hy
      rw [List.map_cons, List.nodup_cons] at hn
      rcases List.mem_cons.mp hx with ex | hx
      · rcases List.mem_cons.mp hy with ey | hy
        · rw [← ex] at ey; exact (Prod.mk.inj ey).1.symm
        · exact absurd (List.mem_map.mpr ⟨(y, z), hy, by rw [← ex]⟩) hn.1
      · rcases List.mem_cons.mp hy with ey | hy
        · exact absurd (List.mem_map.mpr ⟨(x, z), hx, by rw [← ey]⟩) hn.1
        · exact ih hn.2 hx hy
  intro x hx y hy e
  have a := key x (hL x hx)
  have b := key y (hL y hy)
  rw [← e] at b
  exact two h2 a b
theorem fn_in {M : List (Str × Str)} {x : Str} (h : x ∈ M.map Prod.fst) : fn M x ∈ M.map Prod.snd := by
  induction M with
  | nil => cases h
  | cons p r ih =>
    unfold fn
    rw [List.lookup_cons]
    cases e : (x == p.1) with
    | true => exact List.mem_cons_self
    | false =>
      rcases List.mem_cons.mp (show x ∈ p.1 :: r.map Prod.fst from h) with z | z
      · rw [z] at e
        simp at e
      · exact List.mem_cons_of_mem _ (ih z)
theorem mem_map_inj {f : Str → Str} {L : List Str} {x : Str} (h : Inj f (x :: L)) : f x ∈ L.map f ↔ x ∈ L := by
  refine ⟨fun z => ?_, fun z => List.mem_map.mpr ⟨x, z, rfl⟩⟩
  obtain ⟨y, hy, e⟩ := List.mem_map.mp z
  rw [h x List.mem_cons_self y (List.mem_cons_of_mem _ hy) e.symm]
  exact hy
theorem fd1_ren {f : Str → Str} : ∀ (L seen : List Str), Inj f (seen ++ L) → fd1 (seen.map f) (L.map f) = (fd1 seen L).map f
  | [], _, _ => rfl
  | x :: r, seen, h => by
    have hx : Inj f (x :: seen) := h.sub fun y hy => by
      rcases List.mem_cons.mp hy with rfl | hy
      · simp
      · exact List.mem_append_left _ hy
    rw [List.map_cons, fd1, fd1]
    by_cases m : x ∈ seen
    · rw [if_pos m, if_pos ((mem_map_inj hx).mpr m)]
      rfl
    · rw [if_neg m, if_neg (fun z => m ((mem_map_inj hx).mp z))]
      have := fd1_ren r (seen ++ [x]) (by rw [List.append_assoc]; exact h)
      rw [List.map_append] at this
      exact this
theorem firstD_ren {f : Str → Str} {L : List Str} (h : Inj f L) : firstD (L.map f) = (firstD L).map f := fd1_ren L [] h
theorem fd1_none : ∀ (L seen : List Str), seen.Nodup → (fd1 seen L = none ↔ (seen ++ L).Nodup)
  | [], seen, h => by simp [fd1, h]
  | x :: r, seen, h => by
    rw [fd1]
    by_cases m : x ∈ seen
    · rw [if_pos m]
      refine ⟨(fun z => by cases z), fun z => ?_⟩
      exact absurd rfl ((List.nodup_append.mp z).2.2 x m x (by simp))
    · rw [if_neg m]
      have hs : (seen ++ [x]).Nodup := List.nodup_append.mpr ⟨h, by simp, fun a ha b hb q => by
        have : b = x := by simpa using hb
        rw [q, this] at ha
        exact m ha⟩
      rw [fd1_none r (seen ++ [x]) hs, List.append_assoc]
      rfl
theorem firstD_none (L : List Str) : firstD L = none ↔ L.Nodup := fd1_none L [] List.nodup_nil
theorem fd1_mem : ∀ (L seen : List Str) {x : Str}, fd1 seen L = some x → x ∈ L
  | [], _, _, h => by cases h
  | y :: r, seen, x, h => by
    rw [fd1] at h
    split at h
    · cases h
      exact List.mem_cons_self
    · exact List.mem_cons_of_mem _ (fd1_mem r _ h)
theorem firstD_mem {L : List Str} {x : Str} (h : firstD L = some x) : x ∈ L := fd1_mem L [] h
theorem isEn_ren (f g : Str → Str) (s : St) : isEn (s.ren f g) = isEn s := by cases s <;> rfl
mutual
theorem fs_ren (f g : Str → Str) : ∀ (s : St) (sec : Bool), (s.ren f g).fs sec = (s.fs sec).map fun e => (e.1.ren f g, e.2)
  | .dd _, _ | .ud _, _ | .cl _, _ | .rt, _ => rfl
  | .ch bs, sec => by
    rw [St.ren, St.fs, St.fs, fsss_ren f g bs sec, List.map_cons, St.ren]
  | .lp b, sec => by
    rw [St.ren, St.fs, St.fs, fss_ren f g b sec, List.map_cons, St.ren]
  | .en b c, sec => by
    rw [St.ren, St.fs, St.fs, fss_ren f g b sec, fss_ren f g c true, List.map_cons, List.map_append, St.ren]
theorem fss_ren (f g : Str → Str) : ∀ (b : List St) (sec : Bool), fss sec (rens f g b) = (fss sec b).map fun e => (e.1.ren f g, e.2)
  | [], _ => rfl
  | s :: r, sec => by rw [rens, fss, fss, fs_ren f g s sec, fss_ren f g r sec, List.map_append]
theorem fsss_ren (f g : Str → Str) : ∀ (b : List (List St)) (sec : Bool), fsss sec (renss f g b) = (fsss sec b).map fun e => (e.1.ren f g, e.2)
  | [], _ => rfl
  | s :: r, sec => by rw [renss, fsss, fsss, fss_ren f g s sec, fsss_ren f g r sec, List.map_append]
end
-- names of what was found
mutual
theorem fs_own {A B : List Str} : ∀ (s : St) (sec s2 : Bool), s.ok A B s2 → ∀ e ∈ s.fs sec, own A B e.1
  | .dd x, _, _, h => fun e he => by cases List.mem_singleton.mp he; exact h
  | .ud x, _, _, h => fun e he => by cases List.mem_singleton.mp he; exact h
  | .cl x, _, _, h => fun e he => by cases List.mem_singleton.mp he; exact h
  | .rt, _, _, h => fun e he => by cases List.mem_singleton.mp he; exact trivial
  | .ch bs, sec, s2, h => fun e he => by
    rw [St.fs] at he
    rcases List.mem_cons.mp he with rfl | he
    · exact trivial
    · exact fsss_own bs sec s2 h.2.2 e he
  | .lp b, sec, s2, h => fun e he => by
    rw [St.fs] at he
    rcases List.mem_cons.mp he with rfl | he
    · exact trivial
    · exact fss_own b sec s2 h e he
  | .en b c, sec, s2, h => fun e he => by
    rw [St.fs] at he
    rcases List.mem_cons.mp he with rfl | he
    · exact trivial
    · rcases List.mem_append.mp he with he | he
      · exact fss_own b sec s2 h.1 e he
      · exact fss_own c true true h.2 e he
theorem fss_own {A B : List Str} : ∀ (b : List St) (sec s2 : Bool), oks A B s2 b → ∀ e ∈ fss sec b, own A B e.1
  | [], _, _, _ => fun e he => by simp [fss] at he
  | s :: r, sec, s2, h => fun e he => by
    rw [fss] at he
    exact (List.mem_append.mp he).elim (fs_own s sec s2 h.1 e) (fss_own r sec s2 h.2 e)
theorem fsss_own {A B : List Str} : ∀ (b : List (List St)) (sec s2 : Bool), okss A B s2 b → ∀ e ∈ fsss sec b, own A B e.1
  | [], _, _, _ => fun e he => by simp [fsss] at he
  | s :: r, sec, s2, h => fun e he => by
    rw [fsss] at he
    exact (List.mem_append.mp he).elim (fss_own s sec s2 h.1 e) (fsss_own r sec s2 h.2 e)
end
theorem fault1_ren {f g : Str → Str} {L N A B : List Str} (hf : Inj f A) (hg : Inj g B) (hL : ∀ x ∈ L, x ∈ A) (hN : ∀ x ∈ N, x ∈ B) (e : St × Bool) (ho : own A B e.1) : fault1 (L.map f) (N.map g) (e.1.ren f g, e.2) = fault1 L N e := by
  have one : ∀ {h : Str → Str} {M Z : List Str} {x : Str}, Inj h Z → (∀ y ∈ M, y ∈ Z) → x ∈ Z → (h x ∈ M.map h ↔ x ∈ M) := fun {h M Z x} hi hs hx => mem_map_inj (hi.sub fun y hy => by
    rcases List.mem_cons.mp hy with rfl | hy
    · exact hx
    · exact hs y hy)
  obtain ⟨s, sec⟩ := e
  cases s with
  | dd x =>
    have := one hf hL ho
    simp only [St.ren, fault1, this]
  | ud x =>
    have := one hf hL ho
    simp only [St.ren, fault1, this]
  | cl x =>
    have := one hg hN ho
    simp only [St.ren, fault1, this]
  | rt => rfl
  | ch _ => rfl
  | lp _ => rfl
  | en _ _ => rfl
theorem find_map {α β γ : Type} {f : β → Option γ} {g : α → Option γ} {h : α → β} : ∀ {l : List α}, (∀ e ∈ l, f (h e) = g e) → (l.map h).findSome? f = l.findSome? g
  | [], _ => rfl
  | x :: r, q => by
    rw [List.map_cons, List.findSome?_cons, List.findSome?_cons, q x List.mem_cons_self, find_map fun e he => q e (List.mem_cons_of_mem _ he)]
theorem find_mapO {α β γ : Type} {q : α → Option β} {h : β → γ} : ∀ l : List α, (l.findSome? fun p => (q p).map h) = (l.findSome? q).map h
  | [] => rfl
  | p :: r => by
    rw [List.findSome?_cons, List.findSome?_cons, find_mapO r]
    cases q p <;> rfl
theorem bfault_ren {f g : Str → Str} {L N A B : List Str} (hf : Inj f A) (hg : Inj g B) (hL : ∀ x ∈ L, x ∈ A) (hN : ∀ x ∈ N, x ∈ B) {b : List St} (ho : oks A B false b) : bfault (L.map f) (N.map g) (rens f g b) = bfault L N b := by
  unfold bfault
  rw [fss_ren]
  exact find_map fun e he => fault1_ren hf hg hL hN e (fss_own b false false ho e he)
/-- what check tells, and what it tells of the same with other names -/
theorem chk_ren {L : List Str} {Ps : List (Str × List St)} {M0 M1 : List (Str × Str)} {A B : List Str} (i0 : Inj (fn M0) A) (i1 : Inj (fn M1) B) (hL : ∀ x ∈ L, x ∈ A) (hN : ∀ x ∈ Ps.map Prod.fst, x ∈ B) (ho : ∀ b ∈ nsP Ps, oks A B false b) :
    (∃ x ∈ L, ¬ L.Nodup ∧ chkD L Ps = .tuple [.str "letter", .str x] ∧ chkD (renL M0 L) (renP M0 M1 Ps) = .tuple [.str "letter", .str (fn M0 x)]) ∨
    (∃ w : Str, ∃ n ∈ Ps.map Prod.fst, (w = "letter" → L.Nodup) ∧ chkD L Ps = .tuple [.str w, .str n] ∧ chkD (renL M0 L) (renP M0 M1 Ps) = .tuple [.str w, .str (fn M1 n)]) ∨
    (chkD L Ps = .none ∧ chkD (renL M0 L) (renP M0 M1 Ps) = .none) := by
  have en : (renP M0 M1 Ps).map Prod.fst = (Ps.map Prod.fst).map (fn M1) := by unfold renP; rw [List.map_map, List.map_map]; rfl
  have e1 : firstD (renL M0 L) = (firstD L).map (fn M0) := firstD_ren (i0.sub hL)
  have e2 : firstD ((renP M0 M1 Ps).map Prod.fst) = (firstD (Ps.map Prod.fst)).map (fn M1) := by rw [en]; exact firstD_ren (i1.sub hN)
  have e3 : (renP M0 M1 Ps).findSome? (pfault (renL M0 L) ((renP M0 M1 Ps).map Prod.fst)) = Ps.findSome? fun p => (pfault L (Ps.map Prod.fst) p).map fun z => (z.1, fn M1 z.2) := by
    unfold renP
    refine find_map fun p hp => ?_
    have := bfault_ren i0 i1 hL hN (ho p.2 (List.mem_map.mpr ⟨p, hp, rfl⟩))
    have en' := en
    unfold renP at en'
    unfold pfault renL
    rw [en', this]
    cases bfault L (Ps.map Prod.fst) p.2 <;> rfl
  unfold chkD
  rw [e1, e2, e3]
  cases h1 : firstD L with
  | some x => exact .inl ⟨x, firstD_mem h1, (fun z => by rw [(firstD_none L).mpr z] at h1; cases h1), rfl, rfl⟩
  | none =>
    have nd := (firstD_none L).mp h1
    cases h2 : firstD (Ps.map Prod.fst) with
    | some x => exact .inr (.inl ⟨"double", x, firstD_mem h2, fun _ => nd, rfl, rfl⟩)
    | none =>
      have e4 := find_mapO (q := pfault L (Ps.map Prod.fst)) (h := fun z => (z.1, fn M1 z.2)) Ps
      rw [e4]
      cases h3 : Ps.findSome? (pfault L (Ps.map Prod.fst)) with
      | none => exact .inr (.inr ⟨rfl, rfl⟩)
      | some z =>
        obtain ⟨w, n⟩ := z
        obtain ⟨p, hp, hpf⟩ := List.exists_of_findSome?_eq_some h3
        have hn : n = p.1 := by
          unfold pfault at hpf
          cases h4 : bfault L (Ps.map Prod.fst) p.2 with
          | none => rw [h4] at hpf; cases hpf
          | some y => rw [h4] at hpf; cases hpf; rfl
        exact .inr (.inl ⟨w, n, List.mem_map.mpr ⟨p, hp, hn.symm⟩, fun _ => nd, rfl, rfl⟩)
mutual
theorem ren_wd (f g : Str → Str) : ∀ s : St, s.wd → (s.ren f g).wd
  | .dd _, _ | .ud _, _ | .cl _, _ | .rt, _ => by simp [St.ren, St.wd]
  | .ch bs, h => by rw [St.ren, St.wd]; rw [St.wd] at h; exact renss_wd f g bs h
  | .lp b, h => by
    rw [St.ren, St.wd]
    rw [St.wd] at h
    exact ⟨by rw [rens_map, List.length_map]; exact h.1, rens_wd f g b h.2⟩
  | .en b c, h => by
    rw [St.ren, St.wd]
    rw [St.wd] at h
    exact ⟨⟨by rw [rens_map, List.length_map]; exact h.1.1, rens_wd f g b h.1.2⟩, by rw [rens_map, List.length_map]; exact h.2.1, rens_wd f g c h.2.2⟩
theorem rens_wd (f g : Str → Str) : ∀ b : List St, wdl b → wdl (rens f g b)
  | [], _ => trivial
  | s :: r, h => ⟨ren_wd f g s h.1, rens_wd f g r h.2⟩
theorem renss_wd (f g : Str → Str) : ∀ b : List (List St), wdbs b → wdbs (renss f g b)
  | [], _ => trivial
  | s :: r, h => ⟨⟨by rw [rens_map, List.length_map]; exact h.1.1, rens_wd f g s h.1.2⟩, renss_wd f g r h.2⟩
end
theorem prog_ren {L : List Str} {Ps : List (Str × List St)} {M0 M1 : List (Str × Str)} {AL BN : List Str} (hP : Prog L Ps AL BN) (hL : ∀ y ∈ L, y ∈ M0.map Prod.fst) (hN : ∀ y ∈ Ps.map Prod.fst, y ∈ M1.map Prod.fst) (ha : ∀ b ∈ nsP Ps, oks (M0.map Prod.fst) (M1.map Prod.fst) false b)
    (a3 : Nok (M0.map Prod.snd)) (b3 : Nok (M1.map Prod.snd)) : Prog (renL M0 L) (renP M0 M1 Ps) (M0.map Prod.snd) (M1.map Prod.snd) := by
  have en : (renP M0 M1 Ps).map Prod.fst = (Ps.map Prod.fst).map (fn M1) := by unfold renP; rw [List.map_map, List.map_map]; rfl
  have eb : nsP (renP M0 M1 Ps) = renss (fn M0) (fn M1) (nsP Ps) := by unfold nsP renP; rw [renss_map, List.map_map, List.map_map]; rfl
  have nn := ren_nss (fn M0) (fn M1) (nsP Ps)
  refine ⟨by unfold renL; rw [List.length_map]; exact hP.l1, by unfold renL; rw [List.length_map]; exact hP.l2, by unfold renP; rw [List.length_map]; exact hP.p1, by unfold renP; rw [List.length_map]; exact hP.p2, a3, b3, ?_, ?_, ?_, ?_, ?_, ?_⟩
  · intro x hx
    obtain ⟨y, hy, rfl⟩ := List.mem_map.mp hx
    exact fn_in (hL y hy)
  · intro x hx
    rw [en] at hx
    obtain ⟨y, hy, rfl⟩ := List.mem_map.mp hx
    exact fn_in (hN y hy)
  · intro b hb
    rw [eb, renss_map] at hb
    obtain ⟨b0, hb0, rfl⟩ := List.mem_map.mp hb
    exact ren_oks (fun x hx => fn_in hx) (fun x hx => fn_in hx) b0 false (ha b0 hb0)
  · rw [eb]; exact renss_wd _ _ _ hP.wd
  · rw [eb, nn.2]; exact hP.ks
  · rw [eb, nn.1]; exact hP.n
/-! ### the words of both texts, side by side -/
inductive Pw : List Str → List Str → Prop
  | nil : Pw [] []
  | same (x : Str) {l m : List Str} : Pw l m → Pw (x :: l) (x :: m)
  | name {x y : Str} {l m : List Str} : nameB x = true → nameB y = true → Pw l m → Pw (x :: l) (y :: m)
theorem Pw.len : ∀ {l m : List Str}, Pw l m → l.length = m.length
  | _, _, .nil => rfl
  | _, _, .same _ h => by rw [List.length_cons, List.length_cons, h.len]
  | _, _, .name _ _ h => by rw [List.length_cons, List.length_cons, h.len]
theorem Pw.app : ∀ {l m l' m' : List Str}, Pw l m → Pw l' m' → Pw (l ++ l') (m ++ m')
  | _, _, _, _, .nil, h => h
  | _, _, _, _, .same x h, k => .same x (h.app k)
  | _, _, _, _, .name a b h, k => .name a b (h.app k)
theorem Pw.get : ∀ {l m : List Str} {i : Nat} {x y : Str}, Pw l m → l[i]? = some x → m[i]? = some y → x = y ∨ (nameB x = true ∧ nameB y = true)
  | _, _, i, _, _, .nil, h, _ => by simp at h
  | _, _, 0, _, _, .same z h, a, b => by simp at a b; exact .inl (a.symm.trans b)
  | _, _, 0, _, _, .name p q h, a, b => by simp at a b; rw [← a, ← b]; exact .inr ⟨p, q⟩
  | _, _, i + 1, _, _, .same z h, a, b => h.get (i := i) (by simpa using a) (by simpa using b)
  | _, _, i + 1, _, _, .name p q h, a, b => h.get (i := i) (by simpa using a) (by simpa using b)
theorem Pw.refl : ∀ l : List Str, Pw l l
  | [] => .nil
  | x :: r => .same x (Pw.refl r)
section
variable {f g : Str → Str} {A B : List Str}
mutual
theorem tk_pw (hA : Nok A) (hB : Nok B) (fA : ∀ x ∈ A, nameB (f x) = true) (gB : ∀ x ∈ B, nameB (g x) = true) : ∀ (s : St) (sec : Bool), s.ok A B sec → Pw s.tk (s.ren f g).tk
  | .dd x, _, h => .same _ (.name (hA _ h) (fA _ h) (.same _ .nil))
  | .ud x, _, h => .same _ (.name (hA _ h) (fA _ h) (.same _ .nil))
  | .cl x, _, h => .same _ (.name (hB _ h) (gB _ h) (.same _ .nil))
  | .rt, _, _ => Pw.refl _
  | .ch bs, sec, h => by rw [St.ren, St.tk, St.tk]; exact .same _ (tkE_pw hA hB fA gB "or" 0 bs sec h.2.2)
  | .lp b, sec, h => by rw [St.ren, St.tk, St.tk]; exact .same _ (.same _ ((tks_pw hA hB fA gB b sec h).app (Pw.refl _)))
  | .en b c, sec, h => by
    rw [St.ren, St.tk, St.tk]
    exact .same _ (.same _ ((tks_pw hA hB fA gB b sec h.1).app (.same _ (.same _ (.same _ ((tks_pw hA hB fA gB c true h.2).app (Pw.refl _)))))))
theorem tks_pw (hA : Nok A) (hB : Nok B) (fA : ∀ x ∈ A, nameB (f x) = true) (gB : ∀ x ∈ B, nameB (g x) = true) : ∀ (b : List St) (sec : Bool), oks A B sec b → Pw (tks b) (tks (rens f g b))
  | [], _, _ => .nil
  | s :: r, sec, h => by rw [rens, tks, tks]; exact (tk_pw hA hB fA gB s sec h.1).app (tks_pw hA hB fA gB r sec h.2)
theorem tkE_pw (hA : Nok A) (hB : Nok B) (fA : ∀ x ∈ A, nameB (f x) = true) (gB : ∀ x ∈ B, nameB (g x) = true) (sep : Str) : ∀ (j : Nat) (b : List (List St)) (sec : Bool), okss A B sec b → Pw (tkE sep j b) (tkE sep j (renss f g b))
  | _, [], _, _ => .nil
  | j, s :: r, sec, h => by
    rw [renss, tkE, tkE]
    exact (Pw.refl _).app (.same _ ((tks_pw hA hB fA gB s sec h.1).app (.same _ (tkE_pw hA hB fA gB sep (j + 1) r sec h.2))))
end
end
theorem pw_names {f : Str → Str} : ∀ (L : List Str), (∀ x ∈ L, nameB x = true ∧ nameB (f x) = true) → Pw L (L.map f)
  | [], _ => .nil
  | x :: r, h => .name (h x List.mem_cons_self).1 (h x List.mem_cons_self).2 (pw_names r fun y hy => h y (List.mem_cons_of_mem _ hy))
theorem pw_procs {f g : Str → Str} {A B : List Str} : ∀ (Ps : List (Str × List St)), Nok A → Nok B → (∀ x ∈ A, nameB (f x) = true) → (∀ x ∈ B, nameB (g x) = true) → (∀ p ∈ Ps, p.1 ∈ B) → (∀ p ∈ Ps, oks A B false p.2) → Pw (rtk Ps) (rtk (Ps.map fun p => (g p.1, rens f g p.2)))
  | [], _, _, _, _, _, _ => .nil
  | p :: r, hA, hB, fA, gB, hn, ho => by
    have ih := pw_procs r hA hB fA gB (fun q hq => hn q (List.mem_cons_of_mem _ hq)) fun q hq => ho q (List.mem_cons_of_mem _ hq)
    unfold rtk at ih ⊢
    rw [List.map_cons, List.flatMap_cons, List.flatMap_cons]
    have h1 := hn p List.mem_cons_self
    exact Pw.app (.same _ (.name (hB _ h1) (gB _ h1) (.same _ ((tks_pw hA hB fA gB p.2 false (ho p List.mem_cons_self)).app (Pw.refl _))))) ih
theorem ptk_pw {L : List Str} {Ps : List (Str × List St)} {M0 M1 : List (Str × Str)} {AL BN : List Str} (hP : Prog L Ps AL BN) (hL : ∀ y ∈ L, y ∈ M0.map Prod.fst) (hN : ∀ y ∈ Ps.map Prod.fst, y ∈ M1.map Prod.fst) (ha : ∀ b ∈ nsP Ps, oks (M0.map Prod.fst) (M1.map Prod.fst) false b)
    (k0 : Nok (M0.map Prod.fst)) (k1 : Nok (M1.map Prod.fst)) (a3 : Nok (M0.map Prod.snd)) (b3 : Nok (M1.map Prod.snd)) : Pw (ptk L Ps) (ptk (renL M0 L) (renP M0 M1 Ps)) := by
  have fA : ∀ x ∈ M0.map Prod.fst, nameB (fn M0 x) = true := fun x hx => a3 _ (fn_in hx)
  have gB : ∀ x ∈ M1.map Prod.fst, nameB (fn M1 x) = true := fun x hx => b3 _ (fn_in hx)
  rw [ptk_eq, ptk_eq]
  refine Pw.app (Pw.app (Pw.app (Pw.refl _) ?_) (Pw.refl _)) ?_
  · exact pw_names (f := fn M0) L fun x hx => ⟨k0 x (hL x hx), fA x (hL x hx)⟩
  · exact pw_procs (f := fn M0) (g := fn M1) Ps k0 k1 fA gB (fun p hp => hN p.1 (List.mem_map.mpr ⟨p, hp, rfl⟩)) fun p hp => ha p.2 (List.mem_map.mpr ⟨p, hp, rfl⟩)
end K06


set_option Elab.async false
set_option linter.all false
set_option maxRecDepth 100000
set_option maxHeartbeats 8000000
namespace K06
open PySem PySem.Spec PyProof.Rows L2
theorem wl_go {Ts : List Addr} {H H' : Hp} {w l m : Nat} (h : Wl H w l m) (t : Tbs Ts H) (g : Go Ts H H') : Wl H' w l m := by
  obtain ⟨ns, a, n, h1, h2, _⟩ := id h
  refine h.kp g.2 (fun z => ?_) fun z => ?_
  · obtain ⟨ps, h3, _⟩ := t _ z
    rw [h1] at h3; cases h3
  · obtain ⟨ps, h3, _⟩ := t _ z
    rw [h2] at h3; cases h3
theorem tbs_wl {Ts : List Addr} {H H' : Hp} {w l m : Nat} (t : Tbs Ts H) (h : Wl H w l m) (k : Kp [w, l] H H') : Tbs Ts H' := fun T hT => by
  obtain ⟨ns, a, n, h1, h2, _⟩ := id h
  obtain ⟨ps, h3, h4⟩ := t T hT
  refine ⟨ps, k _ _ (fun z => ?_) h3, h4⟩
  rcases List.mem_cons.mp z with z | z
  · rw [z, h1] at h3; cases h3
  · rw [List.mem_singleton.mp z, h2] at h3; cases h3
theorem name9 {i : Nat} {v : V} {σ : L2.St} {H : Hp} {Q : L2.St → Hp → Prop} (h : Q (σ.set i (some v)) H) : gName i v σ H Q := h
theorem wd_32 : Wd (fun x => (32 : Nat) ∉ TL.tl x) := ⟨by unfold fixW; decide +kernel, fun x h z => not32 ((sg_nameB h).2 32 z)⟩
def plainW : List Str := ["call", "choose", "do", "ensure", "finally", "letters", "loop", "or", "proc", "return", "undo", "{", "}", ";"]
theorem nm_plain {x : Str} (h : nameB x = true) : x ∉ plainW := fun z => by
  have e : nameB x = false := by
    have : ∀ y ∈ plainW, nameB y = false := by decide +kernel
    exact this x z
  rw [e] at h
  cases h
theorem sd_prog {L : List Str} {Ps : List (Str × List St)} {AL BN : List Str} (hP : Prog L Ps AL BN) : Sd 41 (progD L Ps) := by
  have hl2 := hP.l2
  have hp2 := hP.p2
  have hk := hP.ks
  refine sd_tup (by simp) fun e he => ?_
  simp only [List.mem_cons, List.not_mem_nil, or_false] at he
  rcases he with rfl | rfl
  · refine sd_tup (by rw [List.length_map]; omega) fun e he => ?_
    obtain ⟨x, _, rfl⟩ := List.mem_map.mp he
    exact sd_str _ _
  · refine sd_tup (by rw [List.length_map]; omega) fun e he => ?_
    obtain ⟨p, hp, rfl⟩ := List.mem_map.mp he
    have hb : p.2 ∈ nsP Ps := List.mem_map.mpr ⟨p, hp, rfl⟩
    have hkb := kss_mem hb
    have hw := wdbs_iff.mp hP.wd p.2 hb
    refine sd_tup (by simp) fun e he => ?_
    simp only [List.mem_cons, List.not_mem_nil, or_false] at he
    rcases he with rfl | rfl
    · exact sd_str _ _
    · exact sd_tup (by rw [ds_len]; have := hw.1; omega) fun e he => sd_ds p.2 AL BN false (hP.ok _ hb) hw.2 36 (by omega) e he
theorem chk_sd {d : PyData} (h : d = .none ∨ ∃ a b, d = .tuple [.str a, .str b]) : Sd 42 d := by
  rcases h with rfl | ⟨a, b, rfl⟩
  · exact .inl rfl
  · exact sd_tup (by simp) fun e he => by
      simp at he
      rcases he with rfl | rfl <;> exact sd_str _ _
/-- what stands but for the tables and the well -/
structure WG (Ts : List Addr) (w l : Addr) (H H' : Hp) : Prop where
  t : Tbs Ts H'
  k : Kp (w :: l :: Ts) H H'
  tk : Tk H H'
theorem WG.trans {Ts : List Addr} {w l : Addr} {H H1 H2 : Hp} (a : WG Ts w l H H1) (b : WG Ts w l H1 H2) : WG Ts w l H H2 := ⟨b.t, a.k.trans b.k, a.tk.trans b.tk⟩
theorem WG.same {Ts : List Addr} {w l : Addr} {H H' : Hp} (t : Tbs Ts H) (s : Same H H') : WG Ts w l H H' := ⟨t.same s, Kp.of_same s, Tk.same s⟩
theorem WG.go {Ts : List Addr} {w l : Addr} {H H' : Hp} (t : Tbs Ts H) (g : Go Ts H H') : WG Ts w l H H' := ⟨g.1, g.2.mono fun _ h => List.mem_cons_of_mem _ (List.mem_cons_of_mem _ h), Tk.go t g⟩
theorem WG.wl {Ts : List Addr} {w l m : Nat} {H H' : Hp} (t : Tbs Ts H) (h : Wl H w l m) (k : Kp [w, l] H H') (tk : Tk H H') : WG Ts w l H H' := ⟨tbs_wl t h k, k.mono fun a ha => by
  rcases List.mem_cons.mp ha with rfl | ha
  · exact List.mem_cons_self
  · rw [List.mem_singleton.mp ha]
    exact List.mem_cons_of_mem _ List.mem_cons_self, tk⟩
theorem wg_out {Ts : List Addr} {w l m D : Nat} {H : Hp} (t : Tbs Ts H) (h : Wl H w l m) {xs : List V} (e : H D = some (.lst xs)) (nw : D ≠ w) (nl : D ≠ l) : D ∉ w :: l :: Ts := fun z => by
  rcases List.mem_cons.mp z with z | z
  · exact nw z
  · rcases List.mem_cons.mp z with z | z
    · exact nl z
    · obtain ⟨ps, h3, _⟩ := t D z
      rw [e] at h3
      cases h3
section
variable {P : Program} {w : World} {K : PySem.W.Frag} {mg : Str → Option Value} {base : Heap}

def spPR (K : PySem.W.Frag) (Ts : List Addr) : Sp := fun vs H Q _ => ∃ w l v c L Ps A B j, vs = [.ref w, v] ∧ Wl H w l (c + 2400) ∧ PD K H v L Ps ∧ Plan L Ps A B j ∧ j ≤ 2 ∧ Tbs Ts H ∧ ∀ H', Wl H' w l c → WG Ts w l H H' → Q (.bl true) H'
theorem sc__law_plan_right : FnScope ["well", "plan", "pairs", "turned", "due", "phrases", "plain", "k"] ["well", "plan"] (C8.fnScope (topS 55)) := C8.fnScope_by (by decide +kernel)
theorem ok__law_plan_right {Ts : List Addr} {f : Addr} {fd : FuncData} (F : C8.Def K mg "_law_plan_right" (topS 55) f fd) (b : Binds K fd ["well", "plan"] []) (B : Bl K mg) (c_pairs : C8.Cal P w K mg base 15 "_law_pairs" (spPairs K) []) (c_tp : C8.Cal P w K mg base 15 "_law_turned_plan" (spTP K) []) (c_isp : C8.Cal P w K mg base 8 "is_program" (spProg K Ts) []) (c_write : C8.Cal P w K mg base 29 "write_program" (spWP K Ts) []) (c_read : C8.Cal P w K mg base 49 "read_program" (spRP K Ts) []) (c_check : C8.Cal P w K mg base 17 "check" (spCheck K Ts) []) (c_same : C8.Cal P w K mg base 43 "_law_same" (spSameT K 42) []) : C8.Cal P w K mg base 50 "_law_plan_right" (spPR K Ts) [] := by
  refine C8.cal0 F b .nil sc__law_plan_right ?len ?body
  case len => rintro vs H Q E ⟨w, l, v, c, L, Ps, AL, BN, j, rfl, _⟩; rfl
  case body =>
    rintro cdv A outer s H vs Q E hr ⟨w, l, v, c, L, Ps, AL, BN, j, rfl, hW, hpd, hPl, hj, hT, q⟩
    refine ⟨_, (pss_cons (ps_set (i := 2) sc__law_plan_right.nd rfl (Or.inl rfl) (C8.pe_c c_pairs hr (by decide) rfl (pa_cons (pv 0) (pa_cons (pv 1) pa_nil))))
    (pss_cons (ps_set (i := 3) sc__law_plan_right.nd rfl (Or.inl rfl) (C8.pe_c c_tp hr (by decide) rfl (pa_cons (pv 1) (pa_cons (pv 2) pa_nil))))
    (pss_cons (ps_if (pt_not (pt_val (C8.pe_c c_same hr (by decide) rfl (pa_cons (pe_lst (pa_cons (C8.pe_c c_isp hr (by decide) rfl (pa_cons (pv 3) pa_nil)) (pa_cons (C8.pe_c c_read hr (by decide) rfl (pa_cons (C8.pe_c c_write hr (by decide) rfl (pa_cons (pv 3) pa_nil)) pa_nil)) pa_nil))) (pa_cons (pe_lst (pa_cons pe_bl (pa_cons (pv 3) pa_nil))) pa_nil))))) (pss_one (ps_ret pe_bl)) pss_nil)
    (pss_cons (ps_set (i := 4) sc__law_plan_right.nd rfl (Or.inl rfl) (C8.pe_c c_check hr (by decide) rfl (pa_cons (pv 1) pa_nil)))
    (C8.pss_cut (ps_if (pt_cmpR op_notN (pv 4) pe_non (nomark _)) (pss_one (ps_set (i := 4) sc__law_plan_right.nd rfl (Or.inl rfl) (pe_tup (pa_cons (pe_ix ix_tup (pv 4) pe_int (fun _ _ => rfl)) (pa_cons (pe_dget (hu_of hr) (pe_ix ix_list (pv 2) (pe_callTy call_int1 rfl B.int (by decide +kernel) (pa_cons (pe_or (pe_cmpR op_ne (pe_ix ix_tup (pv 4) pe_int (fun _ _ => rfl)) pe_str (nomark _)) (pe_one (pe_cmpR op_eq (UG.pe_lenSetS rfl B.len rfl B.set (pe_ix ix_tup (pv 1) pe_int (fun _ _ => rfl))) (pe_callB call_len_seq rfl B.len PySem.boot_len (pa_cons (pe_ix ix_tup (pv 1) pe_int (fun _ _ => rfl)) pa_nil)) (nomark _)))) pa_nil)) (fun _ _ => rfl)) (pe_ix ix_tup (pv 4) pe_int (fun _ _ => rfl)) (fun _ _ => rfl)) pa_nil))))) pss_nil)
    (pss_cons (ps_if (pt_not (pt_val (C8.pe_c c_same hr (by decide) rfl (pa_cons (C8.pe_c c_check hr (by decide) rfl (pa_cons (pv 3) pa_nil)) (pa_cons (pv 4) pa_nil))))) (pss_one (ps_ret pe_bl)) pss_nil)
    (pss_cons (ps_set (i := 5) sc__law_plan_right.nd rfl (Or.inl rfl) (pe_lst (pa_cons (pe_split (C8.pe_c c_write hr (by decide) rfl (pa_cons (pv 1) pa_nil)) pe_str) (pa_cons (pe_split (C8.pe_c c_write hr (by decide) rfl (pa_cons (pv 3) pa_nil)) pe_str) pa_nil))))
    (pss_cons (ps_set (i := 6) sc__law_plan_right.nd rfl (Or.inl rfl) (pe_lst (pa_cons pe_str (pa_cons pe_str (pa_cons pe_str (pa_cons pe_str (pa_cons pe_str (pa_cons pe_str (pa_cons pe_str (pa_cons pe_str (pa_cons pe_str (pa_cons pe_str (pa_cons pe_str (pa_cons pe_str (pa_cons pe_str (pa_cons pe_str pa_nil))))))))))))))))
    (pss_cons (ps_if (pt_cmpR op_ne (pe_callB call_len_seq rfl B.len PySem.boot_len (pa_cons (pe_ix ix_list (pv 5) pe_int (fun _ _ => rfl)) pa_nil)) (pe_callB call_len_seq rfl B.len PySem.boot_len (pa_cons (pe_ix ix_list (pv 5) pe_int (fun _ _ => rfl)) pa_nil)) (nomark _)) (pss_one (ps_ret pe_bl)) pss_nil)
    (pss_cons (ps_for PassesOwn.never rfl (pi_range1 rfl B.range (pa_cons (pe_callB call_len_seq rfl B.len PySem.boot_len (pa_cons (pe_ix ix_list (pv 5) pe_int (fun _ _ => rfl)) pa_nil)) pa_nil)) (pg_name (i := 7) sc__law_plan_right.nd rfl (Or.inl rfl))
    (pss_one (ps_if (PW.pt (pw_and (PW.pt (pw_or (pt_cmpR op_in_seq (pe_ix ix_list (pe_ix ix_list (pv 5) pe_int (fun _ _ => rfl)) (pv 7) (fun _ _ => rfl)) (pv 6) (by with_unfolding_all rfl)) (pw_or1 (pt_cmpR op_in_seq (pe_ix ix_list (pe_ix ix_list (pv 5) pe_int (fun _ _ => rfl)) (pv 7) (fun _ _ => rfl)) (pv 6) (by with_unfolding_all rfl))))) (pw_and1 (pt_cmpR op_ne (pe_ix ix_list (pe_ix ix_list (pv 5) pe_int (fun _ _ => rfl)) (pv 7) (fun _ _ => rfl)) (pe_ix ix_list (pe_ix ix_list (pv 5) pe_int (fun _ _ => rfl)) (pv 7) (fun _ _ => rfl)) (nomark _))))) (pss_one (ps_ret pe_bl)) pss_nil)))
    (pss_one (ps_ret pe_bl)))))))))))), ?_⟩
    have hP := hPl.prog hj
    have hlA := hPl.lenA
    have hlB := hPl.lenB
    refine ⟨_, rfl, _, rfl, w, l, v, c, L, Ps, AL, BN, rfl, hW, hpd, hP, by omega, by omega, fun H1 pr d0 d1 M0 M1 hpr hd0 hd1 kL kN kall n0 m0 v0 n1 m1 v1 kn0 kn1 hW1 k1 t1 => ?_⟩
    have G1 := WG.wl hT hW k1 t1
    have hpd1 := hpd.tk t1
    refine ⟨_, rfl, _, rfl, v, pr, d0, d1, L, Ps, AL, BN, M0, M1, rfl, hpd1, hP, hpr, hd0, hd1, kL, kN, kall, fun H2 tv s2 hpd2 => ?_⟩
    have G2 := G1.trans (WG.same G1.t s2)
    have hPt := prog_ren hP kL kN kall v0 v1
    have hpr2 := s2 _ _ hpr
    have hd02 := s2 _ _ hd0
    have hd12 := s2 _ _ hd1
    have hW2 := hW1.same s2
    -- what stands of the pairs at any heap further on
    have keep : ∀ {H'}, Go Ts H2 H' → H' pr = some (.lst [.ref d0, .ref d1]) ∧ H' d0 = some (.dK (DM M0)) ∧ H' d1 = some (.dK (DM M1)) ∧ Wl H' w l c ∧ PD K H' v L Ps ∧ PD K H' tv (renL M0 L) (renP M0 M1 Ps) := fun g => by
      have e := Go.ext G2.t g
      have t := Tk.go G2.t g
      exact ⟨e _ _ hpr2 (fun ps z => by cases z), e _ _ hd02 (fun ps z => by cases z), e _ _ hd12 (fun ps z => by cases z), wl_go hW2 G2.t g, (hpd1.tk (Tk.same s2)).tk t, hpd2.tk t⟩
    have also : ∀ {H' H''}, Go Ts H2 H' → Same H' H'' → Go Ts H2 H'' := fun g s => g.trans (Go.of_same g.1 s)
    have done : ∀ {H'}, Go Ts H2 H' → Q (.bl true) H' := fun g => q _ (keep g).2.2.2.1 (G2.trans (WG.go G2.t g))
    refine ⟨_, rfl, tv, _, _, _, _, rfl, hpd2, hPt, G2.t, fun H3 F3 => ?_⟩
    refine ⟨_, rfl, tv, _, _, _, _, rfl, (keep F3).2.2.2.2.2, hPt, F3.1, fun H4 g4 => ?_⟩
    have F4 := F3.trans g4
    refine ⟨_, _, _, _, rfl, hPt, F4.1, fun H5 rv g5 drv => ⟨(by show 2 ≤ sizeLine; decide), fun p1 hp1 => ?_⟩⟩
    have F5 := F4.trans g5
    refine ⟨_, rfl, (by show 2 ≤ sizeLine; decide), fun p2 hp2 => ?_⟩
    have s6 := same_new hp1 (.lst [V.bl true, rv])
    have s7 := same_new hp2 (.lst [V.bl true, tv])
    have np : p1 ≠ p2 := fun z => by rw [← z, upd_same] at hp2; cases hp2
    have F6 := also F5 (s6.trans s7)
    have D1 : Dp K (upd (upd H5 p1 (.lst [V.bl true, rv])) p2 (.lst [V.bl true, tv])) (.ref p1) (.list [.bool true, progD (renL M0 L) (renP M0 M1 Ps)]) := .lst (SqL.of (by rw [upd_ne np]; exact upd_same)) (.cons (.bl _) (.cons ((Tk.same (s6.trans s7)).dp _ (tup_prog _ _) drv) .nil))
    have D2 : Dp K (upd (upd H5 p1 (.lst [V.bl true, rv])) p2 (.lst [V.bl true, tv])) (.ref p2) (.list [.bool true, progD (renL M0 L) (renP M0 M1 Ps)]) := .lst (SqL.of upd_same) (.cons (.bl _) (.cons (keep F6).2.2.2.2.2 .nil))
    generalize upd (upd H5 p1 (.lst [V.bl true, rv])) p2 (.lst [V.bl true, tv]) = H6 at D1 D2 F6
    refine ⟨.ref p1, .ref p2, _, rfl, D1, D2, .inr (.inr (.inr (.inr (.inr ⟨_, rfl, by simp, fun e he => ?_⟩)))), fun H7 s8 => ⟨_, rfl, iteF ?_⟩⟩
    · simp only [List.mem_cons, List.not_mem_nil, or_false] at he
      rcases he with rfl | rfl
      · exact .inr (.inl rfl)
      · exact sd_prog hPt
    have F7 := also F6 s8
    refine ⟨_, rfl, v, L, Ps, AL, BN, rfl, (keep F7).2.2.2.2.1, hP, F7.1, fun H8 due g8 ddue => ?_⟩
    have F8 := F7.trans g8
    have i0 := fn_inj n0 m0 (L := M0.map Prod.fst) fun _ h => h
    have i1 := fn_inj n1 m1 (L := M1.map Prod.fst) fun _ h => h
    have three := chk_ren i0 i1 kL kN kall
    have csd : Sd 42 (chkD (renL M0 L) (renP M0 M1 Ps)) := chk_sd (by
      rcases three with ⟨x, _, _, _, e⟩ | ⟨w', n, _, _, _, e⟩ | ⟨_, e⟩
      · exact .inr ⟨_, _, e⟩
      · exact .inr ⟨_, _, e⟩
      · exact .inl e)
    refine name9 ?_
    refine ⟨fun σ' H' => ∃ due', σ' = [some (.ref w), some v, some (.ref pr), some tv, some due', none, none, none] ∧ Dp K H' due' (chkD (renL M0 L) (renP M0 M1 Ps)) ∧ Go Ts H2 H', ?_, ?_⟩
    · rcases three with ⟨x, hxL, nd, e1, e2⟩ | ⟨wd, n, hnN, hnd, e1, e2⟩ | ⟨e1, e2⟩
      · rw [e1] at ddue
        obtain ⟨da, dxs, rfl, hda, hdd, hdl⟩ := len_ok ddue
        cases hdd with
        | cons h0 hdd =>
        cases h0
        cases hdd with
        | cons h0 hdd =>
        cases h0
        cases hdd
        obtain ⟨f1, f2, f3, _, f5, _⟩ := keep F8
        obtain ⟨pa, la, pv', rfl, hps0, hla, _⟩ := f5.open
        refine ⟨_, rfl, rfl, _, rfl, ?_⟩
        refine iteT ⟨_, rfl, _, _, _, _, rfl, rfl, hda, at0 _ _, _, rfl, _, rfl, _, _, _, _, rfl, rfl, hda, at0 _ _, rfl, _, rfl, ?_⟩
        rw [dec_str]
        refine ifF (by decide +kernel) ?_
        refine ⟨_, rfl, _, _, _, _, rfl, rfl, hps0, at0 _ _, la, L, rfl, hla, by have := hP.l2; omega, fun cc hcc => ?_⟩
        refine ⟨_, rfl, _, _, _, _, rfl, rfl, hps0, at0 _ _, la, _, rfl, .inr hla, rfl, ?_⟩
        have ncc : decide (V.int ((cc : Nat) : Int) = V.int (((L.map V.str).length : Nat) : Int)) = false := by
          rw [dec_int, List.length_map]
          refine decide_eq_false fun z => nd (hcc.mp (by omega))
        rw [ncc]
        refine .inr ⟨false, rfl, pr, _, _, _, rfl, rfl, SqL.of f1, at0 _ _, _, rfl, _, _, _, _, rfl, rfl, hda, at1 _ _ _, d0, _, rfl, dget_fn f2 (kL x hxL), (by show 2 ≤ sizeLine; decide), fun z hz => ?_⟩
        have sz := same_new hz (.tup [.str "letter", .str (fn M0 x)])
        exact ⟨_, rfl, by rw [e2]; exact .tup (SqT.of upd_same) (.cons (.str _) (.cons (.str _) .nil)), also F8 sz⟩
      · rw [e1] at ddue
        obtain ⟨da, dxs, rfl, hda, hdd, hdl⟩ := len_ok ddue
        cases hdd with
        | cons h0 hdd =>
        cases h0
        cases hdd with
        | cons h0 hdd =>
        cases h0
        cases hdd
        obtain ⟨f1, f2, f3, _, f5, _⟩ := keep F8
        obtain ⟨pa, la, pv', rfl, hps0, hla, _⟩ := f5.open
        refine ⟨_, rfl, rfl, _, rfl, ?_⟩
        refine iteT ⟨_, rfl, _, _, _, _, rfl, rfl, hda, at0 _ _, _, rfl, _, rfl, _, _, _, _, rfl, rfl, hda, at0 _ _, rfl, _, rfl, ?_⟩
        rw [dec_str]
        by_cases hlt : wd = "letter"
        · refine ifF (by simpa using hlt) ?_
          refine ⟨_, rfl, _, _, _, _, rfl, rfl, hps0, at0 _ _, la, L, rfl, hla, by have := hP.l2; omega, fun cc hcc => ?_⟩
          refine ⟨_, rfl, _, _, _, _, rfl, rfl, hps0, at0 _ _, la, _, rfl, .inr hla, rfl, ?_⟩
          have ncc : decide (V.int ((cc : Nat) : Int) = V.int (((L.map V.str).length : Nat) : Int)) = true := by
            rw [dec_int, List.length_map, hcc.mpr (hnd hlt)]
            exact decide_eq_true rfl
          rw [ncc]
          refine .inr ⟨true, rfl, pr, _, _, _, rfl, rfl, SqL.of f1, at1 _ _ _, _, rfl, _, _, _, _, rfl, rfl, hda, at1 _ _ _, d1, _, rfl, dget_fn f3 (kN n hnN), (by show 2 ≤ sizeLine; decide), fun z hz => ?_⟩
          have sz := same_new hz (.tup [.str wd, .str (fn M1 n)])
          exact ⟨_, rfl, by rw [e2]; exact .tup (SqT.of upd_same) (.cons (.str _) (.cons (.str _) .nil)), also F8 sz⟩
        · refine ifT (by simpa using hlt) ?_
          refine .inr ⟨true, rfl, pr, _, _, _, rfl, rfl, SqL.of f1, at1 _ _ _, _, rfl, _, _, _, _, rfl, rfl, hda, at1 _ _ _, d1, _, rfl, dget_fn f3 (kN n hnN), (by show 2 ≤ sizeLine; decide), fun z hz => ?_⟩
          have sz := same_new hz (.tup [.str wd, .str (fn M1 n)])
          exact ⟨_, rfl, by rw [e2]; exact .tup (SqT.of upd_same) (.cons (.str _) (.cons (.str _) .nil)), also F8 sz⟩
      · rw [e1] at ddue
        cases ddue
        refine ⟨_, rfl, rfl, _, rfl, ?_⟩
        exact iteF ⟨_, rfl, by rw [e2]; exact .non, F8⟩
    · rintro _ H9 ⟨due', rfl, ddue', F9⟩
      refine ⟨_, rfl, tv, _, _, _, _, rfl, (keep F9).2.2.2.2.2, hPt, F9.1, fun H10 fv g10 dfv => ?_⟩
      have F10 := F9.trans g10
      have ctd : TupD (chkD (renL M0 L) (renP M0 M1 Ps)) := by
        rcases three with ⟨x, _, _, _, e⟩ | ⟨w', n, _, _, _, e⟩ | ⟨_, e⟩
        · rw [e]; exact ⟨trivial, trivial, trivial⟩
        · rw [e]; exact ⟨trivial, trivial, trivial⟩
        · rw [e]; exact trivial
      refine ⟨_, rfl, fv, due', _, rfl, dfv, (Tk.go F9.1 g10).dp _ ctd ddue', csd, fun H11 s11 => ⟨_, rfl, iteF ?_⟩⟩
      have F11 := also F10 s11
      have spl : ∀ {L' : List Str} {P' : List (Str × List St)} {A' B' : List Str}, Prog L' P' A' B' → Txt.split (textOf L' P') " " = ptk L' P' := fun {L' P' A' B'} hh => by
        have := TL.split_join (y := " ") (s := 32) (S := []) rfl (by decide +kernel) (parts := ptk L' P') (by rw [ptk_eq]; simp) (ptk_all wd_32 hh)
        rw [TL.join_eq] at this
        exact this
      have szT : ∀ {L' : List Str} {P' : List (Str × List St)} {A' B' : List Str}, Prog L' P' A' B' → (textOf L' P').length + 2 ≤ sizeLine := fun hh => Nat.le_trans (show _ ≤ 100002 by have := (text_len hh).1; omega) (by decide)
      refine ⟨_, rfl, v, L, Ps, AL, BN, rfl, (keep F11).2.2.2.2.1, hP, F11.1, fun H12 g12 => ⟨⟨_, rfl⟩, _, _, rfl, rfl, by decide, szT hP, fun q1 hq1 => ?_⟩⟩
      rw [spl hP]
      have F12 := F11.trans g12
      have sq1 := same_new hq1 (.lst ((ptk L Ps).map V.str))
      have F13 := also F12 sq1
      have q1a : upd H12 q1 (.lst ((ptk L Ps).map V.str)) q1 = some (.lst ((ptk L Ps).map V.str)) := upd_same
      generalize upd H12 q1 (.lst ((ptk L Ps).map V.str)) = H13 at F13 q1a
      refine ⟨_, rfl, tv, _, _, _, _, rfl, (keep F13).2.2.2.2.2, hPt, F13.1, fun H14 g14 => ⟨⟨_, rfl⟩, _, _, rfl, rfl, by decide, szT hPt, fun q2 hq2 => ?_⟩⟩
      rw [spl hPt]
      have F14 := F13.trans g14
      have q1b := Go.ext F13.1 g14 _ _ q1a (fun ps z => by cases z)
      have sq2 := same_new hq2 (.lst ((ptk (renL M0 L) (renP M0 M1 Ps)).map V.str))
      have F15 := also F14 sq2
      have q1c := sq2 _ _ q1b
      have q2c : upd H14 q2 (.lst ((ptk (renL M0 L) (renP M0 M1 Ps)).map V.str)) q2 = some (.lst ((ptk (renL M0 L) (renP M0 M1 Ps)).map V.str)) := upd_same
      generalize upd H14 q2 (.lst ((ptk (renL M0 L) (renP M0 M1 Ps)).map V.str)) = H15 at F15 q1c q2c
      refine ⟨(by show 2 ≤ sizeLine; decide), fun q3 hq3 => ?_⟩
      have sq3 := same_new hq3 (.lst [V.ref q1, V.ref q2])
      have F16 := also F15 sq3
      have q1d := sq3 _ _ q1c
      have q2d := sq3 _ _ q2c
      have q3d : upd H15 q3 (.lst [V.ref q1, V.ref q2]) q3 = some (.lst [V.ref q1, V.ref q2]) := upd_same
      generalize upd H15 q3 (.lst [V.ref q1, V.ref q2]) = H16 at F16 q1d q2d q3d
      refine ⟨(by show 14 ≤ sizeLine; decide), fun q4 hq4 => ?_⟩
      have sq4 := same_new hq4 (.lst (plainW.map V.str))
      have F17 := also F16 sq4
      have q1e := sq4 _ _ q1d
      have q2e := sq4 _ _ q2d
      have q3e := sq4 _ _ q3d
      have q4e : upd H16 q4 (.lst (plainW.map V.str)) q4 = some (.lst (plainW.map V.str)) := upd_same
      show (fun H17 => _) (upd H16 q4 (.lst (plainW.map V.str)))
      generalize upd H16 q4 (.lst (plainW.map V.str)) = H17 at F17 q1e q2e q3e q4e
      have pw := ptk_pw hP kL kN kall kn0 kn1 v0 v1
      have plen := pw.len
      have pl4 := (text_len hP).2
      generalize hxs : ptk L Ps = xs at pw plen pl4 q1e
      generalize hys : ptk (renL M0 L) (renP M0 M1 Ps) = ys at pw plen q2e
      refine ⟨_, rfl, _, _, _, _, rfl, rfl, SqL.of q3e, at0 _ _, q1, _, rfl, .inl (SqL.of q1e), _, rfl, _, _, _, _, rfl, rfl, SqL.of q3e, at1 _ _ _, q2, _, rfl, .inl (SqL.of q2e), rfl, _, rfl, ?_⟩
      rw [dec_int, List.length_map, List.length_map, plen, decide_eq_true rfl]
      refine iteF ?_
      refine ⟨_, rfl, _, _, _, _, rfl, rfl, SqL.of q3e, at0 _ _, q1, _, rfl, .inl (SqL.of q1e), _, rfl, by omega, by rw [List.length_map]; omega, ?_⟩
      rw [Int.toNat_natCast, List.length_map]
      refine for_range (lo := 0) (n := xs.length) (fun i σ H' => ∃ b7, σ = [some (.ref w), some v, some (.ref pr), some tv, some due', some (.ref q3), some (.ref q4), b7] ∧ H' = H17) ⟨none, rfl, rfl⟩ ?_ ?_
      · rintro i _ _ hi ⟨b7, rfl, rfl⟩
        rename Hp => H17
        have ha := List.getElem?_eq_getElem (l := xs) (i := i) (by omega)
        have hb := List.getElem?_eq_getElem (l := ys) (i := i) (by omega)
        generalize xs[i] = a at ha
        generalize ys[i] = b at hb
        have ei : (0 : Int) + (i : Nat) = ((i : Nat) : Int) := by omega
        have ia : atI (xs.map V.str) ((0 : Int) + (i : Nat)) = some (.str a) := by rw [ei]; exact atI_nat (by rw [List.getElem?_map, ha]; rfl)
        have ib : atI (ys.map V.str) ((0 : Int) + (i : Nat)) = some (.str b) := by rw [ei]; exact atI_nat (by rw [List.getElem?_map, hb]; rfl)
        refine name9 ?_
        refine ⟨_, rfl, _, _, _, _, rfl, rfl, SqL.of q3e, at0 _ _, _, rfl, _, _, _, _, rfl, rfl, SqL.of q1e, ia, _, rfl, q4, _, rfl, .inl (SqL.of q4e), rfl, flat_strs _, _, rfl, ?_⟩
        show if inV (.str a) (plainW.map V.str) = true then _ else _
        rw [inV_strs]
        -- the last comparison
        have neq : a = b → (!decide (V.str a = V.str b)) = false := fun e => by rw [e]; simp
        rcases pw.get ha hb with e | ⟨na, nb⟩
        · by_cases hp : a ∈ plainW
          · rw [decide_eq_true hp]
            refine iteT ⟨_, rfl, _, _, _, _, rfl, rfl, SqL.of q3e, at0 _ _, _, rfl, _, _, _, _, rfl, rfl, SqL.of q1e, ia, _, rfl, _, _, _, _, rfl, rfl, SqL.of q3e, at1 _ _ _, _, rfl, _, _, _, _, rfl, rfl, SqL.of q2e, ib, rfl, _, rfl, ?_⟩
            rw [neq e]
            exact iteF ⟨_, rfl, rfl⟩
          · rw [decide_eq_false hp]
            refine iteF ⟨_, rfl, _, _, _, _, rfl, rfl, SqL.of q3e, at1 _ _ _, _, rfl, _, _, _, _, rfl, rfl, SqL.of q2e, ib, _, rfl, q4, _, rfl, .inl (SqL.of q4e), rfl, flat_strs _, _, rfl, ?_⟩
            show if inV (.str b) (plainW.map V.str) = true then _ else _
            rw [inV_strs, decide_eq_false (by rw [← e]; exact hp)]
            exact iteF (iteF ⟨_, rfl, rfl⟩)
        · rw [decide_eq_false (nm_plain na)]
          refine iteF ⟨_, rfl, _, _, _, _, rfl, rfl, SqL.of q3e, at1 _ _ _, _, rfl, _, _, _, _, rfl, rfl, SqL.of q2e, ib, _, rfl, q4, _, rfl, .inl (SqL.of q4e), rfl, flat_strs _, _, rfl, ?_⟩
          show if inV (.str b) (plainW.map V.str) = true then _ else _
          rw [inV_strs, decide_eq_false (nm_plain nb)]
          exact iteF (iteF ⟨_, rfl, rfl⟩)
      · rintro σ H' ⟨b7, rfl, rfl⟩
        exact done F17
end
end K06


set_option Elab.async false
set_option linter.all false
set_option maxRecDepth 100000
set_option maxHeartbeats 8000000
namespace K06
open PySem PySem.Spec PyProof.Rows L2
section
variable {P : Program} {w : World} {K : PySem.W.Frag} {mg : Str → Option Value} {base : Heap}
theorem call_own {x : Str} {st : Stmt} {f : Addr} {fd : FuncData} {N : List Str} {p : Str} {k : Nat} {s : Shared} {H : Hp} {u : Value} {v : V} {Q : VK} (F : C8.Fun K x x st f fd) (S : FnScope N [p] (C8.fnScope st)) (room : Room (k + 1) callerA)
    (E0 : Env0 P w K mg base callerA [] s H) (bnd : BindsTo s fd ⟨[u], []⟩ [(p, u)]) (rel : RelV v u)
    (own : ∀ cdv : Value, Room k (callerA.deeper (envOfC x (C8.fnScope st) s.heap.objs.size f cdv)) →
      ∃ t, PSs (cxOf C8.CX0 P w K mg base N x (C8.fnScope st) f cdv callerA [] s H C8.E0).nox (C8.fnBody st) t ∧ t { nx := fun _ H' => Q .non H', rt := Q } (start N [v]) H) :
    codeAny (model P w) callerA (.call (.ref f) ⟨[u], []⟩) (CR C8.CX0 [] P w H s Q C8.E0) s := by
  obtain ⟨oc, od, dV, kV, doc, pm, an, cdv, ct, osl, rfl, look, code⟩ := F.ex
  have inK : K.In s.heap := E0.mod.kin.keeps (fun b o e => (E0.bs b o e).1)
  have free : s.heap.NoLimit := E0.mod.nolimit.keeps (fun b o e => (E0.bs b o e).1)
  refine codeAny_call_function room.depth (inK _ _ look) rfl S.co S.gen rfl (PySem.W.codeRec_of inK code) (bnd _ _ _ _ ?_)
  refine wpAny_newFunctionEnv_cells S.kind ?_ ?_
  · intro y hy
    cases List.mem_singleton.mp hy
    exact (S.par p (by simp)).imp id fun q => ⟨q, PySem.W.cellsFrom_some _ _ _ (.inl q)⟩
  intro env he s1 came
  subst he
  obtain ⟨t, ht, hq⟩ := own cdv (room.deeper _)
  refine ⟨free.keeps came.toInCall.keep, codeAny_func ?_⟩
  have I1 : Inv (cxOf C8.CX0 P w K mg base N x (C8.fnScope st) f cdv callerA [] s H C8.E0) [] (start N [v]) H s1 := inv_start (us := [u]) S room.hd E0 rfl (.cons rel .nil) came
  refine wpAny_mono (ht.nox.run [] s1 (start N [v]) H _ I1 hq) (fun fl s' ended => ?_) (fun e s' z => z)
  match fl, ended with
  | .ret _, ⟨v', σ', H', J, rv, q⟩ => exact ⟨v', H', J.os, J.bare, J.base, J.hok, rv, q⟩
  | .next, ⟨σ', H', J, q⟩ => exact ⟨.non, H', J.os, J.bare, J.base, J.hok, rfl, q⟩
  | .brk, ⟨_, _, _, q⟩ => exact q.elim
  | .cont, ⟨_, _, _, q⟩ => exact q.elim

theorem sc_law : FnScope ["script", "well", "turn", "plan", "spoilt", "some"] ["script"] (C8.fnScope (topS 56)) := C8.fnScope_by (by decide +kernel)
def XX : Nat := CP + 10000
theorem ok_law {f : Addr} {fd : FuncData} (F : C8.Fun K "law" "law" (topS 56) f fd) (B : Bl K mg) {Ts : List Addr} (c_well : C8.Cal P w K mg base 1 "_law_well" (spWell K) []) (c_plan : C8.Cal P w K mg base 20 "_law_plan" (spPlan K) []) (c_sp : C8.Cal P w K mg base 26 "_law_spoilt" (spSpoil K) []) (c_pr : C8.Cal P w K mg base 50 "_law_plan_right" (spPR K Ts) [])
    {s : Shared} {H : Hp} {x : Addr} {ns : List Int} (hln : ns.length ≤ 1000) (E0 : Env0 P w K mg base callerA [] s H) (bnd : BindsTo s fd ⟨[.ref x], []⟩ [("script", .ref x)]) (hx : SqL K H x (ns.map V.int)) (hT : Tbs Ts H) :
    codeAny (model P w) callerA (.call (.ref f) ⟨[.ref x], []⟩) (CR C8.CX0 [] P w H s (fun v _ => v = .bl true) C8.E0) s := by
  refine call_own (k := 51) (v := .ref x) F sc_law ⟨rfl, by decide +kernel, by decide +kernel⟩ E0 bnd rfl fun cdv hr => ?_
  refine ⟨_, (pss_cons (ps_set (i := 1) sc_law.nd rfl (Or.inl rfl) (C8.pe_c c_well hr (by decide) rfl (pa_cons (pv 0) pa_nil)))
    (pss_cons (ps_for PassesOwn.never rfl (pi_range1 rfl B.range (pa_cons pe_int pa_nil)) (pg_name (i := 2) sc_law.nd rfl (Or.inl rfl))
    (pss_cons (ps_set (i := 3) sc_law.nd rfl (Or.inl rfl) (C8.pe_c c_plan hr (by decide) rfl (pa_cons (pv 1) (pa_cons (pe_ix ix_list (pe_lst (pa_cons pe_int (pa_cons pe_int (pa_cons pe_int (pa_cons pe_int pa_nil))))) (pv 2) (fun _ _ => rfl)) pa_nil))))
    (pss_cons (ps_set (i := 4) sc_law.nd rfl (Or.inl rfl) (C8.pe_c c_sp hr (by decide) rfl (pa_cons (pv 1) (pa_cons (pv 3) pa_nil))))
    (pss_one (ps_for PassesOwn.never rfl (pi_list (pe_lst (pa_cons (pv 3) (pa_cons (pv 4) (pa_cons (C8.pe_c c_sp hr (by decide) rfl (pa_cons (pv 1) (pa_cons (pv 4) pa_nil))) (pa_cons (C8.pe_c c_sp hr (by decide) rfl (pa_cons (pv 1) (pa_cons (pv 3) pa_nil))) pa_nil)))))) (pg_name (i := 5) sc_law.nd rfl (Or.inl rfl))
    (pss_one (ps_if (pt_not (pt_val (C8.pe_c c_pr hr (by decide) rfl (pa_cons (pv 1) (pa_cons (pv 5) pa_nil))))) (pss_one (ps_ret pe_bl)) pss_nil)))))))
    (pss_one (ps_ret pe_bl)))), ?_⟩
  refine ⟨_, rfl, x, ns, rfl, hx, hln, fun H1 w l s1 hw0 hl0 hW1 => ?_⟩
  have hT1 := hT.same s1
  refine ⟨4, rfl, by decide, by decide, ?_⟩
  refine for_range (lo := 0) (n := 4) (fun i σ H' => (∃ b2 b3 b4 b5, σ = [some (.ref x), some (.ref w), b2, b3, b4, b5]) ∧ Wl H' w l ((4 - i) * XX) ∧ Tbs Ts H') ⟨⟨_, _, _, _, rfl⟩, hW1.le (by unfold XX CP; decide +kernel), hT1⟩ ?_ ?_
  · rintro i _ H2 hi ⟨⟨b2, b3, b4, b5, rfl⟩, hW2, hT2⟩
    have hc : (4 - i) * XX = (4 - (i + 1)) * XX + XX := by
      rw [show 4 - i = (4 - (i + 1)) + 1 by omega]
      exact Nat.succ_mul _ _
    generalize hc0 : (4 - (i + 1)) * XX = c0 at hc
    rw [hc] at hW2
    unfold XX at hW2
    obtain ⟨size, hsz, hat⟩ : ∃ size : Nat, size ≤ 190 ∧ atI (([8, 30, 60, 190] : List Int).map V.int) ((0 : Int) + (i : Nat)) = some (.int (size : Int)) := by
      have : i = 0 ∨ i = 1 ∨ i = 2 ∨ i = 3 := by omega
      rcases this with rfl | rfl | rfl | rfl
      · exact ⟨8, by decide, rfl⟩
      · exact ⟨30, by decide, rfl⟩
      · exact ⟨60, by decide, rfl⟩
      · exact ⟨190, by decide, rfl⟩
    refine name9 ?_
    refine ⟨_, rfl, (by show 4 ≤ sizeLine; decide), fun dl hdl => ⟨_, rfl, dl, ([8, 30, 60, 190] : List Int).map V.int, _, .int (size : Int), rfl, rfl, SqL.of upd_same, hat, ?_⟩⟩
    have sd := same_new hdl (.lst [.int 8, .int 30, .int 60, .int 190])
    refine ⟨w, l, c0 + 10000, size, rfl, (hW2.same sd).le (by omega), hsz, fun H3 v L Ps hpd hP hW3 k3 t3 => ?_⟩
    have hT3 := tbs_wl (hT2.same sd) (hW2.same sd) k3
    generalize upd H2 dl (.lst [.int 8, .int 30, .int 60, .int 190]) = H2' at sd k3 t3
    refine name9 ?_
    refine ⟨_, rfl, _, rfl, w, l, v, c0 + 9900, L, Ps, _, _, 0, rfl, hW3.le (by omega), hpd, hP, by decide, fun H4 v4 L4 P4 A4 B4 hpd4 hP4 hW4 k4 t4 => ?_⟩
    have hT4 := tbs_wl hT3 hW3 k4
    refine name9 ?_
    refine ⟨_, rfl, _, rfl, _, rfl, _, rfl, w, l, v4, c0 + 9800, L4, P4, A4, B4, 1, rfl, hW4.le (by omega), hpd4, hP4, by decide, fun H5 v5 L5 P5 A5 B5 hpd5 hP5 hW5 k5 t5 => ?_⟩
    have hT5 := tbs_wl hT4 hW4 k5
    refine ⟨_, rfl, _, rfl, w, l, v, c0 + 9700, L, Ps, _, _, 0, rfl, hW5.le (by omega), (hpd.tk t4).tk t5, hP, by decide, fun H6 v6 L6 P6 A6 B6 hpd6 hP6 hW6 k6 t6 => ⟨(by show 4 ≤ sizeLine; decide), fun D hD => ?_⟩⟩
    have hT6 := tbs_wl hT5 hW5 k6
    have nD := hW6.out hD
    have sD := same_new hD (.lst [v, v4, v5, v6])
    have hDD : upd H6 D (.lst [v, v4, v5, v6]) D = some (.lst [v, v4, v5, v6]) := upd_same
    have all : ∀ y ∈ [v, v4, v5, v6], ∃ L' P' A' B' j, PD K (upd H6 D (.lst [v, v4, v5, v6])) y L' P' ∧ Plan L' P' A' B' j ∧ j ≤ 2 := by
      have tD := Tk.same sD
      intro y hy
      simp only [List.mem_cons, List.not_mem_nil, or_false] at hy
      rcases hy with rfl | rfl | rfl | rfl
      · exact ⟨_, _, _, _, 0, ((hpd.tk t4).tk (t5.trans (t6.trans tD))), hP, by decide⟩
      · exact ⟨_, _, _, _, 1, (hpd4.tk (t5.trans (t6.trans tD))), hP4, by decide⟩
      · exact ⟨_, _, _, _, 2, (hpd5.tk (t6.trans tD)), hP5, by decide⟩
      · exact ⟨_, _, _, _, 1, hpd6.tk tD, hP6, by decide⟩
    have hW7 := hW6.same sD
    have hT7 := hT6.same sD
    generalize upd H6 D (.lst [v, v4, v5, v6]) = H7 at hDD all hW7 hT7
    have nD2 := wg_out hT7 hW7 hDD (fun z => nD (by rw [z]; simp)) (fun z => nD (by rw [z]; simp))
    refine ⟨D, rfl, ⟨_, SqL.of hDD⟩, ?_⟩
    refine for_list (xs := [v, v4, v5, v6]) (fun j σ H' => ∃ b5, σ = [some (.ref x), some (.ref w), some (.int ((0 : Int) + (i : Nat))), some v, some v4, b5] ∧ Wl H' w l (c0 + (4 - j) * 2400) ∧ WG Ts w l H7 H') ⟨_, rfl, hW7.le (by omega), ⟨hT7, Kp.refl _, Tk.refl _⟩⟩ ?_ ?_ ?_
    · rintro j σ H' _ ⟨_, _, _, g⟩
      exact SqL.of (g.k _ _ nD2 hDD)
    · rintro j y _ H8 hy ⟨b5, rfl, hW8, g8⟩
      have hj : j < 4 := (List.getElem?_eq_some_iff.mp hy).1
      obtain ⟨L', P', A', B', j', a1, a2, a3⟩ := all y (List.mem_of_getElem? hy)
      refine name9 ?_
      refine ⟨_, rfl, _, rfl, w, l, y, c0 + (4 - (j + 1)) * 2400, L', P', A', B', j', rfl, hW8.le (by omega), a1.tk g8.tk, a2, a3, g8.t, fun H9 hW9 g9 => ⟨_, rfl, iteF ?_⟩⟩
      exact ⟨_, rfl, hW9, g8.trans g9⟩
    · rintro σ H8 ⟨b5, rfl, hW8, g8⟩
      exact ⟨⟨_, _, _, _, rfl⟩, hW8.le (by show c0 ≤ c0 + (4 - 4) * 2400; omega), g8.t⟩
  · rintro σ H2 ⟨⟨b2, b3, b4, b5, rfl⟩, hW2, hT2⟩
    rfl
end
end K06


set_option Elab.async false
set_option linter.all false
set_option maxRecDepth 100000
set_option maxHeartbeats 8000000
namespace K06
open PySem PySem.Spec PyProof.Rows L2
/-! ### the end, where the law's own body stands under no guard -/
section
variable {P : Program} {w : World} {K : PySem.W.Frag} {mg mb : Str → Option Value} {fa a : Addr} {cs : List (Addr × Addr)} {s₁ : Shared} {vs : List Value} {ns : List Int}
/-- what is tracked at the call: the script and the tables, or the tables alone -/
structure Few0 (P : Program) (w : World) (K : PySem.W.Frag) (a : Addr) (cs : List (Addr × Addr)) (ns : List Int) (h : Heap) (H : Hp) : Prop where
  tb : ∀ p ∈ cs, H p.2 = some (.tbl #[])
  sq : SqL K H a (ns.map V.int)
  hok : HOk P w H h
  only : ∀ b o, H b = some o → (b ∈ cs.map (·.2) ∧ o = .tbl #[]) ∨ (b = a ∧ b ∉ cs.map (·.2) ∧ ∃ u, o = .frz u (.lst (ns.map V.int)))
  noK : ∀ b, H b ≠ none → K.lookup b = none
theorem few_is (KX : K.In s₁.heap) (hT : ∀ p ∈ cs, s₁.heap.get? p.2 = some { cls := .none, data := .fields #[] }) (nT : ∀ p ∈ cs, K.lookup p.2 = none)
    (ha : s₁.heap.get? a = some { cls := .type "list", data := .seq vs.toArray }) (hi : IntsAre vs ns) (hl : ns.length ≤ sizeLine) : ∃ H : Hp, Few0 P w K a cs ns s₁.heap H := by
  have rv := vals_ints hi
  have tabAt : ∀ b, b ∈ cs.map (·.2) → s₁.heap.get? b = some { cls := .none, data := .fields #[] } := by
    intro b hb
    obtain ⟨p, hp, rfl⟩ := List.mem_map.mp hb
    exact hT p hp
  have apart : a ∉ cs.map (·.2) := by
    intro hb
    have two := (tabAt a hb).symm.trans ha
    cases two
  have memP : ∀ p ∈ cs, p.2 ∈ cs.map (·.2) := fun p hp => List.mem_map.mpr ⟨p, hp, rfl⟩
  let Tt : Hp := fun b => if b ∈ cs.map (·.2) then some (.tbl #[]) else none
  have ttIn : ∀ b, b ∈ cs.map (·.2) → Tt b = some (.tbl #[]) := fun b hb => if_pos hb
  have ttOut : ∀ b, b ∉ cs.map (·.2) → Tt b = none := fun b hb => if_neg hb
  cases hk : K.lookup a with
  | some o =>
    have ho := (KX a o hk).symm.trans ha
    cases ho
    refine ⟨Tt, fun p hp => ttIn _ (memP p hp), .inr ⟨_, vs.toArray, _, hk, rfl, rfl, rfl, ?_, by simpa using rv⟩, fun b u e => ?_, fun b u e => ?_, fun b nb => ?_⟩
    · rw [List.size_toArray, hi.length]
      exact hl
    all_goals by_cases hb : b ∈ cs.map (·.2)
    · rw [ttIn b hb] at e; cases e; exact tabAt b hb
    · rw [ttOut b hb] at e; cases e
    · rw [ttIn b hb] at e; cases e; exact .inl ⟨hb, rfl⟩
    · rw [ttOut b hb] at e; cases e
    · obtain ⟨p, hp, rfl⟩ := List.mem_map.mp hb
      exact nT p hp
    · exact absurd (ttOut b hb) nb
  | none =>
    let ob : Obj := { cls := .type "list", data := .seq vs.toArray }
    have hne : ∀ b, b ∈ cs.map (·.2) → b ≠ a := fun b hb z => apart (z ▸ hb)
    let Ht : Hp := fun b => if b = a then some (.frz ob (.lst (ns.map V.int))) else Tt b
    have atA : Ht a = some (.frz ob (.lst (ns.map V.int))) := if_pos rfl
    have off : ∀ b, b ≠ a → Ht b = Tt b := fun b hb => if_neg hb
    refine ⟨Ht, fun p hp => (off _ (hne _ (memP p hp))).trans (ttIn _ (memP p hp)), .inl (.inr ⟨ob, atA⟩), fun b u e => ?_, fun b u e => ?_, fun b nb => ?_⟩
    all_goals by_cases hba : b = a
    · subst hba
      rw [atA] at e; cases e
      exact ⟨ha, by rw [List.length_map]; exact hl, vs, _, rv, ha⟩
    · rw [off b hba] at e
      by_cases hb : b ∈ cs.map (·.2)
      · rw [ttIn b hb] at e; cases e; exact tabAt b hb
      · rw [ttOut b hb] at e; cases e
    · subst hba
      rw [atA] at e; cases e
      exact .inr ⟨rfl, apart, ob, rfl⟩
    · rw [off b hba] at e
      by_cases hb : b ∈ cs.map (·.2)
      · rw [ttIn b hb] at e; cases e; exact .inl ⟨hb, rfl⟩
      · rw [ttOut b hb] at e; cases e
    · subst hba; exact hk
    · rw [off b hba] at nb
      by_cases hb : b ∈ cs.map (·.2)
      · obtain ⟨p, hp, rfl⟩ := List.mem_map.mp hb
        exact nT p hp
      · exact absurd (ttOut b hb) nb
/-- what the call needs around it -/
theorem env_few {H : Hp} (X : Few0 P w K a cs ns s₁.heap H) (KX : K.In s₁.heap) (hns : s₁.heap.Ns mainGlobals mg) (hb : s₁.heap.Ns builtinsNs mb) (hbb : ∀ x : Str, x ≠ "__name__" → mb x = bootBuiltins x) (hlim : s₁.heap.NoLimit) (hg : s₁.gens = #[])
    (ha : s₁.heap.get? a = some { cls := .type "list", data := .seq vs.toArray }) (hT : ∀ p ∈ cs, s₁.heap.get? p.2 = some { cls := .none, data := .fields #[] }) (C : ∀ p ∈ cs, PySem.W.CodeHd s₁.heap p.1 p.2)
    (hbm : ∃ (bm : Addr) (ob : Obj), mg "__builtins__" = some (.ref bm) ∧ bm ≠ builtinsNs ∧ s₁.heap.get? bm = some ob ∧ ob.cls = .type "module" ∧ ob.dict = some builtinsNs ∧ ob.data = .plain) :
    K.In (hidT s₁.heap H) ∧ (hidT s₁.heap H).Ns mainGlobals mg ∧ (∀ p ∈ cs, LamX.TabB (hidT s₁.heap H) mg p.1 p.2) ∧ Env0 P w K mg (hidT s₁.heap H) callerA [] s₁ H := by
  have stays : ∀ {b : Addr} {o : Obj}, s₁.heap.get? b = some o → H b = none → (hidT s₁.heap H).get? b = some o := fun h n => hidT_get h n
  -- neither the script's kind nor a table's
  have free : ∀ {b : Addr} {o : Obj}, s₁.heap.get? b = some o → (∀ xs n, o.data ≠ .seq xs n) → o.data ≠ .fields #[] → H b = none := by
    intro b o h h1 h2
    cases e : H b with
    | none => rfl
    | some u =>
      exfalso
      rcases X.only b u e with ⟨hm, _⟩ | ⟨rfl, _, _⟩
      · obtain ⟨p, hp, rfl⟩ := List.mem_map.mp hm
        rw [hT p hp] at h; cases h
        exact h2 rfl
      · rw [ha] at h; cases h
        exact h1 _ _ rfl
  have nsKept : ∀ {b : Addr} {m : Str → Option Value}, s₁.heap.Ns b m → (hidT s₁.heap H).Ns b m := by
    rintro b m ⟨o, es, ep, h, hd, r⟩
    exact ⟨o, es, ep, stays h (free h (fun xs n z => by rw [hd] at z; cases z) (fun z => by rw [hd] at z; cases z)), hd, r⟩
  have hK : K.In (hidT s₁.heap H) := by
    intro b o h
    refine stays (KX b o h) ?_
    cases e : H b with
    | none => rfl
    | some u => exact absurd (X.noK b (by rw [e]; intro z; cases z)) (by rw [h]; intro z; cases z)
  obtain ⟨mc, l1, l2⟩ := hlim
  refine ⟨hK, nsKept hns, fun p hp => ⟨?_, ?_, fun z => ?_⟩, ⟨rfl, ⟨hK, nsKept hns, ⟨mb, nsKept hb, hbb⟩, mc, nsKept l1, l2⟩, fun b o h => of_hidT h, Nat.le_of_eq (hidT_size _ _), trivial, fun b hb => (List.not_mem_nil hb).elim, X.hok, .of_eq hg⟩⟩
  · obtain ⟨o, us, file, tf, flags, tg, inF, text, tt, h, c1, c2, c3, c4⟩ := C p hp
    refine ⟨o, us, file, tf, flags, tg, inF, text, tt, stays h (free h (fun xs n z => ?_) fun z => ?_), c1, c2, c3, c4⟩
    · rw [c2] at z; cases z
    · rw [c2] at z; cases z
      simp at c3
  · obtain ⟨bm, ob, b1, b2, b3, b4, b5, b6⟩ := hbm
    refine ⟨bm, ob, b1, b2, fun z => ?_, fun z => ?_, stays b3 (free b3 (fun xs n z => ?_) fun z => ?_), b4, b5, b6⟩
    · obtain ⟨o, es, ep, h, hd, _⟩ := hns
      rw [z, h] at b3; cases b3
      rw [hd] at b6; cases b6
    · rw [z, hT p hp] at b3; cases b3
      cases b6
    · rw [b6] at z; cases z
    · rw [b6] at z; cases z
  · obtain ⟨o, es, ep, h, hd, _⟩ := hns
    rw [z, hT p hp] at h; cases h
    cases hd
/-- the end of the call -/
theorem end_few {H : Hp} (X : Few0 P w K a cs ns s₁.heap H) (hT : ∀ p ∈ cs, s₁.heap.get? p.2 = some { cls := .none, data := .fields #[] }) (C : ∀ p ∈ cs, PySem.W.CodeHd s₁.heap p.1 p.2) {r : Result} {s' : Shared}
    (h : CR C8.CX0 [] P w H s₁ (fun v _ => v = .bl true) (fun _ _ _ => False) r s') : r = .ok (.ret (.bool true)) ∧ OldK s₁.heap s'.heap ∧ s'.os = s₁.os ∧ AllBare s'.gens := by
  match r, h with
  | .error _, h => exact h.elim
  | .ok .next, h => exact False.elim h
  | .ok .brk, h => exact False.elim h
  | .ok .cont, h => exact False.elim h
  | .ok (.ret u), h =>
    obtain ⟨v, H', os, bare, un, hok', ru, hv⟩ := h
    have hv' : v = .bl true := hv
    subst hv'
    have hu : u = Value.bool true := ru
    subst hu
    have same : ∀ b o, b ∉ cs.map (·.2) → s₁.heap.get? b = some o → s'.heap.get? b = some o := by
      intro b o nb h
      cases e : H b with
      | none => exact un.keep b o h e (fun z => (List.not_mem_nil z).elim) (fun z => (List.not_mem_nil z).elim)
      | some t =>
        rcases X.only b t e with ⟨z, _⟩ | ⟨_, _, ob, rfl⟩
        · exact absurd z nb
        · have before := (X.hok b _ e).1
          have after := (hok' b _ (un.frzs b ob _ e)).1
          rw [before] at h; cases h
          exact after
    have more : ∀ p ∈ cs, ∃ xs : Array Value, s'.heap.get? p.2 = some { cls := .none, data := .fields xs } := by
      intro p hp
      obtain ⟨xs, e⟩ := un.tbls p.2 #[] (X.tb p hp)
      exact ⟨_, hok' p.2 _ e⟩
    refine ⟨rfl, ⟨fun b o h => ?_, fun b o h => ?_⟩, os, bare⟩
    · by_cases hb : b ∈ cs.map (·.2)
      · obtain ⟨p, hp, rfl⟩ := List.mem_map.mp hb
        obtain ⟨xs, e⟩ := more p hp
        rw [hT p hp] at h; cases h
        exact .inr (.inl ⟨((C p hp).tab (hT p hp)).isCodeTable, rfl, #[], xs, rfl, by rw [Array.empty_append]; exact e⟩)
      · exact .inl (same b o hb h)
    · by_cases hb : b ∈ cs.map (·.2)
      · obtain ⟨p, hp, rfl⟩ := List.mem_map.mp hb
        obtain ⟨xs, e⟩ := more p hp
        exact ⟨_, e⟩
      · exact ⟨o, same b o hb h⟩
end
end K06


set_option Elab.async false
set_option linter.all false
set_option maxRecDepth 100000
set_option maxHeartbeats 8000000
namespace K06
open PySem PySem.Spec PyProof.Rows L2
theorem walk {l : PySem.W.OpenLaw} {n : Nat} {q : Program} {loose : List Str} {XP : (Str → Option Value) → Heap → Prop} {YP : World → Heap → Prop} {d : DefRec} {K : Params → PySem.W.Frag} {x : Str}
    (hn : l.most = some n) (hn2 : n ≤ 1000) (hdf : d.params.defaults = []) (hY : ∀ (w : World) (h : Heap), YP w h → (K w.params).In h)
    (F : ∀ (w : World) (lo : List Str) (mean : ExcName → Option Value) (mg mb : Str → Option Value) (fa : Addr) (h : Heap), Top q lo mean mg mb h → (K w.params).In h → mg d.name = some (.ref fa) →
      ∃ cs : List (Addr × Addr), (∀ p ∈ cs, h.get? p.2 = some { cls := .none, data := .fields #[] }) ∧ (∀ p ∈ cs, (K w.params).lookup p.2 = none) ∧ (∀ p ∈ cs, PySem.W.CodeHd h p.1 p.2) ∧
        ∀ (base : Heap) (s : Shared) (H : Hp) (a : Addr) (ns : List Int), (∀ p ∈ cs, LamX.TabB base mg p.1 p.2) → Env0 l.prog w (K w.params) mg base callerA [] s H → (∀ p ∈ cs, H p.2 = some (.tbl #[])) → SqL (K w.params) H a (ns.map V.int) → ns.length ≤ 1000 →
          codeAny (model l.prog w) callerA (.call (.ref fa) ⟨[.ref a], []⟩) (CR C8.CX0 [] l.prog w H s (fun v _ => v = .bl true) C8.E0) s) :
    PySem.W.WalkO q loose XP YP l.row.toRowW d [] (fun f vs => PySem.call f vs) := by
  refine Att.attach_callB hn hdf fun w s₀ s₁ mg mb fa o pm cd doc a vs ns G Y ho hd hcd hmg hobj hints hlen hbits hg => ?_
  have KX := hY w _ Y
  obtain ⟨cs, hT, nT, C, run⟩ := F w _ _ mg mb fa _ G.T KX hmg
  obtain ⟨H, X⟩ := few_is (P := l.prog) (w := w) KX hT nT hobj hints (Nat.le_trans (Nat.le_trans hlen hn2) (by decide))
  obtain ⟨_, _, tb, e0⟩ := env_few X KX G.T.g G.T.b G.T.builtins G.T.nolimit hg hobj hT C G.T.bmain
  exact codeAny_mono (run _ s₁ H a ns tb e0 X.tb X.sq (by omega)) fun r s' h => end_few X hT C h
theorem in_kit {K : PySem.W.Frag} {c T fa : Addr} {x : Str} {oc kV dc pm ct oct : Value} {od an odt : Option Addr} {sl slt : Array (Option Value)} {vst : Array Value} {st : Stmt} (a : PySem.W.nsIn K mainGlobals x = some (some (.ref fa)))
    (l : K.lookup fa = some ⟨oc, od, .func (PySem.W.fnOf x x (C8.fnArgs st) (C8.fnBody st) (C8.fnScope st) .none kV dc pm an (.ref c) ct), sl⟩) (t1 : K.lookup c = some ⟨oct, odt, .fields vst, slt⟩) (t2 : vst[11]? = some (.ref T)) : PySem.W.tabIn K x = some (c, T) := by
  unfold PySem.W.tabIn
  rw [a]
  simp only [l]
  show (match K.lookup c with | some ⟨_, _, .fields vs, _⟩ => (match (vs[11]? : Option Value) with | some (.ref P) => some (c, P) | _ => none) | _ => none) = some (c, T)
  rw [t1]
  simp only [t2]
theorem all_mk {l : PySem.W.OpenLaw} {w : World} {K : PySem.W.Frag} {h : Heap} {mg mb : Str → Option Value} {fa : Addr} {q : Program} {lo : List Str} {mean : ExcName → Option Value} (TT : Top q lo mean mg mb h) (X : K.In h) (hfa : mg "law" = some (.ref fa))
    {f5 : Addr} {oc5 kV5 dc5 pm5 ct5 : Value} {cd5 : Value} {od5 an5 : Option Addr} {sl5 : Array (Option Value)}
    {f11 : Addr} {oc11 kV11 dc11 pm11 ct11 : Value} {c11 : Addr} {od11 an11 : Option Addr} {sl11 : Array (Option Value)}
    {f14 : Addr} {oc14 kV14 dc14 pm14 ct14 : Value} {cd14 : Value} {od14 an14 : Option Addr} {sl14 : Array (Option Value)}
    {f24 : Addr} {oc24 kV24 dc24 pm24 ct24 : Value} {c24 : Addr} {od24 an24 : Option Addr} {sl24 : Array (Option Value)}
    {f25 : Addr} {oc25 kV25 dc25 pm25 ct25 : Value} {cd25 : Value} {od25 an25 : Option Addr} {sl25 : Array (Option Value)}
    {f26 : Addr} {oc26 kV26 dc26 pm26 ct26 : Value} {cd26 : Value} {od26 an26 : Option Addr} {sl26 : Array (Option Value)}
    {f27 : Addr} {oc27 kV27 dc27 pm27 ct27 : Value} {cd27 : Value} {od27 an27 : Option Addr} {sl27 : Array (Option Value)}
    {f28 : Addr} {oc28 kV28 dc28 pm28 ct28 : Value} {cd28 : Value} {od28 an28 : Option Addr} {sl28 : Array (Option Value)}
    {f29 : Addr} {oc29 kV29 dc29 pm29 ct29 : Value} {cd29 : Value} {od29 an29 : Option Addr} {sl29 : Array (Option Value)}
    {f30 : Addr} {oc30 kV30 dc30 pm30 ct30 : Value} {cd30 : Value} {od30 an30 : Option Addr} {sl30 : Array (Option Value)}
    {f31 : Addr} {oc31 kV31 dc31 pm31 ct31 : Value} {cd31 : Value} {od31 an31 : Option Addr} {sl31 : Array (Option Value)}
    {f32 : Addr} {oc32 kV32 dc32 pm32 ct32 : Value} {cd32 : Value} {od32 an32 : Option Addr} {sl32 : Array (Option Value)}
    {f34 : Addr} {oc34 kV34 dc34 pm34 ct34 : Value} {cd34 : Value} {od34 an34 : Option Addr} {sl34 : Array (Option Value)}
    {f35 : Addr} {oc35 kV35 dc35 pm35 ct35 : Value} {cd35 : Value} {od35 an35 : Option Addr} {sl35 : Array (Option Value)}
    {f36 : Addr} {oc36 kV36 dc36 pm36 ct36 : Value} {cd36 : Value} {od36 an36 : Option Addr} {sl36 : Array (Option Value)}
    {f37 : Addr} {oc37 kV37 dc37 pm37 ct37 : Value} {cd37 : Value} {od37 an37 : Option Addr} {sl37 : Array (Option Value)}
    {f39 : Addr} {oc39 kV39 dc39 pm39 ct39 : Value} {cd39 : Value} {od39 an39 : Option Addr} {sl39 : Array (Option Value)}
    {f40 : Addr} {oc40 kV40 dc40 pm40 ct40 : Value} {cd40 : Value} {od40 an40 : Option Addr} {sl40 : Array (Option Value)}
    {f41 : Addr} {oc41 kV41 dc41 pm41 ct41 : Value} {cd41 : Value} {od41 an41 : Option Addr} {sl41 : Array (Option Value)}
    {f42 : Addr} {oc42 kV42 dc42 pm42 ct42 : Value} {cd42 : Value} {od42 an42 : Option Addr} {sl42 : Array (Option Value)}
    {f43 : Addr} {oc43 kV43 dc43 pm43 ct43 : Value} {cd43 : Value} {od43 an43 : Option Addr} {sl43 : Array (Option Value)}
    {f44 : Addr} {oc44 kV44 dc44 pm44 ct44 : Value} {cd44 : Value} {od44 an44 : Option Addr} {sl44 : Array (Option Value)}
    {f45 : Addr} {oc45 kV45 dc45 pm45 ct45 : Value} {cd45 : Value} {od45 an45 : Option Addr} {sl45 : Array (Option Value)}
    {f46 : Addr} {oc46 kV46 dc46 pm46 ct46 : Value} {cd46 : Value} {od46 an46 : Option Addr} {sl46 : Array (Option Value)}
    {f47 : Addr} {oc47 kV47 dc47 pm47 ct47 : Value} {cd47 : Value} {od47 an47 : Option Addr} {sl47 : Array (Option Value)}
    {f48 : Addr} {oc48 kV48 dc48 pm48 ct48 : Value} {cd48 : Value} {od48 an48 : Option Addr} {sl48 : Array (Option Value)}
    {f49 : Addr} {oc49 kV49 dc49 pm49 ct49 : Value} {cd49 : Value} {od49 an49 : Option Addr} {sl49 : Array (Option Value)}
    {f50 : Addr} {oc50 kV50 dc50 pm50 ct50 : Value} {cd50 : Value} {od50 an50 : Option Addr} {sl50 : Array (Option Value)}
    {f51 : Addr} {oc51 kV51 dc51 pm51 ct51 : Value} {cd51 : Value} {od51 an51 : Option Addr} {sl51 : Array (Option Value)}
    {f52 : Addr} {oc52 kV52 dc52 pm52 ct52 : Value} {cd52 : Value} {od52 an52 : Option Addr} {sl52 : Array (Option Value)}
    {f53 : Addr} {oc53 kV53 dc53 pm53 ct53 : Value} {cd53 : Value} {od53 an53 : Option Addr} {sl53 : Array (Option Value)}
    {f54 : Addr} {oc54 kV54 dc54 pm54 ct54 : Value} {cd54 : Value} {od54 an54 : Option Addr} {sl54 : Array (Option Value)}
    {f55 : Addr} {oc55 kV55 dc55 pm55 ct55 : Value} {cd55 : Value} {od55 an55 : Option Addr} {sl55 : Array (Option Value)}
    {f56 : Addr} {oc56 kV56 dc56 pm56 ct56 : Value} {cd56 : Value} {od56 an56 : Option Addr} {sl56 : Array (Option Value)}
    {fm0 : Addr} {ocm0 kVm0 dcm0 pmm0 ctm0 : Value} {cdm0 : Value} {odm0 anm0 : Option Addr} {slm0 : Array (Option Value)}
    {fm1 : Addr} {ocm1 kVm1 dcm1 pmm1 ctm1 : Value} {cdm1 : Value} {odm1 anm1 : Option Addr} {slm1 : Array (Option Value)}
    {fm3 : Addr} {ocm3 kVm3 dcm3 pmm3 ctm3 : Value} {cdm3 : Value} {odm3 anm3 : Option Addr} {slm3 : Array (Option Value)}
    {fm4 : Addr} {ocm4 kVm4 dcm4 pmm4 ctm4 : Value} {cdm4 : Value} {odm4 anm4 : Option Addr} {slm4 : Array (Option Value)}
    {fm5 : Addr} {ocm5 kVm5 dcm5 pmm5 ctm5 : Value} {cdm5 : Value} {odm5 anm5 : Option Addr} {slm5 : Array (Option Value)}
    {fm6 : Addr} {ocm6 kVm6 dcm6 pmm6 ctm6 : Value} {cdm6 : Value} {odm6 anm6 : Option Addr} {slm6 : Array (Option Value)}
    {fm7 : Addr} {ocm7 kVm7 dcm7 pmm7 ctm7 : Value} {cdm7 : Value} {odm7 anm7 : Option Addr} {slm7 : Array (Option Value)}
    {fm8 : Addr} {ocm8 kVm8 dcm8 pmm8 ctm8 : Value} {cdm8 : Value} {odm8 anm8 : Option Addr} {slm8 : Array (Option Value)}
    {fm9 : Addr} {ocm9 kVm9 dcm9 pmm9 ctm9 : Value} {cdm9 : Value} {odm9 anm9 : Option Addr} {slm9 : Array (Option Value)}
    {fm10 : Addr} {ocm10 kVm10 dcm10 pmm10 ctm10 : Value} {cdm10 : Value} {odm10 anm10 : Option Addr} {slm10 : Array (Option Value)}
    {uMOST_OPEN : Tok} {uMOST_SIGNS : Tok} {uMOST_LETTERS : Tok} {uMOST_PROCEDURES : Tok} {uLEAST_BODIES : Tok} {uMOST_BODIES : Tok} {uMOST_IN_BODY : Tok} {uMOST_STATEMENTS : Tok} {uLONGEST_CHAIN : Tok} {uS uW : Tok} {kw CL : Addr} {odkw : Option Addr} {itkw : Array Value} {nkw : Nat} {slkw : Array (Option Value)}
    {T11 : Addr} {oct11 : Value} {odt11 : Option Addr} {vst11 : Array Value} {slt11 : Array (Option Value)} {d11 : DefRec} {T24 : Addr} {oct24 : Value} {odt24 : Option Addr} {vst24 : Array Value} {slt24 : Array (Option Value)} {d24 : DefRec} 
    (a5 : PySem.W.nsIn K mainGlobals "is_row" = some (some (.ref f5))) (l5 : K.lookup f5 = some ⟨oc5, od5, .func (PySem.W.fnOf "is_row" "is_row" (C8.fnArgs (topS 5)) (C8.fnBody (topS 5)) (C8.fnScope (topS 5)) .none kV5 dc5 pm5 an5 cd5 ct5), sl5⟩) (c5h : PySem.W.codeIn K cd5 "is_row" = true) (k5 : PySem.W.keepIn K (.ref f5) = true)
    (a11 : PySem.W.nsIn K mainGlobals "is_name" = some (some (.ref f11))) (l11 : K.lookup f11 = some ⟨oc11, od11, .func (PySem.W.fnOf "is_name" "is_name" (C8.fnArgs (topS 11)) (C8.fnBody (topS 11)) (C8.fnScope (topS 11)) .none kV11 dc11 pm11 an11 (.ref c11) ct11), sl11⟩) (c11h : PySem.W.codeIn K (.ref c11) "is_name" = true) (k11 : PySem.W.keepIn K (.ref f11) = true)
    (a14 : PySem.W.nsIn K mainGlobals "split_words" = some (some (.ref f14))) (l14 : K.lookup f14 = some ⟨oc14, od14, .func (PySem.W.fnOf "split_words" "split_words" (C8.fnArgs (topS 14)) (C8.fnBody (topS 14)) (C8.fnScope (topS 14)) .none kV14 dc14 pm14 an14 cd14 ct14), sl14⟩) (c14h : PySem.W.codeIn K cd14 "split_words" = true) (k14 : PySem.W.keepIn K (.ref f14) = true)
    (a24 : PySem.W.nsIn K mainGlobals "is_program" = some (some (.ref f24))) (l24 : K.lookup f24 = some ⟨oc24, od24, .func (PySem.W.fnOf "is_program" "is_program" (C8.fnArgs (topS 24)) (C8.fnBody (topS 24)) (C8.fnScope (topS 24)) .none kV24 dc24 pm24 an24 (.ref c24) ct24), sl24⟩) (c24h : PySem.W.codeIn K (.ref c24) "is_program" = true) (k24 : PySem.W.keepIn K (.ref f24) = true)
    (a25 : PySem.W.nsIn K mainGlobals "_are_bodies" = some (some (.ref f25))) (l25 : K.lookup f25 = some ⟨oc25, od25, .func (PySem.W.fnOf "_are_bodies" "_are_bodies" (C8.fnArgs (topS 25)) (C8.fnBody (topS 25)) (C8.fnScope (topS 25)) .none kV25 dc25 pm25 an25 cd25 ct25), sl25⟩) (c25h : PySem.W.codeIn K cd25 "_are_bodies" = true) (k25 : PySem.W.keepIn K (.ref f25) = true)
    (a26 : PySem.W.nsIn K mainGlobals "_is_statement" = some (some (.ref f26))) (l26 : K.lookup f26 = some ⟨oc26, od26, .func (PySem.W.fnOf "_is_statement" "_is_statement" (C8.fnArgs (topS 26)) (C8.fnBody (topS 26)) (C8.fnScope (topS 26)) .none kV26 dc26 pm26 an26 cd26 ct26), sl26⟩) (c26h : PySem.W.codeIn K cd26 "_is_statement" = true) (k26 : PySem.W.keepIn K (.ref f26) = true)
    (a27 : PySem.W.nsIn K mainGlobals "bodies_of" = some (some (.ref f27))) (l27 : K.lookup f27 = some ⟨oc27, od27, .func (PySem.W.fnOf "bodies_of" "bodies_of" (C8.fnArgs (topS 27)) (C8.fnBody (topS 27)) (C8.fnScope (topS 27)) .none kV27 dc27 pm27 an27 cd27 ct27), sl27⟩) (c27h : PySem.W.codeIn K cd27 "bodies_of" = true) (k27 : PySem.W.keepIn K (.ref f27) = true)
    (a28 : PySem.W.nsIn K mainGlobals "want_program" = some (some (.ref f28))) (l28 : K.lookup f28 = some ⟨oc28, od28, .func (PySem.W.fnOf "want_program" "want_program" (C8.fnArgs (topS 28)) (C8.fnBody (topS 28)) (C8.fnScope (topS 28)) .none kV28 dc28 pm28 an28 cd28 ct28), sl28⟩) (c28h : PySem.W.codeIn K cd28 "want_program" = true) (k28 : PySem.W.keepIn K (.ref f28) = true)
    (a29 : PySem.W.nsIn K mainGlobals "write_program" = some (some (.ref f29))) (l29 : K.lookup f29 = some ⟨oc29, od29, .func (PySem.W.fnOf "write_program" "write_program" (C8.fnArgs (topS 29)) (C8.fnBody (topS 29)) (C8.fnScope (topS 29)) .none kV29 dc29 pm29 an29 cd29 ct29), sl29⟩) (c29h : PySem.W.codeIn K cd29 "write_program" = true) (k29 : PySem.W.keepIn K (.ref f29) = true)
    (a30 : PySem.W.nsIn K mainGlobals "_write_body" = some (some (.ref f30))) (l30 : K.lookup f30 = some ⟨oc30, od30, .func (PySem.W.fnOf "_write_body" "_write_body" (C8.fnArgs (topS 30)) (C8.fnBody (topS 30)) (C8.fnScope (topS 30)) .none kV30 dc30 pm30 an30 cd30 ct30), sl30⟩) (c30h : PySem.W.codeIn K cd30 "_write_body" = true) (k30 : PySem.W.keepIn K (.ref f30) = true)
    (a31 : PySem.W.nsIn K mainGlobals "_write_statement" = some (some (.ref f31))) (l31 : K.lookup f31 = some ⟨oc31, od31, .func (PySem.W.fnOf "_write_statement" "_write_statement" (C8.fnArgs (topS 31)) (C8.fnBody (topS 31)) (C8.fnScope (topS 31)) .none kV31 dc31 pm31 an31 cd31 ct31), sl31⟩) (c31h : PySem.W.codeIn K cd31 "_write_statement" = true) (k31 : PySem.W.keepIn K (.ref f31) = true)
    (a32 : PySem.W.nsIn K mainGlobals "read_program" = some (some (.ref f32))) (l32 : K.lookup f32 = some ⟨oc32, od32, .func (PySem.W.fnOf "read_program" "read_program" (C8.fnArgs (topS 32)) (C8.fnBody (topS 32)) (C8.fnScope (topS 32)) .none kV32 dc32 pm32 an32 cd32 ct32), sl32⟩) (c32h : PySem.W.codeIn K cd32 "read_program" = true) (k32 : PySem.W.keepIn K (.ref f32) = true)
    (a34 : PySem.W.nsIn K mainGlobals "check" = some (some (.ref f34))) (l34 : K.lookup f34 = some ⟨oc34, od34, .func (PySem.W.fnOf "check" "check" (C8.fnArgs (topS 34)) (C8.fnBody (topS 34)) (C8.fnScope (topS 34)) .none kV34 dc34 pm34 an34 cd34 ct34), sl34⟩) (c34h : PySem.W.codeIn K cd34 "check" = true) (k34 : PySem.W.keepIn K (.ref f34) = true)
    (a35 : PySem.W.nsIn K mainGlobals "_first_double" = some (some (.ref f35))) (l35 : K.lookup f35 = some ⟨oc35, od35, .func (PySem.W.fnOf "_first_double" "_first_double" (C8.fnArgs (topS 35)) (C8.fnBody (topS 35)) (C8.fnScope (topS 35)) .none kV35 dc35 pm35 an35 cd35 ct35), sl35⟩) (c35h : PySem.W.codeIn K cd35 "_first_double" = true) (k35 : PySem.W.keepIn K (.ref f35) = true)
    (a36 : PySem.W.nsIn K mainGlobals "_body_fault" = some (some (.ref f36))) (l36 : K.lookup f36 = some ⟨oc36, od36, .func (PySem.W.fnOf "_body_fault" "_body_fault" (C8.fnArgs (topS 36)) (C8.fnBody (topS 36)) (C8.fnScope (topS 36)) .none kV36 dc36 pm36 an36 cd36 ct36), sl36⟩) (c36h : PySem.W.codeIn K cd36 "_body_fault" = true) (k36 : PySem.W.keepIn K (.ref f36) = true)
    (a37 : PySem.W.nsIn K mainGlobals "_find_statements" = some (some (.ref f37))) (l37 : K.lookup f37 = some ⟨oc37, od37, .func (PySem.W.fnOf "_find_statements" "_find_statements" (C8.fnArgs (topS 37)) (C8.fnBody (topS 37)) (C8.fnScope (topS 37)) .none kV37 dc37 pm37 an37 cd37 ct37), sl37⟩) (c37h : PySem.W.codeIn K cd37 "_find_statements" = true) (k37 : PySem.W.keepIn K (.ref f37) = true)
    (a39 : PySem.W.nsIn K mainGlobals "_law_well" = some (some (.ref f39))) (l39 : K.lookup f39 = some ⟨oc39, od39, .func (PySem.W.fnOf "_law_well" "_law_well" (C8.fnArgs (topS 39)) (C8.fnBody (topS 39)) (C8.fnScope (topS 39)) .none kV39 dc39 pm39 an39 cd39 ct39), sl39⟩) (c39h : PySem.W.codeIn K cd39 "_law_well" = true) (k39 : PySem.W.keepIn K (.ref f39) = true)
    (a40 : PySem.W.nsIn K mainGlobals "_law_draw" = some (some (.ref f40))) (l40 : K.lookup f40 = some ⟨oc40, od40, .func (PySem.W.fnOf "_law_draw" "_law_draw" (C8.fnArgs (topS 40)) (C8.fnBody (topS 40)) (C8.fnScope (topS 40)) .none kV40 dc40 pm40 an40 cd40 ct40), sl40⟩) (c40h : PySem.W.codeIn K cd40 "_law_draw" = true) (k40 : PySem.W.keepIn K (.ref f40) = true)
    (a41 : PySem.W.nsIn K mainGlobals "_law_same" = some (some (.ref f41))) (l41 : K.lookup f41 = some ⟨oc41, od41, .func (PySem.W.fnOf "_law_same" "_law_same" (C8.fnArgs (topS 41)) (C8.fnBody (topS 41)) (C8.fnScope (topS 41)) .none kV41 dc41 pm41 an41 cd41 ct41), sl41⟩) (c41h : PySem.W.codeIn K cd41 "_law_same" = true) (k41 : PySem.W.keepIn K (.ref f41) = true)
    (a42 : PySem.W.nsIn K mainGlobals "_law_name" = some (some (.ref f42))) (l42 : K.lookup f42 = some ⟨oc42, od42, .func (PySem.W.fnOf "_law_name" "_law_name" (C8.fnArgs (topS 42)) (C8.fnBody (topS 42)) (C8.fnScope (topS 42)) .none kV42 dc42 pm42 an42 cd42 ct42), sl42⟩) (c42h : PySem.W.codeIn K cd42 "_law_name" = true) (k42 : PySem.W.keepIn K (.ref f42) = true)
    (a43 : PySem.W.nsIn K mainGlobals "_law_names" = some (some (.ref f43))) (l43 : K.lookup f43 = some ⟨oc43, od43, .func (PySem.W.fnOf "_law_names" "_law_names" (C8.fnArgs (topS 43)) (C8.fnBody (topS 43)) (C8.fnScope (topS 43)) .none kV43 dc43 pm43 an43 cd43 ct43), sl43⟩) (c43h : PySem.W.codeIn K cd43 "_law_names" = true) (k43 : PySem.W.keepIn K (.ref f43) = true)
    (a44 : PySem.W.nsIn K mainGlobals "_law_body" = some (some (.ref f44))) (l44 : K.lookup f44 = some ⟨oc44, od44, .func (PySem.W.fnOf "_law_body" "_law_body" (C8.fnArgs (topS 44)) (C8.fnBody (topS 44)) (C8.fnScope (topS 44)) .none kV44 dc44 pm44 an44 cd44 ct44), sl44⟩) (c44h : PySem.W.codeIn K cd44 "_law_body" = true) (k44 : PySem.W.keepIn K (.ref f44) = true)
    (a45 : PySem.W.nsIn K mainGlobals "_law_statement" = some (some (.ref f45))) (l45 : K.lookup f45 = some ⟨oc45, od45, .func (PySem.W.fnOf "_law_statement" "_law_statement" (C8.fnArgs (topS 45)) (C8.fnBody (topS 45)) (C8.fnScope (topS 45)) .none kV45 dc45 pm45 an45 cd45 ct45), sl45⟩) (c45h : PySem.W.codeIn K cd45 "_law_statement" = true) (k45 : PySem.W.keepIn K (.ref f45) = true)
    (a46 : PySem.W.nsIn K mainGlobals "_law_plan" = some (some (.ref f46))) (l46 : K.lookup f46 = some ⟨oc46, od46, .func (PySem.W.fnOf "_law_plan" "_law_plan" (C8.fnArgs (topS 46)) (C8.fnBody (topS 46)) (C8.fnScope (topS 46)) .none kV46 dc46 pm46 an46 cd46 ct46), sl46⟩) (c46h : PySem.W.codeIn K cd46 "_law_plan" = true) (k46 : PySem.W.keepIn K (.ref f46) = true)
    (a47 : PySem.W.nsIn K mainGlobals "_law_put" = some (some (.ref f47))) (l47 : K.lookup f47 = some ⟨oc47, od47, .func (PySem.W.fnOf "_law_put" "_law_put" (C8.fnArgs (topS 47)) (C8.fnBody (topS 47)) (C8.fnScope (topS 47)) .none kV47 dc47 pm47 an47 cd47 ct47), sl47⟩) (c47h : PySem.W.codeIn K cd47 "_law_put" = true) (k47 : PySem.W.keepIn K (.ref f47) = true)
    (a48 : PySem.W.nsIn K mainGlobals "_law_put_in" = some (some (.ref f48))) (l48 : K.lookup f48 = some ⟨oc48, od48, .func (PySem.W.fnOf "_law_put_in" "_law_put_in" (C8.fnArgs (topS 48)) (C8.fnBody (topS 48)) (C8.fnScope (topS 48)) .none kV48 dc48 pm48 an48 cd48 ct48), sl48⟩) (c48h : PySem.W.codeIn K cd48 "_law_put_in" = true) (k48 : PySem.W.keepIn K (.ref f48) = true)
    (a49 : PySem.W.nsIn K mainGlobals "_law_spoilt" = some (some (.ref f49))) (l49 : K.lookup f49 = some ⟨oc49, od49, .func (PySem.W.fnOf "_law_spoilt" "_law_spoilt" (C8.fnArgs (topS 49)) (C8.fnBody (topS 49)) (C8.fnScope (topS 49)) .none kV49 dc49 pm49 an49 cd49 ct49), sl49⟩) (c49h : PySem.W.codeIn K cd49 "_law_spoilt" = true) (k49 : PySem.W.keepIn K (.ref f49) = true)
    (a50 : PySem.W.nsIn K mainGlobals "_law_pairing" = some (some (.ref f50))) (l50 : K.lookup f50 = some ⟨oc50, od50, .func (PySem.W.fnOf "_law_pairing" "_law_pairing" (C8.fnArgs (topS 50)) (C8.fnBody (topS 50)) (C8.fnScope (topS 50)) .none kV50 dc50 pm50 an50 cd50 ct50), sl50⟩) (c50h : PySem.W.codeIn K cd50 "_law_pairing" = true) (k50 : PySem.W.keepIn K (.ref f50) = true)
    (a51 : PySem.W.nsIn K mainGlobals "_law_names_of" = some (some (.ref f51))) (l51 : K.lookup f51 = some ⟨oc51, od51, .func (PySem.W.fnOf "_law_names_of" "_law_names_of" (C8.fnArgs (topS 51)) (C8.fnBody (topS 51)) (C8.fnScope (topS 51)) .none kV51 dc51 pm51 an51 cd51 ct51), sl51⟩) (c51h : PySem.W.codeIn K cd51 "_law_names_of" = true) (k51 : PySem.W.keepIn K (.ref f51) = true)
    (a52 : PySem.W.nsIn K mainGlobals "_law_turned_body" = some (some (.ref f52))) (l52 : K.lookup f52 = some ⟨oc52, od52, .func (PySem.W.fnOf "_law_turned_body" "_law_turned_body" (C8.fnArgs (topS 52)) (C8.fnBody (topS 52)) (C8.fnScope (topS 52)) .none kV52 dc52 pm52 an52 cd52 ct52), sl52⟩) (c52h : PySem.W.codeIn K cd52 "_law_turned_body" = true) (k52 : PySem.W.keepIn K (.ref f52) = true)
    (a53 : PySem.W.nsIn K mainGlobals "_law_turned_plan" = some (some (.ref f53))) (l53 : K.lookup f53 = some ⟨oc53, od53, .func (PySem.W.fnOf "_law_turned_plan" "_law_turned_plan" (C8.fnArgs (topS 53)) (C8.fnBody (topS 53)) (C8.fnScope (topS 53)) .none kV53 dc53 pm53 an53 cd53 ct53), sl53⟩) (c53h : PySem.W.codeIn K cd53 "_law_turned_plan" = true) (k53 : PySem.W.keepIn K (.ref f53) = true)
    (a54 : PySem.W.nsIn K mainGlobals "_law_pairs" = some (some (.ref f54))) (l54 : K.lookup f54 = some ⟨oc54, od54, .func (PySem.W.fnOf "_law_pairs" "_law_pairs" (C8.fnArgs (topS 54)) (C8.fnBody (topS 54)) (C8.fnScope (topS 54)) .none kV54 dc54 pm54 an54 cd54 ct54), sl54⟩) (c54h : PySem.W.codeIn K cd54 "_law_pairs" = true) (k54 : PySem.W.keepIn K (.ref f54) = true)
    (a55 : PySem.W.nsIn K mainGlobals "_law_plan_right" = some (some (.ref f55))) (l55 : K.lookup f55 = some ⟨oc55, od55, .func (PySem.W.fnOf "_law_plan_right" "_law_plan_right" (C8.fnArgs (topS 55)) (C8.fnBody (topS 55)) (C8.fnScope (topS 55)) .none kV55 dc55 pm55 an55 cd55 ct55), sl55⟩) (c55h : PySem.W.codeIn K cd55 "_law_plan_right" = true) (k55 : PySem.W.keepIn K (.ref f55) = true)
    (a56 : PySem.W.nsIn K mainGlobals "law" = some (some (.ref f56))) (l56 : K.lookup f56 = some ⟨oc56, od56, .func (PySem.W.fnOf "law" "law" (C8.fnArgs (topS 56)) (C8.fnBody (topS 56)) (C8.fnScope (topS 56)) .none kV56 dc56 pm56 an56 cd56 ct56), sl56⟩) (c56h : PySem.W.codeIn K cd56 "law" = true) (k56 : PySem.W.keepIn K (.ref f56) = true)
    (am0 : PySem.W.findIn K (.ref CL) "__init__" = some (some (.ref fm0))) (im0 : PySem.W.isFn K (.ref fm0) = true) (lm0 : K.lookup fm0 = some ⟨ocm0, odm0, .func (PySem.W.fnOf "__init__" "Reader.__init__" (C8.fnArgs (inClass (topS 15) 0)) (C8.fnBody (inClass (topS 15) 0)) (C8.fnScope (inClass (topS 15) 0)) .none kVm0 dcm0 pmm0 anm0 cdm0 ctm0), slm0⟩) (cm0h : PySem.W.codeIn K cdm0 "Reader.__init__" = true) (km0 : PySem.W.keepIn K (.ref fm0) = true)
    (am1 : PySem.W.findIn K (.ref CL) "word" = some (some (.ref fm1))) (im1 : PySem.W.isFn K (.ref fm1) = true) (lm1 : K.lookup fm1 = some ⟨ocm1, odm1, .func (PySem.W.fnOf "word" "Reader.word" (C8.fnArgs (inClass (topS 15) 1)) (C8.fnBody (inClass (topS 15) 1)) (C8.fnScope (inClass (topS 15) 1)) .none kVm1 dcm1 pmm1 anm1 cdm1 ctm1), slm1⟩) (cm1h : PySem.W.codeIn K cdm1 "Reader.word" = true) (km1 : PySem.W.keepIn K (.ref fm1) = true)
    (am3 : PySem.W.findIn K (.ref CL) "take" = some (some (.ref fm3))) (im3 : PySem.W.isFn K (.ref fm3) = true) (lm3 : K.lookup fm3 = some ⟨ocm3, odm3, .func (PySem.W.fnOf "take" "Reader.take" (C8.fnArgs (inClass (topS 15) 3)) (C8.fnBody (inClass (topS 15) 3)) (C8.fnScope (inClass (topS 15) 3)) .none kVm3 dcm3 pmm3 anm3 cdm3 ctm3), slm3⟩) (cm3h : PySem.W.codeIn K cdm3 "Reader.take" = true) (km3 : PySem.W.keepIn K (.ref fm3) = true)
    (am4 : PySem.W.findIn K (.ref CL) "take_name" = some (some (.ref fm4))) (im4 : PySem.W.isFn K (.ref fm4) = true) (lm4 : K.lookup fm4 = some ⟨ocm4, odm4, .func (PySem.W.fnOf "take_name" "Reader.take_name" (C8.fnArgs (inClass (topS 15) 4)) (C8.fnBody (inClass (topS 15) 4)) (C8.fnScope (inClass (topS 15) 4)) .none kVm4 dcm4 pmm4 anm4 cdm4 ctm4), slm4⟩) (cm4h : PySem.W.codeIn K cdm4 "Reader.take_name" = true) (km4 : PySem.W.keepIn K (.ref fm4) = true)
    (am5 : PySem.W.findIn K (.ref CL) "whole" = some (some (.ref fm5))) (im5 : PySem.W.isFn K (.ref fm5) = true) (lm5 : K.lookup fm5 = some ⟨ocm5, odm5, .func (PySem.W.fnOf "whole" "Reader.whole" (C8.fnArgs (inClass (topS 15) 5)) (C8.fnBody (inClass (topS 15) 5)) (C8.fnScope (inClass (topS 15) 5)) .none kVm5 dcm5 pmm5 anm5 cdm5 ctm5), slm5⟩) (cm5h : PySem.W.codeIn K cdm5 "Reader.whole" = true) (km5 : PySem.W.keepIn K (.ref fm5) = true)
    (am6 : PySem.W.findIn K (.ref CL) "procedure" = some (some (.ref fm6))) (im6 : PySem.W.isFn K (.ref fm6) = true) (lm6 : K.lookup fm6 = some ⟨ocm6, odm6, .func (PySem.W.fnOf "procedure" "Reader.procedure" (C8.fnArgs (inClass (topS 15) 6)) (C8.fnBody (inClass (topS 15) 6)) (C8.fnScope (inClass (topS 15) 6)) .none kVm6 dcm6 pmm6 anm6 cdm6 ctm6), slm6⟩) (cm6h : PySem.W.codeIn K cdm6 "Reader.procedure" = true) (km6 : PySem.W.keepIn K (.ref fm6) = true)
    (am7 : PySem.W.findIn K (.ref CL) "body" = some (some (.ref fm7))) (im7 : PySem.W.isFn K (.ref fm7) = true) (lm7 : K.lookup fm7 = some ⟨ocm7, odm7, .func (PySem.W.fnOf "body" "Reader.body" (C8.fnArgs (inClass (topS 15) 7)) (C8.fnBody (inClass (topS 15) 7)) (C8.fnScope (inClass (topS 15) 7)) .none kVm7 dcm7 pmm7 anm7 cdm7 ctm7), slm7⟩) (cm7h : PySem.W.codeIn K cdm7 "Reader.body" = true) (km7 : PySem.W.keepIn K (.ref fm7) = true)
    (am8 : PySem.W.findIn K (.ref CL) "statement" = some (some (.ref fm8))) (im8 : PySem.W.isFn K (.ref fm8) = true) (lm8 : K.lookup fm8 = some ⟨ocm8, odm8, .func (PySem.W.fnOf "statement" "Reader.statement" (C8.fnArgs (inClass (topS 15) 8)) (C8.fnBody (inClass (topS 15) 8)) (C8.fnScope (inClass (topS 15) 8)) .none kVm8 dcm8 pmm8 anm8 cdm8 ctm8), slm8⟩) (cm8h : PySem.W.codeIn K cdm8 "Reader.statement" = true) (km8 : PySem.W.keepIn K (.ref fm8) = true)
    (am9 : PySem.W.findIn K (.ref CL) "plain" = some (some (.ref fm9))) (im9 : PySem.W.isFn K (.ref fm9) = true) (lm9 : K.lookup fm9 = some ⟨ocm9, odm9, .func (PySem.W.fnOf "plain" "Reader.plain" (C8.fnArgs (inClass (topS 15) 9)) (C8.fnBody (inClass (topS 15) 9)) (C8.fnScope (inClass (topS 15) 9)) .none kVm9 dcm9 pmm9 anm9 cdm9 ctm9), slm9⟩) (cm9h : PySem.W.codeIn K cdm9 "Reader.plain" = true) (km9 : PySem.W.keepIn K (.ref fm9) = true)
    (am10 : PySem.W.findIn K (.ref CL) "choice" = some (some (.ref fm10))) (im10 : PySem.W.isFn K (.ref fm10) = true) (lm10 : K.lookup fm10 = some ⟨ocm10, odm10, .func (PySem.W.fnOf "choice" "Reader.choice" (C8.fnArgs (inClass (topS 15) 10)) (C8.fnBody (inClass (topS 15) 10)) (C8.fnScope (inClass (topS 15) 10)) .none kVm10 dcm10 pmm10 anm10 cdm10 ctm10), slm10⟩) (cm10h : PySem.W.codeIn K cdm10 "Reader.choice" = true) (km10 : PySem.W.keepIn K (.ref fm10) = true)
    (zisinstance : PySem.W.nsIn K mainGlobals "isinstance" = some none) (zint : PySem.W.nsIn K mainGlobals "int" = some none) (zbool : PySem.W.nsIn K mainGlobals "bool" = some none) (zstr : PySem.W.nsIn K mainGlobals "str" = some none) (ztuple : PySem.W.nsIn K mainGlobals "tuple" = some none) (zlen : PySem.W.nsIn K mainGlobals "len" = some none) (zall : PySem.W.nsIn K mainGlobals "all" = some none) (zrange : PySem.W.nsIn K mainGlobals "range" = some none) (zenumerate : PySem.W.nsIn K mainGlobals "enumerate" = some none) (zlist : PySem.W.nsIn K mainGlobals "list" = some none) (zset : PySem.W.nsIn K mainGlobals "set" = some none) 
    (mMOST_OPEN : PySem.W.nsIn K mainGlobals "MOST_OPEN" = some (some (.int 39 uMOST_OPEN))) (mMOST_SIGNS : PySem.W.nsIn K mainGlobals "MOST_SIGNS" = some (some (.int 10 uMOST_SIGNS))) (mMOST_LETTERS : PySem.W.nsIn K mainGlobals "MOST_LETTERS" = some (some (.int 20 uMOST_LETTERS))) (mMOST_PROCEDURES : PySem.W.nsIn K mainGlobals "MOST_PROCEDURES" = some (some (.int 8 uMOST_PROCEDURES))) (mLEAST_BODIES : PySem.W.nsIn K mainGlobals "LEAST_BODIES" = some (some (.int 2 uLEAST_BODIES))) (mMOST_BODIES : PySem.W.nsIn K mainGlobals "MOST_BODIES" = some (some (.int 6 uMOST_BODIES))) (mMOST_IN_BODY : PySem.W.nsIn K mainGlobals "MOST_IN_BODY" = some (some (.int 60 uMOST_IN_BODY))) (mMOST_STATEMENTS : PySem.W.nsIn K mainGlobals "MOST_STATEMENTS" = some (some (.int 200 uMOST_STATEMENTS))) (mLONGEST_CHAIN : PySem.W.nsIn K mainGlobals "LONGEST_CHAIN" = some (some (.int 12 uLONGEST_CHAIN))) 
    (mS : PySem.W.nsIn K mainGlobals "SMALL_LETTERS" = some (some (.str smallL uS))) (mW : PySem.W.nsIn K mainGlobals "WORD_SIGNS" = some (some (.str wordS uW)))
    (mK : PySem.W.nsIn K mainGlobals "KEPT_WORDS" = some (some (.ref kw))) (mL : PySem.W.nsIn K mainGlobals "Reader" = some (some (.ref CL)))
    (lK : K.lookup kw = some ⟨.type "tuple", odkw, .seq itkw nkw, slkw⟩)
    (pgC : PySem.W.plainGet K CL Str.empty = true) (hdC : PySem.W.hasDictIn K CL = true) (poC : PySem.W.plainOver K CL = true) (saC : PySem.W.findIn K (.ref CL) "__setattr__" = some (some (.builtin "object.__setattr__"))) (mkC : PySem.W.makesIn K CL = true) (kcC : PySem.W.keepIn K (.ref CL) = true)
    (n1 : PySem.W.findIn K (.ref CL) "words" = some none) (n2 : PySem.W.findIn K (.ref CL) "at" = some none) (n3 : PySem.W.findIn K (.ref CL) "depth" = some none)
    (vK : Vals (keptW.map V.str) itkw.toList) (wK : itkw.size ≤ sizeLine)
    (t111 : K.lookup c11 = some ⟨oct11, odt11, .fields vst11, slt11⟩) (t211 : vst11[11]? = some (.ref T11)) (t311 : K.lookup T11 = none) (t411 : (recsOf q).find? (fun e => e.name == ("is_name" : Str)) = some d11)
    (t124 : K.lookup c24 = some ⟨oct24, odt24, .fields vst24, slt24⟩) (t224 : vst24[11]? = some (.ref T24)) (t324 : K.lookup T24 = none) (t424 : (recsOf q).find? (fun e => e.name == ("is_program" : Str)) = some d24)
     : ∃ cs : List (Addr × Addr), (∀ p ∈ cs, h.get? p.2 = some { cls := .none, data := .fields #[] }) ∧ (∀ p ∈ cs, K.lookup p.2 = none) ∧ (∀ p ∈ cs, PySem.W.CodeHd h p.1 p.2) ∧
        ∀ (base : Heap) (s : Shared) (H : Hp) (a : Addr) (ns : List Int), (∀ p ∈ cs, LamX.TabB base mg p.1 p.2) → Env0 l.prog w K mg base callerA [] s H → (∀ p ∈ cs, H p.2 = some (.tbl #[])) → SqL K H a (ns.map V.int) → ns.length ≤ 1000 →
          codeAny (model l.prog w) callerA (.call (.ref fa) ⟨[.ref a], []⟩) (CR C8.CX0 [] l.prog w H s (fun v _ => v = .bl true) C8.E0) s := by
  have G := TT.g
  have e := hfa.symm.trans (PySem.W.mg_of X G a56)
  cases e
  have F5 : C8.Def K mg "is_row" (topS 5) _ _ := ⟨⟨_, _, _, _, _, _, _, _, _, _, rfl, l5, c5h⟩, PySem.W.mg_of X G a5, k5⟩
  have b5 := C8.Fun.binds F5.fn rfl (ps := ["thing", "low", "high"]) fun _ _ _ _ _ _ us hl => match us, hl with | [_, _, _], _ => rfl
  have F11 : C8.Def K mg "is_name" (topS 11) _ _ := ⟨⟨_, _, _, _, _, _, _, _, _, _, rfl, l11, c11h⟩, PySem.W.mg_of X G a11, k11⟩
  have b11 := C8.Fun.binds F11.fn rfl (ps := ["thing"]) fun _ _ _ _ _ _ us hl => match us, hl with | [_], _ => rfl
  have F14 : C8.Def K mg "split_words" (topS 14) _ _ := ⟨⟨_, _, _, _, _, _, _, _, _, _, rfl, l14, c14h⟩, PySem.W.mg_of X G a14, k14⟩
  have b14 := C8.Fun.binds F14.fn rfl (ps := ["text"]) fun _ _ _ _ _ _ us hl => match us, hl with | [_], _ => rfl
  have F24 : C8.Def K mg "is_program" (topS 24) _ _ := ⟨⟨_, _, _, _, _, _, _, _, _, _, rfl, l24, c24h⟩, PySem.W.mg_of X G a24, k24⟩
  have b24 := C8.Fun.binds F24.fn rfl (ps := ["thing"]) fun _ _ _ _ _ _ us hl => match us, hl with | [_], _ => rfl
  have F25 : C8.Def K mg "_are_bodies" (topS 25) _ _ := ⟨⟨_, _, _, _, _, _, _, _, _, _, rfl, l25, c25h⟩, PySem.W.mg_of X G a25, k25⟩
  have b25 := C8.Fun.binds F25.fn rfl (ps := ["bodies"]) fun _ _ _ _ _ _ us hl => match us, hl with | [_], _ => rfl
  have F26 : C8.Def K mg "_is_statement" (topS 26) _ _ := ⟨⟨_, _, _, _, _, _, _, _, _, _, rfl, l26, c26h⟩, PySem.W.mg_of X G a26, k26⟩
  have b26 := C8.Fun.binds F26.fn rfl (ps := ["thing"]) fun _ _ _ _ _ _ us hl => match us, hl with | [_], _ => rfl
  have F27 : C8.Def K mg "bodies_of" (topS 27) _ _ := ⟨⟨_, _, _, _, _, _, _, _, _, _, rfl, l27, c27h⟩, PySem.W.mg_of X G a27, k27⟩
  have b27 := C8.Fun.binds F27.fn rfl (ps := ["statement"]) fun _ _ _ _ _ _ us hl => match us, hl with | [_], _ => rfl
  have F28 : C8.Def K mg "want_program" (topS 28) _ _ := ⟨⟨_, _, _, _, _, _, _, _, _, _, rfl, l28, c28h⟩, PySem.W.mg_of X G a28, k28⟩
  have b28 := C8.Fun.binds F28.fn rfl (ps := ["program"]) fun _ _ _ _ _ _ us hl => match us, hl with | [_], _ => rfl
  have F29 : C8.Def K mg "write_program" (topS 29) _ _ := ⟨⟨_, _, _, _, _, _, _, _, _, _, rfl, l29, c29h⟩, PySem.W.mg_of X G a29, k29⟩
  have b29 := C8.Fun.binds F29.fn rfl (ps := ["program"]) fun _ _ _ _ _ _ us hl => match us, hl with | [_], _ => rfl
  have F30 : C8.Def K mg "_write_body" (topS 30) _ _ := ⟨⟨_, _, _, _, _, _, _, _, _, _, rfl, l30, c30h⟩, PySem.W.mg_of X G a30, k30⟩
  have b30 := C8.Fun.binds F30.fn rfl (ps := ["body", "words"]) fun _ _ _ _ _ _ us hl => match us, hl with | [_, _], _ => rfl
  have F31 : C8.Def K mg "_write_statement" (topS 31) _ _ := ⟨⟨_, _, _, _, _, _, _, _, _, _, rfl, l31, c31h⟩, PySem.W.mg_of X G a31, k31⟩
  have b31 := C8.Fun.binds F31.fn rfl (ps := ["statement", "words"]) fun _ _ _ _ _ _ us hl => match us, hl with | [_, _], _ => rfl
  have F32 : C8.Def K mg "read_program" (topS 32) _ _ := ⟨⟨_, _, _, _, _, _, _, _, _, _, rfl, l32, c32h⟩, PySem.W.mg_of X G a32, k32⟩
  have b32 := C8.Fun.binds F32.fn rfl (ps := ["text"]) fun _ _ _ _ _ _ us hl => match us, hl with | [_], _ => rfl
  have F34 : C8.Def K mg "check" (topS 34) _ _ := ⟨⟨_, _, _, _, _, _, _, _, _, _, rfl, l34, c34h⟩, PySem.W.mg_of X G a34, k34⟩
  have b34 := C8.Fun.binds F34.fn rfl (ps := ["program"]) fun _ _ _ _ _ _ us hl => match us, hl with | [_], _ => rfl
  have F35 : C8.Def K mg "_first_double" (topS 35) _ _ := ⟨⟨_, _, _, _, _, _, _, _, _, _, rfl, l35, c35h⟩, PySem.W.mg_of X G a35, k35⟩
  have b35 := C8.Fun.binds F35.fn rfl (ps := ["names"]) fun _ _ _ _ _ _ us hl => match us, hl with | [_], _ => rfl
  have F36 : C8.Def K mg "_body_fault" (topS 36) _ _ := ⟨⟨_, _, _, _, _, _, _, _, _, _, rfl, l36, c36h⟩, PySem.W.mg_of X G a36, k36⟩
  have b36 := C8.Fun.binds F36.fn rfl (ps := ["body", "letters", "names"]) fun _ _ _ _ _ _ us hl => match us, hl with | [_, _, _], _ => rfl
  have F37 : C8.Def K mg "_find_statements" (topS 37) _ _ := ⟨⟨_, _, _, _, _, _, _, _, _, _, rfl, l37, c37h⟩, PySem.W.mg_of X G a37, k37⟩
  have b37 := C8.Fun.binds F37.fn rfl (ps := ["body", "is_second", "found"]) fun _ _ _ _ _ _ us hl => match us, hl with | [_, _, _], _ => rfl
  have F39 : C8.Def K mg "_law_well" (topS 39) _ _ := ⟨⟨_, _, _, _, _, _, _, _, _, _, rfl, l39, c39h⟩, PySem.W.mg_of X G a39, k39⟩
  have b39 := C8.Fun.binds F39.fn rfl (ps := ["script"]) fun _ _ _ _ _ _ us hl => match us, hl with | [_], _ => rfl
  have F40 : C8.Def K mg "_law_draw" (topS 40) _ _ := ⟨⟨_, _, _, _, _, _, _, _, _, _, rfl, l40, c40h⟩, PySem.W.mg_of X G a40, k40⟩
  have b40 := C8.Fun.binds F40.fn rfl (ps := ["well", "many"]) fun _ _ _ _ _ _ us hl => match us, hl with | [_, _], _ => rfl
  have F41 : C8.Def K mg "_law_same" (topS 41) _ _ := ⟨⟨_, _, _, _, _, _, _, _, _, _, rfl, l41, c41h⟩, PySem.W.mg_of X G a41, k41⟩
  have b41 := C8.Fun.binds F41.fn rfl (ps := ["found", "due"]) fun _ _ _ _ _ _ us hl => match us, hl with | [_, _], _ => rfl
  have F42 : C8.Def K mg "_law_name" (topS 42) _ _ := ⟨⟨_, _, _, _, _, _, _, _, _, _, rfl, l42, c42h⟩, PySem.W.mg_of X G a42, k42⟩
  have b42 := C8.Fun.binds F42.fn rfl (ps := ["well", "taken"]) fun _ _ _ _ _ _ us hl => match us, hl with | [_, _], _ => rfl
  have F43 : C8.Def K mg "_law_names" (topS 43) _ _ := ⟨⟨_, _, _, _, _, _, _, _, _, _, rfl, l43, c43h⟩, PySem.W.mg_of X G a43, k43⟩
  have b43 := C8.Fun.binds F43.fn rfl (ps := ["well", "many"]) fun _ _ _ _ _ _ us hl => match us, hl with | [_, _], _ => rfl
  have F44 : C8.Def K mg "_law_body" (topS 44) _ _ := ⟨⟨_, _, _, _, _, _, _, _, _, _, rfl, l44, c44h⟩, PySem.W.mg_of X G a44, k44⟩
  have b44 := C8.Fun.binds F44.fn rfl (ps := ["well", "deep", "heads", "is_second", "room"]) fun _ _ _ _ _ _ us hl => match us, hl with | [_, _, _, _, _], _ => rfl
  have F45 : C8.Def K mg "_law_statement" (topS 45) _ _ := ⟨⟨_, _, _, _, _, _, _, _, _, _, rfl, l45, c45h⟩, PySem.W.mg_of X G a45, k45⟩
  have b45 := C8.Fun.binds F45.fn rfl (ps := ["well", "deep", "heads", "is_second", "room"]) fun _ _ _ _ _ _ us hl => match us, hl with | [_, _, _, _, _], _ => rfl
  have F46 : C8.Def K mg "_law_plan" (topS 46) _ _ := ⟨⟨_, _, _, _, _, _, _, _, _, _, rfl, l46, c46h⟩, PySem.W.mg_of X G a46, k46⟩
  have b46 := C8.Fun.binds F46.fn rfl (ps := ["well", "size"]) fun _ _ _ _ _ _ us hl => match us, hl with | [_, _], _ => rfl
  have F47 : C8.Def K mg "_law_put" (topS 47) _ _ := ⟨⟨_, _, _, _, _, _, _, _, _, _, rfl, l47, c47h⟩, PySem.W.mg_of X G a47, k47⟩
  have b47 := C8.Fun.binds F47.fn rfl (ps := ["well", "body", "statement"]) fun _ _ _ _ _ _ us hl => match us, hl with | [_, _, _], _ => rfl
  have F48 : C8.Def K mg "_law_put_in" (topS 48) _ _ := ⟨⟨_, _, _, _, _, _, _, _, _, _, rfl, l48, c48h⟩, PySem.W.mg_of X G a48, k48⟩
  have b48 := C8.Fun.binds F48.fn rfl (ps := ["well", "outer", "statement"]) fun _ _ _ _ _ _ us hl => match us, hl with | [_, _, _], _ => rfl
  have F49 : C8.Def K mg "_law_spoilt" (topS 49) _ _ := ⟨⟨_, _, _, _, _, _, _, _, _, _, rfl, l49, c49h⟩, PySem.W.mg_of X G a49, k49⟩
  have b49 := C8.Fun.binds F49.fn rfl (ps := ["well", "plan"]) fun _ _ _ _ _ _ us hl => match us, hl with | [_, _], _ => rfl
  have F50 : C8.Def K mg "_law_pairing" (topS 50) _ _ := ⟨⟨_, _, _, _, _, _, _, _, _, _, rfl, l50, c50h⟩, PySem.W.mg_of X G a50, k50⟩
  have b50 := C8.Fun.binds F50.fn rfl (ps := ["well", "names"]) fun _ _ _ _ _ _ us hl => match us, hl with | [_, _], _ => rfl
  have F51 : C8.Def K mg "_law_names_of" (topS 51) _ _ := ⟨⟨_, _, _, _, _, _, _, _, _, _, rfl, l51, c51h⟩, PySem.W.mg_of X G a51, k51⟩
  have b51 := C8.Fun.binds F51.fn rfl (ps := ["body"]) fun _ _ _ _ _ _ us hl => match us, hl with | [_], _ => rfl
  have F52 : C8.Def K mg "_law_turned_body" (topS 52) _ _ := ⟨⟨_, _, _, _, _, _, _, _, _, _, rfl, l52, c52h⟩, PySem.W.mg_of X G a52, k52⟩
  have b52 := C8.Fun.binds F52.fn rfl (ps := ["body", "pairs"]) fun _ _ _ _ _ _ us hl => match us, hl with | [_, _], _ => rfl
  have F53 : C8.Def K mg "_law_turned_plan" (topS 53) _ _ := ⟨⟨_, _, _, _, _, _, _, _, _, _, rfl, l53, c53h⟩, PySem.W.mg_of X G a53, k53⟩
  have b53 := C8.Fun.binds F53.fn rfl (ps := ["plan", "pairs"]) fun _ _ _ _ _ _ us hl => match us, hl with | [_, _], _ => rfl
  have F54 : C8.Def K mg "_law_pairs" (topS 54) _ _ := ⟨⟨_, _, _, _, _, _, _, _, _, _, rfl, l54, c54h⟩, PySem.W.mg_of X G a54, k54⟩
  have b54 := C8.Fun.binds F54.fn rfl (ps := ["well", "plan"]) fun _ _ _ _ _ _ us hl => match us, hl with | [_, _], _ => rfl
  have F55 : C8.Def K mg "_law_plan_right" (topS 55) _ _ := ⟨⟨_, _, _, _, _, _, _, _, _, _, rfl, l55, c55h⟩, PySem.W.mg_of X G a55, k55⟩
  have b55 := C8.Fun.binds F55.fn rfl (ps := ["well", "plan"]) fun _ _ _ _ _ _ us hl => match us, hl with | [_, _], _ => rfl
  have F56 : C8.Def K mg "law" (topS 56) _ _ := ⟨⟨_, _, _, _, _, _, _, _, _, _, rfl, l56, c56h⟩, PySem.W.mg_of X G a56, k56⟩
  have b56 := C8.Fun.binds F56.fn rfl (ps := ["script"]) fun _ _ _ _ _ _ us hl => match us, hl with | [_], _ => rfl
  have Fm0 : C8.Fun K "__init__" "Reader.__init__" (inClass (topS 15) 0) _ _ := ⟨_, _, _, _, _, _, _, _, _, _, rfl, lm0, cm0h⟩
  have bm0 := C8.Fun.binds Fm0 rfl (ps := ["self", "text"]) fun _ _ _ _ _ _ us hl => match us, hl with | [_, _], _ => rfl
  have Fm1 : C8.Fun K "word" "Reader.word" (inClass (topS 15) 1) _ _ := ⟨_, _, _, _, _, _, _, _, _, _, rfl, lm1, cm1h⟩
  have bm1 := C8.Fun.binds Fm1 rfl (ps := ["self"]) fun _ _ _ _ _ _ us hl => match us, hl with | [_], _ => rfl
  have Fm3 : C8.Fun K "take" "Reader.take" (inClass (topS 15) 3) _ _ := ⟨_, _, _, _, _, _, _, _, _, _, rfl, lm3, cm3h⟩
  have bm3 := C8.Fun.binds Fm3 rfl (ps := ["self", "wanted"]) fun _ _ _ _ _ _ us hl => match us, hl with | [_, _], _ => rfl
  have Fm4 : C8.Fun K "take_name" "Reader.take_name" (inClass (topS 15) 4) _ _ := ⟨_, _, _, _, _, _, _, _, _, _, rfl, lm4, cm4h⟩
  have bm4 := C8.Fun.binds Fm4 rfl (ps := ["self"]) fun _ _ _ _ _ _ us hl => match us, hl with | [_], _ => rfl
  have Fm5 : C8.Fun K "whole" "Reader.whole" (inClass (topS 15) 5) _ _ := ⟨_, _, _, _, _, _, _, _, _, _, rfl, lm5, cm5h⟩
  have bm5 := C8.Fun.binds Fm5 rfl (ps := ["self"]) fun _ _ _ _ _ _ us hl => match us, hl with | [_], _ => rfl
  have Fm6 : C8.Fun K "procedure" "Reader.procedure" (inClass (topS 15) 6) _ _ := ⟨_, _, _, _, _, _, _, _, _, _, rfl, lm6, cm6h⟩
  have bm6 := C8.Fun.binds Fm6 rfl (ps := ["self"]) fun _ _ _ _ _ _ us hl => match us, hl with | [_], _ => rfl
  have Fm7 : C8.Fun K "body" "Reader.body" (inClass (topS 15) 7) _ _ := ⟨_, _, _, _, _, _, _, _, _, _, rfl, lm7, cm7h⟩
  have bm7 := C8.Fun.binds Fm7 rfl (ps := ["self"]) fun _ _ _ _ _ _ us hl => match us, hl with | [_], _ => rfl
  have Fm8 : C8.Fun K "statement" "Reader.statement" (inClass (topS 15) 8) _ _ := ⟨_, _, _, _, _, _, _, _, _, _, rfl, lm8, cm8h⟩
  have bm8 := C8.Fun.binds Fm8 rfl (ps := ["self"]) fun _ _ _ _ _ _ us hl => match us, hl with | [_], _ => rfl
  have Fm9 : C8.Fun K "plain" "Reader.plain" (inClass (topS 15) 9) _ _ := ⟨_, _, _, _, _, _, _, _, _, _, rfl, lm9, cm9h⟩
  have bm9 := C8.Fun.binds Fm9 rfl (ps := ["self", "word"]) fun _ _ _ _ _ _ us hl => match us, hl with | [_, _], _ => rfl
  have Fm10 : C8.Fun K "choice" "Reader.choice" (inClass (topS 15) 10) _ _ := ⟨_, _, _, _, _, _, _, _, _, _, rfl, lm10, cm10h⟩
  have bm10 := C8.Fun.binds Fm10 rfl (ps := ["self"]) fun _ _ _ _ _ _ us hl => match us, hl with | [_], _ => rfl
  have B : Bl K mg := ⟨PySem.W.mg_none_of X G zisinstance, PySem.W.mg_none_of X G zint, PySem.W.mg_none_of X G zbool, PySem.W.mg_none_of X G zstr, PySem.W.mg_none_of X G ztuple, PySem.W.mg_none_of X G zlen, PySem.W.mg_none_of X G zall, PySem.W.mg_none_of X G zrange, PySem.W.mg_none_of X G zenumerate, PySem.W.mg_none_of X G zlist, PySem.W.mg_none_of X G zset, ⟨_, PySem.W.mg_of X G mMOST_OPEN⟩, ⟨_, PySem.W.mg_of X G mMOST_SIGNS⟩, ⟨_, PySem.W.mg_of X G mMOST_LETTERS⟩, ⟨_, PySem.W.mg_of X G mMOST_PROCEDURES⟩, ⟨_, PySem.W.mg_of X G mLEAST_BODIES⟩, ⟨_, PySem.W.mg_of X G mMOST_BODIES⟩, ⟨_, PySem.W.mg_of X G mMOST_IN_BODY⟩, ⟨_, PySem.W.mg_of X G mMOST_STATEMENTS⟩, ⟨_, PySem.W.mg_of X G mLONGEST_CHAIN⟩, ⟨_, PySem.W.mg_of X G mS⟩, ⟨_, PySem.W.mg_of X G mW⟩, ⟨kw, PySem.W.mg_of X G mK, fun H => .inr ⟨_, itkw, nkw, lK, rfl, rfl, wK, vK⟩⟩⟩
  have T : Txt K mg CL := ⟨⟨pgC, hdC, poC, saC⟩, n1, n2, n3⟩
  have tb11 := PySem.W.tab_of TT X t411 (in_kit a11 l11 t111 t211)
  have tb24 := PySem.W.tab_of TT X t424 (in_kit a24 l24 t124 t224)
  refine ⟨[(c11, T11), (c24, T24)], ?hT, ?nT, ?hC, fun base s H a ns tabs e0 free sq hln => ?run⟩
  case hT =>
    intro p hp
    rcases List.mem_cons.mp hp with rfl | hp
    · exact tb11.2
    · cases List.mem_singleton.mp hp
      exact tb24.2
  case nT =>
    intro p hp
    rcases List.mem_cons.mp hp with rfl | hp
    · exact t311
    · cases List.mem_singleton.mp hp
      exact t324
  case hC =>
    intro p hp
    rcases List.mem_cons.mp hp with rfl | hp
    · exact tb11.1
    · cases List.mem_singleton.mp hp
      exact tb24.1
  case run =>
    have hTs : Tbs [T11, T24] H := fun T' hT' => by
      rcases List.mem_cons.mp hT' with rfl | hT'
      · exact ⟨#[], free (c11, _) (by simp), trivial⟩
      · cases List.mem_singleton.mp hT'
        exact ⟨#[], free (c24, _) (by simp), trivial⟩
    have c_row := ok_is_row (P := l.prog) (w := w) (base := base) F5 b5 B
    have f_name := ok_is_name (P := l.prog) (w := w) (Ts := [T11, T24]) (T := T11) l11 c11h (tabs (c11, T11) (by simp)) (by simp) B
    have c_name : C8.Cal l.prog w K mg base 4 "is_name" (spName K [T11, T24]) [] := ⟨_, _, _, _, f_name, F11.mgf, k11, b11, .nil⟩
    have c_bod := ok_bodies_of (P := l.prog) (w := w) (base := base) F27 b27 B
    have c_stm := ok__is_statement F26 b26 B c_row c_name
    have c_bods := ok__are_bodies F25 b25 B c_row c_stm c_bod
    have f_prog := ok_is_program (P := l.prog) (w := w) (Ts := [T11, T24]) (T := T24) l24 c24h (tabs (c24, T24) (by simp)) (by simp) B c_row c_name c_bods
    have c_prog : C8.Cal l.prog w K mg base 8 "is_program" (spProg K [T11, T24]) [] := ⟨_, _, _, _, f_prog, F24.mgf, k24, b24, .nil⟩
    have c_want := ok_want_program F28 b28 B c_prog
    have c_fdT := ok_fdT (P := l.prog) (w := w) (base := base) F35 b35 B
    have c_fdL := ok_fdL (P := l.prog) (w := w) (base := base) F35 b35 B
    have c_fs := fs_all F37 b37 B c_bod 13
    have c_bf := ok__body_fault F36 b36 B c_fs
    have c_check := ok_check F34 b34 B c_want c_fdT c_fdL c_bf
    have c_split := ok_split_words (P := l.prog) (w := w) (base := base) F14 b14 B
    have c_word := okm_word (P := l.prog) (w := w) (base := base) T ⟨am1, im1, km1⟩ Fm1 bm1 B
    have c_take := okm_take T ⟨am3, im3, km3⟩ Fm3 bm3 B c_word
    have c_tn := okm_take_name T ⟨am4, im4, km4⟩ Fm4 bm4 B c_word c_name
    have c_plain := okm_plain T ⟨am9, im9, km9⟩ Fm9 bm9 B c_take c_tn
    have c_rb := rb_all T B ⟨am7, im7, km7⟩ Fm7 bm7 ⟨am8, im8, km8⟩ Fm8 bm8 ⟨am10, im10, km10⟩ Fm10 bm10 c_word c_take c_plain 13
    have c_proc := okm_procedure T ⟨am6, im6, km6⟩ Fm6 bm6 B c_take c_tn c_rb
    have c_whole := okm_whole T ⟨am5, im5, km5⟩ Fm5 bm5 B c_word c_take c_tn c_proc
    have c_init := okm_init T ⟨mkC, am0, im0, kcC⟩ (PySem.W.mg_of X G mL) Fm0 bm0 B c_split
    have c_read := ok_read_program F32 b32 B T c_init c_whole c_prog
    have c_wb := wb_all F30 b30 F31 b31 B c_bod 13
    have c_write := ok_write_program F29 b29 B c_want c_wb
    have c_well := ok__law_well (P := l.prog) (w := w) (base := base) F39 b39 B
    have c_draw := ok__law_draw (P := l.prog) (w := w) (base := base) F40 b40 B
    have c_same := same_all (P := l.prog) (w := w) (base := base) F41 b41 B 42
    have c_lname := ok__law_name F42 b42 B c_draw
    have c_names := ok__law_names F43 b43 B c_lname
    have c_body := drw9 F44 b44 F45 b45 B c_draw 8
    have c_plan := ok__law_plan F46 b46 B c_draw c_names c_body
    have c_put := put_all F47 b47 F48 b48 B c_draw 12
    have c_sp := ok__law_spoilt F49 b49 B c_draw c_lname c_put
    have c_pairing := ok__law_pairing F50 b50 B c_lname
    have c_no := no_all (P := l.prog) (w := w) (base := base) F51 b51 B 13
    have c_tb := tb_all (P := l.prog) (w := w) (base := base) F52 b52 B 13
    have c_tp := ok__law_turned_plan F53 b53 B c_tb
    have c_pairs := ok__law_pairs F54 b54 B B.list c_no c_pairing
    have c_pr := ok__law_plan_right F55 b55 B c_pairs c_tp c_prog c_write c_read c_check c_same
    exact ok_law F56.fn B c_well c_plan c_sp c_pr hln e0 (.of_eq rfl) sq hTs
end K06


open PySem PySem.W PyProof.Rows
set_option maxRecDepth 100000 in
set_option maxHeartbeats 0 in
theorem PySem.Challenge.cw_undoneall_k06_whole_names_exchanged_holds : PySem.Challenge.rw_undoneall_k06_whole_names_exchanged.Holds := by
  w_on; o_law; k_head; (case hw => w_witness2)
  k_fill
  refine K06.walk (l := PySem.Challenge.rw_undoneall_k06_whole_names_exchanged) (n := 63) (x := "script") rfl (by decide) rfl (fun w h Y => PySem.W.kIn_of Y) ?F
  case F =>
    intro w lo mean mg mb fa h TT KX hmg
    refine' K06.all_mk TT KX hmg ?a5 ?l5 ?c5h ?k5 ?a11 ?l11 ?c11h ?k11 ?a14 ?l14 ?c14h ?k14 ?a24 ?l24 ?c24h ?k24 ?a25 ?l25 ?c25h ?k25 ?a26 ?l26 ?c26h ?k26 ?a27 ?l27 ?c27h ?k27 ?a28 ?l28 ?c28h ?k28 ?a29 ?l29 ?c29h ?k29 ?a30 ?l30 ?c30h ?k30 ?a31 ?l31 ?c31h ?k31 ?a32 ?l32 ?c32h ?k32 ?a34 ?l34 ?c34h ?k34 ?a35 ?l35 ?c35h ?k35 ?a36 ?l36 ?c36h ?k36 ?a37 ?l37 ?c37h ?k37 ?a39 ?l39 ?c39h ?k39 ?a40 ?l40 ?c40h ?k40 ?a41 ?l41 ?c41h ?k41 ?a42 ?l42 ?c42h ?k42 ?a43 ?l43 ?c43h ?k43 ?a44 ?l44 ?c44h ?k44 ?a45 ?l45 ?c45h ?k45 ?a46 ?l46 ?c46h ?k46 ?a47 ?l47 ?c47h ?k47 ?a48 ?l48 ?c48h ?k48 ?a49 ?l49 ?c49h ?k49 ?a50 ?l50 ?c50h ?k50 ?a51 ?l51 ?c51h ?k51 ?a52 ?l52 ?c52h ?k52 ?a53 ?l53 ?c53h ?k53 ?a54 ?l54 ?c54h ?k54 ?a55 ?l55 ?c55h ?k55 ?a56 ?l56 ?c56h ?k56 ?am0 ?im0 ?lm0 ?cm0h ?km0 ?am1 ?im1 ?lm1 ?cm1h ?km1 ?am3 ?im3 ?lm3 ?cm3h ?km3 ?am4 ?im4 ?lm4 ?cm4h ?km4 ?am5 ?im5 ?lm5 ?cm5h ?km5 ?am6 ?im6 ?lm6 ?cm6h ?km6 ?am7 ?im7 ?lm7 ?cm7h ?km7 ?am8 ?im8 ?lm8 ?cm8h ?km8 ?am9 ?im9 ?lm9 ?cm9h ?km9 ?am10 ?im10 ?lm10 ?cm10h ?km10 ?zisinstance ?zint ?zbool ?zstr ?ztuple ?zlen ?zall ?zrange ?zenumerate ?zlist ?zset ?mMOST_OPEN ?mMOST_SIGNS ?mMOST_LETTERS ?mMOST_PROCEDURES ?mLEAST_BODIES ?mMOST_BODIES ?mMOST_IN_BODY ?mMOST_STATEMENTS ?mLONGEST_CHAIN ?mS ?mW ?mK ?mL ?lK ?pgC ?hdC ?poC ?saC ?mkC ?kcC ?n1 ?n2 ?n3 ?vK ?wK ?t111 ?t211 ?t311 ?t411 ?t124 ?t224 ?t324 ?t424
    (case mL => k_is)
    (case a5 => k_is)
    (case l5 => k_is)
    (case c5h => k_is)
    (case k5 => k_is)
    (case a11 => k_is)
    (case l11 => k_is)
    (case c11h => k_is)
    (case k11 => k_is)
    (case a14 => k_is)
    (case l14 => k_is)
    (case c14h => k_is)
    (case k14 => k_is)
    (case a24 => k_is)
    (case l24 => k_is)
    (case c24h => k_is)
    (case k24 => k_is)
    (case a25 => k_is)
    (case l25 => k_is)
    (case c25h => k_is)
    (case k25 => k_is)
    (case a26 => k_is)
    (case l26 => k_is)
    (case c26h => k_is)
    (case k26 => k_is)
    (case a27 => k_is)
    (case l27 => k_is)
    (case c27h => k_is)
    (case k27 => k_is)
    (case a28 => k_is)
    (case l28 => k_is)
    (case c28h => k_is)
    (case k28 => k_is)
    (case a29 => k_is)
    (case l29 => k_is)
    (case c29h => k_is)
    (case k29 => k_is)
    (case a30 => k_is)
    (case l30 => k_is)
    (case c30h => k_is)
    (case k30 => k_is)
    (case a31 => k_is)
    (case l31 => k_is)
    (case c31h => k_is)
    (case k31 => k_is)
    (case a32 => k_is)
    (case l32 => k_is)
    (case c32h => k_is)
    (case k32 => k_is)
    (case a34 => k_is)
    (case l34 => k_is)
    (case c34h => k_is)
    (case k34 => k_is)
    (case a35 => k_is)
    (case l35 => k_is)
    (case c35h => k_is)
    (case k35 => k_is)
    (case a36 => k_is)
    (case l36 => k_is)
    (case c36h => k_is)
    (case k36 => k_is)
    (case a37 => k_is)
    (case l37 => k_is)
    (case c37h => k_is)
    (case k37 => k_is)
    (case a39 => k_is)
    (case l39 => k_is)
    (case c39h => k_is)
    (case k39 => k_is)
    (case a40 => k_is)
    (case l40 => k_is)
    (case c40h => k_is)
    (case k40 => k_is)
    (case a41 => k_is)
    (case l41 => k_is)
    (case c41h => k_is)
    (case k41 => k_is)
    (case a42 => k_is)
    (case l42 => k_is)
    (case c42h => k_is)
    (case k42 => k_is)
    (case a43 => k_is)
    (case l43 => k_is)
    (case c43h => k_is)
    (case k43 => k_is)
    (case a44 => k_is)
    (case l44 => k_is)
    (case c44h => k_is)
    (case k44 => k_is)
    (case a45 => k_is)
    (case l45 => k_is)
    (case c45h => k_is)
    (case k45 => k_is)
    (case a46 => k_is)
    (case l46 => k_is)
    (case c46h => k_is)
    (case k46 => k_is)
    (case a47 => k_is)
    (case l47 => k_is)
    (case c47h => k_is)
    (case k47 => k_is)
    (case a48 => k_is)
    (case l48 => k_is)
    (case c48h => k_is)
    (case k48 => k_is)
    (case a49 => k_is)
    (case l49 => k_is)
    (case c49h => k_is)
    (case k49 => k_is)
    (case a50 => k_is)
    (case l50 => k_is)
    (case c50h => k_is)
    (case k50 => k_is)
    (case a51 => k_is)
    (case l51 => k_is)
    (case c51h => k_is)
    (case k51 => k_is)
    (case a52 => k_is)
    (case l52 => k_is)
    (case c52h => k_is)
    (case k52 => k_is)
    (case a53 => k_is)
    (case l53 => k_is)
    (case c53h => k_is)
    (case k53 => k_is)
    (case a54 => k_is)
    (case l54 => k_is)
    (case c54h => k_is)
    (case k54 => k_is)
    (case a55 => k_is)
    (case l55 => k_is)
    (case c55h => k_is)
    (case k55 => k_is)
    (case a56 => k_is)
    (case l56 => k_is)
    (case c56h => k_is)
    (case k56 => k_is)
    (case am0 => k_is)
    (case im0 => k_is)
    (case lm0 => k_is)
    (case cm0h => k_is)
    (case km0 => k_is)
    (case am1 => k_is)
    (case im1 => k_is)
    (case lm1 => k_is)
    (case cm1h => k_is)
    (case km1 => k_is)
    (case am3 => k_is)
    (case im3 => k_is)
    (case lm3 => k_is)
    (case cm3h => k_is)
    (case km3 => k_is)
    (case am4 => k_is)
    (case im4 => k_is)
    (case lm4 => k_is)
    (case cm4h => k_is)
    (case km4 => k_is)
    (case am5 => k_is)
    (case im5 => k_is)
    (case lm5 => k_is)
    (case cm5h => k_is)
    (case km5 => k_is)
    (case am6 => k_is)
    (case im6 => k_is)
    (case lm6 => k_is)
    (case cm6h => k_is)
    (case km6 => k_is)
    (case am7 => k_is)
    (case im7 => k_is)
    (case lm7 => k_is)
    (case cm7h => k_is)
    (case km7 => k_is)
    (case am8 => k_is)
    (case im8 => k_is)
    (case lm8 => k_is)
    (case cm8h => k_is)
    (case km8 => k_is)
    (case am9 => k_is)
    (case im9 => k_is)
    (case lm9 => k_is)
    (case cm9h => k_is)
    (case km9 => k_is)
    (case am10 => k_is)
    (case im10 => k_is)
    (case lm10 => k_is)
    (case cm10h => k_is)
    (case km10 => k_is)
    (case zisinstance => k_is)
    (case zint => k_is)
    (case zbool => k_is)
    (case zstr => k_is)
    (case ztuple => k_is)
    (case zlen => k_is)
    (case zall => k_is)
    (case zrange => k_is)
    (case zenumerate => k_is)
    (case zlist => k_is)
    (case zset => k_is)
    (case mMOST_OPEN => k_is)
    (case mMOST_SIGNS => k_is)
    (case mMOST_LETTERS => k_is)
    (case mMOST_PROCEDURES => k_is)
    (case mLEAST_BODIES => k_is)
    (case mMOST_BODIES => k_is)
    (case mMOST_IN_BODY => k_is)
    (case mMOST_STATEMENTS => k_is)
    (case mLONGEST_CHAIN => k_is)
    (case mS => k_is)
    (case mW => k_is)
    (case mK => k_is)
    (case lK => k_is)
    (case pgC => k_is)
    (case hdC => k_is)
    (case poC => k_is)
    (case saC => k_is)
    (case mkC => k_is)
    (case kcC => k_is)
    (case n1 => k_is)
    (case n2 => k_is)
    (case n3 => k_is)
    (case t111 => k_is)
    (case t124 => k_is)
    (case vK => exact .cons ⟨_, rfl⟩ (.cons ⟨_, rfl⟩ (.cons ⟨_, rfl⟩ (.cons ⟨_, rfl⟩ (.cons ⟨_, rfl⟩ (.cons ⟨_, rfl⟩ (.cons ⟨_, rfl⟩ (.cons ⟨_, rfl⟩ (.cons ⟨_, rfl⟩ (.cons ⟨_, rfl⟩ (.cons ⟨_, rfl⟩ .nil)))))))))))
    (case wK => show 11 ≤ _; decide)
    (case t211 => rfl)
    (case t311 => first | rfl | kernel_rfl | decide)
    (case t411 => rfl)
    (case t224 => rfl)
    (case t324 => first | rfl | kernel_rfl | decide)
    (case t424 => rfl)

