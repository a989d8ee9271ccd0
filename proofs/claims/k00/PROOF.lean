import PyProof.Rows.All
import Wide.All
import OpenK.AllK
import Wide.FinOn
import HandS.ForMost
import HandS.Codes
import HandS.IsInst
import HandS.Wide
import HandS.Style
import HandS.Conv
import HandS.EndTab
import HandS.Star
import HandS.Strs
import HandS.Rev
import HandS.AnyAll
import HandS.Text
import HandS.GenOver
import PyProof.GenQ
import HandS.Lambda
import HandS.Iter
import HandS.TupMul
import KE.GoesMore
import KE.GoesEnum
import HandS.TupAny
import PyProof.DictMoreH
import HandS.Dict
import HandS.List
import HandS.Exc
import PyProof.NeData
import HandS.ExcInit
import KE.KExcSuper
import HandS.Comp
import HandS.ExcOwn
import HandS.HotCalls
import HandS.ExcField
import KE.KExcIs
import KE.KExcPX
import KE.KExcInit
import HandS.Call
import HandS.ExcCtx
import HandS.Hot
import PyProof.Rows.TupIter
import PyProof.ReprRoads
import PyProof.ReprBulk
import HandS.Words
import PySem.Challenge.RW_undoneall_k00_error_classes
set_option Elab.async false
set_option linter.all false
set_option maxRecDepth 100000
set_option maxHeartbeats 4000000
/-! all(elt for target in iter), whatever PI walks: the element is judged in the generator's own frame -/
namespace UG
open PySem PySem.Spec PyProof.Rows L2

abbrev gcx (X : Cx) (A : Around) (N : List Str) (s : Shared) (H : Hp) (env : Env) (fp : List Addr) : Cx :=
  { X with
    A := A, N := N, s_0 := s, H_0 := H, env := env, outer := X.stack,
    stack := env :: X.stack, ex := fp, fn := fun _ => false,
    calm := true, pn := [], xe := fun _ _ => False }

structure GenSc (scope : Scope) : Prop where
  kind : scope.kind = .function
  co : scope.isCoroutine = false
  cell : ∀ y ∈ scope.names, y.2 ≠ .cell
  free : ∀ y ∈ scope.names, y.2 ≠ .free
  dot : scope.names.lookup (".0" : Str) = some NameKind.local

/-- the generator's environment -/
abbrev gev (X : Cx) (scope : Scope) (C : Addr) (code : Value) : Env :=
  genEnv scope (cloFrom X.env.cells scope.names []) C code builtinsNs X.env

section
variable {X : Cx} {pins : List (Addr × Obj)} {σ : L2.St} {H : Hp} {s : Shared} {scope : Scope}

theorem gev_cells (S : GenSc scope) {C : Addr} {code : Value} {x : Str} {c : Addr}
    (e : (gev X scope C code).cells.lookup x = some c) : False := by
  have m := PySem.mem_of_lookup e
  rcases cloFrom_mem (show (x, c) ∈ cloFrom X.env.cells scope.names [] from m) with z | ⟨z, _⟩
  · cases z
  · exact S.free _ z rfl

theorem gev_kind (S : GenSc scope) {C : Addr} {code : Value} {x : Str}
    (h : (gev X scope C code).kindOf x = some .cell ∨ (gev X scope C code).kindOf x = some .free) : False := by
  rcases h with h | h
  · exact S.cell _ (PySem.mem_of_lookup (show scope.names.lookup x = some NameKind.cell from h)) rfl
  · exact S.free _ (PySem.mem_of_lookup (show scope.names.lookup x = some NameKind.free from h)) rfl

theorem stk_lt (I : Inv X pins σ H s) {b : Addr} (hb : b ∈ frs X.stack) : b < s.heap.objs.size := by
  rcases List.mem_cons.mp (I.stkSub b hb) with e | z
  · rw [e]; exact I.lt
  · rcases Nat.lt_or_ge b s.heap.objs.size with h | h
    · exact h
    · exact absurd z (I.nofs h)

/-- the generator's frame, as it begins -/
theorem gen_begin (I : Inv X pins σ H s) (S : GenSc scope) {fp : List Addr} {N : List Str} {A' : Around} {code : Value} {s5 : Shared} {a : Addr} {go : Obj} {m : Str → Option Value}
    (hfp : ∀ b ∈ fp, FpOk X pins H b ∧ b < s.heap.objs.size) (hhd : A'.handled = none)
    (hfr : A'.frames = some (gev X scope s.heap.objs.size code :: X.stack))
    (kp : ∀ b o, s.heap.get? b = some o → s5.heap.get? b = some o) (hos : s5.os = s.os) (hb5 : AllBare s5.gens)
    (hns : s5.heap.Ns s.heap.objs.size m) (ha : s.heap.objs.size < a) (hgo : s5.heap.get? a = some go) (hdat : ∀ v, go.data ≠ .cell v) :
    Inv (gcx X A' N s H (gev X scope s.heap.objs.size code) fp) [(a, go)] (N.map fun _ => none) H s5 := by
  have okG : (gcx X A' N s H (gev X scope s.heap.objs.size code) fp).Ok := by
    refine ⟨I.ok.mod, S.kind, I.ok.glob, rfl, Nat.le_refl _, ?_, ?_, ?_, fun _ => hhd, hfr, .inr ⟨rfl, rfl⟩, ?_, I.bs, Nat.le_trans I.ok.bsz I.sz, ?_, ?_, I.stack, I.stkFree⟩
    · intro x y c e _
      exact (gev_cells S e).elim
    · intro x h
      exact (gev_kind S h).elim
    · intro x c h _
      cases h
    · intro b hb
      refine ⟨Nat.ne_of_lt (hfp b hb).2, ?_⟩
      intro x c e
      exact (gev_cells S e).elim
    · intro b o e hb
      rcases (hfp b hb).1.2.2.2.1 with z | z
      · exact I.ok.noex b o e z
      · have h1 := Heap.lt_size e
        have h2 := I.ok.bsz
        exact absurd (Nat.lt_of_lt_of_le h1 (Nat.le_trans h2 z)) (Nat.lt_irrefl _)
    · intro b hb z
      rcases List.mem_cons.mp (I.stkSub b z) with y | y
      · exact (hfp b hb).1.2.1 y
      · exact (hfp b hb).1.2.2.1 y
  refine ⟨okG, hos, hb5, Un.kept kp, ⟨m, hns, ?_⟩, ?_, I.hok.fresh (Nat.le_refl _), ?_, ?_, I.hok.kept kp, ?_⟩
  · intro i x v _ e _
    rw [List.getElem?_map] at e
    cases q : (gcx X A' N s H (gev X scope s.heap.objs.size code) fp).N[i]? with
    | none =>
      have q' : N[i]? = none := q
      rw [q'] at e; cases e
    | some y =>
      have q' : N[i]? = some y := q
      rw [q'] at e; cases e
  · intro x c e
    exact (gev_cells S e).elim
  · intro x c e
    exact (gev_cells S e).elim
  · intro p hp
    have e : p = (a, go) := by simpa using hp
    subst e
    refine ⟨hgo, I.hok.fresh (Nat.le_of_lt ha), Nat.ne_of_gt ha, ?_, hdat⟩
    intro z
    exact absurd (Nat.lt_trans ha (stk_lt I z)) (Nat.lt_irrefl _)
  · show (N.map _).length = N.length
    rw [List.length_map]

/-- what is held of the callers' frame when the generator's is left -/
theorem gen_back {fp : List Addr} {N : List Str} {A' : Around} {env : Env} {s' : Shared} {H' : Hp} {σ' : L2.St} {pg : List (Addr × Obj)}
    (I : Inv X pins σ H s) (hfp : ∀ b ∈ fp, FpOk X pins H b) (J : Inv (gcx X A' N s H env fp) pg σ' H' s') : Inv X pins σ H' s' :=
  I.call' (ch := fp) J.os J.base J.hok J.bare fun b hb => by
    obtain ⟨_, h1, _, h3, h4, h5⟩ := hfp b hb
    exact ⟨h3, h1, h4, h5⟩
end
end UG


set_option Elab.async false
set_option linter.all false
set_option maxRecDepth 100000
set_option maxHeartbeats 4000000
namespace UG
open PySem PySem.Spec PyProof.Rows L2

/-- the generator's loop code -/
abbrev geLoop (elt tg iter : Expr) (scope : Scope) (gpos : Pos) (it : Addr) (env : Env) : Code :=
  .compLoop (.GeneratorExp elt [⟨tg, iter, [], 0⟩] scope gpos) 0 (.ref it) .none env
abbrev geStart (elt tg iter : Expr) (scope : Scope) (gpos : Pos) (it : Addr) (env : Env) : Code :=
  .compStart (.GeneratorExp elt [⟨tg, iter, [], 0⟩] scope gpos) 0 (.ref it) .none env

theorem over_loopG {A : Around} {elt tg iter : Expr} {scope : Scope} {gpos : Pos} {it : Addr} {env : Env} :
    A.over (geLoop elt tg iter scope gpos it env) [] = A.deeper env := by
  obtain ⟨hd, d, fr, gs, u⟩ := A
  simp [Around.over, Around.deeper, marksOver, frameCount, unitsOf, envsOf, guardsOf, pushEnvs, pushGuards, Code.envs, Code.env?, Code.isFrame, Code.guards, Code.isGuard, Code.weight, Code.frames, Code.isCreation, Code.isCaller, Code.cUnits]
theorem over_startG {A : Around} {elt tg iter : Expr} {scope : Scope} {gpos : Pos} {it : Addr} {env : Env} :
    A.over (geStart elt tg iter scope gpos it env) [] = A.deeper env := by
  obtain ⟨hd, d, fr, gs, u⟩ := A
  simp [Around.over, Around.deeper, marksOver, frameCount, unitsOf, envsOf, guardsOf, pushEnvs, pushGuards, Code.envs, Code.env?, Code.isFrame, Code.guards, Code.isGuard, Code.weight, Code.frames, Code.isCreation, Code.isCaller, Code.cUnits]

/-- what the reading asks of the loop -/
structure Way (J : It) (g : TG) (te : TE) (σ0 : L2.St) (Q : VK) (top : Nat) (W : Nat → Hp → Prop) : Prop where
  turn : ∀ i H, W i H → (J.stop i H ∧ Q (.bl true) H) ∨ (i < top ∧ J.go i H ∧ ∀ x H', J.yld i H x H' → g x σ0 H' fun σ2 H2 => te σ2 H2 fun y H3 =>
    ∃ b : Bool, y = .bl b ∧ if b = true then W (i + 1) H3 else Q (.bl false) H3)

section
variable {X : Cx} {N : List Str} {s4 : Shared} {H4 : Hp} {env : Env} {fp : List Addr} {a : Addr} {go : Obj}
/-- the protocol: a truth comes out; behind a True one the walk goes on -/
def GY (X : Cx) (B : Around) (N : List Str) (s4 : Shared) (H4 : Hp) (env : Env) (fp : List Addr) (a : Addr) (go : Obj) (Q : VK) : Protocol := fun m s₀ v s kap =>
  ∃ (b : Bool) (H3 : Hp) (σ3 : L2.St), v = .bool b ∧ Inv (gcx X B N s4 H4 env fp) [(a, go)] σ3 H3 s ∧ (b = false → Q (.bl false) H3) ∧
    (b = true → ∀ s'' : Shared, s''.os = s.os → AllBare s''.gens → s''.heap = s.heap → kap (.send .none) s'')
def GP (X : Cx) (B : Around) (N : List Str) (s4 : Shared) (H4 : Hp) (env : Env) (fp : List Addr) (a : Addr) (go : Obj) (Q : VK) : Nat → Shared → Shared → Prop := fun _ _ s1 =>
  ∃ (H3 : Hp) (σ3 : L2.St), Inv (gcx X B N s4 H4 env fp) [(a, go)] σ3 H3 s1 ∧ Q (.bl true) H3

theorem inv_same {X' : Cx} {pins : List (Addr × Obj)} {σ : L2.St} {H : Hp} {s s'' : Shared} (I : Inv X' pins σ H s) (h1 : s''.os = s.os) (h2 : AllBare s''.gens) (h3 : s''.heap = s.heap) : Inv X' pins σ H s'' := by
  obtain ⟨hh, g, d, t, o⟩ := s''
  cases h1
  cases h3
  exact ⟨I.ok, I.os, h2, I.base, I.loc, I.cell, I.free, I.freeC, I.pin, I.hok, I.len⟩

theorem seg_walk {B : Around} {elt tg iter : Expr} {scope : Scope} {gpos : Pos} {it : Addr} {tn : Nat → Heap → Prop} {J : It} {g : TG} {te : TE} {Q : VK} {top : Nat} {W : Nat → Hp → Prop}
    (hco : env.scope.isCoroutine = false)
    (T : Turn X.prog X.w X.K tg J fp it tn) (hg : PG (gcx X (B.deeper env) N s4 H4 env fp) tg g) (he : PE (gcx X (B.deeper env) N s4 H4 env fp) elt te)
    (hfa : a ∉ fp) (way : Way J g te (N.map fun _ => none) Q top W) :
    ∀ (n i : Nat) (s₀ s : Shared) (H : Hp), top - i ≤ n → Inv (gcx X (B.deeper env) N s4 H4 env fp) [(a, go)] (N.map fun _ => none) H s → tn i s.heap → (∀ b ∈ fp, H b = none) → W i H →
      ∃ k, k ≤ n ∧ Seg (model X.prog X.w) B (fun n s₀ r s₁ => r = .ok .next ∧ GP X (B.deeper env) N s4 H4 env fp a go Q n s₀ s₁) (GY X (B.deeper env) N s4 H4 env fp a go Q) n s₀
        (geLoop elt tg iter scope gpos it env) ((model X.prog X.w).den (geLoop elt tg iter scope gpos it env)) [] s := by
  have stat : ∀ {pl : List (Addr × Obj)} {σ' : L2.St} {H' : Hp} {s' : Shared}, Inv (gcx X (B.deeper env) N s4 H4 env fp) pl σ' H' s' → (∀ b ∈ fp, H' b = none) → (∀ p ∈ pl, p.1 = a) → ∀ b ∈ fp, FpOk (gcx X (B.deeper env) N s4 H4 env fp) pl H' b := by
    intro pl σ' H' s' I' hn hpl b hb
    refine ⟨hn b hb, (I'.ok.exf b hb).1, I'.ok.exfs b hb, .inl hb, (I'.ok.exf b hb).2, ?_⟩
    intro p hp z
    have hp' : p ∈ pl := by simpa using hp
    rw [hpl p hp'] at z
    exact hfa (z ▸ hb)
  have one : ∀ p ∈ [(a, go)], p.1 = a := by
    intro p hp
    have e : p = (a, go) := by simpa using hp
    rw [e]
  intro n
  induction n with
  | zero =>
    intro i s₀ s H hi I st nf w
    refine ⟨0, Nat.le_refl _, ?_⟩
    rcases way.turn i H w with ⟨stop, q⟩ | ⟨lt, _⟩
    · show Seg _ B _ _ _ s₀ _ ((compTurn (.GeneratorExp elt [⟨tg, iter, [], 0⟩] scope gpos) 0 (.ref it) .none env).onRaise (leaving env)) [] s
      rw [compTurn_gen, Sem.onRaise_eq_wrap]
      refine seg_bind_wrap (wpAny_standAt ?_)
      refine seg_bind_wrap ?_
      rw [over_loopG]
      have td := T.done (gcx X (B.deeper env) N s4 H4 env fp) rfl rfl rfl rfl i [(a, go)] s _ H (fun _ _ => False) I (stat I nf one) st stop
      refine thnF td ?_
      rintro r s6 ⟨rfl, I6⟩
      exact seg_end (.ok .next) ⟨rfl, H, _, I6, q⟩
    · omega
  | succ n ih =>
    intro i s₀ s H hi I st nf w
    refine ⟨n + 1, Nat.le_refl _, ?_⟩
    show Seg _ B _ _ _ s₀ _ ((compTurn (.GeneratorExp elt [⟨tg, iter, [], 0⟩] scope gpos) 0 (.ref it) .none env).onRaise (leaving env)) [] s
    rw [compTurn_gen, Sem.onRaise_eq_wrap]
    refine seg_bind_wrap (wpAny_standAt ?_)
    refine seg_bind_wrap ?_
    rw [over_loopG]
    rcases way.turn i H w with ⟨stop, q⟩ | ⟨lt, jgo, step⟩
    · have td := T.done (gcx X (B.deeper env) N s4 H4 env fp) rfl rfl rfl rfl i [(a, go)] s _ H (fun _ _ => False) I (stat I nf one) st stop
      refine thnF td ?_
      rintro r s6 ⟨rfl, I6⟩
      exact seg_end (.ok .next) ⟨rfl, H, _, I6, q⟩
    · have ti := T.item (gcx X (B.deeper env) N s4 H4 env fp) rfl rfl rfl rfl i [(a, go)] s _ H (fun _ _ => False) I (stat I nf one) st jgo
      refine thnF ti ?_
      rintro r s6 ⟨u, rfl, h6⟩
      refine seg_bind_wrap ?_
      rw [over_loopG]
      refine thnF h6 ?_
      rintro _ s7 ⟨x, H7, I7, r7, y7, st7, n7⟩
      have I7' := I7.pinned (stat I7 n7 one) (T.obj _ _ st7)
      refine seg_bind_wrap ?_
      rw [over_loopG]
      refine thnF (hg.run _ s7 _ H7 x u _ I7' r7 (step x H7 y7)) ?_
      rintro _ s8 ⟨σ8, H8, I8, q8⟩
      simp only [List.forIn_nil]
      refine seg_bind_wrap (wpAny_pure ?_)
      simp only [if_true]
      have hy : ∀ v, yieldOut env v = yieldValue v := fun v => by simp only [yieldOut, hco, Bool.false_eq_true, if_false]
      simp only [hy]
      rw [Sem.bind_eq_wrap', Sem.bind_eq_wrap', Sem.wrap_wrap, Sem.wrap_wrap]
      refine seg_wrap ?_
      rw [over_loopG]
      refine thnF (he.run _ s8 σ8 H8 _ I8 q8) ?_
      rintro yv s9 ⟨y, H9, I9, r9, b, rfl, q9⟩
      have ey : yv = Value.bool b := r9
      subst ey
      -- the iterator's objects stand as they stood
      have pin' : ∀ c ∈ fp, ∀ o, s7.heap.get? c = some o → s9.heap.get? c = some o ∧ H9 c = none := fun c hc o e =>
        let z := I9.pin (c, o) (List.mem_append_right _ (List.mem_append_right _ (mem_pinsAt hc e)))
        ⟨z.1, z.2.1⟩
      have st9 : tn (i + 1) s9.heap := T.keep _ _ _ st7 fun c hc o e => (pin' c hc o e).1
      have n9 : ∀ c ∈ fp, H9 c = none := fun c hc => by
        obtain ⟨o, e, _⟩ := T.obj _ _ st7 c hc
        exact (pin' c hc o e).2
      have I9' : Inv (gcx X (B.deeper env) N s4 H4 env fp) [(a, go)] σ8 H9 s9 := I9.unpinned (pins := [(a, go)])
      refine seg_at (seg_yield rfl rfl rfl ⟨b, H9, σ8, rfl, I9', fun hb => ?_, fun hb s'' h1 h2 h3 => ?_⟩)
      · rw [hb] at q9
        simpa using q9
      · rw [hb] at q9
        have q9' : W (i + 1) H9 := by simpa using q9
        have Iw : Inv (gcx X (B.deeper env) N s4 H4 env fp) [(a, go)] (N.map fun _ => none) H9 s9 := I9'.weak (by rw [I9'.len, List.length_map]) fun j v e => by
          rw [List.getElem?_map] at e
          cases q : N[j]? with
          | none => rw [q] at e; cases e
          | some y => rw [q] at e; cases e
        obtain ⟨k, _, z⟩ := ih (i + 1) s'' s'' H9 (by omega) (inv_same Iw h1 h2 h3) (by rw [h3]; exact st9) n9 q9'
        refine seg_again rfl z
end
end UG


set_option Elab.async false
set_option linter.all false
set_option maxRecDepth 100000
set_option maxHeartbeats 4000000
namespace UG
open PySem PySem.Spec PyProof.Rows L2

section
variable {X : Cx} {N : List Str} {s4 : Shared} {H4 : Hp} {env : Env} {fp : List Addr} {a : Addr} {go : Obj}

theorem bare_set {s : Shared} {g : Nat} {x : GenState} (h : AllBare s.gens) (hx : x.bare = true) : AllBare (s.setGen g x).gens := by
  intro y hy
  have hy' : y ∈ s.gens.setIfInBounds g x := hy
  rcases Array.mem_or_eq_of_mem_setIfInBounds hy' with z | z
  · exact h y z
  · rw [z]; exact hx

theorem get_set {s : Shared} {g : Nat} {x : GenState} (h : g + 1 ≤ (s.setGen g x).gens.size) : (s.setGen g x).gens[g]? = some x := by
  have h1 : (s.setGen g x).gens.size = s.gens.size := GenW.setGen_size s g x
  have h2 : g < s.gens.size := by omega
  show (s.gens.setIfInBounds g x)[g]? = some x
  simp [h2]

/-- the consumer: all's own loop over the generator at a -/
theorem all_turns {A : Around} {g : Nat} {Q : VK} {R : Result → Shared → Prop} (hh : A.handled = none) (hroom : A.depth < recursionLimit)
    (hIG : ∀ (s : Shared), s.heap.get? a = some go → s.heap.IsGen a g)
    (hR : ∀ (b : Bool) (s : Shared) (H3 : Hp) (σ3 : L2.St), Inv (gcx X ((A.in1.in1).deeper env) N s4 H4 env fp) [(a, go)] σ3 H3 s → Q (.bl b) H3 → R (.ok (.ret (.bool b))) s) :
    ∀ (n : Nat) (s : Shared) (gs : GenState) (σ3 : L2.St) (H3 : Hp), s.gens[g]? = some gs → Inv (gcx X ((A.in1.in1).deeper env) N s4 H4 env fp) [(a, go)] σ3 H3 s →
      gs.Goes (model X.prog X.w) A.in1.in1 (fun n s₀ r s₁ => r = .ok .next ∧ GP X ((A.in1.in1).deeper env) N s4 H4 env fp a go Q n s₀ s₁) (GY X ((A.in1.in1).deeper env) N s4 H4 env fp a go Q) n (.send .none) (s.setGen g .running) →
      codeAny (model X.prog X.w) A (.builtin "all.loop" ⟨[.ref a], []⟩) R s := by
  intro n
  induction n with
  | zero =>
    intro s gs σ3 H3 hgs I hgo
    refine codeAny_builtin F.entry_all_loop ?_
    rw [Around.under_plainId F.plain_all_loop _]
    have hsz : g + 1 ≤ s.gens.size := by
      obtain ⟨h1, _⟩ := Array.getElem?_eq_some_iff.mp hgs
      exact h1
    have pa := (I.pin (a, go) (by simp)).1
    show wpAny _ A.in1 (pyNext (.ref a) >>= _) _ _ s
    refine wpAny_bind (GenW.wpAny_gsz hsz ?_)
    refine wpAny_pyNext_genexpQ (P := GP X ((A.in1.in1).deeper env) N s4 H4 env fp a go Q) hh I.nolimit hroom (hIG s pa) hgs hgo ?_ ?_
    · intro v s₁ gs' hb hY hsz1
      obtain ⟨b, H5, σ5, rfl, I5, q1, q2⟩ := hY
      cases b with
      | true => exact (q2 rfl s₁ rfl I5.bare rfl).elim
      | false =>
        refine wpAny_bind (wpAny_holding (wpAny_truthy_bool ?_))
        refine wpAny_bind (wpAny_letGo ?_)
        refine wpAny_bind (wpAny_rule (wpAny_pure ?_))
        exact hR false _ H5 σ5 (inv_same I5 rfl (bare_set I5.bare hb) rfl) (q1 rfl)
    · intro s₁ hp h' hk hsz1
      obtain ⟨H5, σ5, I5, q5⟩ := hp
      refine wpAny_bind (wpAny_rule (wpAny_pure ?_))
      refine hR true _ H5 σ5 ?_ q5
      have I6 := inv_same (s'' := s₁.setGen g .finished) I5 rfl (bare_set I5.bare rfl) rfl
      exact I6.kept (t' := s₁.toks) hk
  | succ n ih =>
    intro s gs σ3 H3 hgs I hgo
    refine codeAny_builtin F.entry_all_loop ?_
    rw [Around.under_plainId F.plain_all_loop _]
    have hsz : g + 1 ≤ s.gens.size := by
      obtain ⟨h1, _⟩ := Array.getElem?_eq_some_iff.mp hgs
      exact h1
    have pa := (I.pin (a, go) (by simp)).1
    show wpAny _ A.in1 (pyNext (.ref a) >>= _) _ _ s
    refine wpAny_bind (GenW.wpAny_gsz hsz ?_)
    refine wpAny_pyNext_genexpQ (P := GP X ((A.in1.in1).deeper env) N s4 H4 env fp a go Q) hh I.nolimit hroom (hIG s pa) hgs hgo ?_ ?_
    · intro v s₁ gs' hb hY hsz1
      obtain ⟨b, H5, σ5, rfl, I5, q1, q2⟩ := hY
      cases b with
      | true =>
        refine wpAny_bind (wpAny_holding (wpAny_truthy_bool ?_))
        refine wpAny_bind (wpAny_letGo ?_)
        simp only [if_true]
        refine wpAny_pure ⟨plainId_quiet F.plain_all_loop _, ?_⟩
        refine ih (s₁.setGen g gs') gs' σ5 H5 (get_set hsz1) (inv_same I5 rfl (bare_set I5.bare hb) rfl) ?_
        exact q2 rfl ((s₁.setGen g gs').setGen g .running) rfl (bare_set (bare_set I5.bare hb) rfl) rfl
      | false =>
        refine wpAny_bind (wpAny_holding (wpAny_truthy_bool ?_))
        refine wpAny_bind (wpAny_letGo ?_)
        refine wpAny_bind (wpAny_rule (wpAny_pure ?_))
        exact hR false _ H5 σ5 (inv_same I5 rfl (bare_set I5.bare hb) rfl) (q1 rfl)
    · intro s₁ hp h' hk hsz1
      obtain ⟨H5, σ5, I5, q5⟩ := hp
      refine wpAny_bind (wpAny_rule (wpAny_pure ?_))
      refine hR true _ H5 σ5 ?_ q5
      have I6 := inv_same (s'' := s₁.setGen g .finished) I5 rfl (bare_set I5.bare rfl) rfl
      exact I6.kept (t' := s₁.toks) hk
end
end UG


set_option Elab.async false
set_option linter.all false
set_option maxRecDepth 100000
set_option maxHeartbeats 4000000
namespace UG
open PySem PySem.Spec PyProof.Rows L2

def tAllG (P : Addr) (wi : TI) (g : TG) (te : TE) (σ0 : L2.St) : TE := fun σ H Q => wi σ H fun J H1 =>
  GxR.TabG H1 P ∧ ∃ (top : Nat) (W : Nat → Hp → Prop), Way J g te σ0 Q top W ∧ ∀ H2, GxR.Tabbed P H1 H2 → W 0 H2

section
variable {X : Cx}
theorem pe_allG {c P : Addr} {elt tg iter : Expr} {p pos gpos : Pos} {scope : Scope} {wi : TI} {g : TG} {te : TE} {N : List Str} {k : Nat}
    (hr : Room (k + 1) X.A) (hg : Gl X "all") (hm : X.mg "all" = none) (hb : bootBuiltins "all" = some (.builtin "all")) (TB : LamX.TabB X.base X.mg c P) (hcode : X.env.code = .ref c)
    (S : GenSc scope) (hi : PI X tg iter wi)
    (hgt : ∀ (A' : Around) (s : Shared) (H : Hp) (C : Addr) (code : Value) (fp : List Addr), Room k A' → PG (gcx X A' N s H (gev X scope C code) fp) tg g)
    (hel : ∀ (A' : Around) (s : Shared) (H : Hp) (C : Addr) (code : Value) (fp : List Addr), Room k A' → PE (gcx X A' N s H (gev X scope C code) fp) elt te)
    (hs : ∀ v, genFold iter X.env v = pure v := by intro _; rfl)
    (he : starEach [.GeneratorExp elt [⟨tg, iter, [], 0⟩] scope gpos] X.env = (false, eval (.GeneratorExp elt [⟨tg, iter, [], 0⟩] scope gpos) X.env) :: starEach [] X.env := by rfl) :
    PE X (.Call (.Name "all" p) [.GeneratorExp elt [⟨tg, iter, [], 0⟩] scope gpos] [] pos) (tAllG P wi g te (N.map fun _ => none)) := by
  refine ⟨fun pins s σ H Q I h => ?_⟩
  refine wpAny_Call_Name_kw (ld_blt I hg hm hb ?_)
  refine PyProof.Rows.callWith_builtin1 ?_ he (by rfl)
  rw [he]
  show wpAny _ _ (spliced ((false, eval (.GeneratorExp elt [⟨tg, iter, [], 0⟩] scope gpos) X.env) :: backTo pos (starEach [] X.env))) _ _ s
  refine Calls.spliced_cons ?_
  have hclos := closure_ok (scope := scope) (env := X.env) fun y hy e => (S.free y hy e).elim
  refine wpAny_GeneratorExp_make S.co hclos S.cell S.dot S.kind (by have := hr.dp; omega) ?_ hs
  refine thn (hi.run pins s σ H _ I h) fun xv s1 hx => thn hx fun itv s2 h2 => ?_
  obtain ⟨it, fp, tn, J, H2, e, I2, T, st2, f2, ⟨ps, hP, ht⟩, top, W, way, w0⟩ := h2
  subst e
  refine ⟨I2.nolimit, ?_⟩
  have hPs : s2.heap.get? P = some { cls := .none, data := .fields ps } := I2.hok P _ hP
  have hPlt : P < s2.heap.objs.size := Heap.lt_size hPs
  have cd : PySem.W.CodeHd s2.heap c P := TB.code.keeps I2.bk
  have szF : ∀ b ∈ fp, b < s2.heap.objs.size := fun b hbf => by
    obtain ⟨o, e, _⟩ := T.obj _ _ st2 b hbf
    exact Heap.lt_size e
  have nPf : ∀ b ∈ fp, b ≠ P := fun b hbf z => by
    have q := (f2 b hbf).1
    rw [z, hP] at q
    cases q
  -- behind the making of the code object
  have cont : ∀ (code : Value) (h3 : Heap) (tk : Nat) (more : Array Value), (∀ b o, b ≠ P → s2.heap.get? b = some o → h3.get? b = some o) → s2.heap.objs.size ≤ h3.objs.size →
      h3.get? P = some { cls := .none, data := .fields (ps ++ more) } → TriplesOk (ps ++ more).toList →
      wpAny (model X.prog X.w) X.A (builtinsFor X.env.globals X.env.builtins) (fun bi s₄ => ∀ h', h'.Ns s₄.heap.objs.size (fun y => if y = (".0" : Str) then some (.ref it) else none) →
        Heap.SameBut s₄.heap.objs.size (s₄.heap.push { cls := .type "frame", data := .dict #[] }) h' →
        wpAny (model X.prog X.w) X.A (spliced (backTo pos (starEach [] X.env))) (fun ws s5 => wpAny (model X.prog X.w) X.A (call (.builtin "all") (.ref h'.objs.size :: ws)) (EP X pins σ Q) X.xe s5) X.xe
          { s₄ with
            gens := s₄.gens.push (.fresh (.compStart (.GeneratorExp elt [⟨tg, iter, [], 0⟩] scope gpos) 0 (.ref it) .none (genEnv scope (cloFrom X.env.cells scope.names []) s₄.heap.objs.size code bi X.env))),
            toks := s₄.toks + 1 + 1 + 1,
            heap := h'.push { cls := .type "generator", data := .fields #[.int s₄.gens.size 0, .str "<genexpr>" (s₄.toks + 1), .str (X.env.qual ++ "<genexpr>") (s₄.toks + 1 + 1)] } }) X.xe { s2 with heap := h3, toks := tk } := by
    intro code h3 tk more k3 sz3 hP3 ht3
    obtain ⟨bm, ob, e1, e2, e3, e4, e5, e6, e7, e8⟩ := TB.bm
    have nsG : h3.Ns X.env.globals X.mg := by
      rw [I2.ok.glob]
      obtain ⟨o, es, ep, ho, r⟩ := I2.mod.glob.keeps I2.bk
      exact ⟨o, es, ep, k3 _ o TB.gP ho, r⟩
    refine wpAny_builtinsFor (m := X.mg) nsG e1 e2 (k3 _ _ e4 (I2.bk _ _ e5)) e6 e7 e8 ?_
    intro h' hn' hsb
    have I4 : Inv X pins σ (upd H2 P (.tbl (ps ++ more))) { s2 with heap := h3, toks := tk } :=
      GxR.inv_tab (g' := s2.gens) (d' := s2.drawn) I2 hP k3 hP3 I2.bare
    generalize hs4 : ({ s2 with heap := h3, toks := tk } : Shared) = s4 at I4 hn' hsb ⊢
    have h4 : s4.heap = h3 := by rw [← hs4]
    have st4 : tn 0 s4.heap := T.keep _ _ _ st2 fun b hbf o e => by rw [h4]; exact k3 b o (nPf b hbf) e
    have f4 : ∀ b ∈ fp, FpOk X pins (upd H2 P (.tbl (ps ++ more))) b ∧ b < s4.heap.objs.size := fun b hbf => by
      refine ⟨⟨by rw [upd_ne (nPf b hbf)]; exact (f2 b hbf).1, (f2 b hbf).2⟩, ?_⟩
      rw [h4]
      exact Nat.lt_of_lt_of_le (szF b hbf) sz3
    have szh : h'.objs.size = s4.heap.objs.size + 1 := by rw [hsb.1, Heap.size_push]
    have kp' : ∀ b o, s4.heap.get? b = some o → h'.get? b = some o := fun b o e => hsb.extBut b o (Nat.ne_of_lt (Heap.lt_size e)) (Heap.get?_push_of_some _ e)
    generalize hgo : ({ cls := .type "generator", data := .fields #[.int s4.gens.size 0, .str "<genexpr>" (s4.toks + 1), .str (X.env.qual ++ "<genexpr>") (s4.toks + 1 + 1)] } : Obj) = go
    generalize hs5 : ({ s4 with
            gens := s4.gens.push (.fresh (.compStart (.GeneratorExp elt [⟨tg, iter, [], 0⟩] scope gpos) 0 (.ref it) .none (genEnv scope (cloFrom X.env.cells scope.names []) s4.heap.objs.size code builtinsNs X.env))),
            toks := s4.toks + 1 + 1 + 1,
            heap := h'.push go } : Shared) = s5
    have h5 : s5.heap = h'.push go := by rw [← hs5]
    have kp5 : ∀ b o, s4.heap.get? b = some o → s5.heap.get? b = some o := fun b o e => by rw [h5]; exact Heap.get?_push_of_some _ (kp' b o e)
    have ga : s5.heap.get? h'.objs.size = some go := by rw [h5]; exact Heap.get?_push_size _ (by rw [← hgo] <;> rfl)
    have bare5 : AllBare s5.gens := by
      rw [← hs5]
      exact I4.bare.push rfl
    have g5 : s5.gens[s4.gens.size]? = some (.fresh (geStart elt tg iter scope gpos it (gev X scope s4.heap.objs.size code))) := by
      rw [← hs5]
      exact Array.getElem?_push_size ..
    have hA' : Room k ((X.A.in1.in1).deeper (gev X scope s4.heap.objs.size code)) := by
      refine ⟨hr.hd, ?_, ?_⟩
      · have := hr.dp
        show X.A.depth + 1 + 3 * k + 5 < _
        omega
      · have := hr.un
        show X.A.units + 1 + 1 + 3 + 16 * k + 200 < _
        omega
    have J5 := gen_begin (N := N) (fp := fp) (A' := (X.A.in1.in1).deeper (gev X scope s4.heap.objs.size code)) (s5 := s5) (a := h'.objs.size) (go := go) I4 S f4 hr.hd
      (Around.frames_deeper (A := X.A.in1.in1) I4.ok.frames) kp5 (by rw [← hs5]) bare5 (by rw [h5]; exact hn'.push _) (by rw [szh]; exact Nat.lt_succ_self _) ga (by rw [← hgo]; intro v z; cases z)
    refine Calls.spliced_nil ?_
    refine call_function_tree F.kind_all F.plain_all F.entry_all (F.args_all1 _) ?_
    unfold Builtin.«all»
    refine wpAny_bind (m := oneArg "all" _) (wpAny_pure ?_)
    have isG : s5.heap.IsGen h'.objs.size s4.gens.size := ⟨go, _, _, ga, by rw [← hgo], by rw [← hgo], by rw [← hgo]⟩
    refine wpAny_bind (wpAny_pyIter_gen isG ?_)
    refine wpAny_pure ⟨plainId_quiet F.plain_all_loop _, ?_⟩
    have w4 : W 0 (upd H2 P (.tbl (ps ++ more))) := w0 _ ⟨⟨_, upd_same, ht3⟩, fun b hbn => upd_ne hbn⟩
    refine all_turns (X := X) (N := N) (s4 := s4) (H4 := upd H2 P (.tbl (ps ++ more))) (env := gev X scope s4.heap.objs.size code) (fp := fp) (a := h'.objs.size) (go := go) (g := s4.gens.size) (Q := Q)
      hr.hd (by have := hr.dp; show X.A.depth < _; omega) (fun s6 h6 => ⟨go, _, _, h6, by rw [← hgo], by rw [← hgo], by rw [← hgo]⟩) ?_ top s5 _ _ _ g5 J5 ?_
    · intro b s6 H6 σ6 I6 q6
      exact ⟨.bl b, H6, gen_back I4 (fun b hbf => (f4 b hbf).1) I6, rfl, q6⟩
    · refine ⟨rfl, ?_⟩
      have J6 := inv_same (s'' := s5.setGen s4.gens.size .running) J5 rfl (bare_set J5.bare rfl) rfl
      have st5 : tn 0 s5.heap := T.keep _ _ _ st4 fun b _ o e => kp5 b o e
      have nf : ∀ b ∈ fp, upd H2 P (.tbl (ps ++ more)) b = none := fun b hbf => (f4 b hbf).1.1
      have faN : h'.objs.size ∉ fp := fun z => by
        have q := (f4 _ z).2
        rw [szh] at q
        exact Nat.lt_irrefl _ (Nat.lt_trans (Nat.lt_succ_self _) q)
      have loop : ∀ s₀, ∃ k, k ≤ top ∧ _ := fun s₀ => seg_walk (X := X) (B := X.A.in1.in1) (N := N) (s4 := s4) (H4 := upd H2 P (.tbl (ps ++ more))) (env := gev X scope s4.heap.objs.size code) (fp := fp) (a := h'.objs.size) (go := go)
        (gpos := gpos) (elt := elt) (iter := iter) (scope := scope) (Q := Q) (top := top) (W := W) S.co T (hgt _ _ _ _ _ _ hA') (hel _ _ _ _ _ _ hA') faN way top 0 s₀ (s5.setGen s4.gens.size .running) _ (Nat.sub_le _ _) J6 st5 nf w4
      obtain ⟨_, _, loop⟩ := loop (s5.setGen s4.gens.size .running)
      show Seg _ _ _ _ _ _ _ ((compStart (.GeneratorExp elt [⟨tg, iter, [], 0⟩] scope gpos) 0 (.ref it) .none (gev X scope s4.heap.objs.size code)).onRaise (leaving (gev X scope s4.heap.objs.size code))) [] _
      unfold compStart
      rw [Sem.onRaise_eq_wrap]
      show Seg _ _ _ _ _ _ _ ((ask >>= _).wrap _ _ _ _) [] _
      refine seg_bind_wrap (wpAny_askSetting ?_)
      split
      · exact seg_again rfl loop
      · refine seg_bind_wrap (wpAny_rule ?_)
        show Seg _ _ _ _ _ _ _ ((standAt iter.pos >>= _).wrap _ _ _ _) [] _
        refine seg_bind_wrap (wpAny_standAt ?_)
        refine seg_bind_wrap ?_
        exact T.self _ 0 _ _ _ st5 (seg_again rfl loop)
  cases hf : codeAmong gpos ps.toList with
  | none =>
    refine wpAny_genexprCodeX hcode (cd.code hPs ht) (cd.tab hPs) hf ?_
    intro c' h3 tk hx hge hlt hco' _ htab' _
    obtain ⟨o1, vs, f1, tf, fl, tg', inF, tx, tt, op, _, _, _, _, _, _, _, _, _, htr, _⟩ := hco'
    exact cont _ h3 tk _ (fun b o hbn e => hx b o hbn e) (Nat.le_trans hge (Nat.le_of_lt hlt)) htab'.2 htr
  | some cv =>
    refine wpAny_genexprCode_hit hcode (cd.code hPs ht) hf ?_
    have z := cont cv s2.heap s2.toks #[] (fun _ _ _ e => e) (Nat.le_refl _) (by rw [Array.append_empty]; exact hPs) (by rw [Array.append_empty]; exact ht)
    exact z
end
end UG


set_option Elab.async false
set_option linter.all false
set_option maxRecDepth 100000
set_option maxHeartbeats 4000000
/-! enumerate(t), t a tuple; t * n to some thousands -/
namespace UG
open PySem PySem.Spec PyProof.Rows L2

theorem enum_new1 {v : Value} {o : Obj} {H : Heap → Prop} (B : Begins v o H) :
    Meets (Builtin.«enumerate.__new__» ⟨[.type "enumerate", v], []⟩) (fun _ R s => H s.heap ∧
      R (.ok (.ret (.ref (s.heap.push o).objs.size))) { s with heap := (s.heap.push o).push { cls := .type "enumerate", data := .fields #[.none, .bool false, .ref s.heap.objs.size, rawInt 0, .none, .none] } }) :=
  .of_wp fun prog w A R s h => by
    obtain ⟨hp, g, d, tk, os⟩ := s
    obtain ⟨h1, h⟩ := h
    have hsub := sub_enumerate
    have goes : ∀ {A' : Around} {E : Value → Shared → Prop} {Q : Value → Shared → Prop}, Q (.ref hp.objs.size) ⟨hp.push o, g, d, tk, os⟩ → wpAny (model prog w) A' (pyIter v) Q E ⟨hp, g, d, tk, os⟩ :=
      fun q => B.iter prog w _ _ ⟨hp, g, d, tk, os⟩ _ h1 q
    wp_walk using goes
    refine wpAny_stack_any fun st => wpAny_pure ?_
    split
    · rename_i c _ _ _ _ _
      cases (c == Value.type "enumerate")
      all_goals (wp_walk using goes; exact ⟨_, rfl, h⟩)
    · wp_walk using goes
      exact ⟨_, rfl, h⟩

section
variable {prog : Program} {w : World} {A : Around} {E : Value → Shared → Prop} {s : Shared}
theorem enum_call1 {v : Value} {o : Obj} {H : Heap → Prop} {Q : Value → Shared → Prop} (B : Begins v o H) (h1 : H s.heap)
    (h : ∀ h', IsEnum h' (s.heap.objs.size + 1) s.heap.objs.size 0 .none → h'.get? s.heap.objs.size = some o →
      (∀ b o, s.heap.get? b = some o → h'.get? b = some o) → Q (.ref (s.heap.objs.size + 1)) { s with heap := h' }) :
    wpAny (model prog w) A (call (.type "enumerate") [v]) Q E s := by
  refine callType_new F.called_enumerate (by decide) (F.typeCall_enumerate_1 _) (F.newCall_enumerate_1 _)
    (fun obj => F.args_object_init_2 obj _) F.entry_enumerate_new (enum_new1 B) ⟨h1, ?_⟩
  have sz : (s.heap.push o).objs.size = s.heap.objs.size + 1 := Heap.size_push ..
  show _ ∧ _
  rw [sz]
  have atE := Heap.get?_push_size (s.heap.push o) (o := { cls := .type "enumerate", data := .fields #[.none, .bool false, .ref s.heap.objs.size, rawInt 0, .none, .none] }) rfl
  rw [sz] at atE
  refine ⟨⟨_, atE, rfl⟩, h _ atE (Heap.get?_push_of_some _ (Heap.get?_push_size _ B.free)) ?_⟩
  intro b o' e
  exact Heap.get?_push_of_some _ (Heap.get?_push_of_some _ e)
end

/-- the tuple at a, each item in a new pair -/
def Iet (K : PySem.W.Frag) (a : Addr) : It :=
  ⟨fun i H => ∃ (xs : List V) (x : V), SqT K H a xs ∧ xs[i]? = some x,
   fun i H v H' => ∃ T x, v = .ref T ∧ H T = none ∧ H' = upd H T (.tup [.int (i : Nat), x]) ∧ ∀ xs, SqT K H a xs → xs[i]? = some x,
   fun i H => ∃ xs : List V, SqT K H a xs ∧ xs.length ≤ i⟩

theorem turn_enumT {P : Program} {w : World} {K : PySem.W.Frag} {elts : List Expr} {kk : Nat} {tpos : Pos} (a e it : Addr) :
    Turn P w K (.Tuple elts kk tpos) (Iet K a) [e, it] e (fun i h => (∃ old, IsEnum h e it ((i : Nat) : Int) old) ∧ h.IsTupleIter it a i ∧ e ≠ it) where
  mem := by simp
  obj := by
    intro i h st b hb
    obtain ⟨⟨old, he⟩, ⟨o, ho, hc, hd⟩, _⟩ := st
    rcases (show b = e ∨ b = it by simpa using hb) with z | z
    · subst z
      exact ⟨_, he, fun v q => nomatch q⟩
    · subst z
      refine ⟨o, ho, ?_⟩
      intro v q
      rw [hd] at q
      cases q
  keep := by
    intro i h h' st k
    obtain ⟨⟨old, he⟩, hi, hne⟩ := st
    exact ⟨⟨old, k e (by simp) _ he⟩, hi.at fun o q => k it (by simp) o q, hne⟩
  item := by
    intro X hP hw hK hc i pins s σ H E I hf st hg
    subst hP hw hK
    obtain ⟨⟨old, he⟩, hit, hne⟩ := st
    obtain ⟨xs, x, hq, hx⟩ := hg
    obtain ⟨its, rv, p, hz⟩ := I.tuple hq
    obtain ⟨u, hu, ru⟩ := rv.get hx
    have hel : e < s.heap.objs.size := Heap.lt_size he
    have hil : it < s.heap.objs.size := by
      obtain ⟨_, q, _⟩ := hit
      exact Heap.lt_size q
    have pT : s.heap.IsTuple a its.toArray := p
    have nEa : e ≠ a := by
      intro z
      obtain ⟨o, ho, _, n, hd⟩ := pT
      have he' := he
      unfold IsEnum at he'
      rw [z, ho] at he'
      cases he'
      cases hd
    have nIa : a ≠ it := by
      intro z
      obtain ⟨o, ho, _, n, hd⟩ := pT
      obtain ⟨o2, ho2, _, hd2⟩ := hit
      rw [z, ho2] at ho
      cases ho
      rw [hd2] at hd
      cases hd
    have D := Draws.tuple (prog := X.prog) (w := X.w) (A := X.A.in1) (I.ok.hd hc) it a nIa its.toArray
    have hi : i < its.toArray.size := by
      have l1 := (List.getElem?_eq_some_iff.mp hx).1
      have l2 := rv.length
      simp
      omega
    refine wpAny_pyNext_enum_itemD D he ⟨hit, pT⟩ hi hne (by simp; exact ⟨hne, nEa⟩) fun y h' tk hy ho hst' hT hsz hk => ?_
    have ey : y = u := by
      have q : its.toArray[i]? = some y := hy
      rw [List.getElem?_toArray] at q
      exact Option.some.inj (q.symm.trans hu)
    subst ey
    refine ⟨_, rfl, wpAny_letOwnedTupleGo_enum (s := { s with heap := h', toks := tk + 1 }) ho fun h'' he' sb => ?_⟩
    have hT2 : h''.get? s.heap.objs.size = some { cls := .type "tuple", data := .seq #[.int i tk, y] } := (sb.2 _ (Nat.ne_of_gt hel)).trans hT
    have new : ObjOk X.prog X.w (upd H s.heap.objs.size (.tup [.int (i : Nat), x])) h'' s.heap.objs.size (.tup [.int (i : Nat), x]) :=
      ⟨by show 2 ≤ sizeLine; decide, [.int i tk, y], .cons ⟨_, rfl⟩ (.cons ru .nil), ⟨_, hT2, rfl, _, rfl⟩⟩
    have kk2 : ∀ b o, b ∉ [e, it] → s.heap.get? b = some o → h''.get? b = some o := by
      intro b o hb q
      have b1 : b ≠ e := fun z => hb (by simp [z])
      have b2 : b ≠ it := fun z => hb (by simp [z])
      exact (sb.2 b b1).trans (hk b o b1 b2 q)
    have I1 : Inv X pins σ (upd H s.heap.objs.size (.tup [.int (i : Nat), x])) { s with heap := h'', toks := tk + 1 } :=
      I.turnedNew (ch := [e, it]) kk2 hf (Nat.le_refl _) new
    refine ⟨.ref s.heap.objs.size, _, I1, rfl, ⟨_, x, rfl, I.hok.fresh (Nat.le_refl _), rfl, fun ys hy => by rw [I.tuple_inj hy hq]; exact hx⟩, ⟨⟨y, ?_⟩, hst'.1.at fun o q => (sb.2 it (Ne.symm hne)).trans q, hne⟩, ?_⟩
    · have e1 : ((i + 1 : Nat) : Int) = (i : Int) + 1 := by omega
      rw [e1]
      exact he'
    · intro b hb
      have hb' : b < s.heap.objs.size := by
        rcases (show b = e ∨ b = it by simpa using hb) with z | z
        · rw [z]; exact hel
        · rw [z]; exact hil
      rw [upd_ne (Nat.ne_of_lt hb')]
      exact (hf b hb).1
  done := by
    intro X hP hw hK hc i pins s σ H E I hf st hg
    subst hP hw hK
    obtain ⟨⟨old, he⟩, hit, hne⟩ := st
    obtain ⟨xs, hq, hx⟩ := hg
    obtain ⟨its, rv, p, hz⟩ := I.tuple hq
    have pT : s.heap.IsTuple a its.toArray := p
    have nIa : a ≠ it := by
      intro z
      obtain ⟨o, ho, _, n, hd⟩ := pT
      obtain ⟨o2, ho2, _, hd2⟩ := hit
      rw [z, ho2] at ho
      cases ho
      rw [hd2] at hd
      cases hd
    obtain ⟨f0, f1, f2, f3, f4, f5⟩ := hf it (by simp)
    have hl := rv.length
    have D : Draws X.prog X.w X.A.in1 it [it, a] i (fun _ _ => False) (fun j h => j = i ∧ h.IsTupleIter it a i ∧ h.IsTuple a its.toArray) :=
      { live := fun _ _ st => let ⟨o, ho, _⟩ := st.2.1; ⟨o, ho⟩
        frame := fun _ _ _ st hk => ⟨st.1, st.2.1.at fun o e => hk it (by simp) o e, st.2.2.at fun o e => hk a (by simp) o e⟩
        item := fun j s Q E hj st hQ => absurd st.1 (Nat.ne_of_lt hj)
        done := fun s Q E st hE => wpAny_nextOf_tuple_end (I.ok.hd hc) st.2.1 st.2.2 (by simp; omega) hE }
    exact wpAny_pyNext_enum_endD D he ⟨rfl, hit, pT⟩ fun h' eb => ⟨rfl, I.turned (t' := s.toks) (fun b o hb q => eb b o hb q) f0 f1 f3 f4 f5⟩
  self := by
    intro A i s Q E st h
    obtain ⟨⟨_, he⟩, _⟩ := st
    exact wpAny_pyIter_enum he h

def iEnumT (K : PySem.W.Frag) (ta : TA) : TI := fun σ H R => ta σ H fun vs H1 => ∃ a xs, vs = [.ref a] ∧ SqT K H1 a xs ∧ R (Iet K a) H1
theorem pi_enumT {X : Cx} {e : Expr} {ta : TA} {p pos tpos : Pos} {elts : List Expr} {kk : Nat} (hg : Gl X "enumerate") (hm : X.mg "enumerate" = none) (ha : PA X [e] ta)
    (hs : starEach [e] X.env = [(false, eval e X.env)] := by rfl) :
    PI X (.Tuple elts kk tpos) (.Call (.Name "enumerate" p) [e] [] pos) (iEnumT X.K ta) := by
  refine ⟨fun pins s σ H R I h => ?_⟩
  refine Call_ (ld_blt I hg hm boot_enumerate (PyProof.Rows.callWith_type1 (thn (ha.run pos pins s σ H _ I h) ?_) hs rfl))
  rintro us s1 ⟨vs, H1, I1, r1, a, xs, rfl, hq, q⟩
  obtain ⟨its, rv, p', hz⟩ := I1.tuple hq
  cases r1 with
  | cons r rr =>
    cases rr
    cases r
    have pT : s1.heap.IsTuple a its.toArray := p'
    refine enum_call1 (begins_tuple a its.toArray) pT fun h' he hit hk => wpAny_pyIter_enum he ?_
    have I2 : Inv X pins σ H1 { s1 with heap := h' } := I1.kept (t' := s1.toks) hk
    refine ⟨s1.heap.objs.size + 1, [s1.heap.objs.size + 1, s1.heap.objs.size], _, _, H1, rfl, I2, turn_enumT a (s1.heap.objs.size + 1) s1.heap.objs.size, ⟨⟨.none, he⟩, ⟨_, hit, rfl, rfl⟩, Nat.succ_ne_self _⟩, ?_, q⟩
    intro b hb
    have hle : s1.heap.objs.size ≤ b := by
      rcases (show b = s1.heap.objs.size + 1 ∨ b = s1.heap.objs.size by simpa using hb) with z | z
      · rw [z]; exact Nat.le_succ _
      · rw [z]; exact Nat.le_refl _
    exact I1.fpOk hle (I1.hok.fresh hle)
end UG


set_option Elab.async false
set_option linter.all false
set_option maxRecDepth 100000
set_option maxHeartbeats 4000000
namespace UG
open PySem PySem.Spec PyProof.Rows L2

/-! ### t[::-1], t a tuple -/
theorem fm_congr {α β : Type} {f g : α → Option β} : ∀ {l : List α}, (∀ x ∈ l, f x = g x) → l.filterMap f = l.filterMap g
  | [], _ => rfl
  | x :: r, h => by
    rw [List.filterMap_cons, List.filterMap_cons, h x List.mem_cons_self, fm_congr fun y hy => h y (List.mem_cons_of_mem _ hy)]
theorem adj_back (n : Nat) : Builtin.Slice.sliceAdjust none none (-1) (n : Int) = ((n : Int) - 1, -1) := rfl
theorem plc_back (n : Nat) : Builtin.Slice.slicePlaces ((n : Int) - 1) (-1) (-1) = n := by
  unfold Builtin.Slice.slicePlaces
  rw [if_neg (by decide)]
  by_cases h : (n : Int) - 1 > -1
  · rw [if_pos h]
    have e : ((n : Int) - 1 - -1 - 1) / (- -1) + 1 = (n : Int) := by
      rw [show (- -1 : Int) = 1 by decide, Int.ediv_one]
      omega
    rw [e]
    rfl
  · rw [if_neg h]
    have e : n = 0 := by omega
    subst e
    rfl
section
variable {prog : Program} {w : World} {A : Around} {E : Value → Shared → Prop} {s : Shared}
theorem applied_back {sl : Addr} {vl vu vs : Value} {n : Nat} {Q : Int × Int × Nat → Shared → Prop} (hs : s.heap.IsSliceOf sl vl vu vs) (pl : IsPart vl none) (pu : IsPart vu none) (ps : IsPart vs (some (-1)))
    (h : Q ((n : Int) - 1, -1, n) s) : wpAny (model prog w) A (Builtin.Slice.sliceApplied (.ref sl) (pure (n : Int))) Q E s := by
  obtain ⟨ob, hob, hc, hd⟩ := id hs
  unfold Builtin.Slice.sliceApplied Builtin.Slice.sliceFields
  refine wpAny_bind (wpAny_bind (wpAny_field hob hd (x := vl) rfl (wpAny_bind (wpAny_field hob hd (x := vu) rfl (wpAny_bind (wpAny_field hob hd (x := vs) rfl (wpAny_pure ?_)))))))
  refine wpAny_bind (HT.slicePart_ ps ?_)
  show wpAny _ _ (if ((-1 : Int) == 0) = true then _ else _) _ _ s
  rw [if_neg (by decide)]
  refine wpAny_bind (HT.slicePart_ pl (wpAny_bind (HT.slicePart_ pu (wpAny_bind (wpAny_pure ?_)))))
  show wpAny _ _ (match Builtin.Slice.sliceAdjust none none (-1) (n : Int) with | (lo, hi) => pure (lo, (-1 : Int), Builtin.Slice.slicePlaces lo hi (-1))) _ _ s
  rw [adj_back]
  show wpAny _ _ (pure ((n : Int) - 1, (-1 : Int), Builtin.Slice.slicePlaces ((n : Int) - 1) (-1) (-1))) _ _ s
  rw [plc_back]
  exact wpAny_pure h
theorem pick_back (xs : Array Value) : ((List.range xs.size).filterMap fun (m : Nat) => xs[((xs.size : Int) - 1 + (m : Int) * -1).toNat]?).toArray = xs.toList.reverse.toArray := by
  have e : ∀ m ∈ List.range xs.size, (fun (m : Nat) => xs[((xs.size : Int) - 1 + (m : Int) * -1).toNat]?) m = (fun m => xs[xs.size - 1 - m]?) m := by
    intro m hm
    have hm' := List.mem_range.mp hm
    have q : ((xs.size : Int) - 1 + (m : Int) * -1).toNat = xs.size - 1 - m := by omega
    show xs[((xs.size : Int) - 1 + (m : Int) * -1).toNat]? = _
    rw [q]
  have e2 : (List.range xs.size).filterMap (fun (m : Nat) => xs[((xs.size : Int) - 1 + (m : Int) * -1).toNat]?) = (List.range xs.size).filterMap (fun m => xs[xs.size - 1 - m]?) := fm_congr e
  rw [e2]
  have e3 : (List.range xs.size).filterMap (fun m => xs[xs.size - 1 - m]?) = ((List.range xs.size).map (fun k => xs.size - 1 - k)).filterMap (xs[·]?) := by
    rw [List.filterMap_map]
    rfl
  rw [e3, PySem.W.krv_range, List.filterMap_reverse, PySem.W.krv_all]
theorem getItem_tupBack {t sl : Addr} {items : Array Value} {vl vu vs : Value} {Q : Value → Shared → Prop} (ht : IsTup s.heap t items) (hs : s.heap.IsSliceOf sl vl vu vs) (pl : IsPart vl none) (pu : IsPart vu none) (ps : IsPart vs (some (-1)))
    (h : Q (.ref s.heap.objs.size) { s with heap := s.heap.push { cls := .type "tuple", data := .seq items.toList.reverse.toArray } })
    (hsz : items.size ≤ sizeLine) : wpAny (model prog w) A (getItem (.ref t) (.ref sl)) Q E s := by
  obtain ⟨os, hos, hcs, hds⟩ := id hs
  have tS : s.TypeIs (.ref sl) "slice" := ⟨os, hos, hcs⟩
  unfold getItem
  try with_reducible refine wpAny_holding ?_
  first | refine wpAny_bind (wpAny_pure ?_) | skip
  refine wpAny_bind (wpAny_sequenceKey ht.typeIs (by decide) ?_)
  refine wpAny_bind (wpAny_callSpecial?_slot (name := Str.ofString "__getitem__") ht.typeIs PyProof.Rows.slot_tuple_getitem (wpAny_call_entry PyProof.Rows.slot_tuple_getitem ht.typeIs entry_tuple_getitem ?_ (args_tuple_getitem _ _)))
  show wpAny _ _ (Builtin.Tuple.tupleItemsOf (.ref t) >>= _) _ _ s
  refine wpAny_bind (tupleItemsOf_ ht ?_)
  refine wpAny_bind (wpAny_typeOf tS ?_)
  rw [if_pos (by decide)]
  refine wpAny_bind (applied_back hs pl pu ps ?_)
  have no : ¬ ((((items.size : Int) - 1) == 0 && (-1 : Int) == 1 && items.size == items.size) = true) := by
    intro q
    rw [Bool.and_eq_true, Bool.and_eq_true] at q
    exact absurd q.1.2 (by decide)
  show wpAny _ _ (if (((items.size : Int) - 1) == 0 && (-1 : Int) == 1 && items.size == items.size) = true then _ else _) _ _ s
  rw [if_neg no]
  rw [pick_back]
  have fit : sizeOk (.seq items.toList.reverse.toArray) := by
    show items.toList.reverse.toArray.size ≤ sizeLine
    simpa using hsz
  exact wpAny_bind (m := Builtin.Tuple.tupleExact _) (wpAny_newObj_type (wpAny_pure ⟨_, rfl, wpAny_pure h⟩) fit)
end
section
variable {X : Cx}
def tRevT (K : PySem.W.Frag) (te : TE) : TE := fun σ H Q => te σ H fun x H1 => ∃ a xs, x = .ref a ∧ SqT K H1 a xs ∧ ∀ p, H1 p = none → Q (.ref p) (upd H1 p (.tup xs.reverse))
theorem pe_revT {e : Expr} {te : TE} {k : Nat} {p1 p2 p3 pos : Pos} (he : PE X e te) : PE X (.Subscript e (.Slice none none (some (.UnaryOp .USub (.Constant (.int 1) k p1) p2)) p3) pos) (tRevT X.K te) := by
  refine ⟨fun pins s σ H Q I h => ?_⟩
  refine Subscript_ (thn (he.run pins s σ H _ I h) ?_)
  rintro v s1 ⟨x, H1, I1, r1, a, xs, rfl, hx, q⟩
  cases r1
  have part : PO X (some (.UnaryOp .USub (.Constant (.int 1) k p1) p2)) (tPart (tUn (rU fun i => .int (-i)) (tC (.int 1)))) := po_some (pe_un un_neg pe_int)
  refine wpAny_Slice (thn (po_none.run pins s1 σ H1 (fun o H2 => o = none ∧ H2 = H1) I1 ⟨rfl, rfl⟩) ?_)
  rintro vl s2 ⟨l, H2, I2, pl, rfl, rfl⟩
  refine thn (po_none.run pins s2 σ H2 (fun o H3 => o = none ∧ H3 = H2) I2 ⟨rfl, rfl⟩) ?_
  rintro vu s3 ⟨u, H3, I3, pu, rfl, rfl⟩
  refine thn (part.run pins s3 σ H3 (fun o H4 => o = some (-1) ∧ H4 = H3) I3 ⟨1, rfl, -1, rfl, rfl, rfl⟩) ?_
  rintro vs s4 ⟨o, H4, I4, ps, rfl, rfl⟩
  have I5 : Inv X pins σ H4 { s4 with heap := s4.heap.push { cls := .type "slice", data := .fields #[vl, vu, vs] } } := I4.kept (t' := s4.toks) fun b ob e => Heap.get?_push_of_some _ e
  obtain ⟨its, r, ht, hz⟩ := I5.tuple hx
  have hl := r.length
  show wpAny _ X.A (subscriptTail e (.Slice none none (some (.UnaryOp .USub (.Constant (.int 1) k p1) p2)) p3) (.ref a) (.ref s4.heap.objs.size)) _ X.xe { s4 with heap := s4.heap.push { cls := .type "slice", data := .fields #[vl, vu, vs] } }
  refine tail_any (ops := [.ref a, .ref s4.heap.objs.size]) ht.typeIs PyProof.Rows.slot_tuple_getitem.lookup ?_ (by with_unfolding_all rfl)
  refine getItem_tupBack ht (Heap.IsSliceOf.new _ vl vu vs) pl pu ps ?_ (by rw [List.size_toArray]; omega)
  refine ⟨.ref _, _, I5.laid (t' := s4.toks) (o := .tup xs.reverse) (fun b ob e => Heap.get?_push_of_some _ e) (Nat.le_refl _) ?_, rfl, q _ (I5.hok.fresh (Nat.le_refl _))⟩
  exact ⟨by rw [List.length_reverse]; exact hz, _, r.reverse, IsTup.new _ _⟩

/-- t * n, some million items at most -/
def rRepB (K : PySem.W.Frag) : R2 := fun x y H Q => ∃ l k xs, x = .ref l ∧ y = .int k ∧ SqT K H l xs ∧ xs ≠ [] ∧ 2 ≤ k ∧ k ≤ 1000000 ∧ ((xs.length : Nat) : Int) * k ≤ 1000000 ∧
  ∀ p, H p = none → Q (.ref p) (upd H p (.tup (List.replicate k.toNat xs).flatten))
theorem op_repB : OpR X (binaryOp .Mult) (rRepB X.K) := by
  intro pins s σ H x y v u Q I rx ry h
  obtain ⟨l, k, xs, rfl, rfl, hT, hne, h1, h2, hz, q⟩ := h
  cases rx
  obtain ⟨t, rfl⟩ := ry
  obtain ⟨its, r, ⟨⟨cls, dd, data, sl⟩, ho, hc, n, hd⟩, hs⟩ := I.tuple hT
  simp only at hc hd
  subst hc hd
  have len : its.length = xs.length := r.length.symm
  have its0 : its ≠ [] := by
    rintro rfl
    exact hne (List.eq_nil_of_length_eq_zero len.symm)
  have emp : its.toArray.isEmpty = false := by
    cases its with
    | nil => exact absurd rfl its0
    | cons a b => rfl
  have sz : its.toArray.size = xs.length := by rw [List.size_toArray, len]
  have kk : ((k.toNat : Nat) : Int) = k := by omega
  have prod : k.toNat * xs.length ≤ 1000000 := by
    have q1 : ((k.toNat * xs.length : Nat) : Int) ≤ 1000000 := by
      rw [Int.natCast_mul, kk, Int.mul_comm]
      exact hz
    omega
  have bound : ((its.toArray.size : Nat) : Int) * k ≤ 1000000 := by rw [sz]; exact hz
  have flat : (List.replicate k.toNat its).flatten.length ≤ sizeLine := by
    rw [PyProof.Rows.lm_len_rep_flat, len, sizeLine_eq]
    omega
  have a0 : (decide (k < -(2 ^ 63)) || decide (k ≥ 2 ^ 63)) = false := by
    rw [decide_eq_false (by omega), decide_eq_false (by omega)] <;> rfl
  have a1 : (its.toArray.isEmpty || k == 1) = false := by
    rw [emp, Bool.false_or]
    exact beq_eq_false_iff_ne.mpr (by omega)
  have a2 : (decide (k ≤ 0) || its.toArray.isEmpty) = false := by
    rw [emp, Bool.or_false]
    exact decide_eq_false (by omega)
  have a4 : Builtin.Tuple.tupleTooMany (((its.toArray.size : Nat) : Int) * k) = false := by
    unfold Builtin.Tuple.tupleTooMany
    rw [sizeLine_eq]
    exact decide_eq_false (by omega)
  have mul := tuple_mulW l its.toArray n dd sl k t a0 a1 a2 (by omega) a4 (by rw [size_rep, List.size_toArray]; exact flat)
  have fin : EP X pins σ Q (Value.ref s.heap.objs.size) { s with heap := s.heap.push { cls := Value.type "tuple", data := Data.seq (List.foldl (fun x1 x2 => x1 ++ x2) #[] (List.replicate k.toNat its.toArray)) }, toks := s.toks } := by
    rw [size_rep]
    refine ⟨.ref s.heap.objs.size, _, I.laid (t' := s.toks) (o := .tup (List.replicate k.toNat xs).flatten) (fun b ob e => Heap.get?_push_of_some _ e) (Nat.le_refl _) ?_, rfl, q _ (I.hok.fresh (Nat.le_refl _))⟩
    refine ⟨?_, _, r.rep k.toNat, IsTup.new _ _⟩
    rw [PyProof.Rows.lm_len_rep_flat, sizeLine_eq]
    omega
  have tl : s.TypeIs (.ref l) "tuple" := ⟨_, ho, rfl⟩
  exact wpAny_binaryOp_repeat_ref (T := "tuple") (U := "int") (by decide) tl (fun s' => typeIs_int s' k t) noFill_tuple_mul F.fills_int_mul F.slot_int_rmul repeat_tuple F.slot_int_index.lookup
    (call_meets F.slot_int_rmul (typeIs_int s k t) F.entry_int_rmul (F.args_int_rmul_2 _ _) (int_rmul_tuple k t l its.toArray n dd sl) ⟨ho, rfl, tl, call_meets F.slot_tuple_mul tl F.entry_tuple_mul (F.args_tuple_mul_2 _ _) mul ⟨ho, fin⟩⟩)
end
end UG


set_option Elab.async false
set_option linter.all false
set_option maxRecDepth 100000
set_option maxHeartbeats 4000000
/-! d.setdefault(t, e), t a tuple of ints and texts -/
namespace UG
open PySem PySem.Spec PyProof.Rows L2
section
variable {X : Cx} {pins : List (Addr × Obj)} {σ : L2.St} {H : Hp} {sh : Shared} {D b : Addr} {r : Value} {d : V} {k : List Key} {A : Around} {E : Value → Shared → Prop} {kvs : List (List Key × V)} {Q : Value → Shared → Prop}
theorem setd_tup (room : A.units + 1 < cLine) (J : Inv X pins σ H sh) (hD : H D = some (.dT kvs)) (hb : H b = some (.tup (k.map kV))) (rd : RelV d r) (small : kvs.length < sizeLine)
    (there : ∀ v, valV kvs k = some v → ∀ u s1, Inv X pins σ H s1 → RelV v u → Q u s1)
    (gone : valV kvs k = none → ∀ s1, Inv X pins σ (upd H D (.dT (putK kvs k d))) s1 → Q r s1) :
    wpAny (model X.prog X.w) A (call (.builtin "dict.setdefault") [.ref D, .ref b, r]) Q E sh := by
  obtain ⟨z0, nsys, ents, kt, dict⟩ := dt_of J.hok hD
  have le0 : ents.length ≤ sizeLine := by have := Paired.length kt; omega
  have le1 : (putK kvs k d).length ≤ sizeLine := by have := length_putK kvs k d; omega
  have vk := kt.val k
  refine call_setdefault_heap (hsz := le0) (tupleKind_room_in1 room) (key_of J.hok hb) nsys dict (fun pr found => ?_) fun no h1 dict1 but => ?_
  · rw [found] at vk
    cases e0 : valV kvs k with
    | none => rw [e0] at vk; exact vk.elim
    | some v0 =>
      rw [e0] at vk
      exact there v0 e0 _ _ (J.tok _) vk
  · have e0 : valV kvs k = none := by
      cases q : valV kvs k with
      | none => rfl
      | some v0 =>
        rw [q, no] at vk
        exact (show False from vk).elim
    obtain ⟨ob, es, ep, at1, x2, x3, x4, _, x5⟩ := dict1
    refine gone e0 _ (d_write J (by rw [hD]; exact True.intro) but ⟨ob, at1⟩ ⟨le1, nsys, _, (kt.put k hb rd).keeps fun c ys ec => ?_, ob, es, ep, at1, x2, x3, x4, x5⟩)
    rw [upd_ne (ne_of ec hD (fun w => nomatch w))]
    exact ec
end
/-- d.setdefault(t, e) -/
def tSetdT (td ty tx : TE) : TE := fun σ H Q => td σ H fun x H1 => (∃ D kvs, x = .ref D ∧ H1 D = some (.dT kvs)) ∧ ty σ H1 fun y H2 => tx σ H2 fun z H3 => ∃ (D b : Addr) (kvs : List (List Key × V)) (k : List Key), x = .ref D ∧ y = .ref b ∧ H3 D = some (.dT kvs) ∧ H3 b = some (.tup (k.map kV)) ∧ kvs.length < sizeLine ∧
  (∀ v, valV kvs k = some v → Q v H3) ∧ (valV kvs k = none → Q z (upd H3 D (.dT (putK kvs k z))))
section
variable {X : Cx} {o e f : Expr} {td ty tx : TE} {apos cpos : Pos}
theorem pe_setdT (room : X.A.units + 1 < cLine) (ho : PE X o td) (he : PE X e ty) (hf : PE X f tx) (m : M2 X o "setdefault" apos e f cpos) :
    PE X (.Call (.Attribute o "setdefault" apos) [e, f] [] cpos) (tSetdT td ty tx) := by
  constructor
  intro pins sh σ H Q J hyp
  refine wpAny_Call_method m.base m.few m.line PySem.F.plainAttrs_dict PySem.F.slot_dict_setdefault PySem.F.type_dict_setdefault (thn (ho.run pins sh σ H _ J hyp) ?_)
  rintro w0 sA ⟨x, HA, JA, rx, ⟨D, kvs0, rfl, hD0⟩, qA⟩
  have ew : w0 = Value.ref D := rx
  subst ew
  obtain ⟨ty1, ty2, _⟩ := isD_at JA (.inr ⟨kvs0, .inl hD0⟩)
  refine ⟨ty1, ty2, ?_⟩
  rw [m.trees]
  refine Calls.callWith_builtin rfl (Calls.evalArgs_plain (Calls.spliced_cons (thn (he.run pins sA σ HA _ JA qA) ?_)))
  rintro w1 sB ⟨y, HB, JB, ry, qB⟩
  refine Calls.spliced_cons (thn (hf.run pins sB σ HB _ JB qB) ?_)
  rintro w2 sC ⟨z, HC, JC, rz, D1, b, kvs, k, eD, ey, hD, hb, small, q1, q2⟩
  cases eD
  subst ey
  have e1 : w1 = Value.ref b := ry
  subst e1
  exact Calls.spliced_nil (setd_tup room JC hD hb rz small (fun v hv u s1 J1 r1 => ⟨v, _, J1, r1, q1 v hv⟩) fun hn s1 J1 => ⟨z, _, J1, rz, q2 hn⟩)
end
/-! what putK leaves -/
theorem putK_mem {K : Type} [DecidableEq K] {kvs : List (K × V)} {k : K} {v : V} {e : K × V} (h : e ∈ putK kvs k v) : e ∈ kvs ∨ e.2 = v := by
  unfold putK at h
  split at h
  · obtain ⟨e0, h0, rfl⟩ := List.mem_map.mp h
    by_cases q : e0.1 = k
    · right; rw [if_pos q]
    · left; rw [if_neg q]; exact h0
  · rcases List.mem_append.mp h with h | h
    · exact .inl h
    · right; rw [List.mem_singleton.mp h]
theorem valV_mem {K : Type} [DecidableEq K] {kvs : List (K × V)} {k : K} {v : V} (h : valV kvs k = some v) : ∃ k', (k', v) ∈ kvs := by
  unfold valV at h
  obtain ⟨e, he, rfl⟩ := Option.map_eq_some_iff.mp h
  exact ⟨e.1, List.mem_of_find?_eq_some he⟩
end UG


set_option Elab.async false
set_option linter.all false
set_option maxRecDepth 100000
set_option maxHeartbeats 4000000
namespace K00
open PySem PySem.Spec PyProof.Rows L2

def topS (i : Nat) : Stmt := PySem.Challenge.pw_undoneall_k00_error_classes.main.body.getD i (.Pass ⟨0, 0, 0, 0⟩)

/-! ### data -/
mutual
/-- data: as the layer's, and the empty dict; a list stands apart from the module table -/
inductive Dp (K : PySem.W.Frag) (H : Hp) : V → PyData → Prop
  | non : Dp K H .non .none
  | bl (b : Bool) : Dp K H (.bl b) (.bool b)
  | int (i : Int) : Dp K H (.int i) (.int i)
  | str (x : Str) : Dp K H (.str x) (.str x)
  | lst {a : Addr} {xs : List V} {ds : List PyData} : SqL K H a xs → (a == sysModules) = false → DpAll K H xs ds → Dp K H (.ref a) (.list ds)
  | tup {a : Addr} {xs : List V} {ds : List PyData} : SqT K H a xs → DpAll K H xs ds → Dp K H (.ref a) (.tuple ds)
  | dct {a : Addr} : H a = some (.dK []) → Dp K H (.ref a) (.dict [])
inductive DpAll (K : PySem.W.Frag) (H : Hp) : List V → List PyData → Prop
  | nil : DpAll K H [] []
  | cons {v : V} {vs : List V} {d : PyData} {ds : List PyData} : Dp K H v d → DpAll K H vs ds → DpAll K H (v :: vs) (d :: ds)
end
def tyN : PyData → String
  | .none => "NoneType"
  | .bool _ => "bool"
  | .int _ => "int"
  | .str _ => "str"
  | .list _ => "list"
  | .tuple _ => "tuple"
  | .dict _ => "dict"
theorem dp_ty {K : PySem.W.Frag} {H : Hp} {v : V} {d : PyData} (h : Dp K H v d) : TyX K H v (.type (tyN d)) := by
  cases h with
  | non => exact .base .non
  | bl b => exact .base (.bl b)
  | int i => exact .base (.int i)
  | str x => exact .base (.str x)
  | dct h => exact .base (.dK h)
  | lst hs _ _ =>
    rcases hs with (h | ⟨o, h⟩) | ⟨o, its, n, hk, hc, _⟩
    · exact .base (.lst h)
    · exact .base (.frz h)
    · exact .kList hk hc
  | tup hs _ =>
    rcases hs with (h | ⟨o, h⟩) | ⟨o, its, n, hk, hc, _⟩
    · exact .base (.tup h)
    · exact .fTuple h
    · exact .kTuple hk hc
/-- all but tables stay -/
theorem sq_ext {K : PySem.W.Frag} {H H' : Hp} {a : Addr} {xs : List V} (e : LamX.ExtN H H') (h : SqL K H a xs) : SqL K H' a xs := by
  rcases h with (h | ⟨o, h⟩) | h
  · exact .inl (.inl (e _ _ h (fun _ z => by cases z)))
  · exact .inl (.inr ⟨o, e _ _ h (fun _ z => by cases z)⟩)
  · exact .inr h
theorem sqt_ext {K : PySem.W.Frag} {H H' : Hp} {a : Addr} {xs : List V} (e : LamX.ExtN H H') (h : SqT K H a xs) : SqT K H' a xs := by
  rcases h with (h | ⟨o, h⟩) | h
  · exact .inl (.inl (e _ _ h (fun _ z => by cases z)))
  · exact .inl (.inr ⟨o, e _ _ h (fun _ z => by cases z)⟩)
  · exact .inr h
mutual
theorem dp_ext {K : PySem.W.Frag} {H H' : Hp} (e : LamX.ExtN H H') : ∀ (d : PyData) {v : V}, Dp K H v d → Dp K H' v d
  | .none, _, h => by cases h; exact .non
  | .bool _, _, h => by cases h; exact .bl _
  | .int _, _, h => by cases h; exact .int _
  | .str _, _, h => by cases h; exact .str _
  | .list ds, _, h => by
    cases h with
    | lst hs hn ha => exact .lst (sq_ext e hs) hn (dps_ext e ds ha)
  | .tuple ds, _, h => by
    cases h with
    | tup hs ha => exact .tup (sqt_ext e hs) (dps_ext e ds ha)
  | .dict _, _, h => by
    cases h with
    | dct h => exact .dct (e _ _ h (fun _ z => by cases z))
theorem dps_ext {K : PySem.W.Frag} {H H' : Hp} (e : LamX.ExtN H H') : ∀ (ds : List PyData) {vs : List V}, DpAll K H vs ds → DpAll K H' vs ds
  | [], _, h => by cases h; exact .nil
  | d :: ds, _, h => by
    cases h with
    | cons h1 h2 => exact .cons (dp_ext e d h1) (dps_ext e ds h2)
end
theorem same_ext {H H' : Hp} (h : Same H H') : LamX.ExtN H H' := fun b o e _ => h b o e
theorem dps_len {K : PySem.W.Frag} {H : Hp} : ∀ {vs : List V} {ds : List PyData}, DpAll K H vs ds → vs.length = ds.length
  | _, _, .nil => rfl
  | _, _, .cons _ t => congrArg Nat.succ (dps_len t)
theorem dps_get {K : PySem.W.Frag} {H : Hp} : ∀ {vs : List V} {ds : List PyData} {i : Nat} {d : PyData}, DpAll K H vs ds → ds[i]? = some d → ∃ v, vs[i]? = some v ∧ Dp K H v d
  | _, _, _, _, .nil, e => by simp at e
  | _, _, 0, _, .cons h t, e => by
    simp at e
    subst e
    exact ⟨_, rfl, h⟩
  | _, _, i + 1, _, .cons h t, e => by
    obtain ⟨v, h1, h2⟩ := dps_get (i := i) t (by simpa using e)
    exact ⟨v, by simpa using h1, h2⟩
theorem dps_get' {K : PySem.W.Frag} {H : Hp} {vs : List V} {ds : List PyData} {i : Nat} {v : V} (h : DpAll K H vs ds) (e : vs[i]? = some v) : ∃ d, ds[i]? = some d ∧ Dp K H v d := by
  have hl := dps_len h
  have hi := (List.getElem?_eq_some_iff.mp e).1
  have e2 : ds[i]? = some (ds[i]'(by omega)) := List.getElem?_eq_getElem (by omega)
  obtain ⟨v', h1, h2⟩ := dps_get h e2
  rw [e] at h1
  cases h1
  exact ⟨_, e2, h2⟩
theorem same_new {H : Hp} {p : Addr} (h : H p = none) (o : HO) : Same H (upd H p o) := fun b u q => by rw [upd_ne (ne_of_none q h)]; exact q

/-! ### what the judges tell -/
def rowD (d : PyData) (lo hi : Int) : Bool := match d with
  | .tuple ds => decide (lo ≤ (ds.length : Int)) && decide ((ds.length : Int) ≤ hi)
  | _ => false
def smallL : Str := "abcdefghijklmnopqrstuvwxyz"
def wordS : Str := "abcdefghijklmnopqrstuvwxyz0123456789"
def keptW : List Str := ["call", "choose", "do", "ensure", "finally", "letters", "loop", "or", "proc", "return", "undo"]

/-! ### the module's facts -/
structure Bl (K : PySem.W.Frag) (mg : Str → Option Value) : Prop where
  isi : mg "isinstance" = none
  int : mg "int" = none
  bool : mg "bool" = none
  str : mg "str" = none
  tuple : mg "tuple" = none
  len : mg "len" = none
  all : mg "all" = none
  range : mg "range" = none
  enumerate : mg "enumerate" = none
  list : mg "list" = none
  set : mg "set" = none
  repr : mg "repr" = none
  MOST_OPEN : ∃ t, mg "MOST_OPEN" = some (.int 39 t)
  MOST_SIGNS : ∃ t, mg "MOST_SIGNS" = some (.int 10 t)
  MOST_LETTERS : ∃ t, mg "MOST_LETTERS" = some (.int 20 t)
  MOST_PROCEDURES : ∃ t, mg "MOST_PROCEDURES" = some (.int 8 t)
  LEAST_BODIES : ∃ t, mg "LEAST_BODIES" = some (.int 2 t)
  MOST_BODIES : ∃ t, mg "MOST_BODIES" = some (.int 6 t)
  MOST_IN_BODY : ∃ t, mg "MOST_IN_BODY" = some (.int 60 t)
  MOST_STATEMENTS : ∃ t, mg "MOST_STATEMENTS" = some (.int 200 t)
  LONGEST_CHAIN : ∃ t, mg "LONGEST_CHAIN" = some (.int 12 t)
  SMALL_LETTERS : ∃ t, mg "SMALL_LETTERS" = some (.str smallL t)
  WORD_SIGNS : ∃ t, mg "WORD_SIGNS" = some (.str wordS t)
  KEPT_WORDS : ∃ a, mg "KEPT_WORDS" = some (.ref a) ∧ ∀ H, SqT K H a (keptW.map V.str)

def isiN (c n : String) : Bool := n == c || (c == "int" && n == "bool")
def isiD (c : String) (d : PyData) : Bool := isiN c (tyN d)
theorem kit_names : ∀ n ∈ ["NoneType", "bool", "int", "str", "list", "tuple", "dict"], ∀ c ∈ ["int", "bool", "str", "tuple"], kitB n c = some (isiN c n) := by decide +kernel
theorem kit_d {K : PySem.W.Frag} (d : PyData) {c : String} (hc : c ∈ ["int", "bool", "str", "tuple"]) : PySem.W.kitOne K (.type (tyN d)) (.type c) = some (isiD c d) :=
  kit_ty (kit_names (tyN d) (by cases d <;> simp [tyN]) c hc)
section
variable {X : Cx}
/-- isinstance(x, T) of data -/
def rIsD (K : PySem.W.Frag) (c : String) : List V → Hp → VK → Prop := fun xs H Q => ∃ v d, xs = [v, .ty c] ∧ Dp K H v d ∧ Q (.bl (isiD c d)) H
theorem call_isD (c : String) (hc : c ∈ ["int", "bool", "str", "tuple"]) : CallR X (.builtin "isinstance") (rIsD X.K c) := by
  intro pins s σ H xs us Q I r h
  obtain ⟨v, d, rfl, hd, q⟩ := h
  exact call_isi pins s σ H _ us Q I r ⟨v, .ty c, _, _, _, rfl, .ty c, dp_ty hd, kit_d d hc, q⟩
/-- isinstance(e, T) as a value -/
theorem pe_isD {e : Expr} {te : TE} {c : String} {x : Str} {p1 p2 p3 : Pos} (B : Bl X.K X.mg) (he : PE X e te) (hg : Gl X "isinstance") (hx : Gl X x) (hm : X.mg x = none) (hb : bootBuiltins x = some (.type c)) (hc : c ∈ ["int", "bool", "str", "tuple"])
    (hn : x ≠ "__name__" := by decide) (hdb : (x == ("__debug__" : Str)) = false := by decide) (hs1 : starEach [e, .Name x p3] X.env = (false, eval e X.env) :: starEach [.Name x p3] X.env := by rfl)
    (hs2 : starEach [.Name x p3] X.env = (false, eval (.Name x p3) X.env) :: starEach [] X.env := by rfl) (hpl : (backTo p2 (starEach [.Name x p3] X.env)).any (·.1) = false := by rfl) :
    PE X (.Call (.Name "isinstance" p1) [e, .Name x p3] [] p2) (tCB (rIsD X.K c) (tCons te (tCons (tC (.ty c)) tNil))) :=
  pe_callB (pos := p2) (p := p1) (call_isD c hc) hg B.isi (by decide +kernel) (pa_cons he (pa_cons (pe_bltn (v := .ty c) (pos := p3) hx hm hb rfl hn hdb) pa_nil hs2) hs1) (by decide) (by decide) hs1 hpl
end
end K00


set_option Elab.async false
set_option linter.all false
set_option maxRecDepth 100000
set_option maxHeartbeats 8000000
namespace K00
open PySem PySem.Spec PyProof.Rows L2
/-! ### the heap without some addresses -/
def cutL (as : List Addr) (H : Hp) : Hp := fun p => if p ∈ as then none else H p
theorem cutL_ext {as : List Addr} {H : Hp} : Same (cutL as H) H := fun p o h => by
  unfold cutL at h
  split at h
  · cases h
  · exact h
theorem cutL_get {as : List Addr} {H : Hp} {p : Addr} (n : p ∉ as) : cutL as H p = H p := if_neg n
/-- all but some addresses stays -/
def Kp (as : List Addr) (H H' : Hp) : Prop := ∀ p o, p ∉ as → H p = some o → H' p = some o
theorem Kp.refl {as : List Addr} (H : Hp) : Kp as H H := fun _ _ _ h => h
theorem Kp.trans {as : List Addr} {H H' H2 : Hp} (a : Kp as H H') (b : Kp as H' H2) : Kp as H H2 := fun p o x h => b p o x (a p o x h)
theorem Kp.of_same {as : List Addr} {H H' : Hp} (s : Same H H') : Kp as H H' := fun p o _ h => s p o h
theorem Kp.put {as : List Addr} {H : Hp} {a : Addr} (o : HO) (ha : a ∈ as) : Kp as H (upd H a o) := fun p o' x h => by
  rw [upd_ne (fun z => x (by rw [z]; exact ha))]
  exact h
theorem Kp.new {as : List Addr} {H : Hp} {a : Addr} (o : HO) (ha : H a = none) : Kp as H (upd H a o) := Kp.of_same (same_new ha o)
theorem Kp.mono {as bs : List Addr} {H H' : Hp} (h : Kp as H H') (s : ∀ a ∈ as, a ∈ bs) : Kp bs H H' := fun p o x e => h p o (fun z => x (s p z)) e
theorem Kp.cut {as : List Addr} {H H' : Hp} (h : Kp as H H') : Same (cutL as H) (cutL as H') := fun p o x => by
  unfold cutL at x ⊢
  split at x
  · cases x
  · next n =>
    rw [if_neg n]
    exact h p o n x
theorem Kp.same {as : List Addr} {H H' H0 : Hp} (s : Same H0 (cutL as H)) (h : Kp as H H') : Same H0 (cutL as H') := s.trans h.cut
theorem cut_same {as : List Addr} {H H' : Hp} (s : Same H H') (n : ∀ a ∈ as, H a = none) : Same H (cutL as H') := fun p o e => by
  rw [cutL_get (fun z => by rw [n p z] at e; cases e)]
  exact s p o e
theorem cut_back {as : List Addr} {H H0 : Hp} (s : Same H0 (cutL as H)) : Same H0 H := s.trans cutL_ext
theorem cut_le {as bs : List Addr} {H : Hp} (s : ∀ a ∈ as, a ∈ bs) : Same (cutL bs H) (cutL as H) := fun p o e => by
  by_cases h : p ∈ bs
  · unfold cutL at e; rw [if_pos h] at e; cases e
  · rw [cutL_get h] at e
    rw [cutL_get (fun z => h (s p z))]
    exact e
theorem cut_upd {as : List Addr} {H : Hp} {a : Addr} {o : HO} (n : a ∉ as) : cutL as (upd H a o) a = some o := by rw [cutL_get n]; exact upd_same
theorem sameE {H H' : Hp} (s : Same H H') : LamX.ExtN H H' := same_ext s
/-! ### programs -/
inductive St where
  | dd (x : Str)
  | ud (x : Str)
  | cl (x : Str)
  | ch (bs : List (List St))
  | lp (b : List St)
  | rt
  | en (b c : List St)
mutual
def St.d : St → PyData
  | .dd x => .tuple [.str "do", .str x]
  | .ud x => .tuple [.str "undo", .str x]
  | .cl x => .tuple [.str "call", .str x]
  | .ch bs => .tuple [.str "choose", .tuple (dss bs)]
  | .lp b => .tuple [.str "loop", .tuple (ds b)]
  | .rt => .tuple [.str "return"]
  | .en b c => .tuple [.str "ensure", .tuple (ds b), .tuple (ds c)]
def ds : List St → List PyData
  | [] => []
  | s :: r => s.d :: ds r
def dss : List (List St) → List PyData
  | [] => []
  | b :: r => .tuple (ds b) :: dss r
end
theorem ds_map : ∀ b : List St, ds b = b.map St.d
  | [] => rfl
  | s :: r => by rw [ds, ds_map r]; rfl
theorem dss_map : ∀ b : List (List St), dss b = b.map fun b => .tuple (ds b)
  | [] => rfl
  | s :: r => by rw [dss, dss_map r]; rfl
theorem ds_len (b : List St) : (ds b).length = b.length := by rw [ds_map, List.length_map]
theorem dss_len (b : List (List St)) : (dss b).length = b.length := by rw [dss_map, List.length_map]
/-- the bodies of a statement -/
def St.bs : St → List (List St)
  | .ch bs => bs
  | .lp b => [b]
  | .en b c => [b, c]
  | _ => []
-- how many statements
mutual
def St.n : St → Nat
  | .ch bs => 1 + nss bs
  | .lp b => 1 + ns b
  | .en b c => 1 + (ns b + ns c)
  | _ => 1
def ns : List St → Nat
  | [] => 0
  | s :: r => s.n + ns r
def nss : List (List St) → Nat
  | [] => 0
  | b :: r => ns b + nss r
end
-- the longest chain
mutual
def St.k : St → Nat
  | .ch bs => 1 + kss bs
  | .lp b => 1 + ks b
  | .en b c => 1 + max (ks b) (ks c)
  | _ => 1
def ks : List St → Nat
  | [] => 0
  | s :: r => max s.k (ks r)
def kss : List (List St) → Nat
  | [] => 0
  | b :: r => max (ks b) (kss r)
end
theorem n_bs : ∀ s : St, s.n = 1 + nss s.bs
  | .dd _ | .ud _ | .cl _ | .rt | .ch _ => rfl
  | .lp b => by simp [St.n, St.bs, nss]
  | .en b c => by simp [St.n, St.bs, nss]
theorem k_bs : ∀ s : St, s.k = 1 + kss s.bs
  | .dd _ | .ud _ | .cl _ | .rt | .ch _ => rfl
  | .lp b => by simp [St.k, St.bs, kss]
  | .en b c => by simp [St.k, St.bs, kss]
theorem n_pos (s : St) : 1 ≤ s.n := by rw [n_bs]; omega
theorem len_ns : ∀ b : List St, b.length ≤ ns b
  | [] => Nat.le_refl _
  | s :: r => by
    have := len_ns r
    have := n_pos s
    rw [List.length_cons, ns]
    omega
theorem ns_mem : ∀ {b : List St} {s : St}, s ∈ b → s.n ≤ ns b
  | s :: r, _, h => by
    rw [ns]
    rcases List.mem_cons.mp h with rfl | h
    · omega
    · have := ns_mem h; omega
theorem nss_mem : ∀ {b : List (List St)} {s : List St}, s ∈ b → ns s ≤ nss b
  | s :: r, _, h => by
    rw [nss]
    rcases List.mem_cons.mp h with rfl | h
    · omega
    · have := nss_mem h; omega
theorem ks_mem : ∀ {b : List St} {s : St}, s ∈ b → s.k ≤ ks b
  | s :: r, _, h => by
    rw [ks]
    rcases List.mem_cons.mp h with rfl | h
    · omega
    · have := ks_mem h; omega
theorem kss_mem : ∀ {b : List (List St)} {s : List St}, s ∈ b → ks s ≤ kss b
  | s :: r, _, h => by
    rw [kss]
    rcases List.mem_cons.mp h with rfl | h
    · omega
    · have := kss_mem h; omega
theorem ks_pos : ∀ {b : List St}, b ≠ [] → 1 ≤ ks b
  | s :: r, _ => by rw [ks, k_bs]; omega
theorem ns_app : ∀ a b : List St, ns (a ++ b) = ns a + ns b
  | [], b => by simp [ns]
  | s :: r, b => by rw [List.cons_append, ns, ns, ns_app r b]; omega
theorem ks_app : ∀ a b : List St, ks (a ++ b) = max (ks a) (ks b)
  | [], b => by simp [ks]
  | s :: r, b => by rw [List.cons_append, ks, ks, ks_app r b]; omega
-- names that are there, choices of two to six, returns where they are let
mutual
def St.ok (L N : List Str) (sec : Bool) : St → Prop
  | .dd x => x ∈ L
  | .ud x => x ∈ L
  | .cl x => x ∈ N
  | .ch bs => 2 ≤ bs.length ∧ bs.length ≤ 6 ∧ okss L N sec bs
  | .lp b => oks L N sec b
  | .rt => True
  | .en b c => oks L N sec b ∧ oks L N true c
def oks (L N : List Str) (sec : Bool) : List St → Prop
  | [] => True
  | s :: r => s.ok L N sec ∧ oks L N sec r
def okss (L N : List Str) (sec : Bool) : List (List St) → Prop
  | [] => True
  | b :: r => oks L N sec b ∧ okss L N sec r
end
theorem oks_iff {L N : List Str} {sec : Bool} : ∀ {b : List St}, oks L N sec b ↔ ∀ s ∈ b, s.ok L N sec
  | [] => by simp [oks]
  | s :: r => by rw [oks, oks_iff (b := r)]; simp
theorem okss_iff {L N : List Str} {sec : Bool} : ∀ {b : List (List St)}, okss L N sec b ↔ ∀ s ∈ b, oks L N sec s
  | [] => by simp [okss]
  | s :: r => by rw [okss, okss_iff (b := r)]; simp
-- a body that is let within a second body is let anywhere
mutual
theorem ok_weak {L N : List Str} (sec : Bool) : ∀ s : St, s.ok L N true → s.ok L N sec
  | .dd _, h | .ud _, h | .cl _, h => h
  | .ch bs, h => ⟨h.1, h.2.1, okss_weak sec bs h.2.2⟩
  | .lp b, h => oks_weak sec b h
  | .rt, h => h
  | .en b c, h => ⟨oks_weak sec b h.1, h.2⟩
theorem oks_weak {L N : List Str} (sec : Bool) : ∀ b : List St, oks L N true b → oks L N sec b
  | [], _ => trivial
  | s :: r, h => ⟨ok_weak sec s h.1, oks_weak sec r h.2⟩
theorem okss_weak {L N : List Str} (sec : Bool) : ∀ b : List (List St), okss L N true b → okss L N sec b
  | [], _ => trivial
  | s :: r, h => ⟨oks_weak sec s h.1, okss_weak sec r h.2⟩
end
end K00


set_option Elab.async false
set_option linter.all false
set_option maxRecDepth 100000
set_option maxHeartbeats 8000000
namespace K00
open PySem PySem.Spec PyProof.Rows L2
/-! ### tables -/
def genC (sc : Scope) : Bool := decide (sc.kind = .function) && !sc.isCoroutine && sc.names.all (fun y => !decide (y.2 = .cell)) && sc.names.all (fun y => !decide (y.2 = .free)) && decide (sc.names.lookup (".0" : Str) = some NameKind.local)
theorem gensc_by {sc : Scope} (h : genC sc = true) : UG.GenSc sc := by
  unfold genC at h
  simp only [Bool.and_eq_true, Bool.not_eq_true', decide_eq_true_eq, List.all_eq_true, decide_eq_false_iff_not] at h
  obtain ⟨⟨⟨⟨h1, h2⟩, h3⟩, h4⟩, h5⟩ := h
  exact ⟨h1, h2, h3, h4, h5⟩
def Keep (T : Addr) (H H' : Hp) : Prop := LamX.ExtN H H' ∧ GxR.TabG H' T
theorem keep_tabbed {T : Addr} {H H' : Hp} (h : GxR.TabG H T) (t : GxR.Tabbed T H H') : Keep T H H' := by
  refine ⟨fun b o e n => ?_, t.1⟩
  by_cases hb : b = T
  · obtain ⟨ps, hp, _⟩ := h
    rw [hb, hp] at e
    exact absurd (Option.some.inj e).symm (n ps)
  · rw [t.2 b hb]; exact e
theorem tabG_upd {T p : Addr} {H : Hp} {o : HO} (h : GxR.TabG H T) (hp : H p = none) : GxR.TabG (upd H p o) T := by
  obtain ⟨ps, h1, h2⟩ := h
  exact ⟨ps, by rw [upd_ne (ne_of_none h1 hp)]; exact h1, h2⟩
theorem inV_str (k : Str) : ∀ zs : List Str, inV (.str k) (zs.map V.str) = zs.any fun z => decide (k = z)
  | [] => rfl
  | z :: r => by
    have ih := inV_str k r
    show (eqV (.str z) (.str k) || inV (.str k) (r.map V.str)) = _
    rw [ih, List.any_cons]
    congr 1
    show (z == k) = decide (k = z)
    by_cases h : k = z
    · subst h; simp
    · rw [decide_eq_false h]; exact beq_eq_false_iff_ne.mpr (Ne.symm h)
theorem at0 {α : Type} (x : α) (r : List α) : atI (x :: r) 0 = some x := atI_nat (j := 0) rfl
theorem at1 {α : Type} (x y : α) (r : List α) : atI (x :: y :: r) 1 = some y := atI_nat (j := 1) rfl
theorem at2 {α : Type} (x y z : α) (r : List α) : atI (x :: y :: z :: r) 2 = some z := atI_nat (j := 2) rfl
theorem dec_str (k z : Str) : decide (V.str k = V.str z) = decide (k = z) := by
  by_cases h : k = z
  · subst h; simp
  · rw [decide_eq_false h, decide_eq_false (fun y => h (V.str.inj y))]
theorem dec_int (k z : Int) : decide (V.int k = V.int z) = decide (k = z) := by
  by_cases h : k = z
  · subst h; simp
  · rw [decide_eq_false h, decide_eq_false (fun y => h (V.int.inj y))]
theorem str_of {d : PyData} (h : isiD "str" d = true) : ∃ k, d = .str k := by
  cases d with
  | str k => exact ⟨k, rfl⟩
  | _ => exact absurd (show false = true from h) Bool.false_ne_true

theorem tup_of {d : PyData} (h : isiD "tuple" d = true) : ∃ ds, d = .tuple ds := by
  cases d with
  | tuple ds => exact ⟨ds, rfl⟩
  | _ => exact absurd (show false = true from h) Bool.false_ne_true
theorem len_ok {K : PySem.W.Frag} {H : Hp} {v : V} {ds : List PyData} (h : Dp K H v (.tuple ds)) : ∃ a xs, v = .ref a ∧ SqT K H a xs ∧ DpAll K H xs ds ∧ xs.length = ds.length := by
  cases h with
  | tup hs ha => exact ⟨_, _, rfl, hs, ha, dps_len ha⟩
/-- the tables of code objects -/
def Tbs (Ts : List Addr) (H : Hp) : Prop := ∀ T ∈ Ts, GxR.TabG H T
/-- all but the tables stays -/
def Go (Ts : List Addr) (H H' : Hp) : Prop := Tbs Ts H' ∧ Kp Ts H H'
theorem Tbs.same {Ts : List Addr} {H H' : Hp} (h : Tbs Ts H) (s : Same H H') : Tbs Ts H' := fun T hT => by
  obtain ⟨ps, h1, h2⟩ := h T hT
  exact ⟨ps, s _ _ h1, h2⟩
theorem Go.refl {Ts : List Addr} {H : Hp} (h : Tbs Ts H) : Go Ts H H := ⟨h, Kp.refl H⟩
theorem Go.trans {Ts : List Addr} {H H' H2 : Hp} (a : Go Ts H H') (b : Go Ts H' H2) : Go Ts H H2 := ⟨b.1, a.2.trans b.2⟩
theorem Go.of_same {Ts : List Addr} {H H' : Hp} (h : Tbs Ts H) (s : Same H H') : Go Ts H H' := ⟨h.same s, Kp.of_same s⟩
theorem Go.of_tab {Ts : List Addr} {T : Addr} {H H' : Hp} (h : Tbs Ts H) (hT : T ∈ Ts) (t : GxR.Tabbed T H H') : Go Ts H H' := by
  refine ⟨fun T' hT' => ?_, fun p o n e => ?_⟩
  · by_cases z : T' = T
    · rw [z]; exact t.1
    · obtain ⟨ps, h1, h2⟩ := h T' hT'
      exact ⟨ps, by rw [t.2 _ z]; exact h1, h2⟩
  · rw [t.2 p (fun z => n (by rw [z]; exact hT))]
    exact e
/-- tables are no data -/
theorem ext_cut {Ts ms : List Addr} {H : Hp} (h : Tbs Ts H) (n : ∀ a ∈ ms, H a = none) : LamX.ExtN H (cutL (ms ++ Ts) H) := fun p o e no => by
  rw [cutL_get]
  · exact e
  · intro z
    rcases List.mem_append.mp z with z | z
    · rw [n p z] at e; cases e
    · obtain ⟨ps, h1, _⟩ := h p z
      rw [h1] at e
      cases e
      exact no _ rfl
theorem ext_cut0 {Ts : List Addr} {H : Hp} (h : Tbs Ts H) : LamX.ExtN H (cutL Ts H) := ext_cut (ms := []) h (fun _ z => by cases z)
theorem Go.ext {Ts : List Addr} {H H' : Hp} (h : Tbs Ts H) (g : Go Ts H H') : LamX.ExtN H H' := (ext_cut0 h).trans ((same_ext g.2.cut).trans (same_ext cutL_ext))
theorem tbs_cut {Ts ms : List Addr} {H : Hp} {p : Addr} {o : HO} (h : Tbs Ts H) (hp : H p = none) : p ∉ Ts := fun z => by
  obtain ⟨ps, h1, _⟩ := h p z
  rw [h1] at hp; cases hp
/-! ### names -/
def nameB (s : Str) : Bool := decide (1 ≤ s.length) && decide (s.length ≤ 10) && (match s.cps.toList with | [] => false | c :: _ => decide (c ∈ smallL.cps.toList)) && !(keptW.any fun z => decide (s = z)) && s.cps.toList.all fun c => decide (c ∈ wordS.cps.toList)
def nameD : PyData → Bool
  | .str s => nameB s
  | _ => false
def strD : PyData → Prop
  | .str s => s.length ≤ sizeLine
  | _ => True
theorem nd1 : (["sign"] : List Str).Nodup := by decide +kernel
section
variable {P : Program} {w : World} {K : PySem.W.Frag} {mg : Str → Option Value} {base : Heap}

def spRow (K : PySem.W.Frag) : Sp := fun vs H Q _ => ∃ v d lo hi, vs = [v, .int lo, .int hi] ∧ Dp K H v d ∧ Q (.bl (rowD d lo hi)) H
theorem sc_is_row : FnScope ["thing", "low", "high"] ["thing", "low", "high"] (C8.fnScope (topS 20)) := C8.fnScope_by (by decide +kernel)
theorem ok_is_row {f : Addr} {fd : FuncData} (F : C8.Def K mg "is_row" (topS 20) f fd) (b : Binds K fd ["thing", "low", "high"] []) (B : Bl K mg)  : C8.Cal P w K mg base 1 "is_row" (spRow K) [] := by
  refine C8.cal0 F b .nil sc_is_row ?len ?body
  case len => rintro vs H Q E ⟨v, d, lo, hi, rfl, _⟩; rfl
  case body =>
    rintro cdv A outer s H vs Q E hr ⟨v, d, lo, hi, rfl, hd, q⟩
    refine ⟨_, (pss_one (ps_ret (pe_and (pe_isD (c := "tuple") B (pv 0) rfl rfl B.tuple (by decide +kernel) (by decide)) (pe_one (pe_chain op_le op_le (pv 1) (pe_callB call_len_seq rfl B.len PySem.boot_len (pa_cons (pv 0) pa_nil)) (pv 2)))))), ?_⟩
    refine ⟨_, rfl, v, d, rfl, hd, _, rfl, ?_⟩
    cases h : isiD "tuple" d with
    | false =>
      refine iteF ?_
      have e : rowD d lo hi = false := by
        cases d with
        | tuple ds => exact absurd (show true = false from h) (by decide)
        | _ => rfl
      rw [e] at q
      exact q
    | true =>
      obtain ⟨ds, rfl⟩ := tup_of h
      obtain ⟨a, xs, rfl, hs, ha, hl⟩ := len_ok hd
      refine iteT ⟨_, rfl, _, rfl, a, xs, rfl, .inr hs, _, _, rfl, rfl, _, rfl, ?_⟩
      rw [hl]
      have q' : Q (.bl (decide (lo ≤ (ds.length : Int)) && decide ((ds.length : Int) ≤ hi))) H := q
      cases h1 : decide (lo ≤ (ds.length : Int)) with
      | true =>
        rw [h1] at q'
        exact iteT ⟨_, rfl, _, _, rfl, rfl, q'⟩
      | false =>
        rw [h1] at q'
        exact iteF q'
def spName (K : PySem.W.Frag) (Ts : List Addr) : Sp := fun vs H Q _ => ∃ v d, vs = [v] ∧ Dp K H v d ∧ strD d ∧ Tbs Ts H ∧ ∀ H', Go Ts H H' → Q (.bl (nameD d)) H'
theorem sc_is_name : FnScope ["thing"] ["thing"] (C8.fnScope (topS 26)) := C8.fnScope_by (by decide +kernel)
theorem ok_is_name {Ts : List Addr} {f c T : Addr} {oc : Value} {od an : Option Addr} {kV doc pm ct : Value} {osl : Array (Option Value)}
    (lk : K.lookup f = some ⟨oc, od, .func (PySem.W.fnOf "is_name" "is_name" (C8.fnArgs (topS 26)) (C8.fnBody (topS 26)) (C8.fnScope (topS 26)) .none kV doc pm an (.ref c) ct), osl⟩) (hcd : PySem.W.codeIn K (.ref c) "is_name" = true)
    (TB : LamX.TabB base mg c T) (hT : T ∈ Ts) (B : Bl K mg) :
    FnOk P w K mg base C8.CX0 4 f (PySem.W.fnOf "is_name" "is_name" (C8.fnArgs (topS 26)) (C8.fnBody (topS 26)) (C8.fnScope (topS 26)) .none kV doc pm an (.ref c) ct) ["thing"] (spName K Ts) := by
  obtain ⟨ka, hka, hks⟩ := B.KEPT_WORDS
  refine fn_of lk hcd sc_is_name (by rintro vs H Q E ⟨v, d, rfl, _⟩; rfl) ?_
  intro A outer s H vs Q E hr hsp
  suffices h : ∃ t, PSs (cxOf C8.CX0 P w K mg base ["thing"] "is_name" (C8.fnScope (topS 26)) f (.ref c) A outer s H E).nox (C8.fnBody (topS 26)) t ∧ t { nx := fun _ H' => Q .non H', rt := Q } (start ["thing"] vs) H by
    obtain ⟨t, h1, h2⟩ := h
    exact ⟨t, h1.nox, h2⟩
  obtain ⟨v, d, rfl, hd, hsd, hTb, q⟩ := hsp
  refine ⟨_, pss_cons (ps_if (PW.pt (pw_or (pt_not (pt_val (pe_isD (c := "str") B (pv 0) rfl rfl B.str (by decide +kernel) (by decide)))) (pw_or1 (pt_not (pt_chain op_le op_le pe_int (pe_callB call_len_str rfl B.len PySem.boot_len (pa_cons (pv 0) pa_nil)) (pe_glob (v := .int 10) rfl B.MOST_SIGNS.choose_spec ⟨_, rfl⟩)))))) (pss_one (ps_ret pe_bl)) pss_nil)
    (pss_cons (ps_if (PW.pt (pw_or (pt_cmpR op_notIn_sign (pe_ix ix_str (pv 0) pe_int (fun _ _ => rfl)) (pe_glob (v := .str smallL) rfl B.SMALL_LETTERS.choose_spec ⟨_, rfl⟩) (by with_unfolding_all rfl)) (pw_or1 (pt_cmpR op_in_seq (pv 0) (pe_glob (v := .ref ka) rfl hka rfl) (by with_unfolding_all rfl))))) (pss_one (ps_ret pe_bl)) pss_nil)
    (pss_one (ps_ret (UG.pe_allG (P := T) (N := ["sign"]) (k := 0) (g := gName 0) (hr.mono (by decide)) rfl B.all (by decide +kernel) TB rfl (gensc_by (by decide +kernel)) (pi_str (pv 0))
      (fun _ _ _ _ _ _ _ => by exact pg_name (i := 0) nd1 rfl (Or.inl rfl))
      (fun _ _ _ _ _ _ _ => by exact pe_cmpR op_in_sign (pv 0) (pe_glob (v := .str wordS) rfl B.WORD_SIGNS.choose_spec ⟨_, rfl⟩) (by with_unfolding_all rfl)))))), ?_⟩
  have qH := q H (Go.refl hTb)
  refine ⟨_, rfl, v, d, rfl, hd, _, rfl, ?_⟩
  cases hstr : isiD "str" d with
  | false =>
    refine iteT ?_
    have e : nameD d = false := by
      cases d with
      | str k => exact absurd (show true = false from hstr) (by decide)
      | _ => rfl
    rw [e] at qH
    exact qH
  | true =>
    obtain ⟨k, rfl⟩ := str_of hstr
    cases hd
    refine iteF ?_
    have eD : nameD (.str k) = nameB k := rfl
    rw [eD] at qH
    refine ⟨_, rfl, k, rfl, hsd, _, _, rfl, rfl, _, rfl, ?_⟩
    cases h1 : decide ((1 : Int) ≤ ((k.length : Nat) : Int)) with
    | false =>
      refine iteF ⟨_, rfl, ?_⟩
      refine iteT ?_
      have e : nameB k = false := by
        have : decide (1 ≤ k.length) = false := by rw [decide_eq_false_iff_not] at h1 ⊢; omega
        unfold nameB
        rw [this]
        rfl
      rw [e] at qH
      exact qH
    | true =>
      refine iteT ⟨_, _, rfl, rfl, _, rfl, ?_⟩
      have h1' := of_decide_eq_true h1
      by_cases h2 : ((k.length : Nat) : Int) ≤ 10
      · rw [decide_eq_true h2]
        refine iteF ?_
        have l1 : decide (1 ≤ k.length) = true := by rw [decide_eq_true_eq]; omega
        have l2 : decide (k.length ≤ 10) = true := by rw [decide_eq_true_eq]; omega
        cases hc : k.cps.toList with
        | nil =>
          have : k.length = 0 := by
            show k.cps.size = 0
            rw [← Array.length_toList, hc]; rfl
          omega
        | cons c r =>
          have eN : nameB k = (decide (c ∈ smallL.cps.toList) && !(keptW.any fun z => decide (k = z)) && k.cps.toList.all fun c => decide (c ∈ wordS.cps.toList)) := by
            unfold nameB
            rw [l1, l2, hc]
            rfl
          refine ⟨_, rfl, k, 0, c, rfl, rfl, hsd, by rw [hc]; exact at0 _ _, c, smallL, rfl, rfl, _, rfl, ?_⟩
          cases h3 : decide (c ∈ smallL.cps.toList) with
          | false =>
            refine iteT ?_
            rw [h3] at eN
            rw [eN] at qH
            exact qH
          | true =>
            refine iteF ?_
            refine ⟨_, rfl, ka, _, rfl, .inr (hks H), rfl, by decide +kernel, _, rfl, ?_⟩
            show if inV (.str k) (keptW.map V.str) = true then _ else _
            rw [inV_str]
            cases h4 : (keptW.any fun z => decide (k = z)) with
            | true =>
              refine iteT ?_
              rw [h3, h4] at eN
              rw [eN] at qH
              exact qH
            | false =>
              refine iteF ?_
              rw [h3, h4] at eN
              have eN' : nameB k = k.cps.toList.all fun c => decide (c ∈ wordS.cps.toList) := eN
              rw [eD, eN'] at q
              refine ⟨_, rfl, k, rfl, hTb T hT, k.cps.size, fun i H' => i ≤ k.cps.size ∧ Go Ts H H' ∧ ∀ j e, j < i → k.cps[j]? = some e → decide (e ∈ wordS.cps.toList) = true, ⟨?_⟩, ?_⟩
              · rintro i H1 ⟨hi, hk, hall⟩
                by_cases hlt : i < k.cps.size
                · refine .inr ⟨hlt, hlt, ?_⟩
                  rintro x H' ⟨rfl, e, he, rfl⟩
                  refine ⟨_, rfl, e, wordS, rfl, rfl, _, rfl, ?_⟩
                  cases hb : decide (e ∈ wordS.cps.toList) with
                  | true =>
                    refine iteT ⟨hlt, hk, fun j e' hj he' => ?_⟩
                    rcases Nat.lt_succ_iff_lt_or_eq.mp hj with h | h
                    · exact hall j e' h he'
                    · subst h
                      rw [he] at he'
                      cases he'
                      exact hb
                  | false =>
                    refine iteF ?_
                    have := q _ hk
                    rw [show (k.cps.toList.all fun c => decide (c ∈ wordS.cps.toList)) = false from by
                      rw [List.all_eq_false]
                      exact ⟨e, by rw [Array.mem_toList_iff]; exact Array.mem_of_getElem? he, by rw [hb]; decide⟩] at this
                    exact this
                · have ei : i = k.cps.size := by omega
                  refine .inl ⟨by show k.cps.size ≤ i; omega, ?_⟩
                  have := q H1 hk
                  rw [show (k.cps.toList.all fun c => decide (c ∈ wordS.cps.toList)) = true from by
                    rw [List.all_eq_true]
                    intro e he
                    obtain ⟨j, hj, ej⟩ := List.getElem_of_mem he
                    exact hall j e (by rw [ei]; simpa using hj) (by rw [← ej]; simp at hj; simp [hj])] at this
                  exact this
              · intro H2 t2
                exact ⟨Nat.zero_le _, Go.of_tab hTb hT t2, fun j e hj => absurd hj (Nat.not_lt_zero _)⟩
      · rw [decide_eq_false h2]
        refine iteT ?_
        have e : nameB k = false := by
          have : decide (k.length ≤ 10) = false := by rw [decide_eq_false_iff_not]; omega
          unfold nameB
          rw [this, Bool.and_false]
          rfl
        rw [e] at qH
        exact qH
end
end K00


set_option Elab.async false
set_option linter.all false
set_option maxRecDepth 100000
set_option maxHeartbeats 8000000
namespace K00
open PySem PySem.Spec PyProof.Rows L2
theorem ifT {c : Bool} {p q : Prop} (h : c = true) (x : p) : if c = true then p else q := by rw [if_pos h]; exact x
theorem ifF {c : Bool} {p q : Prop} (h : c = false) (x : q) : if c = true then p else q := by rw [if_neg (by rw [h]; decide)]; exact x
-- bodies of at most sixty
mutual
def St.wd : St → Prop
  | .ch bs => wdbs bs
  | .lp b => b.length ≤ 60 ∧ wdl b
  | .en b c => (b.length ≤ 60 ∧ wdl b) ∧ c.length ≤ 60 ∧ wdl c
  | _ => True
def wdl : List St → Prop
  | [] => True
  | s :: r => s.wd ∧ wdl r
def wdbs : List (List St) → Prop
  | [] => True
  | b :: r => (b.length ≤ 60 ∧ wdl b) ∧ wdbs r
end
theorem wdl_iff : ∀ {b : List St}, wdl b ↔ ∀ s ∈ b, s.wd
  | [] => by simp [wdl]
  | s :: r => by rw [wdl, wdl_iff (b := r)]; simp
theorem wdbs_iff : ∀ {b : List (List St)}, wdbs b ↔ ∀ s ∈ b, s.length ≤ 60 ∧ wdl s
  | [] => by simp [wdbs]
  | s :: r => by rw [wdbs, wdbs_iff (b := r)]; simp
theorem wd_bs : ∀ {s : St}, s.wd → wdbs s.bs
  | .dd _, _ | .ud _, _ | .cl _, _ | .rt, _ => trivial
  | .ch _, h => h
  | .lp b, h => ⟨h, trivial⟩
  | .en b c, h => ⟨h.1, h.2, trivial⟩
mutual
theorem wd_n : ∀ s : St, s.n ≤ 60 → s.wd
  | .dd _, _ | .ud _, _ | .cl _, _ | .rt, _ => trivial
  | .ch bs, h => wdbs_n bs (by rw [St.n] at h; omega)
  | .lp b, h => by
    rw [St.n] at h
    exact ⟨Nat.le_trans (len_ns b) (by omega), wdl_n b (by omega)⟩
  | .en b c, h => by
    rw [St.n] at h
    exact ⟨⟨Nat.le_trans (len_ns b) (by omega), wdl_n b (by omega)⟩, Nat.le_trans (len_ns c) (by omega), wdl_n c (by omega)⟩
theorem wdl_n : ∀ b : List St, ns b ≤ 60 → wdl b
  | [], _ => trivial
  | s :: r, h => by
    rw [ns] at h
    exact ⟨wd_n s (by omega), wdl_n r (by omega)⟩
theorem wdbs_n : ∀ b : List (List St), nss b ≤ 60 → wdbs b
  | [], _ => trivial
  | s :: r, h => by
    rw [nss] at h
    exact ⟨⟨Nat.le_trans (len_ns s) (by omega), wdl_n s (by omega)⟩, wdbs_n r (by omega)⟩
end
theorem ok_bs {L N : List Str} {sec : Bool} : ∀ {s : St}, s.ok L N sec → ∀ b ∈ s.bs, ∃ sec', oks L N sec' b
  | .dd _, _, b, hb | .ud _, _, b, hb | .cl _, _, b, hb | .rt, _, b, hb => by cases hb
  | .ch _, h, b, hb => ⟨sec, okss_iff.mp h.2.2 b hb⟩
  | .lp b, h, b', hb => by
    cases List.mem_singleton.mp hb
    exact ⟨sec, h⟩
  | .en b c, h, b', hb => by
    rcases List.mem_cons.mp hb with rfl | hb
    · exact ⟨sec, h.1⟩
    · cases List.mem_singleton.mp hb
      exact ⟨true, h.2⟩
def Nok (L : List Str) : Prop := ∀ x ∈ L, nameB x = true
theorem nameB_len {x : Str} (h : nameB x = true) : x.length ≤ 10 := by
  unfold nameB at h
  simp only [Bool.and_eq_true, decide_eq_true_eq] at h
  exact h.1.1.1.2
theorem nameB_str {x : Str} (h : nameB x = true) : x.length ≤ sizeLine := Nat.le_trans (nameB_len h) (by decide)
theorem tail1 (x y : V) : cutV [x, y] (some 1) none = [y] := rfl
theorem tail2 (x y z : V) : cutV [x, y, z] (some 1) none = [y, z] := rfl
section
variable {P : Program} {w : World} {K : PySem.W.Frag} {mg : Str → Option Value} {base : Heap}

def spBod (K : PySem.W.Frag) : Sp := fun vs H Q _ => ∃ v s, vs = [v] ∧ Dp K H v (St.d s) ∧ ∀ v' H', Same H H' → Dp K H' v' (.tuple (dss s.bs)) → Q v' H'
theorem sc_bodies_of : FnScope ["statement"] ["statement"] (C8.fnScope (topS 42)) := C8.fnScope_by (by decide +kernel)
theorem ok_bodies_of {f : Addr} {fd : FuncData} (F : C8.Def K mg "bodies_of" (topS 42) f fd) (b : Binds K fd ["statement"] []) (B : Bl K mg)  : C8.Cal P w K mg base 1 "bodies_of" (spBod K) [] := by
  refine C8.cal0 F b .nil sc_bodies_of ?len ?body
  case len => rintro vs H Q E ⟨v, s, rfl, _⟩; rfl
  case body =>
    rintro cdv A outer s H vs Q E hr ⟨v, st, rfl, hd, q⟩
    refine ⟨_, (pss_cons (ps_if (pt_cmpR op_eq (pe_ix ix_tup (pv 0) pe_int (fun _ _ => rfl)) pe_str (nomark _)) (pss_one (ps_ret (pe_ix ix_tup (pv 0) pe_int (fun _ _ => rfl)))) pss_nil)
    (pss_cons (ps_if (pt_cmpR op_in_seq (pe_ix ix_tup (pv 0) pe_int (fun _ _ => rfl)) (pe_tup (pa_cons pe_str (pa_cons pe_str pa_nil))) (by with_unfolding_all rfl)) (pss_one (ps_ret (pe_slice sl_tupA (pv 0) (po_some pe_int) po_none))) pss_nil)
    (pss_one (ps_ret (pe_tup pa_nil))))), ?_⟩
    cases st with
    | dd x =>
      obtain ⟨a, xs, rfl, hs, ha, hl⟩ := len_ok hd
      cases ha with
      | cons h0 ha =>
      cases h0
      refine ⟨_, rfl, _, _, _, _, rfl, rfl, hs, at0 _ _, rfl, _, rfl, ?_⟩
      rw [dec_str]
      refine ifF (by decide +kernel) ?_
      refine ⟨_, rfl, _, _, _, _, rfl, rfl, hs, at0 _ _, (by show 2 ≤ sizeLine; decide), fun p hp => ⟨p, _, rfl, .inr (SqT.of upd_same), rfl, rfl, _, rfl, ?_⟩⟩
      refine ifF (by decide +kernel) ?_
      refine ⟨(by show 0 ≤ sizeLine; decide), fun p2 hp2 => ?_⟩
      exact q _ _ ((same_new hp _).trans (same_new hp2 _)) (.tup (SqT.of upd_same) .nil)
    | ud x =>
      obtain ⟨a, xs, rfl, hs, ha, hl⟩ := len_ok hd
      cases ha with
      | cons h0 ha =>
      cases h0
      refine ⟨_, rfl, _, _, _, _, rfl, rfl, hs, at0 _ _, rfl, _, rfl, ?_⟩
      rw [dec_str]
      refine ifF (by decide +kernel) ?_
      refine ⟨_, rfl, _, _, _, _, rfl, rfl, hs, at0 _ _, (by show 2 ≤ sizeLine; decide), fun p hp => ⟨p, _, rfl, .inr (SqT.of upd_same), rfl, rfl, _, rfl, ?_⟩⟩
      refine ifF (by decide +kernel) ?_
      refine ⟨(by show 0 ≤ sizeLine; decide), fun p2 hp2 => ?_⟩
      exact q _ _ ((same_new hp _).trans (same_new hp2 _)) (.tup (SqT.of upd_same) .nil)
    | cl x =>
      obtain ⟨a, xs, rfl, hs, ha, hl⟩ := len_ok hd
      cases ha with
      | cons h0 ha =>
      cases h0
      refine ⟨_, rfl, _, _, _, _, rfl, rfl, hs, at0 _ _, rfl, _, rfl, ?_⟩
      rw [dec_str]
      refine ifF (by decide +kernel) ?_
      refine ⟨_, rfl, _, _, _, _, rfl, rfl, hs, at0 _ _, (by show 2 ≤ sizeLine; decide), fun p hp => ⟨p, _, rfl, .inr (SqT.of upd_same), rfl, rfl, _, rfl, ?_⟩⟩
      refine ifF (by decide +kernel) ?_
      refine ⟨(by show 0 ≤ sizeLine; decide), fun p2 hp2 => ?_⟩
      exact q _ _ ((same_new hp _).trans (same_new hp2 _)) (.tup (SqT.of upd_same) .nil)
    | rt =>
      obtain ⟨a, xs, rfl, hs, ha, hl⟩ := len_ok hd
      cases ha with
      | cons h0 ha =>
      cases h0
      refine ⟨_, rfl, _, _, _, _, rfl, rfl, hs, at0 _ _, rfl, _, rfl, ?_⟩
      rw [dec_str]
      refine ifF (by decide +kernel) ?_
      refine ⟨_, rfl, _, _, _, _, rfl, rfl, hs, at0 _ _, (by show 2 ≤ sizeLine; decide), fun p hp => ⟨p, _, rfl, .inr (SqT.of upd_same), rfl, rfl, _, rfl, ?_⟩⟩
      refine ifF (by decide +kernel) ?_
      refine ⟨(by show 0 ≤ sizeLine; decide), fun p2 hp2 => ?_⟩
      exact q _ _ ((same_new hp _).trans (same_new hp2 _)) (.tup (SqT.of upd_same) .nil)
    | ch bs =>
      obtain ⟨a, xs, rfl, hs, ha, hl⟩ := len_ok hd
      cases ha with
      | cons h0 ha =>
      cases h0
      refine ⟨_, rfl, _, _, _, _, rfl, rfl, hs, at0 _ _, rfl, _, rfl, ?_⟩
      rw [dec_str]
      refine ifT (by decide +kernel) ?_
      cases ha with
      | cons h1 ha =>
        exact ⟨_, rfl, _, _, _, _, rfl, rfl, hs, at1 _ _ _, q _ H (Same.refl H) h1⟩
    | lp b =>
      obtain ⟨a, xs, rfl, hs, ha, hl⟩ := len_ok hd
      cases ha with
      | cons h0 ha =>
      cases h0
      refine ⟨_, rfl, _, _, _, _, rfl, rfl, hs, at0 _ _, rfl, _, rfl, ?_⟩
      rw [dec_str]
      refine ifF (by decide +kernel) ?_
      refine ⟨_, rfl, _, _, _, _, rfl, rfl, hs, at0 _ _, (by show 2 ≤ sizeLine; decide), fun p hp => ⟨p, _, rfl, .inr (SqT.of upd_same), rfl, rfl, _, rfl, ?_⟩⟩
      refine ifT (by decide +kernel) ?_
      cases ha with
      | @cons v1 _ _ _ h1 ha =>
        cases ha
        have hs' := sqt_ext (same_ext (same_new hp (.tup [.str "loop", .str "ensure"]))) hs
        refine ⟨_, rfl, 1, rfl, _, _, rfl, hs', fun w => ?_, fun _ r hr2 => ?_⟩
        · exact absurd w.1 (by show ¬ (HT.sIx 2 0 (some 1) = 0); decide)
        · have s2 := (same_new hp (.tup [.str "loop", .str "ensure"])).trans (same_new hr2 (.tup [v1]))
          exact q _ _ s2 (.tup (SqT.of upd_same) (.cons (dp_ext (same_ext s2) _ h1) .nil))
    | en b c =>
      obtain ⟨a, xs, rfl, hs, ha, hl⟩ := len_ok hd
      cases ha with
      | cons h0 ha =>
      cases h0
      refine ⟨_, rfl, _, _, _, _, rfl, rfl, hs, at0 _ _, rfl, _, rfl, ?_⟩
      rw [dec_str]
      refine ifF (by decide +kernel) ?_
      refine ⟨_, rfl, _, _, _, _, rfl, rfl, hs, at0 _ _, (by show 2 ≤ sizeLine; decide), fun p hp => ⟨p, _, rfl, .inr (SqT.of upd_same), rfl, rfl, _, rfl, ?_⟩⟩
      refine ifT (by decide +kernel) ?_
      cases ha with
      | @cons v1 _ _ _ h1 ha =>
        cases ha with
        | @cons v2 _ _ _ h2 ha =>
        cases ha
        have hs' := sqt_ext (same_ext (same_new hp (.tup [.str "loop", .str "ensure"]))) hs
        refine ⟨_, rfl, 1, rfl, _, _, rfl, hs', fun w => ?_, fun _ r hr2 => ?_⟩
        · exact absurd w.1 (by show ¬ (HT.sIx 3 0 (some 1) = 0); decide)
        · have s2 := (same_new hp (.tup [.str "loop", .str "ensure"])).trans (same_new hr2 (.tup [v1, v2]))
          exact q _ _ s2 (.tup (SqT.of upd_same) (.cons (dp_ext (same_ext s2) _ h1) (.cons (dp_ext (same_ext s2) _ h2) .nil)))

def spStm (K : PySem.W.Frag) (Ts : List Addr) : Sp := fun vs H Q _ => ∃ v s L N sec, vs = [v] ∧ Dp K H v (St.d s) ∧ s.ok L N sec ∧ Nok L ∧ Nok N ∧ Tbs Ts H ∧ ∀ H', Go Ts H H' → Q (.bl true) H'
theorem sc__is_statement : FnScope ["thing", "word"] ["thing"] (C8.fnScope (topS 41)) := C8.fnScope_by (by decide +kernel)
theorem ok__is_statement {Ts : List Addr} {f : Addr} {fd : FuncData} (F : C8.Def K mg "_is_statement" (topS 41) f fd) (b : Binds K fd ["thing"] []) (B : Bl K mg) (c_is_row : C8.Cal P w K mg base 1 "is_row" (spRow K) []) (c_is_name : C8.Cal P w K mg base 4 "is_name" (spName K Ts) []) : C8.Cal P w K mg base 5 "_is_statement" (spStm K Ts) [] := by
  refine C8.cal0 F b .nil sc__is_statement ?len ?body
  case len => rintro vs H Q E ⟨v, s, L, N, sec, rfl, _⟩; rfl
  case body =>
    rintro cdv A outer s H vs Q E hr ⟨v, st, L, N, sec, rfl, hd, hok, hL, hN, hTb, q⟩
    refine ⟨_, (pss_cons (ps_if (PW.pt (pw_or (pt_not (pt_val (C8.pe_c c_is_row hr (by decide) rfl (pa_cons (pv 0) (pa_cons pe_int (pa_cons pe_int pa_nil)))))) (pw_or1 (pt_not (pt_val (pe_isD (c := "str") B (pe_ix ix_tup (pv 0) pe_int (fun _ _ => rfl)) rfl rfl B.str (by decide +kernel) (by decide))))))) (pss_one (ps_ret pe_bl)) pss_nil)
    (pss_cons (ps_set (i := 1) sc__is_statement.nd rfl (Or.inl rfl) (pe_ix ix_tup (pv 0) pe_int (fun _ _ => rfl)))
    (pss_cons (ps_if (pt_cmpR op_in_seq (pv 1) (pe_tup (pa_cons pe_str (pa_cons pe_str (pa_cons pe_str pa_nil)))) (by with_unfolding_all rfl)) (pss_one (ps_ret (pe_and (pe_cmpR op_eq (pe_callB call_len_seq rfl B.len PySem.boot_len (pa_cons (pv 0) pa_nil)) pe_int (nomark _)) (pe_one (C8.pe_c c_is_name hr (by decide) rfl (pa_cons (pe_ix ix_tup (pv 0) pe_int (fun _ _ => rfl)) pa_nil)))))) pss_nil)
    (pss_cons (ps_if (pt_cmpR op_eq (pv 1) pe_str (nomark _)) (pss_one (ps_ret (pe_and (pe_cmpR op_eq (pe_callB call_len_seq rfl B.len PySem.boot_len (pa_cons (pv 0) pa_nil)) pe_int (nomark _)) (pe_one (C8.pe_c c_is_row hr (by decide) rfl (pa_cons (pe_ix ix_tup (pv 0) pe_int (fun _ _ => rfl)) (pa_cons (pe_glob (v := .int 2) rfl B.LEAST_BODIES.choose_spec ⟨_, rfl⟩) (pa_cons (pe_glob (v := .int 6) rfl B.MOST_BODIES.choose_spec ⟨_, rfl⟩) pa_nil)))))))) pss_nil)
    (pss_cons (ps_if (pt_cmpR op_eq (pv 1) pe_str (nomark _)) (pss_one (ps_ret (pe_cmpR op_eq (pe_callB call_len_seq rfl B.len PySem.boot_len (pa_cons (pv 0) pa_nil)) pe_int (nomark _)))) pss_nil)
    (pss_cons (ps_if (pt_cmpR op_eq (pv 1) pe_str (nomark _)) (pss_one (ps_ret (pe_cmpR op_eq (pe_callB call_len_seq rfl B.len PySem.boot_len (pa_cons (pv 0) pa_nil)) pe_int (nomark _)))) pss_nil)
    (pss_one (ps_ret (pe_and (pe_cmpR op_eq (pv 1) pe_str (nomark _)) (pe_one (pe_cmpR op_eq (pe_callB call_len_seq rfl B.len PySem.boot_len (pa_cons (pv 0) pa_nil)) pe_int (nomark _)))))))))))), ?_⟩
    cases st with
    | dd x =>
      have hd0 := hd
      obtain ⟨a, xs, rfl, hs, ha, hl⟩ := len_ok hd
      cases ha with
      | cons h0 ha =>
      cases h0
      refine ⟨_, rfl, _, _, 1, 3, rfl, hd0, _, rfl, ?_⟩
      refine iteF ?_
      refine ⟨_, rfl, _, _, _, _, rfl, rfl, hs, at0 _ _, _, _, rfl, .str _, _, rfl, ?_⟩
      refine iteF ?_
      refine ⟨_, rfl, _, _, _, _, rfl, rfl, hs, at0 _ _, ?_⟩
      refine ⟨_, rfl, (by show 3 ≤ sizeLine; decide), fun p hp => ⟨p, _, rfl, .inr (SqT.of upd_same), rfl, rfl, _, rfl, ?_⟩⟩
      have sN := same_new hp (.tup [.str "do", .str "undo", .str "call"])
      have hs' := sqt_ext (same_ext sN) hs
      have gN := Go.of_same hTb sN
      refine ifT (by decide +kernel) ?_
      cases ha with
      | cons h1 ha =>
      cases h1
      cases ha
      have hx : nameB x = true := hL x hok
      refine ⟨_, rfl, a, _, rfl, .inr hs', rfl, _, rfl, ?_⟩
      rw [dec_int]
      refine iteT ?_
      refine ⟨_, rfl, _, _, _, _, rfl, rfl, hs', at1 _ _ _, _, .str x, rfl, .str x, nameB_str hx, gN.1, fun H2 g2 => ?_⟩
      rw [show nameD (.str x) = true from hx]
      exact q _ (gN.trans g2)
    | ud x =>
      have hd0 := hd
      obtain ⟨a, xs, rfl, hs, ha, hl⟩ := len_ok hd
      cases ha with
      | cons h0 ha =>
      cases h0
      refine ⟨_, rfl, _, _, 1, 3, rfl, hd0, _, rfl, ?_⟩
      refine iteF ?_
      refine ⟨_, rfl, _, _, _, _, rfl, rfl, hs, at0 _ _, _, _, rfl, .str _, _, rfl, ?_⟩
      refine iteF ?_
      refine ⟨_, rfl, _, _, _, _, rfl, rfl, hs, at0 _ _, ?_⟩
      refine ⟨_, rfl, (by show 3 ≤ sizeLine; decide), fun p hp => ⟨p, _, rfl, .inr (SqT.of upd_same), rfl, rfl, _, rfl, ?_⟩⟩
      have sN := same_new hp (.tup [.str "do", .str "undo", .str "call"])
      have hs' := sqt_ext (same_ext sN) hs
      have gN := Go.of_same hTb sN
      refine ifT (by decide +kernel) ?_
      cases ha with
      | cons h1 ha =>
      cases h1
      cases ha
      have hx : nameB x = true := hL x hok
      refine ⟨_, rfl, a, _, rfl, .inr hs', rfl, _, rfl, ?_⟩
      rw [dec_int]
      refine iteT ?_
      refine ⟨_, rfl, _, _, _, _, rfl, rfl, hs', at1 _ _ _, _, .str x, rfl, .str x, nameB_str hx, gN.1, fun H2 g2 => ?_⟩
      rw [show nameD (.str x) = true from hx]
      exact q _ (gN.trans g2)
    | cl x =>
      have hd0 := hd
      obtain ⟨a, xs, rfl, hs, ha, hl⟩ := len_ok hd
      cases ha with
      | cons h0 ha =>
      cases h0
      refine ⟨_, rfl, _, _, 1, 3, rfl, hd0, _, rfl, ?_⟩
      refine iteF ?_
      refine ⟨_, rfl, _, _, _, _, rfl, rfl, hs, at0 _ _, _, _, rfl, .str _, _, rfl, ?_⟩
      refine iteF ?_
      refine ⟨_, rfl, _, _, _, _, rfl, rfl, hs, at0 _ _, ?_⟩
      refine ⟨_, rfl, (by show 3 ≤ sizeLine; decide), fun p hp => ⟨p, _, rfl, .inr (SqT.of upd_same), rfl, rfl, _, rfl, ?_⟩⟩
      have sN := same_new hp (.tup [.str "do", .str "undo", .str "call"])
      have hs' := sqt_ext (same_ext sN) hs
      have gN := Go.of_same hTb sN
      refine ifT (by decide +kernel) ?_
      cases ha with
      | cons h1 ha =>
      cases h1
      cases ha
      have hx : nameB x = true := hN x hok
      refine ⟨_, rfl, a, _, rfl, .inr hs', rfl, _, rfl, ?_⟩
      rw [dec_int]
      refine iteT ?_
      refine ⟨_, rfl, _, _, _, _, rfl, rfl, hs', at1 _ _ _, _, .str x, rfl, .str x, nameB_str hx, gN.1, fun H2 g2 => ?_⟩
      rw [show nameD (.str x) = true from hx]
      exact q _ (gN.trans g2)
    | rt =>
      have hd0 := hd
      obtain ⟨a, xs, rfl, hs, ha, hl⟩ := len_ok hd
      cases ha with
      | cons h0 ha =>
      cases h0
      refine ⟨_, rfl, _, _, 1, 3, rfl, hd0, _, rfl, ?_⟩
      refine iteF ?_
      refine ⟨_, rfl, _, _, _, _, rfl, rfl, hs, at0 _ _, _, _, rfl, .str _, _, rfl, ?_⟩
      refine iteF ?_
      refine ⟨_, rfl, _, _, _, _, rfl, rfl, hs, at0 _ _, ?_⟩
      refine ⟨_, rfl, (by show 3 ≤ sizeLine; decide), fun p hp => ⟨p, _, rfl, .inr (SqT.of upd_same), rfl, rfl, _, rfl, ?_⟩⟩
      have sN := same_new hp (.tup [.str "do", .str "undo", .str "call"])
      have hs' := sqt_ext (same_ext sN) hs
      have gN := Go.of_same hTb sN
      refine ifF (by decide +kernel) ?_
      refine ⟨_, rfl, rfl, _, rfl, ?_⟩
      rw [dec_str]
      refine ifF (by decide +kernel) ?_
      refine ⟨_, rfl, rfl, _, rfl, ?_⟩
      rw [dec_str]
      refine ifF (by decide +kernel) ?_
      refine ⟨_, rfl, rfl, _, rfl, ?_⟩
      rw [dec_str]
      refine ifF (by decide +kernel) ?_
      refine ⟨_, rfl, rfl, _, rfl, ?_⟩
      rw [dec_str]
      refine ifT (by decide +kernel) ?_
      refine ⟨_, rfl, a, _, rfl, .inr hs', rfl, ?_⟩
      rw [dec_int, hl]
      exact q _ gN
    | ch bs =>
      have hd0 := hd
      obtain ⟨a, xs, rfl, hs, ha, hl⟩ := len_ok hd
      cases ha with
      | cons h0 ha =>
      cases h0
      refine ⟨_, rfl, _, _, 1, 3, rfl, hd0, _, rfl, ?_⟩
      refine iteF ?_
      refine ⟨_, rfl, _, _, _, _, rfl, rfl, hs, at0 _ _, _, _, rfl, .str _, _, rfl, ?_⟩
      refine iteF ?_
      refine ⟨_, rfl, _, _, _, _, rfl, rfl, hs, at0 _ _, ?_⟩
      refine ⟨_, rfl, (by show 3 ≤ sizeLine; decide), fun p hp => ⟨p, _, rfl, .inr (SqT.of upd_same), rfl, rfl, _, rfl, ?_⟩⟩
      have sN := same_new hp (.tup [.str "do", .str "undo", .str "call"])
      have hs' := sqt_ext (same_ext sN) hs
      have gN := Go.of_same hTb sN
      refine ifF (by decide +kernel) ?_
      refine ⟨_, rfl, rfl, _, rfl, ?_⟩
      rw [dec_str]
      refine ifT (by decide +kernel) ?_
      cases ha with
      | cons h1 ha =>
      cases ha
      refine ⟨_, rfl, a, _, rfl, .inr hs', rfl, _, rfl, ?_⟩
      rw [dec_int]
      refine iteT ?_
      refine ⟨_, rfl, _, _, _, _, rfl, rfl, hs', at1 _ _ _, _, _, 2, 6, rfl, dp_ext (same_ext sN) _ h1, ?_⟩
      have hb := hok.1
      have hb2 := hok.2.1
      rw [show rowD (.tuple (dss bs)) 2 6 = true by
        show (decide ((2 : Int) ≤ ((dss bs).length : Int)) && decide (((dss bs).length : Int) ≤ 6)) = true
        rw [dss_len, Bool.and_eq_true, decide_eq_true_eq, decide_eq_true_eq]
        omega]
      exact q _ gN
    | lp b =>
      have hd0 := hd
      obtain ⟨a, xs, rfl, hs, ha, hl⟩ := len_ok hd
      cases ha with
      | cons h0 ha =>
      cases h0
      refine ⟨_, rfl, _, _, 1, 3, rfl, hd0, _, rfl, ?_⟩
      refine iteF ?_
      refine ⟨_, rfl, _, _, _, _, rfl, rfl, hs, at0 _ _, _, _, rfl, .str _, _, rfl, ?_⟩
      refine iteF ?_
      refine ⟨_, rfl, _, _, _, _, rfl, rfl, hs, at0 _ _, ?_⟩
      refine ⟨_, rfl, (by show 3 ≤ sizeLine; decide), fun p hp => ⟨p, _, rfl, .inr (SqT.of upd_same), rfl, rfl, _, rfl, ?_⟩⟩
      have sN := same_new hp (.tup [.str "do", .str "undo", .str "call"])
      have hs' := sqt_ext (same_ext sN) hs
      have gN := Go.of_same hTb sN
      refine ifF (by decide +kernel) ?_
      refine ⟨_, rfl, rfl, _, rfl, ?_⟩
      rw [dec_str]
      refine ifF (by decide +kernel) ?_
      refine ⟨_, rfl, rfl, _, rfl, ?_⟩
      rw [dec_str]
      refine ifT (by decide +kernel) ?_
      refine ⟨_, rfl, a, _, rfl, .inr hs', rfl, ?_⟩
      rw [dec_int, hl]
      exact q _ gN
    | en b c =>
      have hd0 := hd
      obtain ⟨a, xs, rfl, hs, ha, hl⟩ := len_ok hd
      cases ha with
      | cons h0 ha =>
      cases h0
      refine ⟨_, rfl, _, _, 1, 3, rfl, hd0, _, rfl, ?_⟩
      refine iteF ?_
      refine ⟨_, rfl, _, _, _, _, rfl, rfl, hs, at0 _ _, _, _, rfl, .str _, _, rfl, ?_⟩
      refine iteF ?_
      refine ⟨_, rfl, _, _, _, _, rfl, rfl, hs, at0 _ _, ?_⟩
      refine ⟨_, rfl, (by show 3 ≤ sizeLine; decide), fun p hp => ⟨p, _, rfl, .inr (SqT.of upd_same), rfl, rfl, _, rfl, ?_⟩⟩
      have sN := same_new hp (.tup [.str "do", .str "undo", .str "call"])
      have hs' := sqt_ext (same_ext sN) hs
      have gN := Go.of_same hTb sN
      refine ifF (by decide +kernel) ?_
      refine ⟨_, rfl, rfl, _, rfl, ?_⟩
      rw [dec_str]
      refine ifF (by decide +kernel) ?_
      refine ⟨_, rfl, rfl, _, rfl, ?_⟩
      rw [dec_str]
      refine ifF (by decide +kernel) ?_
      refine ⟨_, rfl, rfl, _, rfl, ?_⟩
      rw [dec_str]
      refine ifT (by decide +kernel) ?_
      refine ⟨_, rfl, a, _, rfl, .inr hs', rfl, ?_⟩
      rw [dec_int, hl]
      exact q _ gN
end
end K00


set_option Elab.async false
set_option linter.all false
set_option maxRecDepth 100000
set_option maxHeartbeats 8000000
namespace K00
open PySem PySem.Spec PyProof.Rows L2
/-! ### what stands in tuples stays -/
def Tk (H H' : Hp) : Prop := ∀ p xs, (H p = some (.tup xs) → H' p = some (.tup xs)) ∧ ∀ o, H p = some (.frz o (.tup xs)) → H' p = some (.frz o (.tup xs))
theorem Tk.refl (H : Hp) : Tk H H := fun _ _ => ⟨id, fun _ => id⟩
theorem Tk.trans {H H1 H2 : Hp} (a : Tk H H1) (b : Tk H1 H2) : Tk H H2 := fun p xs => ⟨fun h => (b p xs).1 ((a p xs).1 h), fun o h => (b p xs).2 o ((a p xs).2 o h)⟩
theorem Tk.same {H H' : Hp} (s : Same H H') : Tk H H' := fun p xs => ⟨fun h => s _ _ h, fun o h => s _ _ h⟩
theorem Tk.new {H : Hp} {a : Addr} (h : H a = none) (o : HO) : Tk H (upd H a o) := Tk.same (same_new h o)
theorem Tk.put {H : Hp} {a : Addr} {xs : List V} (h : H a = some (.lst xs)) (o : HO) : Tk H (upd H a o) := fun p ys => by
  constructor
  · intro e
    rw [upd_ne (fun z => by rw [z, h] at e; cases e)]
    exact e
  · intro u e
    rw [upd_ne (fun z => by rw [z, h] at e; cases e)]
    exact e
theorem Tk.putI {H : Hp} {a C dx : Addr} {fs : List (Str × V)} (h : H a = some (.ins C dx fs)) (o : HO) : Tk H (upd H a o) := fun p ys => by
  constructor
  · intro e
    rw [upd_ne (fun z => by rw [z, h] at e; cases e)]
    exact e
  · intro u e
    rw [upd_ne (fun z => by rw [z, h] at e; cases e)]
    exact e
theorem Tk.go {Ts : List Addr} {H H' : Hp} (t : Tbs Ts H) (g : Go Ts H H') : Tk H H' := fun p xs => by
  have n : ∀ o, H p = some o → (∀ ps, o ≠ .tbl ps) → p ∉ Ts := fun o e no z => by
    obtain ⟨ps, h1, _⟩ := t p z
    rw [h1] at e
    cases e
    exact no _ rfl
  exact ⟨fun e => g.2 _ _ (n _ e (fun ps z => by cases z)) e, fun o e => g.2 _ _ (n _ e (fun ps z => by cases z)) e⟩
-- data of tuples alone
mutual
def TupD : PyData → Prop
  | .list _ => False
  | .dict _ => False
  | .tuple xs => TupDs xs
  | _ => True
def TupDs : List PyData → Prop
  | [] => True
  | d :: r => TupD d ∧ TupDs r
end
theorem tupds_iff : ∀ {b : List PyData}, TupDs b ↔ ∀ s ∈ b, TupD s
  | [] => by simp [TupDs]
  | s :: r => by rw [TupDs, tupds_iff (b := r)]; simp
theorem Tk.sqt {K : PySem.W.Frag} {H H' : Hp} {a : Addr} {xs : List V} (t : Tk H H') (h : SqT K H a xs) : SqT K H' a xs := by
  rcases h with (h | ⟨o, h⟩) | h
  · exact .inl (.inl ((t _ _).1 h))
  · exact .inl (.inr ⟨o, (t _ _).2 o h⟩)
  · exact .inr h
mutual
theorem Tk.dp {K : PySem.W.Frag} {H H' : Hp} (t : Tk H H') : ∀ (d : PyData) {v : V}, TupD d → Dp K H v d → Dp K H' v d
  | .none, _, _, h => by cases h; exact .non
  | .bool _, _, _, h => by cases h; exact .bl _
  | .int _, _, _, h => by cases h; exact .int _
  | .str _, _, _, h => by cases h; exact .str _
  | .list _, _, n, _ => n.elim
  | .tuple ds, _, n, h => by
    cases h with
    | tup hs ha => exact .tup (t.sqt hs) (Tk.dps t ds n ha)
  | .dict _, _, n, _ => n.elim
theorem Tk.dps {K : PySem.W.Frag} {H H' : Hp} (t : Tk H H') : ∀ (ds : List PyData) {vs : List V}, TupDs ds → DpAll K H vs ds → DpAll K H' vs ds
  | [], _, _, h => by cases h; exact .nil
  | d :: ds, _, n, h => by
    cases h with
    | cons h1 h2 => exact .cons (Tk.dp t d n.1 h1) (Tk.dps t ds n.2 h2)
end
mutual
theorem tup_St : ∀ s : St, TupD s.d
  | .dd _ | .ud _ | .cl _ => ⟨trivial, trivial, trivial⟩
  | .ch bs => ⟨trivial, tup_dss bs, trivial⟩
  | .lp b => ⟨trivial, tup_ds b, trivial⟩
  | .rt => ⟨trivial, trivial⟩
  | .en b c => ⟨trivial, tup_ds b, tup_ds c, trivial⟩
theorem tup_ds : ∀ b : List St, TupDs (ds b)
  | [] => trivial
  | s :: r => ⟨tup_St s, tup_ds r⟩
theorem tup_dss : ∀ b : List (List St), TupDs (dss b)
  | [] => trivial
  | b :: r => ⟨tup_ds b, tup_dss r⟩
end
end K00


set_option Elab.async false
set_option linter.all false
set_option maxRecDepth 100000
set_option maxHeartbeats 8000000
namespace K00
open PySem PySem.Spec PyProof.Rows L2
-- how many bodies
mutual
def St.m : St → Nat
  | .ch bs => mss bs
  | .lp b => 1 + ms b
  | .en b c => (1 + ms b) + (1 + ms c)
  | _ => 0
def ms : List St → Nat
  | [] => 0
  | s :: r => s.m + ms r
def mss : List (List St) → Nat
  | [] => 0
  | b :: r => (1 + ms b) + mss r
end
theorem m_bs : ∀ s : St, s.m = mss s.bs
  | .dd _ | .ud _ | .cl _ | .rt | .ch _ => rfl
  | .lp b => by simp [St.m, St.bs, mss]
  | .en b c => by simp [St.m, St.bs, mss]
theorem mss_app : ∀ a b : List (List St), mss (a ++ b) = mss a + mss b
  | [], b => by simp [mss]
  | s :: r, b => by rw [List.cons_append, mss, mss, mss_app r b]; omega
theorem nss_app : ∀ a b : List (List St), nss (a ++ b) = nss a + nss b
  | [], b => by simp [nss]
  | s :: r, b => by rw [List.cons_append, nss, nss, nss_app r b]; omega
theorem len_mss : ∀ b : List (List St), b.length ≤ mss b
  | [] => Nat.le_refl _
  | s :: r => by
    have := len_mss r
    rw [List.length_cons, mss]
    omega
theorem mss_flat : ∀ b : List St, mss (b.flatMap St.bs) = ms b
  | [] => rfl
  | s :: r => by rw [List.flatMap_cons, mss_app, mss_flat r, ms, m_bs]
theorem mss_take : ∀ (l : List (List St)) (j : Nat), mss (l.take j) ≤ mss l
  | [], j => by simp
  | b :: r, 0 => by simp [mss]
  | b :: r, j + 1 => by
    have := mss_take r j
    rw [List.take_succ_cons, mss, mss]
    omega
theorem ms_take : ∀ {b : List St} {i : Nat} {s : St}, b[i]? = some s → ms (b.take i) + s.m ≤ ms b
  | [], i, s, h => by simp at h
  | x :: r, 0, s, h => by
    simp at h
    subst h
    simp [ms]
  | x :: r, i + 1, s, h => by
    have := ms_take (b := r) (i := i) (s := s) (by simpa using h)
    rw [List.take_succ_cons, ms, ms]
    omega
theorem nss_flat : ∀ b : List St, nss (b.flatMap St.bs) + b.length = ns b
  | [] => rfl
  | s :: r => by
    have := nss_flat r
    rw [List.flatMap_cons, nss_app, ns, n_bs, List.length_cons]
    omega
/-- the stack of bodies and their depths -/
inductive Stk (K : PySem.W.Frag) (H : Hp) : List V → List (List St × Nat) → Prop
  | nil : Stk K H [] []
  | snoc {vs : List V} {st : List (List St × Nat)} {p : Addr} {x : V} {b : List St} {d : Nat} : Stk K H vs st → SqT K H p [x, .int (d : Int)] → Dp K H x (.tuple (ds b)) → Stk K H (vs ++ [.ref p]) (st ++ [(b, d)])
theorem Stk.tk {K : PySem.W.Frag} {H H' : Hp} (e : Tk H H') {vs : List V} {st : List (List St × Nat)} (h : Stk K H vs st) : Stk K H' vs st := by
  induction h with
  | nil => exact .nil
  | snoc _ hp hx ih => exact .snoc ih (e.sqt hp) (e.dp _ (tup_ds _) hx)
theorem Stk.len {K : PySem.W.Frag} {H : Hp} {vs : List V} {st : List (List St × Nat)} (h : Stk K H vs st) : vs.length = st.length := by
  induction h with
  | nil => rfl
  | snoc _ _ _ ih => simp [ih]
def push (d : Nat) (bs : List (List St)) : List (List St × Nat) := bs.map fun b => (b, d)
theorem push_fst (d : Nat) (bs : List (List St)) : (push d bs).map Prod.fst = bs := by
  unfold push
  rw [List.map_map]
  exact List.map_id' bs
theorem push_app (d : Nat) (a b : List (List St)) : push d (a ++ b) = push d a ++ push d b := by
  unfold push
  rw [List.map_append]
theorem push_mem {d : Nat} {bs : List (List St)} {e : List St × Nat} (h : e ∈ push d bs) : e.1 ∈ bs ∧ e.2 = d := by
  unfold push at h
  obtain ⟨b, hb, rfl⟩ := List.mem_map.mp h
  exact ⟨hb, rfl⟩
theorem ext_kp {Ts ms : List Addr} {H H' : Hp} (h : Tbs Ts H) (n : ∀ a ∈ ms, H a = none) (k : Kp (ms ++ Ts) H H') : LamX.ExtN H H' := (ext_cut h n).trans ((same_ext k.cut).trans (same_ext cutL_ext))
theorem go_of {Ts ms : List Addr} {H H' : Hp} (n : ∀ a ∈ ms, H a = none) (t : Tbs Ts H') (k : Kp (ms ++ Ts) H H') : Go Ts H H' := ⟨t, fun p o hp e => k p o (fun z => by
  rcases List.mem_append.mp z with z | z
  · rw [n p z] at e; cases e
  · exact hp z) e⟩
theorem kp_go {Ts ms : List Addr} {H H' : Hp} (g : Go Ts H H') : Kp (ms ++ Ts) H H' := g.2.mono fun _ h => List.mem_append_right _ h
theorem tbs_upd {Ts : List Addr} {H : Hp} {a : Addr} {o o' : HO} (h : Tbs Ts H) (e : H a = some o) (n : ∀ ps, o ≠ .tbl ps) : Tbs Ts (upd H a o') := fun T hT => by
  obtain ⟨ps, h1, h2⟩ := h T hT
  refine ⟨ps, ?_, h2⟩
  rw [upd_ne (fun z => by rw [z, e] at h1; cases h1; exact n _ rfl)]
  exact h1
theorem tbs_new {Ts : List Addr} {H : Hp} {a : Addr} {o' : HO} (h : Tbs Ts H) (e : H a = none) : Tbs Ts (upd H a o') := h.same (same_new e _)
def Gd (L N : List Str) (e : List St × Nat) : Prop := ks e.1 + e.2 ≤ 13 ∧ (e.1.length ≤ 60 ∧ wdl e.1) ∧ ∃ sec, oks L N sec e.1
/-- the state of the walk -/
def AbI (K : PySem.W.Frag) (Ts : List Addr) (H0 : Hp) (Wd : Addr) (st : List (List St × Nat)) (H' : Hp) : Prop :=
  Tbs Ts H' ∧ Kp ([Wd] ++ Ts) H0 H' ∧ Tk H0 H' ∧ ∃ vs, H' Wd = some (.lst vs) ∧ Stk K H' vs st
theorem AbI.kp {K : PySem.W.Frag} {Ts : List Addr} {H0 H' H2 : Hp} {Wd : Addr} {st : List (List St × Nat)} (a : AbI K Ts H0 Wd st H') (nW : Wd ∉ Ts) (g : Go Ts H' H2) : AbI K Ts H0 Wd st H2 := by
  obtain ⟨t, k, tk, vs, h1, h2⟩ := a
  have t2 := Tk.go t g
  exact ⟨g.1, k.trans (kp_go g), tk.trans t2, vs, g.2 _ _ nW h1, h2.tk t2⟩
/-- one more on the stack -/
theorem AbI.push1 {K : PySem.W.Frag} {Ts : List Addr} {H0 H' : Hp} {Wd p : Addr} {st : List (List St × Nat)} {x : V} {b : List St} {d : Nat} {vs : List V} (a : AbI K Ts H0 Wd st H') (hp : H' p = none)
    (hv : (upd H' p (.tup [x, .int (d : Int)])) Wd = some (.lst vs)) (hx : Dp K H' x (.tuple (ds b))) : AbI K Ts H0 Wd (st ++ [(b, d)]) (upd (upd H' p (.tup [x, .int (d : Int)])) Wd (.lst (vs ++ [.ref p]))) := by
  obtain ⟨t, k, tk, vs', h1, h2⟩ := a
  have np : p ≠ Wd := fun z => by rw [← z, hp] at h1; cases h1
  have s1 := same_new hp (.tup [x, .int (d : Int)])
  have t1 : Tbs Ts (upd H' p (.tup [x, .int (d : Int)])) := t.same s1
  have hv' := hv
  rw [upd_ne (Ne.symm np), h1] at hv
  cases hv
  have t2 : Tk H' (upd (upd H' p (.tup [x, .int (d : Int)])) Wd (.lst (vs ++ [.ref p]))) := (Tk.same s1).trans (Tk.put hv' _)
  refine ⟨?_, k.trans ((Kp.of_same s1).trans (Kp.put _ (by simp))), tk.trans t2, _, upd_same, ?_⟩
  · exact tbs_upd t1 hv' (fun ps z => by cases z)
  · refine .snoc (h2.tk t2) (SqT.of ?_) (t2.dp _ (tup_ds b) hx)
    rw [upd_ne np]
    exact upd_same
section
variable {P : Program} {w : World} {K : PySem.W.Frag} {mg : Str → Option Value} {base : Heap}

def spAB (K : PySem.W.Frag) (Ts : List Addr) : Sp := fun vs H Q _ => ∃ a xs bl L N, vs = [.ref a] ∧ SqL K H a xs ∧ DpAll K H xs (dss bl) ∧ nss bl ≤ 200 ∧ mss bl ≤ 10000 ∧ kss bl ≤ 12 ∧ wdbs bl ∧ (∀ b ∈ bl, ∃ sec, oks L N sec b) ∧ Nok L ∧ Nok N ∧ Tbs Ts H ∧ ∀ H', Go Ts H H' → Q (.bl true) H'
theorem sc__are_bodies : FnScope ["bodies", "count", "waiting", "body", "depth", "statement", "inner"] ["bodies"] (C8.fnScope (topS 40)) := C8.fnScope_by (by decide +kernel)
theorem ok__are_bodies {Ts : List Addr} {f : Addr} {fd : FuncData} (F : C8.Def K mg "_are_bodies" (topS 40) f fd) (b : Binds K fd ["bodies"] []) (B : Bl K mg) (c_is_row : C8.Cal P w K mg base 1 "is_row" (spRow K) []) (c__is_statement : C8.Cal P w K mg base 5 "_is_statement" (spStm K Ts) []) (c_bodies_of : C8.Cal P w K mg base 1 "bodies_of" (spBod K) []) : C8.Cal P w K mg base 6 "_are_bodies" (spAB K Ts) [] := by
  refine C8.cal0 F b .nil sc__are_bodies ?len ?body
  case len => rintro vs H Q E ⟨a, xs, bl, L, N, rfl, _⟩; rfl
  case body =>
    rintro cdv A outer s H vs Q E hr ⟨a, xs, bl, L, N, rfl, hs, ha, hn, hm0, hk, hw, hok, hL, hN, hTb, q⟩
    refine ⟨_, (pss_cons (ps_set (i := 1) sc__are_bodies.nd rfl (Or.inl rfl) pe_int)
    (pss_cons (ps_setLc (i := 2) (own := [("body", 3)]) (g := gName 3) (by rfl) sc__are_bodies.nd rfl rfl (sw_true rfl rfl rfl (by decide +kernel)) (pi_list (pv 0)) (blkOk_by (own := [("body", 3)]) (N := ["bodies", "count", "waiting", "body", "depth", "statement", "inner"]) (sc := (C8.fnScope (topS 40))) (by decide +kernel)) (fun _ _ _ _ _ => pg_name (i := 3) sc__are_bodies.nd rfl (Or.inl rfl)) (fun _ _ _ _ _ => pts_nil) (fun _ _ _ _ _ => (pe_tup (pa_cons (pv 3) (pa_cons pe_int pa_nil)))))
    (pss_cons (ps_while PassesOwn.never (pt_truth (pv 2) (by intro _; rfl)) (pss_cons (ps_asg (pe_bm0 PySem.F.plainAttrs_list PySem.F.slot_list_pop PySem.F.type_list_pop mt_pop (pv 2)) (pg_tup rfl (pgs_cons (pg_name (i := 3) sc__are_bodies.nd rfl (Or.inl rfl)) (pgs_cons (pg_name (i := 4) sc__are_bodies.nd rfl (Or.inl rfl)) pgs_nil))))
    (pss_cons (ps_if (pt_not (pt_val (C8.pe_c c_is_row hr (by decide) rfl (pa_cons (pv 3) (pa_cons pe_int (pa_cons (pe_glob (v := .int 60) rfl B.MOST_IN_BODY.choose_spec ⟨_, rfl⟩) pa_nil)))))) (pss_one (ps_ret pe_bl)) pss_nil)
    (pss_cons (ps_aug (i := 1) sc__are_bodies.nd rfl (Or.inl rfl) (pe_callB call_len_seq rfl B.len PySem.boot_len (pa_cons (pv 3) pa_nil)) ip_add)
    (pss_cons (ps_if (PW.pt (pw_or (pt_cmpR op_gt (pv 1) (pe_glob (v := .int 200) rfl B.MOST_STATEMENTS.choose_spec ⟨_, rfl⟩) (nomark _)) (pw_or1 (PW.pt (pw_and (pt_truth (pv 3) (by intro _; rfl)) (pw_and1 (pt_cmpR op_gt (pv 4) (pe_glob (v := .int 12) rfl B.LONGEST_CHAIN.choose_spec ⟨_, rfl⟩) (nomark _)))))))) (pss_one (ps_ret pe_bl)) pss_nil)
    (pss_one (ps_for PassesOwn.never rfl (pi_tup (pv 3)) (pg_name (i := 5) sc__are_bodies.nd rfl (Or.inl rfl))
    (pss_cons (ps_if (pt_not (pt_val (C8.pe_c c__is_statement hr (by decide) rfl (pa_cons (pv 5) pa_nil)))) (pss_one (ps_ret pe_bl)) pss_nil)
    (pss_one (ps_for PassesOwn.never rfl (pi_tup (C8.pe_c c_bodies_of hr (by decide) rfl (pa_cons (pv 5) pa_nil))) (pg_name (i := 6) sc__are_bodies.nd rfl (Or.inl rfl))
    (pss_one (ps_expr (pe_bm PySem.F.plainAttrs_list PySem.F.slot_list_append PySem.F.type_list_append mt_append (pv 2) (pa_cons (pe_tup (pa_cons (pv 6) (pa_cons (pe_op op_add (pv 4) pe_int) pa_nil))) pa_nil))))))))))))))
    (pss_one (ps_ret pe_bl))))), ?_⟩
    have hbl := len_mss bl
    have hxl : xs.length = bl.length := by rw [dps_len ha, dss_len]
    refine ⟨_, rfl, a, rfl, ⟨_, hs⟩, fun Wd hWd => ?_⟩
    have nW : Wd ∉ Ts := tbs_cut (ms := []) (o := .rng 0 0) hTb hWd
    have nWs : ∀ p ∈ [Wd], H p = none := fun p hp => by cases List.mem_singleton.mp hp; exact hWd
    refine lc_list (xs := xs) (fun i H' => AbI K Ts H Wd (push 1 (bl.take i)) H') ?_ ?_ ?_ ?_
    · exact ⟨tbs_new hTb hWd, Kp.new _ hWd, Tk.new hWd _, [], upd_same, by rw [List.take_zero]; exact .nil⟩
    · rintro i H' _ ⟨_, k, _⟩
      exact sq_ext (ext_kp hTb nWs k) hs
    · rintro i x H1 hx hI
      obtain ⟨t, k, tk, vs, h1, h2⟩ := id hI
      obtain ⟨d, hd, hp⟩ := dps_get' ha hx
      rw [dss_map, List.getElem?_map] at hd
      obtain ⟨b, hb, rfl⟩ : ∃ b, bl[i]? = some b ∧ d = .tuple (ds b) := by
        cases e : bl[i]? with
        | none => rw [e] at hd; cases hd
        | some b => rw [e] at hd; exact ⟨b, rfl, (Option.some.inj hd).symm⟩
      have hdc := tk.dp (.tuple (ds b)) (tup_ds b) hp
      refine ⟨rfl, ?_⟩
      refine ⟨_, rfl, (by show 2 ≤ sizeLine; decide), fun p hp => ?_⟩
      have np : p ≠ Wd := fun z => by rw [← z, hp] at h1; cases h1
      refine ⟨vs, by rw [upd_ne (Ne.symm np)]; exact h1, ?_, ?_⟩
      · have hv := h2.len
        have hl2 : (push 1 (bl.take i)).length ≤ bl.length := by unfold push; rw [List.length_map]; exact List.length_take_le' _ _
        exact Nat.lt_of_le_of_lt (show vs.length ≤ 10000 by omega) (by decide)
      · have e : push 1 (bl.take (i + 1)) = push 1 (bl.take i) ++ [(b, 1)] := by
          rw [List.take_succ, hb, push_app]
          rfl
        rw [e]
        exact hI.push1 hp (by rw [upd_ne (Ne.symm np)]; exact h1) hdc
    · intro H1 hI
      rw [hxl, List.take_length] at hI
      have good0 : ∀ e ∈ push 1 bl, Gd L N e := fun e he => by
        obtain ⟨h1, h2⟩ := push_mem he
        refine ⟨?_, wdbs_iff.mp hw _ h1, hok _ h1⟩
        have := kss_mem h1
        omega
      refine ⟨fun m σ H' => ∃ (c : Nat) (st : List (List St × Nat)) (b3 b4 b5 b6 : Option V), m = mss (st.map Prod.fst) ∧ σ = [some (.ref a), some (.int (c : Int)), some (.ref Wd), b3, b4, b5, b6] ∧ AbI K Ts H Wd st H' ∧ c + nss (st.map Prod.fst) ≤ 200 ∧ mss (st.map Prod.fst) ≤ 10000 ∧ ∀ e ∈ st, Gd L N e,
        ⟨_, 0, _, none, none, none, none, rfl, rfl, hI, by rw [push_fst]; omega, by rw [push_fst]; exact hm0, good0⟩, ?_⟩
      rintro m σ H2 ⟨c, st, b3, b4, b5, b6, rfl, rfl, hI, hc, hm, hg⟩
      obtain ⟨t, k, tk, vs, h1, h2⟩ := id hI
      refine ⟨_, rfl, _, .inl ⟨_, SqL.of h1, rfl⟩, ?_⟩
      cases h2 with
      | nil =>
        refine ifF rfl ?_
        exact q H2 (go_of nWs t k)
      | @snoc vs' st' p x b d hst hp hx =>
        refine ifT (by simp) ?_
        refine ⟨fun σ' H' => ∃ (c : Nat) (st : List (List St × Nat)) (b3 b4 b5 b6 : Option V), mss (st.map Prod.fst) < mss ((st' ++ [(b, d)]).map Prod.fst) ∧ σ' = [some (.ref a), some (.int (c : Int)), some (.ref Wd), b3, b4, b5, b6] ∧ AbI K Ts H Wd st H' ∧ c + nss (st.map Prod.fst) ≤ 200 ∧ mss (st.map Prod.fst) ≤ 10000 ∧ ∀ e ∈ st, Gd L N e, ?_, ?_⟩
        · rintro σ' H' ⟨c, st, b3, b4, b5, b6, e1, e2, e3, e4, e5, e6⟩
          exact ⟨_, e1, c, st, b3, b4, b5, b6, rfl, e2, e3, e4, e5, e6⟩
        rw [List.map_append, nss_app] at hc
        rw [List.map_append, mss_app] at hm ⊢
        have hc : c + (nss (st'.map Prod.fst) + ns b) ≤ 200 := by
          have e : nss ([(b, d)].map Prod.fst) = ns b := by simp [nss]
          omega
        have em : mss ([(b, d)].map Prod.fst) = 1 + ms b := by simp [mss]
        rw [em] at hm ⊢
        have hgb := hg (b, d) (by simp)
        have hg' : ∀ e ∈ st', Gd L N e := fun e he => hg e (by simp [he])
        refine ⟨_, rfl, .inl ⟨rfl, _, SqL.of h1⟩, Wd, _, .ref p, rfl, rfl, h1, by simp, ?_⟩
        have tk3 : Tk H2 (upd H2 Wd (.lst (vs' ++ [V.ref p]).dropLast)) := Tk.put h1 _
        have I3 : AbI K Ts H Wd st' (upd H2 Wd (.lst (vs' ++ [V.ref p]).dropLast)) := ⟨tbs_upd t h1 (fun ps z => by cases z), k.trans (Kp.put _ (by simp)), tk.trans tk3, vs', by rw [List.dropLast_concat]; exact upd_same, hst.tk tk3⟩
        have hp3 := tk3.sqt hp
        have hx3 := tk3.dp (.tuple (ds b)) (tup_ds b) hx
        show (fun H3 => _) (upd H2 Wd (.lst (vs' ++ [V.ref p]).dropLast))
        generalize upd H2 Wd (.lst (vs' ++ [V.ref p]).dropLast) = H3 at I3 hp3 hx3
        clear tk3
        have hx3' := hx3
        obtain ⟨xa, xxs, rfl, hsx, hax, hlx⟩ := len_ok hx3
        refine ⟨p, _, rfl, hp3, rfl, _, _, rfl, _, _, rfl, rfl, ?_⟩
        have hrow : rowD (.tuple (ds b)) 0 60 = true := by
          have h60 : b.length ≤ 60 := hgb.2.1.1
          show (decide ((0 : Int) ≤ ((ds b).length : Int)) && decide (((ds b).length : Int) ≤ 60)) = true
          rw [ds_len, Bool.and_eq_true, decide_eq_true_eq, decide_eq_true_eq]
          omega
        refine ⟨_, rfl, _, _, 0, 60, rfl, hx3', _, rfl, ?_⟩
        rw [hrow]
        refine iteF ?_
        refine ⟨_, rfl, _, rfl, xa, xxs, rfl, .inr hsx, _, _, rfl, rfl, ?_⟩
        refine ⟨_, rfl, _, _, rfl, rfl, _, rfl, ?_⟩
        have hlb : xxs.length = b.length := by rw [hlx, ds_len]
        have hcb := len_ns b
        rw [hlb]
        rw [show decide ((200 : Int) < (c : Int) + (b.length : Int)) = false from decide_eq_false (by omega)]
        refine iteF ?_
        refine ⟨_, rfl, !xxs.isEmpty, .inr (.inl ⟨xxs, hsx, rfl⟩), ?_⟩
        have fin : xxs.isEmpty = true ∨ (xxs.isEmpty = false ∧ d ≤ 12) := by
          cases xxs with
          | nil => exact .inl rfl
          | cons x0 r =>
            refine .inr ⟨rfl, ?_⟩
            have : b ≠ [] := fun z => by rw [z] at hlb; simp at hlb
            have := ks_pos this
            have h13 : ks b + d ≤ 13 := hgb.1
            omega
        rcases fin with e | ⟨e, hd12⟩
        case' inl =>
          rw [e]
          refine iteF ?_
        case' inr =>
          rw [e]
          refine iteT ⟨_, rfl, _, _, rfl, rfl, _, rfl, ?_⟩
          rw [show decide ((12 : Int) < (d : Int)) = false from decide_eq_false (by omega)]
          refine iteF ?_
        all_goals
          refine ⟨_, rfl, xa, rfl, ⟨_, hsx⟩, ?_⟩
          refine for_tup (xs := xxs) (fun i σ H' => ∃ b5 b6, σ = [some (.ref a), some (.int ((c : Int) + (b.length : Int))), some (.ref Wd), some (.ref xa), some (.int (d : Int)), b5, b6] ∧ AbI K Ts H Wd (st' ++ push (d + 1) ((b.take i).flatMap St.bs)) H' ∧ Tk H3 H') ?_ ?_ ?_ ?_
          · exact ⟨b5, b6, rfl, by rw [List.take_zero]; simpa [push] using I3, Tk.refl _⟩
          · rintro i σ H' _ ⟨_, _, _, _, kk⟩
            exact kk.sqt hsx
          · rintro i x _ H4 hx ⟨b5', b6', rfl, I4, kk4⟩
            obtain ⟨dd, hdd, hdp⟩ := dps_get' hax hx
            rw [ds_map, List.getElem?_map] at hdd
            obtain ⟨s, hsb, rfl⟩ : ∃ s, b[i]? = some s ∧ dd = St.d s := by
              cases e : b[i]? with
              | none => rw [e] at hdd; cases hdd
              | some s => rw [e] at hdd; exact ⟨s, rfl, (Option.some.inj hdd).symm⟩
            have hsm : s ∈ b := List.mem_of_getElem? hsb
            obtain ⟨sec, hsec⟩ := hgb.2.2
            have hso : s.ok L N sec := oks_iff.mp hsec s hsm
            have hsw : s.wd := wdl_iff.mp hgb.2.1.2 s hsm
            have hd4 := kk4.dp _ (tup_St s) hdp
            refine ⟨_, rfl, x, s, L, N, sec, rfl, hd4, hso, hL, hN, I4.1, fun H5 g5 => ⟨_, rfl, ?_⟩⟩
            refine iteF ?_
            have I5 := I4.kp nW g5
            have kk5 : Tk H3 H5 := kk4.trans (Tk.go I4.1 g5)
            have hd5 := kk5.dp _ (tup_St s) hdp
            refine ⟨_, rfl, x, s, rfl, hd5, fun v' H6 s6 hd6 => ?_⟩
            obtain ⟨ra, rxs, rfl, hrs, hra, hrl⟩ := len_ok hd6
            have I6 := I5.kp nW (Go.of_same I5.1 s6)
            have kk6 : Tk H3 H6 := kk5.trans (Tk.same s6)
            refine ⟨ra, rfl, ⟨_, hrs⟩, ?_⟩
            have hrl2 : rxs.length = s.bs.length := by rw [hrl, dss_len]
            refine for_tup (xs := rxs) (fun j σ H' => ∃ b6, σ = [some (.ref a), some (.int ((c : Int) + (b.length : Int))), some (.ref Wd), some (.ref xa), some (.int (d : Int)), some x, b6] ∧ AbI K Ts H Wd (st' ++ push (d + 1) ((b.take i).flatMap St.bs) ++ push (d + 1) (s.bs.take j)) H' ∧ Tk H6 H') ?_ ?_ ?_ ?_
            · exact ⟨b6', rfl, by rw [List.take_zero]; simpa [push] using I6, Tk.refl _⟩
            · rintro j σ H' _ ⟨_, _, _, kk⟩
              exact kk.sqt hrs
            · rintro j y _ H7 hy ⟨b6'', rfl, I7, kk7⟩
              obtain ⟨t7, k7, tk7, vs7, h71, h72⟩ := id I7
              obtain ⟨dd, hdd, hdp2⟩ := dps_get' hra hy
              rw [dss_map, List.getElem?_map] at hdd
              obtain ⟨b2, hb2, rfl⟩ : ∃ b2, s.bs[j]? = some b2 ∧ dd = .tuple (ds b2) := by
                cases e : s.bs[j]? with
                | none => rw [e] at hdd; cases hdd
                | some s => rw [e] at hdd; exact ⟨s, rfl, (Option.some.inj hdd).symm⟩
              have hy7 := kk7.dp (.tuple (ds b2)) (tup_ds b2) hdp2
              refine ⟨_, rfl, .inl ⟨rfl, _, SqL.of h71⟩, _, rfl, _, rfl, _, _, rfl, rfl, (by show 2 ≤ sizeLine; decide), fun p7 hp7 => ?_⟩
              have np : p7 ≠ Wd := fun z => by rw [← z, hp7] at h71; cases h71
              have hW7 : upd H7 p7 (.tup [y, .int ((d : Int) + 1)]) Wd = some (.lst vs7) := by rw [upd_ne (Ne.symm np)]; exact h71
              refine ⟨Wd, vs7, _, rfl, rfl, hW7, ?_, ?_⟩
              · have l7 := h72.len
                have lm := len_mss ((st' ++ push (d + 1) ((b.take i).flatMap St.bs) ++ push (d + 1) (s.bs.take j)).map Prod.fst)
                rw [List.length_map, List.map_append, List.map_append, push_fst, push_fst, mss_app, mss_app, mss_flat] at lm
                have := mss_take s.bs j
                have := ms_take hsb
                have := m_bs s
                exact Nat.lt_of_le_of_lt (show vs7.length ≤ 10000 by omega) (by decide)
              · refine ⟨_, rfl, ?_, ?_⟩
                · have e : st' ++ push (d + 1) ((b.take i).flatMap St.bs) ++ push (d + 1) (s.bs.take (j + 1)) = (st' ++ push (d + 1) ((b.take i).flatMap St.bs) ++ push (d + 1) (s.bs.take j)) ++ [(b2, d + 1)] := by
                    rw [List.take_succ, hb2, push_app]
                    simp [push]
                  rw [e]
                  exact I7.push1 (d := d + 1) hp7 hW7 hy7
                · exact kk7.trans ((Tk.new hp7 _).trans (Tk.put hW7 _))
            · rintro σ H7 ⟨b6'', rfl, I7, kk7⟩
              refine ⟨_, _, rfl, ?_, kk6.trans kk7⟩
              have e : st' ++ push (d + 1) ((b.take (i + 1)).flatMap St.bs) = st' ++ push (d + 1) ((b.take i).flatMap St.bs) ++ push (d + 1) (s.bs.take rxs.length) := by
                rw [hrl2, List.take_length, List.take_succ, hsb, List.flatMap_append, push_app]
                simp
              rw [e]
              exact I7
          · rintro σ H' ⟨b5', b6', rfl, I4, kk4⟩
            rw [hlb, List.take_length] at I4
            refine ⟨c + b.length, _, _, _, _, _, ?_, by rw [Int.natCast_add], I4, ?_, ?_, ?_⟩
            · rw [List.map_append, push_fst, mss_app, mss_flat]
              omega
            · have := nss_flat b
              rw [List.map_append, push_fst, nss_app]
              omega
            · rw [List.map_append, push_fst, mss_app, mss_flat]
              omega
            · intro e he
              rcases List.mem_append.mp he with he | he
              · exact hg' e he
              · obtain ⟨h1, h2⟩ := push_mem he
                obtain ⟨s, hs1, hs2⟩ := List.mem_flatMap.mp h1
                obtain ⟨sec, hsec⟩ := hgb.2.2
                have hso : s.ok L N sec := oks_iff.mp hsec s hs1
                have hsw : s.wd := wdl_iff.mp hgb.2.1.2 s hs1
                refine ⟨?_, wdbs_iff.mp (wd_bs hsw) _ hs2, ok_bs hso _ hs2⟩
                have h13 : ks b + d ≤ 13 := hgb.1
                have := ks_mem hs1
                have := kss_mem hs2
                have := k_bs s
                omega
end
end K00


set_option Elab.async false
set_option linter.all false
set_option maxRecDepth 100000
set_option maxHeartbeats 8000000
namespace K00
open PySem PySem.Spec PyProof.Rows L2
def procD (p : Str × List St) : PyData := .tuple [.str p.1, .tuple (ds p.2)]
def progD (L : List Str) (P : List (Str × List St)) : PyData := .tuple [.tuple (L.map .str), .tuple (P.map procD)]
def nsP (P : List (Str × List St)) : List (List St) := P.map Prod.snd
/-- right by its form; A, B: all names of letters and procedures in it -/
structure Prog (L : List Str) (P : List (Str × List St)) (A B : List Str) : Prop where
  l1 : 1 ≤ L.length
  l2 : L.length ≤ 20
  p1 : 1 ≤ P.length
  p2 : P.length ≤ 8
  okA : Nok A
  okB : Nok B
  inA : ∀ x ∈ L, x ∈ A
  inB : ∀ x ∈ P.map Prod.fst, x ∈ B
  ok : ∀ b ∈ nsP P, oks A B false b
  wd : wdbs (nsP P)
  ks : kss (nsP P) ≤ 12
  n : nss (nsP P) ≤ 200
theorem tup_strs : ∀ L : List Str, TupDs (L.map PyData.str)
  | [] => trivial
  | _ :: r => ⟨trivial, tup_strs r⟩
theorem tup_proc (p : Str × List St) : TupD (procD p) := ⟨trivial, tup_ds p.2, trivial⟩
theorem tup_procs : ∀ P : List (Str × List St), TupDs (P.map procD)
  | [] => trivial
  | p :: r => ⟨tup_proc p, tup_procs r⟩
theorem tup_prog (L : List Str) (P : List (Str × List St)) : TupD (progD L P) := ⟨tup_strs L, tup_procs P, trivial⟩
-- choices have six bodies at most
mutual
theorem m_n {L N : List Str} : ∀ (sec : Bool) (s : St), s.ok L N sec → s.m ≤ 6 * s.n
  | _, .dd _, _ | _, .ud _, _ | _, .cl _, _ | _, .rt, _ => by simp [St.m]
  | sec, .ch bs, h => by
    have := mss_n sec bs h.2.2
    have := h.2.1
    rw [St.m, St.n]
    omega
  | sec, .lp b, h => by
    have := ms_n sec b h
    rw [St.m, St.n]
    omega
  | sec, .en b c, h => by
    have := ms_n sec b h.1
    have := ms_n true c h.2
    rw [St.m, St.n]
    omega
theorem ms_n {L N : List Str} : ∀ (sec : Bool) (b : List St), oks L N sec b → ms b ≤ 6 * ns b
  | _, [], _ => by simp [ms]
  | sec, s :: r, h => by
    have := m_n sec s h.1
    have := ms_n sec r h.2
    rw [ms, ns]
    omega
theorem mss_n {L N : List Str} : ∀ (sec : Bool) (b : List (List St)), okss L N sec b → mss b ≤ b.length + 6 * nss b
  | _, [], _ => by simp [mss]
  | sec, s :: r, h => by
    have := ms_n sec s h.1
    have := mss_n sec r h.2
    rw [mss, nss, List.length_cons]
    omega
end
theorem dps_app {K : PySem.W.Frag} {H : Hp} : ∀ {vs ws : List V} {ds es : List PyData}, DpAll K H vs ds → DpAll K H ws es → DpAll K H (vs ++ ws) (ds ++ es)
  | _, _, _, _, .nil, h => h
  | _, _, _, _, .cons a t, h => .cons a (dps_app t h)
theorem ndl : (["letter"] : List Str).Nodup := by decide +kernel
theorem strs_get {L : List Str} {i : Nat} {d : PyData} (h : (L.map PyData.str)[i]? = some d) : ∃ x, L[i]? = some x ∧ d = .str x := by
  rw [List.getElem?_map] at h
  cases e : L[i]? with
  | none => rw [e] at h; cases h
  | some s => rw [e] at h; exact ⟨s, rfl, (Option.some.inj h).symm⟩
theorem procs_get {P : List (Str × List St)} {i : Nat} {d : PyData} (h : (P.map procD)[i]? = some d) : ∃ x, P[i]? = some x ∧ d = procD x := by
  rw [List.getElem?_map] at h
  cases e : P[i]? with
  | none => rw [e] at h; cases h
  | some s => rw [e] at h; exact ⟨s, rfl, (Option.some.inj h).symm⟩
section
variable {P : Program} {w : World} {K : PySem.W.Frag} {mg : Str → Option Value} {base : Heap}

def spProg (K : PySem.W.Frag) (Ts : List Addr) : Sp := fun vs H Q _ => ∃ v L P A B, vs = [v] ∧ Dp K H v (progD L P) ∧ Prog L P A B ∧ Tbs Ts H ∧ ∀ H', Go Ts H H' → Q (.bl true) H'
theorem sc_is_program : FnScope ["thing", "letters", "procedures", "procedure"] ["thing"] (C8.fnScope (topS 39)) := C8.fnScope_by (by decide +kernel)
theorem ok_is_program {Ts : List Addr} {f c T : Addr} {oc : Value} {od an : Option Addr} {kV doc pm ct : Value} {osl : Array (Option Value)}
    (lk : K.lookup f = some ⟨oc, od, .func (PySem.W.fnOf "is_program" "is_program" (C8.fnArgs (topS 39)) (C8.fnBody (topS 39)) (C8.fnScope (topS 39)) .none kV doc pm an (.ref c) ct), osl⟩) (hcd : PySem.W.codeIn K (.ref c) "is_program" = true)
    (TB : LamX.TabB base mg c T) (hT : T ∈ Ts) (B : Bl K mg) (c_is_row : C8.Cal P w K mg base 1 "is_row" (spRow K) []) (c_is_name : C8.Cal P w K mg base 4 "is_name" (spName K Ts) []) (c__are_bodies : C8.Cal P w K mg base 6 "_are_bodies" (spAB K Ts) []) :
    FnOk P w K mg base C8.CX0 8 f (PySem.W.fnOf "is_program" "is_program" (C8.fnArgs (topS 39)) (C8.fnBody (topS 39)) (C8.fnScope (topS 39)) .none kV doc pm an (.ref c) ct) ["thing"] (spProg K Ts) := by
  refine fn_of lk hcd sc_is_program (by rintro vs H Q E ⟨v, _, _, _, _, rfl, _⟩; rfl) ?_
  intro A outer s H vs Q E hr hsp
  suffices h : ∃ t, PSs (cxOf C8.CX0 P w K mg base ["thing", "letters", "procedures", "procedure"] "is_program" (C8.fnScope (topS 39)) f (.ref c) A outer s H E).nox (C8.fnBody (topS 39)) t ∧ t { nx := fun _ H' => Q .non H', rt := Q } (start ["thing", "letters", "procedures", "procedure"] vs) H by
    obtain ⟨t, h1, h2⟩ := h
    exact ⟨t, h1.nox, h2⟩
  obtain ⟨v, L, Ps, AL, BN, rfl, hd, hP, hTb, q⟩ := hsp
  refine ⟨_, (pss_cons (ps_if (pt_not (pt_val (C8.pe_c c_is_row hr (by decide) rfl (pa_cons (pv 0) (pa_cons pe_int (pa_cons pe_int pa_nil)))))) (pss_one (ps_ret pe_bl)) pss_nil)
    (pss_cons (ps_asg (pv 0) (pg_tup rfl (pgs_cons (pg_name (i := 1) sc_is_program.nd rfl (Or.inl rfl)) (pgs_cons (pg_name (i := 2) sc_is_program.nd rfl (Or.inl rfl)) pgs_nil))))
    (pss_cons (ps_if (PW.pt (pw_or (pt_not (pt_val (C8.pe_c c_is_row hr (by decide) rfl (pa_cons (pv 1) (pa_cons pe_int (pa_cons (pe_glob (v := .int 20) rfl B.MOST_LETTERS.choose_spec ⟨_, rfl⟩) pa_nil)))))) (pw_or1 (pt_not (pt_val (C8.pe_c c_is_row hr (by decide) rfl (pa_cons (pv 2) (pa_cons pe_int (pa_cons (pe_glob (v := .int 8) rfl B.MOST_PROCEDURES.choose_spec ⟨_, rfl⟩) pa_nil))))))))) (pss_one (ps_ret pe_bl)) pss_nil)
    (pss_cons (ps_for PassesOwn.never rfl (pi_tup (pv 2)) (pg_name (i := 3) sc_is_program.nd rfl (Or.inl rfl))
    (pss_one (ps_if (PW.pt (pw_or (pt_not (pt_val (C8.pe_c c_is_row hr (by decide) rfl (pa_cons (pv 3) (pa_cons pe_int (pa_cons pe_int pa_nil)))))) (pw_or1 (pt_not (pt_val (C8.pe_c c_is_name hr (by decide) rfl (pa_cons (pe_ix ix_tup (pv 3) pe_int (fun _ _ => rfl)) pa_nil))))))) (pss_one (ps_ret pe_bl)) pss_nil)))
    (pss_one (ps_ret (pe_and (UG.pe_allG (P := T) (N := ["letter"]) (k := 4) (g := gName 0) (hr.mono (by decide)) rfl B.all (by decide +kernel) TB rfl (gensc_by (by decide +kernel)) (pi_tup (pv 1))
      (fun _ _ _ _ _ _ _ => by exact pg_name (i := 0) ndl rfl (Or.inl rfl))
      (fun _ _ _ _ _ _ hr' => by exact C8.pe_c c_is_name hr' (by decide) rfl (pa_cons (pv 0) pa_nil))) (pe_one (C8.pe_c c__are_bodies hr (by decide) rfl (pa_cons (pe_lc (own := [("procedure", 3)]) (g := gName 3) (te := tOp (rIxT K) (tVar 3) (tC (.int 1))) (by rfl) sc_is_program.nd (pi_tup (pv 2)) (blkOk_by (own := [("procedure", 3)]) (N := ["thing", "letters", "procedures", "procedure"]) (sc := (C8.fnScope (topS 39))) (by decide +kernel)) (fun _ _ _ _ _ => pg_name (i := 3) sc_is_program.nd rfl (Or.inl rfl)) (fun _ _ _ _ _ => pts_nil) (fun _ _ _ _ _ => by exact (pe_ix ix_tup (pv 3) pe_int (fun _ _ => rfl)))) pa_nil)))))))))), ?_⟩
  have hd0 := hd
  obtain ⟨a, xs, rfl, hs, ha, hl⟩ := len_ok hd
  cases ha with
  | @cons vL _ _ _ hvL ha =>
  cases ha with
  | @cons vP _ _ _ hvP ha =>
  cases ha
  refine ⟨_, rfl, _, _, 2, 2, rfl, hd0, _, rfl, ?_⟩
  refine iteF ?_
  refine ⟨_, rfl, a, _, rfl, hs, rfl, _, _, rfl, _, _, rfl, rfl, ?_⟩
  refine ⟨_, rfl, _, _, 1, 20, rfl, hvL, _, rfl, ?_⟩
  have l1 := hP.l1
  have l2 := hP.l2
  have p1 := hP.p1
  have p2 := hP.p2
  rw [show rowD (.tuple (L.map PyData.str)) 1 20 = true by
    show (decide ((1 : Int) ≤ ((L.map PyData.str).length : Int)) && decide (((L.map PyData.str).length : Int) ≤ 20)) = true
    rw [List.length_map, Bool.and_eq_true, decide_eq_true_eq, decide_eq_true_eq]
    omega]
  refine iteF ?_
  refine ⟨_, rfl, _, _, 1, 8, rfl, hvP, _, rfl, ?_⟩
  rw [show rowD (.tuple (Ps.map procD)) 1 8 = true by
    show (decide ((1 : Int) ≤ ((Ps.map procD).length : Int)) && decide (((Ps.map procD).length : Int) ≤ 8)) = true
    rw [List.length_map, Bool.and_eq_true, decide_eq_true_eq, decide_eq_true_eq]
    omega]
  refine iteF ?_
  have hvL0 := hvL
  have hvP0 := hvP
  obtain ⟨la, lxs, rfl, hls, hla, hll⟩ := len_ok hvL
  obtain ⟨pa, pxs, rfl, hps, hpa, hpl⟩ := len_ok hvP
  rw [List.length_map] at hll hpl
  refine ⟨_, rfl, pa, rfl, ⟨_, hps⟩, ?_⟩
  refine for_tup (xs := pxs) (fun i σ H' => ∃ b3, σ = [some (.ref a), some (.ref la), some (.ref pa), b3] ∧ Go Ts H H') ?_ ?_ ?_ ?_
  · exact ⟨none, rfl, Go.refl hTb⟩
  · rintro i σ H' _ ⟨_, _, g⟩
    exact (Tk.go hTb g).sqt hps
  · rintro i x _ H1 hx ⟨b3, rfl, g⟩
    obtain ⟨d, hd, hdp⟩ := dps_get' hpa hx
    obtain ⟨p, hp, rfl⟩ := procs_get hd
    have hd1 := (Tk.go hTb g).dp _ (tup_proc p) hdp
    refine ⟨_, rfl, _, _, 2, 2, rfl, hd1, _, rfl, ?_⟩
    refine iteF ?_
    obtain ⟨qa, qxs, rfl, hqs, hqa, hql⟩ := len_ok hd1
    cases hqa with
    | @cons v0 _ _ _ h0 hqa =>
    have hnm : nameB p.1 = true := hP.okB p.1 (hP.inB _ (List.mem_map.mpr ⟨p, List.mem_of_getElem? hp, rfl⟩))
    refine ⟨_, rfl, _, _, _, _, rfl, rfl, hqs, at0 _ _, v0, _, rfl, h0, nameB_str hnm, g.1, fun H2 g2 => ⟨_, rfl, ?_⟩⟩
    rw [show nameD (.str p.1) = true from hnm]
    refine iteF ?_
    exact ⟨_, rfl, g.trans g2⟩
  · rintro σ H1 ⟨b3, rfl, g1⟩
    have hls1 := (Tk.go hTb g1).sqt hls
    refine ⟨_, rfl, la, rfl, ⟨_, hls1⟩, g1.1 T hT, lxs.length, fun i H' => i ≤ lxs.length ∧ Go Ts H H', ⟨?_⟩, ?_⟩
    · rintro i H2 ⟨hi, g2⟩
      have hls2 := (Tk.go hTb g2).sqt hls
      by_cases hlt : i < lxs.length
      · refine .inr ⟨hlt, ⟨_, _, hls2, List.getElem?_eq_getElem hlt⟩, ?_⟩
        rintro x H3 ⟨rfl, hx⟩
        have ex := hx _ hls2
        obtain ⟨d, hd, hdp⟩ := dps_get' hla ex
        obtain ⟨y, hy, rfl⟩ := strs_get hd
        cases hdp
        have hnm : nameB y = true := hP.okA y (hP.inA _ (List.mem_of_getElem? hy))
        refine ⟨_, rfl, .str y, .str y, rfl, .str y, nameB_str hnm, g2.1, fun H4 g4 => ⟨_, rfl, ?_⟩⟩
        rw [show nameD (.str y) = true from hnm]
        exact iteT ⟨hlt, g2.trans g4⟩
      · refine .inl ⟨⟨_, hls2, by omega⟩, ⟨_, rfl, ?_⟩⟩
        refine iteT ?_
        have hps2 := (Tk.go hTb g2).sqt hps
        refine ⟨_, rfl, pa, rfl, ⟨_, hps2⟩, fun Dd hDd => ?_⟩
        have bodies : ∀ i : Nat, i ≤ Ps.length → True := fun _ _ => trivial
        refine lc_tup (xs := pxs) (fun i H' => ∃ vs, H' Dd = some (.lst vs) ∧ DpAll K H' vs (dss ((nsP Ps).take i)) ∧ Tbs Ts H' ∧ Same H2 H') ?_ ?_ ?_ ?_
        · exact ⟨[], upd_same, by rw [List.take_zero]; exact .nil, tbs_new g2.1 hDd, same_new hDd _⟩
        · rintro i H' _ ⟨_, _, _, _, s5⟩
          exact (Tk.same s5).sqt hps2
        · rintro i x H5 hx ⟨vs, hv1, hv2, t5, s5⟩
          obtain ⟨d, hd, hdp⟩ := dps_get' hpa hx
          obtain ⟨p, hp, rfl⟩ := procs_get hd
          have hd1 := ((Tk.go hTb g2).trans (Tk.same s5)).dp _ (tup_proc p) hdp
          obtain ⟨qa, qxs, rfl, hqs, hqa, hql⟩ := len_ok hd1
          cases hqa with
          | @cons v0 _ _ _ h0 hqa =>
          cases hqa with
          | @cons v1 _ _ _ h1 hqa =>
          refine ⟨rfl, ?_⟩
          refine ⟨_, rfl, _, _, _, _, rfl, rfl, hqs, at1 _ _ _, vs, hv1, ?_, _, upd_same, ?_, tbs_upd t5 hv1 (fun ps z => by cases z), ?_⟩
          · have := dps_len hv2
            rw [dss_len] at this
            have h3 : ((nsP Ps).take i).length ≤ (nsP Ps).length := List.length_take_le' _ _
            have h4 : (nsP Ps).length = Ps.length := by unfold nsP; rw [List.length_map]
            exact Nat.lt_of_le_of_lt (show vs.length ≤ 10000 by omega) (by decide)
          · have tk5 : Tk H5 (upd H5 Dd (.lst (vs ++ [v1]))) := Tk.put hv1 _
            have e : (nsP Ps).take (i + 1) = (nsP Ps).take i ++ [p.2] := by
              unfold nsP
              rw [List.take_succ, List.getElem?_map, hp]
              rfl
            rw [e]
            have e2 : ∀ x y : List (List St), dss (x ++ y) = dss x ++ dss y := fun x y => by rw [dss_map, dss_map, dss_map, List.map_append]
            rw [e2]
            exact dps_app (tk5.dps _ (tup_dss _) hv2) (.cons (tk5.dp (.tuple (ds p.2)) (tup_ds p.2) h1) .nil)
          · intro b o e
            rw [upd_ne (fun z => by rw [z, hDd] at e; cases e)]
            exact s5 _ _ e
        · rintro H5 ⟨vs, hv1, hv2, t5, s5⟩
          have hpl2 : (nsP Ps).length = pxs.length := by unfold nsP; rw [List.length_map, hpl]
          rw [← hpl2, List.take_length] at hv2
          have hkk : ∀ b ∈ nsP Ps, ∃ sec, oks AL BN sec b := fun b hb => ⟨false, hP.ok b hb⟩
          have hms := mss_n false (nsP Ps) (okss_iff.mpr hP.ok)
          have hn := hP.n
          refine ⟨Dd, vs, nsP Ps, AL, BN, rfl, SqL.of hv1, hv2, hn, by omega, hP.ks, hP.wd, hkk, hP.okA, hP.okB, t5, fun H6 g6 => ?_⟩
          exact q _ (g2.trans ((Go.of_same g2.1 s5).trans g6))
    · intro H2 t2
      exact ⟨Nat.zero_le _, g1.trans (Go.of_tab g1.1 hT t2)⟩
def spWant (K : PySem.W.Frag) (Ts : List Addr) : Sp := fun vs H Q _ => ∃ v L P A B, vs = [v] ∧ Dp K H v (progD L P) ∧ Prog L P A B ∧ Tbs Ts H ∧ ∀ H', Go Ts H H' → Q .non H'
theorem sc_want_program : FnScope ["program"] ["program"] (C8.fnScope (topS 43)) := C8.fnScope_by (by decide +kernel)
theorem ok_want_program {Ts : List Addr} {f : Addr} {fd : FuncData} (F : C8.Def K mg "want_program" (topS 43) f fd) (b : Binds K fd ["program"] []) (B : Bl K mg) (c_is_program : C8.Cal P w K mg base 8 "is_program" (spProg K Ts) []) : C8.Cal P w K mg base 9 "want_program" (spWant K Ts) [] := by
  refine C8.cal0 F b .nil sc_want_program ?len ?body
  case len => rintro vs H Q E ⟨v, L, Ps, AL, BN, rfl, _⟩; rfl
  case body =>
    rintro cdv A outer s H vs Q E hr ⟨v, L, Ps, AL, BN, rfl, hd, hP, hTb, q⟩
    refine ⟨_, (pss_one (ps_if (pt_not (pt_val (C8.pe_c c_is_program hr (by decide) rfl (pa_cons (pv 0) pa_nil)))) pss_never pss_nil)), ?_⟩
    exact ⟨_, rfl, v, L, Ps, AL, BN, rfl, hd, hP, hTb, fun H1 g1 => ⟨_, rfl, iteF (q H1 g1)⟩⟩
end
end K00


set_option Elab.async false
set_option linter.all false
set_option maxRecDepth 100000
set_option maxHeartbeats 8000000
namespace K00
open PySem PySem.Spec PyProof.Rows L2
theorem for_enumT {K : PySem.W.Frag} {a : Addr} {xs : List V} {g : TG} {tb : TS} {D : Ends} {σ : L2.St} {H : Hp} (Pv : Nat → L2.St → Hp → Prop) (h0 : Pv 0 σ H) (hl : ∀ i σ H, i ≤ xs.length → Pv i σ H → SqT K H a xs)
    (hs : ∀ i x σ H Tp, xs[i]? = some x → Pv i σ H → H Tp = none → g (.ref Tp) σ (upd H Tp (.tup [.int (i : Nat), x])) fun σ2 H2 => tb { D with nx := Pv (i + 1), ct := Pv (i + 1), bk := D.nx } σ2 H2) (hd : ∀ σ H, Pv xs.length σ H → D.nx σ H) :
    ∃ W : Nat → Nat → L2.St → Hp → Prop, (∃ m, W 0 m σ H) ∧ ∀ i m σ H, W i m σ H →
      ((UG.Iet K a).stop i H ∧ D.nx σ H) ∨ ((UG.Iet K a).go i H ∧ ∃ N : L2.St → Hp → Prop, (∀ σ' H', N σ' H' → ∃ m', m' < m ∧ W (i + 1) m' σ' H') ∧ ∀ x H', (UG.Iet K a).yld i H x H' → g x σ H' fun σ2 H2 => tb { D with nx := N, ct := N, bk := D.nx } σ2 H2) := by
  refine ⟨fun i m σ H => m = xs.length - i ∧ i ≤ xs.length ∧ Pv i σ H, ⟨xs.length, by simp, Nat.zero_le _, h0⟩, ?_⟩
  rintro i m σ H ⟨rfl, hi, p⟩
  have q := hl i σ H hi p
  by_cases hlt : i < xs.length
  · refine .inr ⟨⟨xs, xs[i], q, List.getElem?_eq_getElem hlt⟩, Pv (i + 1), fun σ' H' p' => ⟨xs.length - (i + 1), by omega, rfl, hlt, p'⟩, ?_⟩
    rintro _ _ ⟨Tp, x, rfl, hTp, rfl, hx⟩
    exact hs i x σ H Tp (hx xs q) p hTp
  · have e : i = xs.length := by omega
    subst e
    exact .inl ⟨⟨xs, q, Nat.le_refl _⟩, hd σ H p⟩
theorem for_enumLL {K : PySem.W.Frag} {a : Addr} {xs : List V} {g : TG} {tb : TS} {D : Ends} {σ : L2.St} {H : Hp} (Pv : Nat → L2.St → Hp → Prop) (h0 : Pv 0 σ H) (hl : ∀ i σ H, i ≤ xs.length → Pv i σ H → SqL K H a xs)
    (hs : ∀ i x σ H Tp, xs[i]? = some x → Pv i σ H → H Tp = none → g (.ref Tp) σ (upd H Tp (.tup [.int (i : Nat), x])) fun σ2 H2 => tb { D with nx := Pv (i + 1), ct := Pv (i + 1), bk := D.nx } σ2 H2) (hd : ∀ σ H, Pv xs.length σ H → D.nx σ H) :
    ∃ W : Nat → Nat → L2.St → Hp → Prop, (∃ m, W 0 m σ H) ∧ ∀ i m σ H, W i m σ H →
      ((Ite K a).stop i H ∧ D.nx σ H) ∨ ((Ite K a).go i H ∧ ∃ N : L2.St → Hp → Prop, (∀ σ' H', N σ' H' → ∃ m', m' < m ∧ W (i + 1) m' σ' H') ∧ ∀ x H', (Ite K a).yld i H x H' → g x σ H' fun σ2 H2 => tb { D with nx := N, ct := N, bk := D.nx } σ2 H2) := by
  refine ⟨fun i m σ H => m = xs.length - i ∧ i ≤ xs.length ∧ Pv i σ H, ⟨xs.length, by simp, Nat.zero_le _, h0⟩, ?_⟩
  rintro i m σ H ⟨rfl, hi, p⟩
  have q := hl i σ H hi p
  by_cases hlt : i < xs.length
  · refine .inr ⟨⟨xs, xs[i], q, List.getElem?_eq_getElem hlt⟩, Pv (i + 1), fun σ' H' p' => ⟨xs.length - (i + 1), by omega, rfl, hlt, p'⟩, ?_⟩
    rintro _ _ ⟨Tp, x, rfl, hTp, rfl, hx⟩
    exact hs i x σ H Tp (hx xs q) p hTp
  · have e : i = xs.length := by omega
    subst e
    exact .inl ⟨⟨xs, q, Nat.le_refl _⟩, hd σ H p⟩
theorem inV_strs (k : Str) (L : List Str) : inV (.str k) (L.map V.str) = decide (k ∈ L) := by
  rw [inV_str]
  induction L with
  | nil => rfl
  | cons z r ih =>
    rw [List.any_cons, ih]
    by_cases h : k = z
    · subst h; simp
    · simp [h]
theorem flat_strs : ∀ L : List Str, (L.map V.str).all flatV = true
  | [] => rfl
  | _ :: r => by rw [List.map_cons, List.all_cons, flat_strs r]; rfl
theorem sIx_le {n i : Nat} (h : i ≤ n) : HT.sIx n n (some (i : Int)) = i := by
  rw [HT.sIx_nat]
  omega
theorem cut_take (xs : List V) {i : Nat} (h : i ≤ xs.length) : cutV xs none (some (i : Int)) = xs.take i := by
  unfold cutV
  rw [sIx_le h]
  have : HT.sIx xs.length 0 none = 0 := rfl
  rw [this]
  simp
/-- the word of a statement -/
def St.w : St → Str
  | .dd _ => "do"
  | .ud _ => "undo"
  | .cl _ => "call"
  | .ch _ => "choose"
  | .lp _ => "loop"
  | .rt => "return"
  | .en _ _ => "ensure"
theorem d_word : ∀ s : St, ∃ r, s.d = .tuple (.str s.w :: r)
  | .dd _ | .ud _ | .cl _ | .ch _ | .lp _ | .rt | .en _ _ => ⟨_, rfl⟩
def isEn : St → Bool
  | .en _ _ => true
  | _ => false
theorem w_en : ∀ s : St, decide (s.w = "ensure") = isEn s
  | .dd _ => (by decide +kernel : decide (("do" : Str) = "ensure") = false)
  | .ud _ => (by decide +kernel : decide (("undo" : Str) = "ensure") = false)
  | .cl _ => (by decide +kernel : decide (("call" : Str) = "ensure") = false)
  | .ch _ => (by decide +kernel : decide (("choose" : Str) = "ensure") = false)
  | .lp _ => (by decide +kernel : decide (("loop" : Str) = "ensure") = false)
  | .rt => (by decide +kernel : decide (("return" : Str) = "ensure") = false)
  | .en _ _ => (by decide +kernel : decide (("ensure" : Str) = "ensure") = true)
theorem bs_k {s : St} {j : Nat} {b : List St} (e : s.bs[j]? = some b) : ks b < s.k := by
  have := kss_mem (List.mem_of_getElem? e)
  have := k_bs s
  omega
-- what stands in it, in its order, each with whether it stands in a second body
mutual
def St.fs (sec : Bool) : St → List (St × Bool)
  | .dd x => [(.dd x, sec)]
  | .ud x => [(.ud x, sec)]
  | .cl x => [(.cl x, sec)]
  | .ch bs => (.ch bs, sec) :: fsss sec bs
  | .lp b => (.lp b, sec) :: fss sec b
  | .rt => [(.rt, sec)]
  | .en b c => (.en b c, sec) :: (fss sec b ++ fss true c)
def fss (sec : Bool) : List St → List (St × Bool)
  | [] => []
  | s :: r => s.fs sec ++ fss sec r
def fsss (sec : Bool) : List (List St) → List (St × Bool)
  | [] => []
  | b :: r => fss sec b ++ fsss sec r
end
def fsE (sec e : Bool) : Nat → List (List St) → List (St × Bool)
  | _, [] => []
  | j, b :: r => fss (sec || (e && decide ((j : Int) = 1))) b ++ fsE sec e (j + 1) r
theorem fsE_no (sec : Bool) : ∀ (bs : List (List St)) (j : Nat), fsE sec false j bs = fsss sec bs
  | [], _ => rfl
  | b :: r, j => by rw [fsE, fsss, fsE_no sec r, Bool.false_and, Bool.or_false]
theorem fs_bs (sec : Bool) : ∀ s : St, s.fs sec = (s, sec) :: fsE sec (isEn s) 0 s.bs
  | .dd _ | .ud _ | .cl _ | .rt => rfl
  | .ch bs => by rw [St.fs, show isEn (.ch bs) = false from rfl, fsE_no]; rfl
  | .lp b => by rw [St.fs, show isEn (.lp b) = false from rfl, fsE_no]; simp [St.bs, fsss]
  | .en b c => by
    rw [St.fs, show isEn (.en b c) = true from rfl]
    simp [St.bs, fsE]
theorem fsE_take (sec e : Bool) : ∀ {bs : List (List St)} {j : Nat} {b : List St} (k : Nat), bs[j]? = some b → fsE sec e k (bs.take (j + 1)) = fsE sec e k (bs.take j) ++ fss (sec || (e && decide (((k + j : Nat) : Int) = 1))) b
  | [], j, b, k, h => by simp at h
  | x :: r, 0, b, k, h => by
    simp at h
    subst h
    simp [fsE]
  | x :: r, j + 1, b, k, h => by
    have := fsE_take sec e (bs := r) (j := j) (b := b) (k + 1) (by simpa using h)
    rw [List.take_succ_cons, List.take_succ_cons, fsE, fsE, this, List.append_assoc, show k + (j + 1) = k + 1 + j by omega]
theorem fss_take (sec : Bool) : ∀ {b : List St} {i : Nat} {s : St}, b[i]? = some s → fss sec (b.take (i + 1)) = fss sec (b.take i) ++ s.fs sec
  | [], i, s, h => by simp at h
  | x :: r, 0, s, h => by
    simp at h
    subst h
    simp [fss]
  | x :: r, i + 1, s, h => by
    have := fss_take sec (b := r) (i := i) (s := s) (by simpa using h)
    rw [List.take_succ_cons, List.take_succ_cons, fss, fss, this, List.append_assoc]
mutual
theorem fs_len (sec : Bool) : ∀ s : St, (s.fs sec).length = s.n
  | .dd _ | .ud _ | .cl _ | .rt => rfl
  | .ch bs => by rw [St.fs, List.length_cons, fsss_len sec bs, St.n]; omega
  | .lp b => by rw [St.fs, List.length_cons, fss_len sec b, St.n]; omega
  | .en b c => by rw [St.fs, List.length_cons, List.length_append, fss_len sec b, fss_len true c, St.n]; omega
theorem fss_len (sec : Bool) : ∀ b : List St, (fss sec b).length = ns b
  | [] => rfl
  | s :: r => by rw [fss, List.length_append, fs_len sec s, fss_len sec r, ns]
theorem fsss_len (sec : Bool) : ∀ b : List (List St), (fsss sec b).length = nss b
  | [] => rfl
  | s :: r => by rw [fsss, List.length_append, fss_len sec s, fsss_len sec r, nss]
end
theorem fsE_len (sec e : Bool) : ∀ (j : Nat) (b : List (List St)), (fsE sec e j b).length = nss b
  | _, [] => rfl
  | j, s :: r => by rw [fsE, List.length_append, fss_len, fsE_len sec e (j + 1) r, nss]
/-- the list of what was found -/
inductive Fds (K : PySem.W.Frag) (H : Hp) : List V → List (St × Bool) → Prop
  | nil : Fds K H [] []
  | cons {p : Addr} {x : V} {s : St} {sec : Bool} {vs : List V} {l : List (St × Bool)} : SqT K H p [x, .bl sec] → Dp K H x s.d → Fds K H vs l → Fds K H (.ref p :: vs) ((s, sec) :: l)
theorem Fds.tk {K : PySem.W.Frag} {H H' : Hp} (t : Tk H H') : ∀ {vs : List V} {l : List (St × Bool)}, Fds K H vs l → Fds K H' vs l
  | _, _, .nil => .nil
  | _, _, .cons h1 h2 r => .cons (t.sqt h1) (t.dp _ (tup_St _) h2) (r.tk t)
theorem Fds.app {K : PySem.W.Frag} {H : Hp} : ∀ {vs ws : List V} {l m : List (St × Bool)}, Fds K H vs l → Fds K H ws m → Fds K H (vs ++ ws) (l ++ m)
  | _, _, _, _, .nil, h => h
  | _, _, _, _, .cons h1 h2 r, h => .cons h1 h2 (r.app h)
theorem Fds.len {K : PySem.W.Frag} {H : Hp} : ∀ {vs : List V} {l : List (St × Bool)}, Fds K H vs l → vs.length = l.length
  | _, _, .nil => rfl
  | _, _, .cons _ _ r => by rw [List.length_cons, List.length_cons, r.len]
theorem Fds.get {K : PySem.W.Frag} {H : Hp} : ∀ {vs : List V} {l : List (St × Bool)} {i : Nat} {v : V}, Fds K H vs l → vs[i]? = some v → ∃ p x s sec, v = .ref p ∧ SqT K H p [x, .bl sec] ∧ Dp K H x (St.d s) ∧ l[i]? = some (s, sec)
  | _, _, i, v, .nil, h => by simp at h
  | _, _, 0, v, .cons h1 h2 r, h => by
    simp at h
    exact ⟨_, _, _, _, h.symm, h1, h2, rfl⟩
  | _, _, i + 1, v, .cons h1 h2 r, h => by
    obtain ⟨p, x, s, sec, a, b, c, d⟩ := r.get (i := i) (v := v) (by simpa using h)
    exact ⟨p, x, s, sec, a, b, c, by simpa using d⟩
/-- the first name that stands ahead -/
def fd1 : List Str → List Str → Option Str
  | _, [] => none
  | seen, x :: r => if x ∈ seen then some x else fd1 (seen ++ [x]) r
def firstD (L : List Str) : Option Str := fd1 [] L
def optV : Option Str → V
  | none => .non
  | some x => .str x
theorem fd1_step {L : List Str} {i : Nat} {y : Str} (h : L[i]? = some y) : fd1 (L.take i) (L.drop i) = if y ∈ L.take i then some y else fd1 (L.take (i + 1)) (L.drop (i + 1)) := by
  obtain ⟨hi, e⟩ := List.getElem?_eq_some_iff.mp h
  rw [List.drop_eq_getElem_cons hi, fd1, e, List.take_succ, h]
  rfl
theorem ns_take : ∀ {b : List St} {i : Nat} {s : St}, b[i]? = some s → ns (b.take (i + 1)) = ns (b.take i) + s.n
  | [], i, s, h => by simp at h
  | x :: r, 0, s, h => by
    simp at h
    subst h
    simp [ns]
  | x :: r, i + 1, s, h => by
    have := ns_take (b := r) (i := i) (s := s) (by simpa using h)
    rw [List.take_succ_cons, List.take_succ_cons, ns, ns, this]
    omega
theorem ns_take_le : ∀ (b : List St) (i : Nat), ns (b.take i) ≤ ns b
  | [], i => by simp
  | x :: r, 0 => by simp [ns]
  | x :: r, i + 1 => by
    have := ns_take_le r i
    rw [List.take_succ_cons, ns, ns]
    omega
theorem nss_takeS : ∀ {b : List (List St)} {i : Nat} {s : List St}, b[i]? = some s → nss (b.take (i + 1)) = nss (b.take i) + ns s
  | [], i, s, h => by simp at h
  | x :: r, 0, s, h => by
    simp at h
    subst h
    simp [nss]
  | x :: r, i + 1, s, h => by
    have := nss_takeS (b := r) (i := i) (s := s) (by simpa using h)
    rw [List.take_succ_cons, List.take_succ_cons, nss, nss, this]
    omega
theorem nss_take_le : ∀ (b : List (List St)) (i : Nat), nss (b.take i) ≤ nss b
  | [], i => by simp
  | x :: r, 0 => by simp [nss]
  | x :: r, i + 1 => by
    have := nss_take_le r i
    rw [List.take_succ_cons, nss, nss]
    omega
theorem ds_get {b : List St} {i : Nat} {d : PyData} (h : (ds b)[i]? = some d) : ∃ s, b[i]? = some s ∧ d = St.d s := by
  rw [ds_map, List.getElem?_map] at h
  cases e : b[i]? with
  | none => rw [e] at h; cases h
  | some s => rw [e] at h; exact ⟨s, rfl, (Option.some.inj h).symm⟩
theorem dss_get {b : List (List St)} {i : Nat} {d : PyData} (h : (dss b)[i]? = some d) : ∃ s, b[i]? = some s ∧ d = .tuple (ds s) := by
  rw [dss_map, List.getElem?_map] at h
  cases e : b[i]? with
  | none => rw [e] at h; cases h
  | some s => rw [e] at h; exact ⟨s, rfl, (Option.some.inj h).symm⟩
section
variable {P : Program} {w : World} {K : PySem.W.Frag} {mg : Str → Option Value} {base : Heap}

def spFDT (K : PySem.W.Frag) : Sp := fun vs H Q _ => ∃ (a : Addr) (L : List Str), vs = [.ref a] ∧ SqT K H a (L.map V.str) ∧ ∀ H', Same H H' → Q (optV (firstD L)) H'
def spFDL (K : PySem.W.Frag) : Sp := fun vs H Q _ => ∃ (a : Addr) (L : List Str), vs = [.ref a] ∧ SqL K H a (L.map V.str) ∧ ∀ H', Same H H' → Q (optV (firstD L)) H'
theorem sc__first_double : FnScope ["names", "at", "name"] ["names"] (C8.fnScope (topS 50)) := C8.fnScope_by (by decide +kernel)
theorem ok_fdT {f : Addr} {fd : FuncData} (F : C8.Def K mg "_first_double" (topS 50) f fd) (b : Binds K fd ["names"] []) (B : Bl K mg)  : C8.Cal P w K mg base 1 "_first_double" (spFDT K) [] := by
  refine C8.cal0 F b .nil sc__first_double ?len ?body
  case len => rintro vs H Q E ⟨a, L, rfl, _⟩; rfl
  case body =>
    rintro cdv A outer s H vs Q E hr ⟨a, L, rfl, hs, q⟩
    refine ⟨_, (pss_cons (ps_for PassesOwn.never rfl (UG.pi_enumT rfl B.enumerate (pa_cons (pv 0) pa_nil)) (pg_tup rfl (pgs_cons (pg_name (i := 1) sc__first_double.nd rfl (Or.inl rfl)) (pgs_cons (pg_name (i := 2) sc__first_double.nd rfl (Or.inl rfl)) pgs_nil)))
    (pss_one (ps_if (pt_cmpR op_in_seq (pv 2) (pe_slice sl_tupA (pv 0) po_none (po_some (pv 1))) (by with_unfolding_all rfl)) (pss_one (ps_ret (pv 2))) pss_nil)))
    (pss_one (ps_ret pe_non))), ?_⟩
    refine ⟨_, rfl, a, _, rfl, hs, ?_⟩
    refine for_enumT (xs := L.map V.str) (fun i σ H' => ∃ b1 b2, σ = [some (.ref a), b1, b2] ∧ Same H H' ∧ firstD L = fd1 (L.take i) (L.drop i)) ⟨none, none, rfl, Same.refl H, rfl⟩ ?_ ?_ ?_
    · rintro i σ H' _ ⟨_, _, _, s1, _⟩
      exact sqt_ext (same_ext s1) hs
    · rintro i x _ H1 Tp hx ⟨b1, b2, rfl, s1, ei⟩ hTp
      obtain ⟨y, hy, rfl⟩ : ∃ y, L[i]? = some y ∧ x = .str y := by
        rw [List.getElem?_map] at hx
        cases e : L[i]? with
        | none => rw [e] at hx; cases hx
        | some s => rw [e] at hx; exact ⟨s, rfl, (Option.some.inj hx).symm⟩
      have hi := (List.getElem?_eq_some_iff.mp hy).1
      have s2 := s1.trans (same_new hTp (.tup [.int (i : Nat), .str y]))
      refine ⟨Tp, _, rfl, SqT.of upd_same, rfl, _, _, rfl, _, _, rfl, rfl, ?_⟩
      have hs2 := sqt_ext (same_ext s2) hs
      have e : cutV (L.map V.str) none (some (i : Int)) = (L.take i).map V.str := by
        rw [cut_take _ (by rw [List.length_map]; omega), List.map_take]
      have es := ei.trans (fd1_step hy)
      refine ⟨_, rfl, _, rfl, _, rfl, _, rfl, a, _, rfl, hs2, fun w => ?_, fun _ p hp => ?_⟩
      · exact absurd w.2 (by rw [sIx_le (by rw [List.length_map]; omega), List.length_map]; omega)
      · rw [e]
        refine ⟨p, _, rfl, .inr (SqT.of upd_same), rfl, flat_strs _, _, rfl, ?_⟩
        show if inV (.str y) ((L.take i).map V.str) = true then _ else _
        rw [inV_strs]
        by_cases c : y ∈ L.take i
        · rw [decide_eq_true c]
          rw [if_pos c] at es
          rw [es] at q
          exact iteT ⟨_, rfl, q _ (s2.trans (same_new hp _))⟩
        · rw [decide_eq_false c]
          rw [if_neg c] at es
          exact iteF ⟨_, _, rfl, s2.trans (same_new hp _), es⟩
    · rintro σ H1 ⟨b1, b2, rfl, s1, ei⟩
      rw [List.length_map, List.drop_length] at ei
      have := q H1 s1
      rw [ei] at this
      exact this
theorem ok_fdL {f : Addr} {fd : FuncData} (F : C8.Def K mg "_first_double" (topS 50) f fd) (b : Binds K fd ["names"] []) (B : Bl K mg)  : C8.Cal P w K mg base 1 "_first_double" (spFDL K) [] := by
  refine C8.cal0 F b .nil sc__first_double ?len ?body
  case len => rintro vs H Q E ⟨a, L, rfl, _⟩; rfl
  case body =>
    rintro cdv A outer s H vs Q E hr ⟨a, L, rfl, hs, q⟩
    refine ⟨_, (pss_cons (ps_for PassesOwn.never rfl (pi_enum rfl B.enumerate (pa_cons (pv 0) pa_nil)) (pg_tup rfl (pgs_cons (pg_name (i := 1) sc__first_double.nd rfl (Or.inl rfl)) (pgs_cons (pg_name (i := 2) sc__first_double.nd rfl (Or.inl rfl)) pgs_nil)))
    (pss_one (ps_if (pt_cmpR op_in_seq (pv 2) (pe_slice sl_list (pv 0) po_none (po_some (pv 1))) (by with_unfolding_all rfl)) (pss_one (ps_ret (pv 2))) pss_nil)))
    (pss_one (ps_ret pe_non))), ?_⟩
    refine ⟨_, rfl, a, _, rfl, hs, ?_⟩
    refine for_enumLL (xs := L.map V.str) (fun i σ H' => ∃ b1 b2, σ = [some (.ref a), b1, b2] ∧ Same H H' ∧ firstD L = fd1 (L.take i) (L.drop i)) ⟨none, none, rfl, Same.refl H, rfl⟩ ?_ ?_ ?_
    · rintro i σ H' _ ⟨_, _, _, s1, _⟩
      exact sq_ext (same_ext s1) hs
    · rintro i x _ H1 Tp hx ⟨b1, b2, rfl, s1, ei⟩ hTp
      obtain ⟨y, hy, rfl⟩ : ∃ y, L[i]? = some y ∧ x = .str y := by
        rw [List.getElem?_map] at hx
        cases e : L[i]? with
        | none => rw [e] at hx; cases hx
        | some s => rw [e] at hx; exact ⟨s, rfl, (Option.some.inj hx).symm⟩
      have hi := (List.getElem?_eq_some_iff.mp hy).1
      have s2 := s1.trans (same_new hTp (.tup [.int (i : Nat), .str y]))
      refine ⟨Tp, _, rfl, SqT.of upd_same, rfl, _, _, rfl, _, _, rfl, rfl, ?_⟩
      have hs2 := sq_ext (same_ext s2) hs
      have e : cutV (L.map V.str) none (some (i : Int)) = (L.take i).map V.str := by
        rw [cut_take _ (by rw [List.length_map]; omega), List.map_take]
      have es := ei.trans (fd1_step hy)
      refine ⟨_, rfl, _, rfl, _, rfl, _, rfl, a, _, rfl, hs2, fun p hp => ?_⟩
      rw [e]
      refine ⟨p, _, rfl, .inl (SqL.of upd_same), rfl, flat_strs _, _, rfl, ?_⟩
      show if inV (.str y) ((L.take i).map V.str) = true then _ else _
      rw [inV_strs]
      by_cases c : y ∈ L.take i
      · rw [decide_eq_true c]
        rw [if_pos c] at es
        rw [es] at q
        exact iteT ⟨_, rfl, q _ (s2.trans (same_new hp _))⟩
      · rw [decide_eq_false c]
        rw [if_neg c] at es
        exact iteF ⟨_, _, rfl, s2.trans (same_new hp _), es⟩
    · rintro σ H1 ⟨b1, b2, rfl, s1, ei⟩
      rw [List.length_map, List.drop_length] at ei
      have := q H1 s1
      rw [ei] at this
      exact this

def spFS (K : PySem.W.Frag) (n : Nat) : Sp := fun vs H Q _ => ∃ v b sec F acc, vs = [v, .bl sec, .ref F] ∧ Dp K H v (.tuple (ds b)) ∧ ks b < n ∧ H F = some (.lst acc) ∧ acc.length + ns b ≤ 1000 ∧
  ∀ H' more, H' F = some (.lst (acc ++ more)) → Fds K H' more (fss sec b) → Tk H H' → Kp [F] H H' → Q .non H'
theorem sc__find_statements : FnScope ["body", "is_second", "found", "statement", "at", "inner"] ["body", "is_second", "found"] (C8.fnScope (topS 52)) := C8.fnScope_by (by decide +kernel)
theorem ok_fs {n : Nat} {f : Addr} {fd : FuncData} (F : C8.Def K mg "_find_statements" (topS 52) f fd) (b : Binds K fd ["body", "is_second", "found"] []) (B : Bl K mg) (c_bodies_of : C8.Cal P w K mg base 1 "bodies_of" (spBod K) []) (c__find_statements : C8.Cal P w K mg base (n + 2) "_find_statements" (spFS K n) []) : C8.Cal P w K mg base (n + 3) "_find_statements" (spFS K (n + 1)) [] := by
  refine C8.cal0 F b .nil sc__find_statements ?len ?body
  case len => rintro vs H Q E ⟨v, b, sec, F, acc, rfl, _⟩; rfl
  case body =>
    rintro cdv A outer s H vs Q E hr ⟨v, b, sec, F, acc, rfl, hd, hk, hF, hacc, q⟩
    refine ⟨_, (pss_one (ps_for PassesOwn.never rfl (pi_tup (pv 0)) (pg_name (i := 3) sc__find_statements.nd rfl (Or.inl rfl))
    (pss_cons (ps_expr (pe_bm PySem.F.plainAttrs_list PySem.F.slot_list_append PySem.F.type_list_append mt_append (pv 2) (pa_cons (pe_tup (pa_cons (pv 3) (pa_cons (pv 1) pa_nil))) pa_nil)))
    (pss_one (ps_for PassesOwn.never rfl (UG.pi_enumT rfl B.enumerate (pa_cons (C8.pe_c c_bodies_of hr (by omega) rfl (pa_cons (pv 3) pa_nil)) pa_nil)) (pg_tup rfl (pgs_cons (pg_name (i := 4) sc__find_statements.nd rfl (Or.inl rfl)) (pgs_cons (pg_name (i := 5) sc__find_statements.nd rfl (Or.inl rfl)) pgs_nil)))
    (pss_one (ps_expr (C8.pe_c c__find_statements hr (by omega) rfl (pa_cons (pv 5) (pa_cons (pe_or (pv 1) (pe_one (pe_and (pe_cmpR op_eq (pe_ix ix_tup (pv 3) pe_int (fun _ _ => rfl)) pe_str (nomark _)) (pe_one (pe_cmpR op_eq (pv 4) pe_int (nomark _)))))) (pa_cons (pv 2) pa_nil))))))))))), ?_⟩
    obtain ⟨a, xs, rfl, hs, ha, hl⟩ := len_ok hd
    have hlb : xs.length = b.length := by rw [hl, ds_len]
    refine ⟨_, rfl, a, rfl, ⟨_, hs⟩, ?_⟩
    refine for_tup (xs := xs) (fun i σ H' => ∃ b3 b4 b5 more, σ = [some (.ref a), some (.bl sec), some (.ref F), b3, b4, b5] ∧ H' F = some (.lst (acc ++ more)) ∧ Fds K H' more (fss sec (b.take i)) ∧ Tk H H' ∧ Kp [F] H H') ?_ ?_ ?_ ?_
    · exact ⟨none, none, none, [], rfl, by rw [List.append_nil]; exact hF, by simpa [fss] using Fds.nil, Tk.refl H, Kp.refl H⟩
    · rintro i σ H' _ ⟨_, _, _, _, _, _, _, t, _⟩
      exact t.sqt hs
    · rintro i x _ H1 hx ⟨b3, b4, b5, more, rfl, hF1, fd1, t1, k1⟩
      have ml : more.length = ns (b.take i) := by rw [fd1.len, fss_len]
      obtain ⟨dd, hdd, hdp⟩ := dps_get' ha hx
      obtain ⟨s, hsb, rfl⟩ := ds_get hdd
      have hsm : s ∈ b := List.mem_of_getElem? hsb
      have hsk := ks_mem hsm
      have hnt := ns_take hsb
      have hntl := ns_take_le b (i + 1)
      have hnp := n_bs s
      have hd1 := t1.dp _ (tup_St s) hdp
      refine ⟨_, rfl, .inl ⟨rfl, _, SqL.of hF1⟩, _, rfl, _, rfl, (by show 2 ≤ sizeLine; decide), fun p hp => ?_⟩
      have np : p ≠ F := fun z => by rw [← z, hp] at hF1; cases hF1
      have hF2 : upd H1 p (.tup [x, .bl sec]) F = some (.lst (acc ++ more)) := by rw [upd_ne (Ne.symm np)]; exact hF1
      refine ⟨F, _, _, rfl, rfl, hF2, Nat.lt_of_le_of_lt (show _ ≤ 1000 by rw [List.length_append]; omega) (by decide), ?_⟩
      have t2 : Tk H1 (upd (upd H1 p (.tup [x, .bl sec])) F (.lst (acc ++ more ++ [.ref p]))) := (Tk.new hp _).trans (Tk.put hF2 _)
      have k2 : Kp [F] H1 (upd (upd H1 p (.tup [x, .bl sec])) F (.lst (acc ++ more ++ [.ref p]))) := (Kp.of_same (same_new hp _)).trans (Kp.put _ (by simp))
      have hF3 : upd (upd H1 p (.tup [x, .bl sec])) F (.lst (acc ++ more ++ [.ref p])) F = some (.lst (acc ++ (more ++ [.ref p]))) := by rw [upd_same, List.append_assoc]
      have fd3 : Fds K (upd (upd H1 p (.tup [x, .bl sec])) F (.lst (acc ++ more ++ [.ref p]))) (more ++ [.ref p]) (fss sec (b.take i) ++ [(s, sec)]) := (fd1.tk t2).app (.cons (SqT.of (by rw [upd_ne np]; exact upd_same)) (t2.dp _ (tup_St s) hd1) .nil)
      show (fun H3 => _) (upd (upd H1 p (.tup [x, .bl sec])) F (.lst (acc ++ more ++ [.ref p])))
      have t3 := t1.trans t2
      have k3 := k1.trans k2
      generalize upd (upd H1 p (.tup [x, .bl sec])) F (.lst (acc ++ more ++ [.ref p])) = H3 at hF3 fd3 t3 k3
      have hd3 := t3.dp _ (tup_St s) hdp
      refine ⟨_, rfl, x, s, rfl, hd3, fun v' H4 s4 hd4 => ?_⟩
      obtain ⟨ra, rxs, rfl, hrs, hra, hrl⟩ := len_ok hd4
      rw [dss_len] at hrl
      refine ⟨ra, _, rfl, hrs, ?_⟩
      refine for_enumT (xs := rxs) (fun j σ H' => ∃ b4 b5 more2, σ = [some (.ref a), some (.bl sec), some (.ref F), some x, b4, b5] ∧ H' F = some (.lst (acc ++ (more ++ [.ref p] ++ more2))) ∧ Fds K H' (more ++ [.ref p] ++ more2) (fss sec (b.take i) ++ [(s, sec)] ++ fsE sec (isEn s) 0 (s.bs.take j)) ∧ Tk H4 H' ∧ Kp [F] H4 H') ?_ ?_ ?_ ?_
      · exact ⟨b4, b5, [], rfl, by rw [List.append_nil]; exact s4 _ _ hF3, by rw [List.append_nil, List.take_zero, fsE, List.append_nil]; exact fd3.tk (Tk.same s4), Tk.refl _, Kp.refl _⟩
      · rintro j σ H' _ ⟨_, _, _, _, _, _, t, _⟩
        exact t.sqt hrs
      · rintro j y _ H5 Tp hy ⟨b4', b5', more2, rfl, hF5, fd5, t5, k5⟩ hTp
        have ml5 := fd5.len
        obtain ⟨dd2, hdd2, hdp2⟩ := dps_get' hra hy
        obtain ⟨b2, hb2, rfl⟩ := dss_get hdd2
        have sT := same_new hTp (.tup [.int (j : Nat), y])
        refine ⟨Tp, _, rfl, SqT.of upd_same, rfl, _, _, rfl, _, _, rfl, rfl, ?_⟩
        have hF6 := sT _ _ hF5
        have t6 := t5.trans (Tk.same sT)
        have k6 : Kp [F] H4 _ := k5.trans (Kp.of_same sT)
        have fd6 := fd5.tk (Tk.same sT)
        generalize upd H5 Tp (.tup [.int (j : Nat), y]) = H6 at hF6 t6 k6 fd6
        have hx6 := ((Tk.same s4).trans t6).dp _ (tup_St s) hd3
        obtain ⟨r, er⟩ := d_word s
        rw [er] at hx6
        obtain ⟨xa, xxs, rfl, hxs, hxa, hxl⟩ := len_ok hx6
        cases hxa with
        | @cons v0 _ _ _ h0 hxa =>
        cases h0
        have hfe := fsE_take sec (isEn s) 0 hb2
        rw [Nat.zero_add] at hfe
        have hkb := bs_k hb2
        have nt := nss_takeS hb2
        have ntl := nss_take_le s.bs (j + 1)
        refine ⟨_, rfl, _, rfl, _, rfl, ?_⟩
        have call : ∀ flag : Bool, (sec || (isEn s && decide ((j : Int) = 1))) = flag → spFS K n [y, .bl flag, .ref F] H6 (fun _ H' => ∃ b4 b5 more2, ([some (.ref a), some (.bl sec), some (.ref F), some (.ref xa), some (.int (j : Int)), some y] : L2.St) = [some (.ref a), some (.bl sec), some (.ref F), some (.ref xa), b4, b5] ∧ H' F = some (.lst (acc ++ (more ++ [.ref p] ++ more2))) ∧ Fds K H' (more ++ [.ref p] ++ more2) (fss sec (b.take i) ++ [(s, sec)] ++ fsE sec (isEn s) 0 (s.bs.take (j + 1))) ∧ Tk H4 H' ∧ Kp [F] H4 H') C8.E0 := fun flag hfl => by
          refine ⟨y, b2, flag, F, _, rfl, t6.dp (.tuple (ds b2)) (tup_ds b2) hdp2, by omega, hF6, ?_, fun H7 m7 h71 h72 t7 k7 => ?_⟩
          · have e1 := fsE_len sec (isEn s) 0 (s.bs.take j)
            simp only [List.length_append, fss_len, e1, List.length_cons, List.length_nil] at ml5 ⊢
            omega
          · refine ⟨_, _, more2 ++ m7, rfl, ?_, ?_, t6.trans t7, k6.trans k7⟩
            · rw [h71]; simp
            · have := (fd6.tk t7).app h72
              rw [← hfl] at this
              rw [hfe, ← List.append_assoc, ← List.append_assoc]
              exact this
        cases sec with
        | true =>
          refine iteT ?_
          exact ⟨_, rfl, call true (by rfl)⟩
        | false =>
          refine iteF ⟨_, rfl, _, _, _, _, rfl, rfl, hxs, at0 _ _, rfl, _, rfl, ?_⟩
          rw [dec_str, w_en]
          by_cases he : isEn s = true
          · refine ifT he ⟨_, rfl, rfl, ?_⟩
            rw [dec_int]
            exact ⟨_, rfl, call _ (by rw [he]; rfl)⟩
          · have he : isEn s = false := by simpa using he
            exact ifF he ⟨_, rfl, call false (by rw [he]; rfl)⟩
      · rintro σ H5 ⟨b4', b5', more2, rfl, hF5, fd5, t5, k5⟩
        rw [hrl, List.take_length] at fd5
        exact ⟨_, _, _, _, rfl, hF5, by rw [show fss sec (b.take (i + 1)) = fss sec (b.take i) ++ [(s, sec)] ++ fsE sec (isEn s) 0 s.bs by rw [fss_take sec hsb, fs_bs]; simp]; exact fd5, (t3.trans (Tk.same s4)).trans t5, (k3.trans (Kp.of_same s4)).trans k5⟩
    · rintro σ H1 ⟨b3, b4, b5, more, rfl, hF1, fd1, t1, k1⟩
      rw [hlb, List.take_length] at fd1
      exact q H1 more hF1 fd1 t1 k1
theorem fs_all {f : Addr} {fd : FuncData} (F : C8.Def K mg "_find_statements" (topS 52) f fd) (b : Binds K fd ["body", "is_second", "found"] []) (B : Bl K mg) (c_bodies_of : C8.Cal P w K mg base 1 "bodies_of" (spBod K) []) : ∀ n : Nat, C8.Cal P w K mg base (n + 2) "_find_statements" (spFS K n) []
  | 0 => by
    refine C8.cal0 F b .nil sc__find_statements ?len ?body
    case len => rintro vs H Q E ⟨_, _, _, _, _, _, _, h, _⟩; exact absurd h (Nat.not_lt_zero _)
    case body => rintro cdv A outer s H vs Q E hr ⟨_, _, _, _, _, _, _, h, _⟩; exact absurd h (Nat.not_lt_zero _)
  | n + 1 => ok_fs F b B c_bodies_of (fs_all F b B c_bodies_of n)
end
end K00


set_option Elab.async false
set_option linter.all false
set_option maxRecDepth 100000
set_option maxHeartbeats 8000000
namespace K00
open PySem PySem.Spec PyProof.Rows L2
theorem strs_vals {K : PySem.W.Frag} {H : Hp} : ∀ {L : List Str} {xs : List V}, DpAll K H xs (L.map PyData.str) → xs = L.map V.str
  | [], _, h => by cases h; rfl
  | x :: r, _, h => by
    cases h with
    | cons h1 h2 =>
      cases h1
      rw [strs_vals h2]
      rfl
/-- what is wrong with a statement -/
def fault1 (L N : List Str) : St × Bool → Option Str
  | (.dd x, _) => if x ∈ L then none else some "letter"
  | (.ud x, _) => if x ∈ L then none else some "letter"
  | (.cl x, _) => if x ∈ N then none else some "call"
  | (.rt, sec) => if sec = true then some "return" else none
  | _ => none
def bfault (L N : List Str) (b : List St) : Option Str := (fss false b).findSome? (fault1 L N)
theorem find_step {α β : Type} {f : α → Option β} {l : List α} {i : Nat} {e : α} (h : l[i]? = some e) : (l.drop i).findSome? f = (f e).or ((l.drop (i + 1)).findSome? f) := by
  obtain ⟨hi, q⟩ := List.getElem?_eq_some_iff.mp h
  rw [List.drop_eq_getElem_cons hi, q, List.findSome?_cons]
  cases f e <;> rfl
def pfault (L N : List Str) (p : Str × List St) : Option (Str × Str) := (bfault L N p.2).map fun w => (w, p.1)
/-- what check tells -/
def chkD (L : List Str) (P : List (Str × List St)) : PyData :=
  match firstD L with
  | some x => .tuple [.str "letter", .str x]
  | none => match firstD (P.map Prod.fst) with
    | some x => .tuple [.str "double", .str x]
    | none => match P.findSome? (pfault L (P.map Prod.fst)) with
      | some (w, n) => .tuple [.str w, .str n]
      | none => .none
theorem dp_tup2 {K : PySem.W.Frag} {H : Hp} {p : Addr} {x y : V} {d e : PyData} (h : H p = none) (hx : Dp K (upd H p (.tup [x, y])) x d) (hy : Dp K (upd H p (.tup [x, y])) y e) : Dp K (upd H p (.tup [x, y])) (.ref p) (.tuple [d, e]) := .tup (SqT.of upd_same) (.cons hx (.cons hy .nil))
section
variable {P : Program} {w : World} {K : PySem.W.Frag} {mg : Str → Option Value} {base : Heap}

def spBF (K : PySem.W.Frag) : Sp := fun vs H Q _ => ∃ v la na b L N, vs = [v, .ref la, .ref na] ∧ Dp K H v (.tuple (ds b)) ∧ ks b ≤ 12 ∧ ns b ≤ 200 ∧ SqT K H la (L.map V.str) ∧ SqL K H na (N.map V.str) ∧ ∀ H', Same H H' → Q (optV (bfault L N b)) H'
theorem sc__body_fault : FnScope ["body", "letters", "names", "found", "statement", "is_second", "word"] ["body", "letters", "names"] (C8.fnScope (topS 51)) := C8.fnScope_by (by decide +kernel)
theorem ok__body_fault {f : Addr} {fd : FuncData} (F : C8.Def K mg "_body_fault" (topS 51) f fd) (b : Binds K fd ["body", "letters", "names"] []) (B : Bl K mg) (c__find_statements : C8.Cal P w K mg base 15 "_find_statements" (spFS K 13) []) : C8.Cal P w K mg base 16 "_body_fault" (spBF K) [] := by
  refine C8.cal0 F b .nil sc__body_fault ?len ?body
  case len => rintro vs H Q E ⟨v, la, na, b, L, N, rfl, _⟩; rfl
  case body =>
    rintro cdv A outer s H vs Q E hr ⟨v, la, na, b, L, N, rfl, hd, hk, hn, hla, hna, q⟩
    refine ⟨_, (pss_cons (ps_set (i := 3) sc__body_fault.nd rfl (Or.inl rfl) (pe_lst pa_nil))
    (pss_cons (ps_expr (C8.pe_c c__find_statements hr (by decide) rfl (pa_cons (pv 0) (pa_cons pe_bl (pa_cons (pv 3) pa_nil)))))
    (pss_cons (ps_for PassesOwn.never rfl (pi_list (pv 3)) (pg_tup rfl (pgs_cons (pg_name (i := 4) sc__body_fault.nd rfl (Or.inl rfl)) (pgs_cons (pg_name (i := 5) sc__body_fault.nd rfl (Or.inl rfl)) pgs_nil)))
    (pss_cons (ps_set (i := 6) sc__body_fault.nd rfl (Or.inl rfl) (pe_ix ix_tup (pv 4) pe_int (fun _ _ => rfl)))
    (pss_cons (ps_if (PW.pt (pw_and (pt_cmpR op_in_seq (pv 6) (pe_tup (pa_cons pe_str (pa_cons pe_str pa_nil))) (by with_unfolding_all rfl)) (pw_and1 (pt_cmpR op_notIn_seq (pe_ix ix_tup (pv 4) pe_int (fun _ _ => rfl)) (pv 1) (by with_unfolding_all rfl))))) (pss_one (ps_ret pe_str)) pss_nil)
    (pss_cons (ps_if (PW.pt (pw_and (pt_cmpR op_eq (pv 6) pe_str (nomark _)) (pw_and1 (pt_cmpR op_notIn_seq (pe_ix ix_tup (pv 4) pe_int (fun _ _ => rfl)) (pv 2) (by with_unfolding_all rfl))))) (pss_one (ps_ret pe_str)) pss_nil)
    (pss_one (ps_if (PW.pt (pw_and (pt_cmpR op_eq (pv 6) pe_str (nomark _)) (pw_and1 (pt_val (pv 5))))) (pss_one (ps_ret pe_str)) pss_nil))))))
    (pss_one (ps_ret pe_non))))), ?_⟩
    refine ⟨(by show 0 ≤ sizeLine; decide), fun F hF => ?_⟩
    have s1 := same_new hF (.lst [])
    refine ⟨_, rfl, _, rfl, v, b, false, F, [], rfl, dp_ext (same_ext s1) _ hd, by omega, upd_same, by simp; omega, fun H2 more hF2 fd2 t2 k2 => ?_⟩
    rw [List.nil_append] at hF2
    have s2 : Same H H2 := fun p o e => k2 p o (fun z => by cases List.mem_singleton.mp z; rw [hF] at e; cases e) (s1 p o e)
    refine ⟨_, rfl, F, rfl, ⟨_, SqL.of hF2⟩, ?_⟩
    refine for_list (xs := more) (fun i σ H' => ∃ b4 b5 b6, σ = [some v, some (.ref la), some (.ref na), some (.ref F), b4, b5, b6] ∧ Same H2 H' ∧ bfault L N b = ((fss false b).drop i).findSome? (fault1 L N)) ?_ ?_ ?_ ?_
    · exact ⟨none, none, none, rfl, Same.refl _, rfl⟩
    · rintro i σ H' _ ⟨_, _, _, _, s3, _⟩
      exact SqL.of (s3 _ _ hF2)
    · rintro i x _ H3 hx ⟨b4, b5, b6, rfl, s3, ei⟩
      obtain ⟨p, xv, st, sec, rfl, hp, hxd, hst⟩ := fd2.get hx
      have es := ei.trans (find_step hst)
      have hp3 := (Tk.same s3).sqt hp
      have hd3 := (Tk.same s3).dp _ (tup_St st) hxd
      have hla3 := sqt_ext (same_ext (s2.trans s3)) hla
      have hna3 := sq_ext (same_ext (s2.trans s3)) hna
      refine ⟨p, _, rfl, hp3, rfl, _, _, rfl, _, _, rfl, rfl, ?_⟩
      cases st with
      | dd x =>
        obtain ⟨a, xs, rfl, hs, ha, hl⟩ := len_ok hd3
        cases ha with
        | cons h0 ha =>
        cases h0
        refine ⟨_, rfl, _, _, _, _, rfl, rfl, hs, at0 _ _, ?_⟩
        refine ⟨_, rfl, (by show 2 ≤ sizeLine; decide), fun p2 hp2 => ⟨p2, _, rfl, .inr (SqT.of upd_same), rfl, rfl, _, rfl, ?_⟩⟩
        have sN := same_new hp2 (.tup [.str "do", .str "undo"])
        have hs' := sqt_ext (same_ext sN) hs
        have hla4 := sqt_ext (same_ext sN) hla3
        have hna4 := sq_ext (same_ext sN) hna3
        refine ifT (by decide +kernel) ?_
        cases ha with
        | cons h1 ha =>
        cases h1
        refine ⟨_, rfl, _, _, _, _, rfl, rfl, hs', at1 _ _ _, _, rfl, la, _, rfl, .inr hla4, rfl, flat_strs _, _, rfl, ?_⟩
        show if (!inV (.str x) (L.map V.str)) = true then _ else _
        rw [inV_strs]
        by_cases hin : x ∈ L
        case neg =>
          rw [decide_eq_false hin]
          rw [fault1, if_neg hin] at es
          rw [es] at q
          exact iteT (q _ ((s2.trans s3).trans sN))
        rw [fault1, if_pos hin] at es
        rw [decide_eq_true hin]
        refine iteF ?_
        refine ⟨_, rfl, rfl, _, rfl, ?_⟩
        rw [dec_str]
        refine ifF (by decide +kernel) ?_
        refine ⟨_, rfl, rfl, _, rfl, ?_⟩
        rw [dec_str]
        refine ifF (by decide +kernel) ?_
        exact ⟨_, _, _, rfl, s3.trans sN, es⟩
      | ud x =>
        obtain ⟨a, xs, rfl, hs, ha, hl⟩ := len_ok hd3
        cases ha with
        | cons h0 ha =>
        cases h0
        refine ⟨_, rfl, _, _, _, _, rfl, rfl, hs, at0 _ _, ?_⟩
        refine ⟨_, rfl, (by show 2 ≤ sizeLine; decide), fun p2 hp2 => ⟨p2, _, rfl, .inr (SqT.of upd_same), rfl, rfl, _, rfl, ?_⟩⟩
        have sN := same_new hp2 (.tup [.str "do", .str "undo"])
        have hs' := sqt_ext (same_ext sN) hs
        have hla4 := sqt_ext (same_ext sN) hla3
        have hna4 := sq_ext (same_ext sN) hna3
        refine ifT (by decide +kernel) ?_
        cases ha with
        | cons h1 ha =>
        cases h1
        refine ⟨_, rfl, _, _, _, _, rfl, rfl, hs', at1 _ _ _, _, rfl, la, _, rfl, .inr hla4, rfl, flat_strs _, _, rfl, ?_⟩
        show if (!inV (.str x) (L.map V.str)) = true then _ else _
        rw [inV_strs]
        by_cases hin : x ∈ L
        case neg =>
          rw [decide_eq_false hin]
          rw [fault1, if_neg hin] at es
          rw [es] at q
          exact iteT (q _ ((s2.trans s3).trans sN))
        rw [fault1, if_pos hin] at es
        rw [decide_eq_true hin]
        refine iteF ?_
        refine ⟨_, rfl, rfl, _, rfl, ?_⟩
        rw [dec_str]
        refine ifF (by decide +kernel) ?_
        refine ⟨_, rfl, rfl, _, rfl, ?_⟩
        rw [dec_str]
        refine ifF (by decide +kernel) ?_
        exact ⟨_, _, _, rfl, s3.trans sN, es⟩
      | cl x =>
        obtain ⟨a, xs, rfl, hs, ha, hl⟩ := len_ok hd3
        cases ha with
        | cons h0 ha =>
        cases h0
        refine ⟨_, rfl, _, _, _, _, rfl, rfl, hs, at0 _ _, ?_⟩
        refine ⟨_, rfl, (by show 2 ≤ sizeLine; decide), fun p2 hp2 => ⟨p2, _, rfl, .inr (SqT.of upd_same), rfl, rfl, _, rfl, ?_⟩⟩
        have sN := same_new hp2 (.tup [.str "do", .str "undo"])
        have hs' := sqt_ext (same_ext sN) hs
        have hla4 := sqt_ext (same_ext sN) hla3
        have hna4 := sq_ext (same_ext sN) hna3
        refine ifF (by decide +kernel) ?_
        refine ⟨_, rfl, rfl, _, rfl, ?_⟩
        rw [dec_str]
        refine ifT (by decide +kernel) ?_
        cases ha with
        | cons h1 ha =>
        cases h1
        refine ⟨_, rfl, _, _, _, _, rfl, rfl, hs', at1 _ _ _, _, rfl, na, _, rfl, .inl hna4, rfl, flat_strs _, _, rfl, ?_⟩
        show if (!inV (.str x) (N.map V.str)) = true then _ else _
        rw [inV_strs]
        by_cases hin : x ∈ N
        case neg =>
          rw [decide_eq_false hin]
          rw [fault1, if_neg hin] at es
          rw [es] at q
          exact iteT (q _ ((s2.trans s3).trans sN))
        rw [fault1, if_pos hin] at es
        rw [decide_eq_true hin]
        refine iteF ?_
        refine ⟨_, rfl, rfl, _, rfl, ?_⟩
        rw [dec_str]
        refine ifF (by decide +kernel) ?_
        exact ⟨_, _, _, rfl, s3.trans sN, es⟩
      | rt =>
        obtain ⟨a, xs, rfl, hs, ha, hl⟩ := len_ok hd3
        cases ha with
        | cons h0 ha =>
        cases h0
        refine ⟨_, rfl, _, _, _, _, rfl, rfl, hs, at0 _ _, ?_⟩
        refine ⟨_, rfl, (by show 2 ≤ sizeLine; decide), fun p2 hp2 => ⟨p2, _, rfl, .inr (SqT.of upd_same), rfl, rfl, _, rfl, ?_⟩⟩
        have sN := same_new hp2 (.tup [.str "do", .str "undo"])
        have hs' := sqt_ext (same_ext sN) hs
        have hla4 := sqt_ext (same_ext sN) hla3
        have hna4 := sq_ext (same_ext sN) hna3
        refine ifF (by decide +kernel) ?_
        refine ⟨_, rfl, rfl, _, rfl, ?_⟩
        rw [dec_str]
        refine ifF (by decide +kernel) ?_
        refine ⟨_, rfl, rfl, _, rfl, ?_⟩
        rw [dec_str]
        refine ifT (by decide +kernel) ?_
        refine ⟨_, rfl, _, rfl, ?_⟩
        cases sec with
        | true =>
          rw [fault1, if_pos rfl] at es
          rw [es] at q
          exact iteT (q _ ((s2.trans s3).trans sN))
        | false =>
          rw [fault1, if_neg (by decide)] at es
          exact iteF ⟨_, _, _, rfl, s3.trans sN, es⟩
      | ch bs =>
        obtain ⟨a, xs, rfl, hs, ha, hl⟩ := len_ok hd3
        cases ha with
        | cons h0 ha =>
        cases h0
        refine ⟨_, rfl, _, _, _, _, rfl, rfl, hs, at0 _ _, ?_⟩
        refine ⟨_, rfl, (by show 2 ≤ sizeLine; decide), fun p2 hp2 => ⟨p2, _, rfl, .inr (SqT.of upd_same), rfl, rfl, _, rfl, ?_⟩⟩
        have sN := same_new hp2 (.tup [.str "do", .str "undo"])
        have hs' := sqt_ext (same_ext sN) hs
        have hla4 := sqt_ext (same_ext sN) hla3
        have hna4 := sq_ext (same_ext sN) hna3
        refine ifF (by decide +kernel) ?_
        refine ⟨_, rfl, rfl, _, rfl, ?_⟩
        rw [dec_str]
        refine ifF (by decide +kernel) ?_
        refine ⟨_, rfl, rfl, _, rfl, ?_⟩
        rw [dec_str]
        refine ifF (by decide +kernel) ?_
        exact ⟨_, _, _, rfl, s3.trans sN, es⟩
      | lp b =>
        obtain ⟨a, xs, rfl, hs, ha, hl⟩ := len_ok hd3
        cases ha with
        | cons h0 ha =>
        cases h0
        refine ⟨_, rfl, _, _, _, _, rfl, rfl, hs, at0 _ _, ?_⟩
        refine ⟨_, rfl, (by show 2 ≤ sizeLine; decide), fun p2 hp2 => ⟨p2, _, rfl, .inr (SqT.of upd_same), rfl, rfl, _, rfl, ?_⟩⟩
        have sN := same_new hp2 (.tup [.str "do", .str "undo"])
        have hs' := sqt_ext (same_ext sN) hs
        have hla4 := sqt_ext (same_ext sN) hla3
        have hna4 := sq_ext (same_ext sN) hna3
        refine ifF (by decide +kernel) ?_
        refine ⟨_, rfl, rfl, _, rfl, ?_⟩
        rw [dec_str]
        refine ifF (by decide +kernel) ?_
        refine ⟨_, rfl, rfl, _, rfl, ?_⟩
        rw [dec_str]
        refine ifF (by decide +kernel) ?_
        exact ⟨_, _, _, rfl, s3.trans sN, es⟩
      | en b c =>
        obtain ⟨a, xs, rfl, hs, ha, hl⟩ := len_ok hd3
        cases ha with
        | cons h0 ha =>
        cases h0
        refine ⟨_, rfl, _, _, _, _, rfl, rfl, hs, at0 _ _, ?_⟩
        refine ⟨_, rfl, (by show 2 ≤ sizeLine; decide), fun p2 hp2 => ⟨p2, _, rfl, .inr (SqT.of upd_same), rfl, rfl, _, rfl, ?_⟩⟩
        have sN := same_new hp2 (.tup [.str "do", .str "undo"])
        have hs' := sqt_ext (same_ext sN) hs
        have hla4 := sqt_ext (same_ext sN) hla3
        have hna4 := sq_ext (same_ext sN) hna3
        refine ifF (by decide +kernel) ?_
        refine ⟨_, rfl, rfl, _, rfl, ?_⟩
        rw [dec_str]
        refine ifF (by decide +kernel) ?_
        refine ⟨_, rfl, rfl, _, rfl, ?_⟩
        rw [dec_str]
        refine ifF (by decide +kernel) ?_
        exact ⟨_, _, _, rfl, s3.trans sN, es⟩
    · rintro σ H3 ⟨b4, b5, b6, rfl, s3, ei⟩
      rw [fd2.len, List.drop_length] at ei
      rw [ei] at q
      exact q H3 (s2.trans s3)
def spCheck (K : PySem.W.Frag) (Ts : List Addr) : Sp := fun vs H Q _ => ∃ v L P AL BN, vs = [v] ∧ Dp K H v (progD L P) ∧ Prog L P AL BN ∧ Tbs Ts H ∧ ∀ H' v', Go Ts H H' → Dp K H' v' (chkD L P) → Q v' H'
theorem sc_check : FnScope ["program", "letters", "procedures", "names", "procedure", "double", "name", "body", "word"] ["program"] (C8.fnScope (topS 49)) := C8.fnScope_by (by decide +kernel)
theorem ok_check {Ts : List Addr} {f : Addr} {fd : FuncData} (F : C8.Def K mg "check" (topS 49) f fd) (b : Binds K fd ["program"] []) (B : Bl K mg) (c_want_program : C8.Cal P w K mg base 9 "want_program" (spWant K Ts) []) (c_fdT : C8.Cal P w K mg base 1 "_first_double" (spFDT K) []) (c_fdL : C8.Cal P w K mg base 1 "_first_double" (spFDL K) []) (c__body_fault : C8.Cal P w K mg base 16 "_body_fault" (spBF K) []) : C8.Cal P w K mg base 17 "check" (spCheck K Ts) [] := by
  refine C8.cal0 F b .nil sc_check ?len ?body
  case len => rintro vs H Q E ⟨v, L, Ps, AL, BN, rfl, _⟩; rfl
  case body =>
    rintro cdv A outer s H vs Q E hr ⟨v, L, Ps, AL, BN, rfl, hd, hP, hTb, q⟩
    refine ⟨_, (pss_cons (ps_expr (C8.pe_c c_want_program hr (by decide) rfl (pa_cons (pv 0) pa_nil)))
    (pss_cons (ps_asg (pv 0) (pg_tup rfl (pgs_cons (pg_name (i := 1) sc_check.nd rfl (Or.inl rfl)) (pgs_cons (pg_name (i := 2) sc_check.nd rfl (Or.inl rfl)) pgs_nil))))
    (pss_cons (ps_setLc (i := 3) (te := tOp (rIxT K) (tVar 4) (tC (.int 0)))  (own := [("procedure", 4)]) (g := gName 4) (by rfl) sc_check.nd rfl rfl (sw_true rfl rfl rfl (by decide +kernel)) (pi_tup (pv 2)) (blkOk_by (own := [("procedure", 4)]) (N := ["program", "letters", "procedures", "names", "procedure", "double", "name", "body", "word"]) (sc := (C8.fnScope (topS 49))) (by decide +kernel)) (fun _ _ _ _ _ => pg_name (i := 4) sc_check.nd rfl (Or.inl rfl)) (fun _ _ _ _ _ => pts_nil) (fun _ _ _ _ _ => by exact (pe_ix ix_tup (pv 4) pe_int (fun _ _ => rfl))))
    (pss_cons (ps_set (i := 5) sc_check.nd rfl (Or.inl rfl) (C8.pe_c c_fdT hr (by decide) rfl (pa_cons (pv 1) pa_nil)))
    (pss_cons (ps_if (pt_cmpR op_notN (pv 5) pe_non (nomark _)) (pss_one (ps_ret (pe_tup (pa_cons pe_str (pa_cons (pv 5) pa_nil))))) pss_nil)
    (pss_cons (ps_set (i := 5) sc_check.nd rfl (Or.inl rfl) (C8.pe_c c_fdL hr (by decide) rfl (pa_cons (pv 3) pa_nil)))
    (pss_cons (ps_if (pt_cmpR op_notN (pv 5) pe_non (nomark _)) (pss_one (ps_ret (pe_tup (pa_cons pe_str (pa_cons (pv 5) pa_nil))))) pss_nil)
    (pss_cons (ps_for PassesOwn.never rfl (pi_tup (pv 2)) (pg_tup rfl (pgs_cons (pg_name (i := 6) sc_check.nd rfl (Or.inl rfl)) (pgs_cons (pg_name (i := 7) sc_check.nd rfl (Or.inl rfl)) pgs_nil)))
    (pss_cons (ps_set (i := 8) sc_check.nd rfl (Or.inl rfl) (C8.pe_c c__body_fault hr (by decide) rfl (pa_cons (pv 7) (pa_cons (pv 1) (pa_cons (pv 3) pa_nil)))))
    (pss_one (ps_if (pt_cmpR op_notN (pv 8) pe_non (nomark _)) (pss_one (ps_ret (pe_tup (pa_cons (pv 8) (pa_cons (pv 6) pa_nil))))) pss_nil))))
    (pss_one (ps_ret pe_non)))))))))), ?_⟩
    refine ⟨_, rfl, v, L, Ps, AL, BN, rfl, hd, hP, hTb, fun H1 g1 => ?_⟩
    have hd1 := (Tk.go hTb g1).dp _ (tup_prog L Ps) hd
    obtain ⟨a, xs, rfl, hs, ha, hl⟩ := len_ok hd1
    cases ha with
    | @cons vL _ _ _ hvL ha =>
    cases ha with
    | @cons vP _ _ _ hvP ha =>
    cases ha
    refine ⟨_, rfl, a, _, rfl, hs, rfl, _, _, rfl, _, _, rfl, rfl, ?_⟩
    obtain ⟨la, lxs, rfl, hls, hla, hll⟩ := len_ok hvL
    obtain ⟨pa, pxs, rfl, hps, hpa, hpl⟩ := len_ok hvP
    have elx : lxs = L.map V.str := strs_vals hla
    subst elx
    rw [List.length_map] at hpl
    refine ⟨_, rfl, pa, rfl, ⟨_, hps⟩, fun Dd hDd => ?_⟩
    refine lc_tup (xs := pxs) (fun i H' => H' Dd = some (.lst (((Ps.take i).map Prod.fst).map V.str)) ∧ Same H1 H') ?_ ?_ ?_ ?_
    · exact ⟨by simpa using upd_same, same_new hDd _⟩
    · rintro i H' _ ⟨_, s5⟩
      exact (Tk.same s5).sqt hps
    · rintro i x H5 hx ⟨hv1, s5⟩
      obtain ⟨d, hd, hdp⟩ := dps_get' hpa hx
      obtain ⟨p, hp, rfl⟩ := procs_get hd
      have hd5 := (Tk.same s5).dp _ (tup_proc p) hdp
      obtain ⟨qa, qxs, rfl, hqs, hqa, hql⟩ := len_ok hd5
      cases hqa with
      | @cons v0 _ _ _ h0 hqa =>
      cases h0
      refine ⟨rfl, ?_⟩
      refine ⟨_, rfl, _, _, _, _, rfl, rfl, hqs, at0 _ _, _, hv1, ?_, ?_, ?_⟩
      · have := hP.p2
        have h3 : (Ps.take i).length ≤ Ps.length := List.length_take_le' _ _
        exact Nat.lt_of_le_of_lt (show _ ≤ 8 by rw [List.length_map, List.length_map]; omega) (by decide)
      · rw [upd_same, List.take_succ, hp]
        simp
      · intro b o e
        rw [upd_ne (fun z => by rw [z, hDd] at e; cases e)]
        exact s5 _ _ e
    · rintro H5 ⟨hv1, s5⟩
      rw [hpl, List.take_length] at hv1
      have hls5 := (Tk.same s5).sqt hls
      refine ⟨_, rfl, la, L, rfl, hls5, fun H6 s6 => ?_⟩
      have ek : chkD L Ps = chkD L Ps := rfl
      conv at ek => rhs; unfold chkD
      have goS : ∀ {H' : Hp}, Same H1 H' → Go Ts H H' := fun s => g1.trans (Go.of_same g1.1 s)
      cases e1 : firstD L with
      | some x =>
        rw [e1] at ek
        refine ⟨_, rfl, rfl, _, rfl, ?_⟩
        refine iteT ⟨_, rfl, (by show 2 ≤ sizeLine; decide), fun p hp => ?_⟩
        exact q _ _ (goS ((s5.trans s6).trans (same_new hp _))) (by rw [ek]; exact dp_tup2 hp (.str _) (.str _))
      | none =>
      rw [e1] at ek
      refine ⟨_, rfl, rfl, _, rfl, ?_⟩
      refine iteF ?_
      have hv6 := s6 _ _ hv1
      refine ⟨_, rfl, Dd, Ps.map Prod.fst, rfl, SqL.of hv6, fun H7 s7 => ?_⟩
      cases e2 : firstD (Ps.map Prod.fst) with
      | some x =>
        rw [e2] at ek
        refine ⟨_, rfl, rfl, _, rfl, ?_⟩
        refine iteT ⟨_, rfl, (by show 2 ≤ sizeLine; decide), fun p hp => ?_⟩
        exact q _ _ (goS (((s5.trans s6).trans s7).trans (same_new hp _))) (by rw [ek]; exact dp_tup2 hp (.str _) (.str _))
      | none =>
      rw [e2] at ek
      refine ⟨_, rfl, rfl, _, rfl, ?_⟩
      refine iteF ?_
      have s17 : Same H1 H7 := s5.trans (s6.trans s7)
      have hv7 := s7 _ _ hv6
      refine ⟨_, rfl, pa, rfl, ⟨_, (Tk.same s17).sqt hps⟩, ?_⟩
      refine for_tup (xs := pxs) (fun i σ H' => ∃ b7 b8 b9, σ = [some (.ref a), some (.ref la), some (.ref pa), some (.ref Dd), none, some .non, b7, b8, b9] ∧ Same H7 H' ∧ Ps.findSome? (pfault L (Ps.map Prod.fst)) = (Ps.drop i).findSome? (pfault L (Ps.map Prod.fst))) ?_ ?_ ?_ ?_
      · exact ⟨none, none, none, rfl, Same.refl _, rfl⟩
      · rintro i σ H' _ ⟨_, _, _, _, s8, _⟩
        exact (Tk.same (s17.trans s8)).sqt hps
      · rintro i x _ H8 hx ⟨b7, b8, b9, rfl, s8, ei⟩
        obtain ⟨d, hd, hdp⟩ := dps_get' hpa hx
        obtain ⟨p, hp, rfl⟩ := procs_get hd
        have s18 := s17.trans s8
        have hd8 := (Tk.same s18).dp _ (tup_proc p) hdp
        obtain ⟨qa, qxs, rfl, hqs, hqa, hql⟩ := len_ok hd8
        cases hqa with
        | @cons v0 _ _ _ h0 hqa =>
        cases h0
        cases hqa with
        | @cons v1 _ _ _ h1 hqa =>
        cases hqa
        refine ⟨qa, _, rfl, hqs, rfl, _, _, rfl, _, _, rfl, rfl, ?_⟩
        have hpm : p.2 ∈ nsP Ps := List.mem_map.mpr ⟨p, List.mem_of_getElem? hp, rfl⟩
        have hk := kss_mem hpm
        have hn := nss_mem hpm
        have hk2 := hP.ks
        have hn2 := hP.n
        refine ⟨_, rfl, _, rfl, _, rfl, v1, la, Dd, p.2, L, Ps.map Prod.fst, rfl, h1, by omega, by omega, (Tk.same s18).sqt hls, SqL.of (s8 _ _ hv7), fun H9 s9 => ?_⟩
        have es := ei.trans (find_step hp)
        cases e3 : bfault L (Ps.map Prod.fst) p.2 with
        | some x =>
          rw [pfault, e3] at es
          rw [es] at ek
          refine ⟨_, rfl, rfl, _, rfl, ?_⟩
          refine iteT ⟨_, rfl, _, rfl, (by show 2 ≤ sizeLine; decide), fun p2 hp2 => ?_⟩
          exact q _ _ (goS ((s18.trans s9).trans (same_new hp2 _))) (by rw [ek]; exact dp_tup2 hp2 (.str _) (.str _))
        | none =>
          rw [pfault, e3] at es
          refine ⟨_, rfl, rfl, _, rfl, ?_⟩
          exact iteF ⟨_, _, _, rfl, s8.trans s9, es⟩
      · rintro σ H8 ⟨b7, b8, b9, rfl, s8, ei⟩
        rw [hpl, List.drop_length] at ei
        rw [ei] at ek
        exact q _ _ (goS (s17.trans s8)) (by rw [ek]; exact .non)
end
end K00


set_option Elab.async false
set_option linter.all false
set_option maxRecDepth 100000
set_option maxHeartbeats 8000000
namespace K00
open PySem PySem.Spec PyProof.Rows L2
/-! ### tuples of which the object is known: their methods may be called -/
def TupO (H : Hp) (a : Addr) (ys : List V) : Prop := ∃ o : Obj, H a = some (.frz o (.tup ys)) ∧ o.cls = .type "tuple" ∧ o.dict = none
theorem TupO.tk {H H' : Hp} {a : Addr} {ys : List V} (h : TupO H a ys) (t : Tk H H') : TupO H' a ys := let ⟨o, h1, h2⟩ := h; ⟨o, (t _ _).2 o h1, h2⟩
theorem TupO.sq {K : PySem.W.Frag} {H : Hp} {a : Addr} {ys : List V} (h : TupO H a ys) : SqT K H a ys := let ⟨o, h1, _⟩ := h; .inl (.inr ⟨o, h1⟩)
section
variable {X : Cx}
def rTupZ (K : PySem.W.Frag) : List V → Hp → VK → Prop := fun zs H Q => ∃ (l : Addr) (ys : List V), zs = [.ref l] ∧ SqL K H l ys ∧ ∀ (r : Addr) (ob : Obj), H r = none → ob.cls = .type "tuple" → ob.dict = none → Q (.ref r) (upd H r (.frz ob (.tup ys)))
theorem call_tupleZ : CallR X (.type "tuple") (rTupZ X.K) := by
  intro pins sh σ H zs us Q J rz hyp
  obtain ⟨l, ys, rfl, hl, fin⟩ := hyp
  obtain ⟨u, rfl, ru⟩ := vals1 rz
  have eu : u = Value.ref l := ru
  subst eu
  obtain ⟨its, ri, pp, hsz⟩ := J.list hl
  refine call_tuple_list pp.isList (fun hh keep => ?_) (by rw [List.size_toArray, ← ri.length]; exact hsz)
  have J2 := J.kept (t' := sh.toks) keep
  let ob : Obj := { cls := .type "tuple", data := .seq its.toArray }
  have J3 : Inv X pins σ (upd H hh.objs.size (.frz ob (.tup ys))) { sh with heap := hh.push ob } :=
    J2.laid (t' := sh.toks) (fun _ _ e => Heap.get?_push_of_some _ e) (Nat.le_refl _) ⟨Heap.get?_push_size _ rfl, hsz, its, ri, IsTup.new _ _⟩
  exact ⟨.ref hh.objs.size, _, J3, rfl, fin _ ob (J2.hok.fresh (Nat.le_refl _)) rfl rfl⟩
end
/-- a program's data -/
def PD (K : PySem.W.Frag) (H : Hp) (v : V) (L : List Str) (P : List (Str × List St)) : Prop := Dp K H v (progD L P)
theorem PD.tk {K : PySem.W.Frag} {H H' : Hp} {v : V} {L : List Str} {P : List (Str × List St)} (h : PD K H v L P) (t : Tk H H') : PD K H' v L P := t.dp _ (tup_prog L P) h
theorem PD.open {K : PySem.W.Frag} {H : Hp} {v : V} {L : List Str} {P : List (Str × List St)} (h : PD K H v L P) : ∃ a la pv, v = .ref a ∧ SqT K H a [.ref la, pv] ∧ SqT K H la (L.map V.str) ∧ Dp K H pv (.tuple (P.map procD)) := by
  obtain ⟨a, xs, rfl, hs, ha, _⟩ := len_ok h
  cases ha with
  | @cons vL _ _ _ hvL ha =>
  cases ha with
  | @cons vP _ _ _ hvP ha =>
  cases ha
  obtain ⟨la, lxs, rfl, hls, hla, _⟩ := len_ok hvL
  cases strs_vals hla
  exact ⟨a, la, vP, rfl, hs, hls, hvP⟩
theorem dp_strs {K : PySem.W.Frag} {H : Hp} : ∀ L : List Str, DpAll K H (L.map V.str) (L.map PyData.str)
  | [] => .nil
  | x :: r => .cons (.str x) (dp_strs r)
theorem PD.make {K : PySem.W.Frag} {H : Hp} {a la : Addr} {pv : V} {L : List Str} {P : List (Str × List St)} (h : SqT K H a [.ref la, pv]) (hl : SqT K H la (L.map V.str)) (hp : Dp K H pv (.tuple (P.map procD))) : PD K H (.ref a) L P := .tup h (.cons (.tup hl (dp_strs L)) (.cons hp .nil))
theorem ix_nat {n j : Nat} (hj : j < n) : ixN n (j : Int) = some j := by
  unfold ixN
  rw [if_pos (by omega), if_pos (by omega), Int.toNat_natCast]
theorem dss_snoc (secs : List (List St)) (c : List St) : dss (secs ++ [c]) = dss secs ++ [.tuple (ds c)] := by rw [dss_map, dss_map, List.map_append]; rfl
end K00


set_option Elab.async false
set_option linter.all false
set_option maxRecDepth 100000
set_option maxHeartbeats 8000000
namespace K00
open PySem PySem.Spec PyProof.Rows L2
/-! ### the well of draws -/
def Wl (H : Hp) (w l : Addr) (m : Nat) : Prop := ∃ (ns : List Int) (a n : Int), H w = some (.lst [.ref l, .int a, .int n]) ∧ H l = some (.lst (ns.map V.int)) ∧ w ≠ l ∧ 0 ≤ a ∧ a < 2147483648 ∧ 0 ≤ n ∧ n + m ≤ 1000000000000000000
theorem Wl.le {H : Hp} {w l : Addr} {m k : Nat} (h : Wl H w l m) (hk : k ≤ m) : Wl H w l k := by
  obtain ⟨ns, a, n, h1, h2, h3, h4, h5, h6, h7⟩ := h
  exact ⟨ns, a, n, h1, h2, h3, h4, h5, h6, by omega⟩
theorem Wl.kp {H H' : Hp} {w l : Addr} {m : Nat} {as : List Addr} (h : Wl H w l m) (k : Kp as H H') (nw : w ∉ as) (nl : l ∉ as) : Wl H' w l m := by
  obtain ⟨ns, a, n, h1, h2, h3⟩ := h
  exact ⟨ns, a, n, k _ _ nw h1, k _ _ nl h2, h3⟩
theorem Wl.same {H H' : Hp} {w l : Addr} {m : Nat} (h : Wl H w l m) (s : Same H H') : Wl H' w l m := by
  obtain ⟨ns, a, n, h1, h2, h3⟩ := h
  exact ⟨ns, a, n, s _ _ h1, s _ _ h2, h3⟩
theorem Wl.out {H : Hp} {w l p : Addr} {m : Nat} (h : Wl H w l m) (hp : H p = none) : p ∉ [w, l] := by
  obtain ⟨ns, a, n, h1, h2, _⟩ := h
  intro z
  rcases List.mem_cons.mp z with rfl | z
  · rw [h1] at hp; cases hp
  · cases List.mem_singleton.mp z
    rw [h2] at hp; cases hp
theorem dp_ints9 {K : PySem.W.Frag} {H : Hp} : ∀ ns : List Int, L2.DpAll K H (ns.map V.int) (ns.map PyData.int)
  | [] => .nil
  | n :: ns => .cons (.int n) (dp_ints9 ns)
theorem canAll_ints : ∀ ns : List Int, PyData.canLayAll0 (ns.map PyData.int) = true ∧ PyData.depthAll (ns.map PyData.int) = 0
  | [] => ⟨rfl, rfl⟩
  | n :: ns => by
    have ih := canAll_ints ns
    constructor
    · rw [List.map_cons, PyData.canLayAll0, ih.1]; rfl
    · rw [List.map_cons, PyData.depthAll, ih.2]; rfl
theorem shaped_ints (ns : List Int) : SeqAt.shaped (.list (ns.map PyData.int)) = true := by
  have h := canAll_ints ns
  unfold SeqAt.shaped
  rw [PyData.canLay0, h.1, PyData.depth, h.2]
  decide
theorem eqv_nil9 (ds : List PyData) : PyData.eqv (.list ds) (.list []) = ds.isEmpty := by
  cases ds <;> simp [PyData.eqv, PyData.eqvAll]
theorem seq09 {α : Type} {x : α} (l : List α) : seqIndex? 0 (x :: l).length = some 0 := by
  unfold seqIndex?
  simp
section
variable {P : Program} {w : World} {K : PySem.W.Frag} {mg : Str → Option Value} {base : Heap}
def spDraw : Sp := fun vs H Q _ => ∃ (w l : Addr) (m : Nat) (k : Int), vs = [.ref w, .int k] ∧ Wl H w l (m + 1) ∧ 1 ≤ k ∧ k ≤ 1000000 ∧ ∀ (r : Int) H', 0 ≤ r → r < k → Wl H' w l m → Kp [w, l] H H' → Tk H H' → Q (.int r) H'
theorem sc__law_draw : FnScope ["well", "many", "top"] ["well", "many"] (C8.fnScope (topS 56)) := C8.fnScope_by (by decide +kernel)
theorem ok__law_draw {f : Addr} {fd : FuncData} (F : C8.Def K mg "_law_draw" (topS 56) f fd) (b : Binds K fd ["well", "many"] []) (B : Bl K mg)  : C8.Cal P w K mg base 1 "_law_draw" spDraw [] := by
  refine C8.cal0 F b .nil sc__law_draw ?len ?body
  case len => rintro vs H Q E ⟨w, l, m, k, rfl, _⟩; rfl
  case body =>
    rintro cdv A outer s H vs Q E hr ⟨w, l, m, k, rfl, ⟨ns, a, n, hw, hl, hwl, ha0, ha1, hn0, hn1⟩, hk0, hk1, q⟩
    refine ⟨_, (pss_cons (ps_if (pt_cmpR (op_neD hr.units) (pe_ix ix_list (pv 0) pe_int (fun _ _ => rfl)) (pe_lst pa_nil) (nomark _)) (pss_cons (ps_set (i := 2) sc__law_draw.nd rfl (Or.inl rfl) (pe_ix ix_list (pe_ix ix_list (pv 0) pe_int (fun _ _ => rfl)) pe_int (fun _ _ => rfl)))
    (pss_cons (ps_if (pt_cmpR op_lt (pv 2) (pv 1) (nomark _)) (pss_one (ps_expr (pe_bm PySem.F.plainAttrs_list PySem.F.slot_list_pop PySem.F.type_list_pop mt_popAt (pe_ix ix_list (pv 0) pe_int (fun _ _ => rfl)) (pa_cons pe_int pa_nil)))) (pss_one (ps_asg (pe_op op_fdiv (pv 2) (pv 1)) (pg_sub (pe_ix ix_list (pv 0) pe_int (fun _ _ => rfl)) pe_int set_list))))
    (pss_one (ps_ret (pe_op op_mod (pe_callTy call_int1 rfl B.int (by decide +kernel) (pa_cons (pv 2) pa_nil)) (pv 1)))))) pss_nil)
    (pss_cons (ps_asg (pe_op op_add (pe_ix ix_list (pv 0) pe_int (fun _ _ => rfl)) pe_int) (pg_sub (pv 0) pe_int set_list))
    (pss_cons (ps_asg (pe_op op_mod (pe_callTy call_int1 rfl B.int (by decide +kernel) (pa_cons (pe_op op_add (pe_op op_add (pe_op op_mul (pe_ix ix_list (pv 0) pe_int (fun _ _ => rfl)) pe_int) (pe_op op_mul (pe_op op_mul pe_int (pe_ix ix_list (pv 0) pe_int (fun _ _ => rfl))) (pe_ix ix_list (pv 0) pe_int (fun _ _ => rfl)))) pe_int) pa_nil)) pe_int) (pg_sub (pv 0) pe_int set_list))
    (pss_one (ps_ret (pe_op op_mod (pe_op op_fdiv (pe_op op_mod (pe_callTy call_int1 rfl B.int (by decide +kernel) (pa_cons (pe_op op_mul (pe_ix ix_list (pv 0) pe_int (fun _ _ => rfl)) (pe_ix ix_list (pv 0) pe_int (fun _ _ => rfl))) pa_nil)) pe_int) pe_int) (pv 1))))))), ?_⟩
    refine ⟨_, rfl, w, _, _, _, rfl, rfl, SqL.of hw, at0 _ _, (by show 0 ≤ sizeLine; decide), fun p hp => ?_⟩
    have s1 := same_new hp (.lst [])
    have nw : w ≠ p := fun z => by rw [z, hp] at hw; cases hw
    have nl : l ≠ p := fun z => by rw [z, hp] at hl; cases hl
    have hw1 := s1 _ _ hw
    have hl1 := s1 _ _ hl
    refine ⟨.list (ns.map PyData.int), .list [], .lst (SqL.of hl1) (dp_ints9 ns), .lst (SqL.of upd_same) .nil, shaped_ints ns, by decide +kernel, _, rfl, ?_⟩
    rw [eqv_nil9]
    generalize upd H p (.lst []) = H1 at s1 hw1 hl1
    have k1 : Kp [w, l] H H1 := Kp.of_same s1
    have t1 : Tk H H1 := Tk.same s1
    cases ns with
    | nil =>
      refine iteF ?_
      refine ⟨_, rfl, _, _, _, _, rfl, rfl, SqL.of hw1, rfl, _, _, rfl, rfl, _, rfl, w, _, 2, 2, rfl, rfl, hw1, rfl, ?_⟩
      have hw2 : upd H1 w (.lst [.ref l, .int a, .int (n + 1)]) w = some (.lst [.ref l, .int a, .int (n + 1)]) := upd_same
      have hl2 : upd H1 w (.lst [.ref l, .int a, .int (n + 1)]) l = some (.lst (([] : List Int).map V.int)) := by rw [upd_ne (Ne.symm hwl)]; exact hl1
      have k2 : Kp [w, l] H (upd H1 w (.lst [.ref l, .int a, .int (n + 1)])) := k1.trans (Kp.put _ (by simp))
      have t2 : Tk H (upd H1 w (.lst [.ref l, .int a, .int (n + 1)])) := t1.trans (Tk.put hw1 _)
      show (fun H2 => _) (upd H1 w (.lst [.ref l, .int a, .int (n + 1)]))
      generalize upd H1 w (.lst [.ref l, .int a, .int (n + 1)]) = H2 at hw2 hl2 k2 t2
      refine ⟨_, rfl, _, _, _, _, rfl, rfl, SqL.of hw2, rfl, _, _, rfl, rfl, .inl ⟨by omega, by omega⟩, ?_⟩
      refine ⟨_, rfl, _, _, _, _, rfl, rfl, SqL.of hw2, rfl, _, _, rfl, rfl, .inl ⟨by decide, by decide⟩, ?_⟩
      refine ⟨_, rfl, _, _, _, _, rfl, rfl, SqL.of hw2, rfl, _, _, rfl, rfl, .inr ⟨by omega, by omega⟩, ?_⟩
      refine ⟨_, _, rfl, rfl, _, _, rfl, rfl, .inl ⟨_, rfl, _, _, rfl, rfl, (show (0 : Int) < 2147483647 by decide), _, rfl, w, _, 1, 1, rfl, rfl, hw2, rfl, ?_⟩⟩
      have p1 := Int.emod_nonneg (a * 48271 + 69621 * (n + 1) * (n + 1) + 40692) (show (2147483647 : Int) ≠ 0 by decide)
      have p2 := Int.emod_lt_of_pos (a * 48271 + 69621 * (n + 1) * (n + 1) + 40692) (show (0 : Int) < 2147483647 by decide)
      show (fun H2 => _) (upd H2 w (.lst [.ref l, .int ((a * 48271 + 69621 * (n + 1) * (n + 1) + 40692) % 2147483647), .int (n + 1)]))
      generalize (a * 48271 + 69621 * (n + 1) * (n + 1) + 40692) % 2147483647 = a2 at p1 p2
      have hw3 : upd H2 w (.lst [.ref l, .int a2, .int (n + 1)]) w = some (.lst [.ref l, .int a2, .int (n + 1)]) := upd_same
      have hl3 : upd H2 w (.lst [.ref l, .int a2, .int (n + 1)]) l = some (.lst (([] : List Int).map V.int)) := by rw [upd_ne (Ne.symm hwl)]; exact hl2
      have k3 : Kp [w, l] H (upd H2 w (.lst [.ref l, .int a2, .int (n + 1)])) := k2.trans (Kp.put _ (by simp))
      have t3 : Tk H (upd H2 w (.lst [.ref l, .int a2, .int (n + 1)])) := t2.trans (Tk.put hw2 _)
      show (fun H2 => _) (upd H2 w (.lst [.ref l, .int a2, .int (n + 1)]))
      generalize upd H2 w (.lst [.ref l, .int a2, .int (n + 1)]) = H3 at hw3 hl3 k3 t3
      refine ⟨_, rfl, _, _, _, _, rfl, rfl, SqL.of hw3, rfl, ?_⟩
      refine ⟨_, rfl, _, _, _, _, rfl, rfl, SqL.of hw3, rfl, _, _, rfl, rfl, .inl ⟨by omega, by omega⟩, ?_⟩
      refine .inl ⟨_, rfl, _, _, rfl, rfl, (show (0 : Int) < 2147483629 by decide), _, _, rfl, rfl, ⟨by decide, by decide⟩, _, rfl, _, _, rfl, rfl, (show (0 : Int) < k by omega), ?_⟩
      exact q _ _ (Int.emod_nonneg _ (by omega)) (Int.emod_lt_of_pos _ (by omega)) ⟨[], a2, n + 1, hw3, hl3, hwl, p1, by omega, by omega, by omega⟩ k3 t3
    | cons n0 nr =>
      refine iteT ?_
      refine ⟨_, rfl, _, _, _, _, rfl, rfl, SqL.of hw1, rfl, _, _, _, _, rfl, rfl, SqL.of hl1, (show atI (V.int n0 :: nr.map V.int) 0 = some (.int n0) from at0 _ _), ?_⟩
      have fin : ∀ (H' : Hp) (ns' : List Int), H' w = some (.lst [.ref l, .int a, .int n]) → H' l = some (.lst (ns'.map V.int)) → Kp [w, l] H H' → Tk H H' → Q (.int (n0 % k)) H' := fun H' ns' e1 e2 e3 e4 =>
        q _ _ (Int.emod_nonneg _ (by omega)) (Int.emod_lt_of_pos _ (by omega)) ⟨ns', a, n, e1, e2, hwl, ha0, ha1, hn0, by omega⟩ e3 e4
      refine ⟨_, rfl, _, rfl, _, _, rfl, rfl, _, rfl, ?_⟩
      by_cases c1 : n0 < k
      · rw [decide_eq_true c1]
        refine iteT ?_
        refine ⟨_, rfl, _, _, _, _, rfl, rfl, SqL.of hw1, rfl, .inl ⟨rfl, _, SqL.of hl1⟩, l, _, 0, 0, .int n0, rfl, rfl, hl1, by decide, by decide, seq09 _, rfl, ?_⟩
        refine ⟨_, rfl, .inl ⟨_, rfl, _, rfl, _, _, rfl, rfl, (show (0 : Int) < k by omega), ?_⟩⟩
        refine fin _ nr (by rw [upd_ne hwl]; exact hw1) upd_same (k1.trans (Kp.put _ (by simp))) (t1.trans (Tk.put hl1 _))
      · rw [decide_eq_false c1]
        refine iteF ?_
        refine ⟨_, rfl, _, rfl, _, _, rfl, rfl, ⟨by omega, by omega⟩, _, rfl, _, _, _, _, rfl, rfl, SqL.of hw1, rfl, l, _, 0, 0, rfl, rfl, hl1, ix_nat (j := 0) (by simp), ?_⟩
        refine ⟨_, rfl, .inl ⟨_, rfl, _, rfl, _, _, rfl, rfl, (show (0 : Int) < k by omega), ?_⟩⟩
        refine fin _ (n0 / k :: nr) (by rw [upd_ne hwl]; exact hw1) upd_same (k1.trans (Kp.put _ (by simp))) (t1.trans (Tk.put hl1 _))
def spWell (K : PySem.W.Frag) : Sp := fun vs H Q _ => ∃ (a : Addr) (ns : List Int), vs = [.ref a] ∧ SqL K H a (ns.map V.int) ∧ ns.length ≤ 1000 ∧ ∀ H' w l, Same H H' → H w = none → H l = none → Wl H' w l 900000000000000000 → Q (.ref w) H'
theorem sc__law_well : FnScope ["script", "stir", "cell"] ["script"] (C8.fnScope (topS 55)) := C8.fnScope_by (by decide +kernel)
theorem ok__law_well {f : Addr} {fd : FuncData} (F : C8.Def K mg "_law_well" (topS 55) f fd) (b : Binds K fd ["script"] []) (B : Bl K mg)  : C8.Cal P w K mg base 1 "_law_well" (spWell K) [] := by
  refine C8.cal0 F b .nil sc__law_well ?len ?body
  case len => rintro vs H Q E ⟨a, ns, rfl, _⟩; rfl
  case body =>
    rintro cdv A outer s H vs Q E hr ⟨a, ns, rfl, hs, hlen, q⟩
    refine ⟨_, (pss_cons (ps_set (i := 1) sc__law_well.nd rfl (Or.inl rfl) pe_int)
    (pss_cons (ps_for PassesOwn.never rfl (pi_list (pv 0)) (pg_name (i := 2) sc__law_well.nd rfl (Or.inl rfl))
    (pss_one (ps_set (i := 1) sc__law_well.nd rfl (Or.inl rfl) (pe_op op_mod (pe_callTy call_int1 rfl B.int (by decide +kernel) (pa_cons (pe_op op_add (pe_op op_add (pe_op op_mul (pv 1) pe_int) (pe_op op_mod (pe_callTy call_int1 rfl B.int (by decide +kernel) (pa_cons (pv 2) pa_nil)) pe_int)) pe_int) pa_nil)) pe_int))))
    (pss_one (ps_ret (pe_lst (pa_cons (pe_lc (own := [("cell", 2)]) (g := gName 2) (by rfl) sc__law_well.nd (pi_list (pv 0)) (blkOk_by (own := [("cell", 2)]) (N := ["script", "stir", "cell"]) (sc := (C8.fnScope (topS 55))) (by decide +kernel)) (fun _ _ _ _ _ => pg_name (i := 2) sc__law_well.nd rfl (Or.inl rfl)) (fun _ _ _ _ _ => (pts_one (pt_cmpR op_gt (pv 2) (pe_op op_pow pe_int pe_int) (nomark _)))) (fun _ _ _ _ _ => (pe_op op_sub (pe_callTy call_int1 rfl B.int (by decide +kernel) (pa_cons (pv 2) pa_nil)) (pe_op op_pow pe_int pe_int)))) (pa_cons (pv 1) (pa_cons pe_int pa_nil)))))))), ?_⟩
    refine ⟨_, rfl, a, rfl, ⟨_, hs⟩, ?_⟩
    refine for_list (xs := ns.map V.int) (fun j σ H' => H' = H ∧ ∃ (z : Int) (b2 : Option V), σ = [some (.ref a), some (.int z), b2] ∧ 0 ≤ z ∧ z < 2147483647) ⟨rfl, 7, none, rfl, by omega, by omega⟩ ?_ ?_ ?_
    · rintro i σ H' _ ⟨rfl, _⟩
      exact hs
    · rintro i x _ H2 hx ⟨rfl, z, b2, rfl, z0, z1⟩
      rw [List.getElem?_map] at hx
      obtain ⟨n, _, rfl⟩ := Option.map_eq_some_iff.mp hx
      refine ⟨_, rfl, _, _, rfl, rfl, .inl ⟨by omega, by omega⟩, _, rfl, .inl ⟨_, rfl, _, _, rfl, rfl, (show (0 : Int) < 2147483629 by decide), _, _, rfl, rfl, _, _, rfl, rfl, .inl ⟨_, rfl, _, _, rfl, rfl, (show (0 : Int) < 2147483647 by decide), ?_⟩⟩⟩
      exact ⟨rfl, _, _, rfl, Int.emod_nonneg _ (by decide), Int.emod_lt_of_pos _ (by decide)⟩
    · rintro σ H2 ⟨rfl, z, b2, rfl, z0, z1⟩
      refine ⟨_, rfl, a, rfl, ⟨_, hs⟩, ?_⟩
      intro l hl
      have s1 := same_new hl (.lst [])
      refine lc_list (xs := ns.map V.int) (fun i H' => ∃ ns' : List Int, ns'.length ≤ i ∧ H' l = some (.lst (ns'.map V.int)) ∧ ∀ p o, p ≠ l → H2 p = some o → H' p = some o) ⟨[], Nat.le_refl _, upd_same, fun p o hp e => by rw [upd_ne hp]; exact e⟩ ?_ ?_ ?_
      · rintro i H' _ ⟨_, _, _, st⟩
        rcases hs with (h | ⟨ob, h⟩) | h
        · exact .inl (.inl (st _ _ (fun z => by rw [z, hl] at h; cases h) h))
        · exact .inl (.inr ⟨ob, st _ _ (fun z => by rw [z, hl] at h; cases h) h⟩)
        · exact .inr h
      · rintro i x H3 hx ⟨ns', hn', hl3, st⟩
        rw [List.getElem?_map] at hx
        obtain ⟨n, _, rfl⟩ := Option.map_eq_some_iff.mp hx
        have hil : i < ns.length := by
          by_cases h : i < ns.length
          · exact h
          · rw [List.getElem?_eq_none_iff.mpr (by omega)] at hx; cases hx
        refine ⟨rfl, ?_⟩
        refine ⟨_, rfl, _, _, rfl, rfl, ⟨by decide, by decide, by decide⟩, _, _, rfl, rfl, _, rfl, ?_⟩
        refine ite2 (fun _ => ?_) (fun _ => ⟨ns', by omega, hl3, st⟩)
        refine ⟨_, rfl, .inl ⟨_, rfl, _, _, rfl, rfl, ⟨by decide, by decide, by decide⟩, _, _, rfl, rfl, ?_⟩⟩
        refine ⟨_, hl3, Nat.lt_of_le_of_lt (show _ ≤ 1000 by rw [List.length_map]; omega) (by decide), ns' ++ [n - 10 ^ Int.toNat 18], by rw [List.length_append]; simp; omega, ?_, fun p o hp e => by rw [upd_ne hp]; exact st p o hp e⟩
        rw [List.map_append]
        exact upd_same
      · rintro H3 ⟨ns', hn', hl3, st⟩
        refine ⟨_, rfl, (by show 3 ≤ sizeLine; decide), fun w hw => ?_⟩
        have s3 : Same H2 H3 := fun p o e => st p o (fun z => by rw [z, hl] at e; cases e) e
        have s4 := s3.trans (same_new hw (.lst [.ref l, .int z, .int 0]))
        have hwl : w ≠ l := fun e => by rw [e, hl3] at hw; cases hw
        have hw2 : H2 w = none := by
          cases e : H2 w with
          | none => rfl
          | some o => rw [s3 _ _ e] at hw; cases hw
        exact q _ w l s4 hw2 hl ⟨ns', z, 0, upd_same, by rw [upd_ne (Ne.symm hwl)]; exact hl3, hwl, z0, by omega, by omega, by omega⟩
end
end K00


set_option Elab.async false
set_option linter.all false
set_option maxRecDepth 100000
set_option maxHeartbeats 8000000
namespace K00
open PySem PySem.Spec PyProof.Rows L2
-- more names: still right
mutual
theorem ok_mono {A B A' B' : List Str} (ha : ∀ x ∈ A, x ∈ A') (hb : ∀ x ∈ B, x ∈ B') (s2 : Bool) : ∀ (s : St) (sec : Bool), s.ok A B sec → s.ok A' B' s2
  | .dd _, _, h | .ud _, _, h => ha _ h
  | .cl _, _, h => hb _ h
  | .rt, _, _ => trivial
  | .ch bs, sec, h => ⟨h.1, h.2.1, okss_mono ha hb s2 bs sec h.2.2⟩
  | .lp b, sec, h => oks_mono ha hb s2 b sec h
  | .en b c, sec, h => ⟨oks_mono ha hb s2 b sec h.1, oks_mono ha hb true c true h.2⟩
theorem oks_mono {A B A' B' : List Str} (ha : ∀ x ∈ A, x ∈ A') (hb : ∀ x ∈ B, x ∈ B') (s2 : Bool) : ∀ (b : List St) (sec : Bool), oks A B sec b → oks A' B' s2 b
  | [], _, _ => trivial
  | s :: r, sec, h => ⟨ok_mono ha hb s2 s sec h.1, oks_mono ha hb s2 r sec h.2⟩
theorem okss_mono {A B A' B' : List Str} (ha : ∀ x ∈ A, x ∈ A') (hb : ∀ x ∈ B, x ∈ B') (s2 : Bool) : ∀ (b : List (List St)) (sec : Bool), okss A B sec b → okss A' B' s2 b
  | [], _, _ => trivial
  | s :: r, sec, h => ⟨oks_mono ha hb s2 s sec h.1, okss_mono ha hb s2 r sec h.2⟩
end
/-! ### sums and slices of tuples, as data -/
theorem catA_dp {K : PySem.W.Frag} {H : Hp} {x y : V} {d1 d2 : List PyData} {Q : VK} (hx : Dp K H x (.tuple d1)) (hy : Dp K H y (.tuple d2)) (hl : d1.length + d2.length ≤ 1000) (t1 : TupDs d1) (t2 : TupDs d2)
    (q : ∀ v H', Same H H' → Dp K H' v (.tuple (d1 ++ d2)) → Q v H') : rCatA K x y H Q := by
  obtain ⟨a, xs, rfl, hs, ha, la⟩ := len_ok hx
  obtain ⟨b, ys, rfl, hb, hb2, lb⟩ := len_ok hy
  refine ⟨a, b, xs, ys, rfl, rfl, hs, hb, Nat.le_trans (by omega) (show 1000 ≤ sizeLine by decide), fun z => ?_, fun _ z => ?_, fun _ _ p hp => ?_⟩
  · have : d1 = [] := List.eq_nil_of_length_eq_zero (by rw [← la, z]; rfl)
    subst this
    exact q _ H (Same.refl H) (.tup hb hb2)
  · have : d2 = [] := List.eq_nil_of_length_eq_zero (by rw [← lb, z]; rfl)
    subst this
    rw [List.append_nil] at q
    exact q _ H (Same.refl H) (.tup hs ha)
  · have sp := same_new hp (.tup (xs ++ ys))
    exact q _ _ sp (.tup (SqT.of upd_same) (dps_app ((Tk.same sp).dps _ t1 ha) ((Tk.same sp).dps _ t2 hb2)))
theorem dps_take {K : PySem.W.Frag} {H : Hp} : ∀ {xs : List V} {d : List PyData} (i : Nat), DpAll K H xs d → DpAll K H (xs.take i) (d.take i)
  | _, _, 0, _ => by simpa using .nil
  | _, _, _ + 1, .nil => .nil
  | _, _, i + 1, .cons h r => .cons h (dps_take i r)
theorem dps_drop {K : PySem.W.Frag} {H : Hp} : ∀ {xs : List V} {d : List PyData} (i : Nat), DpAll K H xs d → DpAll K H (xs.drop i) (d.drop i)
  | _, _, 0, h => h
  | _, _, _ + 1, .nil => .nil
  | _, _, i + 1, .cons _ r => dps_drop i r
theorem tup_take : ∀ {d : List PyData} (i : Nat), TupDs d → TupDs (d.take i)
  | _, 0, _ => by rw [List.take_zero]; exact trivial
  | [], _ + 1, _ => trivial
  | _ :: _, i + 1, h => ⟨h.1, tup_take i h.2⟩
theorem tup_drop : ∀ {d : List PyData} (i : Nat), TupDs d → TupDs (d.drop i)
  | _, 0, h => h
  | [], _ + 1, h => h
  | _ :: _, i + 1, h => tup_drop i h.2
/-- t[lo:hi], lo and hi within the tuple -/
theorem sliceA_dp {K : PySem.W.Frag} {H : Hp} {x : V} {d : List PyData} {Q : VK} {lo hi : Option Int} {i j : Nat} (hx : Dp K H x (.tuple d)) (td : TupDs d) (hi1 : HT.sIx d.length 0 lo = i) (hj : HT.sIx d.length d.length hi = j)
    (q : ∀ v H', Same H H' → Dp K H' v (.tuple ((d.drop i).take (j - i))) → Q v H') : rSlA K x lo hi H Q := by
  obtain ⟨a, xs, rfl, hs, ha, la⟩ := len_ok hx
  refine ⟨a, xs, rfl, hs, fun z => ?_, fun _ p hp => ?_⟩
  · rw [la, hi1, hj] at z
    rw [z.1, z.2] at q
    have e : (d.drop 0).take (d.length - 0) = d := by simp
    rw [e] at q
    exact q _ H (Same.refl H) (.tup hs ha)
  · have sp := same_new hp (.tup (cutV xs lo hi))
    refine q _ _ sp (.tup (SqT.of upd_same) ?_)
    have e : cutV xs lo hi = (xs.drop i).take (j - i) := by
      unfold cutV
      rw [la, hi1, hj]
    have h2 := dps_take (j - i) (dps_drop i ((Tk.same sp).dps _ td ha))
    rw [← e] at h2
    exact h2
theorem sIx_lo {n i : Nat} (h : i ≤ n) : HT.sIx n 0 (some (i : Int)) = i := by
  rw [HT.sIx_nat]; omega
theorem sIx_hi {n i : Nat} (h : i ≤ n) : HT.sIx n n (some (i : Int)) = i := by
  rw [HT.sIx_nat]; omega
theorem ds_take (b : List St) (i : Nat) : (ds b).take i = ds (b.take i) := by rw [ds_map, ds_map, List.map_take]
theorem ds_drop (b : List St) (i : Nat) : (ds b).drop i = ds (b.drop i) := by rw [ds_map, ds_map, List.map_drop]
theorem dss_take (b : List (List St)) (i : Nat) : (dss b).take i = dss (b.take i) := by rw [dss_map, dss_map, List.map_take]
theorem dss_drop (b : List (List St)) (i : Nat) : (dss b).drop i = dss (b.drop i) := by rw [dss_map, dss_map, List.map_drop]
theorem ds_app (a b : List St) : ds (a ++ b) = ds a ++ ds b := by rw [ds_map, ds_map, ds_map, List.map_append]
theorem dss_app (a b : List (List St)) : dss (a ++ b) = dss a ++ dss b := by rw [dss_map, dss_map, dss_map, List.map_append]
theorem Kp.none {as : List Addr} {H H' : Hp} {p : Addr} (k : Kp as H H') (n : p ∉ as) (h : H' p = none) : H p = none := by
  cases e : H p with
  | none => rfl
  | some o => rw [k _ _ n e] at h; cases h
theorem kp_new {as : List Addr} {H H' : Hp} {p : Addr} {o : HO} (k : Kp as H H') (h : H p = Option.none) : Kp as H (L2.upd H' p o) := fun q o' n e => by
  rw [upd_ne (fun z => by rw [z, h] at e; cases e)]
  exact k _ _ n e
theorem slFrom {K : PySem.W.Frag} {H : Hp} {x : V} {d : List PyData} {Q : VK} {i : Nat} (hx : Dp K H x (.tuple d)) (td : TupDs d) (h : i ≤ d.length) (q : ∀ v H', Same H H' → Dp K H' v (.tuple (d.drop i)) → Q v H') : rSlA K x (some (i : Int)) none H Q :=
  sliceA_dp (i := i) (j := d.length) hx td (sIx_lo h) rfl fun v H' s hv => q v H' s (by rw [List.take_of_length_le (by rw [List.length_drop]; exact Nat.le_refl _)] at hv; exact hv)
theorem oks_any {A B : List Str} {s1 : Bool} (s2 : Bool) {b : List St} (h : oks A B s1 b) : oks A B s2 b := oks_mono (fun _ h => h) (fun _ h => h) s2 b s1 h
def St.isO : St → Bool
  | .ch _ | .lp _ | .en _ _ => true
  | _ => false
end K00


set_option Elab.async false
set_option linter.all false
set_option maxRecDepth 100000
set_option maxHeartbeats 8000000
namespace K00
open PySem PySem.Spec PyProof.Rows L2
/-! ### the words of a text -/
def obr : Str := "{"
def cbr : Str := "}"
def smc : Str := ";"
mutual
def St.tk : St → List Str
  | .dd x => ["do", x, smc]
  | .ud x => ["undo", x, smc]
  | .cl x => ["call", x, smc]
  | .ch bs => "choose" :: tkE "or" 0 bs
  | .lp b => "loop" :: obr :: (tks b ++ [cbr])
  | .rt => ["return", smc]
  | .en b c => "ensure" :: obr :: (tks b ++ cbr :: "finally" :: obr :: (tks c ++ [cbr]))
def tks : List St → List Str
  | [] => []
  | s :: r => s.tk ++ tks r
/-- bodies, each but the first with the word ahead of it -/
def tkE (sep : Str) : Nat → List (List St) → List Str
  | _, [] => []
  | j, b :: r => (if j = 0 then [] else [sep]) ++ (obr :: (tks b ++ cbr :: tkE sep (j + 1) r))
end
def btk (b : List St) : List Str := obr :: (tks b ++ [cbr])
def St.sep : St → Str
  | .ch _ => "or"
  | _ => "finally"
theorem sep_eq : ∀ s : St, (if decide (s.w = "choose") = true then ("or" : Str) else "finally") = s.sep
  | .dd _ => (by decide +kernel : (if decide (("do" : Str) = "choose") = true then ("or" : Str) else "finally") = "finally")
  | .ud _ => (by decide +kernel : (if decide (("undo" : Str) = "choose") = true then ("or" : Str) else "finally") = "finally")
  | .cl _ => (by decide +kernel : (if decide (("call" : Str) = "choose") = true then ("or" : Str) else "finally") = "finally")
  | .ch _ => (by decide +kernel : (if decide (("choose" : Str) = "choose") = true then ("or" : Str) else "finally") = "or")
  | .lp _ => (by decide +kernel : (if decide (("loop" : Str) = "choose") = true then ("or" : Str) else "finally") = "finally")
  | .rt => (by decide +kernel : (if decide (("return" : Str) = "choose") = true then ("or" : Str) else "finally") = "finally")
  | .en _ _ => (by decide +kernel : (if decide (("ensure" : Str) = "choose") = true then ("or" : Str) else "finally") = "finally")
/-- the words behind the first one, of a statement without bodies -/
def St.tl : St → List Str
  | .dd x => [x]
  | .ud x => [x]
  | .cl x => [x]
  | _ => []
theorem tk_plain : ∀ {s : St}, s.isO = false → s.tk = s.w :: (s.tl ++ [smc]) ∧ s.bs = [] ∧ s.d = .tuple ((s.w :: s.tl).map PyData.str)
  | .dd _, _ | .ud _, _ | .cl _, _ | .rt, _ => ⟨rfl, rfl, rfl⟩
  | .ch _, h | .lp _, h | .en _ _, h => by cases h
theorem tk_bodies : ∀ {s : St}, s.isO = true → s.tk = s.w :: tkE s.sep 0 s.bs
  | .ch bs, _ => by rw [St.tk]; rfl
  | .lp b, _ => by rw [St.tk]; simp [St.bs, tkE, St.w]
  | .en b c, _ => by rw [St.tk]; simp [St.bs, tkE, St.w, St.sep]
  | .dd _, h | .ud _, h | .cl _, h | .rt, h => by cases h
theorem tks_take : ∀ {b : List St} {i : Nat} {s : St}, b[i]? = some s → tks (b.take (i + 1)) = tks (b.take i) ++ s.tk
  | [], i, s, h => by simp at h
  | x :: r, 0, s, h => by
    simp at h
    subst h
    simp [tks]
  | x :: r, i + 1, s, h => by
    have := tks_take (b := r) (i := i) (s := s) (by simpa using h)
    rw [List.take_succ_cons, List.take_succ_cons, tks, tks, this, List.append_assoc]
theorem tkE_take (sep : Str) : ∀ {bs : List (List St)} {j : Nat} {b : List St} (k : Nat), bs[j]? = some b → tkE sep k (bs.take (j + 1)) = tkE sep k (bs.take j) ++ ((if k + j = 0 then [] else [sep]) ++ btk b)
  | [], j, b, k, h => by simp at h
  | x :: r, 0, b, k, h => by
    simp at h
    subst h
    simp [tkE, btk]
  | x :: r, j + 1, b, k, h => by
    have := tkE_take sep (bs := r) (j := j) (b := b) (k + 1) (by simpa using h)
    rw [List.take_succ_cons, List.take_succ_cons, tkE, tkE, this, show k + 1 + j = k + (j + 1) by omega]
    simp
mutual
theorem tk_len {A B : List Str} : ∀ (s : St) (sec : Bool), s.ok A B sec → s.tk.length ≤ 19 * s.n
  | .dd _, _, _ | .ud _, _, _ | .cl _, _, _ | .rt, _, _ => by simp [St.tk, St.n]
  | .ch bs, sec, h => by
    have := tkE_len "or" 0 bs sec h.2.2
    have := h.2.1
    rw [St.tk, List.length_cons, St.n]
    omega
  | .lp b, sec, h => by
    have := tks_len b sec h
    rw [St.tk, St.n]
    simp only [List.length_cons, List.length_append, List.length_nil]
    omega
  | .en b c, sec, h => by
    have := tks_len b sec h.1
    have := tks_len c true h.2
    rw [St.tk, St.n]
    simp only [List.length_cons, List.length_append, List.length_nil]
    omega
theorem tks_len {A B : List Str} : ∀ (b : List St) (sec : Bool), oks A B sec b → (tks b).length ≤ 19 * ns b
  | [], _, _ => by simp [tks]
  | s :: r, sec, h => by
    have := tk_len s sec h.1
    have := tks_len r sec h.2
    rw [tks, List.length_append, ns]
    omega
theorem tkE_len {A B : List Str} (sep : Str) : ∀ (j : Nat) (b : List (List St)) (sec : Bool), okss A B sec b → (tkE sep j b).length ≤ 3 * b.length + 19 * nss b
  | _, [], _, _ => by simp [tkE]
  | j, s :: r, sec, h => by
    have := tks_len s sec h.1
    have := tkE_len sep (j + 1) r sec h.2
    rw [tkE, nss]
    have h1 : ((if j = 0 then [] else [sep] : List Str)).length ≤ 1 := by split <;> simp
    simp only [List.length_append, List.length_cons]
    omega
end
theorem tkE_app (sep : Str) : ∀ (a b : List (List St)) (k : Nat), tkE sep k (a ++ b) = tkE sep k a ++ tkE sep (k + a.length) b
  | [], b, k => rfl
  | x :: r, b, k => by
    rw [List.cons_append, tkE, tkE, tkE_app sep r b (k + 1), show k + 1 + r.length = k + (x :: r).length by simp; omega]
    simp
theorem tkE_le (sep : Str) (k : Nat) (b : List (List St)) (j : Nat) : (tkE sep k (b.take j)).length ≤ (tkE sep k b).length := by
  conv => rhs; rw [← List.take_append_drop j b, tkE_app, List.length_append]
  omega
theorem tks_app : ∀ a b : List St, tks (a ++ b) = tks a ++ tks b
  | [], b => rfl
  | x :: r, b => by rw [List.cons_append, tks, tks, tks_app r b, List.append_assoc]
/-- a program's words -/
def ptk (L : List Str) (P : List (Str × List St)) : List Str := "letters" :: (L ++ smc :: P.flatMap fun p => "proc" :: p.1 :: btk p.2)
theorem st_cells {K : PySem.W.Frag} {H : Hp} {v : V} {s : St} (h : Dp K H v s.d) : ∃ a xs, v = V.ref a ∧ SqT K H a xs ∧ atI xs 0 = some (.str s.w) := by
  cases s <;> (obtain ⟨a, xs, rfl, hs, ha, hl⟩ := len_ok h; cases ha with | cons h0 ha => cases h0; exact ⟨a, _, rfl, hs, at0 _ _⟩)
section
variable {P : Program} {w : World} {K : PySem.W.Frag} {mg : Str → Option Value} {base : Heap}

def spWB (K : PySem.W.Frag) (n : Nat) : Sp := fun vs H Q _ => ∃ v F acc b A B, vs = [v, .ref F] ∧ Dp K H v (.tuple (ds b)) ∧ ks b < n ∧ oks A B false b ∧ H F = some (.lst (acc.map V.str)) ∧ acc.length + (btk b).length ≤ 10000 ∧
  ∀ H', H' F = some (.lst ((acc ++ btk b).map V.str)) → Tk H H' → Kp [F] H H' → Q .non H'
def spWS (K : PySem.W.Frag) (n : Nat) : Sp := fun vs H Q _ => ∃ v F acc s A B, vs = [v, .ref F] ∧ Dp K H v (St.d s) ∧ s.k ≤ n ∧ s.ok A B false ∧ H F = some (.lst (acc.map V.str)) ∧ acc.length + s.tk.length ≤ 10000 ∧
  ∀ H', H' F = some (.lst ((acc ++ s.tk).map V.str)) → Tk H H' → Kp [F] H H' → Q .non H'
theorem sc__write_body : FnScope ["body", "words", "statement"] ["body", "words"] (C8.fnScope (topS 45)) := C8.fnScope_by (by decide +kernel)
theorem sc__write_statement : FnScope ["statement", "words", "bodies", "at", "body"] ["statement", "words"] (C8.fnScope (topS 46)) := C8.fnScope_by (by decide +kernel)
theorem app_str {H : Hp} {F : Addr} {acc : List Str} {x : Str} {ys : List Str} {o : HO} (e : ys = acc ++ [x]) (h : o = .lst (acc.map V.str ++ [.str x])) : upd H F o F = some (.lst (ys.map V.str)) := by
  rw [upd_same, h, e, List.map_append]
  rfl
theorem ok_wb {n e : Nat} {f : Addr} {fd : FuncData} (F : C8.Def K mg "_write_body" (topS 45) f fd) (b : Binds K fd ["body", "words"] []) (B : Bl K mg) (c_ws : C8.Cal P w K mg base e "_write_statement" (spWS K n) []) (he : 1 ≤ e) : C8.Cal P w K mg base (e + 1) "_write_body" (spWB K (n + 1)) [] := by
  refine C8.cal0 F b .nil sc__write_body ?len ?body
  case len => rintro vs H Q E ⟨v, F, acc, b, AL, BN, rfl, _⟩; rfl
  case body =>
    rintro cdv A outer s H vs Q E hr ⟨v, F, acc, b, AL, BN, rfl, hd, hk, hok, hF, hl, q⟩
    refine ⟨_, (pss_cons (ps_expr (pe_bm PySem.F.plainAttrs_list PySem.F.slot_list_append PySem.F.type_list_append mt_append (pv 1) (pa_cons pe_str pa_nil)))
    (pss_cons (ps_for PassesOwn.never rfl (pi_tup (pv 0)) (pg_name (i := 2) sc__write_body.nd rfl (Or.inl rfl))
    (pss_one (ps_expr (C8.pe_c c_ws hr (by omega) rfl (pa_cons (pv 2) (pa_cons (pv 1) pa_nil))))))
    (pss_one (ps_expr (pe_bm PySem.F.plainAttrs_list PySem.F.slot_list_append PySem.F.type_list_append mt_append (pv 1) (pa_cons pe_str pa_nil)))))), ?_⟩
    obtain ⟨a, xs, rfl, hs, ha, hxl⟩ := len_ok hd
    rw [ds_len] at hxl
    have hbl : (btk b).length = 2 + (tks b).length := by unfold btk; simp; omega
    refine ⟨_, rfl, .inl ⟨rfl, _, SqL.of hF⟩, F, _, _, rfl, rfl, hF, Nat.lt_of_le_of_lt (show (acc.map V.str).length ≤ 10000 by rw [List.length_map]; omega) (by decide), ?_⟩
    have t1 := Tk.put hF (.lst (acc.map V.str ++ [.str "{"]))
    have k1 : Kp [F] H (upd H F (.lst (acc.map V.str ++ [.str "{"]))) := Kp.put _ (by simp)
    have hF1 : upd H F (.lst (acc.map V.str ++ [.str "{"])) F = some (.lst ((acc ++ [obr]).map V.str)) := app_str rfl rfl
    show (fun H3 => _) (upd H F (.lst (acc.map V.str ++ [.str "{"])))
    generalize upd H F (.lst (acc.map V.str ++ [.str "{"])) = H1 at t1 k1 hF1
    refine ⟨_, rfl, a, rfl, ⟨_, t1.sqt hs⟩, ?_⟩
    refine for_tup (xs := xs) (fun i σ H' => ∃ b2, σ = [some (.ref a), some (.ref F), b2] ∧ H' F = some (.lst ((acc ++ [obr] ++ tks (b.take i)).map V.str)) ∧ Tk H H' ∧ Kp [F] H H') ⟨none, rfl, by simpa [tks] using hF1, t1, k1⟩ ?_ ?_ ?_
    · rintro i σ H' _ ⟨_, _, _, t, _⟩
      exact t.sqt hs
    · rintro i x _ H2 hx ⟨b2, rfl, hF2, t2, k2⟩
      obtain ⟨dd, hdd, hdp⟩ := dps_get' ha hx
      obtain ⟨st, hst, rfl⟩ := ds_get hdd
      have hsm : st ∈ b := List.mem_of_getElem? hst
      have hsk := ks_mem hsm
      have htk := tks_take hst
      have hle : (tks (b.take (i + 1))).length ≤ (tks b).length := by
        conv => rhs; rw [← List.take_append_drop (i + 1) b]
        rw [tks_app, List.length_append]
        omega
      rw [htk, List.length_append] at hle
      refine ⟨_, rfl, _, rfl, x, F, acc ++ [obr] ++ tks (b.take i), st, AL, BN, rfl, t2.dp _ (tup_St st) hdp, by omega, oks_iff.mp hok st hsm, hF2, by simp only [List.length_append, List.length_cons, List.length_nil]; omega, fun H3 hF3 t3 k3 => ?_⟩
      exact ⟨_, rfl, by rw [htk]; simpa using hF3, t2.trans t3, k2.trans k3⟩
    · rintro σ H2 ⟨b2, rfl, hF2, t2, k2⟩
      rw [hxl, List.take_length] at hF2
      refine ⟨_, rfl, .inl ⟨rfl, _, SqL.of hF2⟩, F, _, _, rfl, rfl, hF2, Nat.lt_of_le_of_lt (show _ ≤ 10000 by rw [List.length_map]; simp only [List.length_append, List.length_cons, List.length_nil]; omega) (by decide), ?_⟩
      refine q _ (app_str ?_ rfl) (t2.trans (Tk.put hF2 _)) (k2.trans (Kp.put _ (by simp)))
      unfold btk
      simp
      rfl
theorem ok_ws {n e : Nat} {f : Addr} {fd : FuncData} (F : C8.Def K mg "_write_statement" (topS 46) f fd) (b : Binds K fd ["statement", "words"] []) (B : Bl K mg) (c_bodies_of : C8.Cal P w K mg base 1 "bodies_of" (spBod K) []) (c_wb : C8.Cal P w K mg base e "_write_body" (spWB K n) []) (he : 1 ≤ e) : C8.Cal P w K mg base (e + 1) "_write_statement" (spWS K n) [] := by
  refine C8.cal0 F b .nil sc__write_statement ?len ?body
  case len => rintro vs H Q E ⟨v, F, acc, b, AL, BN, rfl, _⟩; rfl
  case body =>
    rintro cdv A outer s H vs Q E hr ⟨v, F, acc, st, AL, BN, rfl, hd, hk, hok, hF, hl, q⟩
    refine ⟨_, (pss_cons (ps_expr (pe_bm PySem.F.plainAttrs_list PySem.F.slot_list_append PySem.F.type_list_append mt_append (pv 1) (pa_cons (pe_ix ix_tup (pv 0) pe_int (fun _ _ => rfl)) pa_nil)))
    (pss_cons (ps_set (i := 2) sc__write_statement.nd rfl (Or.inl rfl) (C8.pe_c c_bodies_of hr (by omega) rfl (pa_cons (pv 0) pa_nil)))
    (C8.pss_cut (ps_if (pt_not (pt_truth (pv 2) (by intro _; rfl))) (pss_one (ps_expr (pe_bm PySem.F.plainAttrs_list PySem.F.slot_list_extend PySem.F.type_list_extend mt_extend (pv 1) (pa_cons (pe_lst (StX.pa_star (pe_slice sl_tupA (pv 0) (po_some pe_int) po_none) (pa_cons pe_str pa_nil))) pa_nil)))) pss_nil)
    (pss_one (ps_for PassesOwn.never rfl (UG.pi_enumT rfl B.enumerate (pa_cons (pv 2) pa_nil)) (pg_tup rfl (pgs_cons (pg_name (i := 3) sc__write_statement.nd rfl (Or.inl rfl)) (pgs_cons (pg_name (i := 4) sc__write_statement.nd rfl (Or.inl rfl)) pgs_nil)))
    (pss_cons (ps_if (pt_cmpR op_gt (pv 3) pe_int (nomark _)) (pss_one (ps_expr (pe_bm PySem.F.plainAttrs_list PySem.F.slot_list_append PySem.F.type_list_append mt_append (pv 1) (pa_cons (pe_ifExp (pt_cmpR op_eq (pe_ix ix_tup (pv 0) pe_int (fun _ _ => rfl)) pe_str (nomark _)) pe_str pe_str) pa_nil)))) pss_nil)
    (pss_one (ps_expr (C8.pe_c c_wb hr (by omega) rfl (pa_cons (pv 4) (pa_cons (pv 1) pa_nil))))))))))), ?_⟩
    obtain ⟨a, xs, rfl, hs, hs0⟩ := st_cells hd
    have hnm : acc.length + 1 ≤ 10000 := by
      have : 1 ≤ st.tk.length := by
        cases h : st.isO with
        | true => rw [tk_bodies h]; simp
        | false => rw [(tk_plain h).1]; simp
      omega
    refine ⟨_, rfl, .inl ⟨rfl, _, SqL.of hF⟩, _, rfl, _, _, _, _, rfl, rfl, hs, hs0, F, _, _, rfl, rfl, hF, Nat.lt_of_le_of_lt (show (acc.map V.str).length ≤ 10000 by rw [List.length_map]; omega) (by decide), ?_⟩
    have t1 := Tk.put hF (.lst (acc.map V.str ++ [.str st.w]))
    have k1 : Kp [F] H (upd H F (.lst (acc.map V.str ++ [.str st.w]))) := Kp.put _ (by simp)
    have hF1 : upd H F (.lst (acc.map V.str ++ [.str st.w])) F = some (.lst ((acc ++ [st.w]).map V.str)) := app_str rfl rfl
    show (fun H3 => _) (upd H F (.lst (acc.map V.str ++ [.str st.w])))
    generalize upd H F (.lst (acc.map V.str ++ [.str st.w])) = H1 at t1 k1 hF1
    refine ⟨_, rfl, .ref a, st, rfl, t1.dp _ (tup_St st) hd, fun v' H2 s2 hb2 => ?_⟩
    obtain ⟨ba, bxs, rfl, hbs, hba, hbl⟩ := len_ok hb2
    rw [dss_len] at hbl
    have t2 := t1.trans (Tk.same s2)
    have k2 : Kp [F] H H2 := k1.trans (Kp.of_same s2)
    have hF2 := s2 _ _ hF1
    refine ⟨fun σ' H' => ∃ pre, σ' = [some (.ref a), some (.ref F), some (.ref ba), none, none] ∧ H' F = some (.lst ((acc ++ [st.w] ++ pre).map V.str)) ∧ acc ++ [st.w] ++ pre ++ tkE st.sep 0 st.bs = acc ++ st.tk ∧ Tk H2 H' ∧ Kp [F] H H', ?_, ?_⟩
    · refine ⟨_, rfl, _, .inr (.inl ⟨_, hbs, rfl⟩), ?_⟩
      cases h : st.isO with
      | true =>
        have hb1 : bxs.isEmpty = false := by
          cases bxs with
          | cons _ _ => rfl
          | nil =>
            cases st with
            | ch bs => have := hok.1; simp [St.bs] at hbl; omega
            | lp _ => simp [St.bs] at hbl
            | en _ _ => simp [St.bs] at hbl
            | dd _ => cases h
            | ud _ => cases h
            | cl _ => cases h
            | rt => cases h
        rw [hb1]
        exact ifF rfl ⟨[], rfl, by simpa using hF2, by rw [tk_bodies h]; simp, Tk.refl _, k2⟩
      | false =>
        obtain ⟨e1, e2, e3⟩ := tk_plain h
        have hb1 : bxs.isEmpty = true := by
          rw [e2] at hbl
          cases bxs with
          | nil => rfl
          | cons _ _ => simp at hbl
        rw [hb1]
        have hdw := t2.dp _ (tup_St st) hd
        rw [e3] at hdw
        have hl4 : st.tl.length ≤ 1 := by cases st <;> simp [St.tl]
        refine ifT rfl ⟨_, rfl, .inl ⟨rfl, _, SqL.of hF2⟩, _, rfl, 1, rfl, ?_⟩
        dsimp only [tNoPart]
        refine slFrom (i := 1) hdw (tup_strs _) (by simp) fun vC H3 s3 hC => ?_
        rw [List.map_cons, List.drop_succ_cons, List.drop_zero] at hC
        obtain ⟨ca, cxs, rfl, hcs, hca, hcl⟩ := len_ok hC
        cases strs_vals hca
        refine ⟨ca, _, rfl, .inl hcs, Nat.le_trans (show _ ≤ 2 by rw [List.length_append, List.length_map]; simp; omega) (by decide), fun p hp => ?_⟩
        have sp := same_new hp (.lst (st.tl.map V.str ++ [.str ";"]))
        have hF3 := (s3.trans sp) _ _ hF2
        refine ⟨F, p, _, _, rfl, rfl, hF3, upd_same, Nat.le_trans (show _ ≤ 20000 by rw [List.length_map, List.length_append, List.length_append, List.length_map]; simp; omega) (by decide), ?_⟩
        refine ⟨st.tl ++ [smc], rfl, ?_, by rw [e1, e2]; simp [tkE], (Tk.same (s3.trans sp)).trans (Tk.put hF3 _), k2.trans ((Kp.of_same (s3.trans sp)).trans (Kp.put _ (by simp)))⟩
        rw [upd_same]
        simp only [List.map_append]
        rfl
    · rintro _ H3 ⟨pre, rfl, hF3, etk, t3, k3⟩
      refine ⟨_, rfl, ba, _, rfl, t3.sqt hbs, ?_⟩
      have hdb3 := t3.dp (.tuple (dss st.bs)) (tup_dss _) (.tup hbs hba)
      have etl : acc.length + 1 + pre.length + (tkE st.sep 0 st.bs).length ≤ 10000 := by
        have := congrArg List.length etk
        simp only [List.length_append, List.length_cons, List.length_nil] at this
        omega
      refine for_enumT (xs := bxs) (fun j σ H' => ∃ b4 b5, σ = [some (.ref a), some (.ref F), some (.ref ba), b4, b5] ∧ H' F = some (.lst ((acc ++ [st.w] ++ pre ++ tkE st.sep 0 (st.bs.take j)).map V.str)) ∧ Tk H3 H' ∧ Kp [F] H H') ⟨none, none, rfl, by simpa [tkE] using hF3, Tk.refl _, k3⟩ ?_ ?_ ?_
      · rintro j σ H' _ ⟨_, _, _, _, t, _⟩
        exact (t3.trans t).sqt hbs
      · rintro j y _ H4 Tp hy ⟨b4, b5, rfl, hF4, t4, k4⟩ hTp
        obtain ⟨dd2, hdd2, hdp2⟩ := dps_get' hba hy
        obtain ⟨b2, hb2', rfl⟩ := dss_get hdd2
        have sT := same_new hTp (.tup [.int (j : Nat), y])
        refine ⟨Tp, _, rfl, SqT.of upd_same, rfl, _, _, rfl, _, _, rfl, rfl, ?_⟩
        have hF5 := sT _ _ hF4
        have t5 := t4.trans (Tk.same sT)
        have k5 := k4.trans (Kp.of_same (as := [F]) sT)
        generalize upd H4 Tp (.tup [.int (j : Nat), y]) = H5 at hF5 t5 k5
        have htk := tkE_take st.sep 0 hb2'
        rw [Nat.zero_add] at htk
        have hle : (tkE st.sep 0 (st.bs.take (j + 1))).length ≤ (tkE st.sep 0 st.bs).length := tkE_le _ _ _ _
        have hkb := bs_k hb2'
        rw [htk] at hle
        simp only [List.length_append] at hle
        have hob : oks AL BN false b2 := by
          obtain ⟨sec', ho⟩ := ok_bs hok b2 (List.mem_of_getElem? hb2')
          exact oks_any false ho
        have fin : ∀ (H6 : Hp) (pr : List Str), H6 F = some (.lst ((acc ++ [st.w] ++ pre ++ tkE st.sep 0 (st.bs.take j) ++ pr).map V.str)) → pr = (if j = 0 then [] else [st.sep]) → Tk H5 H6 → Kp [F] H5 H6 → spWB K n [y, .ref F] H6 (fun _ H' => ∃ b4 b5, ([some (.ref a), some (.ref F), some (.ref ba), some (.int (j : Int)), some y] : L2.St) = [some (.ref a), some (.ref F), some (.ref ba), b4, b5] ∧ H' F = some (.lst ((acc ++ [st.w] ++ pre ++ tkE st.sep 0 (st.bs.take (j + 1))).map V.str)) ∧ Tk H3 H' ∧ Kp [F] H H') C8.E0 := fun H6 pr hF6 epr t6 k6 => by
          subst epr
          refine ⟨y, F, _, b2, AL, BN, rfl, ((t3.trans t5).trans t6).dp (.tuple (ds b2)) (tup_ds b2) hdp2, by omega, hob, hF6, by simp only [List.length_append, List.length_cons, List.length_nil]; omega, fun H7 hF7 t7 k7 => ?_⟩
          refine ⟨_, _, rfl, ?_, t5.trans (t6.trans t7), k5.trans (k6.trans k7)⟩
          rw [htk, ← List.append_assoc, ← List.append_assoc]
          exact hF7
        refine ⟨_, rfl, _, _, rfl, rfl, _, rfl, ?_⟩
        by_cases hj : (0 : Int) < (j : Nat)
        · rw [decide_eq_true hj]
          have hj0 : ¬ j = 0 := by omega
          have hs5 := (t2.trans (t3.trans t5)).sqt hs
          rw [if_neg hj0] at hle htk
          refine iteT ⟨_, rfl, .inl ⟨rfl, _, SqL.of hF5⟩, _, rfl, _, _, _, _, rfl, rfl, hs5, hs0, rfl, _, rfl, ?_⟩
          rw [dec_str]
          have hsz : ((acc ++ [st.w] ++ pre ++ tkE st.sep 0 (st.bs.take j)).map V.str).length < sizeLine := Nat.lt_of_le_of_lt (show _ ≤ 10000 by rw [List.length_map]; simp only [List.length_append, List.length_cons, List.length_nil]; omega) (by decide)
          have es := sep_eq st
          by_cases hw : decide (st.w = "choose") = true
          · rw [if_pos hw] at es
            refine ifT hw ⟨F, _, _, rfl, rfl, hF5, hsz, ?_⟩
            exact ⟨_, rfl, _, rfl, fin _ [st.sep] (app_str rfl (by rw [← es])) (by rw [if_neg hj0]) (Tk.put hF5 _) (Kp.put _ (by simp))⟩
          · rw [if_neg hw] at es
            refine ifF (by simpa using hw) ⟨F, _, _, rfl, rfl, hF5, hsz, ?_⟩
            exact ⟨_, rfl, _, rfl, fin _ [st.sep] (app_str rfl (by rw [← es])) (by rw [if_neg hj0]) (Tk.put hF5 _) (Kp.put _ (by simp))⟩
        · rw [decide_eq_false hj]
          have hj0 : j = 0 := by omega
          exact iteF ⟨_, rfl, _, rfl, fin H5 [] (by rw [List.append_nil]; exact hF5) (by rw [if_pos hj0]) (Tk.refl _) (Kp.refl _)⟩
      · rintro σ H4 ⟨b4, b5, rfl, hF4, t4, k4⟩
        rw [hbl, List.take_length, etk] at hF4
        exact q H4 hF4 ((t2.trans t3).trans t4) k4
theorem wb_all {fb fs : Addr} {fdb fds : FuncData} (Fb : C8.Def K mg "_write_body" (topS 45) fb fdb) (bb : Binds K fdb ["body", "words"] []) (Fs : C8.Def K mg "_write_statement" (topS 46) fs fds) (bs : Binds K fds ["statement", "words"] []) (B : Bl K mg) (c_bodies_of : C8.Cal P w K mg base 1 "bodies_of" (spBod K) []) : ∀ n : Nat, C8.Cal P w K mg base (2 * n + 2) "_write_body" (spWB K n) []
  | 0 => by
    refine C8.cal0 Fb bb .nil sc__write_body ?len ?body
    case len => rintro vs H Q E ⟨_, _, _, _, _, _, rfl, _⟩; rfl
    case body => rintro cdv A outer s H vs Q E hr ⟨_, _, _, _, _, _, _, _, h, _⟩; exact absurd h (Nat.not_lt_zero _)
  | n + 1 => ok_wb Fb bb B (ok_ws Fs bs B c_bodies_of (wb_all Fb bb Fs bs B c_bodies_of n) (by omega)) (by omega)
/-- what the text is: the program's words, with blanks between them -/
def textOf (L : List Str) (P : List (Str × List St)) : Str := Str.join " " (ptk L P)
def spWP (K : PySem.W.Frag) (Ts : List Addr) : Sp := fun vs H Q _ => ∃ v L P AL BN, vs = [v] ∧ Dp K H v (progD L P) ∧ Prog L P AL BN ∧ Tbs Ts H ∧ ∀ H', Go Ts H H' → Q (.str (textOf L P)) H'
theorem btk_len {A B : List Str} {b : List St} {sec : Bool} (h : oks A B sec b) : (btk b).length ≤ 2 + 19 * ns b := by
  have := tks_len b sec h
  unfold btk
  simp only [List.length_cons, List.length_append, List.length_nil]
  omega
/-- the words of procedures -/
def rtk (P : List (Str × List St)) : List Str := P.flatMap fun p => "proc" :: p.1 :: btk p.2
theorem rtk_len {A B : List Str} : ∀ {P : List (Str × List St)}, (∀ b ∈ nsP P, oks A B false b) → (rtk P).length ≤ 4 * P.length + 19 * nss (nsP P)
  | [], _ => by simp [rtk, nsP, nss]
  | p :: r, h => by
    have h1 := btk_len (h p.2 (by simp [nsP]))
    have h2 := rtk_len (P := r) fun b hb => h b (by unfold nsP at hb ⊢; exact List.mem_cons_of_mem _ hb)
    unfold rtk at h2 ⊢
    unfold nsP at h2 ⊢
    rw [List.flatMap_cons, List.length_append, List.map_cons, nss]
    simp only [List.length_cons] at h1 h2 ⊢
    omega
theorem rtk_take {P : List (Str × List St)} {i : Nat} {p : Str × List St} (h : P[i]? = some p) : rtk (P.take (i + 1)) = rtk (P.take i) ++ (["proc", p.1] : List Str) ++ btk p.2 := by
  unfold rtk
  rw [List.take_succ, h]
  simp
theorem rtk_le (P : List (Str × List St)) (i : Nat) : (rtk (P.take i)).length ≤ (rtk P).length := by
  conv => rhs; rw [← List.take_append_drop i P]; unfold rtk; rw [List.flatMap_append, List.length_append]
  unfold rtk
  omega
/-- the words of the language, and the signs -/
def fixW : List Str := ["do", "undo", "call", "return", "choose", "loop", "ensure", "or", "finally", obr, cbr, smc, "letters", "proc"]
/-- what holds of all words -/
structure Wd (R : Str → Prop) : Prop where
  fix : ∀ x ∈ fixW, R x
  name : ∀ x, nameB x = true → R x
mutual
theorem tk_sh {A B : List Str} {R : Str → Prop} (hR : Wd R) (hA : Nok A) (hB : Nok B) : ∀ (s : St) (sec : Bool), s.ok A B sec → ∀ x ∈ s.tk, R x
  | .dd y, _, h => by
    intro x hx
    simp only [St.tk, List.mem_cons, List.not_mem_nil, or_false] at hx
    rcases hx with rfl | rfl | rfl
    · exact hR.fix _ (by decide +kernel)
    · exact hR.name _ (hA _ h)
    · exact hR.fix _ (by decide +kernel)
  | .ud y, _, h => by
    intro x hx
    simp only [St.tk, List.mem_cons, List.not_mem_nil, or_false] at hx
    rcases hx with rfl | rfl | rfl
    · exact hR.fix _ (by decide +kernel)
    · exact hR.name _ (hA _ h)
    · exact hR.fix _ (by decide +kernel)
  | .cl y, _, h => by
    intro x hx
    simp only [St.tk, List.mem_cons, List.not_mem_nil, or_false] at hx
    rcases hx with rfl | rfl | rfl
    · exact hR.fix _ (by decide +kernel)
    · exact hR.name _ (hB _ h)
    · exact hR.fix _ (by decide +kernel)
  | .rt, _, _ => by
    intro x hx
    simp only [St.tk, List.mem_cons, List.not_mem_nil, or_false] at hx
    rcases hx with rfl | rfl
    · exact hR.fix _ (by decide +kernel)
    · exact hR.fix _ (by decide +kernel)
  | .ch bs, sec, h => by
    intro x hx
    rw [St.tk] at hx
    rcases List.mem_cons.mp hx with rfl | hx
    · exact hR.fix _ (by decide +kernel)
    · exact tkE_sh hR hA hB (hR.fix _ (by decide +kernel)) 0 bs sec h.2.2 x hx
  | .lp b, sec, h => by
    intro x hx
    simp only [St.tk, List.mem_cons, List.mem_append, List.not_mem_nil, or_false] at hx
    rcases hx with rfl | rfl | hx | rfl
    · exact hR.fix _ (by decide +kernel)
    · exact hR.fix _ (by decide +kernel)
    · exact tks_sh hR hA hB b sec h x hx
    · exact hR.fix _ (by decide +kernel)
  | .en b c, sec, h => by
    intro x hx
    simp only [St.tk, List.mem_cons, List.mem_append, List.not_mem_nil, or_false] at hx
    rcases hx with rfl | rfl | hx | rfl | rfl | rfl | hx | rfl
    · exact hR.fix _ (by decide +kernel)
    · exact hR.fix _ (by decide +kernel)
    · exact tks_sh hR hA hB b sec h.1 x hx
    · exact hR.fix _ (by decide +kernel)
    · exact hR.fix _ (by decide +kernel)
    · exact hR.fix _ (by decide +kernel)
    · exact tks_sh hR hA hB c true h.2 x hx
    · exact hR.fix _ (by decide +kernel)
theorem tks_sh {A B : List Str} {R : Str → Prop} (hR : Wd R) (hA : Nok A) (hB : Nok B) : ∀ (b : List St) (sec : Bool), oks A B sec b → ∀ x ∈ tks b, R x
  | [], _, _ => fun x hx => by simp [tks] at hx
  | s :: r, sec, h => fun x hx => by
    rw [tks] at hx
    exact (List.mem_append.mp hx).elim (tk_sh hR hA hB s sec h.1 x) (tks_sh hR hA hB r sec h.2 x)
theorem tkE_sh {A B : List Str} {R : Str → Prop} (hR : Wd R) (hA : Nok A) (hB : Nok B) {sep : Str} (hs : R sep) : ∀ (j : Nat) (b : List (List St)) (sec : Bool), okss A B sec b → ∀ x ∈ tkE sep j b, R x
  | _, [], _, _ => fun x hx => by simp [tkE] at hx
  | j, s :: r, sec, h => fun x hx => by
    rw [tkE] at hx
    rcases List.mem_append.mp hx with hx | hx
    · split at hx
      · cases hx
      · cases List.mem_singleton.mp hx
        exact hs
    · rcases List.mem_cons.mp hx with rfl | hx
      · exact hR.fix _ (by decide +kernel)
      · rcases List.mem_append.mp hx with hx | hx
        · exact tks_sh hR hA hB s sec h.1 x hx
        · rcases List.mem_cons.mp hx with rfl | hx
          · exact hR.fix _ (by decide +kernel)
          · exact tkE_sh hR hA hB hs (j + 1) r sec h.2 x hx
end
theorem ptk_all {L : List Str} {P : List (Str × List St)} {A B : List Str} {R : Str → Prop} (hR : Wd R) (h : Prog L P A B) : ∀ x ∈ ptk L P, R x := by
  intro x hx
  unfold ptk at hx
  rcases List.mem_cons.mp hx with rfl | hx
  · exact hR.fix _ (by decide +kernel)
  · rcases List.mem_append.mp hx with hx | hx
    · exact hR.name _ (h.okA _ (h.inA _ hx))
    · rcases List.mem_cons.mp hx with rfl | hx
      · exact hR.fix _ (by decide +kernel)
      · obtain ⟨p, hp, hx⟩ := List.mem_flatMap.mp hx
        have hb : p.2 ∈ nsP P := List.mem_map.mpr ⟨p, hp, rfl⟩
        rcases List.mem_cons.mp hx with rfl | hx
        · exact hR.fix _ (by decide +kernel)
        · rcases List.mem_cons.mp hx with rfl | hx
          · exact hR.name _ (h.okB _ (h.inB _ (List.mem_map.mpr ⟨p, hp, rfl⟩)))
          · unfold btk at hx
            rcases List.mem_cons.mp hx with rfl | hx
            · exact hR.fix _ (by decide +kernel)
            · rcases List.mem_append.mp hx with hx | hx
              · exact tks_sh hR h.okA h.okB _ _ (h.ok _ hb) x hx
              · cases List.mem_singleton.mp hx
                exact hR.fix _ (by decide +kernel)
def Sh (x : Str) : Prop := x.length ≤ 10
theorem wd_sh : Wd Sh := ⟨by unfold Sh; decide +kernel, fun x h => nameB_len h⟩
theorem ptk_sh {L : List Str} {P : List (Str × List St)} {A B : List Str} (h : Prog L P A B) : ∀ x ∈ ptk L P, Sh x := ptk_all wd_sh h
theorem sum_sh : ∀ {l : List Str}, (∀ x ∈ l, Sh x) → (l.map (·.length)).sum ≤ 10 * l.length
  | [], _ => by simp
  | x :: r, h => by
    have h1 : x.length ≤ 10 := h x (by simp)
    have h2 := sum_sh (l := r) fun y hy => h y (by simp [hy])
    simp only [List.map_cons, List.sum_cons, List.length_cons]
    omega
theorem ptk_eq (L : List Str) (P : List (Str × List St)) : ptk L P = (["letters"] : List Str) ++ L ++ [smc] ++ rtk P := by
  unfold ptk rtk
  simp
theorem sc_write_program : FnScope ["program", "letters", "procedures", "words", "name", "body"] ["program"] (C8.fnScope (topS 44)) := C8.fnScope_by (by decide +kernel)
theorem ok_write_program {Ts : List Addr} {f : Addr} {fd : FuncData} (F : C8.Def K mg "write_program" (topS 44) f fd) (b : Binds K fd ["program"] []) (B : Bl K mg) (c_want : C8.Cal P w K mg base 9 "want_program" (spWant K Ts) []) (c_wb : C8.Cal P w K mg base 28 "_write_body" (spWB K 13) []) : C8.Cal P w K mg base 29 "write_program" (spWP K Ts) [] := by
  refine C8.cal0 F b .nil sc_write_program ?len ?body
  case len => rintro vs H Q E ⟨v, L, Ps, AL, BN, rfl, _⟩; rfl
  case body =>
    rintro cdv A outer s H vs Q E hr ⟨v, L, Ps, AL, BN, rfl, hd, hP, hTb, q⟩
    refine ⟨_, (pss_cons (ps_expr (C8.pe_c c_want hr (by decide) rfl (pa_cons (pv 0) pa_nil)))
    (pss_cons (ps_asg (pv 0) (pg_tup rfl (pgs_cons (pg_name (i := 1) sc_write_program.nd rfl (Or.inl rfl)) (pgs_cons (pg_name (i := 2) sc_write_program.nd rfl (Or.inl rfl)) pgs_nil))))
    (pss_cons (ps_set (i := 3) sc_write_program.nd rfl (Or.inl rfl) (pe_lst (pa_cons pe_str (StX.pa_star (pv 1) (pa_cons pe_str pa_nil)))))
    (pss_cons (ps_for PassesOwn.never rfl (pi_tup (pv 2)) (pg_tup rfl (pgs_cons (pg_name (i := 4) sc_write_program.nd rfl (Or.inl rfl)) (pgs_cons (pg_name (i := 5) sc_write_program.nd rfl (Or.inl rfl)) pgs_nil)))
    (pss_cons (ps_expr (pe_bm PySem.F.plainAttrs_list PySem.F.slot_list_extend PySem.F.type_list_extend mt_extend (pv 3) (pa_cons (pe_lst (pa_cons pe_str (pa_cons (pv 4) pa_nil))) pa_nil)))
    (pss_one (ps_expr (C8.pe_c c_wb hr (by decide) rfl (pa_cons (pv 5) (pa_cons (pv 3) pa_nil)))))))
    (pss_one (ps_ret (pe_join pe_str (pv 3)))))))), ?_⟩
    refine ⟨_, rfl, v, L, Ps, AL, BN, rfl, hd, hP, hTb, fun H1 g1 => ?_⟩
    have hd1 := (Tk.go hTb g1).dp _ (tup_prog L Ps) hd
    obtain ⟨a, la, pv, rfl, hs, hls, hvP⟩ := PD.open hd1
    obtain ⟨pa, pxs, rfl, hps, hpa, hpl⟩ := len_ok hvP
    rw [List.length_map] at hpl
    have hl2 := hP.l2
    have hp2 := hP.p2
    have hnn := hP.n
    have hrl := rtk_len hP.ok
    refine ⟨_, rfl, a, _, rfl, hs, rfl, _, _, rfl, _, _, rfl, rfl, ?_⟩
    refine ⟨_, rfl, la, _, rfl, .inl hls, Nat.le_trans (show _ ≤ 22 by simp only [List.length_cons, List.length_append, List.length_map, List.length_nil]; omega) (by decide), fun F hF => ?_⟩
    have s2 := same_new hF (.lst (V.str "letters" :: (L.map V.str ++ [.str ";"])))
    have hF2 : upd H1 F (.lst (V.str "letters" :: (L.map V.str ++ [.str ";"]))) F = some (.lst (((["letters"] : List Str) ++ L ++ [smc]).map V.str)) := by
      rw [upd_same]
      simp only [List.map_append]
      rfl
    have nF : ∀ z o, H1 z = some o → z ≠ F := fun z o e q => by rw [q, hF] at e; cases e
    generalize upd H1 F (.lst (V.str "letters" :: (L.map V.str ++ [.str ";"]))) = H2 at s2 hF2
    have len4 : ∀ i, (rtk (Ps.take i)).length ≤ 3900 := fun i => by have := rtk_le Ps i; omega
    refine ⟨_, rfl, pa, rfl, ⟨_, (Tk.same s2).sqt hps⟩, ?_⟩
    refine for_tup (xs := pxs) (fun i σ H' => ∃ b4 b5, σ = [some (.ref a), some (.ref la), some (.ref pa), some (.ref F), b4, b5] ∧ H' F = some (.lst (((["letters"] : List Str) ++ L ++ [smc] ++ rtk (Ps.take i)).map V.str)) ∧ Tk H2 H' ∧ Kp [F] H2 H') ⟨none, none, rfl, by simpa [rtk] using hF2, Tk.refl _, Kp.refl _⟩ ?_ ?_ ?_
    · rintro i σ H' _ ⟨_, _, _, _, t, _⟩
      exact ((Tk.same s2).trans t).sqt hps
    · rintro i x _ H3 hx ⟨b4, b5, rfl, hF3, t3, k3⟩
      obtain ⟨d, hd, hdp⟩ := dps_get' hpa hx
      obtain ⟨p, hp, rfl⟩ := procs_get hd
      have hd3 := ((Tk.same s2).trans t3).dp _ (tup_proc p) hdp
      obtain ⟨qa, qxs, rfl, hqs, hqa, hql⟩ := len_ok hd3
      cases hqa with
      | @cons v0 _ _ _ h0 hqa =>
      cases h0
      cases hqa with
      | @cons v1 _ _ _ h1 hqa =>
      cases hqa
      have hbm : p.2 ∈ nsP Ps := List.mem_map.mpr ⟨p, List.mem_of_getElem? hp, rfl⟩
      have hk := kss_mem hbm
      have hk2 := hP.ks
      have htk := rtk_take hp
      have l1 := len4 i
      have l2 := len4 (i + 1)
      rw [htk] at l2
      simp only [List.length_append, List.length_cons, List.length_nil] at l2
      refine ⟨qa, _, rfl, hqs, rfl, _, _, rfl, _, _, rfl, rfl, ?_⟩
      refine ⟨_, rfl, .inl ⟨rfl, _, SqL.of hF3⟩, _, rfl, (by show 2 ≤ sizeLine; decide), fun z hz => ?_⟩
      have sz := same_new hz (.lst [.str "proc", .str p.1])
      have hF4 := sz _ _ hF3
      refine ⟨F, z, _, _, rfl, rfl, hF4, upd_same, Nat.le_trans (show _ ≤ 10000 by simp only [List.length_map, List.length_append, List.length_cons, List.length_nil]; omega) (by decide), ?_⟩
      have t4 := (Tk.same sz).trans (Tk.put hF4 (.lst (((["letters"] : List Str) ++ L ++ [smc] ++ rtk (Ps.take i)).map V.str ++ [.str "proc", .str p.1])))
      have k4 : Kp [F] H3 (upd (upd H3 z (.lst [.str "proc", .str p.1])) F (.lst (((["letters"] : List Str) ++ L ++ [smc] ++ rtk (Ps.take i)).map V.str ++ [.str "proc", .str p.1]))) := (Kp.of_same sz).trans (Kp.put _ (by simp))
      have hF5 : upd (upd H3 z (.lst [.str "proc", .str p.1])) F (.lst (((["letters"] : List Str) ++ L ++ [smc] ++ rtk (Ps.take i)).map V.str ++ [.str "proc", .str p.1])) F = some (.lst (((["letters"] : List Str) ++ L ++ [smc] ++ rtk (Ps.take i) ++ (["proc", p.1] : List Str)).map V.str)) := by
        rw [upd_same]
        simp only [List.map_append]
        rfl
      generalize upd (upd H3 z (.lst [.str "proc", .str p.1])) F (.lst (((["letters"] : List Str) ++ L ++ [smc] ++ rtk (Ps.take i)).map V.str ++ [.str "proc", .str p.1])) = H5 at t4 k4 hF5
      refine ⟨_, rfl, _, rfl, v1, F, _, p.2, AL, BN, rfl, t4.dp (.tuple (ds p.2)) (tup_ds p.2) h1, by omega, hP.ok _ hbm, hF5, by simp only [List.length_append, List.length_cons, List.length_nil]; omega, fun H6 hF6 t6 k6 => ?_⟩
      refine ⟨_, _, rfl, ?_, t3.trans (t4.trans t6), k3.trans (k4.trans k6)⟩
      rw [hF6, htk]
      simp only [List.append_assoc]
    · rintro σ H3 ⟨b4, b5, rfl, hF3, t3, k3⟩
      rw [hpl, List.take_length, ← ptk_eq] at hF3
      have sh := sum_sh (ptk_sh hP)
      have pl : (ptk L Ps).length ≤ 4000 := by
        rw [ptk_eq]
        simp only [List.length_append, List.length_cons, List.length_nil]
        have := len4 Ps.length
        rw [List.take_length] at this
        omega
      refine ⟨⟨_, rfl⟩, _, rfl, _, F, ptk L Ps, rfl, rfl, .inl (SqL.of hF3), Nat.le_trans (show _ ≤ 44000 by have : Str.length " " = 1 := rfl; rw [this]; omega) (by decide), ?_⟩
      rw [TL.join_eq]
      refine q H3 (g1.trans ?_)
      have s13 : Same H1 H3 := fun z o e => k3 z o (by simpa using nF z o e) (s2 z o e)
      exact Go.of_same g1.1 s13
end
end K00


set_option Elab.async false
set_option linter.all false
set_option maxRecDepth 100000
set_option maxHeartbeats 8000000
namespace K00
open PySem PySem.Spec PyProof.Rows L2
/-- a word of a text: word signs, or one sign -/
def Tokn (w : Str) : Prop := (TL.tl w ≠ [] ∧ ∀ c ∈ TL.tl w, c ∈ wordS.cps.toList) ∨ w = obr ∨ w = cbr ∨ w = smc
def gapL (gap : Bool) : List Nat := if gap = true then [32] else []
/-- a piece of a text: a word, or a blank -/
structure Piece (u v : List Nat) (c : Nat) : Prop where
  head : ∃ ur, u = c :: ur
  word : c ∈ wordS.cps.toList → (∀ x ∈ u, x ∈ wordS.cps.toList) ∧ ∀ x r, v = x :: r → x ∉ wordS.cps.toList
  one : c ∉ wordS.cps.toList → u = [c]
theorem not32 : (32 : Nat) ∉ wordS.cps.toList := by decide +kernel
theorem Tokn.piece {w : Str} (h : Tokn w) {v : List Nat} (hv : v = [] ∨ ∃ r, v = 32 :: r) : ∃ c, Piece (TL.tl w) v c ∧ c ∉ TL.tl (Str.ofString " \n") := by
  have hv' : ∀ x r, v = x :: r → x ∉ wordS.cps.toList := fun x r e => by
    rcases hv with rfl | ⟨r', rfl⟩
    · cases e
    · cases e
      exact not32
  rcases h with ⟨h1, h2⟩ | h
  · cases e : TL.tl w with
    | nil => exact absurd e h1
    | cons c ur =>
      rw [e] at h2
      refine ⟨c, ⟨⟨ur, rfl⟩, fun _ => ⟨h2, hv'⟩, fun z => absurd (h2 c (by simp)) z⟩, fun z => ?_⟩
      have h3 := h2 c (by simp)
      have : ∀ x ∈ wordS.cps.toList, x ∉ TL.tl (Str.ofString " \n") := by decide +kernel
      exact this c h3 z
  · have go : ∀ (w : Str) (c : Nat), TL.tl w = [c] → c ∉ wordS.cps.toList → c ∉ TL.tl (Str.ofString " \n") → ∃ c, Piece (TL.tl w) v c ∧ c ∉ TL.tl (Str.ofString " \n") := fun w c e n1 n2 => ⟨c, ⟨⟨[], e⟩, fun z => absurd z n1, fun _ => e⟩, n2⟩
    rcases h with rfl | rfl | rfl
    · exact go obr 123 (by decide +kernel) (by decide +kernel) (by decide +kernel)
    · exact go cbr 125 (by decide +kernel) (by decide +kernel) (by decide +kernel)
    · exact go smc 59 (by decide +kernel) (by decide +kernel) (by decide +kernel)
theorem blank_piece (v : List Nat) : Piece [32] v 32 := ⟨⟨[], rfl⟩, fun z => absurd z not32, fun _ => rfl⟩
/-- the list of words as objects -/
def Wds (K : PySem.W.Frag) (H : Hp) (xs : List V) (ts : List Str) : Prop := xs.length = ts.length ∧ ∀ (i : Nat) w, ts[i]? = some w → ∃ p n, xs[i]? = some (V.ref p) ∧ SqT K H p [.str w, .int n]
theorem Wds.same {K : PySem.W.Frag} {H H' : Hp} {xs : List V} {ts : List Str} (h : Wds K H xs ts) (t : Tk H H') : Wds K H' xs ts := ⟨h.1, fun i w e => by
  obtain ⟨p, n, h1, h2⟩ := h.2 i w e
  exact ⟨p, n, h1, t.sqt h2⟩⟩
theorem Wds.snoc {K : PySem.W.Frag} {H : Hp} {xs : List V} {ts : List Str} {p : Addr} {w : Str} {n : Int} (h : Wds K H xs ts) (hp : SqT K H p [.str w, .int n]) : Wds K H (xs ++ [.ref p]) (ts ++ [w]) := by
  refine ⟨by rw [List.length_append, List.length_append, h.1]; rfl, fun i y e => ?_⟩
  by_cases hi : i < ts.length
  · rw [List.getElem?_append_left hi] at e
    rw [List.getElem?_append_left (by rw [h.1]; exact hi)]
    exact h.2 i y e
  · rw [List.getElem?_append_right (by omega)] at e
    rw [List.getElem?_append_right (by rw [h.1]; omega), h.1]
    have : i - ts.length = 0 := by
      cases hz : i - ts.length with
      | zero => rfl
      | succ k => rw [hz] at e; simp at e
    rw [this] at e ⊢
    simp at e
    subst e
    exact ⟨p, n, rfl, hp⟩
theorem wds_nil {K : PySem.W.Frag} {H : Hp} : Wds K H [] [] := ⟨rfl, fun i w e => by simp at e⟩
/-- what is still to be read -/
def remL (gap : Bool) (rest : List Str) : List Nat := gapL gap ++ TL.joinL [32] (rest.map TL.tl)
theorem rem_cons (w : Str) (r : List Str) : remL false (w :: r) = TL.tl w ++ remL (!r.isEmpty) r := by
  cases r with
  | nil => simp [remL, gapL, TL.joinL]
  | cons z r => simp [remL, gapL, TL.joinL]
theorem cut_piece {T : Str} {i : Nat} {u v : List Nat} (h : T.cps.toList.drop i = u ++ v) (hi : i ≤ T.length) : cutS T (some (i : Int)) (some ((i + u.length : Nat) : Int)) = ⟨u.toArray⟩ := by
  have hl : i + u.length ≤ T.length := by
    have e := congrArg List.length h
    rw [List.length_drop, List.length_append] at e
    have : T.cps.toList.length = T.length := Array.length_toList
    omega
  unfold cutS
  rw [sIx_lo hi, sIx_hi hl, h]
  congr 1
  rw [show i + u.length - i = u.length by omega, List.take_left]
/-- .. and where they stand -/
def WdsP (K : PySem.W.Frag) (H : Hp) (xs : List V) (ts : List Str) (PP : Nat → Int → Prop) : Prop := xs.length = ts.length ∧ ∀ (i : Nat) w, ts[i]? = some w → ∃ p n, xs[i]? = some (V.ref p) ∧ SqT K H p [.str w, .int n] ∧ PP i n
theorem WdsP.wds {K : PySem.W.Frag} {H : Hp} {xs : List V} {ts : List Str} {PP : Nat → Int → Prop} (h : WdsP K H xs ts PP) : Wds K H xs ts := ⟨h.1, fun i w e => let ⟨p, n, h1, h2, _⟩ := h.2 i w e; ⟨p, n, h1, h2⟩⟩
theorem WdsP.same {K : PySem.W.Frag} {H H' : Hp} {xs : List V} {ts : List Str} {PP : Nat → Int → Prop} (h : WdsP K H xs ts PP) (t : Tk H H') : WdsP K H' xs ts PP := ⟨h.1, fun i w e => let ⟨p, n, h1, h2, h3⟩ := h.2 i w e; ⟨p, n, h1, t.sqt h2, h3⟩⟩
theorem WdsP.snoc {K : PySem.W.Frag} {H : Hp} {xs : List V} {ts : List Str} {PP : Nat → Int → Prop} {p : Addr} {w : Str} {n : Int} (h : WdsP K H xs ts PP) (hp : SqT K H p [.str w, .int n]) (hn : PP ts.length n) : WdsP K H (xs ++ [.ref p]) (ts ++ [w]) PP := by
  refine ⟨by rw [List.length_append, List.length_append, h.1]; rfl, fun i y e => ?_⟩
  by_cases hi : i < ts.length
  · rw [List.getElem?_append_left hi] at e
    rw [List.getElem?_append_left (by rw [h.1]; exact hi)]
    exact h.2 i y e
  · have ei : i = ts.length := by
      have := (List.getElem?_eq_some_iff.mp e).1
      rw [List.length_append, List.length_singleton] at this
      omega
    subst ei
    rw [List.getElem?_append_right (Nat.le_refl _), Nat.sub_self] at e
    rw [List.getElem?_append_right (by rw [h.1]; exact Nat.le_refl _), h.1, Nat.sub_self]
    have : w = y := by simpa using e
    subst this
    exact ⟨p, n, rfl, hp, hn⟩
theorem wdsP_nil {K : PySem.W.Frag} {H : Hp} {PP : Nat → Int → Prop} : WdsP K H [] [] PP := ⟨rfl, fun i w e => by simp at e⟩
/-- the word with this number begins where so much of the text is left -/
def Pl (T : Str) (ts : List Str) (j : Nat) (n : Int) : Prop := ∃ k : Nat, n = (k : Int) ∧ k + (remL false (ts.drop j)).length = T.length
theorem pl_at {T : Str} {ts dn r : List Str} {w : Str} {i : Nat} (hts : ts = dn ++ w :: r) (hu : T.cps.toList.drop i = TL.tl w ++ remL (!r.isEmpty) r) (hi : i ≤ T.length) : Pl T ts dn.length (i : Int) := ⟨i, rfl, by
  have e : T.cps.toList.length = T.length := Array.length_toList
  rw [hts, List.drop_left, rem_cons, ← hu, List.length_drop, e]
  omega⟩
theorem pl_end {T : Str} {ts : List Str} : Pl T ts ts.length ((T.length : Nat) : Int) := ⟨T.length, rfl, by rw [List.drop_length]; simp [remL, gapL, TL.joinL]⟩
def SwI (K : PySem.W.Frag) (H : Hp) (T : Str) (F : Addr) (ts : List Str) (i : Nat) (σ' : L2.St) (H' : Hp) : Prop := ∃ dn rest gap b3 xs, σ' = [some (.str T), some (.ref F), some (.int (i : Int)), b3] ∧ i ≤ T.length ∧ ts = dn ++ rest ∧ T.cps.toList.drop i = remL gap rest ∧ (gap = true → rest ≠ []) ∧ H' F = some (.lst xs) ∧ WdsP K H' xs dn (Pl T ts) ∧ Same H H'
section
variable {P : Program} {w : World} {K : PySem.W.Frag} {mg : Str → Option Value} {base : Heap}

def spSW (K : PySem.W.Frag) : Sp := fun vs H Q _ => ∃ T ts, vs = [.str T] ∧ T.length ≤ 100000 ∧ T.cps.toList = TL.joinL [32] (ts.map TL.tl) ∧ ts ≠ [] ∧ ts.length ≤ 10000 ∧ (∀ w ∈ ts, Tokn w) ∧
  ∀ H' F xs, Same H H' → H F = none → H' F = some (.lst xs) → WdsP K H' xs (ts ++ ([""] : List Str)) (Pl T ts) → Q (.ref F) H'
theorem sc_split_words : FnScope ["text", "words", "at", "start"] ["text"] (C8.fnScope (topS 29)) := C8.fnScope_by (by decide +kernel)
theorem ok_split_words {f : Addr} {fd : FuncData} (F : C8.Def K mg "split_words" (topS 29) f fd) (b : Binds K fd ["text"] []) (B : Bl K mg)  : C8.Cal P w K mg base 1 "split_words" (spSW K) [] := by
  refine C8.cal0 F b .nil sc_split_words ?len ?body
  case len => rintro vs H Q E ⟨T, ts, rfl, _⟩; rfl
  case body =>
    rintro cdv A outer s H vs Q E hr ⟨T, ts, rfl, hT, hcs, hne, hlen, htok, q⟩
    refine ⟨_, (pss_cons (ps_set (i := 1) sc_split_words.nd rfl (Or.inl rfl) (pe_lst pa_nil))
    (pss_cons (ps_set (i := 2) sc_split_words.nd rfl (Or.inl rfl) pe_int)
    (pss_cons (ps_while PassesOwn.never (pt_cmpR op_lt (pv 2) (pe_callB call_len_str rfl B.len PySem.boot_len (pa_cons (pv 0) pa_nil)) (nomark _)) (pss_cons (ps_set (i := 3) sc_split_words.nd rfl (Or.inl rfl) (pv 2))
    (pss_cons (ps_aug (i := 2) sc_split_words.nd rfl (Or.inl rfl) pe_int ip_add)
    (C8.pss_cut (ps_if (pt_cmpR op_in_sign (pe_ix ix_str (pv 0) (pv 3) (fun _ _ => rfl)) (pe_glob (v := .str wordS) rfl B.WORD_SIGNS.choose_spec ⟨_, rfl⟩) (by with_unfolding_all rfl)) (pss_one (ps_while PassesOwn.never (PW.pt (pw_and (pt_cmpR op_lt (pv 2) (pe_callB call_len_str rfl B.len PySem.boot_len (pa_cons (pv 0) pa_nil)) (nomark _)) (pw_and1 (pt_cmpR op_in_sign (pe_ix ix_str (pv 0) (pv 2) (fun _ _ => rfl)) (pe_glob (v := .str wordS) rfl B.WORD_SIGNS.choose_spec ⟨_, rfl⟩) (by with_unfolding_all rfl))))) (pss_one (ps_aug (i := 2) sc_split_words.nd rfl (Or.inl rfl) pe_int ip_add)))) pss_nil)
    (pss_one (ps_if (pt_cmpR op_notIn_sign (pe_ix ix_str (pv 0) (pv 3) (fun _ _ => rfl)) pe_str (by with_unfolding_all rfl)) (pss_one (ps_expr (pe_bm PySem.F.plainAttrs_list PySem.F.slot_list_append PySem.F.type_list_append mt_append (pv 1) (pa_cons (pe_tup (pa_cons (pe_slice sl_str (pv 0) (po_some (pv 3)) (po_some (pv 2))) (pa_cons (pv 3) pa_nil))) pa_nil)))) pss_nil))))))
    (pss_cons (ps_expr (pe_bm PySem.F.plainAttrs_list PySem.F.slot_list_append PySem.F.type_list_append mt_append (pv 1) (pa_cons (pe_tup (pa_cons pe_str (pa_cons (pe_callB call_len_str rfl B.len PySem.boot_len (pa_cons (pv 0) pa_nil)) pa_nil))) pa_nil)))
    (pss_one (ps_ret (pv 1))))))), ?_⟩
    have hsz : T.length ≤ sizeLine := Nat.le_trans hT (by decide)
    have hll : T.cps.toList.length = T.length := Array.length_toList
    refine ⟨(by show 0 ≤ sizeLine; decide), fun F hF => ?_⟩
    have nF : ∀ z o, H z = some o → z ≠ F := fun z o e q => by rw [q, hF] at e; cases e
    refine ⟨fun m σ H' => ∃ i, m = T.length - i ∧ SwI K H T F ts i σ H', ⟨_, 0, rfl, [], ts, false, none, [], rfl, Nat.zero_le _, rfl, by rw [List.drop_zero, hcs]; rfl, (fun z => by cases z), upd_same, wdsP_nil, same_new hF _⟩, ?_⟩
    rintro m _ H1 ⟨i, rfl, dn, rest, gap, b3, xs, rfl, hi, hts, hdr, hgap, hF1, hw1, s1⟩
    have lxs : xs.length ≤ 10000 := by
      rw [hw1.1]
      have := congrArg List.length hts
      rw [List.length_append] at this
      omega
    refine ⟨_, rfl, _, rfl, T, rfl, hsz, _, _, rfl, rfl, _, rfl, ?_⟩
    by_cases hlt : (i : Int) < ((T.length : Nat) : Int)
    · rw [decide_eq_true hlt]
      refine iteT ⟨fun σ' H' => ∃ i', i < i' ∧ SwI K H T F ts i' σ' H', fun σ' H' ⟨i', hl, h⟩ => ⟨T.length - i', by obtain ⟨_, _, _, _, _, _, z, _⟩ := h; omega, i', rfl, h⟩, ?_⟩
      -- the piece that is read
      obtain ⟨u, c, v, hu, P, kind⟩ : ∃ u c v, T.cps.toList.drop i = u ++ v ∧ Piece u v c ∧ ((gap = true ∧ u = [32] ∧ v = remL false rest ∧ c = 32) ∨ (gap = false ∧ ∃ w r, rest = w :: r ∧ u = TL.tl w ∧ v = remL (!r.isEmpty) r ∧ c ∉ TL.tl (Str.ofString " \n"))) := by
        cases gap with
        | true => exact ⟨[32], 32, remL false rest, by rw [hdr]; rfl, blank_piece _, .inl ⟨rfl, rfl, rfl, rfl⟩⟩
        | false =>
          cases rest with
          | nil =>
            have := congrArg List.length hdr
            rw [List.length_drop, hll] at this
            simp [remL, gapL, TL.joinL] at this
            omega
          | cons w r =>
            rw [rem_cons] at hdr
            obtain ⟨c, P, hc⟩ := (htok w (by rw [hts]; simp)).piece (v := remL (!r.isEmpty) r) (by
              cases r with
              | nil => exact .inl rfl
              | cons z r => exact .inr ⟨_, rfl⟩)
            exact ⟨_, c, _, hdr, P, .inr ⟨rfl, w, r, rfl, rfl, rfl, hc⟩⟩
      obtain ⟨ur, hur⟩ := P.head
      have hul : i + u.length ≤ T.length := by
        have e := congrArg List.length hu
        rw [List.length_drop, List.length_append] at e
        omega
      have hget : ∀ j, j < u.length → T.cps.toList[i + j]? = u[j]? := fun j hj => by
        rw [← List.getElem?_drop, hu, List.getElem?_append_left hj]
      have hc0 : atI T.cps.toList (i : Int) = some c := atI_nat (by
        have := hget 0 (by rw [hur]; simp)
        rw [hur] at this
        simpa using this)
      refine ⟨_, rfl, ?_⟩
      refine ⟨_, rfl, _, _, rfl, rfl, ?_⟩
      refine ⟨fun σ' H' => σ' = [some (.str T), some (.ref F), some (.int ((i + u.length : Nat) : Int)), some (.int (i : Int))] ∧ H1 = H', ?_, ?_⟩
      · refine ⟨_, rfl, _, rfl, T, _, c, rfl, rfl, hsz, hc0, c, wordS, rfl, rfl, _, rfl, ?_⟩
        by_cases hc : c ∈ wordS.cps.toList
        · obtain ⟨hall, hend⟩ := P.word hc
          refine ifT (by simpa using hc) ?_
          refine ⟨fun m σ' H' => ∃ j, m = u.length - j ∧ 1 ≤ j ∧ j ≤ u.length ∧ σ' = [some (.str T), some (.ref F), some (.int ((i + j : Nat) : Int)), some (.int (i : Int))] ∧ H1 = H', ⟨_, 1, rfl, Nat.le_refl _, by rw [hur]; simp, rfl, rfl⟩, ?_⟩
          rintro m _ _ ⟨j, rfl, hj1, hj, rfl, rfl⟩
          refine ⟨_, rfl, _, rfl, T, rfl, hsz, _, _, rfl, rfl, _, rfl, ?_⟩
          have out : ∀ {X : Prop}, j = u.length → ((([some (.str T), some (.ref F), some (.int ((i + u.length : Nat) : Int)), some (.int (i : Int))] : L2.St) = [some (.str T), some (.ref F), some (.int ((i + j : Nat) : Int)), some (.int (i : Int))] → X) → X) := fun e h => h (by rw [e])
          by_cases hl2 : ((i + j : Nat) : Int) < ((T.length : Nat) : Int)
          · rw [decide_eq_true hl2]
            refine iteT ?_
            by_cases hj2 : j < u.length
            · have hg := hget j hj2
              obtain ⟨x, hx⟩ : ∃ x, u[j]? = some x := ⟨_, List.getElem?_eq_getElem hj2⟩
              have hxw := hall x (List.mem_of_getElem? hx)
              refine ⟨_, rfl, _, rfl, T, _, x, rfl, rfl, hsz, atI_nat (hg.trans hx), x, wordS, rfl, rfl, _, rfl, ?_⟩
              refine ifT (by simpa using hxw) ?_
              refine ⟨fun σ' H' => σ' = [some (.str T), some (.ref F), some (.int ((i + (j + 1) : Nat) : Int)), some (.int (i : Int))] ∧ H1 = H', fun σ' H' ⟨e1, e2⟩ => ⟨u.length - (j + 1), by omega, j + 1, rfl, by omega, by omega, e1, e2⟩, ?_⟩
              exact ⟨_, rfl, _, _, rfl, rfl, by show _ = _; rw [show ((i + (j + 1) : Nat) : Int) = ((i + j : Nat) : Int) + 1 by omega]; rfl, rfl⟩
            · have ej : j = u.length := by omega
              subst ej
              obtain ⟨x, r, hv⟩ : ∃ x r, v = x :: r := by
                cases v with
                | nil =>
                  have e := congrArg List.length hu
                  rw [List.length_drop, List.length_append, List.length_nil] at e
                  omega
                | cons x r => exact ⟨x, r, rfl⟩
              have hx : T.cps.toList[i + u.length]? = some x := by
                rw [← List.getElem?_drop, hu, List.getElem?_append_right (Nat.le_refl _), Nat.sub_self, hv]
                rfl
              refine ⟨_, rfl, _, rfl, T, _, x, rfl, rfl, hsz, atI_nat hx, x, wordS, rfl, rfl, _, rfl, ?_⟩
              exact ifF (by simpa using hend x r hv) ⟨rfl, rfl⟩
          · rw [decide_eq_false hl2]
            have ej : j = u.length := by omega
            subst ej
            exact iteF (iteF ⟨rfl, rfl⟩)
        · have e1 := P.one hc
          refine ifF (by simpa using hc) ?_
          exact ⟨by rw [e1]; rfl, rfl⟩
      · rintro _ _ ⟨rfl, rfl⟩
        refine ⟨_, rfl, _, rfl, T, _, c, rfl, rfl, hsz, hc0, c, Str.ofString " 
", rfl, rfl, _, rfl, ?_⟩
        have hdrop : T.cps.toList.drop (i + u.length) = v := by
          rw [← List.drop_drop, hu, List.drop_left]
        have hpos : 0 < u.length := by rw [hur]; simp
        rcases kind with ⟨rfl, rfl, rfl, rfl⟩ | ⟨rfl, w, r, rfl, rfl, rfl, hcn⟩
        · refine ifF (by decide +kernel) ⟨i + 1, by omega, dn, rest, false, _, xs, rfl, hul, hts, hdrop, fun z => (by cases z), hF1, hw1, s1⟩
        · refine ifT (by simpa using hcn) ?_
          have hcut := cut_piece (T := T) hu hi
          refine ⟨_, rfl, .inl ⟨rfl, _, SqL.of hF1⟩, _, rfl, _, rfl, _, rfl, _, rfl, _, rfl, T, rfl, hsz, _, rfl, (by show 2 ≤ sizeLine; decide), fun p hp => ?_⟩
          rw [hcut, TL.mk_tl]
          have np : p ≠ F := fun q => by rw [← q, hp] at hF1; cases hF1
          have sp := same_new hp (.tup [.str w, .int (i : Int)])
          have hF2 := sp _ _ hF1
          refine ⟨F, _, _, rfl, rfl, hF2, Nat.lt_of_le_of_lt lxs (by decide), ?_⟩
          refine ⟨i + (TL.tl w).length, by omega, dn ++ [w], r, !r.isEmpty, _, xs ++ [.ref p], rfl, hul, by rw [hts]; simp, hdrop, fun z => by cases r <;> simp at z ⊢, upd_same, (hw1.same ((Tk.same sp).trans (Tk.put hF2 _))).snoc (SqT.of (by rw [upd_ne np]; exact upd_same)) (pl_at hts hu hi), fun z o e => ?_⟩
          rw [upd_ne (nF z o e)]
          exact sp _ _ (s1 z o e)
    · rw [decide_eq_false hlt]
      refine iteF ?_
      have ei : i = T.length := by omega
      subst ei
      have hd0 : T.cps.toList.drop T.length = [] := List.drop_eq_nil_of_le (by omega)
      have hr0 : rest = [] := by
        rw [hd0] at hdr
        cases rest with
        | nil => rfl
        | cons w r =>
          exfalso
          cases gap with
          | true => simp [remL, gapL] at hdr
          | false =>
            rw [rem_cons] at hdr
            obtain ⟨c, P, _⟩ := (htok w (by rw [hts]; simp)).piece (v := []) (.inl rfl)
            obtain ⟨ur, hur⟩ := P.head
            rw [hur] at hdr
            simp at hdr
      subst hr0
      rw [List.append_nil] at hts
      subst hts
      refine ⟨_, rfl, .inl ⟨rfl, _, SqL.of hF1⟩, _, rfl, T, rfl, hsz, (by show 2 ≤ sizeLine; decide), fun p hp => ?_⟩
      have np : p ≠ F := fun q => by rw [← q, hp] at hF1; cases hF1
      have sp := same_new hp (.tup [.str "", .int ((T.length : Nat) : Int)])
      have hF2 := sp _ _ hF1
      refine ⟨F, _, _, rfl, rfl, hF2, Nat.lt_of_le_of_lt lxs (by decide), ?_⟩
      refine ⟨_, rfl, q _ F (xs ++ [.ref p]) (fun z o e => ?_) hF upd_same ((hw1.same ((Tk.same sp).trans (Tk.put hF2 _))).snoc (SqT.of (by rw [upd_ne np]; exact upd_same)) pl_end)⟩
      rw [upd_ne (nF z o e)]
      exact sp _ _ (s1 z o e)
end
end K00


set_option Elab.async false
set_option linter.all false
set_option maxRecDepth 100000
set_option maxHeartbeats 8000000
namespace K00
open PySem PySem.Spec PyProof.Rows L2
/-! ### the reader -/
def rf (F : Addr) (i d : Int) : List (Str × V) := [("words", .ref F), ("at", .int i), ("depth", .int d)]
theorem rf_words (F : Addr) (i d : Int) : (rf F i d).lookup ("words" : Str) = some (.ref F) := by
  unfold rf
  rw [List.lookup_cons]
  rfl
theorem rf_at (F : Addr) (i d : Int) : (rf F i d).lookup ("at" : Str) = some (.int i) := by
  unfold rf
  rw [List.lookup_cons, show (("at" : Str) == "words") = false by decide +kernel]
  rfl
theorem rf_depth (F : Addr) (i d : Int) : (rf F i d).lookup ("depth" : Str) = some (.int d) := by
  unfold rf
  rw [List.lookup_cons, show (("depth" : Str) == "words") = false by decide +kernel, List.lookup_cons, show (("depth" : Str) == "at") = false by decide +kernel]
  rfl
theorem rf_no (F : Addr) (i d : Int) {m : Str} (h1 : (m == ("words" : Str)) = false) (h2 : (m == ("at" : Str)) = false) (h3 : (m == ("depth" : Str)) = false) : (rf F i d).lookup m = none := by
  unfold rf
  rw [List.lookup_cons, h1, List.lookup_cons, h2, List.lookup_cons, h3]
  rfl
theorem rf_put_at (F : Addr) (i d j : Int) : putF "at" (.int j) (rf F i d) = rf F j d := by
  unfold rf putF
  rw [if_neg (by decide +kernel)]
  unfold putF
  rw [if_pos rfl]
theorem rf_put_depth (F : Addr) (i d j : Int) : putF "depth" (.int j) (rf F i d) = rf F i j := by
  unfold rf putF
  rw [if_neg (by decide +kernel)]
  unfold putF
  rw [if_neg (by decide +kernel)]
  unfold putF
  rw [if_pos rfl]
structure Txt (K : PySem.W.Frag) (mg : Str → Option Value) (C : Addr) : Prop where
  cl : Cls K C
  nW : NoAttr K C "words"
  nA : NoAttr K C "at"
  nD : NoAttr K C "depth"
/-- the reader at p: its words, where it is, how deep -/
def Rd (K : PySem.W.Frag) (C : Addr) (H : Hp) (p F : Addr) (xs : List V) (ts : List Str) (i d : Nat) : Prop := ∃ dx, H p = some (.ins C dx (rf F (i : Int) (d : Int))) ∧ H F = some (.lst xs) ∧ Wds K H xs ts
/-- nothing else is changed than the reader and the tables -/
structure RG (Ts : List Addr) (p : Addr) (H H' : Hp) : Prop where
  t : Tbs Ts H'
  k : Kp (p :: Ts) H H'
  tk : Tk H H'
theorem RG.refl {Ts : List Addr} {p : Addr} {H : Hp} (t : Tbs Ts H) : RG Ts p H H := ⟨t, Kp.refl H, Tk.refl H⟩
theorem RG.trans {Ts : List Addr} {p : Addr} {H H1 H2 : Hp} (a : RG Ts p H H1) (b : RG Ts p H1 H2) : RG Ts p H H2 := ⟨b.t, a.k.trans b.k, a.tk.trans b.tk⟩
theorem RG.same {Ts : List Addr} {p : Addr} {H H' : Hp} (t : Tbs Ts H) (s : Same H H') : RG Ts p H H' := ⟨t.same s, Kp.of_same s, Tk.same s⟩
theorem RG.go {Ts : List Addr} {p : Addr} {H H' : Hp} (t : Tbs Ts H) (g : Go Ts H H') : RG Ts p H H' := ⟨g.1, g.2.mono fun _ h => List.mem_cons_of_mem _ h, Tk.go t g⟩
theorem Rd.same {K : PySem.W.Frag} {C : Addr} {H H' : Hp} {p F : Addr} {xs : List V} {ts : List Str} {i d : Nat} (h : Rd K C H p F xs ts i d) (s : Same H H') : Rd K C H' p F xs ts i d := by
  obtain ⟨dx, h1, h2, h3⟩ := h
  exact ⟨dx, s _ _ h1, s _ _ h2, h3.same (Tk.same s)⟩
theorem Rd.go {K : PySem.W.Frag} {C : Addr} {Ts : List Addr} {H H' : Hp} {p F : Addr} {xs : List V} {ts : List Str} {i d : Nat} (h : Rd K C H p F xs ts i d) (t : Tbs Ts H) (g : Go Ts H H') : Rd K C H' p F xs ts i d := by
  obtain ⟨dx, h1, h2, h3⟩ := h
  have e := Go.ext t g
  refine ⟨dx, e _ _ h1 (fun ps z => by cases z), e _ _ h2 (fun ps z => by cases z), h3.same (Tk.go t g)⟩
/-- another list is changed -/
theorem Rd.other {K : PySem.W.Frag} {C : Addr} {H : Hp} {p F D : Addr} {xs ys : List V} {ts : List Str} {i d : Nat} (h : Rd K C H p F xs ts i d) (e : H D = some (.lst ys)) (n : D ≠ F) (o : HO) : Rd K C (upd H D o) p F xs ts i d := by
  obtain ⟨dx, h1, h2, h3⟩ := h
  refine ⟨dx, by rw [upd_ne (fun z => by rw [z, e] at h1; cases h1)]; exact h1, by rw [upd_ne (Ne.symm n)]; exact h2, h3.same (Tk.put e o)⟩
theorem Rd.not_tab {K : PySem.W.Frag} {C : Addr} {Ts : List Addr} {H : Hp} {p F : Addr} {xs : List V} {ts : List Str} {i d : Nat} (h : Rd K C H p F xs ts i d) (t : Tbs Ts H) {D : Addr} (hD : H D = none) : D ∉ p :: Ts := fun z => by
  obtain ⟨dx, h1, _⟩ := h
  rcases List.mem_cons.mp z with rfl | z
  · rw [hD] at h1; cases h1
  · exact tbs_cut (ms := []) (o := .rng 0 0) t hD z
theorem drop_get {ts : List Str} {i : Nat} {w : Str} {r : List Str} (h : ts.drop i = w :: r) : ts[i]? = some w ∧ ts.drop (i + 1) = r := by
  refine ⟨?_, ?_⟩
  · have := congrArg (fun l => l[0]?) h
    rw [List.getElem?_drop] at this
    simpa using this
  · rw [← List.drop_drop, h]
    rfl
section
variable {P : Program} {w : World} {K : PySem.W.Frag} {mg : Str → Option Value} {base : Heap}

def spWord (K : PySem.W.Frag) (C : Addr) : Sp := fun vs H Q _ => ∃ p F xs ts i d w, vs = [.ref p] ∧ Rd K C H p F xs ts i d ∧ ts[i]? = some w ∧ Q (.str w) H
theorem sc_word : FnScope ["self"] ["self"] (C8.fnScope (inClass (topS 30) 1)) := C8.fnScope_by (by decide +kernel)
theorem okm_word {C f : Addr} {fd : FuncData} (T : Txt K mg C) (me : Meth K C "word" f) (F : C8.Fun K "word" "Reader.word" (inClass (topS 30) 1) f fd) (b : Binds K fd ["self"] []) (B : Bl K mg)  : C8.Met P w K mg base 1 C "word" (spWord K C) [] := by
  refine C8.met0 T.cl me F b sc_word ?len ?body
  case len => rintro vs H Q E ⟨p, F, xs, ts, i, d, w, rfl, _⟩; rfl
  case body =>
    rintro cdv A outer s H vs Q E hr ⟨p, F, xs, ts, i, d, w, rfl, hR, hw, q⟩
    refine ⟨_, (pss_one (ps_ret (pe_ix ix_tup (pe_ix ix_list (pe_fld (pv 0) rfl) (pe_fld (pv 0) rfl) (fun _ _ => rfl)) pe_int (fun _ _ => rfl)))), ?_⟩
    obtain ⟨dx, h1, h2, h3⟩ := hR
    obtain ⟨wp, n, hx, hwp⟩ := h3.2 i w hw
    exact ⟨_, rfl, p, C, dx, _, _, rfl, h1, T.cl, T.nW, rf_words _ _ _, _, rfl, p, C, dx, _, _, rfl, h1, T.cl, T.nA, rf_at _ _ _, F, xs, _, _, rfl, rfl, SqL.of h2, atI_nat hx, wp, _, _, _, rfl, rfl, hwp, at0 _ _, q⟩
def spTake (K : PySem.W.Frag) (C : Addr) : Sp := fun vs H Q _ => ∃ p F xs ts i d w, vs = [.ref p, .str w] ∧ Rd K C H p F xs ts i d ∧ ts[i]? = some w ∧ ∀ H', Rd K C H' p F xs ts (i + 1) d → (∀ Ts, Tbs Ts H → RG Ts p H H') → Q .non H'
theorem sc_take : FnScope ["self", "wanted"] ["self", "wanted"] (C8.fnScope (inClass (topS 30) 3)) := C8.fnScope_by (by decide +kernel)
theorem okm_take {C f : Addr} {fd : FuncData} (T : Txt K mg C) (me : Meth K C "take" f) (F : C8.Fun K "take" "Reader.take" (inClass (topS 30) 3) f fd) (b : Binds K fd ["self", "wanted"] []) (B : Bl K mg) (c_word : C8.Met P w K mg base 1 C "word" (spWord K C) []) : C8.Met P w K mg base 2 C "take" (spTake K C) [] := by
  refine C8.met0 T.cl me F b sc_take ?len ?body
  case len => rintro vs H Q E ⟨p, F, xs, ts, i, d, w, rfl, _⟩; rfl
  case body =>
    rintro cdv A outer s H vs Q E hr ⟨p, F, xs, ts, i, d, w, rfl, hR, hw, q⟩
    refine ⟨_, (pss_cons (ps_if (pt_cmpR op_ne (C8.pe_mt0 c_word hr (by decide) (pv 0)) (pv 1) (nomark _)) pss_never pss_nil)
    (pss_one (ps_fldaug (pv 0) pe_int in_add))), ?_⟩
    obtain ⟨dx, h1, h2, h3⟩ := id hR
    refine ⟨_, rfl, p, dx, _, rfl, h1, rf_no _ _ _ (by decide +kernel) (by decide +kernel) (by decide +kernel), p, F, xs, ts, i, d, w, rfl, hR, hw, _, rfl, rfl, _, rfl, ?_⟩
    rw [dec_str, decide_eq_true rfl]
    refine iteF ?_
    refine ⟨_, rfl, p, C, dx, _, _, rfl, h1, T.cl, T.nA, rf_at _ _ _, _, _, rfl, rfl, dx, _, h1, (by show 3 < 1000; decide), ?_⟩
    rw [rf_put_at]
    have t1 := Tk.putI h1 (.ins C dx (rf F ((i : Int) + 1) (d : Int)))
    refine q _ ⟨dx, by rw [upd_same]; rfl, by rw [upd_ne (fun z => by rw [z, h1] at h2; cases h2)]; exact h2, h3.same t1⟩ fun Ts hT => ⟨tbs_upd hT h1 (fun ps z => by cases z), Kp.put _ (by simp), t1⟩
def spTN (K : PySem.W.Frag) (C : Addr) (Ts : List Addr) : Sp := fun vs H Q _ => ∃ p F xs ts i d w, vs = [.ref p] ∧ Tbs Ts H ∧ Rd K C H p F xs ts i d ∧ ts[i]? = some w ∧ nameB w = true ∧ ∀ H', Rd K C H' p F xs ts (i + 1) d → RG Ts p H H' → Q (.str w) H'
theorem sc_take_name : FnScope ["self", "name"] ["self"] (C8.fnScope (inClass (topS 30) 4)) := C8.fnScope_by (by decide +kernel)
theorem okm_take_name {Ts : List Addr} {C f : Addr} {fd : FuncData} (T : Txt K mg C) (me : Meth K C "take_name" f) (F : C8.Fun K "take_name" "Reader.take_name" (inClass (topS 30) 4) f fd) (b : Binds K fd ["self"] []) (B : Bl K mg) (c_word : C8.Met P w K mg base 1 C "word" (spWord K C) []) (c_is_name : C8.Cal P w K mg base 4 "is_name" (spName K Ts) []) : C8.Met P w K mg base 5 C "take_name" (spTN K C Ts) [] := by
  refine C8.met0 T.cl me F b sc_take_name ?len ?body
  case len => rintro vs H Q E ⟨p, F, xs, ts, i, d, w, rfl, _⟩; rfl
  case body =>
    rintro cdv A outer s H vs Q E hr ⟨p, F, xs, ts, i, d, w, rfl, hT, hR, hw, hn, q⟩
    refine ⟨_, (pss_cons (ps_set (i := 1) sc_take_name.nd rfl (Or.inl rfl) (C8.pe_mt0 c_word hr (by decide) (pv 0)))
    (pss_cons (ps_if (pt_not (pt_val (C8.pe_c c_is_name hr (by decide) rfl (pa_cons (pv 1) pa_nil)))) pss_never pss_nil)
    (pss_cons (ps_fldaug (pv 0) pe_int in_add)
    (pss_one (ps_ret (pv 1)))))), ?_⟩
    obtain ⟨dx, h1, h2, h3⟩ := id hR
    refine ⟨_, rfl, p, dx, _, rfl, h1, rf_no _ _ _ (by decide +kernel) (by decide +kernel) (by decide +kernel), p, F, xs, ts, i, d, w, rfl, hR, hw, ?_⟩
    refine ⟨_, rfl, .str w, .str w, rfl, .str w, nameB_str hn, hT, fun H2 g2 => ⟨_, rfl, ?_⟩⟩
    rw [show nameD (.str w) = true from hn]
    refine iteF ?_
    have R2 := hR.go hT g2
    obtain ⟨dx2, k1, k2, k3⟩ := id R2
    refine ⟨_, rfl, p, C, dx2, _, _, rfl, k1, T.cl, T.nA, rf_at _ _ _, _, _, rfl, rfl, dx2, _, k1, (by show 3 < 1000; decide), ?_⟩
    rw [rf_put_at]
    have t1 := Tk.putI k1 (.ins C dx2 (rf F ((i : Int) + 1) (d : Int)))
    refine ⟨_, rfl, q _ ⟨dx2, by rw [upd_same]; rfl, by rw [upd_ne (fun z => by rw [z, k1] at k2; cases k2)]; exact k2, k3.same t1⟩ ((RG.go hT g2).trans ⟨tbs_upd g2.1 k1 (fun ps z => by cases z), Kp.put _ (by simp), t1⟩)⟩
end
end K00


set_option Elab.async false
set_option linter.all false
set_option maxRecDepth 100000
set_option maxHeartbeats 8000000
namespace K00
open PySem PySem.Spec PyProof.Rows L2
theorem tk_head : ∀ s : St, ∃ r, s.tk = s.w :: r
  | .dd _ | .ud _ | .cl _ | .rt => ⟨_, rfl⟩
  | .ch bs => ⟨_, by rw [St.tk]; rfl⟩
  | .lp b => ⟨_, by rw [St.tk]; rfl⟩
  | .en b c => ⟨_, by rw [St.tk]; rfl⟩
theorem w_not : ∀ s : St, s.w ≠ "or" ∧ s.w ≠ cbr
  | .dd _ => ⟨(by decide +kernel : (("do" : Str) ≠ "or")), (by decide +kernel : (("do" : Str) ≠ cbr))⟩
  | .ud _ => ⟨(by decide +kernel : (("undo" : Str) ≠ "or")), (by decide +kernel : (("undo" : Str) ≠ cbr))⟩
  | .cl _ => ⟨(by decide +kernel : (("call" : Str) ≠ "or")), (by decide +kernel : (("call" : Str) ≠ cbr))⟩
  | .ch _ => ⟨(by decide +kernel : (("choose" : Str) ≠ "or")), (by decide +kernel : (("choose" : Str) ≠ cbr))⟩
  | .lp _ => ⟨(by decide +kernel : (("loop" : Str) ≠ "or")), (by decide +kernel : (("loop" : Str) ≠ cbr))⟩
  | .rt => ⟨(by decide +kernel : (("return" : Str) ≠ "or")), (by decide +kernel : (("return" : Str) ≠ cbr))⟩
  | .en _ _ => ⟨(by decide +kernel : (("ensure" : Str) ≠ "or")), (by decide +kernel : (("ensure" : Str) ≠ cbr))⟩
theorem drop_app {ts a r : List Str} {i : Nat} (h : ts.drop i = a ++ r) : ts.drop (i + a.length) = r := by
  rw [← List.drop_drop, h, List.drop_left]
section
variable {P : Program} {w : World} {K : PySem.W.Frag} {mg : Str → Option Value} {base : Heap}

def spPl (K : PySem.W.Frag) (C : Addr) (Ts : List Addr) : Sp := fun vs H Q _ => ∃ p F xs ts i d st r AL BN, vs = [.ref p, .str (St.w st)] ∧ Tbs Ts H ∧ Rd K C H p F xs ts i d ∧ st.isO = false ∧ ts.drop i = st.tk ++ r ∧ st.ok AL BN false ∧ Nok AL ∧ Nok BN ∧
  ∀ H' v, Rd K C H' p F xs ts (i + st.tk.length) d → Dp K H' v st.d → RG Ts p H H' → Q v H'
theorem sc_plain : FnScope ["self", "word", "named"] ["self", "word"] (C8.fnScope (inClass (topS 30) 9)) := C8.fnScope_by (by decide +kernel)
theorem okm_plain {Ts : List Addr} {C f : Addr} {fd : FuncData} (T : Txt K mg C) (me : Meth K C "plain" f) (F : C8.Fun K "plain" "Reader.plain" (inClass (topS 30) 9) f fd) (b : Binds K fd ["self", "word"] []) (B : Bl K mg) (c_take : C8.Met P w K mg base 2 C "take" (spTake K C) []) (c_take_name : C8.Met P w K mg base 5 C "take_name" (spTN K C Ts) []) : C8.Met P w K mg base 6 C "plain" (spPl K C Ts) [] := by
  refine C8.met0 T.cl me F b sc_plain ?len ?body
  case len => rintro vs H Q E ⟨p, F, xs, ts, i, d, st, r, AL, BN, rfl, _⟩; rfl
  case body =>
    rintro cdv A outer s H vs Q E hr ⟨p, F, xs, ts, i, d, st, r, AL, BN, rfl, hT, hR, hio, hdr, hok, hA, hB, q⟩
    refine ⟨_, (pss_cons (ps_expr (C8.pe_mt c_take hr (by decide) (pv 0) (pa_cons (pv 1) pa_nil)))
    (pss_cons (ps_set (i := 2) sc_plain.nd rfl (Or.inl rfl) (pe_ifExp (pt_cmpR op_eq (pv 1) pe_str (nomark _)) (pe_tup pa_nil) (pe_tup (pa_cons (C8.pe_mt0 c_take_name hr (by decide) (pv 0)) pa_nil))))
    (pss_cons (ps_expr (C8.pe_mt c_take hr (by decide) (pv 0) (pa_cons pe_str pa_nil)))
    (pss_one (ps_ret (pe_tup (pa_cons (pv 1) (StX.pa_star (pv 2) pa_nil)))))))), ?_⟩
    obtain ⟨dx, h1, _⟩ := id hR
    obtain ⟨etk, _, ed⟩ := tk_plain hio
    rw [etk] at hdr
    obtain ⟨g1, g2⟩ := drop_get hdr
    refine ⟨_, rfl, p, dx, _, rfl, h1, rf_no _ _ _ (by decide +kernel) (by decide +kernel) (by decide +kernel), _, rfl, p, F, xs, ts, i, d, st.w, rfl, hR, g1, fun H1 R1 G1 => ?_⟩
    have G1 := G1 Ts hT
    refine ⟨_, rfl, rfl, _, rfl, ?_⟩
    rw [dec_str]
    by_cases hrt : st = .rt
    · subst hrt
      refine ifT (by decide +kernel) ⟨(by show 0 ≤ sizeLine; decide), fun z hz => ?_⟩
      have sz := same_new hz (.tup [])
      have hz1 : SqT K (upd H1 z (.tup [])) z [] := SqT.of upd_same
      have R2 := R1.same sz
      obtain ⟨dx2, k1, _⟩ := id R2
      obtain ⟨g3, g4⟩ := drop_get g2
      refine ⟨_, rfl, p, dx2, _, rfl, k1, rf_no _ _ _ (by decide +kernel) (by decide +kernel) (by decide +kernel), p, F, xs, ts, i + 1, d, smc, rfl, R2, g3, fun H3 R3 G3 => ?_⟩
      have G2 := G1.trans (RG.same G1.t sz)
      have G3 := G3 Ts G2.t
      refine ⟨_, rfl, _, rfl, z, [], rfl, .inl (G3.tk.sqt hz1), (by show 1 ≤ sizeLine; decide), fun y hy => ?_⟩
      have sy := same_new hy (.tup [V.str "return"])
      exact q _ _ (R3.same sy) (.tup (SqT.of upd_same) (.cons (.str _) .nil)) ((G2.trans G3).trans (RG.same G3.t sy))
    · obtain ⟨x, ex, hx⟩ : ∃ x, st.tl = [x] ∧ nameB x = true := by
        cases st with
        | dd x => exact ⟨x, rfl, hA _ hok⟩
        | ud x => exact ⟨x, rfl, hA _ hok⟩
        | cl x => exact ⟨x, rfl, hB _ hok⟩
        | rt => exact absurd rfl hrt
        | ch _ => cases hio
        | lp _ => cases hio
        | en _ _ => cases hio
      rw [ex] at g2 etk ed
      obtain ⟨g3, g4⟩ := drop_get g2
      obtain ⟨dx1, m1, _⟩ := id R1
      refine ifF ?_ ⟨_, rfl, p, dx1, _, rfl, m1, rf_no _ _ _ (by decide +kernel) (by decide +kernel) (by decide +kernel), p, F, xs, ts, i + 1, d, x, rfl, G1.t, R1, g3, hx, fun H2 R2 G2 => ?_⟩
      · cases st with
        | rt => exact absurd rfl hrt
        | dd _ => show decide ((("do" : Str)) = "return") = false; decide +kernel
        | ud _ => show decide ((("undo" : Str)) = "return") = false; decide +kernel
        | cl _ => show decide ((("call" : Str)) = "return") = false; decide +kernel
        | ch _ => cases hio
        | lp _ => cases hio
        | en _ _ => cases hio
      refine ⟨(by show 1 ≤ sizeLine; decide), fun z hz => ?_⟩
      have sz := same_new hz (.tup [.str x])
      have hz1 : SqT K (upd H2 z (.tup [.str x])) z [.str x] := SqT.of upd_same
      have R3 := R2.same sz
      obtain ⟨dx3, k1, _⟩ := id R3
      obtain ⟨g5, g6⟩ := drop_get g4
      refine ⟨_, rfl, p, dx3, _, rfl, k1, rf_no _ _ _ (by decide +kernel) (by decide +kernel) (by decide +kernel), p, F, xs, ts, i + 1 + 1, d, smc, rfl, R3, g5, fun H4 R4 G4 => ?_⟩
      have G3 := (G1.trans G2).trans (RG.same G2.t sz)
      have G4 := G4 Ts G3.t
      refine ⟨_, rfl, _, rfl, z, [.str x], rfl, .inl (G4.tk.sqt hz1), (by show 2 ≤ sizeLine; decide), fun y hy => ?_⟩
      have sy := same_new hy (.tup [V.str st.w, .str x])
      refine q _ _ ?_ (by rw [ed]; exact .tup (SqT.of upd_same) (.cons (.str _) (.cons (.str _) .nil))) ((G3.trans G4).trans (RG.same G4.t sy))
      rw [etk]
      exact R4.same sy
theorem RG.put {Ts : List Addr} {p D : Addr} {H H' : Hp} {ys : List V} (g : RG Ts p H H') (n : H D = none) (e : H' D = some (.lst ys)) (zs : List V) : RG Ts p H (upd H' D (.lst zs)) := ⟨tbs_upd g.t e (fun ps z => by cases z), kp_new g.k n, g.tk.trans (Tk.put e _)⟩
theorem tks_drop {b : List St} {j : Nat} {s : St} (h : b[j]? = some s) : tks (b.drop j) = s.tk ++ tks (b.drop (j + 1)) := by
  obtain ⟨hj, e⟩ := List.getElem?_eq_some_iff.mp h
  rw [List.drop_eq_getElem_cons hj, tks, e]
def spRB (K : PySem.W.Frag) (C : Addr) (Ts : List Addr) (n : Nat) : Sp := fun vs H Q _ => ∃ p F xs ts i d b r AL BN, vs = [.ref p] ∧ Tbs Ts H ∧ Rd K C H p F xs ts i d ∧ ks b < n ∧ d + n ≤ 39 ∧ ns b ≤ 1000 ∧ ts.drop i = btk b ++ r ∧ oks AL BN false b ∧ Nok AL ∧ Nok BN ∧
  ∀ H' v, Rd K C H' p F xs ts (i + (btk b).length) d → Dp K H' v (.tuple (ds b)) → RG Ts p H H' → Q v H'
def spRS (K : PySem.W.Frag) (C : Addr) (Ts : List Addr) (n : Nat) : Sp := fun vs H Q _ => ∃ p F xs ts i d st r AL BN, vs = [.ref p] ∧ Tbs Ts H ∧ Rd K C H p F xs ts i d ∧ St.k st ≤ n ∧ d + n ≤ 39 ∧ st.n ≤ 1000 ∧ ts.drop i = st.tk ++ r ∧ (∃ w r', r = w :: r' ∧ w ≠ "or") ∧ st.ok AL BN false ∧ Nok AL ∧ Nok BN ∧
  ∀ H' v, Rd K C H' p F xs ts (i + st.tk.length) d → Dp K H' v st.d → RG Ts p H H' → Q v H'
def spRC (K : PySem.W.Frag) (C : Addr) (Ts : List Addr) (n : Nat) : Sp := fun vs H Q _ => ∃ p F xs ts i d bs r AL BN, vs = [.ref p] ∧ Tbs Ts H ∧ Rd K C H p F xs ts i d ∧ kss bs < n ∧ d + n ≤ 39 ∧ nss bs ≤ 1000 ∧ ts.drop i = (St.ch bs).tk ++ r ∧ (∃ w r', r = w :: r' ∧ w ≠ "or") ∧ (St.ch bs).ok AL BN false ∧ Nok AL ∧ Nok BN ∧
  ∀ H' v, Rd K C H' p F xs ts (i + (St.ch bs).tk.length) d → Dp K H' v (St.d (.ch bs)) → RG Ts p H H' → Q v H'
theorem sc_body : FnScope ["self", "statements"] ["self"] (C8.fnScope (inClass (topS 30) 7)) := C8.fnScope_by (by decide +kernel)
theorem sc_statement : FnScope ["self", "word", "body"] ["self"] (C8.fnScope (inClass (topS 30) 8)) := C8.fnScope_by (by decide +kernel)
theorem sc_choice : FnScope ["self", "bodies"] ["self"] (C8.fnScope (inClass (topS 30) 10)) := C8.fnScope_by (by decide +kernel)
theorem okm_body {Ts : List Addr} {n e : Nat} {C f : Addr} {fd : FuncData} (T : Txt K mg C) (me : Meth K C "body" f) (F : C8.Fun K "body" "Reader.body" (inClass (topS 30) 7) f fd) (b : Binds K fd ["self"] []) (B : Bl K mg) (c_word : C8.Met P w K mg base 1 C "word" (spWord K C) []) (c_take : C8.Met P w K mg base 2 C "take" (spTake K C) []) (c_statement : C8.Met P w K mg base e C "statement" (spRS K C Ts n) []) (he : 2 ≤ e) : C8.Met P w K mg base (e + 1) C "body" (spRB K C Ts (n + 1)) [] := by
  refine C8.met0 T.cl me F b sc_body ?len ?body
  case len => rintro vs H Q E ⟨p, F, xs, ts, i, d, b, r, AL, BN, rfl, _⟩; rfl
  case body =>
    rintro cdv A outer s H vs Q E hr ⟨p, F, xs, ts, i, d, b, r, AL, BN, rfl, hT, hR, hk, hd, hn, hdr, hok, hA, hB, q⟩
    refine ⟨_, (pss_cons (ps_if (pt_cmpR op_eq (pe_fld (pv 0) rfl) (pe_glob (v := .int 39) rfl B.MOST_OPEN.choose_spec ⟨_, rfl⟩) (nomark _)) pss_never pss_nil)
    (pss_cons (ps_expr (C8.pe_mt c_take hr (by omega) (pv 0) (pa_cons pe_str pa_nil)))
    (pss_cons (ps_fldaug (pv 0) pe_int in_add)
    (pss_cons (ps_set (i := 1) sc_body.nd rfl (Or.inl rfl) (pe_lst pa_nil))
    (pss_cons (ps_while PassesOwn.never (pt_cmpR op_ne (C8.pe_mt0 c_word hr (by omega) (pv 0)) pe_str (nomark _)) (pss_one (ps_expr (pe_bm PySem.F.plainAttrs_list PySem.F.slot_list_append PySem.F.type_list_append mt_append (pv 1) (pa_cons (C8.pe_mt0 c_statement hr (by omega) (pv 0)) pa_nil)))))
    (pss_cons (ps_expr (C8.pe_mt c_take hr (by omega) (pv 0) (pa_cons pe_str pa_nil)))
    (pss_cons (ps_fldaug (pv 0) pe_int in_sub)
    (pss_one (ps_ret (pe_callTy call_tuple_of rfl B.tuple (by decide +kernel) (pa_cons (pv 1) pa_nil))))))))))), ?_⟩
    obtain ⟨dx, h1, _⟩ := id hR
    have hbn := len_ns b
    refine ⟨_, rfl, p, C, dx, _, _, rfl, h1, T.cl, T.nD, rf_depth _ _ _, rfl, _, rfl, ?_⟩
    rw [dec_int, show decide ((d : Int) = 39) = false from decide_eq_false (by omega)]
    refine iteF ?_
    unfold btk at hdr
    rw [List.cons_append, List.append_assoc] at hdr
    obtain ⟨g1, g2⟩ := drop_get hdr
    refine ⟨_, rfl, p, dx, _, rfl, h1, rf_no _ _ _ (by decide +kernel) (by decide +kernel) (by decide +kernel), p, F, xs, ts, i, d, obr, rfl, hR, g1, fun H1 R1 G1 => ?_⟩
    have G1 := G1 Ts hT
    obtain ⟨dx1, m1, m2, m3⟩ := id R1
    refine ⟨_, rfl, p, C, dx1, _, _, rfl, m1, T.cl, T.nD, rf_depth _ _ _, _, _, rfl, rfl, dx1, _, m1, (by show 3 < 1000; decide), ?_⟩
    rw [rf_put_depth]
    have tA := Tk.putI m1 (.ins C dx1 (rf F ((i + 1 : Nat) : Int) ((d : Int) + 1)))
    have R2 : Rd K C (upd H1 p (.ins C dx1 (rf F ((i + 1 : Nat) : Int) ((d : Int) + 1)))) p F xs ts (i + 1) (d + 1) := ⟨dx1, by rw [upd_same]; rfl, by rw [upd_ne (fun z => by rw [z, m1] at m2; cases m2)]; exact m2, m3.same tA⟩
    have G2 : RG Ts p H (upd H1 p (.ins C dx1 (rf F ((i + 1 : Nat) : Int) ((d : Int) + 1)))) := G1.trans ⟨tbs_upd G1.t m1 (fun ps z => by cases z), Kp.put _ (by simp), tA⟩
    generalize upd H1 p (.ins C dx1 (rf F ((i + 1 : Nat) : Int) ((d : Int) + 1))) = H2 at R2 G2
    refine ⟨(by show 0 ≤ sizeLine; decide), fun D hD => ?_⟩
    have nD := R2.not_tab G2.t hD
    have hDn : H D = none := G2.k.none nD hD
    have nDF : D ≠ F := fun z => by obtain ⟨_, _, z2, _⟩ := id R2; rw [← z, hD] at z2; cases z2
    have sD := same_new hD (.lst [])
    refine ⟨fun m σ' H' => ∃ j vs, m = b.length - j ∧ j ≤ b.length ∧ σ' = [some (.ref p), some (.ref D)] ∧ Rd K C H' p F xs ts (i + 1 + (tks (b.take j)).length) (d + 1) ∧ ts.drop (i + 1 + (tks (b.take j)).length) = tks (b.drop j) ++ ([cbr] ++ r) ∧ H' D = some (.lst vs) ∧ DpAll K H' vs (ds (b.take j)) ∧ RG Ts p H H', ⟨_, 0, [], rfl, Nat.zero_le _, rfl, R2.same sD, g2, upd_same, .nil, G2.trans (RG.same G2.t sD)⟩, ?_⟩
    rintro m _ H3 ⟨j, vs, rfl, hj, rfl, R3, hdr3, hD3, hv3, G3⟩
    obtain ⟨dx3, k1, _⟩ := id R3
    by_cases hjl : j < b.length
    · have hs := List.getElem?_eq_getElem hjl
      generalize b[j] = st at hs
      have hsm : st ∈ b := List.mem_of_getElem? hs
      have hsk := ks_mem hsm
      have hsn := ns_mem hsm
      obtain ⟨tr, etr⟩ := tk_head st
      have htd := tks_drop hs
      rw [htd, List.append_assoc] at hdr3
      have hdr4 := hdr3
      rw [etr, List.cons_append] at hdr4
      obtain ⟨g5, _⟩ := drop_get hdr4
      refine ⟨_, rfl, p, dx3, _, rfl, k1, rf_no _ _ _ (by decide +kernel) (by decide +kernel) (by decide +kernel), p, F, xs, ts, _, d + 1, st.w, rfl, R3, g5, rfl, _, rfl, ?_⟩
      rw [dec_str]
      refine ifT (by have := (w_not st).2; unfold cbr at this; simpa using this) ?_
      have htt := tks_take hs
      refine ⟨fun σ' H' => ∃ vs, σ' = [some (.ref p), some (.ref D)] ∧ Rd K C H' p F xs ts (i + 1 + (tks (b.take (j + 1))).length) (d + 1) ∧ ts.drop (i + 1 + (tks (b.take (j + 1))).length) = tks (b.drop (j + 1)) ++ ([cbr] ++ r) ∧ H' D = some (.lst vs) ∧ DpAll K H' vs (ds (b.take (j + 1))) ∧ RG Ts p H H', fun σ' H' ⟨vs, e⟩ => ⟨b.length - (j + 1), by omega, j + 1, vs, rfl, by omega, e⟩, ?_⟩
      refine ⟨_, rfl, .inl ⟨rfl, _, SqL.of hD3⟩, _, rfl, p, dx3, _, rfl, k1, rf_no _ _ _ (by decide +kernel) (by decide +kernel) (by decide +kernel), p, F, xs, ts, _, d + 1, st, tks (b.drop (j + 1)) ++ ([cbr] ++ r), AL, BN, rfl, G3.t, R3, by omega, by omega, by omega, hdr3, ?_, oks_iff.mp hok st hsm, hA, hB, fun H4 v R4 dv G4 => ?_⟩
      · cases hb2 : b.drop (j + 1) with
        | nil => exact ⟨cbr, r, rfl, by decide +kernel⟩
        | cons s2 r2 =>
          obtain ⟨t2, e2⟩ := tk_head s2
          exact ⟨s2.w, t2 ++ tks r2 ++ ([cbr] ++ r), by rw [tks, e2]; simp, (w_not s2).1⟩
      · have hD4 := G4.k _ _ nD hD3
        have hvl := dps_len hv3
        rw [ds_len, List.length_take] at hvl
        refine ⟨D, _, _, rfl, rfl, hD4, Nat.lt_of_le_of_lt (show vs.length ≤ 1000 by omega) (by decide), ?_⟩
        have tU := Tk.put hD4 (.lst (vs ++ [v]))
        refine ⟨vs ++ [v], rfl, ?_, ?_, upd_same, ?_, (G3.trans G4).put hDn hD4 _⟩
        · rw [htt, List.length_append, ← Nat.add_assoc]
          exact R4.other hD4 nDF _
        · rw [htt, List.length_append, ← Nat.add_assoc]
          exact drop_app hdr3
        · rw [List.take_succ, hs]
          show DpAll K _ _ (ds (b.take j ++ [st]))
          rw [ds_app]
          exact dps_app ((G4.tk.trans tU).dps _ (tup_ds _) hv3) (.cons (tU.dp _ (tup_St st) dv) .nil)
    · have ej : j = b.length := by omega
      subst ej
      rw [List.take_length] at R3 hdr3 hv3
      rw [List.drop_length] at hdr3
      obtain ⟨g5, g6⟩ := drop_get (show ts.drop _ = cbr :: r from hdr3)
      refine ⟨_, rfl, p, dx3, _, rfl, k1, rf_no _ _ _ (by decide +kernel) (by decide +kernel) (by decide +kernel), p, F, xs, ts, _, d + 1, cbr, rfl, R3, g5, rfl, _, rfl, ?_⟩
      rw [dec_str]
      refine ifF (by decide +kernel) ?_
      refine ⟨_, rfl, p, dx3, _, rfl, k1, rf_no _ _ _ (by decide +kernel) (by decide +kernel) (by decide +kernel), p, F, xs, ts, _, d + 1, cbr, rfl, R3, g5, fun H4 R4 G4 => ?_⟩
      have G4 := G4 Ts G3.t
      obtain ⟨dx4, n1, n2, n3⟩ := id R4
      refine ⟨_, rfl, p, C, dx4, _, _, rfl, n1, T.cl, T.nD, rf_depth _ _ _, _, _, rfl, rfl, dx4, _, n1, (by show 3 < 1000; decide), ?_⟩
      rw [rf_put_depth]
      have tB := Tk.putI n1 (.ins C dx4 (rf F ((i + 1 + (tks b).length + 1 : Nat) : Int) (((d + 1 : Nat) : Int) - 1)))
      have R5 : Rd K C (upd H4 p (.ins C dx4 (rf F ((i + 1 + (tks b).length + 1 : Nat) : Int) (((d + 1 : Nat) : Int) - 1)))) p F xs ts (i + (btk b).length) d := ⟨dx4, by rw [upd_same, show (((d + 1 : Nat) : Int) - 1) = (d : Int) by omega, show i + (btk b).length = i + 1 + (tks b).length + 1 by unfold btk; simp; omega], by rw [upd_ne (fun z => by rw [z, n1] at n2; cases n2)]; exact n2, n3.same tB⟩
      have G5 : RG Ts p H4 (upd H4 p (.ins C dx4 (rf F ((i + 1 + (tks b).length + 1 : Nat) : Int) (((d + 1 : Nat) : Int) - 1)))) := ⟨tbs_upd G4.t n1 (fun ps z => by cases z), Kp.put _ (by simp), tB⟩
      generalize upd H4 p (.ins C dx4 (rf F ((i + 1 + (tks b).length + 1 : Nat) : Int) (((d + 1 : Nat) : Int) - 1))) = H5 at R5 G5
      have hD5 := G5.k _ _ nD (G4.k _ _ nD hD3)
      refine ⟨_, rfl, D, _, rfl, .inl ⟨SqL.of hD5, fun z hz => ?_⟩⟩
      have sz := same_new hz (.tup vs)
      exact q _ _ (R5.same sz) (.tup (SqT.of upd_same) ((G4.tk.trans (G5.tk.trans (Tk.same sz))).dps _ (tup_ds b) hv3)) ((G3.trans G4).trans (G5.trans (RG.same G5.t sz)))
end
end K00


set_option Elab.async false
set_option linter.all false
set_option maxRecDepth 100000
set_option maxHeartbeats 4000000
/-! lists that stand apart from the module table; a tuple beside the empty one -/
namespace UG
open PySem PySem.Spec PyProof.Rows L2
section
variable {X : Cx} {pins : List (Addr × Obj)} {σ : L2.St} {H : Hp} {s : Shared} {es : List Expr} {t : TA} {pos : Pos}
theorem new_sys (I : Inv X pins σ H s) : (s.heap.objs.size == sysModules) = false := beq_eq_false_iff_ne.mpr (Nat.ne_of_gt I.big)
def tLstS (t : TA) : TE := fun σ H Q => t σ H fun xs H1 => xs.length ≤ sizeLine ∧ ∀ p, H1 p = none → (p == sysModules) = false → Q (.ref p) (upd H1 p (.lst xs))
theorem pe_lstS (h : PA X es t) : PE X (.List es pos) (tLstS t) := by
  constructor
  intro pins s σ H Q J want
  refine wpAny_List_spliced (thn (h.run pos pins s σ H _ J want) ?_)
  rintro us s1 ⟨xs, H1, J1, rel, small, go⟩
  have len := rel.length
  refine ⟨by omega, .ref s1.heap.objs.size, _, J1.laid (t' := s1.toks) (o := .lst xs) (fun _ _ e => Heap.get?_push_of_some _ e) (Nat.le_refl _) ?_, rfl, go _ (J1.hok.fresh (Nat.le_refl _)) (new_sys J1)⟩
  exact ⟨small, us, 0, rel, Heap.get?_push_size _ rfl⟩
def rListS (K : PySem.W.Frag) : List V → Hp → VK → Prop := fun zs H Q => ∃ p ys, zs = [.ref p] ∧ SqT K H p ys ∧ ∀ l, H l = none → (l == sysModules) = false → Q (.ref l) (upd H l (.lst ys))
theorem call_list_ofS : CallR X (.type "list") (rListS X.K) := by
  intro pins s σ H zs us Q J rel want
  obtain ⟨p, ys, rfl, hp, go⟩ := want
  obtain ⟨u, rfl, ru⟩ := vals1 rel
  have eu : u = Value.ref p := ru
  subst eu
  obtain ⟨its, ri, pl, small⟩ := J.tuple hp
  have len := ri.length
  obtain ⟨o, ho, hc, n, hd⟩ := pl
  refine call_list_seq p (.inr rfl) ho hc hd (fun hh cap keep e => ?_) (by simp only [List.size_toArray] <;> omega)
  exact ⟨.ref s.heap.objs.size, _, J.laid (t' := s.toks) (o := .lst ys) keep (Nat.le_refl _) ⟨small, its, cap, ri, e⟩, rfl, go _ (J.hok.fresh (Nat.le_refl _)) (new_sys J)⟩
/-- t == (), t != (), whatever stands in t -/
def rEqT0 (K : PySem.W.Frag) : R2 := fun x y H Q => ∃ a b xs, x = .ref a ∧ y = .ref b ∧ SqT K H a xs ∧ SqT K H b [] ∧ Q (.bl xs.isEmpty) H
def rNeT0 (K : PySem.W.Frag) : R2 := fun x y H Q => ∃ a b xs, x = .ref a ∧ y = .ref b ∧ SqT K H a xs ∧ SqT K H b [] ∧ Q (.bl (!xs.isEmpty)) H
theorem empty_pair {x : List V} {its : List Value} (r : Vals x its) (e : Nat → Bool) : ((List.range (min its.toArray.size ([] : List Value).toArray.size)).all e && its.toArray.size == ([] : List Value).toArray.size) = x.isEmpty := by
  cases r with
  | nil => rfl
  | cons _ _ => simp
theorem op_eqT0 (room : X.A.units + 64 < cLine) : OpR X (compareOp .Eq) (rEqT0 X.K) := by
  intro pins s σ H x y v u Q J rx ry want
  obtain ⟨a, b, xs, rfl, rfl, ha, hb, go⟩ := want
  have ev : v = Value.ref a := rx
  have eu : u = Value.ref b := ry
  subst ev; subst eu
  obtain ⟨its, ri, ⟨o, ho, hc, n, hd⟩, _⟩ := J.tuple ha
  obtain ⟨jts, rj, ⟨o2, ho2, hc2, n2, hd2⟩, _⟩ := J.tuple hb
  cases rj
  have both : SeqAt.RcAt X.A s (.ref a) (.ref b) ((List.range (min its.toArray.size ([] : List Value).toArray.size)).all (fun _ => true) && its.toArray.size == ([] : List Value).toArray.size) :=
    SeqAt.RcAt.tuples ⟨o, ho, hc, n, hd⟩ ⟨o2, ho2, hc2, n2, hd2⟩ (by omega) (fun j h1 h2 => absurd h2 (Nat.not_lt_zero _))
  rw [empty_pair ri] at both
  exact both X.prog X.w X.xe _ ⟨.bl _, H, J, rfl, go⟩
theorem op_neT0 (room : X.A.units + 64 < cLine) : OpR X (compareOp .NotEq) (rNeT0 X.K) := by
  intro pins s σ H x y v u Q J rx ry want
  obtain ⟨a, b, xs, rfl, rfl, ha, hb, go⟩ := want
  have ev : v = Value.ref a := rx
  have eu : u = Value.ref b := ry
  subst ev; subst eu
  obtain ⟨its, ri, ⟨o, ho, hc, n, hd⟩, _⟩ := J.tuple ha
  obtain ⟨jts, rj, ⟨o2, ho2, hc2, n2, hd2⟩, _⟩ := J.tuple hb
  cases rj
  have both : SeqAt.RcNeAt X.A s (.ref a) (.ref b) (!((List.range (min its.toArray.size ([] : List Value).toArray.size)).all (fun _ => true) && its.toArray.size == ([] : List Value).toArray.size)) :=
    SeqAt.RcNeAt.tuples ⟨o, ho, hc, n, hd⟩ ⟨o2, ho2, hc2, n2, hd2⟩ (by omega) (fun j h1 h2 => absurd h2 (Nat.not_lt_zero _))
  rw [empty_pair ri] at both
  exact both X.prog X.w X.xe _ ⟨.bl _, H, J, rfl, go⟩
end
end UG


set_option Elab.async false
set_option linter.all false
set_option maxRecDepth 100000
set_option maxHeartbeats 8000000
namespace K00
open PySem PySem.Spec PyProof.Rows L2
/-! ### any object: what it is judged to be -/
def plW : List Str := ["do", "undo", "call"]
def plB (w : Str) : Bool := plW.any fun z => decide (w = z)
def oneB (f : PyData → Bool) : List PyData → Bool
  | [x] => f x
  | _ => false
theorem oneB_no {f : PyData → Bool} : ∀ {l : List PyData}, l.length ≠ 1 → oneB f l = false
  | [], _ => rfl
  | [_], h => absurd rfl h
  | _ :: _ :: _, _ => rfl
/-- a statement, but for what its bodies are -/
def stB : PyData → Bool
  | .tuple (.str w :: rest) => if plB w then oneB nameD rest else if decide (w = "choose") then oneB (rowD · 2 6) rest
    else if decide (w = "loop") then decide (rest.length = 1) else if decide (w = "ensure") then decide (rest.length = 2) else decide (w = "return") && decide (rest.length = 0)
  | _ => false
/-- its bodies -/
def bsD : PyData → List PyData
  | .tuple (.str w :: rest) => if decide (w = "choose") then (match rest with | .tuple bs :: _ => bs | _ => []) else if decide (w = "loop") || decide (w = "ensure") then rest else []
  | _ => []
def sumO : List (Option Nat) → Option Nat
  | [] => some 0
  | none :: _ => none
  | some a :: r => (sumO r).map (a + ·)
def stmW (f : PyData → Option Nat) (d : PyData) : Option Nat := if stB d then (sumO ((bsD d).map f)).map (1 + ·) else none
/-- how many statements stand in a body with so many bodies one in another; none: it is no body -/
def bodyN : Nat → PyData → Option Nat
  | 0, .tuple ss => if ss.isEmpty then some 0 else none
  | n + 1, .tuple ss => if ss.length ≤ 60 then sumO (ss.map (stmW (bodyN n))) else none
  | _, _ => none
def fits (o : Option Nat) : Bool := match o with
  | some k => decide (k ≤ 200)
  | none => false
def procB : PyData → Bool
  | .tuple [x, _] => nameD x
  | _ => false
def procBody : PyData → PyData
  | .tuple [_, b] => b
  | _ => .none
def tl : PyData → List PyData
  | .tuple xs => xs
  | _ => []
def isProgB : PyData → Bool
  | .tuple [l, p] => rowD l 1 20 && (rowD p 1 8 && ((tl p).all procB && ((tl l).all nameD && fits (sumO (((tl p).map procBody).map (bodyN 12))))))
  | _ => false
-- how great it is
mutual
def szD : PyData → Nat
  | .list xs => 1 + szL xs
  | .tuple xs => 1 + szL xs
  | .str x => 1 + x.length
  | _ => 1
def szL : List PyData → Nat
  | [] => 0
  | x :: r => szD x + szL r
end
theorem szD_pos (d : PyData) : 1 ≤ szD d := by cases d <;> simp [szD]
theorem szL_app : ∀ a b : List PyData, szL (a ++ b) = szL a + szL b
  | [], b => by simp [szL]
  | x :: r, b => by rw [List.cons_append, szL, szL, szL_app r b]; omega
theorem szL_len : ∀ a : List PyData, a.length ≤ szL a
  | [] => Nat.zero_le _
  | x :: r => by
    have := szL_len r
    have := szD_pos x
    rw [szL, List.length_cons]; omega
theorem szL_mem : ∀ {a : List PyData} {x : PyData}, x ∈ a → szD x ≤ szL a
  | y :: r, x, h => by
    rw [szL]
    rcases List.mem_cons.mp h with rfl | h
    · omega
    · have := szL_mem h; omega
theorem szL_take : ∀ (a : List PyData) (i : Nat), szL (a.take i) ≤ szL a
  | [], i => by simp
  | x :: r, 0 => by simp [szL]
  | x :: r, i + 1 => by have := szL_take r i; rw [List.take_succ_cons, szL, szL]; omega
theorem szL_drop : ∀ (a : List PyData) (i : Nat), szL (a.drop i) ≤ szL a
  | [], i => by simp
  | x :: r, 0 => by simp
  | x :: r, i + 1 => by have := szL_drop r i; rw [List.drop_succ_cons, szL]; omega
def chB (rest : List PyData) : List PyData := match rest with
  | .tuple bs :: _ => bs
  | _ => []
theorem bsD_eq (w : Str) (rest : List PyData) : bsD (.tuple (.str w :: rest)) = if decide (w = "choose") then chB rest else if decide (w = "loop") || decide (w = "ensure") then rest else [] := rfl
theorem chB_sz : ∀ rest : List PyData, szL (chB rest) ≤ szL rest
  | [] => Nat.le_refl _
  | .tuple bs :: r => by
    show szL bs ≤ szL (.tuple bs :: r)
    rw [szL, szD]; omega
  | .none :: _ | .bool _ :: _ | .int _ :: _ | .str _ :: _ | .list _ :: _ | .dict _ :: _ => Nat.zero_le _
theorem bsD_sz (d : PyData) : szL (bsD d) + 1 ≤ szD d := by
  cases d with
  | tuple xs =>
    cases xs with
    | nil => simp [bsD, szL, szD]
    | cons x rest =>
      cases x with
      | str w =>
        rw [bsD_eq]
        have hp := szD_pos (.str w)
        have hc := chB_sz rest
        rw [szD, szL]
        by_cases h1 : decide (w = "choose") = true
        · rw [if_pos h1]; omega
        · rw [if_neg h1]
          by_cases h2 : (decide (w = "loop") || decide (w = "ensure")) = true
          · rw [if_pos h2]; omega
          · rw [if_neg h2]; simp [szL]
      | _ => simp [bsD, szL, szD]
  | _ => simp [bsD, szL, szD]
theorem flat_sz : ∀ ss : List PyData, szL (ss.flatMap bsD) ≤ szL ss
  | [] => by simp
  | s :: r => by
    have := flat_sz r
    have := bsD_sz s
    rw [List.flatMap_cons, szL_app, szL]
    omega
/-! ### sums -/
theorem sumO_cons (o : Option Nat) (r : List (Option Nat)) : sumO (o :: r) = o.bind fun a => (sumO r).map (a + ·) := by cases o <;> rfl
theorem sumO_app : ∀ a b : List (Option Nat), sumO (a ++ b) = (sumO a).bind fun x => (sumO b).map (x + ·)
  | [], b => by
    show sumO b = (sumO b).map (0 + ·)
    cases sumO b <;> simp
  | o :: r, b => by
    rw [List.cons_append, sumO_cons, sumO_cons, sumO_app r b]
    cases o with
    | none => rfl
    | some a =>
      cases sumO r with
      | none => rfl
      | some c =>
        cases sumO b with
        | none => rfl
        | some e => simp [Nat.add_assoc]
theorem sumO_none : ∀ {l : List (Option Nat)}, none ∈ l → sumO l = none
  | none :: r, _ => rfl
  | some a :: r, h => by
    have : none ∈ r := by simpa using h
    show (sumO r).map _ = none
    rw [sumO_none this]; rfl
theorem sumO_mem : ∀ {l : List (Option Nat)} {k : Nat} {o : Option Nat}, sumO l = some k → o ∈ l → ∃ j, o = some j ∧ j ≤ k
  | none :: r, k, o, h, _ => by cases h
  | some a :: r, k, o, h, ho => by
    rw [sumO_cons] at h
    cases hr : sumO r with
    | none => rw [hr] at h; cases h
    | some c =>
      rw [hr] at h
      have hk : a + c = k := by simpa using h
      rcases List.mem_cons.mp ho with rfl | ho
      · exact ⟨a, rfl, by omega⟩
      · obtain ⟨j, e, le⟩ := sumO_mem hr ho
        exact ⟨j, e, by omega⟩
/-- all statements right: their number, and what stands in their bodies -/
theorem sum_flat {f : PyData → Option Nat} : ∀ {ss : List PyData}, (∀ s ∈ ss, stB s = true) → sumO (ss.map (stmW f)) = (sumO ((ss.flatMap bsD).map f)).map (ss.length + ·)
  | [], _ => rfl
  | s :: r, h => by
    have ih := sum_flat (f := f) (ss := r) fun x hx => h x (by simp [hx])
    rw [List.map_cons, sumO_cons, ih, List.flatMap_cons, List.map_append, sumO_app]
    unfold stmW
    rw [if_pos (h s (by simp))]
    cases sumO ((bsD s).map f) with
    | none => rfl
    | some a =>
      cases sumO ((r.flatMap bsD).map f) with
      | none => rfl
      | some b =>
        simp
        omega
theorem stm_none {f : PyData → Option Nat} {ss : List PyData} {s : PyData} (hs : s ∈ ss) (h : stB s = false) : sumO (ss.map (stmW f)) = none := by
  refine sumO_none ?_
  refine List.mem_map.mpr ⟨s, hs, ?_⟩
  unfold stmW
  rw [h]
  rfl
theorem body_row {n : Nat} {d : PyData} (h : rowD d 0 60 = false) : bodyN n d = none := by
  cases d with
  | tuple ss =>
    have hl : ¬ ss.length ≤ 60 := by
      intro z
      have : (decide ((0 : Int) ≤ (ss.length : Int)) && decide ((ss.length : Int) ≤ 60)) = false := h
      rw [Bool.and_eq_false_iff, decide_eq_false_iff_not, decide_eq_false_iff_not] at this
      omega
    cases n with
    | zero =>
      cases ss with
      | nil => simp at hl
      | cons _ _ => rfl
    | succ n => exact if_neg hl
  | _ => cases n <;> rfl
theorem len_of_row {ss : List PyData} (h : rowD (.tuple ss) 0 60 = true) : ss.length ≤ 60 := by
  have : (decide ((0 : Int) ≤ (ss.length : Int)) && decide ((ss.length : Int) ≤ 60)) = true := h
  rw [Bool.and_eq_true, decide_eq_true_eq, decide_eq_true_eq] at this
  omega
theorem stm_pos {f : PyData → Option Nat} {d : PyData} {k : Nat} (h : stmW f d = some k) : 1 ≤ k := by
  unfold stmW at h
  split at h
  · cases e : sumO ((bsD d).map f) with
    | none => rw [e] at h; cases h
    | some a => rw [e] at h; have : 1 + a = k := by simpa using h
                omega
  · cases h
theorem sum_len {f : PyData → Option Nat} : ∀ {ss : List PyData} {k : Nat}, sumO (ss.map (stmW f)) = some k → ss.length ≤ k
  | [], k, _ => Nat.zero_le _
  | s :: r, k, h => by
    rw [List.map_cons, sumO_cons] at h
    cases e : stmW f s with
    | none => rw [e] at h; cases h
    | some a =>
      rw [e] at h
      cases e2 : sumO (r.map (stmW f)) with
      | none => rw [e2] at h; cases h
      | some b =>
        rw [e2] at h
        have hk : a + b = k := by simpa using h
        have := stm_pos e
        have := sum_len e2
        rw [List.length_cons]; omega
theorem body_len {n : Nat} {ss : List PyData} {k : Nat} (h : bodyN n (.tuple ss) = some k) : ss.length ≤ k := by
  cases n with
  | zero =>
    cases ss with
    | nil => exact Nat.zero_le _
    | cons _ _ => cases h
  | succ n =>
    unfold bodyN at h
    split at h
    · exact sum_len h
    · cases h
end K00


set_option Elab.async false
set_option linter.all false
set_option maxRecDepth 100000
set_option maxHeartbeats 8000000
namespace K00
open PySem PySem.Spec PyProof.Rows L2
theorem stB_eq (w : Str) (rest : List PyData) : stB (.tuple (.str w :: rest)) = if plB w then oneB nameD rest else if decide (w = "choose") then oneB (rowD · 2 6) rest
    else if decide (w = "loop") then decide (rest.length = 1) else if decide (w = "ensure") then decide (rest.length = 2) else decide (w = "return") && decide (rest.length = 0) := rfl
theorem cut_tail (x : V) (r : List V) : cutV (x :: r) (some 1) none = r := by
  unfold cutV
  have e1 : HT.sIx (x :: r).length 0 (some 1) = 1 := by
    rw [show (1 : Int) = ((1 : Nat) : Int) from rfl, sIx_lo (by simp)]
  have e2 : HT.sIx (x :: r).length (x :: r).length none = (x :: r).length := rfl
  rw [e1, e2]
  simp
theorem str_sz {s : Str} {n : Nat} (h : szD (.str s) ≤ n) (hn : n ≤ 1000000) : s.length ≤ sizeLine := by
  rw [szD] at h
  exact Nat.le_trans (show s.length ≤ 1000000 by omega) (by decide)
theorem strD_sz {d : PyData} (h : szD d ≤ 1000000) : strD d := by
  cases d with
  | str s => exact str_sz h (Nat.le_refl _)
  | _ => trivial
theorem row_1 {ds : List PyData} (h : rowD (.tuple ds) 1 3 = true) : ∃ d0 rest, ds = d0 :: rest ∧ rest.length ≤ 2 := by
  have : (decide ((1 : Int) ≤ (ds.length : Int)) && decide ((ds.length : Int) ≤ 3)) = true := h
  rw [Bool.and_eq_true, decide_eq_true_eq, decide_eq_true_eq] at this
  cases ds with
  | nil => simp at this
  | cons d r => exact ⟨d, r, rfl, by rw [List.length_cons] at this; omega⟩
theorem stB_long {w : Str} {rest : List PyData} (h : 2 < rest.length) : stB (.tuple (.str w :: rest)) = false := by
  rw [stB_eq]
  rw [oneB_no (show rest.length ≠ 1 by omega), oneB_no (show rest.length ≠ 1 by omega), decide_eq_false (show ¬ rest.length = 1 by omega), decide_eq_false (show ¬ rest.length = 2 by omega), decide_eq_false (show ¬ rest.length = 0 by omega)]
  simp
theorem stB_norow {d : PyData} (h : rowD d 1 3 = false) : stB d = false := by
  cases d with
  | tuple ds =>
    have h : (decide ((1 : Int) ≤ (ds.length : Int)) && decide ((ds.length : Int) ≤ 3)) = false := h
    rw [Bool.and_eq_false_iff, decide_eq_false_iff_not, decide_eq_false_iff_not] at h
    cases ds with
    | nil => rfl
    | cons d0 r =>
      cases d0 with
      | str w => exact stB_long (by rw [List.length_cons] at h; omega)
      | _ => rfl
  | _ => rfl
theorem stB_nostr {d0 : PyData} {rest : List PyData} (h : isiD "str" d0 = false) : stB (.tuple (d0 :: rest)) = false := by
  cases d0 with
  | str w => exact absurd (show isiD "str" (.str w) = true from rfl) (by rw [h]; decide)
  | _ => rfl
section
variable {P : Program} {w : World} {K : PySem.W.Frag} {mg : Str → Option Value} {base : Heap}

def spStA (K : PySem.W.Frag) (Ts : List Addr) : Sp := fun vs H Q _ => ∃ v d, vs = [v] ∧ Dp K H v d ∧ szD d ≤ 1000000 ∧ Tbs Ts H ∧ ∀ H', Go Ts H H' → Q (.bl (stB d)) H'
theorem ok_stA {Ts : List Addr} {f : Addr} {fd : FuncData} (F : C8.Def K mg "_is_statement" (topS 41) f fd) (b : Binds K fd ["thing"] []) (B : Bl K mg) (c_is_row : C8.Cal P w K mg base 1 "is_row" (spRow K) []) (c_is_name : C8.Cal P w K mg base 4 "is_name" (spName K Ts) []) : C8.Cal P w K mg base 5 "_is_statement" (spStA K Ts) [] := by
  refine C8.cal0 F b .nil sc__is_statement ?len ?body
  case len => rintro vs H Q E ⟨v, d, rfl, _⟩; rfl
  case body =>
    rintro cdv A outer s H vs Q E hr ⟨v, d, rfl, hd, hsz, hTb, q⟩
    refine ⟨_, (pss_cons (ps_if (PW.pt (pw_or (pt_not (pt_val (C8.pe_c c_is_row hr (by decide) rfl (pa_cons (pv 0) (pa_cons pe_int (pa_cons pe_int pa_nil)))))) (pw_or1 (pt_not (pt_val (pe_isD (c := "str") B (pe_ix ix_tup (pv 0) pe_int (fun _ _ => rfl)) rfl rfl B.str (by decide +kernel) (by decide))))))) (pss_one (ps_ret pe_bl)) pss_nil)
    (pss_cons (ps_set (i := 1) sc__is_statement.nd rfl (Or.inl rfl) (pe_ix ix_tup (pv 0) pe_int (fun _ _ => rfl)))
    (pss_cons (ps_if (pt_cmpR op_in_seq (pv 1) (pe_tup (pa_cons pe_str (pa_cons pe_str (pa_cons pe_str pa_nil)))) (by with_unfolding_all rfl)) (pss_one (ps_ret (pe_and (pe_cmpR op_eq (pe_callB call_len_seq rfl B.len PySem.boot_len (pa_cons (pv 0) pa_nil)) pe_int (nomark _)) (pe_one (C8.pe_c c_is_name hr (by decide) rfl (pa_cons (pe_ix ix_tup (pv 0) pe_int (fun _ _ => rfl)) pa_nil)))))) pss_nil)
    (pss_cons (ps_if (pt_cmpR op_eq (pv 1) pe_str (nomark _)) (pss_one (ps_ret (pe_and (pe_cmpR op_eq (pe_callB call_len_seq rfl B.len PySem.boot_len (pa_cons (pv 0) pa_nil)) pe_int (nomark _)) (pe_one (C8.pe_c c_is_row hr (by decide) rfl (pa_cons (pe_ix ix_tup (pv 0) pe_int (fun _ _ => rfl)) (pa_cons (pe_glob (v := .int 2) rfl B.LEAST_BODIES.choose_spec ⟨_, rfl⟩) (pa_cons (pe_glob (v := .int 6) rfl B.MOST_BODIES.choose_spec ⟨_, rfl⟩) pa_nil)))))))) pss_nil)
    (pss_cons (ps_if (pt_cmpR op_eq (pv 1) pe_str (nomark _)) (pss_one (ps_ret (pe_cmpR op_eq (pe_callB call_len_seq rfl B.len PySem.boot_len (pa_cons (pv 0) pa_nil)) pe_int (nomark _)))) pss_nil)
    (pss_cons (ps_if (pt_cmpR op_eq (pv 1) pe_str (nomark _)) (pss_one (ps_ret (pe_cmpR op_eq (pe_callB call_len_seq rfl B.len PySem.boot_len (pa_cons (pv 0) pa_nil)) pe_int (nomark _)))) pss_nil)
    (pss_one (ps_ret (pe_and (pe_cmpR op_eq (pv 1) pe_str (nomark _)) (pe_one (pe_cmpR op_eq (pe_callB call_len_seq rfl B.len PySem.boot_len (pa_cons (pv 0) pa_nil)) pe_int (nomark _)))))))))))), ?_⟩
    have hd0 := hd
    refine ⟨_, rfl, _, _, 1, 3, rfl, hd0, _, rfl, ?_⟩
    cases hrow : rowD d 1 3 with
    | false =>
      refine iteT ?_
      rw [stB_norow hrow] at q
      exact q H (Go.refl hTb)
    | true =>
    refine iteF ?_
    obtain ⟨ds, rfl⟩ : ∃ ds, d = .tuple ds := by
      cases d with
      | tuple ds => exact ⟨ds, rfl⟩
      | _ => cases hrow
    obtain ⟨d0, rest, rfl, hlen⟩ := row_1 hrow
    obtain ⟨a, xs, rfl, hs, ha, hl⟩ := len_ok hd
    cases ha with
    | @cons v0 vr _ _ h0 ha =>
    have hlr : vr.length = rest.length := dps_len ha
    refine ⟨_, rfl, _, _, _, _, rfl, rfl, hs, at0 _ _, v0, d0, rfl, h0, _, rfl, ?_⟩
    cases hstr : isiD "str" d0 with
    | false =>
      refine iteT ?_
      rw [stB_nostr hstr] at q
      exact q H (Go.refl hTb)
    | true =>
    refine iteF ?_
    obtain ⟨wd, rfl⟩ := str_of hstr
    cases h0
    rw [stB_eq] at q
    refine ⟨_, rfl, _, _, _, _, rfl, rfl, hs, at0 _ _, ?_⟩
    refine ⟨_, rfl, (by show 3 ≤ sizeLine; decide), fun p hp => ⟨p, _, rfl, .inr (SqT.of upd_same), rfl, rfl, _, rfl, ?_⟩⟩
    have sN := same_new hp (.tup [.str "do", .str "undo", .str "call"])
    have hs' := sqt_ext (same_ext sN) hs
    have ha' := dps_ext (same_ext sN) _ ha
    have gN := Go.of_same hTb sN
    have qN := fun H' g => q H' (gN.trans g)
    clear q
    have eW : inV (.str wd) [.str "do", .str "undo", .str "call"] = plB wd := inV_str wd plW
    rw [eW]
    generalize upd H p (.tup [.str "do", .str "undo", .str "call"]) = H1 at hs' ha' gN qN
    have hTb1 := gN.1
    cases h1 : plB wd with
    | true =>
      rw [h1, if_pos rfl] at qN
      refine iteT ⟨_, rfl, a, _, rfl, .inr hs', rfl, _, rfl, ?_⟩
      rw [dec_int]
      by_cases h2 : rest.length = 1
      · obtain ⟨x, rfl⟩ : ∃ x, rest = [x] := by
          match rest, h2 with
          | [x], _ => exact ⟨x, rfl⟩
        cases ha' with
        | @cons v1 _ _ _ hx ha2 =>
        cases ha2
        rw [decide_eq_true (show (((V.str wd :: [v1]).length : Nat) : Int) = 2 from rfl)]
        refine iteT ⟨_, rfl, _, _, _, _, rfl, rfl, hs', at1 _ _ _, v1, x, rfl, hx, strD_sz ?_, hTb1, fun H2 g2 => qN H2 g2⟩
        rw [szD, szL, szL] at hsz
        omega
      · rw [decide_eq_false (show ¬ (((V.str wd :: vr).length : Nat) : Int) = 2 by rw [List.length_cons]; omega)]
        refine iteF ?_
        rw [oneB_no h2] at qN
        exact qN _ (Go.refl hTb1)
    | false =>
    rw [h1, if_neg (by decide)] at qN
    refine iteF ⟨_, rfl, rfl, _, rfl, ?_⟩
    rw [dec_str]
    by_cases hc : wd = "choose"
    · rw [decide_eq_true hc] at qN ⊢
      rw [if_pos rfl] at qN
      refine iteT ⟨_, rfl, a, _, rfl, .inr hs', rfl, _, rfl, ?_⟩
      rw [dec_int]
      by_cases h2 : rest.length = 1
      · obtain ⟨x, rfl⟩ : ∃ x, rest = [x] := by
          match rest, h2 with
          | [x], _ => exact ⟨x, rfl⟩
        cases ha' with
        | @cons v1 _ _ _ hx ha2 =>
        cases ha2
        rw [decide_eq_true (show (((V.str wd :: [v1]).length : Nat) : Int) = 2 from rfl)]
        exact iteT ⟨_, rfl, _, _, _, _, rfl, rfl, hs', at1 _ _ _, v1, x, 2, 6, rfl, hx, qN _ (Go.refl hTb1)⟩
      · rw [decide_eq_false (show ¬ (((V.str wd :: vr).length : Nat) : Int) = 2 by rw [List.length_cons]; omega)]
        refine iteF ?_
        rw [oneB_no h2] at qN
        exact qN _ (Go.refl hTb1)
    rw [decide_eq_false hc] at qN ⊢
    rw [if_neg (by decide)] at qN
    refine iteF ⟨_, rfl, rfl, _, rfl, ?_⟩
    rw [dec_str]
    have lens : ∀ k : Nat, decide ((((V.str wd :: vr).length : Nat) : Int) = ((k + 1 : Nat) : Int)) = decide (rest.length = k) := fun k => by
      by_cases h : rest.length = k
      · rw [decide_eq_true h, decide_eq_true (by rw [List.length_cons]; omega)]
      · rw [decide_eq_false h, decide_eq_false (by rw [List.length_cons]; omega)]
    by_cases hlp : wd = "loop"
    · rw [decide_eq_true hlp] at qN ⊢
      rw [if_pos rfl] at qN
      refine iteT ⟨_, rfl, a, _, rfl, .inr hs', rfl, ?_⟩
      rw [dec_int, show ((2 : Int)) = ((1 + 1 : Nat) : Int) from rfl, lens 1]
      exact qN _ (Go.refl hTb1)
    rw [decide_eq_false hlp] at qN ⊢
    rw [if_neg (by decide)] at qN
    refine iteF ⟨_, rfl, rfl, _, rfl, ?_⟩
    rw [dec_str]
    by_cases he : wd = "ensure"
    · rw [decide_eq_true he] at qN ⊢
      rw [if_pos rfl] at qN
      refine iteT ⟨_, rfl, a, _, rfl, .inr hs', rfl, ?_⟩
      rw [dec_int, show ((3 : Int)) = ((2 + 1 : Nat) : Int) from rfl, lens 2]
      exact qN _ (Go.refl hTb1)
    rw [decide_eq_false he] at qN ⊢
    rw [if_neg (by decide)] at qN
    refine iteF ⟨_, rfl, rfl, _, rfl, ?_⟩
    rw [dec_str]
    by_cases hrt : wd = "return"
    · rw [decide_eq_true hrt] at qN ⊢
      refine iteT ⟨_, rfl, a, _, rfl, .inr hs', rfl, ?_⟩
      rw [dec_int, show ((1 : Int)) = ((0 + 1 : Nat) : Int) from rfl, lens 0]
      exact qN _ (Go.refl hTb1)
    · rw [decide_eq_false hrt] at qN ⊢
      exact iteF (qN _ (Go.refl hTb1))

def spBoA (K : PySem.W.Frag) : Sp := fun vs H Q _ => ∃ v d H0, vs = [v] ∧ Dp K H0 v d ∧ LamX.ExtN H0 H ∧ stB d = true ∧ ∀ a ys H', Same H H' → SqT K H' a ys → DpAll K H0 ys (bsD d) → Q (.ref a) H'
theorem ok_boA {f : Addr} {fd : FuncData} (F : C8.Def K mg "bodies_of" (topS 42) f fd) (b : Binds K fd ["statement"] []) (B : Bl K mg) : C8.Cal P w K mg base 1 "bodies_of" (spBoA K) [] := by
  refine C8.cal0 F b .nil sc_bodies_of ?len ?body
  case len => rintro vs H Q E ⟨v, d, H0, rfl, _⟩; rfl
  case body =>
    rintro cdv A outer s H vs Q E hr ⟨v, d, H0, rfl, hd, hx0, hst, q⟩
    refine ⟨_, (pss_cons (ps_if (pt_cmpR op_eq (pe_ix ix_tup (pv 0) pe_int (fun _ _ => rfl)) pe_str (nomark _)) (pss_one (ps_ret (pe_ix ix_tup (pv 0) pe_int (fun _ _ => rfl)))) pss_nil)
    (pss_cons (ps_if (pt_cmpR op_in_seq (pe_ix ix_tup (pv 0) pe_int (fun _ _ => rfl)) (pe_tup (pa_cons pe_str (pa_cons pe_str pa_nil))) (by with_unfolding_all rfl)) (pss_one (ps_ret (pe_slice sl_tupA (pv 0) (po_some pe_int) po_none))) pss_nil)
    (pss_one (ps_ret (pe_tup pa_nil))))), ?_⟩
    obtain ⟨wd, rest, rfl⟩ : ∃ wd rest, d = .tuple (.str wd :: rest) := by
      cases d with
      | tuple ds =>
        cases ds with
        | nil => cases hst
        | cons d0 r =>
          cases d0 with
          | str wd => exact ⟨wd, r, rfl⟩
          | _ => cases hst
      | _ => cases hst
    obtain ⟨a, xs, rfl, hs0, ha, hl⟩ := len_ok hd
    have hs := sqt_ext hx0 hs0
    cases ha with
    | @cons v0 vr _ _ h0 ha =>
    cases h0
    rw [bsD_eq] at q
    rw [stB_eq] at hst
    refine ⟨_, rfl, _, _, _, _, rfl, rfl, hs, at0 _ _, rfl, _, rfl, ?_⟩
    rw [dec_str]
    by_cases hc : wd = "choose"
    · rw [decide_eq_true hc] at q ⊢
      rw [if_pos rfl] at q
      have hpl : plB wd = false := by rw [hc]; decide +kernel
      rw [hpl, if_neg (by decide), decide_eq_true hc, if_pos rfl] at hst
      obtain ⟨x, rfl⟩ : ∃ x, rest = [x] := by
        match rest, hst with
        | [x], _ => exact ⟨x, rfl⟩
      obtain ⟨bs, rfl⟩ : ∃ bs, x = .tuple bs := by
        cases x with
        | tuple bs => exact ⟨bs, rfl⟩
        | _ => cases hst
      cases ha with
      | @cons v1 _ _ _ hx ha2 =>
      obtain ⟨ba, bxs, rfl, hb, hbb, _⟩ := len_ok hx
      exact iteT ⟨_, rfl, _, _, _, _, rfl, rfl, hs, at1 _ _ _, q ba bxs H (Same.refl H) (sqt_ext hx0 hb) hbb⟩
    · rw [decide_eq_false hc] at q ⊢
      rw [if_neg (by decide)] at q
      refine iteF ⟨_, rfl, _, _, _, _, rfl, rfl, hs, at0 _ _, (by show 2 ≤ sizeLine; decide), fun p hp => ⟨p, _, rfl, .inr (SqT.of upd_same), rfl, rfl, _, rfl, ?_⟩⟩
      have s1 := same_new hp (.tup [.str "loop", .str "ensure"])
      have hs1 := sqt_ext (same_ext s1) hs
      have eW : inV (.str wd) [.str "loop", .str "ensure"] = (decide (wd = "loop") || decide (wd = "ensure")) := by
        have := inV_str wd ["loop", "ensure"]
        simpa using this
      rw [eW]
      cases h2 : decide (wd = "loop") || decide (wd = "ensure") with
      | true =>
        rw [h2, if_pos rfl] at q
        refine iteT ⟨_, rfl, 1, rfl, a, _, rfl, hs1, fun z => ?_, fun _ r hr2 => ?_⟩
        · exfalso
          have := z.1
          rw [show (1 : Int) = ((1 : Nat) : Int) from rfl, sIx_lo (by simp)] at this
          cases this
        · rw [cut_tail]
          exact q r vr _ (s1.trans (same_new hr2 _)) (SqT.of upd_same) ha
      | false =>
        rw [h2, if_neg (by decide)] at q
        refine iteF ⟨(by show 0 ≤ sizeLine; decide), fun p2 hp2 => ?_⟩
        exact q p2 [] _ (s1.trans (same_new hp2 _)) (SqT.of upd_same) .nil
end
end K00


set_option Elab.async false
set_option linter.all false
set_option maxRecDepth 100000
set_option maxHeartbeats 8000000
namespace K00
open PySem PySem.Spec PyProof.Rows L2
/-! ### any bodies -/
def totO (st : List (PyData × Nat)) : Option Nat := sumO (st.map fun e => bodyN (13 - e.2) e.1)
def okT (c : Nat) (st : List (PyData × Nat)) : Bool := match totO st with
  | some k => decide (c + k ≤ 200)
  | none => false
theorem totO_app (a b : List (PyData × Nat)) : totO (a ++ b) = (totO a).bind fun x => (totO b).map (x + ·) := by
  unfold totO
  rw [List.map_append, sumO_app]
theorem totO_one (b : PyData) (d : Nat) : totO [(b, d)] = bodyN (13 - d) b := by
  unfold totO
  rw [List.map_cons, sumO_cons]
  cases bodyN (13 - d) b <;> simp [sumO]
theorem okT_none {c : Nat} {st : List (PyData × Nat)} {b : PyData} {d : Nat} (h : bodyN (13 - d) b = none) : okT c (st ++ [(b, d)]) = false := by
  unfold okT
  rw [totO_app, totO_one, h]
  cases totO st <;> rfl
theorem okT_more {c : Nat} {st : List (PyData × Nat)} {ss : List PyData} {d : Nat} (h : 200 < c + ss.length) : okT c (st ++ [(.tuple ss, d)]) = false := by
  unfold okT
  rw [totO_app, totO_one]
  cases totO st with
  | none => rfl
  | some a =>
    cases e : bodyN (13 - d) (.tuple ss) with
    | none => rfl
    | some k =>
      have := body_len e
      exact decide_eq_false (show ¬ c + (a + k) ≤ 200 by omega)
def pushA (d : Nat) (bs : List PyData) : List (PyData × Nat) := bs.map fun b => (b, d)
theorem pushA_fst (d : Nat) (bs : List PyData) : (pushA d bs).map Prod.fst = bs := by
  unfold pushA
  rw [List.map_map]
  exact List.map_id' bs
theorem pushA_app (d : Nat) (a b : List PyData) : pushA d (a ++ b) = pushA d a ++ pushA d b := by
  unfold pushA
  rw [List.map_append]
theorem totO_push (d : Nat) (bs : List PyData) : totO (pushA d bs) = sumO (bs.map (bodyN (13 - d))) := by
  unfold totO pushA
  rw [List.map_map]
  rfl
/-- a body gives its statements' bodies -/
theorem okT_step {c d : Nat} {st : List (PyData × Nat)} {ss : List PyData} (hl : ss.length ≤ 60) (hs : ∀ s ∈ ss, stB s = true) (hd : ss = [] ∨ d ≤ 12) :
    okT c (st ++ [(.tuple ss, d)]) = okT (c + ss.length) (st ++ pushA (d + 1) (ss.flatMap bsD)) := by
  have e : totO [(.tuple ss, d)] = (totO (pushA (d + 1) (ss.flatMap bsD))).map (ss.length + ·) := by
    rw [totO_one, totO_push]
    rcases hd with rfl | hd
    · cases h : 13 - d with
      | zero => rfl
      | succ n => rfl
    · rw [show 13 - d = (13 - (d + 1)) + 1 by omega]
      unfold bodyN
      rw [if_pos hl, sum_flat hs]
  unfold okT
  rw [totO_app, totO_app, e]
  cases totO st with
  | none => rfl
  | some a =>
    cases totO (pushA (d + 1) (ss.flatMap bsD)) with
    | none => rfl
    | some b =>
      show decide (c + (a + (ss.length + b)) ≤ 200) = decide (c + ss.length + (a + b) ≤ 200)
      congr 1
      apply propext
      omega
/-- the stack: its pairs stand here, what is in them stood at the entry -/
inductive StkA (K : PySem.W.Frag) (H0 H : Hp) : List V → List (PyData × Nat) → Prop
  | nil : StkA K H0 H [] []
  | snoc {vs : List V} {st : List (PyData × Nat)} {p : Addr} {x : V} {b : PyData} {d : Nat} : StkA K H0 H vs st → SqT K H p [x, .int (d : Int)] → Dp K H0 x b → StkA K H0 H (vs ++ [.ref p]) (st ++ [(b, d)])
theorem StkA.tk {K : PySem.W.Frag} {H0 H H' : Hp} (e : Tk H H') {vs : List V} {st : List (PyData × Nat)} (h : StkA K H0 H vs st) : StkA K H0 H' vs st := by
  induction h with
  | nil => exact .nil
  | snoc _ hp hx ih => exact .snoc ih (e.sqt hp) hx
theorem StkA.len {K : PySem.W.Frag} {H0 H : Hp} {vs : List V} {st : List (PyData × Nat)} (h : StkA K H0 H vs st) : vs.length = st.length := by
  induction h with
  | nil => rfl
  | snoc _ _ _ ih => simp [ih]
def AbA (K : PySem.W.Frag) (Ts : List Addr) (H0 : Hp) (Wd : Addr) (st : List (PyData × Nat)) (H' : Hp) : Prop :=
  Tbs Ts H' ∧ Kp ([Wd] ++ Ts) H0 H' ∧ ∃ vs, H' Wd = some (.lst vs) ∧ StkA K H0 H' vs st
theorem AbA.kp {K : PySem.W.Frag} {Ts : List Addr} {H0 H' H2 : Hp} {Wd : Addr} {st : List (PyData × Nat)} (a : AbA K Ts H0 Wd st H') (nW : Wd ∉ Ts) (g : Go Ts H' H2) : AbA K Ts H0 Wd st H2 := by
  obtain ⟨t, k, vs, h1, h2⟩ := a
  exact ⟨g.1, k.trans (kp_go g), vs, g.2 _ _ nW h1, h2.tk (Tk.go t g)⟩
theorem AbA.push1 {K : PySem.W.Frag} {Ts : List Addr} {H0 H' : Hp} {Wd p : Addr} {st : List (PyData × Nat)} {x : V} {b : PyData} {d : Nat} {vs : List V} (a : AbA K Ts H0 Wd st H') (hp : H' p = none)
    (hv : (upd H' p (.tup [x, .int (d : Int)])) Wd = some (.lst vs)) (hx : Dp K H0 x b) : AbA K Ts H0 Wd (st ++ [(b, d)]) (upd (upd H' p (.tup [x, .int (d : Int)])) Wd (.lst (vs ++ [.ref p]))) := by
  obtain ⟨t, k, vs', h1, h2⟩ := a
  have np : p ≠ Wd := fun z => by rw [← z, hp] at h1; cases h1
  have s1 := same_new hp (.tup [x, .int (d : Int)])
  have t1 : Tbs Ts (upd H' p (.tup [x, .int (d : Int)])) := t.same s1
  have hv' := hv
  rw [upd_ne (Ne.symm np), h1] at hv
  cases hv
  have t2 : Tk H' (upd (upd H' p (.tup [x, .int (d : Int)])) Wd (.lst (vs ++ [.ref p]))) := (Tk.same s1).trans (Tk.put hv' _)
  refine ⟨tbs_upd t1 hv' (fun ps z => by cases z), k.trans ((Kp.of_same s1).trans (Kp.put _ (by simp))), _, upd_same, .snoc (h2.tk t2) (SqT.of ?_) hx⟩
  rw [upd_ne np]
  exact upd_same
section
variable {P : Program} {w : World} {K : PySem.W.Frag} {mg : Str → Option Value} {base : Heap}

def spABA (K : PySem.W.Frag) (Ts : List Addr) : Sp := fun vs H Q _ => ∃ a xs bl, vs = [.ref a] ∧ SqL K H a xs ∧ DpAll K H xs bl ∧ szL bl ≤ 1000000 ∧ Tbs Ts H ∧ ∀ H', Go Ts H H' → Q (.bl (fits (sumO (bl.map (bodyN 12))))) H'
theorem ok_abA {Ts : List Addr} {f : Addr} {fd : FuncData} (F : C8.Def K mg "_are_bodies" (topS 40) f fd) (b : Binds K fd ["bodies"] []) (B : Bl K mg) (c_is_row : C8.Cal P w K mg base 1 "is_row" (spRow K) []) (c__is_statement : C8.Cal P w K mg base 5 "_is_statement" (spStA K Ts) []) (c_bodies_of : C8.Cal P w K mg base 1 "bodies_of" (spBoA K) []) : C8.Cal P w K mg base 6 "_are_bodies" (spABA K Ts) [] := by
  refine C8.cal0 F b .nil sc__are_bodies ?len ?body
  case len => rintro vs H Q E ⟨a, xs, bl, rfl, _⟩; rfl
  case body =>
    rintro cdv A outer s H vs Q E hr ⟨a, xs, bl, rfl, hs, ha, hsz, hTb, q⟩
    refine ⟨_, (pss_cons (ps_set (i := 1) sc__are_bodies.nd rfl (Or.inl rfl) pe_int)
    (pss_cons (ps_setLc (i := 2) (own := [("body", 3)]) (g := gName 3) (by rfl) sc__are_bodies.nd rfl rfl (sw_true rfl rfl rfl (by decide +kernel)) (pi_list (pv 0)) (blkOk_by (own := [("body", 3)]) (N := ["bodies", "count", "waiting", "body", "depth", "statement", "inner"]) (sc := (C8.fnScope (topS 40))) (by decide +kernel)) (fun _ _ _ _ _ => pg_name (i := 3) sc__are_bodies.nd rfl (Or.inl rfl)) (fun _ _ _ _ _ => pts_nil) (fun _ _ _ _ _ => (pe_tup (pa_cons (pv 3) (pa_cons pe_int pa_nil)))))
    (pss_cons (ps_while PassesOwn.never (pt_truth (pv 2) (by intro _; rfl)) (pss_cons (ps_asg (pe_bm0 PySem.F.plainAttrs_list PySem.F.slot_list_pop PySem.F.type_list_pop mt_pop (pv 2)) (pg_tup rfl (pgs_cons (pg_name (i := 3) sc__are_bodies.nd rfl (Or.inl rfl)) (pgs_cons (pg_name (i := 4) sc__are_bodies.nd rfl (Or.inl rfl)) pgs_nil))))
    (pss_cons (ps_if (pt_not (pt_val (C8.pe_c c_is_row hr (by decide) rfl (pa_cons (pv 3) (pa_cons pe_int (pa_cons (pe_glob (v := .int 60) rfl B.MOST_IN_BODY.choose_spec ⟨_, rfl⟩) pa_nil)))))) (pss_one (ps_ret pe_bl)) pss_nil)
    (pss_cons (ps_aug (i := 1) sc__are_bodies.nd rfl (Or.inl rfl) (pe_callB call_len_seq rfl B.len PySem.boot_len (pa_cons (pv 3) pa_nil)) ip_add)
    (pss_cons (ps_if (PW.pt (pw_or (pt_cmpR op_gt (pv 1) (pe_glob (v := .int 200) rfl B.MOST_STATEMENTS.choose_spec ⟨_, rfl⟩) (nomark _)) (pw_or1 (PW.pt (pw_and (pt_truth (pv 3) (by intro _; rfl)) (pw_and1 (pt_cmpR op_gt (pv 4) (pe_glob (v := .int 12) rfl B.LONGEST_CHAIN.choose_spec ⟨_, rfl⟩) (nomark _)))))))) (pss_one (ps_ret pe_bl)) pss_nil)
    (pss_one (ps_for PassesOwn.never rfl (pi_tup (pv 3)) (pg_name (i := 5) sc__are_bodies.nd rfl (Or.inl rfl))
    (pss_cons (ps_if (pt_not (pt_val (C8.pe_c c__is_statement hr (by decide) rfl (pa_cons (pv 5) pa_nil)))) (pss_one (ps_ret pe_bl)) pss_nil)
    (pss_one (ps_for PassesOwn.never rfl (pi_tup (C8.pe_c c_bodies_of hr (by decide) rfl (pa_cons (pv 5) pa_nil))) (pg_name (i := 6) sc__are_bodies.nd rfl (Or.inl rfl))
    (pss_one (ps_expr (pe_bm PySem.F.plainAttrs_list PySem.F.slot_list_append PySem.F.type_list_append mt_append (pv 2) (pa_cons (pe_tup (pa_cons (pv 6) (pa_cons (pe_op op_add (pv 4) pe_int) pa_nil))) pa_nil))))))))))))))
    (pss_one (ps_ret pe_bl))))), ?_⟩
    have hbl := szL_len bl
    have hxl : xs.length = bl.length := dps_len ha
    refine ⟨_, rfl, a, rfl, ⟨_, hs⟩, fun Wd hWd => ?_⟩
    have nW : Wd ∉ Ts := tbs_cut (ms := []) (o := .rng 0 0) hTb hWd
    have nWs : ∀ p ∈ [Wd], H p = none := fun p hp => by cases List.mem_singleton.mp hp; exact hWd
    refine lc_list (xs := xs) (fun i H' => AbA K Ts H Wd (pushA 1 (bl.take i)) H') ?_ ?_ ?_ ?_
    · exact ⟨tbs_new hTb hWd, Kp.new _ hWd, [], upd_same, by rw [List.take_zero]; exact .nil⟩
    · rintro i H' _ ⟨_, k, _⟩
      exact sq_ext (ext_kp hTb nWs k) hs
    · rintro i x H1 hx hI
      obtain ⟨t, k, vs, h1, h2⟩ := id hI
      obtain ⟨b, hb, hp⟩ := dps_get' ha hx
      refine ⟨rfl, ?_⟩
      refine ⟨_, rfl, (by show 2 ≤ sizeLine; decide), fun p hp => ?_⟩
      have np : p ≠ Wd := fun z => by rw [← z, hp] at h1; cases h1
      refine ⟨vs, by rw [upd_ne (Ne.symm np)]; exact h1, ?_, ?_⟩
      · have hv := h2.len
        have hl2 : (pushA 1 (bl.take i)).length ≤ bl.length := by unfold pushA; rw [List.length_map]; exact List.length_take_le' _ _
        exact Nat.lt_of_le_of_lt (show vs.length ≤ 1000000 by omega) (by decide)
      · have e : pushA 1 (bl.take (i + 1)) = pushA 1 (bl.take i) ++ [(b, 1)] := by
          rw [List.take_succ, hb, pushA_app]
          rfl
        rw [e]
        exact hI.push1 hp (by rw [upd_ne (Ne.symm np)]; exact h1) (by assumption)
    · intro H1 hI
      rw [hxl, List.take_length] at hI
      have eq0 : fits (sumO (bl.map (bodyN 12))) = okT 0 (pushA 1 bl) := by
        unfold okT
        rw [totO_push]
        show fits _ = _
        unfold fits
        cases sumO (bl.map (bodyN (13 - 1))) <;> simp
      rw [eq0] at q
      refine ⟨fun m σ H' => ∃ (c : Nat) (st : List (PyData × Nat)) (b3 b4 b5 b6 : Option V), m = szL (st.map Prod.fst) ∧ σ = [some (.ref a), some (.int (c : Int)), some (.ref Wd), b3, b4, b5, b6] ∧ AbA K Ts H Wd st H' ∧ okT 0 (pushA 1 bl) = okT c st ∧ c ≤ 200 ∧ szL (st.map Prod.fst) ≤ 1000000 ∧ ∀ e ∈ st, e.2 ≤ 13,
        ⟨_, 0, _, none, none, none, none, rfl, rfl, hI, rfl, Nat.zero_le _, by rw [pushA_fst]; exact hsz, fun e he => by
          unfold pushA at he
          obtain ⟨_, _, rfl⟩ := List.mem_map.mp he
          exact (by decide : (1 : Nat) ≤ 13)⟩, ?_⟩
      rintro m σ H2 ⟨c, st, b3, b4, b5, b6, rfl, rfl, hI, hok, hc, hm, hg⟩
      rw [hok] at q
      obtain ⟨t, k, vs, h1, h2⟩ := id hI
      refine ⟨_, rfl, _, .inl ⟨_, SqL.of h1, rfl⟩, ?_⟩
      cases h2 with
      | nil =>
        refine ifF rfl ?_
        have := q H2 (go_of nWs t k)
        rw [show okT c [] = true from decide_eq_true hc] at this
        exact this
      | @snoc vs' st' p x b d hst hp hx =>
        refine ifT (by simp) ?_
        have ext2 : ∀ {H' : Hp}, Kp ([Wd] ++ Ts) H H' → Dp K H' x b := fun k => dp_ext (ext_kp hTb nWs k) _ hx
        refine ⟨fun σ' H' => ∃ (c : Nat) (st : List (PyData × Nat)) (b3 b4 b5 b6 : Option V), szL (st.map Prod.fst) < szL ((st' ++ [(b, d)]).map Prod.fst) ∧ σ' = [some (.ref a), some (.int (c : Int)), some (.ref Wd), b3, b4, b5, b6] ∧ AbA K Ts H Wd st H' ∧ okT 0 (pushA 1 bl) = okT c st ∧ c ≤ 200 ∧ szL (st.map Prod.fst) ≤ 1000000 ∧ ∀ e ∈ st, e.2 ≤ 13, ?_, ?_⟩
        · rintro σ' H' ⟨c, st, b3, b4, b5, b6, e1, e2, e3, e4, e5, e6, e7⟩
          exact ⟨_, e1, c, st, b3, b4, b5, b6, rfl, e2, e3, e4, e5, e6, e7⟩
        rw [List.map_append, szL_app] at hm ⊢
        have em : szL ([(b, d)].map Prod.fst) = szD b := by simp [szL]
        rw [em] at hm ⊢
        have hd13 : d ≤ 13 := hg (b, d) (by simp)
        have hg' : ∀ e ∈ st', e.2 ≤ 13 := fun e he => hg e (by simp [he])
        refine ⟨_, rfl, .inl ⟨rfl, _, SqL.of h1⟩, Wd, _, .ref p, rfl, rfl, h1, by simp, ?_⟩
        have tk3 : Tk H2 (upd H2 Wd (.lst (vs' ++ [V.ref p]).dropLast)) := Tk.put h1 _
        have I3 : AbA K Ts H Wd st' (upd H2 Wd (.lst (vs' ++ [V.ref p]).dropLast)) := ⟨tbs_upd t h1 (fun ps z => by cases z), k.trans (Kp.put _ (by simp)), vs', by rw [List.dropLast_concat]; exact upd_same, hst.tk tk3⟩
        have hp3 := tk3.sqt hp
        show (fun H3 => _) (upd H2 Wd (.lst (vs' ++ [V.ref p]).dropLast))
        generalize upd H2 Wd (.lst (vs' ++ [V.ref p]).dropLast) = H3 at I3 hp3
        clear tk3
        have hx3 := ext2 I3.2.1
        refine ⟨p, _, rfl, hp3, rfl, _, _, rfl, _, _, rfl, rfl, ?_⟩
        refine ⟨_, rfl, _, _, 0, 60, rfl, hx3, _, rfl, ?_⟩
        have stop : ∀ {H' : Hp}, AbA K Ts H Wd st' H' → okT c (st' ++ [(b, d)]) = false → Q (.bl false) H' := fun {H'} I e => by
          have := q H' (go_of nWs I.1 I.2.1)
          rw [e] at this
          exact this
        cases hrow : rowD b 0 60 with
        | false => exact iteT (stop I3 (okT_none (body_row hrow)))
        | true =>
        refine iteF ?_
        obtain ⟨ss, rfl⟩ : ∃ ss, b = .tuple ss := by
          cases b with
          | tuple ss => exact ⟨ss, rfl⟩
          | _ => cases hrow
        have h60 := len_of_row hrow
        obtain ⟨xa, xxs0, rfl, hsx0, hax0, hlx⟩ := len_ok hx
        have at3 : ∀ {H' : Hp}, Kp ([Wd] ++ Ts) H H' → SqT K H' xa xxs0 := fun k => sqt_ext (ext_kp hTb nWs k) hsx0
        have hsx := at3 I3.2.1
        refine ⟨_, rfl, _, rfl, xa, xxs0, rfl, .inr hsx, _, _, rfl, rfl, ?_⟩
        refine ⟨_, rfl, _, _, rfl, rfl, _, rfl, ?_⟩
        rw [hlx]
        by_cases h200 : 200 < c + ss.length
        · rw [show decide ((200 : Int) < (c : Int) + (ss.length : Int)) = true from decide_eq_true (by omega)]
          exact iteT (stop I3 (okT_more h200))
        rw [show decide ((200 : Int) < (c : Int) + (ss.length : Int)) = false from decide_eq_false (by omega)]
        refine iteF ?_
        refine ⟨_, rfl, !xxs0.isEmpty, .inr (.inl ⟨xxs0, hsx, rfl⟩), ?_⟩
        have fin : (xxs0.isEmpty = true ∧ ss = []) ∨ (xxs0.isEmpty = false ∧ ss ≠ []) := by
          cases xxs0 with
          | nil => exact .inl ⟨rfl, List.eq_nil_of_length_eq_zero hlx.symm⟩
          | cons x0 r => exact .inr ⟨rfl, fun z => by rw [z] at hlx; cases hlx⟩
        have cases12 : (xxs0.isEmpty = true ∧ ss = []) ∨ (xxs0.isEmpty = false ∧ 12 < d ∧ ss ≠ []) ∨ (xxs0.isEmpty = false ∧ d ≤ 12) := by
          rcases fin with h | ⟨h, h2⟩
          · exact .inl h
          · by_cases z : d ≤ 12
            · exact .inr (.inr ⟨h, z⟩)
            · exact .inr (.inl ⟨h, by omega, h2⟩)
        clear fin
        have case13 : 12 < d → ss ≠ [] → okT c (st' ++ [(.tuple ss, d)]) = false := fun h hne => okT_none (by
          rw [show 13 - d = 0 by omega]
          cases ss with
          | nil => exact absurd rfl hne
          | cons _ _ => rfl)
        rcases cases12 with ⟨e, hd12⟩ | ⟨e, h12, hne⟩ | ⟨e, hd12⟩
        rotate_left
        · rw [e]
          refine iteT ⟨_, rfl, _, _, rfl, rfl, _, rfl, ?_⟩
          rw [show decide ((12 : Int) < (d : Int)) = true from decide_eq_true (by omega)]
          exact iteT (stop I3 (case13 h12 hne))
        rotate_left
        case' inl =>
          rw [e]
          refine iteF ?_
          have hdd : ss = [] ∨ d ≤ 12 := .inl hd12
        case' inr.inr =>
          rw [e]
          refine iteT ⟨_, rfl, _, _, rfl, rfl, _, rfl, ?_⟩
          rw [show decide ((12 : Int) < (d : Int)) = false from decide_eq_false (by omega)]
          refine iteF ?_
          have hdd : ss = [] ∨ d ≤ 12 := .inr hd12
        all_goals
          have hss : szL ss + 1 ≤ szD (.tuple ss) := by rw [szD]; omega
          refine ⟨_, rfl, xa, rfl, ⟨_, hsx⟩, ?_⟩
          refine for_tup (xs := xxs0) (fun i σ H' => ∃ b5 b6, σ = [some (.ref a), some (.int ((c : Int) + (ss.length : Int))), some (.ref Wd), some (.ref xa), some (.int (d : Int)), b5, b6] ∧ AbA K Ts H Wd (st' ++ pushA (d + 1) ((ss.take i).flatMap bsD)) H' ∧ ∀ s ∈ ss.take i, stB s = true) ?_ ?_ ?_ ?_
          · exact ⟨b5, b6, rfl, by rw [List.take_zero]; simpa [pushA] using I3, fun s hs => by rw [List.take_zero] at hs; cases hs⟩
          · rintro i σ H' _ ⟨_, _, _, I, _⟩
            exact at3 I.2.1
          · rintro i x _ H4 hx4 ⟨b5', b6', rfl, I4, hall⟩
            obtain ⟨s, hsb, hdp0⟩ := dps_get' hax0 hx4
            have hsm : s ∈ ss := List.mem_of_getElem? hsb
            have hsz4 := szL_mem hsm
            have hd4 := dp_ext (ext_kp hTb nWs I4.2.1) _ hdp0
            refine ⟨_, rfl, x, s, rfl, hd4, by omega, I4.1, fun H5 g5 => ⟨_, rfl, ?_⟩⟩
            have I5 := I4.kp nW g5
            cases hstb : stB s with
            | false =>
              refine iteT ?_
              have := q H5 (go_of nWs I5.1 I5.2.1)
              have ebad : okT c (st' ++ [(.tuple ss, d)]) = false := okT_none (by
                cases e13 : 13 - d with
                | zero =>
                  cases ss with
                  | nil => cases hsm
                  | cons _ _ => rfl
                | succ n =>
                  unfold bodyN
                  rw [if_pos h60]
                  exact stm_none hsm hstb)
              rw [ebad] at this
              exact this
            | true =>
            refine iteF ?_
            refine ⟨_, rfl, x, s, H, rfl, hdp0, ext_kp hTb nWs I5.2.1, hstb, fun ra rxs H6 s6 hrs hra => ?_⟩
            have I6 := I5.kp nW (Go.of_same I5.1 s6)
            refine ⟨ra, rfl, ⟨_, hrs⟩, ?_⟩
            have hrl : rxs.length = (bsD s).length := dps_len hra
            have hbz := bsD_sz s
            refine for_tup (xs := rxs) (fun j σ H' => ∃ b6, σ = [some (.ref a), some (.int ((c : Int) + (ss.length : Int))), some (.ref Wd), some (.ref xa), some (.int (d : Int)), some x, b6] ∧ AbA K Ts H Wd (st' ++ pushA (d + 1) ((ss.take i).flatMap bsD) ++ pushA (d + 1) ((bsD s).take j)) H' ∧ Tk H6 H') ?_ ?_ ?_ ?_
            · exact ⟨b6', rfl, by rw [List.take_zero]; simpa [pushA] using I6, Tk.refl _⟩
            · rintro j σ H' _ ⟨_, _, _, kk⟩
              exact kk.sqt hrs
            · rintro j y _ H7 hy ⟨b6'', rfl, I7, kk7⟩
              obtain ⟨t7, k7, vs7, h71, h72⟩ := id I7
              obtain ⟨b2, hb2, hy0⟩ := dps_get' hra hy
              refine ⟨_, rfl, .inl ⟨rfl, _, SqL.of h71⟩, _, rfl, _, rfl, _, _, rfl, rfl, (by show 2 ≤ sizeLine; decide), fun p7 hp7 => ?_⟩
              have np : p7 ≠ Wd := fun z => by rw [← z, hp7] at h71; cases h71
              have hW7 : upd H7 p7 (.tup [y, .int ((d : Int) + 1)]) Wd = some (.lst vs7) := by rw [upd_ne (Ne.symm np)]; exact h71
              refine ⟨Wd, vs7, _, rfl, rfl, hW7, ?_, ?_⟩
              · have l7 := h72.len
                have lm := szL_len ((st' ++ pushA (d + 1) ((ss.take i).flatMap bsD) ++ pushA (d + 1) ((bsD s).take j)).map Prod.fst)
                rw [List.length_map, List.map_append, List.map_append, pushA_fst, pushA_fst, szL_app, szL_app] at lm
                have h1 := szL_take (bsD s) j
                have h2 := flat_sz (ss.take i)
                have h3 : szL (ss.take i) + szD s ≤ szL ss := by
                  have e := szL_app (ss.take i) (ss.drop i)
                  rw [List.take_append_drop] at e
                  have : szD s ≤ szL (ss.drop i) := szL_mem (List.mem_of_getElem? (show (ss.drop i)[0]? = some s by rw [List.getElem?_drop]; exact hsb))
                  omega
                exact Nat.lt_of_le_of_lt (show vs7.length ≤ 1000000 by omega) (by decide)
              · refine ⟨_, rfl, ?_, ?_⟩
                · have e : st' ++ pushA (d + 1) ((ss.take i).flatMap bsD) ++ pushA (d + 1) ((bsD s).take (j + 1)) = (st' ++ pushA (d + 1) ((ss.take i).flatMap bsD) ++ pushA (d + 1) ((bsD s).take j)) ++ [(b2, d + 1)] := by
                    rw [List.take_succ, hb2, pushA_app]
                    simp [pushA]
                  rw [e]
                  exact I7.push1 (d := d + 1) hp7 hW7 hy0
                · exact kk7.trans ((Tk.new hp7 _).trans (Tk.put hW7 _))
            · rintro σ H7 ⟨b6'', rfl, I7, kk7⟩
              refine ⟨_, _, rfl, ?_, ?_⟩
              · have e : st' ++ pushA (d + 1) ((ss.take (i + 1)).flatMap bsD) = st' ++ pushA (d + 1) ((ss.take i).flatMap bsD) ++ pushA (d + 1) ((bsD s).take rxs.length) := by
                  rw [hrl, List.take_length, List.take_succ, hsb, List.flatMap_append, pushA_app]
                  simp
                rw [e]
                exact I7
              · intro s' hs'
                rw [List.take_succ, hsb] at hs'
                rcases List.mem_append.mp hs' with z | z
                · exact hall s' z
                · cases List.mem_singleton.mp (show s' ∈ [s] from z)
                  exact hstb
          · rintro σ H' ⟨b5', b6', rfl, I4, hall⟩
            rw [hlx, List.take_length] at I4 hall
            have hfl := flat_sz ss
            refine ⟨c + ss.length, _, _, _, _, _, ?_, by rw [Int.natCast_add], I4, ?_, by omega, ?_, ?_⟩
            · rw [List.map_append, pushA_fst, szL_app]
              omega
            · rw [hok]
              exact okT_step h60 hall hdd
            · rw [List.map_append, pushA_fst, szL_app]
              omega
            · intro e he
              rcases List.mem_append.mp he with he | he
              · exact hg' e he
              · unfold pushA at he
                obtain ⟨y, hy, rfl⟩ := List.mem_map.mp he
                rcases hdd with z | z
                · rw [z] at hy; cases hy
                · show d + 1 ≤ 13
                  omega
end
end K00


set_option Elab.async false
set_option linter.all false
set_option maxRecDepth 100000
set_option maxHeartbeats 8000000
namespace K00
open PySem PySem.Spec PyProof.Rows L2
theorem row_len {ds : List PyData} {lo hi : Nat} (h : rowD (.tuple ds) lo hi = true) : lo ≤ ds.length ∧ ds.length ≤ hi := by
  have : (decide ((lo : Int) ≤ (ds.length : Int)) && decide ((ds.length : Int) ≤ (hi : Int))) = true := h
  rw [Bool.and_eq_true, decide_eq_true_eq, decide_eq_true_eq] at this
  omega
theorem row_tup {d : PyData} {lo hi : Int} (h : rowD d lo hi = true) : ∃ ds, d = .tuple ds := by
  cases d with
  | tuple ds => exact ⟨ds, rfl⟩
  | _ => cases h
theorem two_of {ds : List PyData} (h : rowD (.tuple ds) 2 2 = true) : ∃ x y, ds = [x, y] := by
  have := row_len (lo := 2) (hi := 2) h
  match ds, this with
  | [x, y], _ => exact ⟨x, y, rfl⟩
theorem prog_norow {d : PyData} (h : rowD d 2 2 = false) : isProgB d = false := by
  cases d with
  | tuple ds =>
    match ds, h with
    | [], _ => rfl
    | [_], _ => rfl
    | [x, y], h => cases h
    | _ :: _ :: _ :: _, _ => rfl
  | _ => rfl
theorem procB_no {d : PyData} (h : rowD d 2 2 = false) : procB d = false := by
  cases d with
  | tuple ds =>
    match ds, h with
    | [], _ => rfl
    | [_], _ => rfl
    | [x, y], h => cases h
    | _ :: _ :: _ :: _, _ => rfl
  | _ => rfl
theorem all_take {f : PyData → Bool} {l : List PyData} {i : Nat} {x : PyData} (h : l[i]? = some x) (a : (l.take i).all f = true) (b : f x = true) : (l.take (i + 1)).all f = true := by
  rw [List.take_succ, h, List.all_append, a]
  simpa using b
theorem body_sz : ∀ d : PyData, szD (procBody d) ≤ szD d
  | .tuple [x, b] => by
    show szD b ≤ szD (.tuple [x, b])
    rw [szD, szL, szL]; omega
  | .tuple [] | .tuple [_] | .tuple (_ :: _ :: _ :: _) | .none | .bool _ | .int _ | .str _ | .list _ | .dict _ => szD_pos _
theorem bodies_sz : ∀ ps : List PyData, szL (ps.map procBody) ≤ szL ps
  | [] => Nat.le_refl _
  | p :: r => by
    have := body_sz p
    have := bodies_sz r
    rw [List.map_cons, szL, szL]; omega
section
variable {P : Program} {w : World} {K : PySem.W.Frag} {mg : Str → Option Value} {base : Heap}
def spProgA (K : PySem.W.Frag) (Ts : List Addr) : Sp := fun vs H Q _ => ∃ v d, vs = [v] ∧ Dp K H v d ∧ szD d ≤ 1000000 ∧ Tbs Ts H ∧ ∀ H', Go Ts H H' → Q (.bl (isProgB d)) H'
theorem ok_progA {Ts : List Addr} {f c T : Addr} {oc : Value} {od an : Option Addr} {kV doc pm ct : Value} {osl : Array (Option Value)}
    (lk : K.lookup f = some ⟨oc, od, .func (PySem.W.fnOf "is_program" "is_program" (C8.fnArgs (topS 39)) (C8.fnBody (topS 39)) (C8.fnScope (topS 39)) .none kV doc pm an (.ref c) ct), osl⟩) (hcd : PySem.W.codeIn K (.ref c) "is_program" = true)
    (TB : LamX.TabB base mg c T) (hT : T ∈ Ts) (B : Bl K mg) (c_is_row : C8.Cal P w K mg base 1 "is_row" (spRow K) []) (c_is_name : C8.Cal P w K mg base 4 "is_name" (spName K Ts) []) (c__are_bodies : C8.Cal P w K mg base 6 "_are_bodies" (spABA K Ts) []) :
    FnOk P w K mg base C8.CX0 8 f (PySem.W.fnOf "is_program" "is_program" (C8.fnArgs (topS 39)) (C8.fnBody (topS 39)) (C8.fnScope (topS 39)) .none kV doc pm an (.ref c) ct) ["thing"] (spProgA K Ts) := by
  refine fn_of lk hcd sc_is_program (by rintro vs H Q E ⟨v, _, rfl, _⟩; rfl) ?_
  intro A outer s H vs Q E hr hsp
  suffices h : ∃ t, PSs (cxOf C8.CX0 P w K mg base ["thing", "letters", "procedures", "procedure"] "is_program" (C8.fnScope (topS 39)) f (.ref c) A outer s H E).nox (C8.fnBody (topS 39)) t ∧ t { nx := fun _ H' => Q .non H', rt := Q } (start ["thing", "letters", "procedures", "procedure"] vs) H by
    obtain ⟨t, h1, h2⟩ := h
    exact ⟨t, h1.nox, h2⟩
  obtain ⟨v, d, rfl, hd, hsz, hTb, q⟩ := hsp
  refine ⟨_, (pss_cons (ps_if (pt_not (pt_val (C8.pe_c c_is_row hr (by decide) rfl (pa_cons (pv 0) (pa_cons pe_int (pa_cons pe_int pa_nil)))))) (pss_one (ps_ret pe_bl)) pss_nil)
    (pss_cons (ps_asg (pv 0) (pg_tup rfl (pgs_cons (pg_name (i := 1) sc_is_program.nd rfl (Or.inl rfl)) (pgs_cons (pg_name (i := 2) sc_is_program.nd rfl (Or.inl rfl)) pgs_nil))))
    (pss_cons (ps_if (PW.pt (pw_or (pt_not (pt_val (C8.pe_c c_is_row hr (by decide) rfl (pa_cons (pv 1) (pa_cons pe_int (pa_cons (pe_glob (v := .int 20) rfl B.MOST_LETTERS.choose_spec ⟨_, rfl⟩) pa_nil)))))) (pw_or1 (pt_not (pt_val (C8.pe_c c_is_row hr (by decide) rfl (pa_cons (pv 2) (pa_cons pe_int (pa_cons (pe_glob (v := .int 8) rfl B.MOST_PROCEDURES.choose_spec ⟨_, rfl⟩) pa_nil))))))))) (pss_one (ps_ret pe_bl)) pss_nil)
    (pss_cons (ps_for PassesOwn.never rfl (pi_tup (pv 2)) (pg_name (i := 3) sc_is_program.nd rfl (Or.inl rfl))
    (pss_one (ps_if (PW.pt (pw_or (pt_not (pt_val (C8.pe_c c_is_row hr (by decide) rfl (pa_cons (pv 3) (pa_cons pe_int (pa_cons pe_int pa_nil)))))) (pw_or1 (pt_not (pt_val (C8.pe_c c_is_name hr (by decide) rfl (pa_cons (pe_ix ix_tup (pv 3) pe_int (fun _ _ => rfl)) pa_nil))))))) (pss_one (ps_ret pe_bl)) pss_nil)))
    (pss_one (ps_ret (pe_and (UG.pe_allG (P := T) (N := ["letter"]) (k := 4) (g := gName 0) (hr.mono (by decide)) rfl B.all (by decide +kernel) TB rfl (gensc_by (by decide +kernel)) (pi_tup (pv 1))
      (fun _ _ _ _ _ _ _ => by exact pg_name (i := 0) ndl rfl (Or.inl rfl))
      (fun _ _ _ _ _ _ hr' => by exact C8.pe_c c_is_name hr' (by decide) rfl (pa_cons (pv 0) pa_nil))) (pe_one (C8.pe_c c__are_bodies hr (by decide) rfl (pa_cons (pe_lc (own := [("procedure", 3)]) (g := gName 3) (te := tOp (rIxT K) (tVar 3) (tC (.int 1))) (by rfl) sc_is_program.nd (pi_tup (pv 2)) (blkOk_by (own := [("procedure", 3)]) (N := ["thing", "letters", "procedures", "procedure"]) (sc := (C8.fnScope (topS 39))) (by decide +kernel)) (fun _ _ _ _ _ => pg_name (i := 3) sc_is_program.nd rfl (Or.inl rfl)) (fun _ _ _ _ _ => pts_nil) (fun _ _ _ _ _ => by exact (pe_ix ix_tup (pv 3) pe_int (fun _ _ => rfl)))) pa_nil)))))))))), ?_⟩
  have hd0 := hd
  refine ⟨_, rfl, _, _, 2, 2, rfl, hd0, _, rfl, ?_⟩
  cases hrow : rowD d 2 2 with
  | false =>
    refine iteT ?_
    rw [prog_norow hrow] at q
    exact q H (Go.refl hTb)
  | true =>
  refine iteF ?_
  obtain ⟨ds, rfl⟩ := row_tup hrow
  obtain ⟨dl, dp, rfl⟩ := two_of hrow
  have szl : szD dl ≤ 1000000 := by rw [szD, szL, szL] at hsz; omega
  have szp : szD dp ≤ 1000000 := by rw [szD, szL, szL, szL] at hsz; omega
  have eP : isProgB (.tuple [dl, dp]) = (rowD dl 1 20 && (rowD dp 1 8 && ((tl dp).all procB && ((tl dl).all nameD && fits (sumO (((tl dp).map procBody).map (bodyN 12))))))) := rfl
  rw [eP] at q
  obtain ⟨a, xs, rfl, hs, ha, hl⟩ := len_ok hd
  cases ha with
  | @cons vL _ _ _ hvL ha =>
  cases ha with
  | @cons vP _ _ _ hvP ha =>
  cases ha
  refine ⟨_, rfl, a, _, rfl, hs, rfl, _, _, rfl, _, _, rfl, rfl, ?_⟩
  refine ⟨_, rfl, _, _, 1, 20, rfl, hvL, _, rfl, ?_⟩
  cases hr1 : rowD dl 1 20 with
  | false =>
    refine iteT ?_
    rw [hr1] at q
    exact q H (Go.refl hTb)
  | true =>
  refine iteF ?_
  refine ⟨_, rfl, _, _, 1, 8, rfl, hvP, _, rfl, ?_⟩
  cases hr2 : rowD dp 1 8 with
  | false =>
    refine iteT ?_
    rw [hr1, hr2] at q
    exact q H (Go.refl hTb)
  | true =>
  refine iteF ?_
  rw [hr1, hr2, Bool.true_and, Bool.true_and] at q
  obtain ⟨ls, rfl⟩ := row_tup hr1
  obtain ⟨ps, rfl⟩ := row_tup hr2
  have lps := row_len (lo := 1) (hi := 8) hr2
  have q : ∀ H', Go Ts H H' → Q (.bl (ps.all procB && (ls.all nameD && fits (sumO ((ps.map procBody).map (bodyN 12)))))) H' := q
  have szls : szL ls ≤ 1000000 := by rw [szD] at szl; omega
  have szps : szL ps ≤ 1000000 := by rw [szD] at szp; omega
  obtain ⟨la, lxs, rfl, hls, hla, hll⟩ := len_ok hvL
  obtain ⟨pa, pxs, rfl, hps, hpa, hpl⟩ := len_ok hvP
  refine ⟨_, rfl, pa, rfl, ⟨_, hps⟩, ?_⟩
  refine for_tup (xs := pxs) (fun i σ H' => ∃ b3, σ = [some (.ref a), some (.ref la), some (.ref pa), b3] ∧ Go Ts H H' ∧ (ps.take i).all procB = true) ?_ ?_ ?_ ?_
  · exact ⟨none, rfl, Go.refl hTb, by simp⟩
  · rintro i σ H' _ ⟨_, _, g, _⟩
    exact (Tk.go hTb g).sqt hps
  · rintro i x _ H1 hx ⟨b3, rfl, g, hall⟩
    obtain ⟨d, hd, hdp⟩ := dps_get' hpa hx
    have hd1 := dp_ext (g.ext hTb) _ hdp
    have hdm : d ∈ ps := List.mem_of_getElem? hd
    have bad : ∀ {H'}, Go Ts H H' → procB d = false → Q (.bl false) H' := fun g' e => by
      have := q _ g'
      rw [show ps.all procB = false from List.all_eq_false.mpr ⟨d, hdm, by rw [e]; decide⟩] at this
      exact this
    refine ⟨_, rfl, _, _, 2, 2, rfl, hd1, _, rfl, ?_⟩
    cases hr3 : rowD d 2 2 with
    | false => exact iteT (bad g (procB_no hr3))
    | true =>
    refine iteF ?_
    obtain ⟨es, rfl⟩ := row_tup hr3
    obtain ⟨dn, db, rfl⟩ := two_of hr3
    obtain ⟨qa, qxs, rfl, hqs, hqa, hql⟩ := len_ok hd1
    cases hqa with
    | @cons v0 _ _ _ h0 hqa =>
    have szd := szL_mem hdm
    rw [szD, szL, szL] at szd
    refine ⟨_, rfl, _, _, _, _, rfl, rfl, hqs, at0 _ _, v0, dn, rfl, h0, strD_sz (by omega), g.1, fun H2 g2 => ⟨_, rfl, ?_⟩⟩
    cases hn : nameD dn with
    | false => exact iteT (bad (g.trans g2) hn)
    | true => exact iteF ⟨_, rfl, g.trans g2, all_take hd hall hn⟩
  · rintro σ H1 ⟨b3, rfl, g1, hall⟩
    rw [hpl, List.take_length] at hall
    rw [hall, Bool.true_and] at q
    have hls1 := (Tk.go hTb g1).sqt hls
    refine ⟨_, rfl, la, rfl, ⟨_, hls1⟩, g1.1 T hT, lxs.length, fun i H' => i ≤ lxs.length ∧ Go Ts H H' ∧ (ls.take i).all nameD = true, ⟨?_⟩, ?_⟩
    · rintro i H2 ⟨hi, g2, hal⟩
      have hls2 := (Tk.go hTb g2).sqt hls
      by_cases hlt : i < lxs.length
      · refine .inr ⟨hlt, ⟨_, _, hls2, List.getElem?_eq_getElem hlt⟩, ?_⟩
        rintro x H3 ⟨rfl, hx⟩
        have ex := hx _ hls2
        obtain ⟨d, hd, hdp⟩ := dps_get' hla ex
        have hdm : d ∈ ls := List.mem_of_getElem? hd
        have szd := szL_mem hdm
        refine ⟨_, rfl, x, d, rfl, dp_ext (g2.ext hTb) _ hdp, strD_sz (by omega), g2.1, fun H4 g4 => ⟨_, rfl, ?_⟩⟩
        cases hn : nameD d with
        | true => exact iteT ⟨hlt, g2.trans g4, all_take hd hal hn⟩
        | false =>
          refine iteF ?_
          have := q _ (g2.trans g4)
          rw [show ls.all nameD = false from List.all_eq_false.mpr ⟨d, hdm, by rw [hn]; decide⟩] at this
          refine ⟨_, rfl, ?_⟩
          exact iteF this
      · refine .inl ⟨⟨_, hls2, by omega⟩, ⟨_, rfl, ?_⟩⟩
        have hln : ls.all nameD = true := by
          rw [show i = ls.length by omega, List.take_length] at hal
          exact hal
        rw [hln, Bool.true_and] at q
        refine iteT ?_
        have hps2 := (Tk.go hTb g2).sqt hps
        refine ⟨_, rfl, pa, rfl, ⟨_, hps2⟩, fun Dd hDd => ?_⟩
        refine lc_tup (xs := pxs) (fun i H' => ∃ vs, H' Dd = some (.lst vs) ∧ DpAll K H2 vs ((ps.map procBody).take i) ∧ Tbs Ts H' ∧ Same H2 H') ?_ ?_ ?_ ?_
        · exact ⟨[], upd_same, by rw [List.take_zero]; exact .nil, tbs_new g2.1 hDd, same_new hDd _⟩
        · rintro i H' _ ⟨_, _, _, _, s5⟩
          exact (Tk.same s5).sqt hps2
        · rintro i x H5 hx ⟨vs, hv1, hv2, t5, s5⟩
          obtain ⟨d, hd, hdp⟩ := dps_get' hpa hx
          have hdm : d ∈ ps := List.mem_of_getElem? hd
          have hpb : procB d = true := List.all_eq_true.mp hall d hdm
          have hd1 := dp_ext (g2.ext hTb) _ hdp
          obtain ⟨dn, db, rfl⟩ : ∃ dn db, d = .tuple [dn, db] := by
            cases d with
            | tuple ds =>
              match ds, hpb with
              | [x, y], _ => exact ⟨x, y, rfl⟩
            | _ => cases hpb
          obtain ⟨qa, qxs, rfl, hqs2, hqa, hql⟩ := len_ok hd1
          have hqs := sqt_ext (same_ext s5) hqs2
          cases hqa with
          | @cons v0 _ _ _ h0 hqa =>
          cases hqa with
          | @cons v1 _ _ _ h1 hqa =>
          refine ⟨rfl, ?_⟩
          refine ⟨_, rfl, _, _, _, _, rfl, rfl, hqs, at1 _ _ _, vs, hv1, ?_, _, upd_same, ?_, tbs_upd t5 hv1 (fun ps z => by cases z), ?_⟩
          · have := dps_len hv2
            have h3 : ((ps.map procBody).take i).length ≤ (ps.map procBody).length := List.length_take_le' _ _
            rw [List.length_map] at h3
            exact Nat.lt_of_le_of_lt (show vs.length ≤ 10000 by omega) (by decide)
          · have hDnew : H2 Dd = none := hDd
            have e : (ps.map procBody).take (i + 1) = (ps.map procBody).take i ++ [db] := by
              rw [List.take_succ, List.getElem?_map, hd]
              rfl
            rw [e]
            exact dps_app hv2 (.cons h1 .nil)
          · intro b o e
            rw [upd_ne (fun z => by rw [z, hDd] at e; cases e)]
            exact s5 _ _ e
        · rintro H5 ⟨vs, hv1, hv2, t5, s5⟩
          rw [hpl, show ps.length = (ps.map procBody).length by rw [List.length_map], List.take_length] at hv2
          refine ⟨Dd, vs, ps.map procBody, rfl, SqL.of hv1, dps_ext (same_ext s5) _ hv2, ?_, t5, fun H6 g6 => ?_⟩
          · exact Nat.le_trans (bodies_sz ps) szps
          · exact q _ (g2.trans ((Go.of_same g2.1 s5).trans g6))
    · intro H2 t2
      exact ⟨Nat.zero_le _, g1.trans (Go.of_tab g1.1 hT t2), by simp⟩
end
end K00


set_option Elab.async false
set_option linter.all false
set_option maxRecDepth 100000
set_option maxHeartbeats 8000000
namespace K00
open PySem PySem.Spec PyProof.Rows L2
/-! ### what is judged to be a program is one -/
theorem name_str {d : PyData} (h : nameD d = true) : ∃ x, d = .str x ∧ nameB x = true := by
  cases d with
  | str x => exact ⟨x, rfl, h⟩
  | _ => cases h
theorem nok_app {A B : List Str} (a : Nok A) (b : Nok B) : Nok (A ++ B) := fun x hx => (List.mem_append.mp hx).elim (a x) (b x)
theorem inl' {A B : List Str} : ∀ x ∈ A, x ∈ A ++ B := fun _ h => List.mem_append_left _ h
theorem inr' {A B : List Str} : ∀ x ∈ B, x ∈ A ++ B := fun _ h => List.mem_append_right _ h
def BodyIs (n : Nat) (d : PyData) (k : Nat) : Prop := ∃ (b : List St) (A B : List Str), d = .tuple (ds b) ∧ b.length ≤ 60 ∧ wdl b ∧ ns b = k ∧ ks b ≤ n ∧ Nok A ∧ Nok B ∧ oks A B false b
def StmIs (n : Nat) (d : PyData) (k : Nat) : Prop := ∃ (s : St) (A B : List Str), d = s.d ∧ s.wd ∧ s.n = k ∧ s.k ≤ n ∧ Nok A ∧ Nok B ∧ s.ok A B false
theorem bodies_is {n : Nat} (ih : ∀ d k, bodyN n d = some k → BodyIs n d k) : ∀ {bs : List PyData} {k : Nat}, sumO (bs.map (bodyN n)) = some k → ∃ (bl : List (List St)) (A B : List Str), bs = dss bl ∧ wdbs bl ∧ nss bl = k ∧ kss bl ≤ n ∧ Nok A ∧ Nok B ∧ okss A B false bl
  | [], k, h => by
    have : 0 = k := by simpa [sumO] using h
    exact ⟨[], [], [], rfl, trivial, this, Nat.zero_le _, fun _ h => (List.not_mem_nil h).elim, fun _ h => (List.not_mem_nil h).elim, trivial⟩
  | d :: r, k, h => by
    rw [List.map_cons, sumO_cons] at h
    cases e : bodyN n d with
    | none => rw [e] at h; cases h
    | some a =>
      rw [e] at h
      cases e2 : sumO (r.map (bodyN n)) with
      | none => rw [e2] at h; cases h
      | some c =>
        rw [e2] at h
        have hk : a + c = k := by simpa using h
        obtain ⟨b, A, B, rfl, h1, h2, h3, h4, h5, h6, h7⟩ := ih d a e
        obtain ⟨bl, A', B', rfl, g2, g3, g4, g5, g6, g7⟩ := bodies_is ih e2
        refine ⟨b :: bl, A ++ A', B ++ B', rfl, ⟨⟨h1, h2⟩, g2⟩, by rw [nss]; omega, by rw [kss]; omega, nok_app h5 g5, nok_app h6 g6, oks_mono inl' inl' false b false h7, okss_mono inr' inr' false bl false g7⟩
theorem pl_of {w : Str} (h : plB w = true) : w = "do" ∨ w = "undo" ∨ w = "call" := by
  unfold plB plW at h
  simp only [List.any_cons, List.any_nil, Bool.or_false, Bool.or_eq_true, decide_eq_true_eq] at h
  exact h
theorem nok_one {x : Str} (h : nameB x = true) : Nok [x] := fun y hy => by cases List.mem_singleton.mp hy; exact h
theorem nok_nil : Nok [] := fun _ h => (List.not_mem_nil h).elim
theorem stm_is {n : Nat} (ih : ∀ d k, bodyN n d = some k → BodyIs n d k) {s : PyData} {k : Nat} (h : stmW (bodyN n) s = some k) : StmIs (n + 1) s k := by
  unfold stmW at h
  cases hst : stB s with
  | false => rw [hst] at h; cases h
  | true =>
  rw [hst, if_pos rfl] at h
  obtain ⟨wd, rest, rfl⟩ : ∃ wd rest, s = .tuple (.str wd :: rest) := by
    cases s with
    | tuple ds =>
      cases ds with
      | nil => cases hst
      | cons d0 r =>
        cases d0 with
        | str wd => exact ⟨wd, r, rfl⟩
        | _ => cases hst
    | _ => cases hst
  rw [stB_eq] at hst
  rw [bsD_eq] at h
  cases hpl : plB wd with
  | true =>
    rw [hpl, if_pos rfl] at hst
    obtain ⟨x, rfl⟩ : ∃ x, rest = [x] := by
      match rest, hst with
      | [x], _ => exact ⟨x, rfl⟩
    obtain ⟨y, rfl, hy⟩ := name_str hst
    rcases pl_of hpl with rfl | rfl | rfl
    · rw [if_neg (by decide +kernel), if_neg (by decide +kernel)] at h
      have : 1 + 0 = k := by simpa [sumO] using h
      exact ⟨.dd y, [y], [], rfl, trivial, this, by simp [St.k], nok_one hy, nok_nil, List.mem_singleton.mpr rfl⟩
    · rw [if_neg (by decide +kernel), if_neg (by decide +kernel)] at h
      have : 1 + 0 = k := by simpa [sumO] using h
      exact ⟨.ud y, [y], [], rfl, trivial, this, by simp [St.k], nok_one hy, nok_nil, List.mem_singleton.mpr rfl⟩
    · rw [if_neg (by decide +kernel), if_neg (by decide +kernel)] at h
      have : 1 + 0 = k := by simpa [sumO] using h
      exact ⟨.cl y, [], [y], rfl, trivial, this, by simp [St.k], nok_nil, nok_one hy, List.mem_singleton.mpr rfl⟩
  | false =>
  rw [hpl, if_neg (by decide)] at hst
  by_cases hc : wd = "choose"
  · rw [decide_eq_true hc, if_pos rfl] at hst h
    obtain ⟨x, rfl⟩ : ∃ x, rest = [x] := by
      match rest, hst with
      | [x], _ => exact ⟨x, rfl⟩
    obtain ⟨bs, rfl⟩ := row_tup (show rowD x 2 6 = true from hst)
    have hlen := row_len (lo := 2) (hi := 6) hst
    have h : (sumO (bs.map (bodyN n))).map (1 + ·) = some k := h
    cases e : sumO (bs.map (bodyN n)) with
    | none => rw [e] at h; cases h
    | some a =>
      rw [e] at h
      have hk : 1 + a = k := by simpa using h
      obtain ⟨bl, A, B, rfl, h2, h3, h4, h5, h6, h7⟩ := bodies_is ih e
      rw [dss_len] at hlen
      rw [hc]
      exact ⟨.ch bl, A, B, rfl, h2, by rw [St.n]; omega, by rw [St.k]; omega, h5, h6, hlen.1, hlen.2, h7⟩
  rw [decide_eq_false hc, if_neg (by decide)] at hst h
  by_cases hlp : wd = "loop"
  · rw [decide_eq_true hlp] at hst h
    rw [if_pos rfl] at hst
    rw [Bool.true_or, if_pos rfl] at h
    obtain ⟨x, rfl⟩ : ∃ x, rest = [x] := by
      match rest, of_decide_eq_true hst with
      | [x], _ => exact ⟨x, rfl⟩
    cases e : sumO ([x].map (bodyN n)) with
    | none => rw [e] at h; cases h
    | some a =>
      rw [e] at h
      have hk : 1 + a = k := by simpa using h
      obtain ⟨bl, A, B, hbl, h2, h3, h4, h5, h6, h7⟩ := bodies_is ih e
      have hl := congrArg List.length hbl
      rw [dss_len] at hl
      obtain ⟨b, rfl⟩ : ∃ b, bl = [b] := by
        match bl, hl with
        | [b], _ => exact ⟨b, rfl⟩
      have hx : x = .tuple (ds b) := by simpa [dss] using hbl
      subst hx
      rw [hlp]
      refine ⟨.lp b, A, B, rfl, h2.1, ?_, ?_, h5, h6, h7.1⟩
      · simp [nss] at h3; rw [St.n]; omega
      · simp [kss] at h4; rw [St.k]; omega
  rw [decide_eq_false hlp] at hst h
  rw [if_neg (by decide)] at hst
  rw [Bool.false_or] at h
  by_cases he : wd = "ensure"
  · rw [decide_eq_true he, if_pos rfl] at hst h
    obtain ⟨x, y, rfl⟩ : ∃ x y, rest = [x, y] := by
      match rest, of_decide_eq_true hst with
      | [x, y], _ => exact ⟨x, y, rfl⟩
    cases e : sumO ([x, y].map (bodyN n)) with
    | none => rw [e] at h; cases h
    | some a =>
      rw [e] at h
      have hk : 1 + a = k := by simpa using h
      obtain ⟨bl, A, B, hbl, h2, h3, h4, h5, h6, h7⟩ := bodies_is ih e
      have hl := congrArg List.length hbl
      rw [dss_len] at hl
      obtain ⟨b, c, rfl⟩ : ∃ b c, bl = [b, c] := by
        match bl, hl with
        | [b, c], _ => exact ⟨b, c, rfl⟩
      have hx : x = .tuple (ds b) ∧ y = .tuple (ds c) := by simpa [dss] using hbl
      obtain ⟨rfl, rfl⟩ := hx
      rw [he]
      refine ⟨.en b c, A, B, rfl, ⟨h2.1, h2.2.1.1, h2.2.1.2⟩, ?_, ?_, h5, h6, h7.1, oks_mono (fun _ h => h) (fun _ h => h) true c false h7.2.1⟩
      · simp [nss] at h3; rw [St.n]; omega
      · simp [kss] at h4; rw [St.k]; omega
  rw [decide_eq_false he] at hst h
  rw [if_neg (by decide)] at hst h
  rw [Bool.and_eq_true, decide_eq_true_eq, decide_eq_true_eq] at hst
  obtain ⟨rfl, hr⟩ := hst
  have hr := List.eq_nil_of_length_eq_zero hr
  subst hr
  have : 1 + 0 = k := by simpa [sumO] using h
  exact ⟨.rt, [], [], rfl, trivial, this, by simp [St.k], nok_nil, nok_nil, trivial⟩
theorem stms_is {n : Nat} (ih : ∀ d k, bodyN n d = some k → BodyIs n d k) : ∀ {ss : List PyData} {k : Nat}, sumO (ss.map (stmW (bodyN n))) = some k → ∃ (b : List St) (A B : List Str), ss = ds b ∧ wdl b ∧ ns b = k ∧ ks b ≤ n + 1 ∧ Nok A ∧ Nok B ∧ oks A B false b
  | [], k, h => by
    have : 0 = k := by simpa [sumO] using h
    exact ⟨[], [], [], rfl, trivial, this, Nat.zero_le _, nok_nil, nok_nil, trivial⟩
  | d :: r, k, h => by
    rw [List.map_cons, sumO_cons] at h
    cases e : stmW (bodyN n) d with
    | none => rw [e] at h; cases h
    | some a =>
      rw [e] at h
      cases e2 : sumO (r.map (stmW (bodyN n))) with
      | none => rw [e2] at h; cases h
      | some c =>
        rw [e2] at h
        have hk : a + c = k := by simpa using h
        obtain ⟨s, A, B, rfl, h2, h3, h4, h5, h6, h7⟩ := stm_is ih e
        obtain ⟨b, A', B', rfl, g2, g3, g4, g5, g6, g7⟩ := stms_is ih e2
        exact ⟨s :: b, A ++ A', B ++ B', rfl, ⟨h2, g2⟩, by rw [ns]; omega, by rw [ks]; omega, nok_app h5 g5, nok_app h6 g6, ok_mono inl' inl' false s false h7, oks_mono inr' inr' false b false g7⟩
theorem body_is : ∀ (n : Nat) (d : PyData) (k : Nat), bodyN n d = some k → BodyIs n d k
  | 0, d, k, h => by
    cases d with
    | tuple ss =>
      cases ss with
      | nil =>
        have : 0 = k := by simpa [bodyN] using h
        exact ⟨[], [], [], rfl, Nat.zero_le _, trivial, this, Nat.zero_le _, nok_nil, nok_nil, trivial⟩
      | cons _ _ => cases h
    | _ => cases h
  | n + 1, d, k, h => by
    cases d with
    | tuple ss =>
      unfold bodyN at h
      split at h
      · rename_i h60
        obtain ⟨b, A, B, rfl, h2, h3, h4, h5, h6, h7⟩ := stms_is (body_is n) h
        rw [ds_len] at h60
        exact ⟨b, A, B, rfl, h60, h2, h3, h4, h5, h6, h7⟩
      · cases h
    | _ => cases h
theorem names_is : ∀ {ls : List PyData}, ls.all nameD = true → ∃ L, ls = L.map PyData.str ∧ Nok L
  | [], _ => ⟨[], rfl, nok_nil⟩
  | d :: r, h => by
    rw [List.all_cons, Bool.and_eq_true] at h
    obtain ⟨x, rfl, hx⟩ := name_str h.1
    obtain ⟨L, rfl, hL⟩ := names_is h.2
    exact ⟨x :: L, rfl, fun y hy => by
      rcases List.mem_cons.mp hy with rfl | hy
      · exact hx
      · exact hL y hy⟩
theorem procs_is : ∀ {ps : List PyData} {bl : List (List St)}, ps.all procB = true → ps.map procBody = dss bl → ∃ Ps : List (Str × List St), ps = Ps.map procD ∧ nsP Ps = bl ∧ Nok (Ps.map Prod.fst)
  | [], bl, _, e => by
    have : bl = [] := by
      cases bl with
      | nil => rfl
      | cons _ _ => cases e
    subst this
    exact ⟨[], rfl, rfl, nok_nil⟩
  | d :: r, bl, h, e => by
    rw [List.all_cons, Bool.and_eq_true] at h
    obtain ⟨dn, db, rfl⟩ : ∃ dn db, d = .tuple [dn, db] := by
      cases d with
      | tuple ds =>
        match ds, h.1 with
        | [x, y], _ => exact ⟨x, y, rfl⟩
      | _ => cases h.1
    obtain ⟨x, rfl, hx⟩ := name_str (show nameD dn = true from h.1)
    cases bl with
    | nil => cases e
    | cons b bl =>
      have e : db :: r.map procBody = .tuple (ds b) :: dss bl := e
      injection e with e1 e2
      subst e1
      obtain ⟨Ps, rfl, h2, h3⟩ := procs_is h.2 e2
      exact ⟨(x, b) :: Ps, rfl, by rw [← h2]; rfl, fun y hy => by
        rcases List.mem_cons.mp hy with rfl | hy
        · exact hx
        · exact h3 y hy⟩
theorem prog_is {d : PyData} (h : isProgB d = true) : ∃ L Ps A B, d = progD L Ps ∧ Prog L Ps A B := by
  cases hrow : rowD d 2 2 with
  | false => rw [prog_norow hrow] at h; cases h
  | true =>
  obtain ⟨ds, rfl⟩ := row_tup hrow
  obtain ⟨dl, dp, rfl⟩ := two_of hrow
  have h : (rowD dl 1 20 && (rowD dp 1 8 && ((tl dp).all procB && ((tl dl).all nameD && fits (sumO (((tl dp).map procBody).map (bodyN 12))))))) = true := h
  simp only [Bool.and_eq_true] at h
  obtain ⟨h1, h2, h3, h4, h5⟩ := h
  obtain ⟨ls, rfl⟩ := row_tup h1
  obtain ⟨ps, rfl⟩ := row_tup h2
  have l1 := row_len (lo := 1) (hi := 20) h1
  have l2 := row_len (lo := 1) (hi := 8) h2
  obtain ⟨L, hL, hLn⟩ := names_is (show ls.all nameD = true from h4)
  subst hL
  unfold fits at h5
  cases e : sumO (((tl (.tuple ps)).map procBody).map (bodyN 12)) with
  | none => rw [e] at h5; cases h5
  | some k =>
    rw [e] at h5
    have hk : k ≤ 200 := of_decide_eq_true h5
    obtain ⟨bl, A, B, hbl, g2, g3, g4, g5, g6, g7⟩ := bodies_is (body_is 12) e
    obtain ⟨Ps, hPs, hP2, hP3⟩ := procs_is (show ps.all procB = true from h3) hbl
    subst hPs
    rw [List.length_map] at l1 l2
    subst hP2
    refine ⟨L, Ps, L ++ A, Ps.map Prod.fst ++ B, rfl, l1.1, l1.2, l2.1, l2.2, nok_app hLn g5, nok_app hP3 g6, inl', inl', fun b hb => oks_mono inr' inr' false b false (okss_iff.mp g7 b hb), g2, g4, by omega⟩
end K00


set_option Elab.async false
set_option linter.all false
set_option maxRecDepth 100000
set_option maxHeartbeats 4000000
/-! an own exception under own levels above ValueError whose __init__ is: super().__init__(text); self.attr = par -/
namespace UG
open PySem PySem.W PySem.Calls PySem.Spec PyProof.Rows L2

def supBody (attr par txt : Str) (n : Nat) (p0 p1 p2 p3 p4 p5 p6 p7 p8 p9 : Pos) : List Stmt :=
  [.Expr (.Call (.Attribute (.Call (.Name "super" p0) [] [] p1) "__init__" p2) [.Constant (.str txt) n p3] [] p4) p5, .Assign [.Attribute (.Name "self" p6) attr p7] (.Name par p8) p9]
def supSc (par : Str) : Scope := { kind := .function, names := [("self", .local), (par, .local), ("__class__", .free), ("super", .globalImplicit)], isGenerator := false, isCoroutine := false, more := [] }
/-- its promise -/
def spSup (C : Addr) (attr : Str) : Sp := fun vs H Q _ => ∃ (a : Addr) (v : V), vs = [.ref a, v] ∧ H a = some (exo a C none) ∧ ∀ d, H d = none → d ≠ a → Q .non (upd (upd H d (exd d [(attr, v)])) a (exo a C (some d)))
def supC (attr par : Str) (sc : Scope) : Bool :=
  decide (sc.kind = .function) && !sc.isCoroutine && !sc.isGenerator && decide (sc.names.lookup ("self" : Str) = some .local) && decide (sc.names.lookup par = some .local) && decide (sc.names.lookup ("super" : Str) = some .globalImplicit) && decide (sc.names.lookup ("__class__" : Str) = some .free) && sc.names.all (fun y => !decide (y.2 = .cell)) && !decide (par = ("self" : Str)) && !(par == ("__debug__" : Str))
theorem fn_sup {P : Program} {w : World} {K : Frag} {mg : Str → Option Value} {base : Heap} {CX : CXT} {k : Nat} {f C cda cc : Addr} {qual attr par txt : Str} {n : Nat} {p0 p1 p2 p3 p4 p5 p6 p7 p8 p9 : Pos} {params : Arguments} {dV kV doc pm ct oc ccl cl : Value} {an od cdd cld : Option Addr} {osl ccs csl : Array (Option Value)} {ar : Arg} {vs0 : Array Value} {file : Str} {tf : Tok} {cd : ClassData}
    (T : OexC K C) (lk : K.lookup f = some ⟨oc, od, .func (ksFn "__init__" qual params (supBody attr par txt n p0 p1 p2 p3 p4 p5 p6 p7 p8 p9) (supSc par) dV kV doc pm an (.ref cda) ct cc), osl⟩) (hcd : codeIn K (.ref cda) qual = true) (hs : supC attr par (supSc par) = true)
    (hp : (params.posonlyargs ++ params.args).head? = some ar) (har : ar.arg = "self") (hcode : K.lookup cda = some ⟨ccl, cdd, .fields vs0, ccs⟩) (hvs : vs0[2]? = some (.str file tf)) (hfile : ((P.main.file : Str) == file) = true)
    (hcell : K.lookup cc = some ⟨cl, cld, .cell (some (.ref C)), csl⟩) (hD : clsIn K C = some cd) (hsub : mroIn K C (.ref C) = some true) (hsuper : mg "super" = none) (htop : (P.main.scope.names.lookup ("super" : Str)).isSome = false)
    (hm : ks_superIn K C C "__init__" = some (some (.builtin "ValueError.__init__"))) (hB : subIn K (.ref C) (.type "ValueError") = some true) (hop : nsIn K cStatics "thirdparty.any" = some none) (hno : findIn K (.ref C) attr = some none)
    {pl : Addr → Sem Bool} (hev : ∀ L : Addr, eval (.Call (.Attribute (.Call (.Name "super" p0) [] [] p1) "__init__" p2) [.Constant (.str txt) n p3] [] p4) (ksEnv qual (supSc par) L f (.ref cda) cc) = (do
      let ov ← attributeBase (.Call (.Name "super" p0) [] [] p1) "__init__" (ksEnv qual (supSc par) L f (.ref cda) cc) (eval (.Call (.Name "super" p0) [] [] p1) (ksEnv qual (supSc par) L f (.ref cda) cc))
      standAt p2.atName
      let (f', first) ← holding [ov] (getMethod ov "__init__" (pl L))
      callWith p4 f' first (backTo p4 (starEach [.Constant (.str txt) n p3] (ksEnv qual (supSc par) L f (.ref cda) cc))) [])) :
    FnOk P w K mg base CX (k + 1) f (ksFn "__init__" qual params (supBody attr par txt n p0 p1 p2 p3 p4 p5 p6 p7 p8 p9) (supSc par) dV kV doc pm an (.ref cda) ct cc) ["self", par] (spSup C attr) := by
  refine ⟨fun vs H Q E => by rintro ⟨a, v, rfl, _⟩; rfl, fun A outer s H args us vs Q E hr e0 hb r hsp => ?_⟩
  obtain ⟨a, v, rfl, ha, q⟩ := hsp
  obtain ⟨u, ru, rfl⟩ : ∃ u, RelV v u ∧ us = [.ref a, u] := by
    cases r with
    | @cons _ u0 _ ur h1 h2 =>
      cases h2 with
      | @cons _ u1 _ _ h3 h4 =>
        cases h4
        obtain rfl : u0 = Value.ref a := h1
        exact ⟨_, h3, rfl⟩
  unfold supC at hs
  simp only [Bool.and_eq_true, Bool.not_eq_true', decide_eq_true_eq, List.all_eq_true, decide_eq_false_iff_not] at hs
  obtain ⟨⟨⟨⟨⟨⟨⟨⟨⟨hk, hco⟩, hgen⟩, hself⟩, hpar⟩, hks⟩, hkc⟩, hcells⟩, hne⟩, hdb⟩ := hs
  have KX : K.In s.heap := e0.mod.kin.keeps fun b o e => (e0.bs b o e).1
  have lim : s.heap.NoLimit := e0.mod.nolimit.keeps fun b o e => (e0.bs b o e).1
  have hloc : ∀ y ∈ (["self", par] : List Str).zip [Value.ref a, u], (supSc par).names.lookup y.1 = some .local := by
    intro y hy
    simp only [List.zip_cons_cons, List.zip_nil_right, List.mem_cons, List.not_mem_nil, or_false] at hy
    rcases hy with rfl | rfl
    · exact hself
    · exact hpar
  refine ks_codeAny_call_defAt (fd := ksFn "__init__" qual params (supBody attr par txt n p0 p1 p2 p3 p4 p5 p6 p7 p8 p9) (supSc par) dV kV doc pm an (.ref cda) ct cc) (body := supBody attr par txt n p0 p1 p2 p3 p4 p5 p6 p7 p8 p9) hr.depth (KX _ _ lk) rfl lim (codeRec_of KX hcd) rfl hb hcells hloc (fun h₁ hns hk₁ => ?_) hco hgen hk
  obtain ⟨nm, qn, N, bs, bm, sn, sub, ab, col, dd, k0, k1, k2, k3, k5, hC, hbm⟩ := T.cls
  have hcl : clsIn K C = some { name := nm, bases := bs, mro := .ref C :: bm, ns := N, qualname := qn, hasDict := true, slotNames := sn, subclasses := sub, abstract := ab, collection := col, hasDel := false } := by unfold clsIn; rw [hC] <;> rfl
  obtain ⟨t1, hao⟩ := exo_at e0.hok ha
  show _root_.PySem.wpAt (model P w) (A.deeper (ksEnv qual (supSc par) s.heap.objs.size f (.ref cda) cc)) (.func (supBody attr par txt n p0 p1 p2 p3 p4 p5 p6 p7 p8 p9) (ksEnv qual (supSc par) s.heap.objs.size f (.ref cda) cc)) (execs (supBody attr par txt n p0 p1 p2 p3 p4 p5 p6 p7 p8 p9) (ksEnv qual (supSc par) s.heap.objs.size f (.ref cda) cc)) _ _ _
  obtain ⟨hp0, g, d, t, os⟩ := s
  have hk1' : ∀ b o, hp0.get? b = some o → h₁.get? b = some o := hk₁
  have hns1 : h₁.Ns hp0.objs.size (fun x => ((["self", par] : List Str).zip [Value.ref a, u]).reverse.lookup x) := hns
  have sz1 : hp0.objs.size < h₁.objs.size := by obtain ⟨o, _, _, e1, _⟩ := hns1; exact Heap.lt_size e1
  have hloc1 : ∀ (m : Heap) (t' : Nat) {E' : Value → Shared → Prop} {Q' : Value → Shared → Prop} {x : Str} {y : Value}, (∀ b o, b ≠ a → h₁.get? b = some o → m.get? b = some o) → (supSc par).names.lookup x = some .local → ((["self", par] : List Str).zip [Value.ref a, u]).reverse.lookup x = some y → Q' y ⟨m, g, d, t', os⟩ →
      wpAny (model P w) (A.deeper (ksEnv qual (supSc par) hp0.objs.size f (.ref cda) cc)) (loadName (ksEnv qual (supSc par) hp0.objs.size f (.ref cda) cc) x) Q' E' ⟨m, g, d, t', os⟩ := by
    intro m t' E' Q' x y hm1 hl hy hq
    have hLa : hp0.objs.size ≠ a := Nat.ne_of_gt (Heap.lt_size hao)
    have hnsm : m.Ns hp0.objs.size (fun x => ((["self", par] : List Str).zip [Value.ref a, u]).reverse.lookup x) := by
      obtain ⟨o, es, ep, e1, e2⟩ := hns1
      exact ⟨o, es, ep, hm1 _ _ hLa e1, e2⟩
    exact wpAny_loadName_local (env := ksEnv qual (supSc par) hp0.objs.size f (.ref cda) cc) hk hl hnsm hy hq
  have lkS : ((["self", par] : List Str).zip [Value.ref a, u]).reverse.lookup ("self" : Str) = some (.ref a) := by
    show List.lookup ("self" : Str) [(par, u), ("self", .ref a)] = _
    have e : (("self" : Str) == par) = false := by simpa using Ne.symm hne
    simp [List.lookup, e]
  have lkP : ((["self", par] : List Str).zip [Value.ref a, u]).reverse.lookup par = some u := by
    show List.lookup par [(par, u), ("self", .ref a)] = _
    simp [List.lookup]
  have KX1 : K.In h₁ := KX.keeps hk1'
  have I1 : InstAt h₁ a { cls := .ref C, data := .fields #[.ref t1, .none, .none, .none, .bool false, .none] } C none := ⟨hk1' _ _ hao, rfl, rfl, trivial⟩
  unfold supBody
  refine ks_wpAt_execs_cons (ks_wpAt_Expr_any (ks_wpAt_MethodCall (pl := pl hp0.objs.size) ?_ (hev hp0.objs.size)))
  refine ks_wpAt_super_base (env := ksEnv qual (supSc par) hp0.objs.size f (.ref cda) cc) hks hkc (by decide) rfl (KX1 _ _ lk) rfl hp rfl (KX1 _ _ hcode) rfl hvs hfile htop ?_
  have bk : ∀ b o, base.get? b = some o → h₁.get? b = some o := fun b o e => hk1' b o (e0.bs b o e).1
  obtain ⟨mb, hmb, hmbb⟩ := e0.mod.blt
  refine ks_loadName_global hk hks (loadGlobal_builtin (env := ksEnv qual (supSc par) hp0.objs.size f (.ref cda) cc) (e0.mod.glob.keeps bk) hsuper (hmb.keeps bk) ((hmbb _ (by decide +kernel)).trans (show bootBuiltins "super" = some (.type "super") from by first | kernel_rfl | rfl)) ⟨rfl, ?_⟩)
  refine wpAny_loadName_free (env := ksEnv qual (supSc par) hp0.objs.size f (.ref cda) cc) hk hkc rfl ⟨_, KX1 _ _ hcell, rfl⟩ ?_
  rw [har]
  refine hloc1 h₁ _ (fun b o _ e => e) hself lkS ?_
  have hDo := KX1 _ _ hC
  refine ks_wpAny_isType_cls hDo rfl ⟨rfl, ?_⟩
  refine ks_wpAny_call_super hDo rfl I1.at_ I1.cls (fun c e => ?_) (looks_mroIn KX1 hsub) (fun h₂ e2 k2' => ?_)
  · cases e
  have sz2 : h₁.objs.size < h₂.objs.size := Heap.lt_size e2
  have KX2 : K.In h₂ := KX1.keeps k2'
  have I2 : InstAt h₂ a { cls := .ref C, data := .fields #[.ref t1, .none, .none, .none, .bool false, .none] } C none := ⟨k2' _ _ I1.at_, rfl, rfl, trivial⟩
  have hal : alongIn K "__init__" (((.ref C :: bm : List Value).dropWhile (· != .ref C)).drop 1) = some (some (.builtin "ValueError.__init__")) := by
    unfold ks_superIn at hm
    rw [hcl] at hm
    exact hm
  refine kxs_getMethod kxs_ValueError e2 (looks_opaque KX2 hop) (l₀ := .ref C :: bm) ((looks_clsIn KX2 hcl).andThen .now) rfl KX2 hal (I2.type.andThen (looks_subIn KX2 hB)) (ks_ne KX2 I2 hcl) (by decide) ?_
  have e3 : (h₂.push (kxs_mw "ValueError.__init__" a)).get? h₂.objs.size = some (kxs_mw "ValueError.__init__" a) := Heap.get?_push_size _ rfl
  have k3' : ∀ b o, h₂.get? b = some o → (h₂.push (kxs_mw "ValueError.__init__" a)).get? b = some o := fun b o e => Heap.get?_push_of_some _ e
  have sz3 : h₂.objs.size < (h₂.push (kxs_mw "ValueError.__init__" a)).objs.size := Heap.lt_size e3
  generalize hu3 : h₂.objs.size = u3 at e3 sz3 sz2
  generalize hp3 : h₂.push (kxs_mw "ValueError.__init__" a) = h₃ at e3 k3' sz3
  have KX3 : K.In h₃ := KX2.keeps k3'
  refine kxs_callWith (i := "ValueError.__init__") (x := a) rfl (evalArgs_plain ?_)
  show wpAny _ _ (spliced [(false, eval (.Constant (.str txt) n p3) (ksEnv qual (supSc par) hp0.objs.size f (.ref cda) cc))]) _ _ _
  refine Calls.spliced_cons (Calls.Constant_str (Calls.spliced_nil ⟨e3, ?_⟩))
  -- the call of ValueError.__init__
  refine wpAny_call (codeAny_of_tree ?_)
  show wpAny _ (Around.in1 _) (callAny (.ref u3) ⟨[.str txt _], []⟩) _ _ _
  simp only [callAny]
  refine wpAny_bind (wpAny_load e3 ?_)
  simp only [kxs_mw, show (Value.type "method-wrapper" == Value.type "method" || Value.type "method-wrapper" == Value.type "builtin_function_or_method" || Value.type "method-wrapper" == Value.type "method-wrapper") = true by decide, if_true]
  refine KFB.if_so (by decide) ?_
  have ka3 := k3' _ _ (k2' _ _ I1.at_)
  refine wpAny_bind (check_bound_init F.excBase_ValueError.toExcCallFacts (KX3 _ _ hC) ka3 rfl ?_)
  refine wpAny_bind (wpAny_pure (wpAny_pure ?_))
  refine ⟨plainId_quiet F.excBase_ValueError.init.plain _, codeAny_builtin F.excBase_ValueError.initEntry ?_⟩
  refine exc_init_tree (cls := .ref C) (t0 := t1) (dv := none) (c2 := .none) (c3 := .none) (b4 := .bool false) ka3 (by show 1 ≤ sizeLine; decide) (fun h₄ k4 e4 e5 => ?_)
  have sz4 : h₃.objs.size < h₄.objs.size := Heap.lt_size e5
  have k14 : ∀ b o, b ≠ a → h₁.get? b = some o → h₄.get? b = some o := fun b o hb e => k4 b o hb (k3' _ _ (k2' _ _ e))
  have hCa : ∀ b o, K.lookup b = some o → b ≠ a := fun b o e z => by
    have e' := e0.mod.kin _ _ e
    have := (e0.bs _ _ e').2
    rw [z, ha] at this
    cases this
  have KX4 : K.In h₄ := fun b o e => k14 b o (hCa b o e) (KX1 b o e)
  show _root_.PySem.wpAt (model P w) _ _ (execs [.Assign [.Attribute (.Name "self" p6) attr p7] (.Name par p8) p9] (ksEnv qual (supSc par) hp0.objs.size f (.ref cda) cc)) _ _ _
  refine wpAt_of_wpAny ?_
  refine wpAny_execs_cons (plainObj_wpAny_Assign_Attribute (wpAny_Name (hloc1 h₄ _ k14 hpar lkP (wpAny_Name (hloc1 h₄ _ k14 hself lkS ?_) (by decide))) hdb) (by rfl))
  have e4' : h₄.get? a = some ({ cls := .ref C, data := .fields #[.ref h₃.objs.size, .none, .none, .none, .bool false, .none] } : Obj) := e4
  refine set_plain KX4 (ox := { cls := .ref C, dict := none, data := .fields #[.ref h₃.objs.size, .none, .none, .none, .bool false, .none] }) (od := none) ⟨e4', rfl, rfl, trivial⟩ T.sa ?_
  refine PySem.HandSPX.exc_osa KX4 e4' hcl (show PySem.HandSPX.refsVE (.ref C :: bm) = true from hbm) rfl hno (fun h₅ tk' dx k5 dn dne hx hn => ?_)
  have kk : ∀ b o, b ≠ a → hp0.get? b = some o → h₅.get? b = some o := fun b o hb e => k5 b o hb (k14 b o hb (hk1' b o e))
  have dn0 : hp0.objs.size ≤ dx := Nat.le_trans (Nat.le_of_lt (Nat.lt_trans sz1 (Nat.lt_trans sz2 (Nat.lt_trans sz3 sz4)))) dn
  have hnd : H dx = none := e0.hok.fresh dn0
  have nd : ∀ {b : Addr} {o : Obj}, hp0.get? b = some o → b ≠ dx := fun {b o} z => Nat.ne_of_lt (Nat.lt_of_lt_of_le (Heap.lt_size z) dn0)
  have na : ∀ {b : Addr}, H b = none → b ≠ a := fun {b} n z => by
    rw [z, ha] at n
    cases n
  have hne' : dx ≠ a := dne
  have Un1 : Un (frs outer) [] H (upd (upd H dx (exd dx [(attr, v)])) a (exo a C (some dx))) hp0 h₅ := {
    keep := fun b o z n _ _ => kk b o (na n) z
    slot := fun b o z n _ _ => ⟨o.slots, kk b o (na n) z⟩
    free := fun b o z n _ => by rw [upd_ne (na n), upd_ne (nd z)]; exact n
    there := fun b o z _ => by
      by_cases hb : b = a
      · exact ⟨_, by rw [hb]; exact hx⟩
      · exact ⟨o, kk b o hb z⟩
    tups := fun b xs z => by rw [upd_ne (at_ne ha z exo_tup), upd_ne (ne_of_none z hnd)]; exact z
    frzs := fun b o v z => by rw [upd_ne (at_ne ha z exo_frz), upd_ne (ne_of_none z hnd)]; exact z
    tbls := fun b ps z => ⟨#[], by rw [upd_ne (at_ne ha z exo_tbl), upd_ne (ne_of_none z hnd), z]; simp⟩ }
  have hok5 : HOk P w (upd (upd H dx (exd dx [(attr, v)])) a (exo a C (some dx))) h₅ := fun b o z => by
    by_cases hb : b = a
    · subst hb
      rw [upd_same] at z
      cases z
      exact exo_ok hx
    · rw [upd_ne hb] at z
      by_cases hd : b = dx
      · subst hd
        rw [upd_same] at z
        cases z
        exact exd_ok hn (relO_put (fs := []) ru fun g => True.intro)
      · rw [upd_ne hd] at z
        exact (e0.hok b o z).stay (fun c v hc y => kk c v (by
            rcases hc with hc | hc
            · rw [hc]
              exact hb
            · exact at_ne ha hc exo_own) y)
          (fun c hc => by rw [upd_ne (at_ne ha hc exo_own), upd_ne (ne_of_none hc hnd)]; exact hc) (fun c xs hc => by rw [upd_ne (at_ne ha hc exo_tup), upd_ne (ne_of_none hc hnd)]; exact hc)
  refine wpAny_execs_nil ?_
  exact ⟨.non, _, rfl, e0.bare, Un1, hok5, rfl, q dx hnd hne'⟩
end UG


set_option Elab.async false
set_option linter.all false
set_option maxRecDepth 100000
set_option maxHeartbeats 4000000
/-! a comprehension whose element may raise: the error leaves the block and is in the air of the def -/
namespace UG
open PySem PySem.Spec PyProof.Rows L2

theorem frames_swap {h h' B B' : Heap} (k : ∀ b o, h.get? b = some o → B.get? b = none → h'.get? b = some o) (n : ∀ b, B.get? b = none → B'.get? b = none) : ∀ {l : List Env}, h.FunFrames B l → h'.FunFrames B' l
  | [], _ => trivial
  | _ :: _, ⟨kd, ⟨L, o, ef, eB, eh, nf⟩, rest⟩ => ⟨kd, ⟨L, o, ef, n L eB, k L o eh eB, nf⟩, frames_swap k n rest⟩
section
variable {X : Cx} {pins : List (Addr × Obj)} {σ : L2.St} {H1 : Hp} {s1 s2 : Shared} {W : WX} {E : XK} {C : Addr} {ce : Env} {e : Value}
theorem note_same (hce : ce.frame = X.env.frame) (v : Value) : noteFrame v ce = noteFrame v X.env := by
  unfold noteFrame PySem.frameOf
  rw [hce]
/-- the error of a call within a block, noted, and the block's names let go -/
theorem fly_out (hfr : X.A.frames = some X.stack) (hs : X.stack = X.env :: X.outer) (hf : X.env.frame = some X.env.locals) (tk : Takes X W) (hW : ∀ cls d σ H, E cls d H → W cls d σ H) (J : Inv X pins σ H1 s1) (fp : FpOk X pins H1 C)
    (hn : ∃ m, s1.heap.Ns C m) (hce : ce.frame = X.env.frame) (c : L2.CX X.prog X.w X.stack H1 s1 E e s2) {EE : Value → Shared → Prop} :
    wpAny (model X.prog X.w) X.A (noteFrame e ce) (fun _ s3 => ∃ m, s3.heap.Ns C m ∧ ∀ h', Heap.SameBut C s3.heap h' →
      wpAny (model X.prog X.w) X.A (PySem.passOn "comprehension.variables-let-go" e ce : Sem Value) (fun _ _ => False) X.xe { s3 with heap := h' }) EE s2 := by
  obtain ⟨a, B, H2, cls, d, rfl, fl, hok, ub, na, eos, ag, hE⟩ := c
  have nC : C ∉ frs X.stack := fun z => (List.mem_cons.mp (J.stkSub C z)).elim fp.2.1 fp.2.2.1
  obtain ⟨m, oC, es, ep, hoC, rC⟩ := hn
  have bC : B.get? C = some oC := ub.keep C oC hoC fp.1 nC
  have hC2 : H2 C = none := ub.free C oC hoC fp.1
  rw [note_same hce]
  refine HandSPX.looks_onZ (Z := Zc cls d) Zc.steady (by rw [hfr, hs]) hf (by rw [← hs]; exact fl) fun h3 held up => ?_
  rw [← hs] at held
  refine ⟨m, ⟨oC, es, ep, held.1 C oC bC, rC⟩, fun h' sb => ?_⟩
  obtain ⟨B', b1, b2⟩ := restrict h' fun b => (B.get? b).isSome
  obtain ⟨G, g1, g2⟩ := restrict h' fun b => (B.get? b).isSome || decide (b ∈ frs X.stack)
  have noB : ∀ b, B.get? b = none → B'.get? b = none := fun b hb => b2 b (by rw [hb]; rfl)
  have isB : ∀ b o, B.get? b = some o → B'.get? b = h'.get? b := fun b o hb => b1 b (by rw [hb]; rfl)
  have ofB : ∀ b o, B'.get? b = some o → ∃ o', B.get? b = some o' := fun b o hb => by
    cases q : B.get? b with
    | none => rw [noB b q] at hb; cases hb
    | some o' => exact ⟨o', rfl⟩
  have ofNone : ∀ b, B.get? b = none → b ≠ C := fun b hb z => by rw [z, bC] at hb; cases hb
  have st' : B'.StaysIn h' := fun b o hb => by
    obtain ⟨o', q⟩ := ofB b o hb
    rw [isB b o' q] at hb
    exact hb
  have fr' : h'.FunFrames B' X.stack := frames_swap (fun b o hb nb => (sb.2 b (ofNone b nb)).trans hb) noB held.2.2.1
  have aB : B.get? a = none := held.2.1
  have atB : ∀ b o, B.get? b = some o → b ≠ C → h'.get? b = some o := fun b o hb n => (sb.2 b n).trans (held.1 b o hb)
  have atG : ∀ b o, B.get? b = some o → G.get? b = h'.get? b := fun b o hb => g1 b (by rw [hb]; rfl)
  have atF : ∀ b, b ∈ frs X.stack → G.get? b = h'.get? b := fun b hb => g1 b (by rw [decide_eq_true hb, Bool.or_true])
  have ofG : ∀ b o, G.get? b = some o → h'.get? b = some o ∧ ((∃ o', B.get? b = some o') ∨ b ∈ frs X.stack) := fun b o hb => by
    cases q : B.get? b with
    | some o' =>
      rw [atG b o' q] at hb
      exact ⟨hb, .inl ⟨o', rfl⟩⟩
    | none =>
      by_cases z : b ∈ frs X.stack
      · rw [atF b z] at hb
        exact ⟨hb, .inr z⟩
      · rw [g2 b (by rw [q, decide_eq_false z]; rfl)] at hb
        cases hb
  have frF : ∀ b o, s1.heap.get? b = some o → b ∈ frs X.stack → ∃ sl, G.get? b = some { o with slots := sl } := fun b o hb z => by
    obtain ⟨sl, q⟩ := ub.slot b o hb z
    obtain ⟨_, o', q', nf⟩ := J.stack.mem z
    rw [hb] at q'
    cases q'
    obtain ⟨sl2, q2⟩ := up b _ q nf
    refine ⟨sl2, ?_⟩
    rw [atF b z, sb.2 b (fun w => nC (by rw [← w]; exact z))]
    exact q2
  have J2 : Inv X pins σ H2 { s1 with heap := G, gens := s2.gens, drawn := s1.drawn, toks := s1.toks } := by
    refine J.call (ch := [C]) ⟨fun b o hb n1 n2 n3 => ?_, fun b o hb _ z _ => frF b o hb z, fun b o hb n1 _ => ub.free b o hb n1, fun b o hb n3 => ?_, ub.tups, ub.frzs, ub.tbls⟩ (fun b o hb => ?_) ag fun b hb => ?_
    · have q := ub.keep b o hb n1 n2
      rw [atG b o q]
      exact atB b o q (fun w => n3 (by rw [w]; exact List.mem_cons_self))
    · by_cases z : b ∈ frs X.stack
      · obtain ⟨sl, q⟩ := frF b o hb z
        exact ⟨_, q⟩
      · obtain ⟨o', q⟩ := ub.there b o hb z
        exact ⟨o', (atG b o' q).trans (atB b o' q (fun w => n3 (by rw [w]; exact List.mem_cons_self)))⟩
    · refine (hok b o hb).stay (fun b' u hb' r => ?_) (fun _ r => r) fun _ _ r => r
      have n : b' ≠ C := fun w => by
        rcases hb' with z | z
        · rw [← z, w, hC2] at hb; cases hb
        · rw [w, hC2] at z; cases z
      exact (atG b' u r).trans (atB b' u r n)
    · cases List.mem_singleton.mp hb
      exact ⟨fp.2.2.2.1, fp.2.1, fp.2.2.2.2.1, fp.2.2.2.2.2⟩
  obtain ⟨oe, vs, T, oT, ts, he, hz, hd, h1, hnT, hTe, hT, hdT, h4⟩ := held.2.2.2
  have he' : h'.get? a = some oe := (sb.2 a (ofNone a aB)).trans he
  have hT' : h'.get? T = some oT := (sb.2 T (ofNone T hnT)).trans hT
  unfold PySem.passOn
  refine wpAny_bind (wpAny_field he' hd h1 ?_)
  rw [if_neg (show ¬ ((Value.ref T == Value.none) = true) from by simp)]
  have fin : wpAny (model X.prog X.w) X.A (setFlight (.ref a) ce.frame) (fun _ s4 => wpAny (model X.prog X.w) X.A (throw (Value.ref a) : Sem Value) (fun _ _ => False) X.xe s4) X.xe { s2 with heap := h' } := by
    rw [hce, hf]
    refine HandSPX.setFlight_anyZ st' fr' ⟨oe, vs, T, oT, ts, he', hz, hd, h1, noB T hnT, hTe, hT', hdT, h4⟩ fun h5 k1 k2 k3 k4 => wpAny_throw (tk _ _ ?_)
    refine ⟨a, B', _, pins, σ, H2, cls, d, rfl, J2, fun b o hb nb => ?_, fun b o hb nf => ?_, .inr (.inr ⟨k1, noB a aB, k2, k3⟩), na, eos, ag, hW _ _ _ _ hE⟩
    · obtain ⟨q, w⟩ := ofG b o hb
      rcases w with ⟨o', w⟩ | w
      · rw [isB b o' w]; exact q
      · exact absurd w nb
    · exact k4 b o (ofG b o hb).1 nf
  first
    | exact wpAny_bind (wpAny_pure (wpAny_bind fin))
    | exact wpAny_bind fin
end
/-- what the end of a block asks; cv: the block's own frame -/
def blockEnd (M : Model) (A : Around) (EE : Value → Shared → Prop) (use : Option (Value → Sem Unit)) (Q : Value → Shared → Prop) (acc : Value) (cv : Env) (r : Result) (s' : Shared) : Prop :=
  match r with
  | .error x => ∃ m, s'.heap.Ns cv.locals m ∧ ∀ h', Heap.SameBut cv.locals s'.heap h' → wpAny M A (PySem.passOn "comprehension.variables-let-go" x cv : Sem Value) (fun _ _ => False) EE { s' with heap := h' }
  | .ok _ => match use with
    | none => ∃ m, s'.heap.Ns cv.locals m ∧ ∀ h', Heap.SameBut cv.locals s'.heap h' → Q acc { s' with heap := h' }
    | some u => wpAny M A (u acc) (fun _ s2 => ∃ m, s2.heap.Ns cv.locals m ∧ ∀ h', Heap.SameBut cv.locals s2.heap h' → Q .none { s2 with heap := h' }) EE s'
section
variable {M : Model} {A : Around} {EE : Value → Shared → Prop} {env : Env} {s : Shared}
theorem comp_wp {ex : Expr} {sc : Scope} {pos : Pos} {mkAcc first : Sem Value} {gen : Comprehension} {gens : List Comprehension} {cls : List (Str × Addr)} {use : Option (Value → Sem Unit)} {Q : Value → Shared → Prop}
    (h1 : clausesOf ex = gen :: gens) (h2 : ∀ x, foldedSetIterable gen.iter env x = pure x) (h3 : closureFor sc env = pure cls) (h4 : sc.kind = .function) (h5 : ∀ x ∈ sc.names, x.2 = .local → sc.names.lookup x.1 = some .local)
    (hyp : wpAny M A first (fun x sA => wpAny M A (pyIter x) (fun it sB => wpAny M A mkAcc (fun acc sC =>
      wpAny M A (newFunctionEnv sc env.globals cls [] env.qual none .none (some env)) (fun cv sD =>
        codeAny M A (.compStart ex 0 it acc { cv with scope := relabel sc env }) (blockEnd M A EE use Q acc { cv with scope := relabel sc env }) sD) EE sC) EE sB) EE sA) EE s) :
    wpAny M A (comprehension ex sc env pos mkAcc false first use) Q EE s := by
  unfold comprehension
  rw [h3, h1]
  refine wpAny_bind (wpAny_mono hyp (fun x sA hA => ?_) fun _ _ y => y)
  refine wpAny_bind (wpAny_standAt (wpAny_bind (wpAny_of_eq (h2 x) (wpAny_bind (wpAny_holding (wpAny_mono hA (fun it sB hB => ?_) fun _ _ y => y))))))
  refine wpAny_standIf (wpAny_bind (wpAny_mono hB (fun acc sC hC => ?_) fun _ _ y => y))
  refine wpAny_bind (wpAny_pure (wpAny_bind (wpAny_mono hC (fun cv sD hD => ?_) fun _ _ y => y)))
  dsimp only
  have loc1 : ∀ x ∈ (sc.names.filter fun x => (x.2 == .local || x.2 == .cell) && x.1 != (".0" : Str)).reverse, x.2 = .local → Env.kindOf { cv with scope := relabel sc env } x.1 = some .local :=
    fun x hx el => lookup_relabel_local (h5 x (List.mem_filter.mp (List.mem_reverse.mp hx)).1 el)
  have loc2 : ∀ x ∈ (sc.names.filter fun x => (x.2 == .local || x.2 == .cell) && x.1 != (".0" : Str)).reverse.drop 1 ++ (sc.names.filter fun x => (x.2 == .local || x.2 == .cell) && x.1 != (".0" : Str)).reverse.take 1,
      x.2 = .local → Env.kindOf { cv with scope := relabel sc env } x.1 = some .local :=
    fun x hx el => (List.mem_append.mp hx).elim (fun q => loc1 x (List.mem_of_mem_drop q) el) fun q => loc1 x (List.mem_of_mem_take q) el
  refine wpAny_holding (wpAny_bind (wpAny_attempt (wpAny_holding (wpAny_run (codeAny_mono hD fun r sE hr => ?_)))))
  cases r with
  | error x =>
    have hr2 : blockEnd M A EE none Q acc { cv with scope := relabel sc env } (.error x) sE := hr
    obtain ⟨m, hm, go⟩ := hr2
    cases use <;> exact wpAny_bind (wpAny_holding (wpAny_comp_letGo (cenv := { cv with scope := relabel sc env }) h4 _ sE m loc1 hm fun hh _ _ sb => wpAny_mono (go hh sb) (fun _ _ z => z.elim) fun _ _ y => y))
  | ok fl =>
    cases use with
    | none =>
      obtain ⟨m, hm, go⟩ := hr
      exact wpAny_bind (wpAny_holding (wpAny_comp_letGo (cenv := { cv with scope := relabel sc env }) h4 _ sE m loc1 hm fun hh _ _ sb => wpAny_pure (go hh sb)))
    | some u =>
      refine wpAny_bind (wpAny_rule (wpAny_bind (wpAny_holding (wpAny_mono hr (fun _ sF hF => ?_) fun _ _ y => y))))
      obtain ⟨m, hm, go⟩ := hF
      exact wpAny_bind (wpAny_comp_letGo (cenv := { cv with scope := relabel sc env }) h4 _ sF m loc2 hm fun hh _ _ sb => wpAny_pure (go hh sb))
end
/-- the context of an element that may raise -/
abbrev elX (X : Cx) (s : Shared) (H : Hp) (sc : Scope) (ce : Env) (fp : List Addr) (xe : Value → Shared → Prop) : Cx := (X.blk s H sc ce fp).wish xe
section
variable {X : Cx}
theorem core_x {pins : List (Addr × Obj)} {sh : Shared} {σ : L2.St} {H : Hp} {Q : VK} {W : WX} {E : XK} {elt tgt itr : Expr} {ifs : List Expr} {sc : Scope} {own : List (Str × Nat)} {pos pos' : Pos} {wi : TI} {g : TG} {tt : TT} {te : TE} {use : Option (Value → Sem Unit)} {Qf : Value → Shared → Prop}
    (hs : X.stack = X.env :: X.outer) (hf : X.env.frame = some X.env.locals) (tk : Takes X W) (hW : ∀ cls d σ H, E cls d H → W cls d σ H)
    (calm : X.calm = true) (J : Inv X pins σ H sh) (hi : PI X tgt itr wi) (ok : BlkOk X.N X.env.scope sc own) (nd : X.N.Nodup)
    (hg : ∀ (s : Shared) (H : Hp) (C : Addr) (cl : List (Str × Addr)) (fp : List Addr), PG (X.blk s H sc (compEnvC sc cl C X.env) fp) tgt g)
    (ht : ∀ (s : Shared) (H : Hp) (C : Addr) (cl : List (Str × Addr)) (fp : List Addr), PTs (X.blk s H sc (compEnvC sc cl C X.env) fp) ifs tt)
    (he : ∀ (s : Shared) (H : Hp) (C : Addr) (cl : List (Str × Addr)) (fp : List Addr) (xe : Value → Shared → Prop), Passes (L2.CX X.prog X.w) (elX X s H sc (compEnvC sc cl C X.env) fp xe) E → PE (elX X s H sc (compEnvC sc cl C X.env) fp xe) elt te)
    (fold : ∀ x, foldedSetIterable itr X.env x = pure x) (hyp : tLc wi g tt te (own.map (·.2)) σ H Q)
    (fin : ∀ D C s' m H', Inv X pins σ H' s' → Q (.ref D) H' → s'.heap.Ns C m → FpOk X pins H' C → ∀ cv : Env, cv.locals = C → blockEnd (model X.prog X.w) X.A X.xe use Qf (.ref D) cv (.ok .next) s') :
    wpAny (model X.prog X.w) X.A (comprehension (.ListComp elt [⟨tgt, itr, ifs, 0⟩] sc pos) sc X.env pos' (newList []) false (eval itr X.env) use) Qf X.xe sh := by
  have frees : ∀ y ∈ sc.names, y.2 = .free → ∃ c, X.env.cells.lookup y.1 = some c := fun y hy e => J.ok.has _ (ok.free y hy e)
  refine comp_wp (use := use) rfl fold (closure_ok frees) ok.kind (fun y hy e => by rw [ok.uniq y hy, e]) (thn (hi.run pins sh σ H _ J hyp) fun _ _ hx => thn hx fun _ sA hA => ?_)
  obtain ⟨it, fp, tn, Jt, HA, rfl, JA, TT, stA, fA, q⟩ := hA
  refine wpAny_newObj_type (newEnv_comp ?_) (by show 0 ≤ sizeLine; decide)
  generalize hD : sA.heap.objs.size = D
  have freeD : HA D = none := JA.hok.fresh (Nat.le_of_eq hD)
  obtain ⟨Wt, ⟨k0, w0⟩, turn⟩ := q D freeD
  generalize hB : ({ sA with heap := sA.heap.push { cls := .type "list", data := .seq ([] : List Value).toArray } } : Shared) = sB
  have hpB : sB.heap = sA.heap.push { cls := .type "list", data := .seq ([] : List Value).toArray } := by rw [← hB]
  have keepB : ∀ b o, sA.heap.get? b = some o → sB.heap.get? b = some o := fun b o hb => by rw [hpB]; exact Heap.get?_push_of_some _ hb
  have JB : Inv X pins σ (upd HA D (.lst [])) sB := by
    subst hB
    refine JA.laid (t' := sA.toks) (fun _ _ hb => Heap.get?_push_of_some _ hb) (Nat.le_of_eq hD) ⟨Nat.zero_le _, [], 0, .nil, ?_⟩
    subst hD
    exact Heap.get?_push_size _ rfl
  have small : ∀ b ∈ fp, b < sA.heap.objs.size := fun b hb => let ⟨_, z, _⟩ := TT.obj _ _ stA b hb; Heap.lt_size z
  have fB : ∀ b ∈ fp, FpOk X pins (upd HA D (.lst [])) b ∧ b < sB.heap.objs.size := fun b hb => by
    have lt := small b hb
    have n : b ≠ D := fun z => by rw [z, ← hD] at lt; exact Nat.lt_irrefl _ lt
    refine ⟨⟨by rw [upd_ne n]; exact (fA b hb).1, (fA b hb).2⟩, ?_⟩
    rw [hpB, Heap.size_push]
    exact Nat.lt_succ_of_lt lt
  have stB : tn 0 sB.heap := TT.keep _ _ _ stA fun b _ o hb => keepB b o hb
  have J0 := block_start JB ok nd fB
  have pg := hg sB (upd HA D (.lst [])) sB.heap.objs.size (cellsFrom (sB.heap.objs.size + 1) sc.names (cloFrom X.env.cells sc.names [])) fp
  have pt := ht sB (upd HA D (.lst [])) sB.heap.objs.size (cellsFrom (sB.heap.objs.size + 1) sc.names (cloFrom X.env.cells sc.names [])) fp
  have pe := he sB (upd HA D (.lst [])) sB.heap.objs.size (cellsFrom (sB.heap.objs.size + 1) sc.names (cloFrom X.env.cells sc.names [])) fp
  have free0 : ∀ b ∈ fp, (upd HA D (.lst [])) b = none := fun b hb => (fB b hb).1.1
  show codeAny _ _ (.compStart (.ListComp elt [⟨tgt, itr, ifs, 0⟩] sc pos) 0 (.ref it) (.ref D) (compEnvC sc (cellsFrom (sB.heap.objs.size + 1) sc.names (cloFrom X.env.cells sc.names [])) sB.heap.objs.size X.env)) (blockEnd (model X.prog X.w) X.A X.xe use Qf (.ref D) (compEnvC sc (cellsFrom (sB.heap.objs.size + 1) sc.names (cloFrom X.env.cells sc.names [])) sB.heap.objs.size X.env)) { sB with heap := pushCells (sB.heap.push { cls := .type "dict", data := .dict #[] }) sc.names }
  generalize hce : compEnvC sc (cellsFrom (sB.heap.objs.size + 1) sc.names (cloFrom X.env.cells sc.names [])) sB.heap.objs.size X.env = ce at J0 pg pt pe ⊢
  have ceL : ce.locals = sB.heap.objs.size := by subst hce; rfl
  have ceF : ce.frame = X.env.frame := by subst hce; rfl
  generalize hHB : upd HA D (.lst []) = HB at JB J0 pg pt pe w0 free0 fB
  generalize hC : ({ sB with heap := pushCells (sB.heap.push { cls := .type "dict", data := .dict #[] }) sc.names } : Shared) = sC at J0 ⊢
  have stC : tn 0 sC.heap := TT.keep _ _ _ stB fun b _ o hb => by rw [← hC]; exact pushCells_keeps _ _ _ _ (Heap.get?_push_of_some _ hb)
  have stands : ∀ {σ' : L2.St} {H' : Hp} {s' : Shared}, Inv (X.blk sB HB sc ce fp) [] σ' H' s' → (∀ b ∈ fp, H' b = none) → ∀ b ∈ fp, FpOk (X.blk sB HB sc ce fp) [] H' b := fun {σ' H' s'} I' hn b hb =>
    ⟨hn b hb, (I'.ok.exf b hb).1, I'.ok.exfs b hb, .inl hb, fun x c z => (I'.ok.exf b hb).2 x c z, fun p hp => absurd (show p ∈ ([] : List (Addr × Obj)) ++ [] from hp) (by simp)⟩
  -- from the block's context back to the def's
  have back : ∀ {pins' : List (Addr × Obj)} {σ' : L2.St} {H' : Hp} {s' : Shared}, Inv (X.blk sB HB sc ce fp) pins' σ' H' s' → Inv X pins σ H' s' ∧ FpOk X pins H' sB.heap.objs.size ∧ ∃ m, s'.heap.Ns sB.heap.objs.size m := fun {pins' σ' H' s'} I' => by
    have nC : H' sB.heap.objs.size = none := by
      have z : H' ce.locals = none := I'.free
      rw [ceL] at z
      exact z
    obtain ⟨m, hm, _⟩ := I'.loc
    have hm : s'.heap.Ns ce.locals m := hm
    rw [ceL] at hm
    exact ⟨JB.call' (ch := fp) I'.os I'.base I'.hok I'.bare fun b hb => ⟨(fB b hb).1.2.2.2.1, (fB b hb).1.2.1, (fB b hb).1.2.2.2.2.1, (fB b hb).1.2.2.2.2.2⟩, JB.fpOk (Nat.le_refl _) nC, m, hm⟩
  have loop : codeAny (model X.prog X.w) X.A (.compLoop (.ListComp elt [⟨tgt, itr, ifs, 0⟩] sc pos) 0 (.ref it) (.ref D) ce) (blockEnd (model X.prog X.w) X.A X.xe use Qf (.ref D) ce) sC := by
    refine compLoop_any (fun n s' => ∃ i H', Inv (X.blk sB HB sc ce fp) [] (wipe σ (own.map (·.2))) H' s' ∧ tn i s'.heap ∧ (∀ b ∈ fp, H' b = none) ∧ Wt i n H') ?_ k0 ⟨0, HB, J0, stC, free0, w0⟩
    rintro n s5 ⟨i, H5, J5, st5, n5, w5⟩
    rcases turn i n H5 w5 with ⟨stop, done⟩ | ⟨go, Nx, hNx, step⟩
    · refine thnF (TT.done (X.blk sB HB sc ce fp) rfl rfl rfl calm i [] s5 _ H5 (fun _ _ => False) J5 (stands J5 n5) st5 stop) fun r s6 ⟨er, J6⟩ => ?_
      subst er
      obtain ⟨z1, z2, m, z3⟩ := back J6
      exact fin D _ s6 m H5 z1 done z3 z2 ce ceL
    · refine thnF (TT.item (X.blk sB HB sc ce fp) rfl rfl rfl calm i [] s5 _ H5 (fun _ _ => False) J5 (stands J5 n5) st5 go) fun r s6 ⟨u, er, got⟩ => ?_
      subst er
      refine thnF got fun _ s7 ⟨x, H7, J7, rx, yl, st7, n7⟩ => ?_
      have J7p := J7.pinned (stands J7 n7) (TT.obj _ _ st7)
      refine thnF (pg.run _ s7 _ H7 x u _ J7p rx (step x H7 yl)) fun _ s8 ⟨σ8, H8, J8, wp8, q8⟩ => ?_
      refine thnF (pt.run _ s8 σ8 H8 _ J8 q8) fun b s9 ⟨H9, J9, q9⟩ => ?_
      have next : ∀ {s' : Shared} {H' : Hp}, Inv (X.blk sB HB sc ce fp) ([] ++ pinsAt fp s7.heap) σ8 H' s' → Nx H' → ∃ m, m < n ∧ ∃ i H', Inv (X.blk sB HB sc ce fp) [] (wipe σ (own.map (·.2))) H' s' ∧ tn i s'.heap ∧ (∀ b ∈ fp, H' b = none) ∧ Wt i m H' := fun {s' H'} I' nx => by
        obtain ⟨m', lt, w'⟩ := hNx H' nx
        have pinned : ∀ b ∈ fp, ∀ o, s7.heap.get? b = some o → s'.heap.get? b = some o ∧ H' b = none := fun b hb o z =>
          let y := I'.pin (b, o) (List.mem_append_right _ (List.mem_append_right _ (mem_pinsAt hb z)))
          ⟨y.1, y.2.1⟩
        have el : (wipe σ (own.map (·.2))).length = σ8.length := by rw [← wp8, wipe_length]
        refine ⟨m', lt, i + 1, H', (I'.unpinned (pins := [])).weak el (fun j v z => ?_), TT.keep _ _ _ st7 fun b hb o z => (pinned b hb o z).1, fun b hb => ?_, w'⟩
        · rw [← wp8] at z
          exact (wipe_some z).1
        · obtain ⟨o, z, _⟩ := TT.obj _ _ st7 b hb
          exact (pinned b hb o z).2
      cases b with
      | false => exact next J9 q9
      | true =>
        have pe1 := pe (fun v s' => ∃ pins' σ' H' s1, Inv (X.blk sB HB sc ce fp) pins' σ' H' s1 ∧ L2.CX X.prog X.w X.stack H' s1 E v s') fun pins' σ' H' s1 v s' I' c => ⟨pins', σ', H', s1, I'.unwish, c⟩
        have ev := pe1.run _ s9 σ8 H9 _ (J9.wish _) q9
        refine wpAny_mono ev (fun z s10 hz => ?_) fun v s10 hv => ?_
        · obtain ⟨yv, H10, J10, r10, acc, hD10, hz10, nx⟩ := hz
          exact app_ok (X := X.blk sB HB sc ce fp) J10.unwish hD10 hz10 r10 fun s11 J11 => next J11 nx
        · obtain ⟨pins', σ', H', s1, I', c⟩ := hv
          obtain ⟨z1, z2, z3⟩ := back I'
          have out := fly_out (EE := fun e s' => blockEnd (model X.prog X.w) X.A X.xe use Qf (.ref D) ce (.error e) s') z1.ok.frames hs hf tk hW z1 z2 z3 ceF c
          refine wpAny_mono out (fun _ s3 h3 => ?_) fun _ _ y => y
          rw [← ceL] at h3
          exact h3
  exact codeAny_compStart_list loop (TT.self X.A 0 _ _ _ stC loop)
/-- [e for t in xs], e may raise -/
theorem pe_lcX {W : WX} {E : XK} {elt tgt itr : Expr} {ifs : List Expr} {sc : Scope} {own : List (Str × Nat)} {pos : Pos} {wi : TI} {g : TG} {tt : TT} {te : TE}
    (hs : X.stack = X.env :: X.outer) (hf : X.env.frame = some X.env.locals) (tk : Takes X W) (hW : ∀ cls d σ H, E cls d H → W cls d σ H)
    (calm : X.calm = true) (nd : X.N.Nodup) (hi : PI X tgt itr wi) (ok : BlkOk X.N X.env.scope sc own)
    (hg : ∀ (s : Shared) (H : Hp) (C : Addr) (cl : List (Str × Addr)) (fp : List Addr), PG (X.blk s H sc (compEnvC sc cl C X.env) fp) tgt g)
    (ht : ∀ (s : Shared) (H : Hp) (C : Addr) (cl : List (Str × Addr)) (fp : List Addr), PTs (X.blk s H sc (compEnvC sc cl C X.env) fp) ifs tt)
    (he : ∀ (s : Shared) (H : Hp) (C : Addr) (cl : List (Str × Addr)) (fp : List Addr) (xe : Value → Shared → Prop), Passes (L2.CX X.prog X.w) (elX X s H sc (compEnvC sc cl C X.env) fp xe) E → PE (elX X s H sc (compEnvC sc cl C X.env) fp xe) elt te)
    (fold : ∀ x, foldedSetIterable itr X.env x = pure x := by intro _; rfl) :
    PE X (.ListComp elt [⟨tgt, itr, ifs, 0⟩] sc pos) (tLc wi g tt te (own.map (·.2))) := by
  constructor
  intro pins sh σ H Q J hyp
  rw [eval_ListComp]
  refine core_x hs hf tk hW calm J hi ok nd hg ht he fold hyp fun D C s' m H' J' q hn fp cv ecv => ?_
  obtain ⟨f0, f1, f2, f3, f4, f5⟩ := fp
  subst ecv
  exact ⟨m, hn, fun h2 sb => ⟨.ref D, H', J'.turned (t' := s'.toks) (fun b o hb z => (sb.2 b hb).trans z) f0 f1 f3 f4 f5, rfl, q⟩⟩
/-- y = [e for t in xs], y a plain local name -/
theorem ps_setLcX {W : WX} {E : XK} {i : Nat} {y : Str} {py : Pos} {elt tgt itr : Expr} {ifs : List Expr} {sc : Scope} {own : List (Str × Nat)} {pos spos : Pos} {wi : TI} {g : TG} {tt : TT} {te : TE}
    (hs : X.stack = X.env :: X.outer) (hf : X.env.frame = some X.env.locals) (tk : Takes X W) (hW : ∀ cls d σ H, E cls d H → W cls d σ H)
    (calm : X.calm = true) (nd : X.N.Nodup) (iy : X.N[i]? = some y) (ly : X.env.scope.names.lookup y = some .local) (sw : swapsWith (.ListComp elt [⟨tgt, itr, ifs, 0⟩] sc pos) (some (.Name y py)) spos.line X.env = pure true)
    (hi : PI X tgt itr wi) (ok : BlkOk X.N X.env.scope sc own)
    (hg : ∀ (s : Shared) (H : Hp) (C : Addr) (cl : List (Str × Addr)) (fp : List Addr), PG (X.blk s H sc (compEnvC sc cl C X.env) fp) tgt g)
    (ht : ∀ (s : Shared) (H : Hp) (C : Addr) (cl : List (Str × Addr)) (fp : List Addr), PTs (X.blk s H sc (compEnvC sc cl C X.env) fp) ifs tt)
    (he : ∀ (s : Shared) (H : Hp) (C : Addr) (cl : List (Str × Addr)) (fp : List Addr) (xe : Value → Shared → Prop), Passes (L2.CX X.prog X.w) (elX X s H sc (compEnvC sc cl C X.env) fp xe) E → PE (elX X s H sc (compEnvC sc cl C X.env) fp xe) elt te)
    (fold : ∀ x, foldedSetIterable itr X.env x = pure x := by intro _; rfl) :
    PS X (.Assign [.Name y py] (.ListComp elt [⟨tgt, itr, ifs, 0⟩] sc pos) spos) (tAsg (tLc wi g tt te (own.map (·.2))) (gName i)) := by
  constructor
  intro pins sh σ H D J hyp
  have hyp : tLc wi g tt te (own.map (·.2)) σ H (fun x H1 => gName i x σ H1 D.nx) := hyp
  rw [exec_Assign_Name_used _ _ _ _ sw]
  refine wpAny_bind (wpAny_standAt (wpAny_bind ?_))
  show wpAny _ X.A (do let _ ← comprehension (.ListComp elt [⟨tgt, itr, ifs, 0⟩] sc pos) sc X.env (firstIterPos [⟨tgt, itr, ifs, 0⟩] pos) (newList []) false (eval itr X.env) (some (assign (.Name y py) X.env))) _ _ sh
  have core := core_x (pos := pos) (use := some (assign (.Name y py) X.env)) (Qf := fun _ s' => SP X pins D .next s') (pos' := firstIterPos [⟨tgt, itr, ifs, 0⟩] pos) hs hf tk hW calm J hi ok nd hg ht he fold hyp fun L C s' m H' J' q hn fp cv ecv => by
    obtain ⟨f0, f1, f2, f3, f4, f5⟩ := fp
    subst ecv
    show wpAny _ _ (assign (.Name y py) X.env (.ref L)) _ _ _
    refine wpAny_assign_Name (store_ok2 (v := V.ref L) J' nd iy (.inl ly) rfl (fun s2 J2 there => ?_) (.inr ly))
    obtain ⟨a, sb, ha⟩ := there
    have nCa : cv.locals ≠ a := ha.elim (fun z => by rw [z]; exact f1) fun z w => f4 y a z w.symm
    exact ⟨m, hn.sameBut sb nCa, fun h3 sb3 => ⟨_, H', J2.turned (t' := s2.toks) (fun b o hb z => (sb3.2 b hb).trans z) f0 f1 f3 f4 f5, q⟩⟩
  exact wpAny_bind (thn core fun _ s' hq => wpAny_pure (wpAny_pure hq))
end
/-! ### defs and methods that may raise: promises -/
section
variable {P : Program} {w : World} {K : PySem.W.Frag} {mg : Str → Option Value} {base : Heap}
abbrev defX (P : Program) (w : World) (K : PySem.W.Frag) (mg : Str → Option Value) (base : Heap) (N : List Str) (qual : Str) (sc : Scope) (f : Addr) (cd : Value) (A : Around) (outer : List Env) (s : Shared) (H : Hp) (E : XK) : Cx := cxOf (L2.CX P w) P w K mg base N qual sc f cd A outer s H E
theorem takes_def {N : List Str} {qual : Str} {sc : Scope} {f : Addr} {cd : Value} {A : Around} {outer : List Env} {s : Shared} {H : Hp} {E : XK} : Takes (defX P w K mg base N qual sc f cd A outer s H E) (fun cls d _ H => E cls d H) := takes_of rfl rfl rfl rfl
theorem pass_def {N : List Str} {qual : Str} {sc : Scope} {f : Addr} {cd : Value} {A : Around} {outer : List Env} {s : Shared} {H : Hp} {E : XK} : Passes (L2.CX P w) (defX P w K mg base N qual sc f cd A outer s H E) E := passes_call (W := fun cls d _ H => E cls d H) takes_def fun _ _ _ _ h => h
theorem own_def {N : List Str} {qual : Str} {sc : Scope} {f : Addr} {cd : Value} {A : Around} {outer : List Env} {s : Shared} {H : Hp} {E : XK} : PassesOwn (model P w) (defX P w K mg base N qual sc f cd A outer s H E).A (defX P w K mg base N qual sc f cd A outer s H E).env (defX P w K mg base N qual sc f cd A outer s H E).xe :=
  passes_of (X := defX P w K mg base N qual sc f cd A outer s H E) rfl
theorem fnX {x qual : Str} {st : Stmt} {f : Addr} {fd : FuncData} {N ps : List Str} {k : Nat} {sp : Sp} (F : C8.Fun K x qual st f fd) (S : FnScope N ps (C8.fnScope st)) (len : ∀ vs H Q E, sp vs H Q E → vs.length = ps.length)
    (walk : ∀ (cdv : Value) (A : Around) (outer : List Env) (s : Shared) (H : Hp) (vs : List V) (Q : VK) (E : XK), Room k (A.deeper (envOfC qual (C8.fnScope st) s.heap.objs.size f cdv)) → sp vs H Q E →
      ∃ t, PSs (defX P w K mg base N qual (C8.fnScope st) f cdv A outer s H E) (C8.fnBody st) t ∧ t { nx := fun _ H' => Q .non H', rt := Q } (L2.start N vs) H) : FnOk P w K mg base (L2.CX P w) (k + 1) f fd ps sp := by
  obtain ⟨oc, od, dV, kV, doc, pm, an, cdv, ct, osl, rfl, lk, hcd⟩ := F.ex
  exact fn_of lk hcd S len fun A outer s H vs Q E room hsp => walk cdv A outer s H vs Q E room hsp
structure CalX (P : Program) (w : World) (K : PySem.W.Frag) (mg : Str → Option Value) (base : Heap) (k : Nat) (x : Str) (sp : Sp) : Prop where
  ex : ∃ (f : Addr) (fd : FuncData) (ps : List Str), FnOk P w K mg base (L2.CX P w) k f fd ps sp ∧ mg x = some (.ref f) ∧ PySem.W.keepIn K (.ref f) = true ∧ Binds K fd ps []
structure MetX (P : Program) (w : World) (K : PySem.W.Frag) (mg : Str → Option Value) (base : Heap) (k : Nat) (C : Addr) (m : Str) (sp : Sp) : Prop where
  ex : ∃ (f : Addr) (fd : FuncData) (ps : List Str), Cls K C ∧ Meth K C m f ∧ FnOk P w K mg base (L2.CX P w) k f fd ps sp ∧ Binds K fd ps []
structure MakX (P : Program) (w : World) (K : PySem.W.Frag) (mg : Str → Option Value) (base : Heap) (k : Nat) (x : Str) (C : Addr) (sp : Sp) : Prop where
  ex : ∃ (f : Addr) (fd : FuncData) (ps : List Str), Mk K C f ∧ FnOk P w K mg base (L2.CX P w) k f fd ps sp ∧ mg x = some (.ref C) ∧ Binds K fd ps []
theorem MetX.mono {j k : Nat} {C : Addr} {m : Str} {sp : Sp} (c : MetX P w K mg base j C m sp) (h : j ≤ k) : MetX P w K mg base k C m sp := let ⟨f, fd, ps, hc, hm, F, b⟩ := c.ex; ⟨f, fd, ps, hc, hm, F.mono h, b⟩
theorem calX {x : Str} {st : Stmt} {f : Addr} {fd : FuncData} {N ps : List Str} {k : Nat} {sp : Sp} (F : C8.Def K mg x st f fd) (b : Binds K fd ps []) (S : FnScope N ps (C8.fnScope st)) (len : ∀ vs H Q E, sp vs H Q E → vs.length = ps.length)
    (walk : ∀ (cdv : Value) (A : Around) (outer : List Env) (s : Shared) (H : Hp) (vs : List V) (Q : VK) (E : XK), Room k (A.deeper (envOfC x (C8.fnScope st) s.heap.objs.size f cdv)) → sp vs H Q E →
      ∃ t, PSs (defX P w K mg base N x (C8.fnScope st) f cdv A outer s H E) (C8.fnBody st) t ∧ t { nx := fun _ H' => Q .non H', rt := Q } (L2.start N vs) H) : CalX P w K mg base (k + 1) x sp := ⟨f, fd, ps, fnX F.fn S len walk, F.mgf, F.kp, b⟩
theorem metX {m qual : Str} {C : Addr} {st : Stmt} {f : Addr} {fd : FuncData} {N ps : List Str} {k : Nat} {sp : Sp} (c : Cls K C) (me : Meth K C m f) (F : C8.Fun K m qual st f fd) (b : Binds K fd ps []) (S : FnScope N ps (C8.fnScope st)) (len : ∀ vs H Q E, sp vs H Q E → vs.length = ps.length)
    (walk : ∀ (cdv : Value) (A : Around) (outer : List Env) (s : Shared) (H : Hp) (vs : List V) (Q : VK) (E : XK), Room k (A.deeper (envOfC qual (C8.fnScope st) s.heap.objs.size f cdv)) → sp vs H Q E →
      ∃ t, PSs (defX P w K mg base N qual (C8.fnScope st) f cdv A outer s H E) (C8.fnBody st) t ∧ t { nx := fun _ H' => Q .non H', rt := Q } (L2.start N vs) H) : MetX P w K mg base (k + 1) C m sp := ⟨f, fd, ps, c, me, fnX F S len walk, b⟩
theorem makX {x qual : Str} {C : Addr} {st : Stmt} {f : Addr} {fd : FuncData} {N ps : List Str} {k : Nat} {sp : Sp} (M : Mk K C f) (hm : mg x = some (.ref C)) (F : C8.Fun K "__init__" qual st f fd) (b : Binds K fd ps []) (S : FnScope N ps (C8.fnScope st)) (len : ∀ vs H Q E, sp vs H Q E → vs.length = ps.length)
    (walk : ∀ (cdv : Value) (A : Around) (outer : List Env) (s : Shared) (H : Hp) (vs : List V) (Q : VK) (E : XK), Room k (A.deeper (envOfC qual (C8.fnScope st) s.heap.objs.size f cdv)) → sp vs H Q E →
      ∃ t, PSs (defX P w K mg base N qual (C8.fnScope st) f cdv A outer s H E) (C8.fnBody st) t ∧ t { nx := fun _ H' => Q .non H', rt := Q } (L2.start N vs) H) : MakX P w K mg base (k + 1) x C sp := ⟨f, fd, ps, M, fnX F S len walk, hm, b⟩
end
section
variable {X : Cx} {k j : Nat} {C : Addr} {x m : Str} {sp : Sp} {E : XK} {p pos apos : Pos} {e o : Expr} {es : List Expr} {ta : TE} {t : TA}
theorem pe_cX (c : CalX X.prog X.w X.K X.mg X.base k x sp) (hx : Passes (L2.CX X.prog X.w) X E) (hr : Room j X.A) (hk : k ≤ j) (hg : Gl X x) (ha : PA X (e :: es) t)
    (d1 : (x == ("__debug__" : Str)) = false := by decide) (d2 : starEach (e :: es) X.env = (false, eval e X.env) :: starEach es X.env := by rfl) (d3 : (backTo pos (starEach es X.env)).any (·.1) = false := by rfl) :
    PE X (.Call (.Name x p) (e :: es) [] pos) (tCall sp [] E t) := let ⟨_, _, _, F, hm, kp, b⟩ := c.ex; pe_call F (hr.mono hk) hg hm kp b .nil hx ha d1 d2 d3
theorem pe_mkX (c : MakX X.prog X.w X.K X.mg X.base k x C sp) (hx : Passes (L2.CX X.prog X.w) X E) (hr : Room j X.A) (hk : k + 1 ≤ j) (hg : Gl X x) (ha : PA X (e :: es) t)
    (d1 : (x == ("__debug__" : Str)) = false := by decide) (d2 : starEach (e :: es) X.env = (false, eval e X.env) :: starEach es X.env := by rfl) (d3 : (backTo pos (starEach es X.env)).any (·.1) = false := by rfl) :
    PE X (.Call (.Name x p) (e :: es) [] pos) (tMake C sp [] E t) := let ⟨_, _, _, M, F, hm, b⟩ := c.ex; pe_make M F (hr.mono hk) hg hm b .nil hx ha d1 d2 d3
theorem pe_mtX {pl : Sem Bool} (c : MetX X.prog X.w X.K X.mg X.base k C m sp) (hx : Passes (L2.CX X.prog X.w) X E) (hr : Room j X.A) (hk : k ≤ j) (he : PE X o ta) (ha : PA X (e :: es) t)
    (d2 : starEach (e :: es) X.env = (false, eval e X.env) :: starEach es X.env := by rfl) (d3 : (backTo pos (starEach es X.env)).any (·.1) = false := by rfl)
    (d4 : eval (.Call (.Attribute o m apos) (e :: es) [] pos) X.env = (do
      let obj ← eval o X.env
      standAt apos.atName
      let (f, first) ← holding [obj] (getMethod obj m pl)
      callWith pos f first (backTo pos (starEach (e :: es) X.env)) (backToKw pos (keywordEach [] X.env))) := by rfl) :
    PE X (.Call (.Attribute o m apos) (e :: es) [] pos) (tMeth C m sp [] E ta t) := let ⟨_, _, _, hc, hm, F, b⟩ := c.ex; pe_meth (pl := pl) he hc hm F (hr.mono hk) b .nil hx ha d2 d3 d4
end
section
variable {X : Cx} {CX : CXT} {k : Nat} {f : Addr} {fd : FuncData} {ps ks : List Str} {sp : Sp} {E : L2.St → XK} {x : Str} {p pos : Pos} {kws : List Keyword} {tk : TA} {g : List Value → List Value → List Value} {gV : List V → List V → List V}
def tCallKS (sp : Sp) (gV : List V → List V → List V) (E : L2.St → XK) (tk : TA) : TE := fun σ H Q => tk σ H fun zs H1 => sp (gV [] zs) H1 Q (E σ)
/-- f(k = v, ..), what is raised wished for at the caller's slots -/
theorem pe_callKS (F : FnOk X.prog X.w X.K X.mg X.base CX k f fd ps sp) (room : Room k X.A) (hg : Gl X x) (hm : X.mg x = some (.ref f)) (kp : PySem.W.keepIn X.K (.ref f) = true) (hb : KBinds X.K fd ps ks g gV) (hx : ∀ σ, PassesAt CX X σ (E σ)) (hkw : PK X kws tk)
    (h1 : (backToKw pos (keywordEach kws X.env)).all (·.1.isSome) = true := by rfl) (h2 : (backToKw pos (keywordEach kws X.env)).filterMap (·.1) = ks := by rfl) (h3 : (x == ("__debug__" : Str)) = false := by decide)
    (h4 : ((backTo pos (starEach [] X.env)).any (·.1) || (backToKw pos (keywordEach kws X.env)).any (·.1.isNone)) = false := by rfl) : PE X (.Call (.Name x p) [] kws pos) (tCallKS sp gV E tk) := by
  constructor
  intro pins sh σ H Q J hyp
  refine wpAny_Call_Name_kw (ld_glob J hg hm (PySem.W.callWith_KW0 (h₀ := X.base) J.ok.mod.kin kp h1 (thn (hkw.run pos pins sh σ H _ J hyp) ?_) h4) h3)
  rintro ws s2 ⟨zs, H2, J2, rz, q⟩
  refine ⟨J2.kIn, ?_⟩
  rw [h2]
  have rel := hb.rel (.nil : Vals [] []) rz
  have len : (g [] ws).length = ps.length := by rw [← rel.length]; exact F.len _ _ _ _ q
  refine wpAny_call (codeAny_mono (F.run X.A X.stack s2 H2 ⟨[], ks.zip ws⟩ (g [] ws) (gV [] zs) Q (E σ) room J2.env0 (hb.to s2 [] ws J2.kIn len) rel q) fun r s' got => ?_)
  match r, got with
  | .error e, got => exact hx σ pins H2 s2 e s' J2 got
  | .ok (.ret u), got => exact J2.after got
  | .ok .next, got => exact False.elim got
  | .ok .brk, got => exact False.elim got
  | .ok .cont, got => exact False.elim got
end
end UG


set_option Elab.async false
set_option linter.all false
set_option maxRecDepth 100000
set_option maxHeartbeats 8000000
namespace K00
open PySem PySem.Spec PyProof.Rows L2
section
variable {P : Program} {w : World} {K : PySem.W.Frag} {mg : Str → Option Value} {base : Heap}
theorem fn_lift {CX : CXT} {k : Nat} {f : Addr} {fd : FuncData} {ps : List Str} {sp : Sp} (F : FnOk P w K mg base C8.CX0 k f fd ps sp) : FnOk P w K mg base CX k f fd ps sp := by
  refine ⟨F.len, fun A outer s H args us vs Q E hr he hb hv hs => codeAny_mono (F.run A outer s H args us vs Q E hr he hb hv hs) fun r s' h => ?_⟩
  cases r with
  | error e => exact (show False from h).elim
  | ok fl => cases fl <;> exact h
theorem fn_or {CX : CXT} {k : Nat} {f : Addr} {fd : FuncData} {ps : List Str} {sp1 sp2 : Sp} (F1 : FnOk P w K mg base CX k f fd ps sp1) (F2 : FnOk P w K mg base CX k f fd ps sp2) : FnOk P w K mg base CX k f fd ps (fun vs H Q E => sp1 vs H Q E ∨ sp2 vs H Q E) :=
  ⟨fun vs H Q E h => h.elim (F1.len vs H Q E) (F2.len vs H Q E), fun A outer s H args us vs Q E hr he hb hv hs => hs.elim (F1.run A outer s H args us vs Q E hr he hb hv) (F2.run A outer s H args us vs Q E hr he hb hv)⟩
theorem fo_check {Ts : List Addr} {f : Addr} {fd : FuncData} (F : C8.Def K mg "check" (topS 49) f fd) (b : Binds K fd ["program"] []) (B : Bl K mg) (c_want_program : C8.Cal P w K mg base 9 "want_program" (spWant K Ts) []) (c_fdT : C8.Cal P w K mg base 1 "_first_double" (spFDT K) []) (c_fdL : C8.Cal P w K mg base 1 "_first_double" (spFDL K) []) (c__body_fault : C8.Cal P w K mg base 16 "_body_fault" (spBF K) []) : FnOk P w K mg base C8.CX0 17 f fd ["program"] (spCheck K Ts) := by
  refine C8.fn0 F.fn sc_check ?len ?body
  case len => rintro vs H Q E ⟨v, L, Ps, AL, BN, rfl, _⟩; rfl
  case body =>
    rintro cdv A outer s H vs Q E hr ⟨v, L, Ps, AL, BN, rfl, hd, hP, hTb, q⟩
    refine ⟨_, (pss_cons (ps_expr (C8.pe_c c_want_program hr (by decide) rfl (pa_cons (pv 0) pa_nil)))
    (pss_cons (ps_asg (pv 0) (pg_tup rfl (pgs_cons (pg_name (i := 1) sc_check.nd rfl (Or.inl rfl)) (pgs_cons (pg_name (i := 2) sc_check.nd rfl (Or.inl rfl)) pgs_nil))))
    (pss_cons (ps_setLc (i := 3) (te := tOp (rIxT K) (tVar 4) (tC (.int 0)))  (own := [("procedure", 4)]) (g := gName 4) (by rfl) sc_check.nd rfl rfl (sw_true rfl rfl rfl (by decide +kernel)) (pi_tup (pv 2)) (blkOk_by (own := [("procedure", 4)]) (N := ["program", "letters", "procedures", "names", "procedure", "double", "name", "body", "word"]) (sc := (C8.fnScope (topS 49))) (by decide +kernel)) (fun _ _ _ _ _ => pg_name (i := 4) sc_check.nd rfl (Or.inl rfl)) (fun _ _ _ _ _ => pts_nil) (fun _ _ _ _ _ => by exact (pe_ix ix_tup (pv 4) pe_int (fun _ _ => rfl))))
    (pss_cons (ps_set (i := 5) sc_check.nd rfl (Or.inl rfl) (C8.pe_c c_fdT hr (by decide) rfl (pa_cons (pv 1) pa_nil)))
    (pss_cons (ps_if (pt_cmpR op_notN (pv 5) pe_non (nomark _)) (pss_one (ps_ret (pe_tup (pa_cons pe_str (pa_cons (pv 5) pa_nil))))) pss_nil)
    (pss_cons (ps_set (i := 5) sc_check.nd rfl (Or.inl rfl) (C8.pe_c c_fdL hr (by decide) rfl (pa_cons (pv 3) pa_nil)))
    (pss_cons (ps_if (pt_cmpR op_notN (pv 5) pe_non (nomark _)) (pss_one (ps_ret (pe_tup (pa_cons pe_str (pa_cons (pv 5) pa_nil))))) pss_nil)
    (pss_cons (ps_for PassesOwn.never rfl (pi_tup (pv 2)) (pg_tup rfl (pgs_cons (pg_name (i := 6) sc_check.nd rfl (Or.inl rfl)) (pgs_cons (pg_name (i := 7) sc_check.nd rfl (Or.inl rfl)) pgs_nil)))
    (pss_cons (ps_set (i := 8) sc_check.nd rfl (Or.inl rfl) (C8.pe_c c__body_fault hr (by decide) rfl (pa_cons (pv 7) (pa_cons (pv 1) (pa_cons (pv 3) pa_nil)))))
    (pss_one (ps_if (pt_cmpR op_notN (pv 8) pe_non (nomark _)) (pss_one (ps_ret (pe_tup (pa_cons (pv 8) (pa_cons (pv 6) pa_nil))))) pss_nil))))
    (pss_one (ps_ret pe_non)))))))))), ?_⟩
    refine ⟨_, rfl, v, L, Ps, AL, BN, rfl, hd, hP, hTb, fun H1 g1 => ?_⟩
    have hd1 := (Tk.go hTb g1).dp _ (tup_prog L Ps) hd
    obtain ⟨a, xs, rfl, hs, ha, hl⟩ := len_ok hd1
    cases ha with
    | @cons vL _ _ _ hvL ha =>
    cases ha with
    | @cons vP _ _ _ hvP ha =>
    cases ha
    refine ⟨_, rfl, a, _, rfl, hs, rfl, _, _, rfl, _, _, rfl, rfl, ?_⟩
    obtain ⟨la, lxs, rfl, hls, hla, hll⟩ := len_ok hvL
    obtain ⟨pa, pxs, rfl, hps, hpa, hpl⟩ := len_ok hvP
    have elx : lxs = L.map V.str := strs_vals hla
    subst elx
    rw [List.length_map] at hpl
    refine ⟨_, rfl, pa, rfl, ⟨_, hps⟩, fun Dd hDd => ?_⟩
    refine lc_tup (xs := pxs) (fun i H' => H' Dd = some (.lst (((Ps.take i).map Prod.fst).map V.str)) ∧ Same H1 H') ?_ ?_ ?_ ?_
    · exact ⟨by simpa using upd_same, same_new hDd _⟩
    · rintro i H' _ ⟨_, s5⟩
      exact (Tk.same s5).sqt hps
    · rintro i x H5 hx ⟨hv1, s5⟩
      obtain ⟨d, hd, hdp⟩ := dps_get' hpa hx
      obtain ⟨p, hp, rfl⟩ := procs_get hd
      have hd5 := (Tk.same s5).dp _ (tup_proc p) hdp
      obtain ⟨qa, qxs, rfl, hqs, hqa, hql⟩ := len_ok hd5
      cases hqa with
      | @cons v0 _ _ _ h0 hqa =>
      cases h0
      refine ⟨rfl, ?_⟩
      refine ⟨_, rfl, _, _, _, _, rfl, rfl, hqs, at0 _ _, _, hv1, ?_, ?_, ?_⟩
      · have := hP.p2
        have h3 : (Ps.take i).length ≤ Ps.length := List.length_take_le' _ _
        exact Nat.lt_of_le_of_lt (show _ ≤ 8 by rw [List.length_map, List.length_map]; omega) (by decide)
      · rw [upd_same, List.take_succ, hp]
        simp
      · intro b o e
        rw [upd_ne (fun z => by rw [z, hDd] at e; cases e)]
        exact s5 _ _ e
    · rintro H5 ⟨hv1, s5⟩
      rw [hpl, List.take_length] at hv1
      have hls5 := (Tk.same s5).sqt hls
      refine ⟨_, rfl, la, L, rfl, hls5, fun H6 s6 => ?_⟩
      have ek : chkD L Ps = chkD L Ps := rfl
      conv at ek => rhs; unfold chkD
      have goS : ∀ {H' : Hp}, Same H1 H' → Go Ts H H' := fun s => g1.trans (Go.of_same g1.1 s)
      cases e1 : firstD L with
      | some x =>
        rw [e1] at ek
        refine ⟨_, rfl, rfl, _, rfl, ?_⟩
        refine iteT ⟨_, rfl, (by show 2 ≤ sizeLine; decide), fun p hp => ?_⟩
        exact q _ _ (goS ((s5.trans s6).trans (same_new hp _))) (by rw [ek]; exact dp_tup2 hp (.str _) (.str _))
      | none =>
      rw [e1] at ek
      refine ⟨_, rfl, rfl, _, rfl, ?_⟩
      refine iteF ?_
      have hv6 := s6 _ _ hv1
      refine ⟨_, rfl, Dd, Ps.map Prod.fst, rfl, SqL.of hv6, fun H7 s7 => ?_⟩
      cases e2 : firstD (Ps.map Prod.fst) with
      | some x =>
        rw [e2] at ek
        refine ⟨_, rfl, rfl, _, rfl, ?_⟩
        refine iteT ⟨_, rfl, (by show 2 ≤ sizeLine; decide), fun p hp => ?_⟩
        exact q _ _ (goS (((s5.trans s6).trans s7).trans (same_new hp _))) (by rw [ek]; exact dp_tup2 hp (.str _) (.str _))
      | none =>
      rw [e2] at ek
      refine ⟨_, rfl, rfl, _, rfl, ?_⟩
      refine iteF ?_
      have s17 : Same H1 H7 := s5.trans (s6.trans s7)
      have hv7 := s7 _ _ hv6
      refine ⟨_, rfl, pa, rfl, ⟨_, (Tk.same s17).sqt hps⟩, ?_⟩
      refine for_tup (xs := pxs) (fun i σ H' => ∃ b7 b8 b9, σ = [some (.ref a), some (.ref la), some (.ref pa), some (.ref Dd), none, some .non, b7, b8, b9] ∧ Same H7 H' ∧ Ps.findSome? (pfault L (Ps.map Prod.fst)) = (Ps.drop i).findSome? (pfault L (Ps.map Prod.fst))) ?_ ?_ ?_ ?_
      · exact ⟨none, none, none, rfl, Same.refl _, rfl⟩
      · rintro i σ H' _ ⟨_, _, _, _, s8, _⟩
        exact (Tk.same (s17.trans s8)).sqt hps
      · rintro i x _ H8 hx ⟨b7, b8, b9, rfl, s8, ei⟩
        obtain ⟨d, hd, hdp⟩ := dps_get' hpa hx
        obtain ⟨p, hp, rfl⟩ := procs_get hd
        have s18 := s17.trans s8
        have hd8 := (Tk.same s18).dp _ (tup_proc p) hdp
        obtain ⟨qa, qxs, rfl, hqs, hqa, hql⟩ := len_ok hd8
        cases hqa with
        | @cons v0 _ _ _ h0 hqa =>
        cases h0
        cases hqa with
        | @cons v1 _ _ _ h1 hqa =>
        cases hqa
        refine ⟨qa, _, rfl, hqs, rfl, _, _, rfl, _, _, rfl, rfl, ?_⟩
        have hpm : p.2 ∈ nsP Ps := List.mem_map.mpr ⟨p, List.mem_of_getElem? hp, rfl⟩
        have hk := kss_mem hpm
        have hn := nss_mem hpm
        have hk2 := hP.ks
        have hn2 := hP.n
        refine ⟨_, rfl, _, rfl, _, rfl, v1, la, Dd, p.2, L, Ps.map Prod.fst, rfl, h1, by omega, by omega, (Tk.same s18).sqt hls, SqL.of (s8 _ _ hv7), fun H9 s9 => ?_⟩
        have es := ei.trans (find_step hp)
        cases e3 : bfault L (Ps.map Prod.fst) p.2 with
        | some x =>
          rw [pfault, e3] at es
          rw [es] at ek
          refine ⟨_, rfl, rfl, _, rfl, ?_⟩
          refine iteT ⟨_, rfl, _, rfl, (by show 2 ≤ sizeLine; decide), fun p2 hp2 => ?_⟩
          exact q _ _ (goS ((s18.trans s9).trans (same_new hp2 _))) (by rw [ek]; exact dp_tup2 hp2 (.str _) (.str _))
        | none =>
          rw [pfault, e3] at es
          refine ⟨_, rfl, rfl, _, rfl, ?_⟩
          exact iteF ⟨_, _, _, rfl, s8.trans s9, es⟩
      · rintro σ H8 ⟨b7, b8, b9, rfl, s8, ei⟩
        rw [hpl, List.drop_length] at ei
        rw [ei] at ek
        exact q _ _ (goS (s17.trans s8)) (by rw [ek]; exact .non)
/-- the class of errors for what is no program, and how it is raised -/
structure RsB (K : PySem.W.Frag) (mg : Str → Option Value) (BP : Addr) : Prop where
  g : mg "BadProgram" = some (.ref BP)
  x : PySem.W.excIn K BP [.type "ValueError", .type "Exception", .type "BaseException", .type "object"] "ValueError.__new__" = true
  k : PySem.W.keepIn K (.ref BP) = true
  b : PySem.W.subIn K (.ref BP) (.type "BaseException") = some true
  t : PySem.W.typeIn K (.ref BP) = some (.type "type")
def spBad (K : PySem.W.Frag) (Ts : List Addr) (BP : Addr) : Sp := fun vs H Q E => ∃ v d, vs = [v] ∧ Dp K H v d ∧ szD d ≤ 1000000 ∧ Tbs Ts H ∧ isProgB d = false ∧ ∀ H', Go Ts H H' → E (.ref BP) none H'
theorem bad_want {BP : Addr} {Ts : List Addr} {f : Addr} {fd : FuncData} (F : C8.Def K mg "want_program" (topS 43) f fd) (b : Binds K fd ["program"] []) (B : Bl K mg) (R : RsB K mg BP) (c_is_program : C8.Cal P w K mg base 8 "is_program" (spProgA K Ts) []) : UG.CalX P w K mg base 9 "want_program" (spBad K Ts BP) := by
  refine UG.calX F b sc_want_program ?len ?body
  case len => rintro vs H Q E ⟨v, d, rfl, _⟩; rfl
  case body =>
    rintro cdv A outer s H vs Q E hr ⟨v, d, rfl, hd, hsz, hTb, hb, q⟩
    refine ⟨_, (pss_one (ps_if (pt_not (pt_val (C8.pe_c c_is_program hr (by decide) rfl (pa_cons (pv 0) pa_nil)))) (pss_one (ps_raise rfl UG.takes_def (pmk_own PySem.F.excBase_ValueError R.x R.g R.k (raises_own R.b R.t) rfl))) pss_nil)), ?_⟩
    refine ⟨_, rfl, v, d, rfl, hd, hsz, hTb, fun H1 g1 => ⟨_, rfl, ?_⟩⟩
    rw [hb]
    exact iteT (q H1 g1)
theorem bad_check {BP : Addr} {Ts : List Addr} {f : Addr} {fd : FuncData} (F : C8.Def K mg "check" (topS 49) f fd) (B : Bl K mg) (c_want : UG.CalX P w K mg base 9 "want_program" (spBad K Ts BP)) : FnOk P w K mg base (L2.CX P w) 10 f fd ["program"] (spBad K Ts BP) := by
  refine UG.fnX F.fn sc_check ?len ?body
  case len => rintro vs H Q E ⟨v, d, rfl, _⟩; rfl
  case body =>
    rintro cdv A outer s H vs Q E hr ⟨v, d, rfl, hd, hsz, hTb, hb, q⟩
    exact ⟨_, (pss_cons (ps_expr (UG.pe_cX c_want UG.pass_def hr (by decide) rfl (pa_cons (pv 0) pa_nil))) pss_never), _, rfl, v, d, rfl, hd, hsz, hTb, hb, q⟩
theorem sc_write_programB : FnScope ["program", "letters", "procedures", "words", "name", "body"] ["program"] (C8.fnScope (topS 44)) := C8.fnScope_by (by decide +kernel)
theorem bad_write {BP : Addr} {Ts : List Addr} {f : Addr} {fd : FuncData} (F : C8.Def K mg "write_program" (topS 44) f fd) (B : Bl K mg) (c_want : UG.CalX P w K mg base 9 "want_program" (spBad K Ts BP)) : FnOk P w K mg base (L2.CX P w) 10 f fd ["program"] (spBad K Ts BP) := by
  refine UG.fnX F.fn sc_write_programB ?len ?body
  case len => rintro vs H Q E ⟨v, d, rfl, _⟩; rfl
  case body =>
    rintro cdv A outer s H vs Q E hr ⟨v, d, rfl, hd, hsz, hTb, hb, q⟩
    exact ⟨_, (pss_cons (ps_expr (UG.pe_cX c_want UG.pass_def hr (by decide) rfl (pa_cons (pv 0) pa_nil))) pss_never), _, rfl, v, d, rfl, hd, hsz, hTb, hb, q⟩
/-- whatever is given: what is no program is told of -/
def spDo (K : PySem.W.Frag) (Ts : List Addr) (BP : Addr) : Sp := fun vs H Q E => ∃ v d, vs = [v] ∧ Dp K H v d ∧ szD d ≤ 1000000 ∧ Tbs Ts H ∧ (isProgB d = false → ∀ H', Go Ts H H' → E (.ref BP) none H') ∧ (isProgB d = true → ∀ x H', Go Ts H H' → Q x H')
def spChk (K : PySem.W.Frag) (Ts : List Addr) (BP : Addr) : Sp := fun vs H Q E => ∃ v d, vs = [v] ∧ Dp K H v d ∧ szD d ≤ 1000000 ∧ Tbs Ts H ∧ (isProgB d = false → ∀ H', Go Ts H H' → E (.ref BP) none H') ∧ (isProgB d = true → ∀ L Ps x H', Go Ts H H' → Dp K H' x (chkD L Ps) → Q x H')
theorem do_check {BP : Addr} {Ts : List Addr} {f : Addr} {fd : FuncData} (F1 : FnOk P w K mg base C8.CX0 17 f fd ["program"] (spCheck K Ts)) (F2 : FnOk P w K mg base (L2.CX P w) 10 f fd ["program"] (spBad K Ts BP)) : FnOk P w K mg base (L2.CX P w) 17 f fd ["program"] (spChk K Ts BP) := by
  refine (fn_or (fn_lift F1) (F2.mono (by decide))).imp fun vs H Q E h => ?_
  obtain ⟨v, d, rfl, hd, hsz, hTb, h1, h2⟩ := h
  cases e : isProgB d with
  | false => exact .inr ⟨v, d, rfl, hd, hsz, hTb, e, h1 e⟩
  | true =>
    obtain ⟨L, Ps, A, B, rfl, hP⟩ := prog_is e
    exact .inl ⟨v, L, Ps, A, B, rfl, hd, hP, hTb, fun H' x g hx => h2 e _ _ _ _ g hx⟩
theorem chk_do {BP : Addr} {Ts : List Addr} {k : Nat} {f : Addr} {fd : FuncData} (F : FnOk P w K mg base (L2.CX P w) k f fd ["program"] (spChk K Ts BP)) : FnOk P w K mg base (L2.CX P w) k f fd ["program"] (spDo K Ts BP) :=
  F.imp fun vs H Q E ⟨v, d, e, hd, hsz, hTb, h1, h2⟩ => ⟨v, d, e, hd, hsz, hTb, h1, fun e _ _ x H' g _ => h2 e x H' g⟩
end
end K00


set_option Elab.async false
set_option linter.all false
set_option maxRecDepth 100000
set_option maxHeartbeats 4000000
/-! own errors: raised with any value; met by isinstance; handed to a def of one parameter -/
namespace UG
open PySem PySem.Spec PyProof.Rows L2
/-- X(e), X an own error without __init__ of its own -/
theorem pmk_ownV {X : Cx} {C : Addr} {bmB : List Value} {B newId initId : String} {x : Str} {p pos : Pos} {e : Expr} {te : TE} (F : ExcBaseFacts B newId initId bmB) (q : PySem.W.excIn X.K C bmB newId = true) (gC : X.mg x = some (.ref C)) (kC : PySem.W.keepIn X.K (.ref C) = true) (r : Raises X (.ref C)) (hg : Gl X x) (he : PE X e te)
    (hdb : (x == ("__debug__" : Str)) = false := by decide) (hst : starEach (e :: []) X.env = (false, eval e X.env) :: starEach [] X.env := by rfl) (hpl : (backTo pos (starEach [] X.env)).any (·.1) = false := by rfl) :
    PMk X (.Call (.Name x p) [e] [] pos) (fun σ H Q => te σ H fun v H1 => [v].length = 1 ∧ Q (.ref C) none H1) := by
  intro pins s σ H Q J want
  refine wpAny_Call_Name_kw (ld_glob J hg gC (PySem.W.callWith_K (h₀ := X.base) J.ok.mod.kin kC (thn ((pa_cons he pa_nil hst).run pos pins s σ H (fun vs H1 => vs.length = 1 ∧ Q (.ref C) none H1) J want) ?_) hst hpl) hdb)
  rintro us s1 ⟨vs, H1, J1, rel, one, go⟩
  refine ⟨J1.kIn, ?_⟩
  match vs, us, rel, one with
  | [_], [u], .cons _ .nil, _ =>
    show wpAny _ _ (call (.ref C) [u]) _ _ _
    obtain ⟨bm, N, nm, qn, bs, hdct, sn, sub, ab, col, dd, k0, k1, k2, k3, k5, mN, hC, hN, hni, T⟩ := exc_obj J1.kIn q
    exact wpAny_call_exc_subT F T hC hN hni (fun h' e hm => mk_of J1 hm r go (J1.hok.gone hm.new)) (by show 1 ≤ sizeLine; rw [sizeLine_eq]; omega)
/-! ### isinstance of an error that stands aside -/
structure IsC (K : PySem.W.Frag) (C : Addr) : Prop where
  cl : (PySem.W.clsIn K C).isSome = true
  ga : PySem.W.findIn K (.ref C) "__getattribute__" = some (some (.builtin "BaseException.__getattribute__"))
  gt : ∃ gt, PySem.W.findIn K (.ref C) "__getattr__" = some gt
  ex : PySem.W.subIn K (.ref C) (.type "BaseException") = some true
  ca : PySem.W.findIn K (.ref C) "__class__" = some (some (.builtin "object.__class__"))
  gs : PySem.W.specialIn K (.builtin "object.__class__") "__get__" = some (some (.builtin "getset_descriptor.__get__"))
  tk : PySem.W.takesIn K (.builtin "object.__class__") = some true
  ob : PySem.W.mroIn K C (.type "object") = some true
def rIsPin (K : PySem.W.Frag) (a C : Addr) (d : Option Addr) : List V → Hp → VK → Prop := fun xs H Q => ∃ (c : V) (u : Value) (b : Bool), xs = [.ref a, c] ∧ ClsV c u ∧ PySem.W.kitOne K (.ref C) u = some b ∧ (d = none ∨ ∃ dd fs, d = some dd ∧ H dd = some (.xd fs)) ∧ Q (.bl b) H
theorem call_isPin {X : Cx} {a C : Addr} {oe : Obj} {d : Option Addr} (mem : (a, oe) ∈ X.pn) (kind : Zc (.ref C) d oe) (data : ∃ vs, oe.data = .fields vs) (T : IsC X.K C) : CallR X (.builtin "isinstance") (rIsPin X.K a C d) := by
  intro pins s σ H xs us Q J rel want
  obtain ⟨c, u, b, rfl, cl, meets, dict, go⟩ := want
  obtain ⟨u1, u2, rfl, r1, r2⟩ := vals2 rel
  have e2 := cl.eq r2
  subst e2
  obtain rfl : u1 = Value.ref a := r1
  obtain ⟨at_, _⟩ := J.pin (a, oe) (List.mem_append_left _ mem)
  obtain ⟨vs, hd⟩ := data
  obtain ⟨gt, hgt⟩ := T.gt
  have inst : ∃ od, PySem.W.InstAt s.heap a oe C od := by
    rcases dict with z | ⟨dd, fs, z, hx⟩
    · exact ⟨none, at_, kind.1, by unfold PySem.W.notCls; rw [hd] <;> rfl, by rw [kind.2, z]; trivial⟩
    · have hx : ObjOk X.prog X.w H s.heap dd (.xd fs) := J.hok dd _ hx
      obtain ⟨mA, hns, _⟩ := hx
      obtain ⟨od, ho, _⟩ := lookIn_ns hns
      exact ⟨some od, at_, kind.1, by unfold PySem.W.notCls; rw [hd] <;> rfl, by rw [kind.2, z]; exact ho⟩
  obtain ⟨od, I⟩ := inst
  exact PySem.W.kia_one (PySem.W.kitx_exc T.cl T.ga hgt T.ex T.ca T.gs T.tk T.ob) J.kIn I meets (fun z => nomatch z) fun tk => ⟨.bl b, H, J.tok tk, rfl, go⟩
/-- .. where the error's class is told at the question -/
def rIsAny (K : PySem.W.Frag) (a : Addr) (cls : Value) (d : Option Addr) : List V → Hp → VK → Prop := fun xs H Q => ∃ (C : Addr), cls = .ref C ∧ IsC K C ∧ rIsPin K a C d xs H Q
theorem call_isAny {X : Cx} {a : Addr} {oe : Obj} {cls : Value} {d : Option Addr} (mem : (a, oe) ∈ X.pn) (kind : Zc cls d oe) (data : ∃ vs, oe.data = .fields vs) : CallR X (.builtin "isinstance") (rIsAny X.K a cls d) := by
  intro pins s σ H xs us Q J rel want
  obtain ⟨C, rfl, T, more⟩ := want
  exact call_isPin mem kind data T pins s σ H xs us Q J rel more
/-! ### a def of one parameter that is handed the error -/
structure FnE (P : Program) (w : World) (K : PySem.W.Frag) (mg : Str → Option Value) (base : Heap) (k : Nat) (f : Addr) (fd : FuncData) (p : Str) (sp : Value → Option Addr → Hp → VK → Prop) : Prop where
  run : ∀ (A : Around) (outer : List Env) (s : Shared) (H : Hp) (a : Addr) (oe : Obj) (cls : Value) (d : Option Addr) (Q : VK), L2H.RoomH k A → L2H.PinOk outer H s (a, oe) → Zc cls d oe → (∃ vs, oe.data = .fields vs) → Env0 P w K mg base A outer s H →
    BindsTo s fd ⟨[.ref a], []⟩ [(p, .ref a)] → sp cls d H Q → codeAny (model P w) A (.call (.ref f) ⟨[.ref a], []⟩) (CR C8.CX0 outer P w H s Q C8.E0) s
theorem fnE {P : Program} {w : World} {K : PySem.W.Frag} {mg : Str → Option Value} {base : Heap} {x : Str} {st : Stmt} {f : Addr} {fd : FuncData} {N : List Str} {p : Str} {k : Nat} {sp : Value → Option Addr → Hp → VK → Prop} (F : C8.Fun K x x st f fd) (S : FnScope N [p] (C8.fnScope st))
    (own : ∀ (cdv : Value) (A : Around) (outer : List Env) (s : Shared) (H : Hp) (a : Addr) (oe : Obj) (cls : Value) (d : Option Addr) (Q : VK), Zc cls d oe → (∃ vs, oe.data = .fields vs) → L2H.RoomH k (A.deeper (envOfC x (C8.fnScope st) s.heap.objs.size f cdv)) → sp cls d H Q →
      ∃ t, PSs (L2H.cxH C8.CX0 P w K mg base N x (C8.fnScope st) f cdv A outer s H C8.E0 (a, oe)) (C8.fnBody st) t ∧ t { nx := fun _ H' => Q .non H', rt := Q } (start N [.ref a]) H) : FnE P w K mg base (k + 1) f fd p sp := by
  obtain ⟨oc, od, dV, kV, doc, pm, an, cdv, ct, osl, rfl, look, code⟩ := F.ex
  refine ⟨fun A outer s H a oe cls d Q room pin kind data env0 bnd want => ?_⟩
  have inK : K.In s.heap := env0.mod.kin.keeps (fun b o e => (env0.bs b o e).1)
  have limit : s.heap.NoLimit := env0.mod.nolimit.keeps (fun b o e => (env0.bs b o e).1)
  refine codeAny_call_function room.depth (inK _ _ look) rfl S.co S.gen rfl (PySem.W.codeRec_of inK code) (bnd _ _ _ _ ?_)
  refine wpAny_newFunctionEnv_cells S.kind ?_ ?_
  · intro y hy
    cases List.mem_singleton.mp hy
    exact (S.par p (by simp)).imp id fun q => ⟨q, PySem.W.cellsFrom_some _ _ _ (.inl q)⟩
  intro env he s1 came
  subst he
  obtain ⟨t, ht, hq⟩ := own cdv A outer s H a oe cls d Q kind data (room.deeper _) want
  refine ⟨limit.keeps came.toInCall.keep, codeAny_func ?_⟩
  have I1 : Inv (L2H.cxH C8.CX0 P w K mg base N x (C8.fnScope st) f cdv A outer s H C8.E0 (a, oe)) [] (start N [.ref a]) H s1 := L2H.inv_startH (us := [.ref a]) S pin env0 rfl (.cons rfl .nil) came
  refine wpAny_mono (ht.run [] s1 (start N [.ref a]) H _ I1 hq) (fun fl s' ended => ?_) (fun e s' z => z)
  match fl, ended with
  | .ret _, ⟨v', σ', H', J, rv, q⟩ => exact ⟨v', H', J.os, J.bare, J.base, J.hok, rv, q⟩
  | .next, ⟨σ', H', J, q⟩ => exact ⟨.non, H', J.os, J.bare, J.base, J.hok, rfl, q⟩
  | .brk, ⟨_, _, _, q⟩ => exact q.elim
  | .cont, ⟨_, _, _, q⟩ => exact q.elim
structure CalE (P : Program) (w : World) (K : PySem.W.Frag) (mg : Str → Option Value) (base : Heap) (k : Nat) (x : Str) (sp : Value → Option Addr → Hp → VK → Prop) : Prop where
  ex : ∃ (f : Addr) (fd : FuncData) (p : Str), FnE P w K mg base k f fd p sp ∧ mg x = some (.ref f) ∧ PySem.W.keepIn K (.ref f) = true ∧ Binds K fd [p] []
theorem pe_cE {X : Cx} {k j : Nat} {x : Str} {sp : Value → Option Addr → Hp → VK → Prop} {p pos : Pos} {e : Expr} {te : TE} {a : Addr} {oe : Obj} {cls : Value} {d : Option Addr} (c : CalE X.prog X.w X.K X.mg X.base k x sp) (mem : (a, oe) ∈ X.pn) (kind : Zc cls d oe) (data : ∃ vs, oe.data = .fields vs) (hr : L2H.RoomH j X.A) (hk : k ≤ j) (hg : Gl X x) (he : PE X e te)
    (hdb : (x == ("__debug__" : Str)) = false := by decide) (hst : starEach (e :: []) X.env = (false, eval e X.env) :: starEach [] X.env := by rfl) (hpl : (backTo pos (starEach [] X.env)).any (·.1) = false := by rfl) :
    PE X (.Call (.Name x p) [e] [] pos) (fun σ H Q => te σ H fun v H1 => [v] = [V.ref a] ∧ sp cls d H1 Q) := by
  obtain ⟨f, fd, pn, F, hm, kp, hb⟩ := c.ex
  constructor
  intro pins s σ H Q J want
  refine wpAny_Call_Name_kw (ld_glob J hg hm (PySem.W.callWith_K (h₀ := X.base) J.ok.mod.kin kp (thn ((pa_cons he pa_nil hst).run pos pins s σ H (fun vs H1 => vs = [V.ref a] ∧ sp cls d H1 Q) J want) ?_) hst hpl) hdb)
  rintro us s1 ⟨vs, H1, J1, rel, rfl, q⟩
  refine ⟨J1.kIn, ?_⟩
  match us, rel with
  | [u], .cons ru .nil =>
    obtain rfl : u = Value.ref a := ru
    have P1 := J1.pin (a, oe) (List.mem_append_left _ mem)
    have pin : L2H.PinOk X.stack H1 s1 (a, oe) := ⟨P1.1, P1.2.1, fun hm => (List.mem_cons.mp (J1.stkSub a hm)).elim P1.2.2.1 P1.2.2.2.1, P1.2.2.2.2⟩
    refine wpAny_call (codeAny_mono (F.run X.A X.stack s1 H1 a oe cls d Q (hr.mono hk) pin kind data J1.env0 (by simpa using hb s1 [_] J1.kIn rfl) q) fun r s' hq => ?_)
    match r, hq with
    | .error _, hq => exact (show False from hq).elim
    | .ok (.ret _), hq => exact J1.after hq
    | .ok .next, hq => exact (show False from hq).elim
    | .ok .brk, hq => exact (show False from hq).elim
    | .ok .cont, hq => exact (show False from hq).elim
end UG


set_option Elab.async false
set_option linter.all false
set_option maxRecDepth 100000
set_option maxHeartbeats 4000000
/-! X(f = v): an own error with its own __init__, made by keywords -/
namespace UG
open PySem PySem.W PySem.Calls PySem.HandSPX
section
variable {M : Model} {A : Around} {E : Value → Shared → Prop} {h : Heap} {g : Array GenState} {d : Drawn} {t : Nat} {os : OsState}
variable {nm q : Str} {C N : Addr} {bs bm bmB : List Value} {hdct : Bool} {sn : List Str} {sub : List Value} {ab : Bool} {col : Option Bool} {dd : Option Addr} {k0 k1 k2 k3 k5 : Option Value} {B newId initId : String}
theorem new_lets (F : ExcBaseFacts B newId initId bmB) (hT : ∀ X : String, bm.contains (.type X) = bmB.contains (.type X)) {kw : List (Str × Value)} {Q : Unit → Shared → Prop}
    (hC : h.get? C = some (excClassObj nm q C N bs bm hdct sn sub ab col dd k0 k1 k2 k3 k5 newId)) (go : Q () ⟨h, g, d, t, os⟩) : wpAny M A (checkBuiltinCall newId ⟨[.ref C], kw⟩) Q E ⟨h, g, d, t, os⟩ := by
  have below : (Value.ref C :: bm).contains (.type B) = true := by rw [List.contains_cons, hT, F.hasB, Bool.or_true]
  have star := F.noStar
  simp only [checkBuiltinCall, F.newKind, F.newSplit, F.newRow]
  repeat (first | refine wpAny_loadPart_at hC ?_ | (refine wpAny_isSubtype_exc hC ?_; rw [below]) | refine wpAny_staticBase_exc hC ?_ | refine wpAny_madeBy_exc hC ?_ | simp only [bne_self_eq_false, Bool.false_eq_true, if_false] | wp_step)
  exact go
theorem make_lets {kw : List (Str × Value)} {Q : Unit → Shared → Prop} (hC : h.get? C = some (excClassObj nm q C N bs bm hdct sn sub ab col dd k0 k1 k2 k3 k5 newId)) (go : Q () ⟨h, g, d, t, os⟩) : wpAny M A (checkBuiltinCall "type.__call__" ⟨[.ref C], kw⟩) Q E ⟨h, g, d, t, os⟩ := by
  have sub1 := tc_sub
  have ty : (⟨h, g, d, t, os⟩ : Shared).TypeIs (.ref C) "type" := ⟨_, hC, rfl⟩
  simp only [checkBuiltinCall, tc_kind, tc_split]
  repeat (any_goals (first | assumption | (with_reducible refine wpAny_loadPart_at hC ?_) | (with_reducible refine wpAny_onRaise ?_) | (with_reducible refine wpAny_map ?_) | wp_step))
end
section
variable {prog : Program} {w : World} {A : Around} {E : Value → Shared → Prop} {R : Result → Shared → Prop} {h : Heap} {g : Array GenState} {d : Drawn} {t : Nat} {os : OsState}
variable {nm q : Str} {C N : Addr} {bs bm bmB : List Value} {hdct : Bool} {sn : List Str} {sub : List Value} {ab : Bool} {col : Option Bool} {dd : Option Addr} {k0 k1 k2 k3 k5 : Option Value} {B newId initId : String}
theorem new_made (F : ExcBaseFacts B newId initId bmB) (hT : ∀ X : String, bm.contains (.type X) = bmB.contains (.type X)) {kw : List (Str × Value)} (hC : h.get? C = some (excClassObj nm q C N bs bm hdct sn sub ab col dd k0 k1 k2 k3 k5 newId))
    (go : R (.ok (.ret (.ref (h.objs.size + 1)))) ⟨(h.push (W.kdv_tup [])).push (excO C h.objs.size), g, d, t, os⟩) : codeAny (model prog w) A (.builtin newId ⟨[.ref C], kw⟩) R ⟨h, g, d, t, os⟩ := by
  have ends := F.ends
  have below : (Value.ref C :: bm).contains (.type B) = true := by rw [List.contains_cons, hT, F.hasB, Bool.or_true]
  have noA : (Value.ref C :: bm).contains (.type "AttributeError") = false := by rw [List.contains_cons, hT, F.noAttr]; rfl
  have noN : (Value.ref C :: bm).contains (.type "NameError") = false := by rw [List.contains_cons, hT, F.noName]; rfl
  refine codeAny_builtinAt F.entry ?_
  unfold Builtin.«BaseException.__new__»
  refine wpAt_bind ?_
  show wpAt _ _ _ (stack >>= _) _ _ _
  refine wpAt_bind (wpAt_stack fun _ _ => wpAt_of_wpAny ?_)
  wp_walk
  refine wpAt_of_wpAny ?_
  rw [F.owner]
  repeat (first | (with_reducible refine wpAny_madeHere_exc F.canon hC ?_) | (with_reducible refine wpAny_loadPart_at hC ?_) | (with_reducible refine wpAny_isSubtype_exc hC ?_; first | rw [below] | rw [noA] | rw [noN]) | wp_step)
  show R _ _
  rw [Heap.size_push]
  exact go
theorem made_by (F : ExcBaseFacts B newId initId bmB) (hT : ∀ X : String, bm.contains (.type X) = bmB.contains (.type X)) {kw : List (Str × Value)} {fI : Addr} {Q : Fin → Shared → Prop} (hC : h.get? C = some (excClassObj nm q C N bs bm hdct sn sub ab col dd k0 k1 k2 k3 k5 newId))
    (hi : W.Looks (model prog w) h (typeLookup (.ref C) "__init__") (some (.ref fI))) (hb : ∀ self, W.Looks (model prog w) h (bindSpecial (.ref fI) self) (.ref fI, [self]))
    (go : codeAny (model prog w) A (.call (.ref fI) ⟨[.ref (h.objs.size + 1)], kw⟩) (fun r s' => match r with | .ok (.ret v) => v = .none ∧ Q (.done (.ret (.ref (h.objs.size + 1)))) s' | .ok _ => False | .error e => E e s') ⟨(h.push (W.kdv_tup [])).push (excO C h.objs.size), g, d, t, os⟩) :
    wpAny (model prog w) A (Builtin.«type.__call__» ⟨[.ref C], kw⟩) Q E ⟨h, g, d, t, os⟩ := by
  repeat (first | (with_reducible refine wpAny_loadPart_at hC ?_) | (with_reducible refine wpAny_madeBy_exc hC ?_) | wp_step)
  refine codeAny_call_builtin_code (Code.quiet_builtin _ F.quiet) (new_lets F hT hC (new_made F hT hC ?_))
  show wpAny _ _ _ _ _ _
  have grow : ∀ b o, h.get? b = some o → ((h.push (W.kdv_tup [])).push (excO C h.objs.size)).get? b = some o := fun b o e => Heap.get?_push_of_some _ (Heap.get?_push_of_some _ e)
  have cls1 := grow _ _ hC
  have obj1 : ((h.push (W.kdv_tup [])).push (excO C h.objs.size)).get? (h.objs.size + 1) = some (excO C h.objs.size) := by heap_get
  have self1 : (Value.ref C :: bm).contains (.ref C) = true := by simp
  have i1 := hi.keeps grow
  have b1 := (hb (.ref (h.objs.size + 1))).keeps grow
  unfold isInstance
  repeat (first | (with_reducible refine wpAny_loadPart_at obj1 ?_) | (with_reducible refine wpAny_isSubtype_exc cls1 ?_; rw [self1]) | wp_step)
  show wpAny _ _ (typeLookup (.ref C) _) _ _ _
  refine i1.at (wpAny_holding (wpAny_bind (b1.at (wpAny_bind (wpAny_call (codeAny_mono go fun r s' z => ?_))))))
  rcases r with e | (v | _ | _ | _) <;> first | exact z | exact z.elim | skip
  obtain ⟨rfl, z⟩ := z
  first
    | exact wpAny_pure (wpAny_pure z)
    | (wp_walk; exact z)
theorem call_kw (F : ExcBaseFacts B newId initId bmB) (hT : ∀ X : String, bm.contains (.type X) = bmB.contains (.type X)) {kw : List (Str × Value)} {fI : Addr} (hC : h.get? C = some (excClassObj nm q C N bs bm hdct sn sub ab col dd k0 k1 k2 k3 k5 newId))
    (hi : W.Looks (model prog w) h (typeLookup (.ref C) "__init__") (some (.ref fI))) (hb : ∀ self, W.Looks (model prog w) h (bindSpecial (.ref fI) self) (.ref fI, [self]))
    (go : codeAny (model prog w) (A.under (.builtin "type.__call__" ⟨[.ref C], kw⟩)) (.call (.ref fI) ⟨[.ref (h.objs.size + 1)], kw⟩) (W.InitBack (h.objs.size + 1) R) ⟨(h.push (W.kdv_tup [])).push (excO C h.objs.size), g, d, t, os⟩) :
    codeAny (model prog w) A (.call (.ref C) ⟨[], kw⟩) R ⟨h, g, d, t, os⟩ := by
  have look1 := tc_lookup
  have bind1 := tc_bind (.ref C)
  have ty : (⟨h, g, d, t, os⟩ : Shared).TypeIs (.ref C) "type" := ⟨_, hC, rfl⟩
  refine codeAny_of_tree ?_
  show wpAny _ _ (callAny (.ref C) _) _ _ _
  repeat (any_goals (first | assumption | (with_reducible refine wpAny_loadPart_at hC ?_) | wp_step))
  refine ⟨rfl, ?_⟩
  refine codeAny_call_builtin_at (Code.quiet_builtin _ (by decide +kernel)) entry_typeCall (make_lets hC (made_by F hT hC hi hb ?_))
  refine codeAny_mono go fun r s' z => ?_
  rcases r with e | (v | _ | _ | _) <;> exact z
end
end UG


set_option Elab.async false
set_option linter.all false
set_option maxRecDepth 100000
set_option maxHeartbeats 4000000
/-! X(..).f: a field of an own error that is made and not raised -/
namespace UG
open PySem PySem.Spec PyProof.Rows L2
def tMade (C : Addr) (n : Str) (t : L2.St → Hp → XK → Prop) : TE := fun σ H Q => t σ H fun cls d H1 => cls = .ref C ∧ ∃ (dd : Addr) (fs : List (Str × V)) (v : V), d = some dd ∧ H1 dd = some (.xd fs) ∧ fs.lookup n = some v ∧ Q v H1
theorem pe_made {X : Cx} {C : Addr} {e : Expr} {t : L2.St → Hp → XK → Prop} {pos : Pos} {n : Str} (T : XfC X.K C) (no : PySem.W.findIn X.K (.ref C) n = some none) (he : PMk X e t) (hb : attributeBase e n X.env (eval e X.env) = eval e X.env := by rfl) :
    PE X (.Attribute e n pos) (tMade C n t) := by
  constructor
  intro pins s σ H Q I want
  refine attr_of hb (thn (he pins s σ H _ I want) fun u s1 made => ?_)
  obtain ⟨a, oe, vs, sI, H1, cls, d, rfl, J, grow, new, at_, kind, data, _, na, os, ag, _, ecls, dd, fs, v, ed, ex, look, go⟩ := made
  subst ecls
  subst ed
  have J1 : Inv X pins σ H1 s1 := J.landed (B := sI.heap) (fun _ _ h _ => h) (fun b o h => grow b o h) (fun b o h _ => ⟨o.slots, grow b o h⟩) os ag
  have hx : ObjOk X.prog X.w H1 s1.heap dd (.xd fs) := J1.hok dd _ ex
  obtain ⟨mA, hns, rel⟩ := hx
  obtain ⟨od, ho, hl⟩ := lookIn_ns hns
  obtain ⟨u, hu, ru⟩ := RelO.some_of (v := v) (o := mA n) (by rw [← look]; exact rel n)
  have inst : PySem.W.InstAt s1.heap a oe C (some od) := ⟨at_, kind.1, by unfold PySem.W.notCls; rw [data] <;> rfl, by rw [kind.2]; exact ho⟩
  exact HandSPX.exc_get J1.kIn inst T.ga T.gg T.exC (PySem.W.findObj_own T.hdC no rfl (by rw [hl, hu])) (handed_of ru) ⟨v, H1, J1.tok _, ru, go⟩
end UG


set_option Elab.async false
set_option linter.all false
set_option maxRecDepth 100000
set_option maxHeartbeats 4000000
/-! X(f = v) of the hand layer: what is made, by keywords alone -/
namespace UG
open PySem PySem.Spec PyProof.Rows L2
section
variable {X : Cx} {CX : CXT} {x : Str} {C fI : Addr} {k : Nat} {fd : FuncData} {ps ks : List Str} {sp : Sp} {p pos : Pos} {kws : List Keyword} {tk : TA}
/-- one value by position, the others by keywords -/
def BindK (K : PySem.W.Frag) (fd : FuncData) (ps ks : List Str) : Prop := ∀ (s : Shared) (a : Value) (ws : List Value), K.In s.heap → ([a] ++ ws).length = ps.length → BindsTo s fd ⟨[a], ks.zip ws⟩ (ps.zip ([a] ++ ws))
def tMkK (C : Addr) (sp : Sp) (tk : TA) : L2.St → Hp → XK → Prop := fun σ H Q => tk σ H fun zs H1 => ∀ a, H1 a = none → sp (.ref a :: zs) (upd H1 a (exo a C none))
  (fun v H2 => v = .non ∧ ∃ (d : Addr) (fs : List (Str × V)), H2 a = some (exo a C (some d)) ∧ H2 d = some (exd d fs) ∧ H1 d = none ∧ Q (.ref C) (some d) (upd (del H2 a) d (.xd fs))) (fun _ _ _ => False)
theorem pmk_oexK (T : OexC X.K C) (iC : PySem.W.findIn X.K (.ref C) "__init__" = some (some (.ref fI))) (tI : PySem.W.typeIn X.K (.ref fI) = some (.type "function")) (F1 : FnOk X.prog X.w X.K X.mg X.base CX k fI fd ps sp) (room : Room (k + 1) X.A)
    (hb : BindK X.K fd ps ks) (hx : Passes CX X (fun _ _ _ => False)) (hg : Gl X x) (hm : X.mg x = some (.ref C)) (hkw : PK X kws tk)
    (hall : (backToKw pos (keywordEach kws X.env)).all (·.1.isSome) = true := by rfl) (hks : (backToKw pos (keywordEach kws X.env)).filterMap (·.1) = ks := by rfl) (hdb : (x == ("__debug__" : Str)) = false := by decide)
    (hpl : ((backTo pos (starEach [] X.env)).any (·.1) || (backToKw pos (keywordEach kws X.env)).any (·.1.isNone)) = false := by rfl) : PMk X (.Call (.Name x p) [] kws pos) (tMkK C sp tk) := by
  intro pins s σ H Q I want
  obtain ⟨nm, q, N, bs, bm, sn, sub, ab, col, dd, k0, k1, k2, k3, k5, hC, hbm⟩ := T.cls
  refine wpAny_Call_Name_kw (ld_glob I hg hm (PySem.W.callWith_KW0 (h₀ := X.base) I.ok.mod.kin T.kC hall (thn (hkw.run pos pins s σ H _ I want) ?_) hpl) hdb)
  rintro ws s1 ⟨zs, H1, I1, rz, q1⟩
  refine ⟨I1.kIn, ?_⟩
  rw [hks]
  show wpAny _ _ (call (.ref C) [] (ks.zip ws)) _ _ _
  obtain ⟨hp, g, dr, tok, os⟩ := s1
  have le : hp.objs.size ≤ hp.objs.size + 1 := Nat.le_succ _
  have new : H1 (hp.objs.size + 1) = none := I1.hok.fresh le
  have go := q1 (hp.objs.size + 1) new
  have grow : ∀ b o, hp.get? b = some o → ((hp.push (PySem.W.kdv_tup [])).push (PySem.HandSPX.excO C hp.objs.size)).get? b = some o := fun b o e => Heap.get?_push_of_some _ (Heap.get?_push_of_some _ e)
  have at_ : ((hp.push (PySem.W.kdv_tup [])).push (PySem.HandSPX.excO C hp.objs.size)).get? (hp.objs.size + 1) = some (PySem.HandSPX.excO C hp.objs.size) := by heap_get
  have I2 : Inv X pins σ (upd H1 (hp.objs.size + 1) (exo (hp.objs.size + 1) C none)) ⟨(hp.push (PySem.W.kdv_tup [])).push (PySem.HandSPX.excO C hp.objs.size), g, dr, tok, os⟩ :=
    I1.laid (t' := tok) (a := hp.objs.size + 1) (o := exo (hp.objs.size + 1) C none) (h' := (hp.push (PySem.W.kdv_tup [])).push (PySem.HandSPX.excO C hp.objs.size)) grow le (exo_ok at_)
  have rel : Vals (V.ref (hp.objs.size + 1) :: zs) (Value.ref (hp.objs.size + 1) :: ws) := .cons rfl rz
  have len : ([Value.ref (hp.objs.size + 1)] ++ ws).length = ps.length := by
    have e := rel.length
    rw [F1.len _ _ _ _ go] at e
    exact e.symm
  refine wpAny_call (call_kw PySem.F.excBase_ValueError (fun Y => PySem.HandSPX.refsVE_contains Y bm hbm) (I1.kIn _ _ hC) (PySem.W.looks_findIn I1.kIn iC) (fun self => PySem.W.bind_fn I1.kIn self tI)
    (codeAny_mono (F1.run _ X.stack _ _ ⟨[Value.ref (hp.objs.size + 1)], ks.zip ws⟩ ([Value.ref (hp.objs.size + 1)] ++ ws) _ _ (fun _ _ _ => False) (room.make C [] (ks.zip ws)) (I2.env0.make C [] (ks.zip ws)) (hb _ _ _ I2.kIn len) rel go) fun r s' ended => ?_))
  match r, ended with
  | .error er, ended => exact hx pins σ _ _ er s' I2 ended
  | .ok (.ret u), ⟨v, H2, os2, bare2, un2, hok2, rv, ev, d, fs, ea, ed, hd1, q2⟩ =>
    subst ev
    obtain ⟨h2, g2, d2, t2, os'⟩ := s'
    exact ⟨rv, mk_end (raises_own T.exC T.tyC) I1 le grow un2 hok2 os2 bare2 ea ed hd1 q2⟩
  | .ok .next, ended => exact False.elim ended
  | .ok .brk, ended => exact False.elim ended
  | .ok .cont, ended => exact False.elim ended
end
end UG


set_option Elab.async false
set_option linter.all false
set_option maxRecDepth 100000
set_option maxHeartbeats 4000000
/-! ends of defs and methods where the error's context is told: None -/
namespace UG
open PySem PySem.Spec PyProof.Rows L2
section
variable {P : Program} {w : World} {K : PySem.W.Frag} {mg : Str → Option Value} {base : Heap}
abbrev defN (P : Program) (w : World) (K : PySem.W.Frag) (mg : Str → Option Value) (base : Heap) (N : List Str) (qual : Str) (sc : Scope) (f : Addr) (cd : Value) (A : Around) (outer : List Env) (s : Shared) (H : Hp) (E : XK) : Cx := cxOf (L2N.CX P w) P w K mg base N qual sc f cd A outer s H E
theorem takes_defN {N : List Str} {qual : Str} {sc : Scope} {f : Addr} {cd : Value} {A : Around} {outer : List Env} {s : Shared} {H : Hp} {E : XK} : L2N.Takes (defN P w K mg base N qual sc f cd A outer s H E) (fun cls d _ H => E cls d H) := L2N.takes_of rfl rfl rfl rfl
theorem pass_defN {N : List Str} {qual : Str} {sc : Scope} {f : Addr} {cd : Value} {A : Around} {outer : List Env} {s : Shared} {H : Hp} {E : XK} : Passes (L2N.CX P w) (defN P w K mg base N qual sc f cd A outer s H E) E := L2N.passes_call (W := fun cls d _ H => E cls d H) takes_defN fun _ _ _ _ h => h
theorem fnN {x qual : Str} {st : Stmt} {f : Addr} {fd : FuncData} {N ps : List Str} {k : Nat} {sp : Sp} (F : C8.Fun K x qual st f fd) (S : FnScope N ps (C8.fnScope st)) (len : ∀ vs H Q E, sp vs H Q E → vs.length = ps.length)
    (walk : ∀ (cdv : Value) (A : Around) (outer : List Env) (s : Shared) (H : Hp) (vs : List V) (Q : VK) (E : XK), Room k (A.deeper (envOfC qual (C8.fnScope st) s.heap.objs.size f cdv)) → sp vs H Q E →
      ∃ t, PSs (defN P w K mg base N qual (C8.fnScope st) f cdv A outer s H E) (C8.fnBody st) t ∧ t { nx := fun _ H' => Q .non H', rt := Q } (L2.start N vs) H) : FnOk P w K mg base (L2N.CX P w) (k + 1) f fd ps sp := by
  obtain ⟨oc, od, dV, kV, doc, pm, an, cdv, ct, osl, rfl, lk, hcd⟩ := F.ex
  exact fn_of lk hcd S len fun A outer s H vs Q E room hsp => walk cdv A outer s H vs Q E room hsp
structure CalN (P : Program) (w : World) (K : PySem.W.Frag) (mg : Str → Option Value) (base : Heap) (k : Nat) (x : Str) (sp : Sp) : Prop where
  ex : ∃ (f : Addr) (fd : FuncData) (ps : List Str), FnOk P w K mg base (L2N.CX P w) k f fd ps sp ∧ mg x = some (.ref f) ∧ PySem.W.keepIn K (.ref f) = true ∧ Binds K fd ps []
theorem calN {x : Str} {st : Stmt} {f : Addr} {fd : FuncData} {N ps : List Str} {k : Nat} {sp : Sp} (F : C8.Def K mg x st f fd) (b : Binds K fd ps []) (S : FnScope N ps (C8.fnScope st)) (len : ∀ vs H Q E, sp vs H Q E → vs.length = ps.length)
    (walk : ∀ (cdv : Value) (A : Around) (outer : List Env) (s : Shared) (H : Hp) (vs : List V) (Q : VK) (E : XK), Room k (A.deeper (envOfC x (C8.fnScope st) s.heap.objs.size f cdv)) → sp vs H Q E →
      ∃ t, PSs (defN P w K mg base N x (C8.fnScope st) f cdv A outer s H E) (C8.fnBody st) t ∧ t { nx := fun _ H' => Q .non H', rt := Q } (L2.start N vs) H) : CalN P w K mg base (k + 1) x sp := ⟨f, fd, ps, fnN F.fn S len walk, F.mgf, F.kp, b⟩
structure MetN (P : Program) (w : World) (K : PySem.W.Frag) (mg : Str → Option Value) (base : Heap) (k : Nat) (C : Addr) (m : Str) (sp : Sp) : Prop where
  ex : ∃ (f : Addr) (fd : FuncData) (ps : List Str), Cls K C ∧ Meth K C m f ∧ FnOk P w K mg base (L2N.CX P w) k f fd ps sp ∧ Binds K fd ps []
theorem metN {m qual : Str} {C : Addr} {st : Stmt} {f : Addr} {fd : FuncData} {N ps : List Str} {k : Nat} {sp : Sp} (c : Cls K C) (me : Meth K C m f) (F : C8.Fun K m qual st f fd) (b : Binds K fd ps []) (S : FnScope N ps (C8.fnScope st)) (len : ∀ vs H Q E, sp vs H Q E → vs.length = ps.length)
    (walk : ∀ (cdv : Value) (A : Around) (outer : List Env) (s : Shared) (H : Hp) (vs : List V) (Q : VK) (E : XK), Room k (A.deeper (envOfC qual (C8.fnScope st) s.heap.objs.size f cdv)) → sp vs H Q E →
      ∃ t, PSs (defN P w K mg base N qual (C8.fnScope st) f cdv A outer s H E) (C8.fnBody st) t ∧ t { nx := fun _ H' => Q .non H', rt := Q } (L2.start N vs) H) : MetN P w K mg base (k + 1) C m sp := ⟨f, fd, ps, c, me, fnN F S len walk, b⟩
end
section
variable {X : Cx} {k j : Nat} {C : Addr} {m : Str} {sp : Sp} {E : XK} {p pos apos : Pos} {e o : Expr} {es : List Expr} {t : TA} {ta : TE}
theorem pe_mtN {pl : Sem Bool} (c : MetN X.prog X.w X.K X.mg X.base k C m sp) (hx : Passes (L2N.CX X.prog X.w) X E) (hr : Room j X.A) (hk : k ≤ j) (he : PE X o ta) (ha : PA X (e :: es) t)
    (d2 : starEach (e :: es) X.env = (false, eval e X.env) :: starEach es X.env := by rfl) (d3 : (backTo pos (starEach es X.env)).any (·.1) = false := by rfl)
    (d4 : eval (.Call (.Attribute o m apos) (e :: es) [] pos) X.env = (do
      let obj ← eval o X.env
      standAt apos.atName
      let (f, first) ← holding [obj] (getMethod obj m pl)
      callWith pos f first (backTo pos (starEach (e :: es) X.env)) (backToKw pos (keywordEach [] X.env))) := by rfl) :
    PE X (.Call (.Attribute o m apos) (e :: es) [] pos) (tMeth C m sp [] E ta t) := let ⟨_, _, _, hc, hm, F, b⟩ := c.ex; pe_meth (pl := pl) he hc hm F (hr.mono hk) b .nil hx ha d2 d3 d4
theorem pe_mtN0 {pl : Sem Bool} (c : MetN X.prog X.w X.K X.mg X.base k C m sp) (hx : Passes (L2N.CX X.prog X.w) X E) (hr : Room j X.A) (hk : k ≤ j) (he : PE X o ta)
    (d4 : eval (.Call (.Attribute o m apos) [] [] pos) X.env = (do
      let obj ← eval o X.env
      standAt apos.atName
      let (f, first) ← holding [obj] (getMethod obj m pl)
      callWith pos f first (backTo pos (starEach [] X.env)) (backToKw pos (keywordEach [] X.env))) := by rfl) :
    PE X (.Call (.Attribute o m apos) [] [] pos) (tMeth C m sp [] E ta tNil) := let ⟨_, _, _, hc, hm, F, b⟩ := c.ex; pe_meth0 (pl := pl) he hc hm F (hr.mono hk) b .nil hx d4
end
section
variable {X : Cx} {k j : Nat} {x : Str} {sp : Sp} {E : XK} {p pos : Pos} {e : Expr} {es : List Expr} {t : TA} {te : TE}
theorem pe_cN (c : CalN X.prog X.w X.K X.mg X.base k x sp) (hx : Passes (L2N.CX X.prog X.w) X E) (hr : Room j X.A) (hk : k ≤ j) (hg : Gl X x) (ha : PA X (e :: es) t)
    (d1 : (x == ("__debug__" : Str)) = false := by decide) (d2 : starEach (e :: es) X.env = (false, eval e X.env) :: starEach es X.env := by rfl) (d3 : (backTo pos (starEach es X.env)).any (·.1) = false := by rfl) :
    PE X (.Call (.Name x p) (e :: es) [] pos) (tCall sp [] E t) := let ⟨_, _, _, F, hm, kp, b⟩ := c.ex; pe_call F (hr.mono hk) hg hm kp b .nil hx ha d1 d2 d3
theorem pmk_ownN {C : Addr} {bmB : List Value} {B newId initId : String} (F : ExcBaseFacts B newId initId bmB) (q : PySem.W.excIn X.K C bmB newId = true) (gC : X.mg x = some (.ref C)) (kC : PySem.W.keepIn X.K (.ref C) = true) (r : Raises X (.ref C)) (hg : Gl X x) (he : PE X e te)
    (hdb : (x == ("__debug__" : Str)) = false := by decide) (hst : starEach (e :: []) X.env = (false, eval e X.env) :: starEach [] X.env := by rfl) (hpl : (backTo pos (starEach [] X.env)).any (·.1) = false := by rfl) :
    L2N.PMk X (.Call (.Name x p) [e] [] pos) (fun σ H Q => te σ H fun v H1 => [v].length = 1 ∧ Q (.ref C) none H1) := by
  intro pins s σ H Q J want
  refine wpAny_Call_Name_kw (ld_glob J hg gC (PySem.W.callWith_K (h₀ := X.base) J.ok.mod.kin kC (thn ((pa_cons he pa_nil hst).run pos pins s σ H (fun vs H1 => vs.length = 1 ∧ Q (.ref C) none H1) J want) ?_) hst hpl) hdb)
  rintro us s1 ⟨vs, H1, J1, rel, one, go⟩
  refine ⟨J1.kIn, ?_⟩
  match vs, us, rel, one with
  | [_], [u], .cons _ .nil, _ =>
    show wpAny _ _ (call (.ref C) [u]) _ _ _
    obtain ⟨bm, N, nm, qn, bs, hdct, sn, sub, ab, col, dd, k0, k1, k2, k3, k5, mN, hC, hN, hni, T⟩ := exc_obj J1.kIn q
    exact wpAny_call_exc_subT F T hC hN hni (fun h' e hm => L2N.mk_of J1 hm r go (J1.hok.gone hm.new)) (by show 1 ≤ sizeLine; rw [sizeLine_eq]; omega)
/-- X(e, ..), X an own error with its own __init__: its context is None -/
theorem pmk_oexN {CX : CXT} {C fI : Addr} {fd : FuncData} {ps : List Str} (T : OexC X.K C) (iC : PySem.W.findIn X.K (.ref C) "__init__" = some (some (.ref fI))) (tI : PySem.W.typeIn X.K (.ref fI) = some (.type "function")) (F1 : FnOk X.prog X.w X.K X.mg X.base CX k fI fd ps sp) (room : Room (k + 1) X.A)
    (hb : Binds X.K fd ps []) (hx : Passes CX X (fun _ _ _ => False)) (hg : Gl X x) (hm : X.mg x = some (.ref C)) (ha : PA X (e :: es) t)
    (hdb : (x == ("__debug__" : Str)) = false := by decide) (he : starEach (e :: es) X.env = (false, eval e X.env) :: starEach es X.env := by rfl) (hpl : (backTo pos (starEach es X.env)).any (·.1) = false := by rfl) :
    L2N.PMk X (.Call (.Name x p) (e :: es) [] pos) (tMkO C sp [] t) := by
  intro pins s σ H Q I want
  obtain ⟨nm, q, N, bs, bm, sn, sub, ab, col, dd, k0, k1, k2, k3, k5, hC, hbm⟩ := T.cls
  refine wpAny_Call_Name_kw (ld_glob I hg hm (PySem.W.callWith_K (h₀ := X.base) I.ok.mod.kin T.kC (thn (ha.run pos pins s σ H _ I want) ?_) he hpl) hdb)
  rintro us s1 ⟨vs, H1, I1, r1, hz, q1⟩
  refine ⟨I1.kIn, ?_⟩
  show wpAny _ _ (call (.ref C) us) _ _ _
  obtain ⟨hp, g, dr, tok, os⟩ := s1
  have le : hp.objs.size ≤ hp.objs.size + 1 := Nat.le_succ _
  have new : H1 (hp.objs.size + 1) = none := I1.hok.fresh le
  have go := q1 (hp.objs.size + 1) new
  rw [List.append_nil] at go
  have grow : ∀ b o, hp.get? b = some o → ((hp.push (PySem.W.kdv_tup us)).push (PySem.HandSPX.excO C hp.objs.size)).get? b = some o := fun b o e => Heap.get?_push_of_some _ (Heap.get?_push_of_some _ e)
  have at_ : ((hp.push (PySem.W.kdv_tup us)).push (PySem.HandSPX.excO C hp.objs.size)).get? (hp.objs.size + 1) = some (PySem.HandSPX.excO C hp.objs.size) := by heap_get
  have I2 : Inv X pins σ (upd H1 (hp.objs.size + 1) (exo (hp.objs.size + 1) C none)) ⟨(hp.push (PySem.W.kdv_tup us)).push (PySem.HandSPX.excO C hp.objs.size), g, dr, tok, os⟩ :=
    I1.laid (t' := tok) (a := hp.objs.size + 1) (o := exo (hp.objs.size + 1) C none) (h' := (hp.push (PySem.W.kdv_tup us)).push (PySem.HandSPX.excO C hp.objs.size)) grow le (exo_ok at_)
  have rel : Vals (V.ref (hp.objs.size + 1) :: vs) (Value.ref (hp.objs.size + 1) :: us) := .cons rfl r1
  have len : ((Value.ref (hp.objs.size + 1) :: us) ++ []).length = ps.length := by
    have e := rel.length
    rw [F1.len _ _ _ _ go] at e
    rw [List.append_nil]
    exact e.symm
  have small : us.length ≤ sizeLine := by
    rw [← Paired.length r1, sizeLine_eq]
    omega
  have bnd := hb _ (Value.ref (hp.objs.size + 1) :: us) I2.kIn len
  rw [List.append_nil] at bnd
  refine wpAny_call (PySem.HandSPX.call_own PySem.F.excBase_ValueError (fun Y => PySem.HandSPX.refsVE_contains Y bm hbm) (I1.kIn _ _ hC) (PySem.W.looks_findIn I1.kIn iC) (fun self => PySem.W.bind_fn I1.kIn self tI) small
    (codeAny_mono (F1.run _ X.stack _ _ ⟨Value.ref (hp.objs.size + 1) :: us, []⟩ (Value.ref (hp.objs.size + 1) :: us) _ _ (fun _ _ _ => False) (room.make C us []) (I2.env0.make C us []) bnd rel go) fun r s' ended => ?_))
  match r, ended with
  | .error er, ended => exact hx pins σ _ _ er s' I2 ended
  | .ok (.ret u), ⟨v, H2, os2, bare2, un2, hok2, rv, ev, d, fs, ea, ed, hd1, q2⟩ =>
    subst ev
    obtain ⟨h2, g2, d2, t2, os'⟩ := s'
    obtain ⟨t0, G, J, kG, ge, hoe, na⟩ := mk_end0 (d2 := d2) (t2 := t2) I1 le grow un2 hok2 os2 bare2 ea ed hd1
    exact ⟨rv, hp.objs.size + 1, _, _, ⟨G, g2, d2, t2, os'⟩, _, .ref C, some d, rfl, J, kG, ge, hoe, ⟨rfl, rfl, fun vs e => by cases e; rfl⟩, rfl, rfl, na, rfl, bare2, raises_own T.exC T.tyC, q2⟩
  | .ok .next, ended => exact False.elim ended
  | .ok .brk, ended => exact False.elim ended
  | .ok .cont, ended => exact False.elim ended
end
end UG


set_option Elab.async false
set_option linter.all false
set_option maxRecDepth 100000
set_option maxHeartbeats 4000000
/-! a, b = x, y while an error is handled -/
namespace UG
open PySem PySem.Spec PyProof.Rows HotX
section
variable {prog : Program} {w : World} {A : Around} {E : Value → Shared → Prop} {s : Shared}
theorem over_hot {it t x1 : Addr} {i : Nat} {items : Array Value} {Q : Option Value → Shared → Prop} (hot : HotAt A x1 s.heap) (apart : it ≠ x1) (hit : IsTupIter s.heap it t i) (ht : IsTup s.heap t items) (none_ : items[i]? = none)
    (go : ∀ h', Heap.ExtBut it s.heap h' → Q none { s with heap := h' }) : wpAny (model prog w) A (pyNext (.ref it)) Q E s := by
  obtain ⟨o, ho, hc, hd⟩ := id hit
  obtain ⟨ot, hot2, _, n, hdt⟩ := ht
  obtain ⟨hh, o1, vs1, h1, d1, c1⟩ := hot
  unfold pyNext
  refine wpAny_bind (wpAny_attempt (wpAny_callSpecial?_slot (name := Str.ofString "__next__") hit.typeIs slot_tupleiter_next (wpAny_call_entry slot_tupleiter_next hit.typeIs entry_tupleiter_next ?_ (args_tupleiter_next _))))
  show wpAny _ _ (field (.ref it) 0 >>= _) _ _ s
  refine wpAny_bind (wpAny_field ho hd (x := .ref t) rfl ?_)
  show wpAny _ _ (if (Value.ref t == Value.none) = true then _ else _) _ _ s
  rw [if_neg (by simp)]
  show wpAny _ _ (field (.ref it) 1 >>= _) _ _ s
  refine wpAny_bind (wpAny_field ho hd (x := .int i 0) rfl ?_)
  show wpAny _ _ (seqItems? (.ref t) >>= _) _ _ s
  refine wpAny_bind (wpAny_seqItems hot2 hdt ?_)
  simp only [Int.toNat_natCast, none_]
  refine wpAny_bind (wpAny_rule (wpAny_bind (wpAny_setField ho hd (by simp) ?_)))
  show wpAny _ _ (newExc (.type "StopIteration") [] >>= _) _ _ _
  refine wpAny_bind ?_
  simp only [newExc, newTuple]
  refine wpAny_bind (wpAny_newObj_type ?_ (by size_fits))
  refine wpAny_bind (m := firstArgMember _ _) (wpAny_of_eq (a := Value.none) (by first | rfl | (simp only [firstArgMember]; rfl)) ?_)
  refine wpAny_newObj_type ?_ (by size_fits)
  have up : ∀ {b : Addr} {ob : Obj} {f : Obj → Obj}, b ≠ it → s.heap.get? b = some ob → (s.heap.update it f).get? b = some ob := fun {b ob f} ne e => by
    rw [Heap.get?_update_other _ _ (Ne.symm ne)]
    exact e
  refine raiseNew_hot (x1 := x1) ⟨hh, o1, vs1, Heap.get?_push_of_some _ (Heap.get?_push_of_some _ (up (Ne.symm apart) h1)), d1, c1⟩ (Nat.ne_of_lt (Heap.lt_size (Heap.get?_push_of_some _ (up (Ne.symm apart) h1)))) (Heap.get?_push_size _ rfl) rfl (by first | (simp; done) | (simp; omega) | (simp only [Array.size_append]; simp; omega)) ?_
  refine wpAny_bind (wpAny_isInstance (T := "StopIteration") (b := true) ⟨_, Heap.get?_update_self _ (Heap.get?_push_size _ rfl) rfl, rfl⟩ isSubtype_stop ?_)
  refine wpAny_pure (go _ fun b ob ne e => ?_)
  have e2 := Heap.get?_push_of_some { cls := .type "tuple", data := .seq ([] : List Value).toArray } (up (f := Obj.mapFields fun x => x.setIfInBounds 0 Value.none) ne e)
  rw [Heap.get?_update_other _ _ (Nat.ne_of_gt (Heap.lt_size e2))]
  exact Heap.get?_push_of_some _ e2
theorem unpack_hot {t x1 : Addr} {items : Array Value} {Q : List Value → Shared → Prop} (hot : HotAt A x1 s.heap) (ht : IsTup s.heap t items)
    (go : ∀ h', Heap.ExtBut s.heap.objs.size s.heap h' → Q items.toList { s with heap := h' }) : wpAny (model prog w) A (unpackItems (.ref t) items.size none) Q E s := by
  have apart : t ≠ s.heap.objs.size := by obtain ⟨o, ho, _⟩ := ht; exact Nat.ne_of_lt (Heap.lt_size ho)
  obtain ⟨hh, o1, vs1, h1, d1, c1⟩ := hot
  have far : s.heap.objs.size ≠ x1 := Ne.symm (Nat.ne_of_lt (Heap.lt_size h1))
  unfold unpackItems
  refine wpAny_bind ?_
  unfold notIterableAtAll
  refine wpAny_bind (wpAny_specialOf ht.typeIs slot_tuple_iter.lookup (wpAny_pure ?_))
  simp only [Bool.false_eq_true, if_false]
  refine wpAny_bind (wpAny_holding (iter_tuple ht (wpAny_bind (wpAny_holding (draw_tuple apart items.size 0 _ _ ⟨_, Heap.get?_push_size _ rfl, rfl, rfl⟩ (ht.push _) (by omega) fun h1' it1 same1 => ?_)))))
  rw [show List.take items.size (List.drop 0 items.toList) = items.toList by rw [List.drop_zero]; exact List.take_of_length_le (by simp), if_neg (by simp)]
  have ht1 : IsTup h1' t items := (ht.push _).extBut same1.extBut apart
  have x1at : h1'.get? x1 = some o1 := same1.extBut _ _ (Ne.symm far) (Heap.get?_push_of_some _ h1)
  refine wpAny_bind (wpAny_holding (over_hot (x1 := x1) ⟨hh, o1, vs1, x1at, d1, c1⟩ far it1 ht1 (by simp) fun h2' ext2 => ?_))
  simp only [Option.isSome_none, Bool.false_eq_true, if_false]
  exact wpAny_pure (go h2' fun b o ne e => ext2 b o ne (same1.extBut b o ne (Heap.get?_push_of_some _ e)))
end
section
open L2 L2H
variable {X : Cx}
/-- a, b = x, y in a suite, both names plain -/
theorem ps_parH {i j : Nat} {x y : Str} {a b : Expr} {ta : TA} {px py pt pos : Pos} {kt k2 pt2} (hot : HotC X) (dup : X.N.Nodup) (hi : X.N[i]? = some x) (hj : X.N[j]? = some y) (ne : i ≠ j)
    (hx : X.env.scope.names.lookup x = some .local) (hy : X.env.scope.names.lookup y = some .local) (ha : PA X [a, b] ta)
    (hw : swappedStores [.Tuple [.Name x px, .Name y py] kt pt] (.Tuple [a, b] k2 pt2) X.env = pure (some [x, y]))
    (hs : swapsWithSole [.Tuple [.Name x px, .Name y py] kt pt] (.Tuple [a, b] k2 pt2) pos.line X.env = pure false := by rfl) :
    PS X (.Assign [.Tuple [.Name x px, .Name y py] kt pt] (.Tuple [a, b] k2 pt2) pos) (tPar i j ta) := by
  constructor
  intro pins s σ H D I want
  rw [exec_Assign_arm]
  refine wpAny_bind (wpAny_standAt ?_)
  rw [hs]
  refine wpAny_bind (wpAny_pure ?_)
  rw [if_neg (by decide)]
  refine wpAny_bind (Tuple_ (thn (ha.run _ pins s σ H _ I want) ?_))
  rintro us s1 ⟨vs, H1, I1, rel, v, w, rfl, go⟩
  match us, rel with
  | [u1, u2], .cons rv (.cons rw1 .nil) =>
    refine wpAny_newObj_type ?_ (by show 2 ≤ sizeLine; decide)
    have I2 : Inv X pins σ H1 { s1 with heap := s1.heap.push { cls := .type "tuple", data := .seq [u1, u2].toArray } } := I1.kept (t' := s1.toks) fun _ _ e => Heap.get?_push_of_some _ e
    obtain ⟨x1, hot1⟩ := hot.at I2
    rw [hw]
    refine wpAny_bind (wpAny_pure ?_)
    show wpAny (model X.prog X.w) X.A (do rule "assign.swapped-stores"; let items ← unpackItems (.ref s1.heap.objs.size) 2 none; assignInOrder [fun v => bindName X.env y v, fun v => bindName X.env x v] items.reverse; pure Flow.next) _ _ _
    refine wpAny_bind (wpAny_rule (wpAny_bind (unpack_hot (items := #[u1, u2]) hot1 (IsTup.new s1.heap _) fun h' ext => ?_)))
    have I3 := I2.kept (h' := h') (t' := s1.toks) fun b o e => ext b o (Nat.ne_of_lt (Heap.lt_size e)) e
    show wpAny _ _ (assignInOrder [fun v => bindName X.env y v, fun v => bindName X.env x v] [u2, u1] >>= fun _ => pure Flow.next) _ _ _
    refine wpAny_bind (assignInOrder_cons (wpAny_bindName (store_ok I3 dup hj (.inl hy) rw1 (fun _ I4 => ?_) (.inr hy))))
    refine assignInOrder_cons (wpAny_bindName (store_ok I4 dup hi (.inl hx) rv (fun _ I5 => assignInOrder_nil (wpAny_pure ?_)) (.inr hx)))
    rw [List.set_comm _ _ (Ne.symm ne)] at I5
    exact ⟨_, H1, I5, go⟩
end
end UG


set_option Elab.async false
set_option linter.all false
set_option maxRecDepth 100000
set_option maxHeartbeats 8000000
namespace K00
open PySem PySem.Spec PyProof.Rows L2
theorem dec_int_ne {i k : Int} (h : i ≠ k) : decide (V.int i = V.int k) = false := decide_eq_false fun z => h (by cases z; rfl)
/-- an own error without __init__, and how it is raised -/
structure RsV (K : PySem.W.Frag) (mg : Str → Option Value) (n : Str) (C : Addr) : Prop where
  g : mg n = some (.ref C)
  x : PySem.W.excIn K C [.type "ValueError", .type "Exception", .type "BaseException", .type "object"] "ValueError.__new__" = true
  k : PySem.W.keepIn K (.ref C) = true
  b : PySem.W.subIn K (.ref C) (.type "BaseException") = some true
  t : PySem.W.typeIn K (.ref C) = some (.type "type")
/-- one that keeps what it is given -/
structure RsI (P : Program) (w : World) (K : PySem.W.Frag) (mg : Str → Option Value) (base : Heap) (n par : Str) (C : Addr) : Prop where
  g : mg n = some (.ref C)
  T : OexC K C
  ex : ∃ (fI : Addr) (fd : FuncData), PySem.W.findIn K (.ref C) "__init__" = some (some (.ref fI)) ∧ PySem.W.typeIn K (.ref fI) = some (.type "function") ∧ FnOk P w K mg base C8.CX0 1 fI fd ["self", par] (UG.spSup C par) ∧ Binds K fd ["self", par] [] ∧ UG.BindK K fd ["self", par] [par]
section
variable {P : Program} {w : World} {K : PySem.W.Frag} {mg : Str → Option Value} {base : Heap}
noncomputable def RsI.fI {n par : Str} {C : Addr} (R : RsI P w K mg base n par C) : Addr := R.ex.choose
noncomputable def RsI.fd {n par : Str} {C : Addr} (R : RsI P w K mg base n par C) : FuncData := R.ex.choose_spec.choose
theorem RsI.iC {n par : Str} {C : Addr} (R : RsI P w K mg base n par C) : PySem.W.findIn K (.ref C) "__init__" = some (some (.ref R.fI)) := R.ex.choose_spec.choose_spec.1
theorem RsI.tI {n par : Str} {C : Addr} (R : RsI P w K mg base n par C) : PySem.W.typeIn K (.ref R.fI) = some (.type "function") := R.ex.choose_spec.choose_spec.2.1
theorem RsI.F {n par : Str} {C : Addr} (R : RsI P w K mg base n par C) : FnOk P w K mg base C8.CX0 1 R.fI R.fd ["self", par] (UG.spSup C par) := R.ex.choose_spec.choose_spec.2.2.1
theorem RsI.b {n par : Str} {C : Addr} (R : RsI P w K mg base n par C) : Binds K R.fd ["self", par] [] := R.ex.choose_spec.choose_spec.2.2.2.1
theorem RsI.kb {n par : Str} {C : Addr} (R : RsI P w K mg base n par C) : UG.BindK K R.fd ["self", par] [par] := R.ex.choose_spec.choose_spec.2.2.2.2
theorem sup_ok {C : Addr} {attr : Str} {v : V} {H1 : Hp} {Q : XK} (q : ∀ d2 H', Same H1 H' → H' d2 = some (.xd [(attr, v)]) → Q (.ref C) (some d2) H') : ∀ a2, H1 a2 = none → UG.spSup C attr [.ref a2, v] (upd H1 a2 (exo a2 C none))
    (fun v' H2 => v' = .non ∧ ∃ (d : Addr) (fs : List (Str × V)), H2 a2 = some (exo a2 C (some d)) ∧ H2 d = some (exd d fs) ∧ H1 d = none ∧ Q (.ref C) (some d) (upd (L2.del H2 a2) d (.xd fs))) (fun _ _ _ => False) := by
  intro a2 ha2
  refine ⟨a2, v, rfl, upd_same, fun d2 hd2 hne => ⟨rfl, d2, [(attr, v)], upd_same, by rw [upd_ne hne]; exact upd_same, ?_, ?_⟩⟩
  · have := hd2
    rw [upd_ne hne] at this
    exact this
  · have hd1 : H1 d2 = none := by
      have := hd2
      rw [upd_ne hne] at this
      exact this
    refine q _ _ (fun b o eb => ?_) upd_same
    have n1 : b ≠ a2 := fun z => by rw [z, ha2] at eb; cases eb
    have n2 : b ≠ d2 := fun z => by rw [z, hd1] at eb; cases eb
    rw [upd_ne n2, L2.del_ne n1, upd_ne n1, upd_ne n2, upd_ne n1]
    exact eb
/-- all of them -/
structure Rs (P : Program) (w : World) (K : PySem.W.Frag) (mg : Str → Option Value) (base : Heap) (Cs : Nat → Addr) : Prop where
  v0 : RsV K mg "BadProgram" (Cs 0)
  i1 : RsI P w K mg base "NotChecked" "what" (Cs 1)
  i2 : RsI P w K mg base "BadText" "place" (Cs 2)
  v3 : RsV K mg "BadRun" (Cs 3)
  v4 : RsV K mg "BadName" (Cs 4)
  v5 : RsV K mg "BadLimit" (Cs 5)
  v6 : RsV K mg "TooGreat" (Cs 6)
  v7 : RsV K mg "BadWord" (Cs 7)
  v8 : RsV K mg "BadStraight" (Cs 8)
  v9 : RsV K mg "BadPlace" (Cs 9)
  v10 : RsV K mg "BadCount" (Cs 10)
  v11 : RsV K mg "BadBeginning" (Cs 11)
  i12 : RsI P w K mg base "NotOne" "name" (Cs 12)
  i13 : RsI P w K mg base "Wrong" "beginning" (Cs 13)
  i14 : RsI P w K mg base "NotLet" "index" (Cs 14)
  v15 : RsV K mg "BadLog" (Cs 15)
  v16 : RsV K mg "Unlike" (Cs 16)
def spRd (Cs : Nat → Addr) : Sp := fun vs H Q E => ∃ (way : Nat) (v : V), vs = [.int (way : Int), v] ∧ way < 17 ∧ ∀ d H', Same H H' → (d = none ∨ ∃ dd fs, d = some dd ∧ H' dd = some (.xd fs)) → E (.ref (Cs way)) d H'
def spRm (Cs : Nat → Addr) : Sp := fun vs H Q E => ∃ (way : Nat) (v : V), vs = [.int ((9 + way : Nat) : Int), v] ∧ way < 8 ∧ ∀ d H', Same H H' → (d = none ∨ ∃ dd fs, d = some dd ∧ H' dd = some (.xd fs)) → E (.ref (Cs (9 + way))) d H'
theorem sc__law_raised_more : FnScope ["way", "value"] ["way", "value"] (C8.fnScope (topS 58)) := C8.fnScope_by (by decide +kernel)
theorem ok__law_raised_more {Cs : Nat → Addr} {f : Addr} {fd : FuncData} (F : C8.Def K mg "_law_raised_more" (topS 58) f fd) (b : Binds K fd ["way", "value"] []) (R : Rs P w K mg base Cs) : UG.CalN P w K mg base 3 "_law_raised_more" (spRm Cs) := by
  refine UG.calN F b sc__law_raised_more ?len ?body
  case len => rintro vs H Q E ⟨i, v, rfl, _⟩; rfl
  case body =>
    rintro cdv A outer s H vs Q E hr ⟨i, v, rfl, hi, q⟩
    refine ⟨_, (pss_cons (ps_if (pt_cmpR op_eq (pv 0) pe_int (nomark _)) (pss_one (L2N.ps_raise rfl UG.takes_defN (UG.pmk_ownN PySem.F.excBase_ValueError R.v9.x R.v9.g R.v9.k (raises_own R.v9.b R.v9.t) rfl (pv 1)))) pss_nil)
      (pss_cons (ps_if (pt_cmpR op_eq (pv 0) pe_int (nomark _)) (pss_one (L2N.ps_raise rfl UG.takes_defN (UG.pmk_ownN PySem.F.excBase_ValueError R.v10.x R.v10.g R.v10.k (raises_own R.v10.b R.v10.t) rfl (pv 1)))) pss_nil)
      (pss_cons (ps_if (pt_cmpR op_eq (pv 0) pe_int (nomark _)) (pss_one (L2N.ps_raise rfl UG.takes_defN (UG.pmk_ownN PySem.F.excBase_ValueError R.v11.x R.v11.g R.v11.k (raises_own R.v11.b R.v11.t) rfl (pv 1)))) pss_nil)
      (pss_cons (ps_if (pt_cmpR op_eq (pv 0) pe_int (nomark _)) (pss_one (L2N.ps_raise rfl UG.takes_defN (UG.pmk_oexN R.i12.T R.i12.iC R.i12.tI R.i12.F (hr.mono (by decide)) R.i12.b C8.pass0 rfl R.i12.g (pa_cons (pv 1) pa_nil)))) pss_nil)
      (pss_cons (ps_if (pt_cmpR op_eq (pv 0) pe_int (nomark _)) (pss_one (L2N.ps_raise rfl UG.takes_defN (UG.pmk_oexN R.i13.T R.i13.iC R.i13.tI R.i13.F (hr.mono (by decide)) R.i13.b C8.pass0 rfl R.i13.g (pa_cons (pv 1) pa_nil)))) pss_nil)
      (pss_cons (ps_if (pt_cmpR op_eq (pv 0) pe_int (nomark _)) (pss_one (L2N.ps_raise rfl UG.takes_defN (UG.pmk_oexN R.i14.T R.i14.iC R.i14.tI R.i14.F (hr.mono (by decide)) R.i14.b C8.pass0 rfl R.i14.g (pa_cons (pv 1) pa_nil)))) pss_nil)
      (pss_cons (ps_if (pt_cmpR op_eq (pv 0) pe_int (nomark _)) (pss_one (L2N.ps_raise rfl UG.takes_defN (UG.pmk_ownN PySem.F.excBase_ValueError R.v15.x R.v15.g R.v15.k (raises_own R.v15.b R.v15.t) rfl (pv 1)))) pss_nil)
      (pss_one (ps_if (pt_cmpR op_eq (pv 0) pe_int (nomark _)) (pss_one (L2N.ps_raise rfl UG.takes_defN (UG.pmk_ownN PySem.F.excBase_ValueError R.v16.x R.v16.g R.v16.k (raises_own R.v16.b R.v16.t) rfl (pv 1)))) pss_nil))))))))), ?_⟩
    match i, hi with
    | 0, _ =>
      refine ⟨_, rfl, rfl, _, rfl, ?_⟩
      exact ifT (by decide) ⟨_, rfl, rfl, q none H (Same.refl H) (.inl rfl)⟩
    | 1, _ =>
      refine ⟨_, rfl, rfl, _, rfl, ?_⟩
      refine ifF (by decide) ?_
      refine ⟨_, rfl, rfl, _, rfl, ?_⟩
      exact ifT (by decide) ⟨_, rfl, rfl, q none H (Same.refl H) (.inl rfl)⟩
    | 2, _ =>
      refine ⟨_, rfl, rfl, _, rfl, ?_⟩
      refine ifF (by decide) ?_
      refine ⟨_, rfl, rfl, _, rfl, ?_⟩
      refine ifF (by decide) ?_
      refine ⟨_, rfl, rfl, _, rfl, ?_⟩
      exact ifT (by decide) ⟨_, rfl, rfl, q none H (Same.refl H) (.inl rfl)⟩
    | 3, _ =>
      refine ⟨_, rfl, rfl, _, rfl, ?_⟩
      refine ifF (by decide) ?_
      refine ⟨_, rfl, rfl, _, rfl, ?_⟩
      refine ifF (by decide) ?_
      refine ⟨_, rfl, rfl, _, rfl, ?_⟩
      refine ifF (by decide) ?_
      refine ⟨_, rfl, rfl, _, rfl, ?_⟩
      exact ifT (by decide) ⟨_, rfl, (show 1 ≤ 1000 by decide), sup_ok fun d2 H2 s2 h2 => q _ H2 s2 (.inr ⟨d2, _, rfl, h2⟩)⟩
    | 4, _ =>
      refine ⟨_, rfl, rfl, _, rfl, ?_⟩
      refine ifF (by decide) ?_
      refine ⟨_, rfl, rfl, _, rfl, ?_⟩
      refine ifF (by decide) ?_
      refine ⟨_, rfl, rfl, _, rfl, ?_⟩
      refine ifF (by decide) ?_
      refine ⟨_, rfl, rfl, _, rfl, ?_⟩
      refine ifF (by decide) ?_
      refine ⟨_, rfl, rfl, _, rfl, ?_⟩
      exact ifT (by decide) ⟨_, rfl, (show 1 ≤ 1000 by decide), sup_ok fun d2 H2 s2 h2 => q _ H2 s2 (.inr ⟨d2, _, rfl, h2⟩)⟩
    | 5, _ =>
      refine ⟨_, rfl, rfl, _, rfl, ?_⟩
      refine ifF (by decide) ?_
      refine ⟨_, rfl, rfl, _, rfl, ?_⟩
      refine ifF (by decide) ?_
      refine ⟨_, rfl, rfl, _, rfl, ?_⟩
      refine ifF (by decide) ?_
      refine ⟨_, rfl, rfl, _, rfl, ?_⟩
      refine ifF (by decide) ?_
      refine ⟨_, rfl, rfl, _, rfl, ?_⟩
      refine ifF (by decide) ?_
      refine ⟨_, rfl, rfl, _, rfl, ?_⟩
      exact ifT (by decide) ⟨_, rfl, (show 1 ≤ 1000 by decide), sup_ok fun d2 H2 s2 h2 => q _ H2 s2 (.inr ⟨d2, _, rfl, h2⟩)⟩
    | 6, _ =>
      refine ⟨_, rfl, rfl, _, rfl, ?_⟩
      refine ifF (by decide) ?_
      refine ⟨_, rfl, rfl, _, rfl, ?_⟩
      refine ifF (by decide) ?_
      refine ⟨_, rfl, rfl, _, rfl, ?_⟩
      refine ifF (by decide) ?_
      refine ⟨_, rfl, rfl, _, rfl, ?_⟩
      refine ifF (by decide) ?_
      refine ⟨_, rfl, rfl, _, rfl, ?_⟩
      refine ifF (by decide) ?_
      refine ⟨_, rfl, rfl, _, rfl, ?_⟩
      refine ifF (by decide) ?_
      refine ⟨_, rfl, rfl, _, rfl, ?_⟩
      exact ifT (by decide) ⟨_, rfl, rfl, q none H (Same.refl H) (.inl rfl)⟩
    | 7, _ =>
      refine ⟨_, rfl, rfl, _, rfl, ?_⟩
      refine ifF (by decide) ?_
      refine ⟨_, rfl, rfl, _, rfl, ?_⟩
      refine ifF (by decide) ?_
      refine ⟨_, rfl, rfl, _, rfl, ?_⟩
      refine ifF (by decide) ?_
      refine ⟨_, rfl, rfl, _, rfl, ?_⟩
      refine ifF (by decide) ?_
      refine ⟨_, rfl, rfl, _, rfl, ?_⟩
      refine ifF (by decide) ?_
      refine ⟨_, rfl, rfl, _, rfl, ?_⟩
      refine ifF (by decide) ?_
      refine ⟨_, rfl, rfl, _, rfl, ?_⟩
      refine ifF (by decide) ?_
      refine ⟨_, rfl, rfl, _, rfl, ?_⟩
      exact ifT (by decide) ⟨_, rfl, rfl, q none H (Same.refl H) (.inl rfl)⟩
    | k + 8, h => exact absurd h (by omega)
theorem sc__law_raised : FnScope ["way", "value"] ["way", "value"] (C8.fnScope (topS 57)) := C8.fnScope_by (by decide +kernel)
theorem ok__law_raised {Cs : Nat → Addr} {f : Addr} {fd : FuncData} (F : C8.Def K mg "_law_raised" (topS 57) f fd) (b : Binds K fd ["way", "value"] []) (R : Rs P w K mg base Cs) (c_more : UG.CalN P w K mg base 3 "_law_raised_more" (spRm Cs)) : FnOk P w K mg base (L2N.CX P w) 4 f fd ["way", "value"] (spRd Cs) := by
  refine UG.fnN F.fn sc__law_raised ?len ?body
  case len => rintro vs H Q E ⟨i, v, rfl, _⟩; rfl
  case body =>
    rintro cdv A outer s H vs Q E hr ⟨i, v, rfl, hi, q⟩
    refine ⟨_, (pss_cons (ps_if (pt_cmpR op_eq (pv 0) pe_int (nomark _)) (pss_one (L2N.ps_raise rfl UG.takes_defN (UG.pmk_ownN PySem.F.excBase_ValueError R.v0.x R.v0.g R.v0.k (raises_own R.v0.b R.v0.t) rfl (pv 1)))) pss_nil)
      (pss_cons (ps_if (pt_cmpR op_eq (pv 0) pe_int (nomark _)) (pss_one (L2N.ps_raise rfl UG.takes_defN (UG.pmk_oexN R.i1.T R.i1.iC R.i1.tI R.i1.F (hr.mono (by decide)) R.i1.b C8.pass0 rfl R.i1.g (pa_cons (pv 1) pa_nil)))) pss_nil)
      (pss_cons (ps_if (pt_cmpR op_eq (pv 0) pe_int (nomark _)) (pss_one (L2N.ps_raise rfl UG.takes_defN (UG.pmk_oexN R.i2.T R.i2.iC R.i2.tI R.i2.F (hr.mono (by decide)) R.i2.b C8.pass0 rfl R.i2.g (pa_cons (pv 1) pa_nil)))) pss_nil)
      (pss_cons (ps_if (pt_cmpR op_eq (pv 0) pe_int (nomark _)) (pss_one (L2N.ps_raise rfl UG.takes_defN (UG.pmk_ownN PySem.F.excBase_ValueError R.v3.x R.v3.g R.v3.k (raises_own R.v3.b R.v3.t) rfl (pv 1)))) pss_nil)
      (pss_cons (ps_if (pt_cmpR op_eq (pv 0) pe_int (nomark _)) (pss_one (L2N.ps_raise rfl UG.takes_defN (UG.pmk_ownN PySem.F.excBase_ValueError R.v4.x R.v4.g R.v4.k (raises_own R.v4.b R.v4.t) rfl (pv 1)))) pss_nil)
      (pss_cons (ps_if (pt_cmpR op_eq (pv 0) pe_int (nomark _)) (pss_one (L2N.ps_raise rfl UG.takes_defN (UG.pmk_ownN PySem.F.excBase_ValueError R.v5.x R.v5.g R.v5.k (raises_own R.v5.b R.v5.t) rfl (pv 1)))) pss_nil)
      (pss_cons (ps_if (pt_cmpR op_eq (pv 0) pe_int (nomark _)) (pss_one (L2N.ps_raise rfl UG.takes_defN (UG.pmk_ownN PySem.F.excBase_ValueError R.v6.x R.v6.g R.v6.k (raises_own R.v6.b R.v6.t) rfl (pv 1)))) pss_nil)
      (pss_cons (ps_if (pt_cmpR op_eq (pv 0) pe_int (nomark _)) (pss_one (L2N.ps_raise rfl UG.takes_defN (UG.pmk_ownN PySem.F.excBase_ValueError R.v7.x R.v7.g R.v7.k (raises_own R.v7.b R.v7.t) rfl (pv 1)))) pss_nil)
      (pss_cons (ps_if (pt_cmpR op_eq (pv 0) pe_int (nomark _)) (pss_one (L2N.ps_raise rfl UG.takes_defN (UG.pmk_ownN PySem.F.excBase_ValueError R.v8.x R.v8.g R.v8.k (raises_own R.v8.b R.v8.t) rfl (pv 1)))) pss_nil)
      (pss_one (ps_expr (UG.pe_cN c_more UG.pass_defN hr (by decide) rfl (pa_cons (pv 0) (pa_cons (pv 1) pa_nil)))))))))))))), ?_⟩
    match i, hi with
    | 0, _ =>
      refine ⟨_, rfl, rfl, _, rfl, ?_⟩
      exact ifT (by decide) ⟨_, rfl, rfl, q none H (Same.refl H) (.inl rfl)⟩
    | 1, _ =>
      refine ⟨_, rfl, rfl, _, rfl, ?_⟩
      refine ifF (by decide) ?_
      refine ⟨_, rfl, rfl, _, rfl, ?_⟩
      exact ifT (by decide) ⟨_, rfl, (show 1 ≤ 1000 by decide), sup_ok fun d2 H2 s2 h2 => q _ H2 s2 (.inr ⟨d2, _, rfl, h2⟩)⟩
    | 2, _ =>
      refine ⟨_, rfl, rfl, _, rfl, ?_⟩
      refine ifF (by decide) ?_
      refine ⟨_, rfl, rfl, _, rfl, ?_⟩
      refine ifF (by decide) ?_
      refine ⟨_, rfl, rfl, _, rfl, ?_⟩
      exact ifT (by decide) ⟨_, rfl, (show 1 ≤ 1000 by decide), sup_ok fun d2 H2 s2 h2 => q _ H2 s2 (.inr ⟨d2, _, rfl, h2⟩)⟩
    | 3, _ =>
      refine ⟨_, rfl, rfl, _, rfl, ?_⟩
      refine ifF (by decide) ?_
      refine ⟨_, rfl, rfl, _, rfl, ?_⟩
      refine ifF (by decide) ?_
      refine ⟨_, rfl, rfl, _, rfl, ?_⟩
      refine ifF (by decide) ?_
      refine ⟨_, rfl, rfl, _, rfl, ?_⟩
      exact ifT (by decide) ⟨_, rfl, rfl, q none H (Same.refl H) (.inl rfl)⟩
    | 4, _ =>
      refine ⟨_, rfl, rfl, _, rfl, ?_⟩
      refine ifF (by decide) ?_
      refine ⟨_, rfl, rfl, _, rfl, ?_⟩
      refine ifF (by decide) ?_
      refine ⟨_, rfl, rfl, _, rfl, ?_⟩
      refine ifF (by decide) ?_
      refine ⟨_, rfl, rfl, _, rfl, ?_⟩
      refine ifF (by decide) ?_
      refine ⟨_, rfl, rfl, _, rfl, ?_⟩
      exact ifT (by decide) ⟨_, rfl, rfl, q none H (Same.refl H) (.inl rfl)⟩
    | 5, _ =>
      refine ⟨_, rfl, rfl, _, rfl, ?_⟩
      refine ifF (by decide) ?_
      refine ⟨_, rfl, rfl, _, rfl, ?_⟩
      refine ifF (by decide) ?_
      refine ⟨_, rfl, rfl, _, rfl, ?_⟩
      refine ifF (by decide) ?_
      refine ⟨_, rfl, rfl, _, rfl, ?_⟩
      refine ifF (by decide) ?_
      refine ⟨_, rfl, rfl, _, rfl, ?_⟩
      refine ifF (by decide) ?_
      refine ⟨_, rfl, rfl, _, rfl, ?_⟩
      exact ifT (by decide) ⟨_, rfl, rfl, q none H (Same.refl H) (.inl rfl)⟩
    | 6, _ =>
      refine ⟨_, rfl, rfl, _, rfl, ?_⟩
      refine ifF (by decide) ?_
      refine ⟨_, rfl, rfl, _, rfl, ?_⟩
      refine ifF (by decide) ?_
      refine ⟨_, rfl, rfl, _, rfl, ?_⟩
      refine ifF (by decide) ?_
      refine ⟨_, rfl, rfl, _, rfl, ?_⟩
      refine ifF (by decide) ?_
      refine ⟨_, rfl, rfl, _, rfl, ?_⟩
      refine ifF (by decide) ?_
      refine ⟨_, rfl, rfl, _, rfl, ?_⟩
      refine ifF (by decide) ?_
      refine ⟨_, rfl, rfl, _, rfl, ?_⟩
      exact ifT (by decide) ⟨_, rfl, rfl, q none H (Same.refl H) (.inl rfl)⟩
    | 7, _ =>
      refine ⟨_, rfl, rfl, _, rfl, ?_⟩
      refine ifF (by decide) ?_
      refine ⟨_, rfl, rfl, _, rfl, ?_⟩
      refine ifF (by decide) ?_
      refine ⟨_, rfl, rfl, _, rfl, ?_⟩
      refine ifF (by decide) ?_
      refine ⟨_, rfl, rfl, _, rfl, ?_⟩
      refine ifF (by decide) ?_
      refine ⟨_, rfl, rfl, _, rfl, ?_⟩
      refine ifF (by decide) ?_
      refine ⟨_, rfl, rfl, _, rfl, ?_⟩
      refine ifF (by decide) ?_
      refine ⟨_, rfl, rfl, _, rfl, ?_⟩
      refine ifF (by decide) ?_
      refine ⟨_, rfl, rfl, _, rfl, ?_⟩
      exact ifT (by decide) ⟨_, rfl, rfl, q none H (Same.refl H) (.inl rfl)⟩
    | 8, _ =>
      refine ⟨_, rfl, rfl, _, rfl, ?_⟩
      refine ifF (by decide) ?_
      refine ⟨_, rfl, rfl, _, rfl, ?_⟩
      refine ifF (by decide) ?_
      refine ⟨_, rfl, rfl, _, rfl, ?_⟩
      refine ifF (by decide) ?_
      refine ⟨_, rfl, rfl, _, rfl, ?_⟩
      refine ifF (by decide) ?_
      refine ⟨_, rfl, rfl, _, rfl, ?_⟩
      refine ifF (by decide) ?_
      refine ⟨_, rfl, rfl, _, rfl, ?_⟩
      refine ifF (by decide) ?_
      refine ⟨_, rfl, rfl, _, rfl, ?_⟩
      refine ifF (by decide) ?_
      refine ⟨_, rfl, rfl, _, rfl, ?_⟩
      refine ifF (by decide) ?_
      refine ⟨_, rfl, rfl, _, rfl, ?_⟩
      exact ifT (by decide) ⟨_, rfl, rfl, q none H (Same.refl H) (.inl rfl)⟩
    | k + 9, h =>
      refine ⟨_, rfl, rfl, _, rfl, ?_⟩
      refine ifF (dec_int_ne (by omega)) ?_
      refine ⟨_, rfl, rfl, _, rfl, ?_⟩
      refine ifF (dec_int_ne (by omega)) ?_
      refine ⟨_, rfl, rfl, _, rfl, ?_⟩
      refine ifF (dec_int_ne (by omega)) ?_
      refine ⟨_, rfl, rfl, _, rfl, ?_⟩
      refine ifF (dec_int_ne (by omega)) ?_
      refine ⟨_, rfl, rfl, _, rfl, ?_⟩
      refine ifF (dec_int_ne (by omega)) ?_
      refine ⟨_, rfl, rfl, _, rfl, ?_⟩
      refine ifF (dec_int_ne (by omega)) ?_
      refine ⟨_, rfl, rfl, _, rfl, ?_⟩
      refine ifF (dec_int_ne (by omega)) ?_
      refine ⟨_, rfl, rfl, _, rfl, ?_⟩
      refine ifF (dec_int_ne (by omega)) ?_
      refine ⟨_, rfl, rfl, _, rfl, ?_⟩
      refine ifF (dec_int_ne (by omega)) ?_
      exact ⟨_, rfl, _, rfl, k, v, by rw [show k + 9 = 9 + k by omega]; rfl, by omega, by rw [show 9 + k = k + 9 by omega]; exact q⟩
end
end K00


set_option Elab.async false
set_option linter.all false
set_option maxRecDepth 100000
set_option maxHeartbeats 8000000
namespace K00
open PySem PySem.Spec PyProof.Rows L2
def spCls (K : PySem.W.Frag) (Cs : Nat → Addr) : Value → Option Addr → Hp → VK → Prop := fun cls d H Q => ∃ (C : Addr) (b : Nat → Bool), cls = .ref C ∧ UG.IsC K C ∧ (d = none ∨ ∃ dd fs, d = some dd ∧ H dd = some (.xd fs)) ∧ (∀ k, k < 17 → PySem.W.kitOne K (.ref C) (.ref (Cs k)) = some (b k)) ∧
  ∀ l H', Same H H' → H' l = some (.lst [.bl (b 0), .bl (b 1), .bl (b 2), .bl (b 3), .bl (b 4), .bl (b 5), .bl (b 6), .bl (b 7), .bl (b 8), .bl (b 9), .bl (b 10), .bl (b 11), .bl (b 12), .bl (b 13), .bl (b 14), .bl (b 15), .bl (b 16)]) → Q (.ref l) H'
theorem nm {i : Nat} {v : V} {nx : L2.St → Hp → Prop} {σ : L2.St} {H : Hp} (h : nx (σ.set i (some v)) H) : gName i v σ H nx := h
section
variable {P : Program} {w : World} {K : PySem.W.Frag} {mg : Str → Option Value} {base : Heap}
theorem sc__law_classes : FnScope ["e", "told"] ["e"] (C8.fnScope (topS 59)) := C8.fnScope_by (by decide +kernel)
theorem ok__law_classes {Cs : Nat → Addr} {f : Addr} {fd : FuncData} (F : C8.Def K mg "_law_classes" (topS 59) f fd) (bd : Binds K fd ["e"] []) (B : Bl K mg) (R : Rs P w K mg base Cs) : UG.CalE P w K mg base 1 "_law_classes" (spCls K Cs) := by
  refine ⟨f, fd, "e", UG.fnE F.fn sc__law_classes ?body, F.mgf, F.kp, bd⟩
  rintro cdv A outer s H a oe cls d Q kind data hr ⟨C, b, rfl, T, dict, hk, q⟩
  refine ⟨_, (pss_cons (ps_set (i := 1) sc__law_classes.nd rfl (Or.inl rfl) (pe_lst (pa_cons (pe_callB (UG.call_isPin (List.mem_singleton.mpr rfl) kind data T) rfl B.isi PyProof.Rows.boot_isinstance (pa_cons (pv 0) (pa_cons (pe_glob (v := .ref (Cs 0)) rfl R.v0.g rfl) pa_nil))) (pa_cons (pe_callB (UG.call_isPin (List.mem_singleton.mpr rfl) kind data T) rfl B.isi PyProof.Rows.boot_isinstance (pa_cons (pv 0) (pa_cons (pe_glob (v := .ref (Cs 1)) rfl R.i1.g rfl) pa_nil))) (pa_cons (pe_callB (UG.call_isPin (List.mem_singleton.mpr rfl) kind data T) rfl B.isi PyProof.Rows.boot_isinstance (pa_cons (pv 0) (pa_cons (pe_glob (v := .ref (Cs 2)) rfl R.i2.g rfl) pa_nil))) (pa_cons (pe_callB (UG.call_isPin (List.mem_singleton.mpr rfl) kind data T) rfl B.isi PyProof.Rows.boot_isinstance (pa_cons (pv 0) (pa_cons (pe_glob (v := .ref (Cs 3)) rfl R.v3.g rfl) pa_nil))) pa_nil))))))
      (pss_cons (ps_set (i := 1) sc__law_classes.nd rfl (Or.inl rfl) (pe_op op_cat (pv 1) (pe_lst (pa_cons (pe_callB (UG.call_isPin (List.mem_singleton.mpr rfl) kind data T) rfl B.isi PyProof.Rows.boot_isinstance (pa_cons (pv 0) (pa_cons (pe_glob (v := .ref (Cs 4)) rfl R.v4.g rfl) pa_nil))) (pa_cons (pe_callB (UG.call_isPin (List.mem_singleton.mpr rfl) kind data T) rfl B.isi PyProof.Rows.boot_isinstance (pa_cons (pv 0) (pa_cons (pe_glob (v := .ref (Cs 5)) rfl R.v5.g rfl) pa_nil))) (pa_cons (pe_callB (UG.call_isPin (List.mem_singleton.mpr rfl) kind data T) rfl B.isi PyProof.Rows.boot_isinstance (pa_cons (pv 0) (pa_cons (pe_glob (v := .ref (Cs 6)) rfl R.v6.g rfl) pa_nil))) (pa_cons (pe_callB (UG.call_isPin (List.mem_singleton.mpr rfl) kind data T) rfl B.isi PyProof.Rows.boot_isinstance (pa_cons (pv 0) (pa_cons (pe_glob (v := .ref (Cs 7)) rfl R.v7.g rfl) pa_nil))) pa_nil)))))))
      (pss_cons (ps_set (i := 1) sc__law_classes.nd rfl (Or.inl rfl) (pe_op op_cat (pv 1) (pe_lst (pa_cons (pe_callB (UG.call_isPin (List.mem_singleton.mpr rfl) kind data T) rfl B.isi PyProof.Rows.boot_isinstance (pa_cons (pv 0) (pa_cons (pe_glob (v := .ref (Cs 8)) rfl R.v8.g rfl) pa_nil))) (pa_cons (pe_callB (UG.call_isPin (List.mem_singleton.mpr rfl) kind data T) rfl B.isi PyProof.Rows.boot_isinstance (pa_cons (pv 0) (pa_cons (pe_glob (v := .ref (Cs 9)) rfl R.v9.g rfl) pa_nil))) (pa_cons (pe_callB (UG.call_isPin (List.mem_singleton.mpr rfl) kind data T) rfl B.isi PyProof.Rows.boot_isinstance (pa_cons (pv 0) (pa_cons (pe_glob (v := .ref (Cs 10)) rfl R.v10.g rfl) pa_nil))) (pa_cons (pe_callB (UG.call_isPin (List.mem_singleton.mpr rfl) kind data T) rfl B.isi PyProof.Rows.boot_isinstance (pa_cons (pv 0) (pa_cons (pe_glob (v := .ref (Cs 11)) rfl R.v11.g rfl) pa_nil))) pa_nil)))))))
      (pss_cons (ps_set (i := 1) sc__law_classes.nd rfl (Or.inl rfl) (pe_op op_cat (pv 1) (pe_lst (pa_cons (pe_callB (UG.call_isPin (List.mem_singleton.mpr rfl) kind data T) rfl B.isi PyProof.Rows.boot_isinstance (pa_cons (pv 0) (pa_cons (pe_glob (v := .ref (Cs 12)) rfl R.i12.g rfl) pa_nil))) (pa_cons (pe_callB (UG.call_isPin (List.mem_singleton.mpr rfl) kind data T) rfl B.isi PyProof.Rows.boot_isinstance (pa_cons (pv 0) (pa_cons (pe_glob (v := .ref (Cs 13)) rfl R.i13.g rfl) pa_nil))) (pa_cons (pe_callB (UG.call_isPin (List.mem_singleton.mpr rfl) kind data T) rfl B.isi PyProof.Rows.boot_isinstance (pa_cons (pv 0) (pa_cons (pe_glob (v := .ref (Cs 14)) rfl R.i14.g rfl) pa_nil))) (pa_cons (pe_callB (UG.call_isPin (List.mem_singleton.mpr rfl) kind data T) rfl B.isi PyProof.Rows.boot_isinstance (pa_cons (pv 0) (pa_cons (pe_glob (v := .ref (Cs 15)) rfl R.v15.g rfl) pa_nil))) pa_nil)))))))
      (pss_one (ps_ret (pe_op op_cat (pv 1) (pe_lst (pa_cons (pe_callB (UG.call_isPin (List.mem_singleton.mpr rfl) kind data T) rfl B.isi PyProof.Rows.boot_isinstance (pa_cons (pv 0) (pa_cons (pe_glob (v := .ref (Cs 16)) rfl R.v16.g rfl) pa_nil))) pa_nil))))))))), ?_⟩
  refine ⟨_, rfl, _, _, b 0, rfl, .own _, hk 0 (by decide), dict, _, rfl, _, _, b 1, rfl, .own _, hk 1 (by decide), dict, _, rfl, _, _, b 2, rfl, .own _, hk 2 (by decide), dict, _, rfl, _, _, b 3, rfl, .own _, hk 3 (by decide), dict, (by show 4 ≤ sizeLine; decide), fun p0 hp0 => ?_⟩
  have s0 := same_new hp0 (.lst [.bl (b 0), .bl (b 1), .bl (b 2), .bl (b 3)])
  have h0 : upd H p0 (.lst [.bl (b 0), .bl (b 1), .bl (b 2), .bl (b 3)]) p0 = some (.lst [.bl (b 0), .bl (b 1), .bl (b 2), .bl (b 3)]) := upd_same
  generalize upd H p0 (.lst [.bl (b 0), .bl (b 1), .bl (b 2), .bl (b 3)]) = H0 at s0 h0
  have dict0 : d = none ∨ ∃ dd fs, d = some dd ∧ H0 dd = some (.xd fs) := dict.imp id fun ⟨dd, fs, e1, e2⟩ => ⟨dd, fs, e1, s0 _ _ e2⟩
  refine nm ?_
  refine ⟨_, rfl, _, rfl, _, _, b 4, rfl, .own _, hk 4 (by decide), dict0, _, rfl, _, _, b 5, rfl, .own _, hk 5 (by decide), dict0, _, rfl, _, _, b 6, rfl, .own _, hk 6 (by decide), dict0, _, rfl, _, _, b 7, rfl, .own _, hk 7 (by decide), dict0, (by show 4 ≤ sizeLine; decide), fun q1 hq1 => ?_⟩
  have r1 := same_new hq1 (.lst [.bl (b 4), .bl (b 5), .bl (b 6), .bl (b 7)])
  have g1 : upd H0 q1 (.lst [.bl (b 4), .bl (b 5), .bl (b 6), .bl (b 7)]) q1 = some (.lst [.bl (b 4), .bl (b 5), .bl (b 6), .bl (b 7)]) := upd_same
  have g1' := r1 _ _ h0
  generalize upd H0 q1 (.lst [.bl (b 4), .bl (b 5), .bl (b 6), .bl (b 7)]) = G1 at r1 g1 g1'
  refine ⟨p0, q1, [.bl (b 0), .bl (b 1), .bl (b 2), .bl (b 3)], [.bl (b 4), .bl (b 5), .bl (b 6), .bl (b 7)], rfl, rfl, g1', g1, (by show 8 ≤ sizeLine; decide), fun p1 hp1 => ?_⟩
  have s1 := s0.trans (r1.trans (same_new hp1 (.lst [.bl (b 0), .bl (b 1), .bl (b 2), .bl (b 3), .bl (b 4), .bl (b 5), .bl (b 6), .bl (b 7)])))
  have h1 : upd G1 p1 (.lst [.bl (b 0), .bl (b 1), .bl (b 2), .bl (b 3), .bl (b 4), .bl (b 5), .bl (b 6), .bl (b 7)]) p1 = some (.lst [.bl (b 0), .bl (b 1), .bl (b 2), .bl (b 3), .bl (b 4), .bl (b 5), .bl (b 6), .bl (b 7)]) := upd_same
  have z1 : ∀ hh, upd G1 p1 (.lst ([.bl (b 0), .bl (b 1), .bl (b 2), .bl (b 3)] ++ [.bl (b 4), .bl (b 5), .bl (b 6), .bl (b 7)])) = hh → upd G1 p1 (.lst [.bl (b 0), .bl (b 1), .bl (b 2), .bl (b 3), .bl (b 4), .bl (b 5), .bl (b 6), .bl (b 7)]) = hh := fun _ h => h
  replace s1 : Same H (upd G1 p1 (.lst ([.bl (b 0), .bl (b 1), .bl (b 2), .bl (b 3)] ++ [.bl (b 4), .bl (b 5), .bl (b 6), .bl (b 7)]))) := s1
  replace h1 : upd G1 p1 (.lst ([.bl (b 0), .bl (b 1), .bl (b 2), .bl (b 3)] ++ [.bl (b 4), .bl (b 5), .bl (b 6), .bl (b 7)])) p1 = some (.lst [.bl (b 0), .bl (b 1), .bl (b 2), .bl (b 3), .bl (b 4), .bl (b 5), .bl (b 6), .bl (b 7)]) := h1
  clear z1
  generalize upd G1 p1 (.lst ([.bl (b 0), .bl (b 1), .bl (b 2), .bl (b 3)] ++ [.bl (b 4), .bl (b 5), .bl (b 6), .bl (b 7)])) = H1 at s1 h1
  have dict1 : d = none ∨ ∃ dd fs, d = some dd ∧ H1 dd = some (.xd fs) := dict.imp id fun ⟨dd, fs, e1, e2⟩ => ⟨dd, fs, e1, s1 _ _ e2⟩
  refine nm ?_
  refine ⟨_, rfl, _, rfl, _, _, b 8, rfl, .own _, hk 8 (by decide), dict1, _, rfl, _, _, b 9, rfl, .own _, hk 9 (by decide), dict1, _, rfl, _, _, b 10, rfl, .own _, hk 10 (by decide), dict1, _, rfl, _, _, b 11, rfl, .own _, hk 11 (by decide), dict1, (by show 4 ≤ sizeLine; decide), fun q2 hq2 => ?_⟩
  have r2 := same_new hq2 (.lst [.bl (b 8), .bl (b 9), .bl (b 10), .bl (b 11)])
  have g2 : upd H1 q2 (.lst [.bl (b 8), .bl (b 9), .bl (b 10), .bl (b 11)]) q2 = some (.lst [.bl (b 8), .bl (b 9), .bl (b 10), .bl (b 11)]) := upd_same
  have g2' := r2 _ _ h1
  generalize upd H1 q2 (.lst [.bl (b 8), .bl (b 9), .bl (b 10), .bl (b 11)]) = G2 at r2 g2 g2'
  refine ⟨p1, q2, [.bl (b 0), .bl (b 1), .bl (b 2), .bl (b 3), .bl (b 4), .bl (b 5), .bl (b 6), .bl (b 7)], [.bl (b 8), .bl (b 9), .bl (b 10), .bl (b 11)], rfl, rfl, g2', g2, (by show 12 ≤ sizeLine; decide), fun p2 hp2 => ?_⟩
  have s2 := s1.trans (r2.trans (same_new hp2 (.lst [.bl (b 0), .bl (b 1), .bl (b 2), .bl (b 3), .bl (b 4), .bl (b 5), .bl (b 6), .bl (b 7), .bl (b 8), .bl (b 9), .bl (b 10), .bl (b 11)])))
  have h2 : upd G2 p2 (.lst [.bl (b 0), .bl (b 1), .bl (b 2), .bl (b 3), .bl (b 4), .bl (b 5), .bl (b 6), .bl (b 7), .bl (b 8), .bl (b 9), .bl (b 10), .bl (b 11)]) p2 = some (.lst [.bl (b 0), .bl (b 1), .bl (b 2), .bl (b 3), .bl (b 4), .bl (b 5), .bl (b 6), .bl (b 7), .bl (b 8), .bl (b 9), .bl (b 10), .bl (b 11)]) := upd_same
  have z2 : ∀ hh, upd G2 p2 (.lst ([.bl (b 0), .bl (b 1), .bl (b 2), .bl (b 3), .bl (b 4), .bl (b 5), .bl (b 6), .bl (b 7)] ++ [.bl (b 8), .bl (b 9), .bl (b 10), .bl (b 11)])) = hh → upd G2 p2 (.lst [.bl (b 0), .bl (b 1), .bl (b 2), .bl (b 3), .bl (b 4), .bl (b 5), .bl (b 6), .bl (b 7), .bl (b 8), .bl (b 9), .bl (b 10), .bl (b 11)]) = hh := fun _ h => h
  replace s2 : Same H (upd G2 p2 (.lst ([.bl (b 0), .bl (b 1), .bl (b 2), .bl (b 3), .bl (b 4), .bl (b 5), .bl (b 6), .bl (b 7)] ++ [.bl (b 8), .bl (b 9), .bl (b 10), .bl (b 11)]))) := s2
  replace h2 : upd G2 p2 (.lst ([.bl (b 0), .bl (b 1), .bl (b 2), .bl (b 3), .bl (b 4), .bl (b 5), .bl (b 6), .bl (b 7)] ++ [.bl (b 8), .bl (b 9), .bl (b 10), .bl (b 11)])) p2 = some (.lst [.bl (b 0), .bl (b 1), .bl (b 2), .bl (b 3), .bl (b 4), .bl (b 5), .bl (b 6), .bl (b 7), .bl (b 8), .bl (b 9), .bl (b 10), .bl (b 11)]) := h2
  clear z2
  generalize upd G2 p2 (.lst ([.bl (b 0), .bl (b 1), .bl (b 2), .bl (b 3), .bl (b 4), .bl (b 5), .bl (b 6), .bl (b 7)] ++ [.bl (b 8), .bl (b 9), .bl (b 10), .bl (b 11)])) = H2 at s2 h2
  have dict2 : d = none ∨ ∃ dd fs, d = some dd ∧ H2 dd = some (.xd fs) := dict.imp id fun ⟨dd, fs, e1, e2⟩ => ⟨dd, fs, e1, s2 _ _ e2⟩
  refine nm ?_
  refine ⟨_, rfl, _, rfl, _, _, b 12, rfl, .own _, hk 12 (by decide), dict2, _, rfl, _, _, b 13, rfl, .own _, hk 13 (by decide), dict2, _, rfl, _, _, b 14, rfl, .own _, hk 14 (by decide), dict2, _, rfl, _, _, b 15, rfl, .own _, hk 15 (by decide), dict2, (by show 4 ≤ sizeLine; decide), fun q3 hq3 => ?_⟩
  have r3 := same_new hq3 (.lst [.bl (b 12), .bl (b 13), .bl (b 14), .bl (b 15)])
  have g3 : upd H2 q3 (.lst [.bl (b 12), .bl (b 13), .bl (b 14), .bl (b 15)]) q3 = some (.lst [.bl (b 12), .bl (b 13), .bl (b 14), .bl (b 15)]) := upd_same
  have g3' := r3 _ _ h2
  generalize upd H2 q3 (.lst [.bl (b 12), .bl (b 13), .bl (b 14), .bl (b 15)]) = G3 at r3 g3 g3'
  refine ⟨p2, q3, [.bl (b 0), .bl (b 1), .bl (b 2), .bl (b 3), .bl (b 4), .bl (b 5), .bl (b 6), .bl (b 7), .bl (b 8), .bl (b 9), .bl (b 10), .bl (b 11)], [.bl (b 12), .bl (b 13), .bl (b 14), .bl (b 15)], rfl, rfl, g3', g3, (by show 16 ≤ sizeLine; decide), fun p3 hp3 => ?_⟩
  have s3 := s2.trans (r3.trans (same_new hp3 (.lst [.bl (b 0), .bl (b 1), .bl (b 2), .bl (b 3), .bl (b 4), .bl (b 5), .bl (b 6), .bl (b 7), .bl (b 8), .bl (b 9), .bl (b 10), .bl (b 11), .bl (b 12), .bl (b 13), .bl (b 14), .bl (b 15)])))
  have h3 : upd G3 p3 (.lst [.bl (b 0), .bl (b 1), .bl (b 2), .bl (b 3), .bl (b 4), .bl (b 5), .bl (b 6), .bl (b 7), .bl (b 8), .bl (b 9), .bl (b 10), .bl (b 11), .bl (b 12), .bl (b 13), .bl (b 14), .bl (b 15)]) p3 = some (.lst [.bl (b 0), .bl (b 1), .bl (b 2), .bl (b 3), .bl (b 4), .bl (b 5), .bl (b 6), .bl (b 7), .bl (b 8), .bl (b 9), .bl (b 10), .bl (b 11), .bl (b 12), .bl (b 13), .bl (b 14), .bl (b 15)]) := upd_same
  have z3 : ∀ hh, upd G3 p3 (.lst ([.bl (b 0), .bl (b 1), .bl (b 2), .bl (b 3), .bl (b 4), .bl (b 5), .bl (b 6), .bl (b 7), .bl (b 8), .bl (b 9), .bl (b 10), .bl (b 11)] ++ [.bl (b 12), .bl (b 13), .bl (b 14), .bl (b 15)])) = hh → upd G3 p3 (.lst [.bl (b 0), .bl (b 1), .bl (b 2), .bl (b 3), .bl (b 4), .bl (b 5), .bl (b 6), .bl (b 7), .bl (b 8), .bl (b 9), .bl (b 10), .bl (b 11), .bl (b 12), .bl (b 13), .bl (b 14), .bl (b 15)]) = hh := fun _ h => h
  replace s3 : Same H (upd G3 p3 (.lst ([.bl (b 0), .bl (b 1), .bl (b 2), .bl (b 3), .bl (b 4), .bl (b 5), .bl (b 6), .bl (b 7), .bl (b 8), .bl (b 9), .bl (b 10), .bl (b 11)] ++ [.bl (b 12), .bl (b 13), .bl (b 14), .bl (b 15)]))) := s3
  replace h3 : upd G3 p3 (.lst ([.bl (b 0), .bl (b 1), .bl (b 2), .bl (b 3), .bl (b 4), .bl (b 5), .bl (b 6), .bl (b 7), .bl (b 8), .bl (b 9), .bl (b 10), .bl (b 11)] ++ [.bl (b 12), .bl (b 13), .bl (b 14), .bl (b 15)])) p3 = some (.lst [.bl (b 0), .bl (b 1), .bl (b 2), .bl (b 3), .bl (b 4), .bl (b 5), .bl (b 6), .bl (b 7), .bl (b 8), .bl (b 9), .bl (b 10), .bl (b 11), .bl (b 12), .bl (b 13), .bl (b 14), .bl (b 15)]) := h3
  clear z3
  generalize upd G3 p3 (.lst ([.bl (b 0), .bl (b 1), .bl (b 2), .bl (b 3), .bl (b 4), .bl (b 5), .bl (b 6), .bl (b 7), .bl (b 8), .bl (b 9), .bl (b 10), .bl (b 11)] ++ [.bl (b 12), .bl (b 13), .bl (b 14), .bl (b 15)])) = H3 at s3 h3
  have dict3 : d = none ∨ ∃ dd fs, d = some dd ∧ H3 dd = some (.xd fs) := dict.imp id fun ⟨dd, fs, e1, e2⟩ => ⟨dd, fs, e1, s3 _ _ e2⟩
  refine nm ?_
  refine ⟨_, rfl, _, rfl, _, _, b 16, rfl, .own _, hk 16 (by decide), dict3, (by show 1 ≤ sizeLine; decide), fun q4 hq4 => ?_⟩
  have r4 := same_new hq4 (.lst [.bl (b 16)])
  have g4 : upd H3 q4 (.lst [.bl (b 16)]) q4 = some (.lst [.bl (b 16)]) := upd_same
  have g4' := r4 _ _ h3
  generalize upd H3 q4 (.lst [.bl (b 16)]) = G4 at r4 g4 g4'
  refine ⟨p3, q4, [.bl (b 0), .bl (b 1), .bl (b 2), .bl (b 3), .bl (b 4), .bl (b 5), .bl (b 6), .bl (b 7), .bl (b 8), .bl (b 9), .bl (b 10), .bl (b 11), .bl (b 12), .bl (b 13), .bl (b 14), .bl (b 15)], [.bl (b 16)], rfl, rfl, g4', g4, (by show 17 ≤ sizeLine; decide), fun p4 hp4 => ?_⟩
  have s4 := s3.trans (r4.trans (same_new hp4 (.lst [.bl (b 0), .bl (b 1), .bl (b 2), .bl (b 3), .bl (b 4), .bl (b 5), .bl (b 6), .bl (b 7), .bl (b 8), .bl (b 9), .bl (b 10), .bl (b 11), .bl (b 12), .bl (b 13), .bl (b 14), .bl (b 15), .bl (b 16)])))
  exact q p4 _ s4 upd_same
end
end K00


set_option Elab.async false
set_option linter.all false
set_option maxRecDepth 100000
set_option maxHeartbeats 8000000
namespace K00
open PySem PySem.Spec PyProof.Rows L2
theorem takes_noneN {X : Cx} : L2N.Takes X (fun _ _ _ _ => False) := fun _ _ x => by
  obtain ⟨a, B, sI, pins, σ, H, cls, d, h1, h2, h3, h4, h5, h6, h7, h8, z⟩ := x
  exact z.elim
/-- how the errors stand to one another -/
structure Fam (K : PySem.W.Frag) (mg : Str → Option Value) (Cs : Nat → Addr) (DE : Addr) : Prop where
  d : mg "DeedError" = some (.ref DE)
  v : mg "ValueError" = none
  ko : ∀ i, i < 17 → ∀ k, k < 17 → PySem.W.kitOne K (.ref (Cs i)) (.ref (Cs k)) = some (decide (i = k))
  kv : ∀ i, i < 17 → PySem.W.kitOne K (.ref (Cs i)) (.type "ValueError") = some true
  ex : ∀ i, i < 17 → PySem.W.exmOne K (.ref (Cs i)) (.ref DE) = some true
  ic : ∀ i, i < 17 → UG.IsC K (Cs i)
theorem eqvAll_self : ∀ l : List Bool, PyData.eqvAll (l.map PyData.bool) (l.map PyData.bool) = true
  | [] => rfl
  | b :: r => by
    rw [List.map_cons, PyData.eqvAll, eqvAll_self r, PyData.eqv]
    simp
theorem dps_bools {K : PySem.W.Frag} {H : Hp} : ∀ l : List Bool, L2.DpAll K H (l.map V.bl) (l.map PyData.bool)
  | [] => .nil
  | b :: r => .cons (.bl b) (dps_bools r)
section
variable {P : Program} {w : World} {K : PySem.W.Frag} {mg : Str → Option Value} {base : Heap}
def spWR : Sp := fun vs H Q _ => ∃ (way : Nat) (v : V), vs = [.int (way : Int), v] ∧ way < 17 ∧ ∀ H', Same H H' → Q (.bl true) H'
theorem sc__law_way_right : FnScope ["way", "value", "told", "under", "e", "k"] ["way", "value"] (C8.fnScope (topS 60)) := C8.fnScope_by (by decide +kernel)
theorem ok__law_way_right {Cs : Nat → Addr} {DE : Addr} {f fR : Addr} {fd fdR : FuncData} (F : C8.Def K mg "_law_way_right" (topS 60) f fd) (b : Binds K fd ["way", "value"] []) (B : Bl K mg) (D : Fam K mg Cs DE)
    (FR : FnOk P w K mg base (L2N.CX P w) 4 fR fdR ["way", "value"] (spRd Cs)) (mR : mg "_law_raised" = some (.ref fR)) (kR : PySem.W.keepIn K (.ref fR) = true) (bR : Binds K fdR ["way", "value"] []) (c_cls : UG.CalE P w K mg base 1 "_law_classes" (spCls K Cs)) : C8.Cal P w K mg base 6 "_law_way_right" spWR [] := by
  refine C8.cal0 F b .nil sc__law_way_right ?len ?body
  case len => rintro vs H Q E ⟨i, v, rfl, _⟩; rfl
  case body =>
    rintro cdv A outer s H vs Q E hr ⟨i, v, rfl, hi, q⟩
    refine ⟨_, (pss_cons (ps_par (i := 2) (j := 3) rfl sc__law_way_right.nd rfl rfl (by decide) rfl rfl (pa_cons (pe_lst pa_nil) (pa_cons pe_bl pa_nil)) (by with_unfolding_all rfl))
      (pss_cons (L2N.ps_try_as (i := 4) rfl rfl sc__law_way_right.nd rfl rfl ⟨rfl, by decide, .inl D.d⟩ takes_noneN
        (fun W pn xe tk _ => pss_one (ps_expr (pe_callS FR (hr.mono (by decide)) rfl mR kR bR (fun σ => L2N.passAt tk σ) (pa_cons (pv 0) (pa_cons (pv 1) pa_nil)))))
        (fun a oe cls d pn kind data => pss_one (UG.ps_parH (i := 2) (j := 3) ⟨(a, oe), ⟨rfl, data.choose, data.choose_spec, kind.2.2 _ data.choose_spec⟩, List.mem_cons_self⟩ sc__law_way_right.nd rfl rfl (by decide) rfl rfl
          (pa_cons (UG.pe_cE (a := a) (oe := oe) (j := 5) c_cls List.mem_cons_self kind.zc data ⟨hr.dp, hr.un⟩ (by decide) rfl (pv 4)) (pa_cons (pe_callB (show CallR _ (.builtin "isinstance") (UG.rIsAny K a cls d) from UG.call_isAny (a := a) (oe := oe) List.mem_cons_self kind.zc data) rfl B.isi PyProof.Rows.boot_isinstance (pa_cons (pv 4) (pa_cons (pe_bltn (v := .ty "ValueError") rfl D.v PyProof.Rows.Boot.«ValueError» rfl) pa_nil))) pa_nil)) (by with_unfolding_all rfl))))
      (pss_one (ps_ret (pe_and (pv 3) (pe_one (pe_cmpR (op_eqD hr.units) (pv 2) (pe_lc (own := [("k", 5)]) (g := gName 5) (by rfl) sc__law_way_right.nd (pi_range1 rfl B.range (pa_cons pe_int pa_nil)) (blkOk_by (own := [("k", 5)]) (N := ["way", "value", "told", "under", "e", "k"]) (sc := (C8.fnScope (topS 60))) (by decide +kernel)) (fun _ _ _ _ _ => pg_name (i := 5) sc__law_way_right.nd rfl (Or.inl rfl)) (fun _ _ _ _ _ => pts_nil) (fun _ _ _ _ _ => pe_cmpR op_eq (pv 5) (pv 0) (nomark _))) (nomark _)))))))), ?_⟩
    refine ⟨(by show 0 ≤ sizeLine; decide), fun p hp => ⟨_, _, rfl, ?_⟩⟩
    have s0 := same_new hp (.lst [])
    generalize upd H p (.lst []) = H0 at s0
    refine ⟨_, rfl, _, rfl, i, v, rfl, hi, fun d H1 s1 dict => ⟨true, D.ex i hi, fun _ a ha => ?_, fun z => nomatch z⟩⟩
    refine ⟨_, rfl, rfl, Cs i, fun k => decide (i = k), rfl, D.ic i hi, dict, D.ko i hi, fun l H2 s2 hl => ?_⟩
    have dict2 : d = none ∨ ∃ dd fs, d = some dd ∧ H2 dd = some (.xd fs) := dict.imp id fun ⟨dd, fs, e1, e2⟩ => ⟨dd, fs, e1, s2 _ _ e2⟩
    refine ⟨_, rfl, Cs i, rfl, D.ic i hi, .ty "ValueError", .type "ValueError", true, rfl, .ty _, D.kv i hi, dict2, _, _, rfl, ?_⟩
    refine ⟨_, rfl, _, rfl, iteT ?_⟩
    refine ⟨_, rfl, 17, rfl, by decide, by decide, fun Dd hDd => ?_⟩
    have sD := same_new hDd (.lst [])
    refine lc_range (lo := 0) (n := 17) (fun j H' => H' Dd = some (.lst (((List.range j).map fun k => decide (i = k)).map V.bl)) ∧ Same H2 H') ⟨upd_same, sD⟩ ?_ ?_
    · rintro j H3 hj ⟨hv, s3⟩
      refine ⟨rfl, ?_⟩
      refine ⟨_, rfl, _, rfl, rfl, _, hv, ?_, ?_, ?_⟩
      · rw [List.length_map, List.length_map, List.length_range]
        exact Nat.lt_trans hj (by decide)
      · rw [upd_same, List.range_succ]
        have e : decide (V.int (0 + (j : Int)) = V.int (i : Int)) = decide (i = j) := decide_eq_decide.mpr ⟨fun h => by
          have h2 : 0 + (j : Int) = (i : Int) := by injection h
          omega, fun h => by rw [h, Int.zero_add]⟩
        rw [e]
        simp
      · intro b o eb
        rw [upd_ne (fun z => by rw [z, hDd] at eb; cases eb)]
        exact s3 _ _ eb
    · rintro H3 ⟨hv, s3⟩
      have hl3 : H3 l = some (.lst (((List.range 17).map fun k => decide (i = k)).map V.bl)) := s3 _ _ hl
      refine ⟨.list (((List.range 17).map fun k => decide (i = k)).map PyData.bool), .list (((List.range 17).map fun k => decide (i = k)).map PyData.bool), .lst (SqL.of hl3) (dps_bools _), .lst (SqL.of hv) (dps_bools _), rfl, rfl, ?_⟩
      have e : PyData.eqv (.list (((List.range 17).map fun k => decide (i = k)).map PyData.bool)) (.list (((List.range 17).map fun k => decide (i = k)).map PyData.bool)) = true := by
        rw [PyData.eqv]
        exact eqvAll_self _
      rw [e]
      exact q H3 (s0.trans (s1.trans (s2.trans s3)))
end
end K00


set_option Elab.async false
set_option linter.all false
set_option maxRecDepth 100000
set_option maxHeartbeats 4000000
/-! a def of one parameter that is called where no guard stands around -/
namespace UG
open PySem PySem.Spec PyProof.Rows L2
theorem room_un {k : Nat} {A : Around} (r : Room k A) : A.units + 200 < cLine := by have := r.un; omega
/-- the promise of such a def -/
structure FnG (P : Program) (w : World) (K : PySem.W.Frag) (mg : Str → Option Value) (base : Heap) (k : Nat) (f : Addr) (fd : FuncData) (p : Str) (sp : Sp) : Prop where
  run : ∀ (A : Around) (outer : List Env) (s : Shared) (H : Hp) (u : Value) (v : V) (Q : VK), A.guards = some [] → Room k A → Env0 P w K mg base A outer s H → BindsTo s fd ⟨[u], []⟩ [(p, u)] → RelV v u → sp [v] H Q C8.E0 →
    codeAny (model P w) A (.call (.ref f) ⟨[u], []⟩) (CR C8.CX0 outer P w H s Q C8.E0) s
theorem fnG {P : Program} {w : World} {K : PySem.W.Frag} {mg : Str → Option Value} {base : Heap} {x : Str} {st : Stmt} {f : Addr} {fd : FuncData} {N : List Str} {p : Str} {k : Nat} {sp : Sp} (F : C8.Fun K x x st f fd) (S : FnScope N [p] (C8.fnScope st))
    (own : ∀ (cdv : Value) (A : Around) (outer : List Env) (s : Shared) (H : Hp) (v : V) (Q : VK), (A.deeper (envOfC x (C8.fnScope st) s.heap.objs.size f cdv)).guards = some [] → Room k (A.deeper (envOfC x (C8.fnScope st) s.heap.objs.size f cdv)) → sp [v] H Q C8.E0 →
      ∃ t, PSs (cxOf C8.CX0 P w K mg base N x (C8.fnScope st) f cdv A outer s H C8.E0).nox (C8.fnBody st) t ∧ t { nx := fun _ H' => Q .non H', rt := Q } (start N [v]) H) : FnG P w K mg base (k + 1) f fd p sp := by
  obtain ⟨oc, od, dV, kV, doc, pm, an, cdv, ct, osl, rfl, look, code⟩ := F.ex
  refine ⟨fun A outer s H u v Q gd room env0 bnd rel want => ?_⟩
  have inK : K.In s.heap := env0.mod.kin.keeps (fun b o e => (env0.bs b o e).1)
  have free : s.heap.NoLimit := env0.mod.nolimit.keeps (fun b o e => (env0.bs b o e).1)
  refine codeAny_call_function room.depth (inK _ _ look) rfl S.co S.gen rfl (PySem.W.codeRec_of inK code) (bnd _ _ _ _ ?_)
  refine wpAny_newFunctionEnv_cells S.kind ?_ ?_
  · intro y hy
    cases List.mem_singleton.mp hy
    exact (S.par p (by simp)).imp id fun q => ⟨q, PySem.W.cellsFrom_some _ _ _ (.inl q)⟩
  intro env he s1 came
  subst he
  obtain ⟨t, ht, hq⟩ := own cdv A outer s H v Q gd (room.deeper _) want
  refine ⟨free.keeps came.toInCall.keep, codeAny_func ?_⟩
  have I1 : Inv (cxOf C8.CX0 P w K mg base N x (C8.fnScope st) f cdv A outer s H C8.E0) [] (start N [v]) H s1 := inv_start (us := [u]) S room.hd env0 rfl (.cons rel .nil) came
  refine wpAny_mono (ht.nox.run [] s1 (start N [v]) H _ I1 hq) (fun fl s' ended => ?_) (fun e s' z => z)
  match fl, ended with
  | .ret _, ⟨v', σ', H', J, rv, q⟩ => exact ⟨v', H', J.os, J.bare, J.base, J.hok, rv, q⟩
  | .next, ⟨σ', H', J, q⟩ => exact ⟨.non, H', J.os, J.bare, J.base, J.hok, rfl, q⟩
  | .brk, ⟨_, _, _, q⟩ => exact q.elim
  | .cont, ⟨_, _, _, q⟩ => exact q.elim
/-- such a def by its name -/
structure CalG (P : Program) (w : World) (K : PySem.W.Frag) (mg : Str → Option Value) (base : Heap) (k : Nat) (x : Str) (sp : Sp) : Prop where
  ex : ∃ (f : Addr) (fd : FuncData) (p : Str), FnG P w K mg base k f fd p sp ∧ mg x = some (.ref f) ∧ PySem.W.keepIn K (.ref f) = true ∧ Binds K fd [p] []
section
variable {X : Cx} {k j : Nat} {x : Str} {sp : Sp} {p pos : Pos} {e : Expr} {te : TE}
theorem pe_cG (c : CalG X.prog X.w X.K X.mg X.base k x sp) (gd : X.A.guards = some []) (hr : Room j X.A) (hk : k ≤ j) (hg : Gl X x) (he : PE X e te) (one : ∀ vs H Q, sp vs H Q C8.E0 → vs.length = 1)
    (hdb : (x == ("__debug__" : Str)) = false := by decide) (hst : starEach (e :: []) X.env = (false, eval e X.env) :: starEach [] X.env := by rfl) (hpl : (backTo pos (starEach [] X.env)).any (·.1) = false := by rfl) :
    PE X (.Call (.Name x p) [e] [] pos) (tCall sp [] C8.E0 (tCons te tNil)) := by
  obtain ⟨f, fd, pn, F, hm, kp, hb⟩ := c.ex
  constructor
  intro pins s σ H Q J want
  refine wpAny_Call_Name_kw (ld_glob J hg hm (PySem.W.callWith_K (h₀ := X.base) J.ok.mod.kin kp (thn ((pa_cons he pa_nil hst).run pos pins s σ H _ J want) ?_) hst hpl) hdb)
  rintro us s1 ⟨vs, H1, J1, rel, q⟩
  refine ⟨J1.kIn, ?_⟩
  have l1 := one _ _ _ q
  rw [List.append_nil] at q l1
  match vs, rel, l1 with
  | [v], .cons rv .nil, _ =>
    refine wpAny_call (codeAny_mono (F.run X.A X.stack s1 H1 _ v Q gd (hr.mono hk) J1.env0 (by simpa using hb s1 [_] J1.kIn rfl) rv q) fun r s' hq => ?_)
    match r, hq with
    | .error _, hq => exact (show False from hq).elim
    | .ok (.ret _), hq => exact J1.after hq
    | .ok .next, hq => exact (show False from hq).elim
    | .ok .brk, hq => exact (show False from hq).elim
    | .ok .cont, hq => exact (show False from hq).elim
end
end UG


set_option Elab.async false
set_option linter.all false
set_option maxRecDepth 100000
set_option maxHeartbeats 4000000
/-! .. of several parameters -/
namespace UG
open PySem PySem.Spec PyProof.Rows L2
structure FnGs (P : Program) (w : World) (K : PySem.W.Frag) (mg : Str → Option Value) (base : Heap) (k : Nat) (f : Addr) (fd : FuncData) (ps : List Str) (sp : Sp) : Prop where
  len : ∀ vs H Q, sp vs H Q C8.E0 → vs.length = ps.length
  run : ∀ (A : Around) (outer : List Env) (s : Shared) (H : Hp) (us : List Value) (vs : List V) (Q : VK), A.guards = some [] → Room k A → Env0 P w K mg base A outer s H → BindsTo s fd ⟨us, []⟩ (ps.zip us) → Vals vs us → sp vs H Q C8.E0 →
    codeAny (model P w) A (.call (.ref f) ⟨us, []⟩) (CR C8.CX0 outer P w H s Q C8.E0) s
theorem fnGs {P : Program} {w : World} {K : PySem.W.Frag} {mg : Str → Option Value} {base : Heap} {x : Str} {st : Stmt} {f : Addr} {fd : FuncData} {N ps : List Str} {k : Nat} {sp : Sp} (F : C8.Fun K x x st f fd) (S : FnScope N ps (C8.fnScope st)) (len : ∀ vs H Q, sp vs H Q C8.E0 → vs.length = ps.length)
    (own : ∀ (cdv : Value) (A : Around) (outer : List Env) (s : Shared) (H : Hp) (vs : List V) (Q : VK), (A.deeper (envOfC x (C8.fnScope st) s.heap.objs.size f cdv)).guards = some [] → Room k (A.deeper (envOfC x (C8.fnScope st) s.heap.objs.size f cdv)) → sp vs H Q C8.E0 →
      ∃ t, PSs (cxOf C8.CX0 P w K mg base N x (C8.fnScope st) f cdv A outer s H C8.E0).nox (C8.fnBody st) t ∧ t { nx := fun _ H' => Q .non H', rt := Q } (start N vs) H) : FnGs P w K mg base (k + 1) f fd ps sp := by
  obtain ⟨oc, od, dV, kV, doc, pm, an, cdv, ct, osl, rfl, look, code⟩ := F.ex
  refine ⟨len, fun A outer s H us vs Q gd room env0 bnd rel want => ?_⟩
  have inK : K.In s.heap := env0.mod.kin.keeps (fun b o e => (env0.bs b o e).1)
  have free : s.heap.NoLimit := env0.mod.nolimit.keeps (fun b o e => (env0.bs b o e).1)
  refine codeAny_call_function room.depth (inK _ _ look) rfl S.co S.gen rfl (PySem.W.codeRec_of inK code) (bnd _ _ _ _ ?_)
  refine wpAny_newFunctionEnv_cells S.kind ?_ ?_
  · rintro ⟨n, v⟩ hy
    exact (S.par n (List.of_mem_zip hy).1).imp id fun q => ⟨q, PySem.W.cellsFrom_some _ _ _ (.inl q)⟩
  intro env he s1 came
  subst he
  obtain ⟨t, ht, hq⟩ := own cdv A outer s H vs Q gd (room.deeper _) want
  refine ⟨free.keeps came.toInCall.keep, codeAny_func ?_⟩
  have I1 : Inv (cxOf C8.CX0 P w K mg base N x (C8.fnScope st) f cdv A outer s H C8.E0) [] (start N vs) H s1 := inv_start S room.hd env0 (len _ _ _ want) rel came
  refine wpAny_mono (ht.nox.run [] s1 (start N vs) H _ I1 hq) (fun fl s' ended => ?_) (fun e s' z => z)
  match fl, ended with
  | .ret _, ⟨v', σ', H', J, rv, q⟩ => exact ⟨v', H', J.os, J.bare, J.base, J.hok, rv, q⟩
  | .next, ⟨σ', H', J, q⟩ => exact ⟨.non, H', J.os, J.bare, J.base, J.hok, rfl, q⟩
  | .brk, ⟨_, _, _, q⟩ => exact q.elim
  | .cont, ⟨_, _, _, q⟩ => exact q.elim
structure CalGs (P : Program) (w : World) (K : PySem.W.Frag) (mg : Str → Option Value) (base : Heap) (k : Nat) (x : Str) (sp : Sp) : Prop where
  ex : ∃ (f : Addr) (fd : FuncData) (ps : List Str), FnGs P w K mg base k f fd ps sp ∧ mg x = some (.ref f) ∧ PySem.W.keepIn K (.ref f) = true ∧ Binds K fd ps []
section
variable {X : Cx} {k j : Nat} {x : Str} {sp : Sp} {p pos : Pos} {e : Expr} {es : List Expr} {t : TA}
theorem pe_cGs (c : CalGs X.prog X.w X.K X.mg X.base k x sp) (gd : X.A.guards = some []) (hr : Room j X.A) (hk : k ≤ j) (hg : Gl X x) (ha : PA X (e :: es) t)
    (hdb : (x == ("__debug__" : Str)) = false := by decide) (hst : starEach (e :: es) X.env = (false, eval e X.env) :: starEach es X.env := by rfl) (hpl : (backTo pos (starEach es X.env)).any (·.1) = false := by rfl) :
    PE X (.Call (.Name x p) (e :: es) [] pos) (tCall sp [] C8.E0 t) := by
  obtain ⟨f, fd, ps, F, hm, kp, hb⟩ := c.ex
  constructor
  intro pins s σ H Q J want
  refine wpAny_Call_Name_kw (ld_glob J hg hm (PySem.W.callWith_K (h₀ := X.base) J.ok.mod.kin kp (thn (ha.run pos pins s σ H _ J want) ?_) hst hpl) hdb)
  rintro us s1 ⟨vs, H1, J1, rel, q⟩
  refine ⟨J1.kIn, ?_⟩
  rw [List.append_nil] at q
  have bnd := hb s1 us J1.kIn (by rw [List.append_nil, ← rel.length]; exact F.len _ _ _ q)
  rw [List.append_nil] at bnd
  refine wpAny_call (codeAny_mono (F.run X.A X.stack s1 H1 us vs Q gd (hr.mono hk) J1.env0 bnd rel q) fun r s' hq => ?_)
  match r, hq with
  | .error _, hq => exact (show False from hq).elim
  | .ok (.ret _), hq => exact J1.after hq
  | .ok .next, hq => exact (show False from hq).elim
  | .ok .brk, hq => exact (show False from hq).elim
  | .ok .cont, hq => exact (show False from hq).elim
end
end UG


set_option Elab.async false
set_option linter.all false
set_option maxRecDepth 100000
set_option maxHeartbeats 8000000
namespace K00
open PySem PySem.Spec PyProof.Rows L2
theorem look1 (n : Str) (v : V) : List.lookup n [(n, v)] = some v := by simp [List.lookup]
theorem cons_q {ta : TE} {tr : TA} {σ : L2.St} {H : Hp} {Q : List V → Hp → Prop} (h : ta σ H fun x H1 => tr σ H1 fun xs H2 => Q (x :: xs) H2) : tCons ta tr σ H Q := h
theorem lst_q {t : TA} {σ : L2.St} {H : Hp} {Q : VK} (h : t σ H fun xs H1 => xs.length ≤ sizeLine ∧ ∀ p, H1 p = none → Q (.ref p) (upd H1 p (.lst xs))) : tLst t σ H Q := h
theorem seq_q {te : TE} {i : Nat} {r : TS} {D : Ends} {σ : L2.St} {H : Hp} (h : te σ H fun x H1 => r D (σ.set i (some x)) H1) : tSeq (tAsg te (gName i)) r D σ H := h
theorem made_v {C : Addr} {attr : Str} {i : Nat} {v : V} {σ : L2.St} {H : Hp} {Q : VK} (e : σ[i]? = some (some v)) (q : ∀ H', Same H H' → Q v H') : UG.tMade C attr (tMkO C (UG.spSup C attr) [] (tCons (tVar i) tNil)) σ H Q :=
  ⟨v, e, (show 1 ≤ 1000 by decide), sup_ok (Q := fun cls d H1 => cls = .ref C ∧ ∃ (dd : Addr) (fs : List (Str × V)) (v : V), d = some dd ∧ H1 dd = some (.xd fs) ∧ fs.lookup attr = some v ∧ Q v H1) fun d2 H' s h => ⟨rfl, d2, _, v, rfl, h, look1 _ _, q H' s⟩⟩
theorem made_k {C : Addr} {attr : Str} {i : Nat} {v : V} {σ : L2.St} {H : Hp} {Q : VK} (e : σ[i]? = some (some v)) (q : ∀ H', Same H H' → Q v H') : UG.tMade C attr (UG.tMkK C (UG.spSup C attr) (tCons (tVar i) tNil)) σ H Q :=
  ⟨v, e, sup_ok (Q := fun cls d H1 => cls = .ref C ∧ ∃ (dd : Addr) (fs : List (Str × V)) (v : V), d = some dd ∧ H1 dd = some (.xd fs) ∧ fs.lookup attr = some v ∧ Q v H1) fun d2 H' s h => ⟨rfl, d2, _, v, rfl, h, look1 _ _, q H' s⟩⟩
structure Flds (K : PySem.W.Frag) (Cs : Nat → Addr) : Prop where
  x1 : XfC K (Cs 1)
  n1 : PySem.W.findIn K (.ref (Cs 1)) "what" = some none
  x2 : XfC K (Cs 2)
  n2 : PySem.W.findIn K (.ref (Cs 2)) "place" = some none
  x12 : XfC K (Cs 12)
  n12 : PySem.W.findIn K (.ref (Cs 12)) "name" = some none
  x13 : XfC K (Cs 13)
  n13 : PySem.W.findIn K (.ref (Cs 13)) "beginning" = some none
  x14 : XfC K (Cs 14)
  n14 : PySem.W.findIn K (.ref (Cs 14)) "index" = some none
/-- what can be shown -/
structure Shn (d : PyData) : Prop where
  fa : d.showable = true
  fb : d.hasDict = false
  fc : d.leavesShort 8 = true
  fd : d.bulk ≤ 1000
  fe : d.depth ≤ 20
theorem fields_ok {dt dst : PyData} {n : Int} {ti : Str} (t : Shn dt) (s : Shn dst) (i : Shn (.int n)) (j : Shn (.str ti)) : (PyData.list [dt, dt, .int n, .int n, .str ti, .str ti, dst, dst, .int n, .int n]).showable = true ∧ (PyData.list [dt, dt, .int n, .int n, .str ti, .str ti, dst, dst, .int n, .int n]).hasDict = false ∧ (PyData.list [dt, dt, .int n, .int n, .str ti, .str ti, dst, dst, .int n, .int n]).depth ≤ 60 ∧ (PyData.list [dt, dt, .int n, .int n, .str ti, .str ti, dst, dst, .int n, .int n]).shown.length ≤ sizeLine := by
  refine ⟨?_, ?_, ?_, PyData.shown_fits_bulk (B := 8) (by omega) (by omega) ?_ ?_⟩
  · simp only [PyData.showable, PyData.showableAll]
    have h1 := t.fa; have h2 := s.fa; have h3 := i.fa; have h4 := j.fa
    simp only [PyData.showable] at h3 h4
    simp [h1, h2, h3]
    try simpa [PyData.showable] using i.fa
  · simp only [PyData.hasDict, PyData.hasDictAll, t.fb, s.fb, Bool.or_self]
  · have h1 := t.fe; have h2 := s.fe; have h3 := i.fe; have h4 := j.fe
    simp only [PyData.depth, PyData.depthAll] at *
    omega
  · simp only [PyData.leavesShort, PyData.leavesShortAll]
    have h1 := t.fc; have h2 := s.fc; have h3 := i.fc; have h4 := j.fc
    simp only [PyData.leavesShort] at h3 h4
    rw [h1, h2, h3, h4]
    rfl
  · have h1 := t.fd; have h2 := s.fd; have h3 := i.fd; have h4 := j.fd
    simp only [PyData.bulk, PyData.bulkAll] at *
    omega
mutual
theorem dp2_extd {K : PySem.W.Frag} {H H' : Hp} (e : LamX.ExtN H H') : ∀ (d : PyData) {v : V}, L2.Dp K H v d → L2.Dp K H' v d
  | .none, _, h => by cases h; exact .non
  | .bool _, _, h => by cases h; exact .bl _
  | .int _, _, h => by cases h; exact .int _
  | .str _, _, h => by cases h; exact .str _
  | .list ds, _, h => by
    cases h with
    | lst hs ha => exact .lst (sq_ext e hs) (dps2_extd e ds ha)
  | .tuple ds, _, h => by
    cases h with
    | tup hs ha => exact .tup (sqt_ext e hs) (dps2_extd e ds ha)
  | .dict _, _, h => by cases h
theorem dps2_extd {K : PySem.W.Frag} {H H' : Hp} (e : LamX.ExtN H H') : ∀ (ds : List PyData) {vs : List V}, L2.DpAll K H vs ds → L2.DpAll K H' vs ds
  | [], _, h => by cases h; exact .nil
  | d :: ds, _, h => by
    cases h with
    | cons h1 h2 => exact .cons (dp2_extd e d h1) (dps2_extd e ds h2)
end
theorem dp2_ext {K : PySem.W.Frag} {H H' : Hp} (s : Same H H') {d : PyData} {v : V} (h : L2.Dp K H v d) : L2.Dp K H' v d := dp2_extd (same_ext s) d h
theorem all_dp {K : PySem.W.Frag} {H : Hp} {tv sv : V} {dt dst : PyData} {n : Int} {ti : Str} (t : L2.Dp K H tv dt) (s : L2.Dp K H sv dst) : L2.DpAll K H [tv, tv, .int n, .int n, .str ti, .str ti, sv, sv, .int n, .int n] [dt, dt, .int n, .int n, .str ti, .str ti, dst, dst, .int n, .int n] :=
  .cons t (.cons t (.cons (.int n) (.cons (.int n) (.cons (.str ti) (.cons (.str ti) (.cons s (.cons s (.cons (.int n) (.cons (.int n) .nil)))))))))
section
variable {X : Cx}
def rReprL (K : PySem.W.Frag) : List V → Hp → VK → Prop := fun zs H Q => ∃ (a : Addr) (d : PyData), zs = [.ref a] ∧ L2.Dp K H (.ref a) d ∧ d.showable = true ∧ d.hasDict = false ∧ d.depth ≤ 60 ∧ d.shown.length ≤ sizeLine ∧ Q (.str d.shown) H
theorem call_reprL (hg : X.A.guards = some []) (hu : X.A.units + 200 < cLine) : CallR X (.builtin "repr") (rReprL X.K) := by
  intro pins sh σ H zs us Q J rz hyp
  obtain ⟨a, d, rfl, hd, h1, h2, h3, h4, fin⟩ := hyp
  obtain ⟨u, rfl, ru⟩ := vals1 rz
  obtain ⟨as, rd⟩ := L2.Dp.reads J d _ u hd ru
  have eu : u = Value.ref a := ru
  subst eu
  refine repr_of_reads' rd h1 (fun z => by rw [h2] at z; cases z) hg (by omega) (fun _ _ e => e) (fun hh t tk keep => ?_) h4
  exact ⟨.str d.shown, H, J.kept (t' := tk) keep, ⟨t, rfl⟩, fin⟩
end
section
variable {P : Program} {w : World} {K : PySem.W.Frag} {mg : Str → Option Value} {base : Heap}
def spFR (K : PySem.W.Frag) : Sp := fun vs H Q _ => ∃ (tv sv : V) (dt dst : PyData) (n : Int) (ti : Str), vs = [tv, .int n, .str ti, sv] ∧ L2.Dp K H tv dt ∧ L2.Dp K H sv dst ∧ Shn dt ∧ Shn dst ∧ Shn (.int n) ∧ Shn (.str ti) ∧ ∀ H', Same H H' → Q (.bl true) H'
theorem sc__law_fields_right : FnScope ["trouble", "number", "title", "start", "told", "due"] ["trouble", "number", "title", "start"] (C8.fnScope (topS 61)) := C8.fnScope_by (by decide +kernel)
theorem ok__law_fields_right {Cs : Nat → Addr} {f : Addr} {fd : FuncData} (F : C8.Def K mg "_law_fields_right" (topS 61) f fd) (b : Binds K fd ["trouble", "number", "title", "start"] []) (B : Bl K mg) (R : Rs P w K mg base Cs) (Y : Flds K Cs) : UG.CalGs P w K mg base 4 "_law_fields_right" (spFR K) := by
  refine ⟨f, fd, _, UG.fnGs F.fn sc__law_fields_right ?len ?body, F.mgf, F.kp, b⟩
  case len => rintro vs H Q ⟨tv, sv, dt, dst, n, ti, rfl, _⟩; rfl
  case body =>
    rintro cdv A outer s H vs Q gd hr ⟨tv, sv, dt, dst, n, ti, rfl, ht0, hs0, okt, oks, okn, okti, q⟩
    refine ⟨_, (pss_cons (ps_set (i := 4) sc__law_fields_right.nd rfl (Or.inl rfl) (pe_lst (pa_cons (UG.pe_made Y.x1 Y.n1 (pmk_oex R.i1.T R.i1.iC R.i1.tI R.i1.F (hr.mono (by decide)) R.i1.b .nil C8.pass0 rfl R.i1.g (pa_cons (pv 0) pa_nil))) (pa_cons (UG.pe_made Y.x1 Y.n1 (UG.pmk_oexK R.i1.T R.i1.iC R.i1.tI R.i1.F (hr.mono (by decide)) R.i1.kb C8.pass0 rfl R.i1.g (pk_cons (pv 0) pk_nil))) (pa_cons (UG.pe_made Y.x2 Y.n2 (pmk_oex R.i2.T R.i2.iC R.i2.tI R.i2.F (hr.mono (by decide)) R.i2.b .nil C8.pass0 rfl R.i2.g (pa_cons (pv 1) pa_nil))) (pa_cons (UG.pe_made Y.x2 Y.n2 (UG.pmk_oexK R.i2.T R.i2.iC R.i2.tI R.i2.F (hr.mono (by decide)) R.i2.kb C8.pass0 rfl R.i2.g (pk_cons (pv 1) pk_nil))) pa_nil))))))
      (pss_cons (ps_set (i := 4) sc__law_fields_right.nd rfl (Or.inl rfl) (pe_op op_cat (pv 4) (pe_lst (pa_cons (UG.pe_made Y.x12 Y.n12 (pmk_oex R.i12.T R.i12.iC R.i12.tI R.i12.F (hr.mono (by decide)) R.i12.b .nil C8.pass0 rfl R.i12.g (pa_cons (pv 2) pa_nil))) (pa_cons (UG.pe_made Y.x12 Y.n12 (UG.pmk_oexK R.i12.T R.i12.iC R.i12.tI R.i12.F (hr.mono (by decide)) R.i12.kb C8.pass0 rfl R.i12.g (pk_cons (pv 2) pk_nil))) (pa_cons (UG.pe_made Y.x13 Y.n13 (pmk_oex R.i13.T R.i13.iC R.i13.tI R.i13.F (hr.mono (by decide)) R.i13.b .nil C8.pass0 rfl R.i13.g (pa_cons (pv 3) pa_nil))) (pa_cons (UG.pe_made Y.x13 Y.n13 (UG.pmk_oexK R.i13.T R.i13.iC R.i13.tI R.i13.F (hr.mono (by decide)) R.i13.kb C8.pass0 rfl R.i13.g (pk_cons (pv 3) pk_nil))) pa_nil)))))))
      (pss_cons (ps_set (i := 4) sc__law_fields_right.nd rfl (Or.inl rfl) (pe_op op_cat (pv 4) (pe_lst (pa_cons (UG.pe_made Y.x14 Y.n14 (pmk_oex R.i14.T R.i14.iC R.i14.tI R.i14.F (hr.mono (by decide)) R.i14.b .nil C8.pass0 rfl R.i14.g (pa_cons (pv 1) pa_nil))) (pa_cons (UG.pe_made Y.x14 Y.n14 (UG.pmk_oexK R.i14.T R.i14.iC R.i14.tI R.i14.F (hr.mono (by decide)) R.i14.kb C8.pass0 rfl R.i14.g (pk_cons (pv 1) pk_nil))) pa_nil)))))
      (pss_cons (ps_set (i := 5) sc__law_fields_right.nd rfl (Or.inl rfl) (pe_lst (pa_cons (pv 0) (pa_cons (pv 0) (pa_cons (pv 1) (pa_cons (pv 1) (pa_cons (pv 2) (pa_cons (pv 2) (pa_cons (pv 3) (pa_cons (pv 3) (pa_cons (pv 1) (pa_cons (pv 1) pa_nil))))))))))))
      (pss_one (ps_ret (pe_cmpR op_eq (pe_callB (call_reprL gd (UG.room_un hr)) rfl B.repr (by decide +kernel) (pa_cons (pv 4) pa_nil)) (pe_callB (call_reprL gd (UG.room_un hr)) rfl B.repr (by decide +kernel) (pa_cons (pv 5) pa_nil)) (nomark _)))))))), ?_⟩
    refine seq_q ?_
    refine lst_q ?_
    refine cons_q (made_v rfl fun H1 s1 => ?_)
    have S1 := (Same.refl H).trans s1
    refine cons_q (made_k rfl fun H2 s2 => ?_)
    have S2 := S1.trans s2
    refine cons_q (made_v rfl fun H3 s3 => ?_)
    have S3 := S2.trans s3
    refine cons_q (made_k rfl fun H4 s4 => ?_)
    have S4 := S3.trans s4
    refine ⟨(by show 4 ≤ sizeLine; decide), fun q0 hq0 => ?_⟩
    have r0 := same_new hq0 (.lst [tv, tv, .int n, .int n])
    have g0 : upd H4 q0 (.lst [tv, tv, .int n, .int n]) q0 = some (.lst [tv, tv, .int n, .int n]) := upd_same
    generalize upd H4 q0 (.lst [tv, tv, .int n, .int n]) = G0 at r0 g0
    have T0 := S4.trans r0
    refine seq_q ?_
    refine ⟨_, rfl, ?_⟩
    refine lst_q ?_
    refine cons_q (made_v rfl fun H5 s5 => ?_)
    have S5 := T0.trans s5
    have P5 := s5 _ _ g0
    refine cons_q (made_k rfl fun H6 s6 => ?_)
    have S6 := S5.trans s6
    have P6 := s6 _ _ P5
    refine cons_q (made_v rfl fun H7 s7 => ?_)
    have S7 := S6.trans s7
    have P7 := s7 _ _ P6
    refine cons_q (made_k rfl fun H8 s8 => ?_)
    have S8 := S7.trans s8
    have P8 := s8 _ _ P7
    refine ⟨(by show 4 ≤ sizeLine; decide), fun q1 hq1 => ?_⟩
    have r1 := same_new hq1 (.lst [.str ti, .str ti, sv, sv])
    have g1 : upd H8 q1 (.lst [.str ti, .str ti, sv, sv]) q1 = some (.lst [.str ti, .str ti, sv, sv]) := upd_same
    have g1' := r1 _ _ P8
    generalize upd H8 q1 (.lst [.str ti, .str ti, sv, sv]) = G1 at r1 g1 g1'
    have T1 := S8.trans r1
    refine ⟨q0, q1, [tv, tv, .int n, .int n], [.str ti, .str ti, sv, sv], rfl, rfl, g1', g1, (by show 8 ≤ sizeLine; decide), fun p1 hp1 => ?_⟩
    have s1' := T1.trans (same_new hp1 (.lst ([tv, tv, .int n, .int n] ++ [.str ti, .str ti, sv, sv])))
    have h1' : upd G1 p1 (.lst ([tv, tv, .int n, .int n] ++ [.str ti, .str ti, sv, sv])) p1 = some (.lst [tv, tv, .int n, .int n, .str ti, .str ti, sv, sv]) := upd_same
    generalize upd G1 p1 (.lst ([tv, tv, .int n, .int n] ++ [.str ti, .str ti, sv, sv])) = K1 at s1' h1'
    refine seq_q ?_
    refine ⟨_, rfl, ?_⟩
    refine lst_q ?_
    refine cons_q (made_v rfl fun H9 s9 => ?_)
    have S9 := s1'.trans s9
    have P9 := s9 _ _ h1'
    refine cons_q (made_k rfl fun H10 s10 => ?_)
    have S10 := S9.trans s10
    have P10 := s10 _ _ P9
    refine ⟨(by show 2 ≤ sizeLine; decide), fun q2 hq2 => ?_⟩
    have r2 := same_new hq2 (.lst [.int n, .int n])
    have g2 : upd H10 q2 (.lst [.int n, .int n]) q2 = some (.lst [.int n, .int n]) := upd_same
    have g2' := r2 _ _ P10
    generalize upd H10 q2 (.lst [.int n, .int n]) = G2 at r2 g2 g2'
    have T2 := S10.trans r2
    refine ⟨p1, q2, [tv, tv, .int n, .int n, .str ti, .str ti, sv, sv], [.int n, .int n], rfl, rfl, g2', g2, (by show 10 ≤ sizeLine; decide), fun p2 hp2 => ?_⟩
    have s2' := T2.trans (same_new hp2 (.lst ([tv, tv, .int n, .int n, .str ti, .str ti, sv, sv] ++ [.int n, .int n])))
    have h2' : upd G2 p2 (.lst ([tv, tv, .int n, .int n, .str ti, .str ti, sv, sv] ++ [.int n, .int n])) p2 = some (.lst [tv, tv, .int n, .int n, .str ti, .str ti, sv, sv, .int n, .int n]) := upd_same
    generalize upd G2 p2 (.lst ([tv, tv, .int n, .int n, .str ti, .str ti, sv, sv] ++ [.int n, .int n])) = K2 at s2' h2'
    refine ⟨_, rfl, _, rfl, _, rfl, _, rfl, _, rfl, _, rfl, _, rfl, _, rfl, _, rfl, _, rfl, (by show 10 ≤ sizeLine; decide), fun z hz => ?_⟩
    have sz := same_new hz (.lst [tv, tv, .int n, .int n, .str ti, .str ti, sv, sv, .int n, .int n])
    have hd : upd K2 z (.lst [tv, tv, .int n, .int n, .str ti, .str ti, sv, sv, .int n, .int n]) z = some (.lst [tv, tv, .int n, .int n, .str ti, .str ti, sv, sv, .int n, .int n]) := upd_same
    have ht := sz _ _ h2'
    have SZ := s2'.trans sz
    generalize upd K2 z (.lst [tv, tv, .int n, .int n, .str ti, .str ti, sv, sv, .int n, .int n]) = Z at sz hd ht SZ
    refine nm ?_
    have ad := all_dp (dp2_ext SZ ht0) (dp2_ext SZ hs0) (n := n) (ti := ti)
    obtain ⟨o1, o2, o3, o4⟩ := fields_ok okt oks okn okti
    refine ⟨_, rfl, _, _, rfl, .lst (SqL.of ht) ad, o1, o2, o3, o4, _, rfl, _, _, rfl, .lst (SqL.of hd) ad, o1, o2, o3, o4, rfl, ?_⟩
    rw [dec_str, decide_eq_true rfl]
    exact q Z SZ
end
end K00


set_option Elab.async false
set_option linter.all false
set_option maxRecDepth 100000
set_option maxHeartbeats 8000000
namespace K00
open PySem PySem.Spec PyProof.Rows L2
section
variable {P : Program} {w : World} {K : PySem.W.Frag} {mg : Str → Option Value} {base : Heap}
/-- where the reader is, a word stands that began there -/
def Here (K : PySem.W.Frag) (H : Hp) (xs : List V) (i : Nat) (w : Str) (n : Int) : Prop := ∃ wp, xs[i]? = some (.ref wp) ∧ SqT K H wp [.str w, .int n]
def spRf (K : PySem.W.Frag) (C BT : Addr) : Sp := fun vs H Q E => ∃ p F xs ts i d w n, vs = [.ref p] ∧ Rd K C H p F xs ts i d ∧ Here K H xs i w n ∧ ∀ dd H', Same H H' → H' dd = some (.xd [("place", .int n)]) → E (.ref BT) (some dd) H'
theorem sc_refuse : FnScope ["self"] ["self"] (C8.fnScope (inClass (topS 30) 2)) := C8.fnScope_by (by decide +kernel)
theorem okm_refuse {Cs : Nat → Addr} {C f : Addr} {fd : FuncData} (T : Txt K mg C) (me : Meth K C "refuse" f) (F : C8.Fun K "refuse" "Reader.refuse" (inClass (topS 30) 2) f fd) (b : Binds K fd ["self"] []) (R : Rs P w K mg base Cs) : UG.MetN P w K mg base 3 C "refuse" (spRf K C (Cs 2)) := by
  refine UG.metN T.cl me F b sc_refuse ?len ?body
  case len => rintro vs H Q E ⟨p, F, xs, ts, i, d, w, n, rfl, _⟩; rfl
  case body =>
    rintro cdv A outer s H vs Q E hr ⟨p, F, xs, ts, i, d, w, n, rfl, hR, ⟨wp, hx, hwp⟩, q⟩
    refine ⟨_, (pss_one (L2N.ps_raise rfl UG.takes_defN (UG.pmk_oexN R.i2.T R.i2.iC R.i2.tI R.i2.F (hr.mono (by decide)) R.i2.b C8.pass0 rfl R.i2.g (pa_cons (pe_ix ix_tup (pe_ix ix_list (pe_fld (pv 0) rfl) (pe_fld (pv 0) rfl) (fun _ _ => rfl)) pe_int (fun _ _ => rfl)) pa_nil)))), ?_⟩
    obtain ⟨dx, h1, h2, h3⟩ := hR
    exact ⟨_, rfl, p, C, dx, _, _, rfl, h1, T.cl, T.nW, rf_words _ _ _, _, rfl, p, C, dx, _, _, rfl, h1, T.cl, T.nA, rf_at _ _ _, F, xs, _, _, rfl, rfl, SqL.of h2, atI_nat hx, wp, _, _, _, rfl, rfl, hwp, at1 _ _ _, (show 1 ≤ 1000 by decide), sup_ok fun d2 H2 s2 e2 => q d2 H2 s2 e2⟩
def spTkB (K : PySem.W.Frag) (C BT : Addr) : Sp := fun vs H Q E => ∃ p F xs ts i d w n z, vs = [.ref p, .str z] ∧ Rd K C H p F xs ts i d ∧ ts[i]? = some w ∧ w ≠ z ∧ Here K H xs i w n ∧ ∀ dd H', Same H H' → H' dd = some (.xd [("place", .int n)]) → E (.ref BT) (some dd) H'
theorem okm_takeB {BT C f : Addr} {fd : FuncData} (T : Txt K mg C) (me : Meth K C "take" f) (F : C8.Fun K "take" "Reader.take" (inClass (topS 30) 3) f fd) (b : Binds K fd ["self", "wanted"] []) (B : Bl K mg) (c_word : C8.Met P w K mg base 1 C "word" (spWord K C) []) (c_refuse : UG.MetN P w K mg base 3 C "refuse" (spRf K C BT)) : UG.MetN P w K mg base 4 C "take" (spTkB K C BT) := by
  refine UG.metN T.cl me F b sc_take ?len ?body
  case len => rintro vs H Q E ⟨p, F, xs, ts, i, d, w, n, z, rfl, _⟩; rfl
  case body =>
    rintro cdv A outer s H vs Q E hr ⟨p, F, xs, ts, i, d, w, n, z, rfl, hR, hw, hne, hh, q⟩
    refine ⟨_, (pss_cons (ps_if (pt_cmpR op_ne (C8.pe_mt0 c_word hr (by decide) (pv 0)) (pv 1) (nomark _)) (pss_one (ps_expr (UG.pe_mtN0 c_refuse UG.pass_defN hr (by decide) (pv 0)))) pss_nil) pss_never), ?_⟩
    obtain ⟨dx, h1, h2, h3⟩ := id hR
    refine ⟨_, rfl, p, dx, _, rfl, h1, rf_no _ _ _ (by decide +kernel) (by decide +kernel) (by decide +kernel), p, F, xs, ts, i, d, w, rfl, hR, hw, _, rfl, rfl, _, rfl, ?_⟩
    rw [dec_str, decide_eq_false hne]
    refine iteT ?_
    exact ⟨_, rfl, p, dx, _, rfl, h1, rf_no _ _ _ (by decide +kernel) (by decide +kernel) (by decide +kernel), p, F, xs, ts, i, d, w, n, rfl, hR, hh, q⟩
end
end K00


set_option Elab.async false
set_option linter.all false
set_option maxRecDepth 100000
set_option maxHeartbeats 8000000
namespace K00
open PySem PySem.Spec PyProof.Rows L2
theorem Here.tk {K : PySem.W.Frag} {H H' : Hp} {xs : List V} {i : Nat} {w : Str} {n : Int} (h : Here K H xs i w n) (t : Tk H H') : Here K H' xs i w n := let ⟨wp, a, b⟩ := h; ⟨wp, a, t.sqt b⟩
section
variable {P : Program} {w : World} {K : PySem.W.Frag} {mg : Str → Option Value} {base : Heap}
/-- a statement without bodies is passed; the word "or" is refused -/
def spStN (K : PySem.W.Frag) (C : Addr) (Ts : List Addr) (BT : Addr) : Sp := fun vs H Q E => ∃ p F xs ts i d, vs = [.ref p] ∧ Tbs Ts H ∧ Rd K C H p F xs ts i d ∧
  ((∃ st r AL BN, St.isO st = false ∧ ts.drop i = st.tk ++ r ∧ st.ok AL BN false ∧ Nok AL ∧ Nok BN ∧ ∀ H' v, Rd K C H' p F xs ts (i + st.tk.length) d → Dp K H' v st.d → RG Ts p H H' → Q v H') ∨
   (∃ n, ts[i]? = some "or" ∧ Here K H xs i "or" n ∧ ∀ dd H', RG Ts p H H' → H' dd = some (.xd [("place", .int n)]) → E (.ref BT) (some dd) H'))
theorem okm_statementN {Ts : List Addr} {BT C f : Addr} {fd : FuncData} (T : Txt K mg C) (me : Meth K C "statement" f) (F : C8.Fun K "statement" "Reader.statement" (inClass (topS 30) 8) f fd) (b : Binds K fd ["self"] []) (B : Bl K mg) (c_word : C8.Met P w K mg base 1 C "word" (spWord K C) []) (c_plain : C8.Met P w K mg base 6 C "plain" (spPl K C Ts) []) (c_takeB : UG.MetN P w K mg base 4 C "take" (spTkB K C BT)) : UG.MetN P w K mg base 7 C "statement" (spStN K C Ts BT) := by
  refine UG.metN T.cl me F b sc_statement ?len ?body
  case len => rintro vs H Q E ⟨p, F, xs, ts, i, d, rfl, _⟩; rfl
  case body =>
    rintro cdv A outer s H vs Q E hr ⟨p, F, xs, ts, i, d, rfl, hT, hR, hc⟩
    refine ⟨_, (pss_cons (ps_set (i := 1) sc_statement.nd rfl (Or.inl rfl) (C8.pe_mt0 c_word hr (by omega) (pv 0)))
    (pss_cons (ps_if (pt_cmpR op_in_seq (pv 1) (pe_tup (pa_cons pe_str (pa_cons pe_str (pa_cons pe_str (pa_cons pe_str pa_nil))))) (by with_unfolding_all rfl)) (pss_one (ps_ret (C8.pe_mt c_plain hr (by omega) (pv 0) (pa_cons (pv 1) pa_nil)))) pss_nil)
    (pss_cons (ps_if (pt_cmpR op_eq (pv 1) pe_str (nomark _)) pss_never pss_nil)
    (pss_cons (ps_if (pt_cmpR op_eq (pv 1) pe_str (nomark _)) pss_never pss_nil)
    (pss_cons (ps_expr (UG.pe_mtN c_takeB UG.pass_defN hr (by omega) (pv 0) (pa_cons pe_str pa_nil)))
    pss_never))))), ?_⟩
    obtain ⟨dx, h1, _⟩ := id hR
    obtain ⟨wd, g1, hcase⟩ : ∃ wd : Str, ts[i]? = some wd ∧ (wd = "or" ∨ ∃ st r, St.isO st = false ∧ ts.drop i = st.tk ++ r ∧ wd = st.w) := by
      rcases hc with ⟨st, r, AL, BN, h, hdr, _⟩ | ⟨n, h, _⟩
      · obtain ⟨tr, etr⟩ := tk_head st
        have h0 := hdr
        rw [etr, List.cons_append] at h0
        exact ⟨st.w, (drop_get h0).1, .inr ⟨st, r, h, hdr, rfl⟩⟩
      · exact ⟨_, h, .inl rfl⟩
    refine ⟨_, rfl, p, dx, _, rfl, h1, rf_no _ _ _ (by decide +kernel) (by decide +kernel) (by decide +kernel), p, F, xs, ts, i, d, wd, rfl, hR, g1, ?_⟩
    refine ⟨_, rfl, (by show 4 ≤ sizeLine; decide), fun z hz => ⟨z, _, rfl, .inr (SqT.of upd_same), rfl, rfl, _, rfl, ?_⟩⟩
    have sz := same_new hz (.tup [.str "do", .str "undo", .str "call", .str "return"])
    have R2 := hR.same sz
    have hT2 := hT.same sz
    have G2 := RG.same (p := p) hT sz
    have tk2 := G2.tk
    generalize upd H z (.tup [.str "do", .str "undo", .str "call", .str "return"]) = H2 at sz R2 hT2 G2 tk2
    obtain ⟨dx2, k2, _⟩ := id R2
    rcases hc with ⟨st, r, AL, BN, hio, hdr, hok, hA, hB, q⟩ | ⟨n, hw, hh, q⟩
    · have ew : wd = st.w := by
        obtain ⟨tr, etr⟩ := tk_head st
        have h0 := hdr
        rw [etr, List.cons_append] at h0
        exact Option.some.inj (g1.symm.trans (drop_get h0).1)
      subst ew
      cases st with
      | dd x =>
        refine ifT (by simp only [St.w]; first | decide +kernel | exact decide_eq_false (by decide +kernel)) ⟨_, rfl, p, dx2, _, rfl, k2, rf_no _ _ _ (by decide +kernel) (by decide +kernel) (by decide +kernel), _, rfl, p, F, xs, ts, i, d, .dd x, r, AL, BN, rfl, hT2, R2, rfl, hdr, hok, hA, hB, fun H3 v R3 dv G3 => ?_⟩
        exact q _ v R3 dv (G2.trans G3)
      | ud x =>
        refine ifT (by simp only [St.w]; first | decide +kernel | exact decide_eq_false (by decide +kernel)) ⟨_, rfl, p, dx2, _, rfl, k2, rf_no _ _ _ (by decide +kernel) (by decide +kernel) (by decide +kernel), _, rfl, p, F, xs, ts, i, d, .ud x, r, AL, BN, rfl, hT2, R2, rfl, hdr, hok, hA, hB, fun H3 v R3 dv G3 => ?_⟩
        exact q _ v R3 dv (G2.trans G3)
      | cl x =>
        refine ifT (by simp only [St.w]; first | decide +kernel | exact decide_eq_false (by decide +kernel)) ⟨_, rfl, p, dx2, _, rfl, k2, rf_no _ _ _ (by decide +kernel) (by decide +kernel) (by decide +kernel), _, rfl, p, F, xs, ts, i, d, .cl x, r, AL, BN, rfl, hT2, R2, rfl, hdr, hok, hA, hB, fun H3 v R3 dv G3 => ?_⟩
        exact q _ v R3 dv (G2.trans G3)
      | rt =>
        refine ifT (by simp only [St.w]; first | decide +kernel | exact decide_eq_false (by decide +kernel)) ⟨_, rfl, p, dx2, _, rfl, k2, rf_no _ _ _ (by decide +kernel) (by decide +kernel) (by decide +kernel), _, rfl, p, F, xs, ts, i, d, .rt, r, AL, BN, rfl, hT2, R2, rfl, hdr, hok, hA, hB, fun H3 v R3 dv G3 => ?_⟩
        exact q _ v R3 dv (G2.trans G3)
      | ch bs => cases hio
      | lp b => cases hio
      | en b c => cases hio
    · have ew : wd = "or" := Option.some.inj (g1.symm.trans hw)
      subst ew
      refine ifF (by first | decide +kernel | exact decide_eq_false (by decide +kernel)) ?_
      refine ⟨_, rfl, rfl, _, rfl, ?_⟩
      rw [dec_str]
      refine ifF (by first | decide +kernel | exact decide_eq_false (by decide +kernel)) ?_
      refine ⟨_, rfl, rfl, _, rfl, ?_⟩
      rw [dec_str]
      refine ifF (by first | decide +kernel | exact decide_eq_false (by decide +kernel)) ?_
      exact ⟨_, rfl, p, dx2, _, rfl, k2, rf_no _ _ _ (by decide +kernel) (by decide +kernel) (by decide +kernel), p, F, xs, ts, i, d, _, n, _, rfl, R2, hw, (by decide +kernel), hh.tk tk2, fun dd H' s' e' => q dd H' (G2.trans (RG.same hT2 s')) e'⟩
end
end K00


set_option Elab.async false
set_option linter.all false
set_option maxRecDepth 100000
set_option maxHeartbeats 8000000
namespace K00
open PySem PySem.Spec PyProof.Rows L2
def orw : Str := "or"
section
variable {P : Program} {w : World} {K : PySem.W.Frag} {mg : Str → Option Value} {base : Heap}
theorem own_defN {N : List Str} {qual : Str} {sc : Scope} {f : Addr} {cd : Value} {A : Around} {outer : List Env} {s : Shared} {H : Hp} {E : XK} : PassesOwn (model P w) (UG.defN P w K mg base N qual sc f cd A outer s H E).A (UG.defN P w K mg base N qual sc f cd A outer s H E).env (UG.defN P w K mg base N qual sc f cd A outer s H E).xe :=
  passes_of (X := UG.defN P w K mg base N qual sc f cd A outer s H E) rfl
/-- a body whose statements end before an "or" is refused there -/
def spBdN (K : PySem.W.Frag) (C : Addr) (Ts : List Addr) (BT : Addr) : Sp := fun vs H Q E => ∃ p F xs ts i d b r AL BN n, vs = [.ref p] ∧ Tbs Ts H ∧ Rd K C H p F xs ts i d ∧ d < 39 ∧ List.length b ≤ 900 ∧ ts.drop i = obr :: (tks b ++ (orw :: r)) ∧ (∀ st ∈ b, St.isO st = false ∧ st.ok AL BN false) ∧ Nok AL ∧ Nok BN ∧ Here K H xs (i + 1 + (tks b).length) orw n ∧
  ∀ dd H', RG Ts p H H' → H' dd = some (.xd [("place", .int n)]) → E (.ref BT) (some dd) H'
theorem okm_bodyN {Ts : List Addr} {BT C f : Addr} {fd : FuncData} (T : Txt K mg C) (me : Meth K C "body" f) (F : C8.Fun K "body" "Reader.body" (inClass (topS 30) 7) f fd) (b : Binds K fd ["self"] []) (B : Bl K mg) (c_word : C8.Met P w K mg base 1 C "word" (spWord K C) []) (c_take : C8.Met P w K mg base 2 C "take" (spTake K C) []) (c_statement : UG.MetN P w K mg base 7 C "statement" (spStN K C Ts BT)) : UG.MetN P w K mg base 8 C "body" (spBdN K C Ts BT) := by
  refine UG.metN T.cl me F b sc_body ?len ?body
  case len => rintro vs H Q E ⟨p, F, xs, ts, i, d, b, r, AL, BN, n, rfl, _⟩; rfl
  case body =>
    rintro cdv A outer s H vs Q E hr ⟨p, F, xs, ts, i, d, b, r, AL, BN, n, rfl, hT, hR, hd, hbn, hdr, hok, hA, hB, hh, q⟩
    refine ⟨_, (pss_cons (ps_if (pt_cmpR op_eq (pe_fld (pv 0) rfl) (pe_glob (v := .int 39) rfl B.MOST_OPEN.choose_spec ⟨_, rfl⟩) (nomark _)) pss_never pss_nil)
    (pss_cons (ps_expr (C8.pe_mt c_take hr (by omega) (pv 0) (pa_cons pe_str pa_nil)))
    (pss_cons (ps_fldaug (pv 0) pe_int in_add)
    (pss_cons (ps_set (i := 1) sc_body.nd rfl (Or.inl rfl) (pe_lst pa_nil))
    (pss_cons (ps_while own_defN (pt_cmpR op_ne (C8.pe_mt0 c_word hr (by omega) (pv 0)) pe_str (nomark _)) (pss_one (ps_expr (pe_bm PySem.F.plainAttrs_list PySem.F.slot_list_append PySem.F.type_list_append mt_append (pv 1) (pa_cons (UG.pe_mtN0 c_statement UG.pass_defN hr (by omega) (pv 0)) pa_nil)))))
    pss_never))))), ?_⟩
    obtain ⟨dx, h1, _⟩ := id hR
    refine ⟨_, rfl, p, C, dx, _, _, rfl, h1, T.cl, T.nD, rf_depth _ _ _, rfl, _, rfl, ?_⟩
    rw [dec_int, show decide ((d : Int) = 39) = false from decide_eq_false (by omega)]
    refine iteF ?_
    obtain ⟨g1, g2⟩ := drop_get hdr
    refine ⟨_, rfl, p, dx, _, rfl, h1, rf_no _ _ _ (by decide +kernel) (by decide +kernel) (by decide +kernel), p, F, xs, ts, i, d, obr, rfl, hR, g1, fun H1 R1 G1 => ?_⟩
    have G1 := G1 Ts hT
    obtain ⟨dx1, m1, m2, m3⟩ := id R1
    refine ⟨_, rfl, p, C, dx1, _, _, rfl, m1, T.cl, T.nD, rf_depth _ _ _, _, _, rfl, rfl, dx1, _, m1, (by show 3 < 1000; decide), ?_⟩
    rw [rf_put_depth]
    have tA := Tk.putI m1 (.ins C dx1 (rf F ((i + 1 : Nat) : Int) ((d : Int) + 1)))
    have R2 : Rd K C (upd H1 p (.ins C dx1 (rf F ((i + 1 : Nat) : Int) ((d : Int) + 1)))) p F xs ts (i + 1) (d + 1) := ⟨dx1, by rw [upd_same]; rfl, by rw [upd_ne (fun z => by rw [z, m1] at m2; cases m2)]; exact m2, m3.same tA⟩
    have G2 : RG Ts p H (upd H1 p (.ins C dx1 (rf F ((i + 1 : Nat) : Int) ((d : Int) + 1)))) := G1.trans ⟨tbs_upd G1.t m1 (fun ps z => by cases z), Kp.put _ (by simp), tA⟩
    generalize upd H1 p (.ins C dx1 (rf F ((i + 1 : Nat) : Int) ((d : Int) + 1))) = H2 at R2 G2
    refine ⟨(by show 0 ≤ sizeLine; decide), fun D hD => ?_⟩
    have nD := R2.not_tab G2.t hD
    have hDn : H D = none := G2.k.none nD hD
    have nDF : D ≠ F := fun z => by obtain ⟨_, _, z2, _⟩ := id R2; rw [← z, hD] at z2; cases z2
    have sD := same_new hD (.lst [])
    refine ⟨fun m σ' H' => ∃ j vs, m = b.length - j ∧ j ≤ b.length ∧ σ' = [some (.ref p), some (.ref D)] ∧ Rd K C H' p F xs ts (i + 1 + (tks (b.take j)).length) (d + 1) ∧ ts.drop (i + 1 + (tks (b.take j)).length) = tks (b.drop j) ++ (orw :: r) ∧ H' D = some (.lst vs) ∧ DpAll K H' vs (ds (b.take j)) ∧ RG Ts p H H', ⟨_, 0, [], rfl, Nat.zero_le _, rfl, R2.same sD, g2, upd_same, .nil, G2.trans (RG.same G2.t sD)⟩, ?_⟩
    rintro m _ H3 ⟨j, vs, rfl, hj, rfl, R3, hdr3, hD3, hv3, G3⟩
    obtain ⟨dx3, k1, _⟩ := id R3
    by_cases hjl : j < b.length
    · have hs := List.getElem?_eq_getElem hjl
      generalize b[j] = st at hs
      have hsm : st ∈ b := List.mem_of_getElem? hs
      obtain ⟨tr, etr⟩ := tk_head st
      have htd := tks_drop hs
      rw [htd, List.append_assoc] at hdr3
      have hdr4 := hdr3
      rw [etr, List.cons_append] at hdr4
      obtain ⟨g5, _⟩ := drop_get hdr4
      refine ⟨_, rfl, p, dx3, _, rfl, k1, rf_no _ _ _ (by decide +kernel) (by decide +kernel) (by decide +kernel), p, F, xs, ts, _, d + 1, st.w, rfl, R3, g5, rfl, _, rfl, ?_⟩
      rw [dec_str]
      refine ifT (by have := (w_not st).2; unfold cbr at this; simpa using this) ?_
      have htt := tks_take hs
      refine ⟨fun σ' H' => ∃ vs, σ' = [some (.ref p), some (.ref D)] ∧ Rd K C H' p F xs ts (i + 1 + (tks (b.take (j + 1))).length) (d + 1) ∧ ts.drop (i + 1 + (tks (b.take (j + 1))).length) = tks (b.drop (j + 1)) ++ (orw :: r) ∧ H' D = some (.lst vs) ∧ DpAll K H' vs (ds (b.take (j + 1))) ∧ RG Ts p H H', fun σ' H' ⟨vs, e⟩ => ⟨b.length - (j + 1), by omega, j + 1, vs, rfl, by omega, e⟩, ?_⟩
      refine ⟨_, rfl, .inl ⟨rfl, _, SqL.of hD3⟩, _, rfl, p, dx3, _, rfl, k1, rf_no _ _ _ (by decide +kernel) (by decide +kernel) (by decide +kernel), p, F, xs, ts, _, d + 1, rfl, G3.t, R3, .inl ⟨st, tks (b.drop (j + 1)) ++ (orw :: r), AL, BN, (hok st hsm).1, hdr3, (hok st hsm).2, hA, hB, fun H4 v R4 dv G4 => ?_⟩⟩
      have hD4 := G4.k _ _ nD hD3
      have hvl := dps_len hv3
      rw [ds_len, List.length_take] at hvl
      refine ⟨D, _, _, rfl, rfl, hD4, Nat.lt_of_le_of_lt (show vs.length ≤ 1000 by omega) (by decide), ?_⟩
      have tU := Tk.put hD4 (.lst (vs ++ [v]))
      refine ⟨vs ++ [v], rfl, ?_, ?_, upd_same, ?_, (G3.trans G4).put hDn hD4 _⟩
      · rw [htt, List.length_append, ← Nat.add_assoc]
        exact R4.other hD4 nDF _
      · rw [htt, List.length_append, ← Nat.add_assoc]
        exact drop_app hdr3
      · rw [List.take_succ, hs]
        show DpAll K _ _ (ds (b.take j ++ [st]))
        rw [ds_app]
        exact dps_app ((G4.tk.trans tU).dps _ (tup_ds _) hv3) (.cons (tU.dp _ (tup_St st) dv) .nil)
    · have ej : j = b.length := by omega
      subst ej
      rw [List.take_length] at R3 hdr3 hv3
      rw [List.drop_length] at hdr3
      obtain ⟨g5, g6⟩ := drop_get (show ts.drop _ = orw :: r from hdr3)
      refine ⟨_, rfl, p, dx3, _, rfl, k1, rf_no _ _ _ (by decide +kernel) (by decide +kernel) (by decide +kernel), p, F, xs, ts, _, d + 1, orw, rfl, R3, g5, rfl, _, rfl, ?_⟩
      rw [dec_str]
      refine ifT (by decide +kernel) ?_
      refine ⟨fun _ _ => False, fun _ _ h => h.elim, ?_⟩
      exact ⟨_, rfl, .inl ⟨rfl, _, SqL.of hD3⟩, _, rfl, p, dx3, _, rfl, k1, rf_no _ _ _ (by decide +kernel) (by decide +kernel) (by decide +kernel), p, F, xs, ts, _, d + 1, rfl, G3.t, R3, .inr ⟨n, g5, hh.tk G3.tk, fun dd H' g e => q dd H' (G3.trans g) e⟩⟩
end
end K00


set_option Elab.async false
set_option linter.all false
set_option maxRecDepth 100000
set_option maxHeartbeats 8000000
namespace K00
open PySem PySem.Spec PyProof.Rows L2
section
variable {P : Program} {w : World} {K : PySem.W.Frag} {mg : Str → Option Value} {base : Heap}
/-- a procedure whose body's statements end before an "or" is refused there -/
def spPrN (K : PySem.W.Frag) (C : Addr) (Ts : List Addr) (BT : Addr) : Sp := fun vs H Q E => ∃ p F xs ts i nm b r AL BN n, vs = [.ref p] ∧ Tbs Ts H ∧ Rd K C H p F xs ts i 0 ∧ List.length b ≤ 900 ∧ ts.drop i = ("proc" : Str) :: nm :: obr :: (tks b ++ (orw :: r)) ∧ nameB nm = true ∧ (∀ st ∈ b, St.isO st = false ∧ st.ok AL BN false) ∧ Nok AL ∧ Nok BN ∧ Here K H xs (i + 1 + 1 + 1 + (tks b).length) orw n ∧
  ∀ dd H', RG Ts p H H' → H' dd = some (.xd [("place", .int n)]) → E (.ref BT) (some dd) H'
theorem sc_procedure : FnScope ["self", "name"] ["self"] (C8.fnScope (inClass (topS 30) 6)) := C8.fnScope_by (by decide +kernel)
theorem okm_procedureN {Ts : List Addr} {BT C f : Addr} {fd : FuncData} (T : Txt K mg C) (me : Meth K C "procedure" f) (F : C8.Fun K "procedure" "Reader.procedure" (inClass (topS 30) 6) f fd) (b : Binds K fd ["self"] []) (B : Bl K mg) (c_take : C8.Met P w K mg base 2 C "take" (spTake K C) []) (c_take_name : C8.Met P w K mg base 5 C "take_name" (spTN K C Ts) []) (c_body : UG.MetN P w K mg base 8 C "body" (spBdN K C Ts BT)) : UG.MetN P w K mg base 9 C "procedure" (spPrN K C Ts BT) := by
  refine UG.metN T.cl me F b sc_procedure ?len ?body
  case len => rintro vs H Q E ⟨p, F, xs, ts, i, nm, b, r, AL, BN, n, rfl, _⟩; rfl
  case body =>
    rintro cdv A outer s H vs Q E hr ⟨p, F, xs, ts, i, nm, b, r, AL, BN, n, rfl, hT, hR, hn, hdr, hnm, hok, hA, hB, hh, q⟩
    refine ⟨_, (pss_cons (ps_expr (C8.pe_mt c_take hr (by decide) (pv 0) (pa_cons pe_str pa_nil)))
    (pss_cons (ps_set (i := 1) sc_procedure.nd rfl (Or.inl rfl) (C8.pe_mt0 c_take_name hr (by decide) (pv 0)))
    (pss_one (ps_ret (pe_tup (pa_cons (pv 1) (pa_cons (UG.pe_mtN0 c_body UG.pass_defN hr (by decide) (pv 0)) pa_nil))))))), ?_⟩
    obtain ⟨dx, h1, _⟩ := id hR
    obtain ⟨g1, g2⟩ := drop_get hdr
    refine ⟨_, rfl, p, dx, _, rfl, h1, rf_no _ _ _ (by decide +kernel) (by decide +kernel) (by decide +kernel), p, F, xs, ts, i, 0, "proc", rfl, hR, g1, fun H1 R1 G1 => ?_⟩
    have G1 := G1 Ts hT
    obtain ⟨dx1, m1, _⟩ := id R1
    obtain ⟨g3, g4⟩ := drop_get g2
    refine ⟨_, rfl, p, dx1, _, rfl, m1, rf_no _ _ _ (by decide +kernel) (by decide +kernel) (by decide +kernel), p, F, xs, ts, i + 1, 0, nm, rfl, G1.t, R1, g3, hnm, fun H2 R2 G2 => ?_⟩
    obtain ⟨dx2, m2, _⟩ := id R2
    have G12 := G1.trans G2
    exact ⟨_, rfl, _, rfl, p, dx2, _, rfl, m2, rf_no _ _ _ (by decide +kernel) (by decide +kernel) (by decide +kernel), p, F, xs, ts, i + 1 + 1, 0, b, r, AL, BN, n, rfl, G2.t, R2, by decide, hn, g4, hok, hA, hB, hh.tk G12.tk, fun dd H' g e => q dd H' (G12.trans g) e⟩
/-- a whole of one letter and one such procedure is refused -/
def spWhN (K : PySem.W.Frag) (C : Addr) (Ts : List Addr) (BT : Addr) : Sp := fun vs H Q E => ∃ p F xs ts x nm b r AL BN n, vs = [.ref p] ∧ Tbs Ts H ∧ Rd K C H p F xs ts 0 0 ∧ List.length b ≤ 900 ∧ ts = ("letters" : Str) :: x :: smc :: ("proc" : Str) :: nm :: obr :: (tks b ++ (orw :: r)) ∧ nameB x = true ∧ nameB nm = true ∧ (∀ st ∈ b, St.isO st = false ∧ st.ok AL BN false) ∧ Nok AL ∧ Nok BN ∧ Here K H xs (6 + (tks b).length) orw n ∧
  ∀ dd H', RG Ts p H H' → H' dd = some (.xd [("place", .int n)]) → E (.ref BT) (some dd) H'
theorem sc_whole : FnScope ["self", "letters", "procedures"] ["self"] (C8.fnScope (inClass (topS 30) 5)) := C8.fnScope_by (by decide +kernel)
theorem okm_wholeN {Ts : List Addr} {BT C f : Addr} {fd : FuncData} (T : Txt K mg C) (me : Meth K C "whole" f) (F : C8.Fun K "whole" "Reader.whole" (inClass (topS 30) 5) f fd) (b : Binds K fd ["self"] []) (B : Bl K mg) (c_word : C8.Met P w K mg base 1 C "word" (spWord K C) []) (c_take : C8.Met P w K mg base 2 C "take" (spTake K C) []) (c_take_name : C8.Met P w K mg base 5 C "take_name" (spTN K C Ts) []) (c_procedure : UG.MetN P w K mg base 9 C "procedure" (spPrN K C Ts BT)) : UG.MetN P w K mg base 10 C "whole" (spWhN K C Ts BT) := by
  refine UG.metN T.cl me F b sc_whole ?len ?body
  case len => rintro vs H Q E ⟨p, F, xs, ts, x, nm, b, r, AL, BN, n, rfl, _⟩; rfl
  case body =>
    rintro cdv A outer s H vs Q E hr ⟨p, F, xs, ts, x, nm, b, r, AL, BN, n, rfl, hT, hR, hn, hdr, hx, hnm, hok, hA, hB, hh, q⟩
    refine ⟨_, (pss_cons (ps_expr (C8.pe_mt c_take hr (by decide) (pv 0) (pa_cons pe_str pa_nil)))
    (pss_cons (ps_set (i := 1) sc_whole.nd rfl (Or.inl rfl) (pe_lst (pa_cons (C8.pe_mt0 c_take_name hr (by decide) (pv 0)) pa_nil)))
    (pss_cons (ps_while own_defN (pt_cmpR op_ne (C8.pe_mt0 c_word hr (by decide) (pv 0)) pe_str (nomark _)) pss_never)
    (pss_cons (ps_expr (C8.pe_mt c_take hr (by decide) (pv 0) (pa_cons pe_str pa_nil)))
    (pss_cons (ps_set (i := 2) sc_whole.nd rfl (Or.inl rfl) (pe_lst (pa_cons (UG.pe_mtN0 c_procedure UG.pass_defN hr (by decide) (pv 0)) pa_nil)))
    pss_never))))), ?_⟩
    obtain ⟨dx, h1, _⟩ := id hR
    obtain ⟨g1, g2⟩ := drop_get (show ts.drop 0 = _ from hdr)
    refine ⟨_, rfl, p, dx, _, rfl, h1, rf_no _ _ _ (by decide +kernel) (by decide +kernel) (by decide +kernel), p, F, xs, ts, 0, 0, "letters", rfl, hR, g1, fun H1 R1 G1 => ?_⟩
    have G1 := G1 Ts hT
    obtain ⟨dx1, m1, _⟩ := id R1
    obtain ⟨g3, g4⟩ := drop_get g2
    refine ⟨_, rfl, p, dx1, _, rfl, m1, rf_no _ _ _ (by decide +kernel) (by decide +kernel) (by decide +kernel), p, F, xs, ts, 0 + 1, 0, x, rfl, G1.t, R1, g3, hx, fun H2 R2 G2 => ⟨(by show 1 ≤ sizeLine; decide), fun D hD => ?_⟩⟩
    have G12 := G1.trans G2
    have sD := same_new hD (.lst [.str x])
    have R3 := R2.same sD
    have G3 := G12.trans (RG.same G12.t sD)
    generalize upd H2 D (.lst [.str x]) = H3 at R3 G3
    refine ⟨fun m σ' H' => σ' = [some (.ref p), some (.ref D), none] ∧ H' = H3, ⟨0, rfl, rfl⟩, ?_⟩
    rintro m _ _ ⟨rfl, rfl⟩
    obtain ⟨dx3, m3, _⟩ := id R3
    obtain ⟨g5, g6⟩ := drop_get g4
    refine ⟨_, rfl, p, dx3, _, rfl, m3, rf_no _ _ _ (by decide +kernel) (by decide +kernel) (by decide +kernel), p, F, xs, ts, _, 0, smc, rfl, R3, g5, rfl, _, rfl, ?_⟩
    rw [dec_str]
    refine ifF (by decide +kernel) ?_
    refine ⟨_, rfl, p, dx3, _, rfl, m3, rf_no _ _ _ (by decide +kernel) (by decide +kernel) (by decide +kernel), p, F, xs, ts, _, 0, smc, rfl, R3, g5, fun H4 R4 G4 => ?_⟩
    have G4 := G3.trans (G4 Ts G3.t)
    obtain ⟨dx4, m4, _⟩ := id R4
    exact ⟨_, rfl, p, dx4, _, rfl, m4, rf_no _ _ _ (by decide +kernel) (by decide +kernel) (by decide +kernel), p, F, xs, ts, _, nm, b, r, AL, BN, n, rfl, G4.t, R4, hn, g6, hnm, hok, hA, hB, hh.tk G4.tk, fun dd H' g e => q dd H' (G4.trans g) e⟩
end
end K00


set_option Elab.async false
set_option linter.all false
set_option maxRecDepth 100000
set_option maxHeartbeats 8000000
namespace K00
open PySem PySem.Spec PyProof.Rows L2
theorem len2 (F : Addr) : (putF "at" (V.int 0) (putF "words" (V.ref F) [])).length = 2 := by
  show (putF "at" (V.int 0) [("words", V.ref F)]).length = 2
  unfold putF
  rw [if_neg (by decide +kernel)]
  rfl
theorem rf_made (F : Addr) : putF "depth" (V.int 0) (putF "at" (V.int 0) (putF "words" (V.ref F) [])) = rf F ((0 : Nat) : Int) ((0 : Nat) : Int) := by
  show putF "depth" (V.int 0) (putF "at" (V.int 0) [("words", V.ref F)]) = _
  have e : putF "at" (V.int 0) [("words", V.ref F)] = ([("words", V.ref F), ("at", V.int 0)] : List (Str × V)) := by
    unfold putF
    rw [if_neg (by decide +kernel)]
    rfl
  rw [e]
  unfold putF
  rw [if_neg (by decide +kernel)]
  unfold putF
  rw [if_neg (by decide +kernel)]
  rfl
theorem fin_rg {Ts : List Addr} {p : Addr} {H H' : Hp} (g : RG Ts p H H') (n : H p = none) : Go Ts H H' := ⟨g.t, fun q o h e => g.k q o (fun z => (List.mem_cons.mp z).elim (fun z => by rw [z, n] at e; cases e) h) e⟩
section
variable {P : Program} {w : World} {K : PySem.W.Frag} {mg : Str → Option Value} {base : Heap}

def spIn (K : PySem.W.Frag) (C : Addr) : Sp := fun vs H Q _ => ∃ p dx T ts, vs = [.ref p, .str T] ∧ H p = some (.ins C dx []) ∧ T.length ≤ 100000 ∧ T.cps.toList = TL.joinL [32] (ts.map TL.tl) ∧ ts ≠ [] ∧ ts.length ≤ 10000 ∧ (∀ w ∈ ts, Tokn w) ∧
  ∀ H' F xs, Rd K C H' p F xs (ts ++ ([""] : List Str)) 0 0 → WdsP K H' xs (ts ++ ([""] : List Str)) (Pl T ts) → (∀ q o, q ≠ p → H q = some o → H' q = some o) → Tk H H' → Q .non H'
theorem sc___init__ : FnScope ["self", "text"] ["self", "text"] (C8.fnScope (inClass (topS 30) 0)) := C8.fnScope_by (by decide +kernel)
theorem okm_init {C f : Addr} {fd : FuncData} (T : Txt K mg C) (Mk0 : Mk K C f) (hm : mg "Reader" = some (.ref C)) (F : C8.Fun K "__init__" "Reader.__init__" (inClass (topS 30) 0) f fd) (b : Binds K fd ["self", "text"] []) (B : Bl K mg) (c_split : C8.Cal P w K mg base 1 "split_words" (spSW K) []) : C8.Mak P w K mg base 2 "Reader" C (spIn K C) [] := by
  refine C8.mak0 Mk0 hm F b .nil sc___init__ ?len ?body
  case len => rintro vs H Q E ⟨p, dx, T, ts, rfl, _⟩; rfl
  case body =>
    rintro cdv A outer s H vs Q E hr ⟨p, dx, tx, ts, rfl, hp, h1, h2, h3, h4, h5, q⟩
    refine ⟨_, (pss_cons (ps_fld (pv 0) (C8.pe_c c_split hr (by decide) rfl (pa_cons (pv 1) pa_nil)) rfl)
    (pss_cons (ps_fld (pv 0) pe_int rfl)
    (pss_one (ps_fld (pv 0) pe_int rfl)))), ?_⟩
    refine ⟨_, rfl, tx, ts, rfl, h1, h2, h3, h4, h5, fun H1 F1 xs s1 hF1 hF2 hw => ?_⟩
    have hp1 := s1 _ _ hp
    have npF : p ≠ F1 := fun z => by rw [z, hF1] at hp; cases hp
    refine ⟨_, rfl, p, C, dx, [], rfl, hp1, T.cl, T.nW, (by decide), ?_⟩
    have i1 := Tk.putI hp1 (.ins C dx (putF "words" (.ref F1) []))
    have k1 : ∀ q o, q ≠ p → H q = some o → upd H1 p (.ins C dx (putF "words" (.ref F1) [])) q = some o := fun q o n e => by rw [upd_ne n]; exact s1 _ _ e
    have e1 : upd H1 p (.ins C dx (putF "words" (.ref F1) [])) p = some (.ins C dx (putF "words" (.ref F1) [])) := upd_same
    have f1 : upd H1 p (.ins C dx (putF "words" (.ref F1) [])) F1 = some (.lst xs) := by rw [upd_ne (Ne.symm npF)]; exact hF2
    have w1 := hw.same i1
    have t1 := (Tk.same s1).trans i1
    generalize upd H1 p (.ins C dx (putF "words" (.ref F1) [])) = H2 at k1 e1 f1 w1 t1
    refine ⟨_, rfl, p, C, dx, _, rfl, e1, T.cl, T.nA, (by show 1 < 1000; decide), ?_⟩
    have i2 := Tk.putI e1 (.ins C dx (putF "at" (.int 0) (putF "words" (.ref F1) [])))
    have k2 : ∀ q o, q ≠ p → H q = some o → upd H2 p (.ins C dx (putF "at" (.int 0) (putF "words" (.ref F1) []))) q = some o := fun q o n e => by rw [upd_ne n]; exact k1 q o n e
    have e2 : upd H2 p (.ins C dx (putF "at" (.int 0) (putF "words" (.ref F1) []))) p = some (.ins C dx (putF "at" (.int 0) (putF "words" (.ref F1) []))) := upd_same
    have f2 : upd H2 p (.ins C dx (putF "at" (.int 0) (putF "words" (.ref F1) []))) F1 = some (.lst xs) := by rw [upd_ne (Ne.symm npF)]; exact f1
    have w2 := w1.same i2
    have t2 := t1.trans i2
    generalize upd H2 p (.ins C dx (putF "at" (.int 0) (putF "words" (.ref F1) []))) = H3 at k2 e2 f2 w2 t2
    refine ⟨_, rfl, p, C, dx, _, rfl, e2, T.cl, T.nD, (by rw [len2]; decide), ?_⟩
    have i3 := Tk.putI e2 (.ins C dx (putF "depth" (.int 0) (putF "at" (.int 0) (putF "words" (.ref F1) []))))
    have k3 : ∀ q o, q ≠ p → H q = some o → upd H3 p (.ins C dx (putF "depth" (.int 0) (putF "at" (.int 0) (putF "words" (.ref F1) [])))) q = some o := fun q o n e => by rw [upd_ne n]; exact k2 q o n e
    refine q _ F1 xs ⟨dx, ?_, by rw [upd_ne (Ne.symm npF)]; exact f2, (w2.same i3).wds⟩ (w2.same i3) k3 (t2.trans i3)
    rw [upd_same, rf_made]


/-- the words of a text whose first procedure's body holds an "or" -/
def badT (x nm : Str) (b : List St) (r : List Str) : List Str := ("letters" : Str) :: x :: smc :: ("proc" : Str) :: nm :: obr :: (tks b ++ (orw :: r))
theorem badT_at (x nm : Str) (b : List St) (r : List Str) : (badT x nm b r)[6 + (tks b).length]? = some orw := by
  have e : badT x nm b r = ((("letters" : Str) :: x :: smc :: ("proc" : Str) :: nm :: obr :: tks b) ++ (orw :: r)) := rfl
  rw [e, List.getElem?_append_right (by simp only [List.length_cons]; omega)]
  rw [show 6 + (tks b).length - (("letters" : Str) :: x :: smc :: ("proc" : Str) :: nm :: obr :: tks b).length = 0 by simp only [List.length_cons]; omega]
  rfl
theorem badT_end (x nm : Str) (b : List St) (r : List Str) : badT x nm b r ++ ([""] : List Str) = badT x nm b (r ++ ([""] : List Str)) := by
  unfold badT
  simp
def spRPN (K : PySem.W.Frag) (Ts : List Addr) (BT : Addr) : Sp := fun vs H Q E => ∃ t x nm b r AL BN n, vs = [.str t] ∧ Tbs Ts H ∧ t.length ≤ 100000 ∧ t.cps.toList = TL.joinL [32] ((badT x nm b r).map TL.tl) ∧ (badT x nm b r).length ≤ 10000 ∧ (∀ w ∈ badT x nm b r, Tokn w) ∧ List.length b ≤ 900 ∧ nameB x = true ∧ nameB nm = true ∧ (∀ st ∈ b, St.isO st = false ∧ st.ok AL BN false) ∧ Nok AL ∧ Nok BN ∧ (∀ n', Pl t (badT x nm b r) (6 + (tks b).length) n' → n' = n) ∧
  ∀ dd H', Go Ts H H' → H' dd = some (.xd [("place", .int n)]) → E (.ref BT) (some dd) H'
theorem sc_read_program : FnScope ["text", "program"] ["text"] (C8.fnScope (topS 47)) := C8.fnScope_by (by decide +kernel)
theorem ok_read_programN {Ts : List Addr} {BT f : Addr} {fd : FuncData} (F : C8.Def K mg "read_program" (topS 47) f fd) (b : Binds K fd ["text"] []) (B : Bl K mg) {C : Addr} (T : Txt K mg C) (c_init : C8.Mak P w K mg base 2 "Reader" C (spIn K C) []) (c_whole : UG.MetN P w K mg base 10 C "whole" (spWhN K C Ts BT)) : UG.CalN P w K mg base 11 "read_program" (spRPN K Ts BT) := by
  refine UG.calN F b sc_read_program ?len ?body
  case len => rintro vs H Q E ⟨t, x, nm, b, r, AL, BN, n, rfl, _⟩; rfl
  case body =>
    rintro cdv A outer s H vs Q E hr ⟨t, x, nm, b, r, AL, BN, n, rfl, hTb, l1, hcs, l2, htk, hbn, hx, hnm, hok, hA, hB, hpl, q⟩
    refine ⟨_, (pss_cons (ps_if (pt_not (pt_val (pe_isD (c := "str") B (pv 0) rfl rfl B.str (by decide +kernel) (by decide)))) pss_never pss_nil)
    (pss_cons (ps_set (i := 1) sc_read_program.nd rfl (Or.inl rfl) (UG.pe_mtN0 c_whole UG.pass_defN hr (by decide) (C8.pe_mk c_init hr (by decide) rfl (pa_cons (pv 0) pa_nil))))
    pss_never)), ?_⟩
    refine ⟨_, rfl, _, .str t, rfl, .str _, _, rfl, iteF ?_⟩
    refine ⟨_, rfl, fun y dx hy hdx ndx => ?_⟩
    have s0 := (same_new hdx (.own y)).trans (same_new (show upd H dx (.own y) y = none by rw [upd_ne (Ne.symm ndx)]; exact hy) (.ins C dx []))
    have hy0 : upd (upd H dx (.own y)) y (.ins C dx []) y = some (.ins C dx []) := upd_same
    generalize upd (upd H dx (.own y)) y (.ins C dx []) = H0 at s0 hy0
    refine ⟨y, dx, t, badT x nm b r, rfl, hy0, l1, hcs, by unfold badT; simp, l2, htk, fun H1 F1 xs R1 W1 k1 t1 => ⟨rfl, ?_⟩⟩
    obtain ⟨dx1, m1, _⟩ := id R1
    have s1 : Same H H1 := fun q o e => k1 q o (fun z => by rw [z, hy] at e; cases e) (s0 _ _ e)
    rw [badT_end] at R1 W1
    obtain ⟨wp, n', w1, w2, w3⟩ := W1.2 _ _ (badT_at x nm b (r ++ ([""] : List Str)))
    have en := hpl n' w3
    subst en
    exact ⟨y, dx1, _, rfl, m1, rf_no _ _ _ (by decide +kernel) (by decide +kernel) (by decide +kernel), y, F1, xs, _, x, nm, b, _, AL, BN, n', rfl, hTb.same s1, R1, hbn, rfl, hx, hnm, hok, hA, hB, ⟨wp, w1, w2⟩, fun dd H2 G2 e => q dd H2 (fin_rg ((RG.same hTb s1).trans G2) hy) e⟩
end
end K00


set_option Elab.async false
set_option linter.all false
set_option maxRecDepth 100000
set_option maxHeartbeats 8000000
namespace K00
open PySem PySem.Spec PyProof.Rows L2
def badS : Str := "letters a ; proc f { do b ; or }"
theorem bad_cps : badS.cps.toList = TL.joinL [32] ((badT "a" "f" [.dd "b"] [cbr]).map TL.tl) := by decide +kernel
theorem bad_at : ∀ n', Pl badS (badT "a" "f" [.dd "b"] [cbr]) (6 + (tks [.dd "b"]).length) n' → n' = 28 := by
  rintro n' ⟨k, rfl, h⟩
  have e1 : (remL false ((badT "a" "f" [.dd "b"] [cbr]).drop (6 + (tks [.dd "b"]).length))).length = 4 := by decide +kernel
  have e2 : badS.length = 32 := by decide +kernel
  rw [e1, e2] at h
  have : k = 28 := by omega
  subst this
  rfl
def tokB (w : Str) : Bool := (!(TL.tl w).isEmpty && (TL.tl w).all (fun c => wordS.cps.toList.contains c)) || decide (w = obr) || decide (w = cbr) || decide (w = smc)
theorem tok_of {w : Str} (h : tokB w = true) : Tokn w := by
  unfold tokB at h
  rw [Bool.or_eq_true, Bool.or_eq_true, Bool.or_eq_true, Bool.and_eq_true] at h
  rcases h with ((⟨h1, h2⟩ | h) | h) | h
  · refine .inl ⟨fun z => by rw [z] at h1; exact absurd h1 (by decide), fun c hc => ?_⟩
    have := List.all_eq_true.mp h2 c hc
    exact List.contains_iff_mem.mp this
  · exact .inr (.inl (of_decide_eq_true h))
  · exact .inr (.inr (.inl (of_decide_eq_true h)))
  · exact .inr (.inr (.inr (of_decide_eq_true h)))
theorem bad_tok : ∀ w ∈ badT "a" "f" [.dd "b"] [cbr], Tokn w := fun w hw => tok_of (List.all_eq_true.mp (by decide +kernel : (badT "a" "f" [.dd "b"] [cbr]).all tokB = true) w hw)
theorem bad_ok : ∀ st ∈ ([.dd "b"] : List St), St.isO st = false ∧ st.ok ["b"] [] false := by
  intro st h
  have e := List.mem_singleton.mp h
  subst e
  exact ⟨rfl, by unfold St.ok; exact List.mem_singleton.mpr rfl⟩
theorem bad_nokA : Nok ["b"] := by
  intro x h
  have e := List.mem_singleton.mp h
  subst e
  decide +kernel
theorem bad_nokB : Nok [] := fun x h => by cases h
theorem bad_sp {K : PySem.W.Frag} {Ts : List Addr} {BT : Addr} {H : Hp} {Q : VK} {E : XK} (hT : Tbs Ts H) (q : ∀ dd H', Go Ts H H' → H' dd = some (.xd [("place", .int 28)]) → E (.ref BT) (some dd) H') : spRPN K Ts BT [.str badS] H Q E :=
  ⟨badS, "a", "f", [.dd "b"], [cbr], ["b"], [], 28, rfl, hT, by decide +kernel, bad_cps, by decide +kernel, bad_tok, by decide, by decide +kernel, by decide +kernel, bad_ok, bad_nokA, bad_nokB, bad_at, q⟩
end K00


set_option Elab.async false
set_option linter.all false
set_option maxRecDepth 100000
set_option maxHeartbeats 8000000
namespace K00
open PySem PySem.Spec PyProof.Rows L2
section
variable {P : Program} {w : World} {K : PySem.W.Frag} {mg : Str → Option Value} {base : Heap}
/-! what is no program, and a program with a fault, where the error's context is told -/
theorem bad_wantN {Cs : Nat → Addr} {Ts : List Addr} {f : Addr} {fd : FuncData} (F : C8.Def K mg "want_program" (topS 43) f fd) (b : Binds K fd ["program"] []) (B : Bl K mg) (R : Rs P w K mg base Cs) (c_is_program : C8.Cal P w K mg base 8 "is_program" (spProgA K Ts) []) : UG.CalN P w K mg base 9 "want_program" (spBad K Ts (Cs 0)) := by
  refine UG.calN F b sc_want_program ?len ?body
  case len => rintro vs H Q E ⟨v, d, rfl, _⟩; rfl
  case body =>
    rintro cdv A outer s H vs Q E hr ⟨v, d, rfl, hd, hsz, hTb, hb, q⟩
    refine ⟨_, (pss_one (ps_if (pt_not (pt_val (C8.pe_c c_is_program hr (by decide) rfl (pa_cons (pv 0) pa_nil)))) (pss_one (L2N.ps_raise rfl UG.takes_defN (UG.pmk_ownN PySem.F.excBase_ValueError R.v0.x R.v0.g R.v0.k (raises_own R.v0.b R.v0.t) rfl pe_str))) pss_nil)), ?_⟩
    refine ⟨_, rfl, v, d, rfl, hd, hsz, hTb, fun H1 g1 => ⟨_, rfl, ?_⟩⟩
    rw [hb]
    exact iteT ⟨rfl, q H1 g1⟩
theorem bad_writeN {BP : Addr} {Ts : List Addr} {f : Addr} {fd : FuncData} (F : C8.Def K mg "write_program" (topS 44) f fd) (b : Binds K fd ["program"] []) (B : Bl K mg) (c_want : UG.CalN P w K mg base 9 "want_program" (spBad K Ts BP)) : UG.CalN P w K mg base 10 "write_program" (spBad K Ts BP) := by
  refine UG.calN F b sc_write_program ?len ?body
  case len => rintro vs H Q E ⟨v, d, rfl, _⟩; rfl
  case body =>
    rintro cdv A outer s H vs Q E hr ⟨v, d, rfl, hd, hsz, hTb, hb, q⟩
    exact ⟨_, (pss_cons (ps_expr (UG.pe_cN c_want UG.pass_defN hr (by decide) rfl (pa_cons (pv 0) pa_nil))) pss_never), _, rfl, v, d, rfl, hd, hsz, hTb, hb, q⟩
def spCdN (K : PySem.W.Frag) (Ts : List Addr) (NC : Addr) : Sp := fun vs H Q E => ∃ v L Ps AL BN ds, vs = [v] ∧ Dp K H v (progD L Ps) ∧ Prog L Ps AL BN ∧ Tbs Ts H ∧ chkD L Ps = .tuple ds ∧ TupD (.tuple ds) ∧ ∀ x dd H', Go Ts H H' → Dp K H' x (.tuple ds) → H' dd = some (.xd [("what", x)]) → E (.ref NC) (some dd) H'
theorem sc_checked : FnScope ["program", "what"] ["program"] (C8.fnScope (topS 53)) := C8.fnScope_by (by decide +kernel)
theorem ok_checkedN {Cs : Nat → Addr} {Ts : List Addr} {f : Addr} {fd : FuncData} (F : C8.Def K mg "checked" (topS 53) f fd) (b : Binds K fd ["program"] []) (B : Bl K mg) (R : Rs P w K mg base Cs) (c_check : C8.Cal P w K mg base 17 "check" (spCheck K Ts) []) : UG.CalN P w K mg base 18 "checked" (spCdN K Ts (Cs 1)) := by
  refine UG.calN F b sc_checked ?len ?body
  case len => rintro vs H Q E ⟨v, L, Ps, AL, BN, ds, rfl, _⟩; rfl
  case body =>
    rintro cdv A outer s H vs Q E hr ⟨v, L, Ps, AL, BN, ds, rfl, hd, hP, hTb, ek, et, q⟩
    refine ⟨_, (pss_cons (ps_set (i := 1) sc_checked.nd rfl (Or.inl rfl) (C8.pe_c c_check hr (by decide) rfl (pa_cons (pv 0) pa_nil)))
      (pss_one (ps_if (pt_cmpR op_notN (pv 1) pe_non (nomark _)) (pss_one (L2N.ps_raise rfl UG.takes_defN (UG.pmk_oexN R.i1.T R.i1.iC R.i1.tI R.i1.F (hr.mono (by decide)) R.i1.b C8.pass0 rfl R.i1.g (pa_cons (pv 1) pa_nil)))) pss_nil))), ?_⟩
    refine ⟨_, rfl, v, L, Ps, AL, BN, rfl, hd, hP, hTb, fun H1 x g1 hx => ?_⟩
    rw [ek] at hx
    obtain ⟨a, xs, rfl, _⟩ := len_ok hx
    refine ⟨_, rfl, rfl, _, rfl, ?_⟩
    refine iteT ⟨_, rfl, (show 1 ≤ 1000 by decide), sup_ok fun d2 H2 s2 e2 => q _ d2 H2 (g1.trans (Go.of_same g1.1 s2)) ((Tk.same s2).dp _ et hx) e2⟩
end
end K00


set_option Elab.async false
set_option linter.all false
set_option maxRecDepth 100000
set_option maxHeartbeats 8000000
namespace K00
open PySem PySem.Spec PyProof.Rows L2
section
variable {P : Program} {w : World} {K : PySem.W.Frag} {mg : Str → Option Value} {base : Heap}
theorem sc__law_by_hand : FnScope ["told", "e"] [] (C8.fnScope (topS 62)) := C8.fnScope_by (by decide +kernel)
theorem nok_by {L : List Str} (h : L.all nameB = true) : Nok L := fun x hx => List.all_eq_true.mp h x hx
theorem byhand_prog : Prog ["a"] [("f", [.cl "g"])] ["a"] ["f", "g"] where
  l1 := by decide
  l2 := by decide
  p1 := by decide
  p2 := by decide
  okA := nok_by (by decide +kernel)
  okB := nok_by (by decide +kernel)
  inA := fun x h => h
  inB := fun x h => by rw [List.mem_singleton.mp h]; exact List.mem_cons_self
  ok := fun b h => by
    rw [List.mem_singleton.mp h]
    exact oks_iff.mpr fun st h2 => by
      rw [List.mem_singleton.mp h2]
      unfold St.ok
      exact List.mem_cons_of_mem _ List.mem_cons_self
  wd := ⟨⟨by decide, trivial, trivial⟩, trivial⟩
  ks := by decide
  n := by decide
/-- what stands by hand is right -/
def spBH (Ts : List Addr) : Sp := fun vs H Q _ => vs = [] ∧ Tbs Ts H ∧ ∀ H', Go Ts H H' → Q (.bl true) H'
theorem ok__law_by_hand {Cs : Nat → Addr} {Ts : List Addr} {f : Addr} {fd : FuncData} (F : C8.Def K mg "_law_by_hand" (topS 62) f fd) (b : Binds K fd [] []) (B : Bl K mg) (R : Rs P w K mg base Cs) (D : Flds K Cs) (ex : ∀ i, i < 17 → PySem.W.exmOne K (.ref (Cs i)) (.ref (Cs i)) = some true)
    (c_read : UG.CalN P w K mg base 11 "read_program" (spRPN K Ts (Cs 2))) (c_chk : UG.CalN P w K mg base 18 "checked" (spCdN K Ts (Cs 1))) (c_write : UG.CalN P w K mg base 10 "write_program" (spBad K Ts (Cs 0))) : C8.Cal P w K mg base 19 "_law_by_hand" (spBH Ts) [] := by
  obtain ⟨fR, fdR, psR, FR, mR, kR, bR⟩ := c_read.ex
  obtain ⟨fC, fdC, psC, FC, mC, kC, bC⟩ := c_chk.ex
  obtain ⟨fW, fdW, psW, FW, mW, kW, bW⟩ := c_write.ex
  refine C8.cal0 F b .nil sc__law_by_hand ?len ?body
  case len => rintro vs H Q E ⟨rfl, _⟩; rfl
  case body =>
    rintro cdv A outer s H vs Q E hr ⟨rfl, hTb, q⟩
    refine ⟨_, (pss_cons (ps_set (i := 0) sc__law_by_hand.nd rfl (Or.inl rfl) (pe_lst pa_nil))
      (pss_cons (L2N.ps_try_as (i := 1) rfl rfl sc__law_by_hand.nd rfl rfl ⟨rfl, by decide, .inl R.i2.g⟩ takes_noneN
        (fun W pn xe tk _ => pss_one (ps_expr (pe_callS FR (hr.mono (by decide)) rfl mR kR bR (fun σ => L2N.passAt tk σ) (pa_cons pe_str pa_nil))))
        (fun a oe cls d pn kind data => pss_one (ps_expr (show PE _ _ (tBM K "list" rAppend (tVar 0) (tCons (tXf a cls d (Cs 2) "place" (tVar 1)) tNil)) from pe_bm PySem.F.plainAttrs_list PySem.F.slot_list_append PySem.F.type_list_append mt_append (pv 0) (pa_cons (pe_xf (a := a) (oe := oe) (pn := pn) D.x2 D.n2 kind.zc data (pv 1)) pa_nil)))))
      (pss_cons (L2N.ps_try_as (i := 1) rfl rfl sc__law_by_hand.nd rfl rfl ⟨rfl, by decide, .inl R.i1.g⟩ takes_noneN
        (fun W pn xe tk _ => pss_one (ps_expr (pe_callS FC (hr.mono (by decide)) rfl mC kC bC (fun σ => L2N.passAt tk σ) (pa_cons (pe_tup (pa_cons (pe_tup (pa_cons pe_str pa_nil)) (pa_cons (pe_tup (pa_cons (pe_tup (pa_cons pe_str (pa_cons (pe_tup (pa_cons (pe_tup (pa_cons pe_str (pa_cons pe_str pa_nil))) pa_nil)) pa_nil))) pa_nil)) pa_nil))) pa_nil))))
        (fun a oe cls d pn kind data => pss_one (ps_expr (show PE _ _ (tBM K "list" rAppend (tVar 0) (tCons (tXf a cls d (Cs 1) "what" (tVar 1)) tNil)) from pe_bm PySem.F.plainAttrs_list PySem.F.slot_list_append PySem.F.type_list_append mt_append (pv 0) (pa_cons (pe_xf (a := a) (oe := oe) (pn := pn) D.x1 D.n1 kind.zc data (pv 1)) pa_nil)))))
      (pss_cons (L2N.ps_try_many rfl rfl takes_noneN
        (fun W pn xe tk _ => pss_one (ps_expr (pe_callS FW (hr.mono (by decide)) rfl mW kW bW (fun σ => L2N.passAt tk σ) (pa_cons (pe_tup (pa_cons (pe_tup (pa_cons pe_str pa_nil)) (pa_cons (pe_tup pa_nil) pa_nil))) pa_nil))))
        (.cons ⟨rfl, by decide, .inl R.v0.g⟩ (fun a oe cls d pn kind data => pss_one (ps_expr (show PE _ _ (tBM K "list" rAppend (tVar 0) (tCons (tC (.str "program")) tNil)) from pe_bm PySem.F.plainAttrs_list PySem.F.slot_list_append PySem.F.type_list_append mt_append (pv 0) (pa_cons pe_str pa_nil)))) .nil))
      (pss_one (ps_ret (pe_cmpR (op_eqD hr.units) (pv 0) (pe_lst (pa_cons pe_int (pa_cons (pe_tup (pa_cons pe_str (pa_cons pe_str pa_nil))) (pa_cons pe_str pa_nil)))) (nomark _)))))))), ?_⟩
    refine ⟨(by show 0 ≤ sizeLine; decide), fun p hp => ?_⟩
    have s0 := same_new hp (.lst [])
    have hp0 : upd H p (.lst []) p = some (.lst []) := upd_same
    generalize upd H p (.lst []) = H0 at s0 hp0
    have hT0 := hTb.same s0
    refine bad_sp (K := K) (Q := fun _ _ => True) hT0 fun dd H1 g1 e1 => ⟨true, ex 2 (by decide), fun _ a ha => ?_, fun z => nomatch z⟩
    refine ⟨_, rfl, .inl ⟨rfl, _, SqL.of (g1.2 _ _ ?n1 hp0)⟩, ⟨_, rfl, rfl, rfl, dd, _, _, rfl, e1, rfl, ?_⟩⟩
    case n1 => exact fun z => by obtain ⟨_, k⟩ := hTb _ z; rw [hp] at k; cases k.1
    have np : p ∉ Ts := fun z => by obtain ⟨_, k⟩ := hTb _ z; rw [hp] at k; cases k.1
    have hp1 := g1.2 _ _ np hp0
    refine ⟨p, _, _, rfl, rfl, hp1, (by decide), ?_⟩
    have g2 : Go Ts H (upd H1 p (.lst ([] ++ [.int 28]))) := ⟨tbs_upd g1.1 hp1 (fun ps z => by cases z), kp_new ((Go.of_same hTb s0).trans g1).2 hp⟩
    have hp2 : upd H1 p (.lst ([] ++ [.int 28])) p = some (.lst [.int 28]) := upd_same
    generalize upd H1 p (.lst ([] ++ [.int 28])) = H2 at g2 hp2
    have sz : ∀ n : Nat, n ≤ 2 → n ≤ sizeLine := fun n h => Nat.le_trans h (by decide)
    refine ⟨sz _ (Nat.le_of_ble_eq_true rfl), fun t1 h1 => ⟨sz _ (Nat.le_of_ble_eq_true rfl), fun t2 h2 => ⟨sz _ (Nat.le_of_ble_eq_true rfl), fun t3 h3 => ⟨sz _ (Nat.le_of_ble_eq_true rfl), fun t4 h4 => ⟨sz _ (Nat.le_of_ble_eq_true rfl), fun t5 h5 => ⟨sz _ (Nat.le_of_ble_eq_true rfl), fun t6 h6 => ?_⟩⟩⟩⟩⟩⟩
    have s1 := same_new h1 (.tup [V.str "a"])
    have q1 : SqT K (upd H2 t1 (.tup [V.str "a"])) t1 [V.str "a"] := SqT.of upd_same
    generalize upd H2 t1 (.tup [V.str "a"]) = H3 at s1 q1 h2 h3 h4 h5 h6 ⊢
    have s2 := same_new h2 (.tup [V.str "call", V.str "g"])
    have q2 : SqT K (upd H3 t2 (.tup [V.str "call", V.str "g"])) t2 [V.str "call", V.str "g"] := SqT.of upd_same
    generalize upd H3 t2 (.tup [V.str "call", V.str "g"]) = H4 at s2 q2 h3 h4 h5 h6 ⊢
    have s3 := same_new h3 (.tup [V.ref t2])
    have q3 : SqT K (upd H4 t3 (.tup [V.ref t2])) t3 [V.ref t2] := SqT.of upd_same
    generalize upd H4 t3 (.tup [V.ref t2]) = H5 at s3 q3 h4 h5 h6 ⊢
    have s4 := same_new h4 (.tup [V.str "f", V.ref t3])
    have q4 : SqT K (upd H5 t4 (.tup [V.str "f", V.ref t3])) t4 [V.str "f", V.ref t3] := SqT.of upd_same
    generalize upd H5 t4 (.tup [V.str "f", V.ref t3]) = H6 at s4 q4 h5 h6 ⊢
    have s5 := same_new h5 (.tup [V.ref t4])
    have q5 : SqT K (upd H6 t5 (.tup [V.ref t4])) t5 [V.ref t4] := SqT.of upd_same
    generalize upd H6 t5 (.tup [V.ref t4]) = H7 at s5 q5 h6 ⊢
    have s6 := same_new h6 (.tup [V.ref t1, V.ref t5])
    have q6 : SqT K (upd H7 t6 (.tup [V.ref t1, V.ref t5])) t6 [V.ref t1, V.ref t5] := SqT.of upd_same
    generalize upd H7 t6 (.tup [V.ref t1, V.ref t5]) = H8 at s6 q6 ⊢
    have d2 : Dp K H8 (.ref t2) (St.d (.cl "g")) := .tup ((Tk.same (s3.trans (s4.trans (s5.trans s6)))).sqt q2) (.cons (.str _) (.cons (.str _) .nil))
    have d3 : Dp K H8 (.ref t3) (.tuple (ds [.cl "g"])) := .tup ((Tk.same (s4.trans (s5.trans s6))).sqt q3) (.cons d2 .nil)
    have d4 : Dp K H8 (.ref t4) (procD ("f", [.cl "g"])) := .tup ((Tk.same (s5.trans s6)).sqt q4) (.cons (.str _) (.cons d3 .nil))
    have d6 : Dp K H8 (.ref t6) (progD ["a"] [("f", [.cl "g"])]) := .tup q6 (.cons (.tup ((Tk.same (s2.trans (s3.trans (s4.trans (s5.trans s6))))).sqt q1) (.cons (.str _) .nil)) (.cons (.tup ((Tk.same s6).sqt q5) (.cons d4 .nil)) .nil))
    have g8 : Go Ts H2 H8 := Go.of_same g2.1 (s1.trans (s2.trans (s3.trans (s4.trans (s5.trans s6)))))
    have p8 : H8 p = some (.lst [.int 28]) := s6 _ _ (s5 _ _ (s4 _ _ (s3 _ _ (s2 _ _ (s1 _ _ hp2)))))
    have g28 := g2.trans g8
    refine ⟨.ref t6, ["a"], [("f", [.cl "g"])], ["a"], ["f", "g"], [.str "call", .str "f"], rfl, d6, ?prog, g28.1, (by with_unfolding_all rfl), ⟨trivial, trivial, trivial⟩, fun x dd2 H9 g9 dx e9 => ⟨true, ex 1 (by decide), fun _ a2 ha2 => ?_, fun z => nomatch z⟩⟩
    case prog => exact byhand_prog
    cases dx with
    | @tup a5 xs5 _ hs5 ha5 =>
    cases ha5 with
    | @cons v1 _ _ _ hv1 ha5 =>
    cases hv1
    cases ha5 with
    | @cons v2 _ _ _ hv2 ha5 =>
    cases hv2
    cases ha5
    have p9 := g9.2 _ _ np p8
    have g29 := (g28.trans g9).2
    refine ⟨_, rfl, .inl ⟨rfl, _, SqL.of p9⟩, ⟨_, rfl, rfl, rfl, dd2, _, _, rfl, e9, rfl, ?_⟩⟩
    refine ⟨p, _, _, rfl, rfl, p9, (by decide), ?_⟩
    have g10 : Go Ts H (upd H9 p (.lst ([.int 28] ++ [.ref a5]))) := ⟨tbs_upd g9.1 p9 (fun ps z => by cases z), kp_new ((g2.trans g8).trans g9).2 hp⟩
    have p10 : upd H9 p (.lst ([.int 28] ++ [.ref a5])) p = some (.lst [.int 28, .ref a5]) := upd_same
    have q10 : SqT K (upd H9 p (.lst ([.int 28] ++ [.ref a5]))) a5 [.str "call", .str "f"] := (Tk.put p9 _).sqt hs5
    generalize upd H9 p (.lst ([.int 28] ++ [.ref a5])) = H10 at g10 p10 q10
    refine ⟨sz _ (Nat.le_of_ble_eq_true rfl), fun u1 k1 => ⟨sz _ (Nat.le_of_ble_eq_true rfl), fun u2 k2 => ⟨sz _ (Nat.le_of_ble_eq_true rfl), fun u3 k3 => ?_⟩⟩⟩
    have z1 := same_new k1 (.tup [V.str "a"])
    have y1 : SqT K (upd H10 u1 (.tup [V.str "a"])) u1 [V.str "a"] := SqT.of upd_same
    generalize upd H10 u1 (.tup [V.str "a"]) = H11 at z1 y1 k2 k3 ⊢
    have z2 := same_new k2 (.tup [])
    have y2 : SqT K (upd H11 u2 (.tup [])) u2 [] := SqT.of upd_same
    generalize upd H11 u2 (.tup []) = H12 at z2 y2 k3 ⊢
    have z3 := same_new k3 (.tup [V.ref u1, V.ref u2])
    have y3 : SqT K (upd H12 u3 (.tup [V.ref u1, V.ref u2])) u3 [V.ref u1, V.ref u2] := SqT.of upd_same
    generalize upd H12 u3 (.tup [V.ref u1, V.ref u2]) = H13 at z3 y3 ⊢
    have zz := z1.trans (z2.trans z3)
    have d13 : Dp K H13 (.ref u3) (.tuple [.tuple [.str "a"], .tuple []]) := .tup y3 (.cons (.tup ((Tk.same (z2.trans z3)).sqt y1) (.cons (.str _) .nil)) (.cons (.tup ((Tk.same z3).sqt y2) .nil) .nil))
    have p13 := zz _ _ p10
    have g13 : Go Ts H10 H13 := Go.of_same g10.1 zz
    have q13 := (Tk.same zz).sqt q10
    refine ⟨.ref u3, _, rfl, d13, by decide +kernel, g13.1, by decide +kernel, fun H14 g14 => ?_⟩
    have p14 := g14.2 _ _ np p13
    have k14 : Kp Ts H H14 := ((g10.trans g13).trans g14).2
    have q14 : SqT K H14 a5 [.str "call", .str "f"] := sqt_ext (Go.ext g13.1 g14) q13
    refine ⟨true, ex 0 (by decide), fun _ a3 ha3 => ⟨_, rfl, .inl ⟨rfl, _, SqL.of p14⟩, p, _, _, rfl, rfl, p14, (by show 2 < sizeLine; decide), ?_⟩, fun z => nomatch z⟩
    have g15 : Go Ts H (upd H14 p (.lst ([.int 28, .ref a5] ++ [.str "program"]))) := ⟨tbs_upd g14.1 p14 (fun ps z => by cases z), kp_new k14 hp⟩
    have p15 : upd H14 p (.lst ([.int 28, .ref a5] ++ [.str "program"])) p = some (.lst [.int 28, .ref a5, .str "program"]) := upd_same
    have q15 : SqT K (upd H14 p (.lst ([.int 28, .ref a5] ++ [.str "program"]))) a5 [.str "call", .str "f"] := (Tk.put p14 _).sqt q14
    generalize upd H14 p (.lst ([.int 28, .ref a5] ++ [.str "program"])) = H15 at g15 p15 q15 ⊢
    refine ⟨_, rfl, sz _ (Nat.le_of_ble_eq_true rfl), fun w1 m1 => ?_⟩
    have r1 := same_new m1 (.tup [V.str "call", V.str "f"])
    have o1 : SqT K (upd H15 w1 (.tup [V.str "call", V.str "f"])) w1 [V.str "call", V.str "f"] := SqT.of upd_same
    generalize upd H15 w1 (.tup [V.str "call", V.str "f"]) = H16 at r1 o1 ⊢
    refine ⟨(by show 3 ≤ sizeLine; decide), fun w2 m2 => ?_⟩
    have r2 := same_new m2 (.lst [V.int 28, V.ref w1, V.str "program"])
    have o2 : upd H16 w2 (.lst [V.int 28, V.ref w1, V.str "program"]) w2 = some (.lst [V.int 28, V.ref w1, V.str "program"]) := upd_same
    generalize upd H16 w2 (.lst [V.int 28, V.ref w1, V.str "program"]) = H17 at r2 o2 ⊢
    refine ⟨.list [.int 28, .tuple [.str "call", .str "f"], .str "program"], .list [.int 28, .tuple [.str "call", .str "f"], .str "program"], .lst (SqL.of ((r1.trans r2) _ _ p15)) (.cons (.int _) (.cons (.tup ((Tk.same (r1.trans r2)).sqt q15) (.cons (.str _) (.cons (.str _) .nil))) (.cons (.str _) .nil))), .lst (SqL.of o2) (.cons (.int _) (.cons (.tup ((Tk.same r2).sqt o1) (.cons (.str _) (.cons (.str _) .nil))) (.cons (.str _) .nil))), (by decide +kernel), (by decide +kernel), ?_⟩
    rw [show PyData.eqv (.list [.int 28, .tuple [.str "call", .str "f"], .str "program"]) (.list [.int 28, .tuple [.str "call", .str "f"], .str "program"]) = true by with_unfolding_all rfl]
    exact q _ (g15.trans (Go.of_same g15.1 (r1.trans r2)))
end
end K00


set_option Elab.async false
set_option linter.all false
set_option maxRecDepth 100000
set_option maxHeartbeats 8000000
namespace K00
open PySem PySem.Spec PyProof.Rows L2
/-! ### what is drawn can be shown -/
theorem at_mem {α : Type} {xs : List α} {r : Int} (h0 : 0 ≤ r) (h1 : r < xs.length) : ∃ v, atI xs r = some v ∧ v ∈ xs := by
  obtain ⟨i, rfl⟩ := Int.eq_ofNat_of_zero_le h0
  have hi : i < xs.length := by omega
  exact ⟨_, atI_nat (List.getElem?_eq_getElem hi), List.getElem_mem hi⟩
def okF (x : Str) : Bool := x.cps.toList.all (fun c => decide (c < 16 ^ 8)) && decide (x.cps.size ≤ 20)
theorem okF_nums : (List.range 1000).all (fun k => okF (("f" : Str) ++ (toString ((k : Nat) : Int) : String))) = true := by decide +kernel
theorem shn_str {x : Str} (h : okF x = true) : Shn (.str x) := by
  unfold okF at h
  rw [Bool.and_eq_true] at h
  exact ⟨rfl, rfl, h.1, by have := of_decide_eq_true h.2; simp only [PyData.bulk]; omega, by simp [PyData.depth]⟩
theorem shown7 {n : Int} (h0 : 0 ≤ n) (h1 : n ≤ 1000000) : (PyData.shown (.int n)).length ≤ 8 := by
  have e := int_text_length_le10 (a := n) (k := 7) (by decide) (by omega)
  show (Str.ofString (toString n)).length ≤ 8
  rw [PySem.ofString_length]; exact e
theorem shn_int {n : Int} (h0 : 0 ≤ n) (h1 : n ≤ 1000000) : Shn (.int n) := by
  have hl : n.natAbs.log2 < 1920 := by
    by_cases z : n.natAbs = 0
    · rw [z]; decide
    · exact (Nat.log2_lt z).mpr (Nat.lt_of_le_of_lt (show n.natAbs ≤ 2 ^ 20 by omega) (Nat.pow_lt_pow_right (by decide) (by decide)))
  refine ⟨?_, rfl, ?_, by simp [PyData.bulk], by simp [PyData.depth]⟩
  · simp only [PyData.showable]
    exact decide_eq_true hl
  · simp only [PyData.leavesShort]
    exact decide_eq_true (shown7 h0 h1)
theorem shn_pair {a b : Str} (h1 : okF a = true) (h2 : okF b = true) : Shn (.tuple [.str a, .str b]) := by
  unfold okF at h1 h2
  rw [Bool.and_eq_true] at h1 h2
  have s1 := of_decide_eq_true h1.2
  have s2 := of_decide_eq_true h2.2
  refine ⟨by simp [PyData.showable, PyData.showableAll], by simp [PyData.hasDict, PyData.hasDictAll], ?_, ?_, by simp [PyData.depth, PyData.depthAll]⟩
  · simp only [PyData.leavesShort, PyData.leavesShortAll, Bool.and_true, Bool.and_eq_true]
    exact ⟨h1.1, h2.1⟩
  · simp only [PyData.bulk, PyData.bulkAll]
    omega
def startD (n r : Int) : PyData := .tuple [.tuple [], .tuple [.tuple [.int 0, .int (1 + n), .int 0], .tuple [.int r]]]
theorem shn_start {n r : Int} (h1 : Shn (.int (1 + n))) (h2 : Shn (.int r)) : Shn (startD n r) := by
  have z : Shn (.int 0) := shn_int (by decide) (by decide)
  have a1 := z.fa; have a2 := z.fc; have b1 := h1.fa; have b2 := h1.fc; have c1 := h2.fa; have c2 := h2.fc
  unfold startD
  refine ⟨?_, by simp [PyData.hasDict, PyData.hasDictAll], ?_, by simp [PyData.bulk, PyData.bulkAll], by simp [PyData.depth, PyData.depthAll]⟩
  · simp only [PyData.showable, PyData.showableAll, Bool.and_true, Bool.true_and, Bool.and_eq_true] at *
    exact ⟨⟨a1, b1, a1⟩, c1⟩
  · simp only [PyData.leavesShort, PyData.leavesShortAll, Bool.and_true, Bool.true_and, Bool.and_eq_true] at *
    exact ⟨⟨a2, b2, a2⟩, c2⟩
theorem tbs_wl {Ts : List Addr} {H H' : Hp} {w l m : Nat} (t : Tbs Ts H) (h : Wl H w l m) (k : Kp [w, l] H H') : Tbs Ts H' := fun T hT => by
  obtain ⟨ns, a, n, h1, h2, _⟩ := id h
  obtain ⟨ps, h3, h4⟩ := t T hT
  refine ⟨ps, k _ _ (fun z => ?_) h3, h4⟩
  rcases List.mem_cons.mp z with z | z
  · rw [z, h1] at h3; cases h3
  · rw [List.mem_singleton.mp z, h2] at h3; cases h3
theorem at_way : ∀ way : Nat, way < 17 → ∃ j : Nat, j < 5 ∧ atI [V.int 0, V.int 1, V.int 2, V.int 0, V.int 0, V.int 0, V.int 0, V.int 0, V.int 0, V.int 0, V.int 0, V.int 0, V.int 3, V.int 4, V.int 2, V.int 0, V.int 0] (way : Int) = some (.int (j : Int))
  | 0, _ => ⟨0, by decide, atI_nat (j := 0) rfl⟩
  | 1, _ => ⟨1, by decide, atI_nat (j := 1) rfl⟩
  | 2, _ => ⟨2, by decide, atI_nat (j := 2) rfl⟩
  | 3, _ => ⟨0, by decide, atI_nat (j := 3) rfl⟩
  | 4, _ => ⟨0, by decide, atI_nat (j := 4) rfl⟩
  | 5, _ => ⟨0, by decide, atI_nat (j := 5) rfl⟩
  | 6, _ => ⟨0, by decide, atI_nat (j := 6) rfl⟩
  | 7, _ => ⟨0, by decide, atI_nat (j := 7) rfl⟩
  | 8, _ => ⟨0, by decide, atI_nat (j := 8) rfl⟩
  | 9, _ => ⟨0, by decide, atI_nat (j := 9) rfl⟩
  | 10, _ => ⟨0, by decide, atI_nat (j := 10) rfl⟩
  | 11, _ => ⟨0, by decide, atI_nat (j := 11) rfl⟩
  | 12, _ => ⟨3, by decide, atI_nat (j := 12) rfl⟩
  | 13, _ => ⟨4, by decide, atI_nat (j := 13) rfl⟩
  | 14, _ => ⟨2, by decide, atI_nat (j := 14) rfl⟩
  | 15, _ => ⟨0, by decide, atI_nat (j := 15) rfl⟩
  | 16, _ => ⟨0, by decide, atI_nat (j := 16) rfl⟩
  | k + 17, h => absurd h (by omega)
section
variable {P : Program} {w : World} {K : PySem.W.Frag} {mg : Str → Option Value} {base : Heap}
theorem sc_law : FnScope ["script", "well", "text", "number", "trouble", "title", "start", "way", "value", "told", "e"] ["script"] (C8.fnScope (topS 63)) := C8.fnScope_by (by decide +kernel)
def spLaw (K : PySem.W.Frag) (Ts : List Addr) : Sp := fun vs H Q _ => ∃ (x : Addr) (ns : List Int), vs = [.ref x] ∧ ns.length ≤ 1000 ∧ SqL K H x (ns.map V.int) ∧ Tbs Ts H ∧ ∀ H', Q (.bl true) H'
theorem ok_law {f : Addr} {fd : FuncData} (F : C8.Fun K "law" "law" (topS 63) f fd) (B : Bl K mg) {Cs : Nat → Addr} {Ts : List Addr} {DE : Addr} (VD : RsV K mg "DeedError" DE) (vE : PySem.W.exmOne K (.ref DE) (.ref DE) = some true) (vI : UG.IsC K DE) (vK : ∀ k, k < 17 → PySem.W.kitOne K (.ref DE) (.ref (Cs k)) = some false)
    (c_well : C8.Cal P w K mg base 1 "_law_well" (spWell K) []) (c_draw : C8.Cal P w K mg base 1 "_law_draw" spDraw []) (c_way : C8.Cal P w K mg base 6 "_law_way_right" spWR []) (c_cls : UG.CalE P w K mg base 1 "_law_classes" (spCls K Cs)) (c_fields : UG.CalGs P w K mg base 4 "_law_fields_right" (spFR K)) (c_hand : C8.Cal P w K mg base 19 "_law_by_hand" (spBH Ts) []) : UG.FnG P w K mg base 21 f fd "script" (spLaw K Ts) := by
  obtain ⟨fH, fdH, psH, dsH, FH, mH, kH, bH, dH⟩ := c_hand.ex
  refine UG.fnG (k := 20) F sc_law ?body
  rintro cdv A outer s H v0 Q gd hr ⟨x, ns, e, hln, hx, hT, q⟩
  cases e
  refine ⟨_, (pss_cons (ps_set (i := 1) sc_law.nd rfl (Or.inl rfl) (C8.pe_c c_well hr (by decide) rfl (pa_cons (pv 0) pa_nil)))
      (pss_cons (ps_set (i := 2) sc_law.nd rfl (Or.inl rfl) (pe_ix ix_list (pe_lst (pa_cons pe_str (pa_cons pe_str (pa_cons pe_str (pa_cons pe_str (pa_cons pe_str pa_nil)))))) (C8.pe_c c_draw hr (by decide) rfl (pa_cons (pv 1) (pa_cons pe_int pa_nil))) (fun _ _ => rfl)))
      (pss_cons (ps_set (i := 3) sc_law.nd rfl (Or.inl rfl) (C8.pe_c c_draw hr (by decide) rfl (pa_cons (pv 1) (pa_cons (pe_ix ix_list (pe_lst (pa_cons pe_int (pa_cons (pe_op op_pow pe_int pe_int) pa_nil))) (C8.pe_c c_draw hr (by decide) rfl (pa_cons (pv 1) (pa_cons pe_int pa_nil))) (fun _ _ => rfl)) pa_nil))))
      (pss_cons (ps_set (i := 4) sc_law.nd rfl (Or.inl rfl) (pe_tup (pa_cons (pe_ix ix_list (pe_lst (pa_cons pe_str (pa_cons pe_str (pa_cons pe_str (pa_cons pe_str pa_nil))))) (C8.pe_c c_draw hr (by decide) rfl (pa_cons (pv 1) (pa_cons pe_int pa_nil))) (fun _ _ => rfl)) (pa_cons (pe_op op_add_str pe_str (pe_callTy call_str_int rfl B.str (by decide +kernel) (pa_cons (pe_op op_mod (pe_callTy call_int1 rfl B.int (by decide +kernel) (pa_cons (pv 3) pa_nil)) pe_int) pa_nil))) pa_nil))))
      (pss_cons (ps_par (i := 5) (j := 6) rfl sc_law.nd rfl rfl (by decide) rfl rfl (pa_cons (pe_ix ix_list (pe_lst (pa_cons pe_str (pa_cons pe_str (pa_cons pe_str pa_nil)))) (C8.pe_c c_draw hr (by decide) rfl (pa_cons (pv 1) (pa_cons pe_int pa_nil))) (fun _ _ => rfl)) (pa_cons (pe_tup (pa_cons (pe_tup pa_nil) (pa_cons (pe_tup (pa_cons (pe_tup (pa_cons pe_int (pa_cons (pe_op op_add pe_int (pv 3)) (pa_cons pe_int pa_nil)))) (pa_cons (pe_tup (pa_cons (C8.pe_c c_draw hr (by decide) rfl (pa_cons (pv 1) (pa_cons pe_int pa_nil))) pa_nil)) pa_nil))) pa_nil))) pa_nil)) (by with_unfolding_all rfl))
      (pss_cons (ps_for PassesOwn.never rfl (pi_range1 rfl B.range (pa_cons pe_int pa_nil)) (pg_name (i := 7) sc_law.nd rfl (Or.inl rfl))
      (pss_cons (ps_set (i := 8) sc_law.nd rfl (Or.inl rfl) (pe_ix ix_list (pe_lst (pa_cons (pv 2) (pa_cons (pv 4) (pa_cons (pv 3) (pa_cons (pv 5) (pa_cons (pv 6) pa_nil)))))) (pe_ix ix_list (pe_lst (pa_cons pe_int (pa_cons pe_int (pa_cons pe_int (pa_cons pe_int (pa_cons pe_int (pa_cons pe_int (pa_cons pe_int (pa_cons pe_int (pa_cons pe_int (pa_cons pe_int (pa_cons pe_int (pa_cons pe_int (pa_cons pe_int (pa_cons pe_int (pa_cons pe_int (pa_cons pe_int (pa_cons pe_int pa_nil)))))))))))))))))) (pv 7) (fun _ _ => rfl)) (fun _ _ => rfl)))
      (pss_one (ps_if (pt_not (pt_val (C8.pe_c c_way hr (by decide) rfl (pa_cons (pv 7) (pa_cons (pv 8) pa_nil))))) (pss_one (ps_ret pe_bl)) pss_nil))))
      (pss_cons (ps_set (i := 9) sc_law.nd rfl (Or.inl rfl) (pe_lst (pa_cons pe_bl pa_nil)))
      (pss_cons (L2N.ps_try_as (i := 10) rfl rfl sc_law.nd rfl rfl ⟨rfl, by decide, .inl VD.g⟩ takes_noneN
        (fun W pn xe tk _ => pss_one (L2N.ps_raise rfl tk (UG.pmk_ownN PySem.F.excBase_ValueError VD.x VD.g VD.k (raises_own VD.b VD.t) rfl (pv 2))))
        (fun a oe cls d pn kind data => pss_one (ps_set (i := 9) sc_law.nd rfl (Or.inl rfl) (UG.pe_cE (a := a) (oe := oe) (j := 20) c_cls List.mem_cons_self kind.zc data ⟨hr.dp, hr.un⟩ (by decide) rfl (pv 10)))))
      (pss_one (ps_ret (pe_and (UG.pe_cGs c_fields gd hr (by decide) rfl (pa_cons (pv 4) (pa_cons (pv 3) (pa_cons (pv 5) (pa_cons (pv 6) pa_nil))))) (pe_and (pe_call0 FH (hr.mono (by decide)) rfl mH kH bH dH (E := C8.E0) C8.pass0) (pe_one (pe_cmpR (op_eqD hr.units) (pv 9) (pe_op op_rep (pe_lst (pa_cons pe_bl pa_nil)) pe_int) (nomark _))))))))))))))), ?_⟩
  refine ⟨_, rfl, x, ns, rfl, hx, hln, fun H1 w l s1 hw0 hl0 hW1 => ?_⟩
  have hT1 := hT.same s1
  have W1 : Wl H1 w l (20 + 1) := hW1.le (by decide)
  refine nm ?_
  -- the text
  refine ⟨(by show 5 ≤ sizeLine; decide), fun dl hdl => ?_⟩
  have sa := same_new hdl (.lst [.str "x", .str "deed", .str "a b", .str "", .str "0"])
  refine ⟨_, rfl, w, l, 20, 5, rfl, W1.same sa, by decide, by decide, fun r1 H2 r1a r1b W2 k2 t2 => ?_⟩
  have hT2 := tbs_wl (hT1.same sa) (W1.same sa) k2
  obtain ⟨tx, at1, _⟩ := at_mem (xs := [V.str "x", V.str "deed", V.str "a b", V.str "", V.str "0"]) r1a r1b
  refine ⟨dl, _, _, tx, rfl, rfl, SqL.of (k2 _ _ (W1.out hdl) upd_same), at1, ?_⟩
  refine nm ?_
  -- the number
  refine ⟨_, rfl, _, _, rfl, rfl, ⟨by decide, by decide, by decide⟩, (by show 2 ≤ sizeLine; decide), fun dn hdn => ?_⟩
  have sb := same_new hdn (.lst [.int 3, .int (10 ^ (6 : Int).toNat)])
  refine ⟨_, rfl, w, l, 19, 2, rfl, W2.same sb, by decide, by decide, fun r2 H3 r2a r2b W3 k3 t3 => ?_⟩
  have hT3 := tbs_wl (hT2.same sb) (W2.same sb) k3
  obtain ⟨vm, at2, hm2⟩ := at_mem (xs := [V.int 3, V.int (10 ^ (6 : Int).toNat)]) r2a r2b
  obtain ⟨most, rfl, m1, m2⟩ : ∃ most : Int, vm = .int most ∧ 1 ≤ most ∧ most ≤ 1000000 := by
    rcases List.mem_cons.mp hm2 with z | z
    · exact ⟨3, z, by decide, by decide⟩
    · exact ⟨_, List.mem_singleton.mp z, by decide, by decide⟩
  refine ⟨dn, _, _, _, rfl, rfl, SqL.of (k3 _ _ (W2.out hdn) upd_same), at2, ?_⟩
  refine ⟨w, l, 18, most, rfl, W3, m1, m2, fun n H4 n0 n1 W4 k4 t4 => ?_⟩
  have hT4 := tbs_wl hT3 W3 k4
  refine nm ?_
  -- the trouble
  refine ⟨(by show 4 ≤ sizeLine; decide), fun dt hdt => ?_⟩
  have sc := same_new hdt (.lst [.str "letter", .str "double", .str "call", .str "return"])
  refine ⟨_, rfl, w, l, 17, 4, rfl, W4.same sc, by decide, by decide, fun r3 H5 r3a r3b W5 k5 t5 => ?_⟩
  have hT5 := tbs_wl (hT4.same sc) (W4.same sc) k5
  obtain ⟨va, at3, hm3⟩ := at_mem (xs := [V.str "letter", V.str "double", V.str "call", V.str "return"]) r3a r3b
  obtain ⟨ka, rfl, oka⟩ : ∃ ka : Str, va = .str ka ∧ okF ka = true := by
    simp only [List.mem_cons, List.mem_singleton, List.not_mem_nil, or_false] at hm3
    rcases hm3 with z | z | z | z <;> exact ⟨_, z, by decide +kernel⟩
  refine ⟨dt, _, _, _, rfl, rfl, SqL.of (k5 _ _ (W4.out hdt) upd_same), at3, ?_⟩
  have okb : okF (("f" : Str) ++ (toString (n % 1000) : String)) = true := by
    have p1 := Int.emod_nonneg n (show (1000 : Int) ≠ 0 by decide)
    have p2 := Int.emod_lt_of_pos n (show (0 : Int) < 1000 by decide)
    obtain ⟨k, hk⟩ := Int.eq_ofNat_of_zero_le p1
    rw [hk]
    exact List.all_eq_true.mp okF_nums k (List.mem_range.mpr (by omega))
  refine ⟨_, rfl, .inl ⟨_, rfl, _, _, rfl, rfl, (show (0 : Int) < 1000 by decide), _, rfl, ?lg, _, _, rfl, rfl, ?ln, (by show 2 ≤ sizeLine; decide), fun ta hta => ?_⟩⟩
  case lg =>
    have p1 := Int.emod_nonneg n (show (1000 : Int) ≠ 0 by decide)
    have p2 := Int.emod_lt_of_pos n (show (0 : Int) < 1000 by decide)
    exact of_decide_eq_true (shn_int (n := n % 1000) p1 (by omega)).fa
  case ln =>
    have e := okb
    unfold okF at e
    rw [Bool.and_eq_true] at e
    have e2 := of_decide_eq_true e.2
    have e3 : (("f" : Str) ++ Str.ofString (toString (n % 1000))).length ≤ 20 := e2
    rw [strLen_append] at e3
    exact Nat.le_trans e3 (by decide)
  generalize (("f" : Str) ++ Str.ofString (toString (n % 1000))) = kb at okb hta ⊢
  have sd := same_new hta (.tup [.str ka, .str kb])
  have ta0 : SqT K (upd H5 ta (.tup [.str ka, .str kb])) ta [.str ka, .str kb] := SqT.of upd_same
  have W5' := W5.same sd
  have hT5' := hT5.same sd
  generalize upd H5 ta (.tup [.str ka, .str kb]) = H6 at sd ta0 W5' hT5' ⊢
  refine nm ?_
  -- the title and the beginning
  refine ⟨(by show 3 ≤ sizeLine; decide), fun dm hdm => ?_⟩
  have se := same_new hdm (.lst [.str "main", .str "a", .str "abcdefghij"])
  refine ⟨_, rfl, w, l, 16, 3, rfl, W5'.same se, by decide, by decide, fun r4 H7 r4a r4b W7 k7 t7 => ?_⟩
  have hT7 := tbs_wl (hT5'.same se) (W5'.same se) k7
  have ta7 := t7.sqt ((Tk.same se).sqt ta0)
  obtain ⟨vt, at4, hm4⟩ := at_mem (xs := [V.str "main", V.str "a", V.str "abcdefghij"]) r4a r4b
  obtain ⟨ti, rfl, okt⟩ : ∃ ti : Str, vt = .str ti ∧ okF ti = true := by
    simp only [List.mem_cons, List.mem_singleton, List.not_mem_nil, or_false] at hm4
    rcases hm4 with z | z | z <;> exact ⟨_, z, by decide +kernel⟩
  refine ⟨dm, _, _, _, rfl, rfl, SqL.of (k7 _ _ (W5'.out hdm) upd_same), at4, ?_⟩
  refine ⟨(by show 0 ≤ sizeLine; decide), fun e1 he1 => ?_⟩
  have sf := same_new he1 (.tup [])
  have u1 : SqT K (upd H7 e1 (.tup [])) e1 [] := SqT.of upd_same
  have W8 := W7.same sf
  have hT8 := hT7.same sf
  have ta8 := (Tk.same sf).sqt ta7
  generalize upd H7 e1 (.tup []) = H8 at u1 W8 hT8 ta8 ⊢
  refine ⟨_, rfl, _, _, rfl, rfl, (by show 3 ≤ sizeLine; decide), fun e2 he2 => ?_⟩
  have sg := same_new he2 (.tup [.int 0, .int (1 + n), .int 0])
  have u2 : SqT K (upd H8 e2 (.tup [.int 0, .int (1 + n), .int 0])) e2 [.int 0, .int (1 + n), .int 0] := SqT.of upd_same
  have W9 := W8.same sg
  have hT9 := hT8.same sg
  have ta9 := (Tk.same sg).sqt ta8
  have u19 := (Tk.same sg).sqt u1
  generalize upd H8 e2 (.tup [.int 0, .int (1 + n), .int 0]) = H9 at u2 W9 hT9 ta9 u19 ⊢
  refine ⟨_, rfl, w, l, 15, 4, rfl, W9, by decide, by decide, fun r5 H10 r5a r5b W10 k10 t10 => ?_⟩
  have hT10 := tbs_wl hT9 W9 k10
  refine ⟨(by show 1 ≤ sizeLine; decide), fun e3 he3 => ?_⟩
  have sh := same_new he3 (.tup [.int r5])
  have u3 : SqT K (upd H10 e3 (.tup [.int r5])) e3 [.int r5] := SqT.of upd_same
  have hT11 := hT10.same sh
  have ta11 := (Tk.same sh).sqt (t10.sqt ta9)
  have u111 := (Tk.same sh).sqt (t10.sqt u19)
  have u211 := (Tk.same sh).sqt (t10.sqt u2)
  generalize upd H10 e3 (.tup [.int r5]) = H11 at u3 hT11 ta11 u111 u211 ⊢
  refine ⟨(by show 2 ≤ sizeLine; decide), fun e4 he4 => ?_⟩
  have si := same_new he4 (.tup [.ref e2, .ref e3])
  have u4 : SqT K (upd H11 e4 (.tup [.ref e2, .ref e3])) e4 [.ref e2, .ref e3] := SqT.of upd_same
  have hT12 := hT11.same si
  have ta12 := (Tk.same si).sqt ta11
  have u112 := (Tk.same si).sqt u111
  have u212 := (Tk.same si).sqt u211
  have u312 := (Tk.same si).sqt u3
  generalize upd H11 e4 (.tup [.ref e2, .ref e3]) = H12 at u4 hT12 ta12 u112 u212 u312 ⊢
  refine ⟨(by show 2 ≤ sizeLine; decide), fun e5 he5 => ⟨_, _, rfl, ?_⟩⟩
  have sj := same_new he5 (.tup [.ref e1, .ref e4])
  have u5 : SqT K (upd H12 e5 (.tup [.ref e1, .ref e4])) e5 [.ref e1, .ref e4] := SqT.of upd_same
  have hT13 := hT12.same sj
  have ta13 := (Tk.same sj).sqt ta12
  have dS : L2.Dp K (upd H12 e5 (.tup [.ref e1, .ref e4])) (.ref e5) (startD n r5) :=
    .tup u5 (.cons (.tup ((Tk.same sj).sqt u112) .nil) (.cons (.tup ((Tk.same sj).sqt u4) (.cons (.tup ((Tk.same sj).sqt u212) (.cons (.int _) (.cons (.int _) (.cons (.int _) .nil)))) (.cons (.tup ((Tk.same sj).sqt u312) (.cons (.int _) .nil)) .nil))) .nil))
  generalize upd H12 e5 (.tup [.ref e1, .ref e4]) = H13 at hT13 ta13 dS ⊢
  have dT : L2.Dp K H13 (.ref ta) (.tuple [.str ka, .str kb]) := .tup ta13 (.cons (.str _) (.cons (.str _) .nil))
  -- the ways
  refine ⟨17, rfl, by decide, by decide, ?_⟩
  refine for_range (lo := 0) (n := 17) (fun i σ H' => (∃ b7 b8, σ = [some (.ref x), some (.ref w), some tx, some (.int n), some (.ref ta), some (.str ti), some (.ref e5), b7, b8, none, none]) ∧ Same H13 H') ⟨⟨_, _, rfl⟩, Same.refl _⟩ ?_ ?_
  · rintro i _ H14 hi ⟨⟨b7, b8, rfl⟩, s14⟩
    have ez : (0 : Int) + (i : Nat) = (i : Nat) := Int.zero_add _
    obtain ⟨j, hj, ha1⟩ := at_way i hi
    obtain ⟨v, ha2, _⟩ := at_mem (xs := [tx, V.ref ta, V.int n, V.str ti, V.ref e5]) (r := ((j : Nat) : Int)) (by omega) (by show ((j : Nat) : Int) < ((5 : Nat) : Int); omega)
    refine nm ?_
    refine ⟨_, rfl, _, rfl, _, rfl, _, rfl, _, rfl, (by show 5 ≤ sizeLine; decide), fun q1 hq1 => ?_⟩
    have sk := same_new hq1 (.lst [tx, V.ref ta, V.int n, V.str ti, V.ref e5])
    have g1 : upd H14 q1 (.lst [tx, V.ref ta, V.int n, V.str ti, V.ref e5]) q1 = some (.lst [tx, V.ref ta, V.int n, V.str ti, V.ref e5]) := upd_same
    generalize upd H14 q1 (.lst [tx, V.ref ta, V.int n, V.str ti, V.ref e5]) = H15 at sk g1 ⊢
    refine ⟨(by show 17 ≤ sizeLine; decide), fun q2 hq2 => ?_⟩
    have sl := same_new hq2 (.lst [V.int 0, V.int 1, V.int 2, V.int 0, V.int 0, V.int 0, V.int 0, V.int 0, V.int 0, V.int 0, V.int 0, V.int 0, V.int 3, V.int 4, V.int 2, V.int 0, V.int 0])
    have g2 : upd H15 q2 (.lst [V.int 0, V.int 1, V.int 2, V.int 0, V.int 0, V.int 0, V.int 0, V.int 0, V.int 0, V.int 0, V.int 0, V.int 0, V.int 3, V.int 4, V.int 2, V.int 0, V.int 0]) q2 = some (.lst [V.int 0, V.int 1, V.int 2, V.int 0, V.int 0, V.int 0, V.int 0, V.int 0, V.int 0, V.int 0, V.int 0, V.int 0, V.int 3, V.int 4, V.int 2, V.int 0, V.int 0]) := upd_same
    generalize upd H15 q2 (.lst [V.int 0, V.int 1, V.int 2, V.int 0, V.int 0, V.int 0, V.int 0, V.int 0, V.int 0, V.int 0, V.int 0, V.int 0, V.int 3, V.int 4, V.int 2, V.int 0, V.int 0]) = H16 at sl g2 ⊢
    refine ⟨_, rfl, q2, _, _, .int (j : Int), rfl, rfl, SqL.of g2, by rw [ez]; exact ha1, q1, _, _, v, rfl, rfl, SqL.of (sl _ _ g1), ha2, ?_⟩
    refine nm ?_
    refine ⟨_, rfl, _, rfl, i, v, by rw [ez]; rfl, hi, fun H17 s17 => ⟨_, rfl, iteF ⟨⟨_, _, rfl⟩, s14.trans (sk.trans (sl.trans s17))⟩⟩⟩
  · rintro _ H14 ⟨⟨b7, b8, rfl⟩, s14⟩
    have hT14 := hT13.same s14
    refine ⟨(by show 1 ≤ sizeLine; decide), fun p9 hp9 => ?_⟩
    have sm := same_new hp9 (.lst [.bl true])
    generalize upd H14 p9 (.lst [.bl true]) = H15 at sm ⊢
    refine nm ?_
    refine ⟨_, rfl, rfl, ⟨true, vE, fun _ a ha => ?_, fun z => nomatch z⟩⟩
    refine ⟨_, rfl, rfl, DE, fun _ => false, rfl, vI, .inl rfl, vK, fun l2 H16 s16 hl2 => ?_⟩
    have hT16 := (hT14.same sm).same s16
    have n2 : l2 ∉ Ts := fun z => by obtain ⟨_, k, _⟩ := hT16 _ z; rw [hl2] at k; cases k
    have SS := s14.trans (sm.trans s16)
    refine nm ?_
    have okn : Shn (.int n) := shn_int n0 (by omega)
    have okS : Shn (startD n r5) := shn_start (shn_int (by omega) (by omega)) (shn_int r5a (by omega))
    refine ⟨_, rfl, _, rfl, _, rfl, _, rfl, .ref ta, .ref e5, .tuple [.str ka, .str kb], startD n r5, n, ti, rfl, dp2_ext SS dT, dp2_ext SS dS, shn_pair oka okb, okS, okn, shn_str okt, fun H17 s17 => ⟨_, rfl, iteT ?_⟩⟩
    refine ⟨rfl, hT16.same s17, fun H18 g18 => ⟨_, rfl, iteT ?_⟩⟩
    have hl18 := g18.2 _ _ n2 (s17 _ _ hl2)
    refine ⟨_, rfl, (by show 1 ≤ sizeLine; decide), fun o1 ho1 => ⟨o1, 17, [.bl false], rfl, rfl, upd_same, by decide, by decide, (by show 1 * 17 ≤ sizeLine; decide), fun o2 ho2 => ?_⟩⟩
    have sn := same_new ho1 (.lst [.bl false])
    have so := same_new ho2 (.lst (List.replicate (17 : Int).toNat [V.bl false]).flatten)
    refine ⟨.list ((List.replicate 17 false).map PyData.bool), .list ((List.replicate 17 false).map PyData.bool), .lst (SqL.of ((sn.trans so) _ _ hl18)) (dps_bools (List.replicate 17 false)), .lst (SqL.of upd_same) (dps_bools (List.replicate 17 false)), (by decide +kernel), (by decide +kernel), ?_⟩
    have e : PyData.eqv (.list ((List.replicate 17 false).map PyData.bool)) (.list ((List.replicate 17 false).map PyData.bool)) = true := by
      rw [PyData.eqv]
      exact eqvAll_self _
    rw [e]
    exact q _
end
end K00


set_option Elab.async false
set_option linter.all false
set_option maxRecDepth 100000
set_option maxHeartbeats 8000000
namespace K00
open PySem PySem.Spec PyProof.Rows L2
/-- what the written part says of an error's class -/
structure ErF (K : PySem.W.Frag) (C : Addr) : Prop where
  i : PySem.W.isClsIn K C = true
  ga : PySem.W.findIn K (.ref C) "__getattribute__" = some (some (.builtin "BaseException.__getattribute__"))
  gg : PySem.W.findIn K (.ref C) "__getattr__" = some none
  b : PySem.W.subIn K (.ref C) (.type "BaseException") = some true
  ca : PySem.W.findIn K (.ref C) "__class__" = some (some (.builtin "object.__class__"))
  ob : PySem.W.mroIn K C (.type "object") = some true
  t : PySem.W.typeIn K (.ref C) = some (.type "type")
  k : PySem.W.keepIn K (.ref C) = true
/-- .. and of all classes -/
structure ErG (K : PySem.W.Frag) : Prop where
  gs : PySem.W.specialIn K (.builtin "object.__class__") "__get__" = some (some (.builtin "getset_descriptor.__get__"))
  tk : PySem.W.takesIn K (.builtin "object.__class__") = some true
section
variable {K : PySem.W.Frag} {C E : Addr}
theorem ErF.cls (h : ErF K C) : (PySem.W.clsIn K C).isSome = true := by
  have i := h.i
  cases e : PySem.W.clsIn K C with
  | some _ => rfl
  | none => simp [PySem.W.isClsIn, e] at i
theorem ErF.isC (h : ErF K C) (g : ErG K) : UG.IsC K C := ⟨h.cls, h.ga, ⟨_, h.gg⟩, h.b, h.ca, g.gs, g.tk, h.ob⟩
theorem ErF.xf (h : ErF K C) (d : PySem.W.hasDictIn K C = true) : XfC K C := ⟨h.ga, h.gg, h.b, d⟩
theorem ErF.cl {r : Bool} (h : ErF K E) (s : PySem.W.subIn K (.ref C) (.ref E) = some r) : PySem.W.kitCls K (.ref C) (.ref E) = some r := by
  unfold PySem.W.kitCls
  simp only [h.cls, h.t]
  rw [if_pos (by decide)]
  exact s
theorem ErF.exm {r : Bool} (h : ErF K E) (s : PySem.W.subIn K (.ref C) (.ref E) = some r) : PySem.W.exmOne K (.ref C) (.ref E) = some r := by
  unfold PySem.W.exmOne
  rw [h.b, if_pos (by decide)]
  exact h.cl s
theorem ErF.kitF (h : ErF K E) (n : C ≠ E) (s : PySem.W.subIn K (.ref C) (.ref E) = some false) : PySem.W.kitOne K (.ref C) (.ref E) = some false := by
  unfold PySem.W.kitOne
  rw [if_neg (fun z => n (by simpa using z))]
  exact h.cl s
theorem kitT : PySem.W.kitOne K (.ref C) (.ref C) = some true := by
  unfold PySem.W.kitOne
  rw [if_pos (by simp)]
theorem kitV (s : PySem.W.subIn K (.ref C) (.type "ValueError") = some true) : PySem.W.kitOne K (.ref C) (.type "ValueError") = some true := by
  unfold PySem.W.kitOne
  rw [if_neg (fun z => by have y := eq_of_beq z; cases y)]
  unfold PySem.W.kitCls
  simp only
  rw [if_pos (by decide +kernel)]
  exact s
theorem ErF.rs {mg : Str → Option Value} {n : Str} (h : ErF K C) (g : mg n = some (.ref C)) (x : PySem.W.excIn K C [.type "ValueError", .type "Exception", .type "BaseException", .type "object"] "ValueError.__new__" = true) : RsV K mg n C := ⟨g, x, h.k, h.b, h.t⟩
end
/-- which class stands below which -/
def subTab (K : PySem.W.Frag) (l : List Addr) (DE : Addr) : Bool :=
  ((List.range 17).all fun i => (List.range 17).all fun k => decide (PySem.W.subIn K (.ref (l.getD i 0)) (.ref (l.getD k 0)) = some (decide (i = k)))) &&
  ((List.range 17).all fun i => decide (PySem.W.subIn K (.ref (l.getD i 0)) (.ref DE) = some true)) &&
  ((List.range 17).all fun i => decide (PySem.W.subIn K (.ref DE) (.ref (l.getD i 0)) = some false)) &&
  ((List.range 17).all fun i => decide (PySem.W.subIn K (.ref (l.getD i 0)) (.type "ValueError") = some true)) &&
  decide (PySem.W.subIn K (.ref DE) (.ref DE) = some true)
structure SubT (K : PySem.W.Frag) (Cs : Nat → Addr) (DE : Addr) : Prop where
  cc : ∀ i, i < 17 → ∀ k, k < 17 → PySem.W.subIn K (.ref (Cs i)) (.ref (Cs k)) = some (decide (i = k))
  cd : ∀ i, i < 17 → PySem.W.subIn K (.ref (Cs i)) (.ref DE) = some true
  dc : ∀ i, i < 17 → PySem.W.subIn K (.ref DE) (.ref (Cs i)) = some false
  cv : ∀ i, i < 17 → PySem.W.subIn K (.ref (Cs i)) (.type "ValueError") = some true
  dd : PySem.W.subIn K (.ref DE) (.ref DE) = some true
theorem all17 {p : Nat → Bool} (h : (List.range 17).all p = true) {i : Nat} (hi : i < 17) : p i = true := List.all_eq_true.mp h i (List.mem_range.mpr hi)
theorem subT_of {K : PySem.W.Frag} {l : List Addr} {DE : Addr} (h : subTab K l DE = true) : SubT K (fun i => l.getD i 0) DE := by
  unfold subTab at h
  rw [Bool.and_eq_true, Bool.and_eq_true, Bool.and_eq_true, Bool.and_eq_true] at h
  obtain ⟨⟨⟨⟨h1, h2⟩, h3⟩, h4⟩, h5⟩ := h
  exact ⟨fun i hi k hk => of_decide_eq_true (all17 (all17 h1 hi) hk), fun i hi => of_decide_eq_true (all17 h2 hi), fun i hi => of_decide_eq_true (all17 h3 hi), fun i hi => of_decide_eq_true (all17 h4 hi), of_decide_eq_true h5⟩
section
variable {K : PySem.W.Frag} {Cs : Nat → Addr} {DE : Addr}
theorem fam_of {mg : Str → Option Value} (s : SubT K Cs DE) (g : ErG K) (e : ∀ i, i < 17 → ErF K (Cs i)) (eD : ErF K DE) (d : mg "DeedError" = some (.ref DE)) (v : mg "ValueError" = none) : Fam K mg Cs DE where
  d := d
  v := v
  ko := fun i hi k hk => by
    by_cases z : i = k
    · subst z
      rw [decide_eq_true rfl]
      exact kitT
    · rw [decide_eq_false z]
      refine (e k hk).kitF (fun y => ?_) ((s.cc i hi k hk).trans (by rw [decide_eq_false z]))
      have a := s.cc i hi k hk
      have b := s.cc k hk k hk
      rw [y, b, decide_eq_false z, decide_eq_true rfl] at a
      cases a
  kv := fun i hi => kitV (s.cv i hi)
  ex := fun i hi => eD.exm (s.cd i hi)
  ic := fun i hi => (e i hi).isC g
theorem dk_of (s : SubT K Cs DE) (e : ∀ i, i < 17 → ErF K (Cs i)) : ∀ k, k < 17 → PySem.W.kitOne K (.ref DE) (.ref (Cs k)) = some false := fun k hk => by
  refine (e k hk).kitF (fun y => ?_) (s.dc k hk)
  have a := s.dc k hk
  have b := s.cd k hk
  rw [← y, s.dd] at a b
  cases a
end
def stI1 : Stmt := inClass (topS 3) 0
theorem rsI1 {P : Program} {w : World} {K : PySem.W.Frag} {mg : Str → Option Value} {base : Heap} {f NC cda cc : Addr} {kV doc pm ct oc ccl cl : Value} {an od cdd cld : Option Addr} {osl ccs csl : Array (Option Value)} {vs0 : Array Value} {file : Str} {tf : Tok} {cd : ClassData} (g : mg "NotChecked" = some (.ref NC)) (T : OexC K NC)
    (fN : PySem.W.findIn K (.ref NC) "__init__" = some (some (.ref f))) (tI : PySem.W.typeIn K (.ref f) = some (.type "function"))
    (lk : K.lookup f = some ⟨oc, od, .func (PySem.W.ksFn "__init__" "NotChecked.__init__" (C8.fnArgs stI1) (C8.fnBody stI1) (C8.fnScope stI1) .none kV doc pm an (.ref cda) ct cc), osl⟩) (hcd : PySem.W.codeIn K (.ref cda) "NotChecked.__init__" = true)
    (hcode : K.lookup cda = some ⟨ccl, cdd, .fields vs0, ccs⟩) (hvs : vs0[2]? = some (.str file tf)) (hfile : ((P.main.file : Str) == file) = true)
    (hcell : K.lookup cc = some ⟨cl, cld, .cell (some (.ref NC)), csl⟩) (hD : PySem.W.clsIn K NC = some cd) (hsub : PySem.W.mroIn K NC (.ref NC) = some true) (hsuper : mg "super" = none) (htop : (P.main.scope.names.lookup ("super" : Str)).isSome = false)
    (hm : PySem.W.ks_superIn K NC NC "__init__" = some (some (.builtin "ValueError.__init__"))) (hB : PySem.W.subIn K (.ref NC) (.type "ValueError") = some true) (hop : PySem.W.nsIn K cStatics "thirdparty.any" = some none) (hno : PySem.W.findIn K (.ref NC) "what" = some none) : RsI P w K mg base "NotChecked" "what" NC :=
  ⟨g, T, f, PySem.W.ksFn "__init__" "NotChecked.__init__" (C8.fnArgs stI1) (C8.fnBody stI1) (C8.fnScope stI1) .none kV doc pm an (.ref cda) ct cc, fN, tI, UG.fn_sup (attr := "what") (par := "what") (txt := "the program has a fault") T lk hcd (by decide +kernel) rfl rfl hcode hvs hfile hcell hD hsub hsuper htop hm hB hop hno (fun L => rfl), .all fun us hl => match us, hl with | [_, _], _ => rfl,
    fun s a ws _ hl => match ws, hl with
      | [b], _ => .of_eq rfl
      | [], hl => by cases hl
      | _ :: _ :: _, hl => by simp at hl⟩
def stI2 : Stmt := inClass (topS 4) 0
theorem rsI2 {P : Program} {w : World} {K : PySem.W.Frag} {mg : Str → Option Value} {base : Heap} {f NC cda cc : Addr} {kV doc pm ct oc ccl cl : Value} {an od cdd cld : Option Addr} {osl ccs csl : Array (Option Value)} {vs0 : Array Value} {file : Str} {tf : Tok} {cd : ClassData} (g : mg "BadText" = some (.ref NC)) (T : OexC K NC)
    (fN : PySem.W.findIn K (.ref NC) "__init__" = some (some (.ref f))) (tI : PySem.W.typeIn K (.ref f) = some (.type "function"))
    (lk : K.lookup f = some ⟨oc, od, .func (PySem.W.ksFn "__init__" "BadText.__init__" (C8.fnArgs stI2) (C8.fnBody stI2) (C8.fnScope stI2) .none kV doc pm an (.ref cda) ct cc), osl⟩) (hcd : PySem.W.codeIn K (.ref cda) "BadText.__init__" = true)
    (hcode : K.lookup cda = some ⟨ccl, cdd, .fields vs0, ccs⟩) (hvs : vs0[2]? = some (.str file tf)) (hfile : ((P.main.file : Str) == file) = true)
    (hcell : K.lookup cc = some ⟨cl, cld, .cell (some (.ref NC)), csl⟩) (hD : PySem.W.clsIn K NC = some cd) (hsub : PySem.W.mroIn K NC (.ref NC) = some true) (hsuper : mg "super" = none) (htop : (P.main.scope.names.lookup ("super" : Str)).isSome = false)
    (hm : PySem.W.ks_superIn K NC NC "__init__" = some (some (.builtin "ValueError.__init__"))) (hB : PySem.W.subIn K (.ref NC) (.type "ValueError") = some true) (hop : PySem.W.nsIn K cStatics "thirdparty.any" = some none) (hno : PySem.W.findIn K (.ref NC) "place" = some none) : RsI P w K mg base "BadText" "place" NC :=
  ⟨g, T, f, PySem.W.ksFn "__init__" "BadText.__init__" (C8.fnArgs stI2) (C8.fnBody stI2) (C8.fnScope stI2) .none kV doc pm an (.ref cda) ct cc, fN, tI, UG.fn_sup (attr := "place") (par := "place") (txt := "this is no text of a program") T lk hcd (by decide +kernel) rfl rfl hcode hvs hfile hcell hD hsub hsuper htop hm hB hop hno (fun L => rfl), .all fun us hl => match us, hl with | [_, _], _ => rfl,
    fun s a ws _ hl => match ws, hl with
      | [b], _ => .of_eq rfl
      | [], hl => by cases hl
      | _ :: _ :: _, hl => by simp at hl⟩
def stI12 : Stmt := inClass (topS 14) 0
theorem rsI12 {P : Program} {w : World} {K : PySem.W.Frag} {mg : Str → Option Value} {base : Heap} {f NC cda cc : Addr} {kV doc pm ct oc ccl cl : Value} {an od cdd cld : Option Addr} {osl ccs csl : Array (Option Value)} {vs0 : Array Value} {file : Str} {tf : Tok} {cd : ClassData} (g : mg "NotOne" = some (.ref NC)) (T : OexC K NC)
    (fN : PySem.W.findIn K (.ref NC) "__init__" = some (some (.ref f))) (tI : PySem.W.typeIn K (.ref f) = some (.type "function"))
    (lk : K.lookup f = some ⟨oc, od, .func (PySem.W.ksFn "__init__" "NotOne.__init__" (C8.fnArgs stI12) (C8.fnBody stI12) (C8.fnScope stI12) .none kV doc pm an (.ref cda) ct cc), osl⟩) (hcd : PySem.W.codeIn K (.ref cda) "NotOne.__init__" = true)
    (hcode : K.lookup cda = some ⟨ccl, cdd, .fields vs0, ccs⟩) (hvs : vs0[2]? = some (.str file tf)) (hfile : ((P.main.file : Str) == file) = true)
    (hcell : K.lookup cc = some ⟨cl, cld, .cell (some (.ref NC)), csl⟩) (hD : PySem.W.clsIn K NC = some cd) (hsub : PySem.W.mroIn K NC (.ref NC) = some true) (hsuper : mg "super" = none) (htop : (P.main.scope.names.lookup ("super" : Str)).isSome = false)
    (hm : PySem.W.ks_superIn K NC NC "__init__" = some (some (.builtin "ValueError.__init__"))) (hB : PySem.W.subIn K (.ref NC) (.type "ValueError") = some true) (hop : PySem.W.nsIn K cStatics "thirdparty.any" = some none) (hno : PySem.W.findIn K (.ref NC) "name" = some none) : RsI P w K mg base "NotOne" "name" NC :=
  ⟨g, T, f, PySem.W.ksFn "__init__" "NotOne.__init__" (C8.fnArgs stI12) (C8.fnBody stI12) (C8.fnScope stI12) .none kV doc pm an (.ref cda) ct cc, fN, tI, UG.fn_sup (attr := "name") (par := "name") (txt := "a called procedure leaves several rows") T lk hcd (by decide +kernel) rfl rfl hcode hvs hfile hcell hD hsub hsuper htop hm hB hop hno (fun L => rfl), .all fun us hl => match us, hl with | [_, _], _ => rfl,
    fun s a ws _ hl => match ws, hl with
      | [b], _ => .of_eq rfl
      | [], hl => by cases hl
      | _ :: _ :: _, hl => by simp at hl⟩
def stI13 : Stmt := inClass (topS 15) 0
theorem rsI13 {P : Program} {w : World} {K : PySem.W.Frag} {mg : Str → Option Value} {base : Heap} {f NC cda cc : Addr} {kV doc pm ct oc ccl cl : Value} {an od cdd cld : Option Addr} {osl ccs csl : Array (Option Value)} {vs0 : Array Value} {file : Str} {tf : Tok} {cd : ClassData} (g : mg "Wrong" = some (.ref NC)) (T : OexC K NC)
    (fN : PySem.W.findIn K (.ref NC) "__init__" = some (some (.ref f))) (tI : PySem.W.typeIn K (.ref f) = some (.type "function"))
    (lk : K.lookup f = some ⟨oc, od, .func (PySem.W.ksFn "__init__" "Wrong.__init__" (C8.fnArgs stI13) (C8.fnBody stI13) (C8.fnScope stI13) .none kV doc pm an (.ref cda) ct cc), osl⟩) (hcd : PySem.W.codeIn K (.ref cda) "Wrong.__init__" = true)
    (hcode : K.lookup cda = some ⟨ccl, cdd, .fields vs0, ccs⟩) (hvs : vs0[2]? = some (.str file tf)) (hfile : ((P.main.file : Str) == file) = true)
    (hcell : K.lookup cc = some ⟨cl, cld, .cell (some (.ref NC)), csl⟩) (hD : PySem.W.clsIn K NC = some cd) (hsub : PySem.W.mroIn K NC (.ref NC) = some true) (hsuper : mg "super" = none) (htop : (P.main.scope.names.lookup ("super" : Str)).isSome = false)
    (hm : PySem.W.ks_superIn K NC NC "__init__" = some (some (.builtin "ValueError.__init__"))) (hB : PySem.W.subIn K (.ref NC) (.type "ValueError") = some true) (hop : PySem.W.nsIn K cStatics "thirdparty.any" = some none) (hno : PySem.W.findIn K (.ref NC) "beginning" = some none) : RsI P w K mg base "Wrong" "beginning" NC :=
  ⟨g, T, f, PySem.W.ksFn "__init__" "Wrong.__init__" (C8.fnArgs stI13) (C8.fnBody stI13) (C8.fnScope stI13) .none kV doc pm an (.ref cda) ct cc, fN, tI, UG.fn_sup (attr := "beginning") (par := "beginning") (txt := "a run undoes another deed than the last one that stands") T lk hcd (by decide +kernel) rfl rfl hcode hvs hfile hcell hD hsub hsuper htop hm hB hop hno (fun L => rfl), .all fun us hl => match us, hl with | [_, _], _ => rfl,
    fun s a ws _ hl => match ws, hl with
      | [b], _ => .of_eq rfl
      | [], hl => by cases hl
      | _ :: _ :: _, hl => by simp at hl⟩
def stI14 : Stmt := inClass (topS 16) 0
theorem rsI14 {P : Program} {w : World} {K : PySem.W.Frag} {mg : Str → Option Value} {base : Heap} {f NC cda cc : Addr} {kV doc pm ct oc ccl cl : Value} {an od cdd cld : Option Addr} {osl ccs csl : Array (Option Value)} {vs0 : Array Value} {file : Str} {tf : Tok} {cd : ClassData} (g : mg "NotLet" = some (.ref NC)) (T : OexC K NC)
    (fN : PySem.W.findIn K (.ref NC) "__init__" = some (some (.ref f))) (tI : PySem.W.typeIn K (.ref f) = some (.type "function"))
    (lk : K.lookup f = some ⟨oc, od, .func (PySem.W.ksFn "__init__" "NotLet.__init__" (C8.fnArgs stI14) (C8.fnBody stI14) (C8.fnScope stI14) .none kV doc pm an (.ref cda) ct cc), osl⟩) (hcd : PySem.W.codeIn K (.ref cda) "NotLet.__init__" = true)
    (hcode : K.lookup cda = some ⟨ccl, cdd, .fields vs0, ccs⟩) (hvs : vs0[2]? = some (.str file tf)) (hfile : ((P.main.file : Str) == file) = true)
    (hcell : K.lookup cc = some ⟨cl, cld, .cell (some (.ref NC)), csl⟩) (hD : PySem.W.clsIn K NC = some cd) (hsub : PySem.W.mroIn K NC (.ref NC) = some true) (hsuper : mg "super" = none) (htop : (P.main.scope.names.lookup ("super" : Str)).isSome = false)
    (hm : PySem.W.ks_superIn K NC NC "__init__" = some (some (.builtin "ValueError.__init__"))) (hB : PySem.W.subIn K (.ref NC) (.type "ValueError") = some true) (hop : PySem.W.nsIn K cStatics "thirdparty.any" = some none) (hno : PySem.W.findIn K (.ref NC) "index" = some none) : RsI P w K mg base "NotLet" "index" NC :=
  ⟨g, T, f, PySem.W.ksFn "__init__" "NotLet.__init__" (C8.fnArgs stI14) (C8.fnBody stI14) (C8.fnScope stI14) .none kV doc pm an (.ref cda) ct cc, fN, tI, UG.fn_sup (attr := "index") (par := "index") (txt := "a step is not let") T lk hcd (by decide +kernel) rfl rfl hcode hvs hfile hcell hD hsub hsuper htop hm hB hop hno (fun L => rfl), .all fun us hl => match us, hl with | [_, _], _ => rfl,
    fun s a ws _ hl => match ws, hl with
      | [b], _ => .of_eq rfl
      | [], hl => by cases hl
      | _ :: _ :: _, hl => by simp at hl⟩
end K00


set_option Elab.async false
set_option linter.all false
set_option maxRecDepth 100000
set_option maxHeartbeats 8000000
namespace K00
open PySem PySem.Spec PyProof.Rows L2
/-! ### the end, where the law's own body stands under no guard -/
section
variable {P : Program} {w : World} {K : PySem.W.Frag} {mg mb : Str → Option Value} {fa a : Addr} {cs : List (Addr × Addr)} {s₁ : Shared} {vs : List Value} {ns : List Int}
/-- what is tracked at the call: the script and the tables, or the tables alone -/
structure Few0 (P : Program) (w : World) (K : PySem.W.Frag) (a : Addr) (cs : List (Addr × Addr)) (ns : List Int) (h : Heap) (H : Hp) : Prop where
  tb : ∀ p ∈ cs, H p.2 = some (.tbl #[])
  sq : SqL K H a (ns.map V.int)
  hok : HOk P w H h
  only : ∀ b o, H b = some o → (b ∈ cs.map (·.2) ∧ o = .tbl #[]) ∨ (b = a ∧ b ∉ cs.map (·.2) ∧ ∃ u, o = .frz u (.lst (ns.map V.int)))
  noK : ∀ b, H b ≠ none → K.lookup b = none
theorem few_is (KX : K.In s₁.heap) (hT : ∀ p ∈ cs, s₁.heap.get? p.2 = some { cls := .none, data := .fields #[] }) (nT : ∀ p ∈ cs, K.lookup p.2 = none)
    (ha : s₁.heap.get? a = some { cls := .type "list", data := .seq vs.toArray }) (hi : IntsAre vs ns) (hl : ns.length ≤ sizeLine) : ∃ H : Hp, Few0 P w K a cs ns s₁.heap H := by
  have rv := vals_ints hi
  have tabAt : ∀ b, b ∈ cs.map (·.2) → s₁.heap.get? b = some { cls := .none, data := .fields #[] } := by
    intro b hb
    obtain ⟨p, hp, rfl⟩ := List.mem_map.mp hb
    exact hT p hp
  have apart : a ∉ cs.map (·.2) := by
    intro hb
    have two := (tabAt a hb).symm.trans ha
    cases two
  have memP : ∀ p ∈ cs, p.2 ∈ cs.map (·.2) := fun p hp => List.mem_map.mpr ⟨p, hp, rfl⟩
  let Tt : Hp := fun b => if b ∈ cs.map (·.2) then some (.tbl #[]) else none
  have ttIn : ∀ b, b ∈ cs.map (·.2) → Tt b = some (.tbl #[]) := fun b hb => if_pos hb
  have ttOut : ∀ b, b ∉ cs.map (·.2) → Tt b = none := fun b hb => if_neg hb
  cases hk : K.lookup a with
  | some o =>
    have ho := (KX a o hk).symm.trans ha
    cases ho
    refine ⟨Tt, fun p hp => ttIn _ (memP p hp), .inr ⟨_, vs.toArray, _, hk, rfl, rfl, rfl, ?_, by simpa using rv⟩, fun b u e => ?_, fun b u e => ?_, fun b nb => ?_⟩
    · rw [List.size_toArray, hi.length]
      exact hl
    all_goals by_cases hb : b ∈ cs.map (·.2)
    · rw [ttIn b hb] at e; cases e; exact tabAt b hb
    · rw [ttOut b hb] at e; cases e
    · rw [ttIn b hb] at e; cases e; exact .inl ⟨hb, rfl⟩
    · rw [ttOut b hb] at e; cases e
    · obtain ⟨p, hp, rfl⟩ := List.mem_map.mp hb
      exact nT p hp
    · exact absurd (ttOut b hb) nb
  | none =>
    let ob : Obj := { cls := .type "list", data := .seq vs.toArray }
    have hne : ∀ b, b ∈ cs.map (·.2) → b ≠ a := fun b hb z => apart (z ▸ hb)
    let Ht : Hp := fun b => if b = a then some (.frz ob (.lst (ns.map V.int))) else Tt b
    have atA : Ht a = some (.frz ob (.lst (ns.map V.int))) := if_pos rfl
    have off : ∀ b, b ≠ a → Ht b = Tt b := fun b hb => if_neg hb
    refine ⟨Ht, fun p hp => (off _ (hne _ (memP p hp))).trans (ttIn _ (memP p hp)), .inl (.inr ⟨ob, atA⟩), fun b u e => ?_, fun b u e => ?_, fun b nb => ?_⟩
    all_goals by_cases hba : b = a
    · subst hba
      rw [atA] at e; cases e
      exact ⟨ha, by rw [List.length_map]; exact hl, vs, _, rv, ha⟩
    · rw [off b hba] at e
      by_cases hb : b ∈ cs.map (·.2)
      · rw [ttIn b hb] at e; cases e; exact tabAt b hb
      · rw [ttOut b hb] at e; cases e
    · subst hba
      rw [atA] at e; cases e
      exact .inr ⟨rfl, apart, ob, rfl⟩
    · rw [off b hba] at e
      by_cases hb : b ∈ cs.map (·.2)
      · rw [ttIn b hb] at e; cases e; exact .inl ⟨hb, rfl⟩
      · rw [ttOut b hb] at e; cases e
    · subst hba; exact hk
    · rw [off b hba] at nb
      by_cases hb : b ∈ cs.map (·.2)
      · obtain ⟨p, hp, rfl⟩ := List.mem_map.mp hb
        exact nT p hp
      · exact absurd (ttOut b hb) nb
/-- what the call needs around it -/
theorem env_few {H : Hp} (X : Few0 P w K a cs ns s₁.heap H) (KX : K.In s₁.heap) (hns : s₁.heap.Ns mainGlobals mg) (hb : s₁.heap.Ns builtinsNs mb) (hbb : ∀ x : Str, x ≠ "__name__" → mb x = bootBuiltins x) (hlim : s₁.heap.NoLimit) (hg : s₁.gens = #[])
    (ha : s₁.heap.get? a = some { cls := .type "list", data := .seq vs.toArray }) (hT : ∀ p ∈ cs, s₁.heap.get? p.2 = some { cls := .none, data := .fields #[] }) (C : ∀ p ∈ cs, PySem.W.CodeHd s₁.heap p.1 p.2)
    (hbm : ∃ (bm : Addr) (ob : Obj), mg "__builtins__" = some (.ref bm) ∧ bm ≠ builtinsNs ∧ s₁.heap.get? bm = some ob ∧ ob.cls = .type "module" ∧ ob.dict = some builtinsNs ∧ ob.data = .plain) :
    K.In (hidT s₁.heap H) ∧ (hidT s₁.heap H).Ns mainGlobals mg ∧ (∀ p ∈ cs, LamX.TabB (hidT s₁.heap H) mg p.1 p.2) ∧ Env0 P w K mg (hidT s₁.heap H) callerA [] s₁ H := by
  have stays : ∀ {b : Addr} {o : Obj}, s₁.heap.get? b = some o → H b = none → (hidT s₁.heap H).get? b = some o := fun h n => hidT_get h n
  -- neither the script's kind nor a table's
  have free : ∀ {b : Addr} {o : Obj}, s₁.heap.get? b = some o → (∀ xs n, o.data ≠ .seq xs n) → o.data ≠ .fields #[] → H b = none := by
    intro b o h h1 h2
    cases e : H b with
    | none => rfl
    | some u =>
      exfalso
      rcases X.only b u e with ⟨hm, _⟩ | ⟨rfl, _, _⟩
      · obtain ⟨p, hp, rfl⟩ := List.mem_map.mp hm
        rw [hT p hp] at h; cases h
        exact h2 rfl
      · rw [ha] at h; cases h
        exact h1 _ _ rfl
  have nsKept : ∀ {b : Addr} {m : Str → Option Value}, s₁.heap.Ns b m → (hidT s₁.heap H).Ns b m := by
    rintro b m ⟨o, es, ep, h, hd, r⟩
    exact ⟨o, es, ep, stays h (free h (fun xs n z => by rw [hd] at z; cases z) (fun z => by rw [hd] at z; cases z)), hd, r⟩
  have hK : K.In (hidT s₁.heap H) := by
    intro b o h
    refine stays (KX b o h) ?_
    cases e : H b with
    | none => rfl
    | some u => exact absurd (X.noK b (by rw [e]; intro z; cases z)) (by rw [h]; intro z; cases z)
  obtain ⟨mc, l1, l2⟩ := hlim
  refine ⟨hK, nsKept hns, fun p hp => ⟨?_, ?_, fun z => ?_⟩, ⟨rfl, ⟨hK, nsKept hns, ⟨mb, nsKept hb, hbb⟩, mc, nsKept l1, l2⟩, fun b o h => of_hidT h, Nat.le_of_eq (hidT_size _ _), trivial, fun b hb => (List.not_mem_nil hb).elim, X.hok, .of_eq hg⟩⟩
  · obtain ⟨o, us, file, tf, flags, tg, inF, text, tt, h, c1, c2, c3, c4⟩ := C p hp
    refine ⟨o, us, file, tf, flags, tg, inF, text, tt, stays h (free h (fun xs n z => ?_) fun z => ?_), c1, c2, c3, c4⟩
    · rw [c2] at z; cases z
    · rw [c2] at z; cases z
      simp at c3
  · obtain ⟨bm, ob, b1, b2, b3, b4, b5, b6⟩ := hbm
    refine ⟨bm, ob, b1, b2, fun z => ?_, fun z => ?_, stays b3 (free b3 (fun xs n z => ?_) fun z => ?_), b4, b5, b6⟩
    · obtain ⟨o, es, ep, h, hd, _⟩ := hns
      rw [z, h] at b3; cases b3
      rw [hd] at b6; cases b6
    · rw [z, hT p hp] at b3; cases b3
      cases b6
    · rw [b6] at z; cases z
    · rw [b6] at z; cases z
  · obtain ⟨o, es, ep, h, hd, _⟩ := hns
    rw [z, hT p hp] at h; cases h
    cases hd
/-- the end of the call -/
theorem end_few {H : Hp} (X : Few0 P w K a cs ns s₁.heap H) (hT : ∀ p ∈ cs, s₁.heap.get? p.2 = some { cls := .none, data := .fields #[] }) (C : ∀ p ∈ cs, PySem.W.CodeHd s₁.heap p.1 p.2) {r : Result} {s' : Shared}
    (h : CR C8.CX0 [] P w H s₁ (fun v _ => v = .bl true) (fun _ _ _ => False) r s') : r = .ok (.ret (.bool true)) ∧ OldK s₁.heap s'.heap ∧ s'.os = s₁.os ∧ AllBare s'.gens := by
  match r, h with
  | .error _, h => exact h.elim
  | .ok .next, h => exact False.elim h
  | .ok .brk, h => exact False.elim h
  | .ok .cont, h => exact False.elim h
  | .ok (.ret u), h =>
    obtain ⟨v, H', os, bare, un, hok', ru, hv⟩ := h
    have hv' : v = .bl true := hv
    subst hv'
    have hu : u = Value.bool true := ru
    subst hu
    have same : ∀ b o, b ∉ cs.map (·.2) → s₁.heap.get? b = some o → s'.heap.get? b = some o := by
      intro b o nb h
      cases e : H b with
      | none => exact un.keep b o h e (fun z => (List.not_mem_nil z).elim) (fun z => (List.not_mem_nil z).elim)
      | some t =>
        rcases X.only b t e with ⟨z, _⟩ | ⟨_, _, ob, rfl⟩
        · exact absurd z nb
        · have before := (X.hok b _ e).1
          have after := (hok' b _ (un.frzs b ob _ e)).1
          rw [before] at h; cases h
          exact after
    have more : ∀ p ∈ cs, ∃ xs : Array Value, s'.heap.get? p.2 = some { cls := .none, data := .fields xs } := by
      intro p hp
      obtain ⟨xs, e⟩ := un.tbls p.2 #[] (X.tb p hp)
      exact ⟨_, hok' p.2 _ e⟩
    refine ⟨rfl, ⟨fun b o h => ?_, fun b o h => ?_⟩, os, bare⟩
    · by_cases hb : b ∈ cs.map (·.2)
      · obtain ⟨p, hp, rfl⟩ := List.mem_map.mp hb
        obtain ⟨xs, e⟩ := more p hp
        rw [hT p hp] at h; cases h
        exact .inr (.inl ⟨((C p hp).tab (hT p hp)).isCodeTable, rfl, #[], xs, rfl, by rw [Array.empty_append]; exact e⟩)
      · exact .inl (same b o hb h)
    · by_cases hb : b ∈ cs.map (·.2)
      · obtain ⟨p, hp, rfl⟩ := List.mem_map.mp hb
        obtain ⟨xs, e⟩ := more p hp
        exact ⟨_, e⟩
      · exact ⟨o, same b o hb h⟩
end
end K00


set_option Elab.async false
set_option linter.all false
set_option maxRecDepth 100000
set_option maxHeartbeats 8000000
namespace K00
open PySem PySem.Spec PyProof.Rows L2
theorem walk {l : PySem.W.OpenLaw} {n : Nat} {q : Program} {loose : List Str} {XP : (Str → Option Value) → Heap → Prop} {YP : World → Heap → Prop} {d : DefRec} {K : Params → PySem.W.Frag} {x : Str}
    (hn : l.most = some n) (hn2 : n ≤ 1000) (hdf : d.params.defaults = []) (hY : ∀ (w : World) (h : Heap), YP w h → (K w.params).In h)
    (F : ∀ (w : World) (lo : List Str) (mean : ExcName → Option Value) (mg mb : Str → Option Value) (fa : Addr) (h : Heap), Top q lo mean mg mb h → (K w.params).In h → mg d.name = some (.ref fa) →
      ∃ cs : List (Addr × Addr), (∀ p ∈ cs, h.get? p.2 = some { cls := .none, data := .fields #[] }) ∧ (∀ p ∈ cs, (K w.params).lookup p.2 = none) ∧ (∀ p ∈ cs, PySem.W.CodeHd h p.1 p.2) ∧
        ∀ (base : Heap) (s : Shared) (H : Hp) (a : Addr) (ns : List Int), (∀ p ∈ cs, LamX.TabB base mg p.1 p.2) → Env0 l.prog w (K w.params) mg base callerA [] s H → (∀ p ∈ cs, H p.2 = some (.tbl #[])) → SqL (K w.params) H a (ns.map V.int) → ns.length ≤ 1000 →
          codeAny (model l.prog w) callerA (.call (.ref fa) ⟨[.ref a], []⟩) (CR C8.CX0 [] l.prog w H s (fun v _ => v = .bl true) C8.E0) s) :
    PySem.W.WalkO q loose XP YP l.row.toRowW d [] (fun f vs => PySem.call f vs) := by
  refine Att.attach_callB hn hdf fun w s₀ s₁ mg mb fa o pm cd doc a vs ns G Y ho hd hcd hmg hobj hints hlen hbits hg => ?_
  have KX := hY w _ Y
  obtain ⟨cs, hT, nT, C, run⟩ := F w _ _ mg mb fa _ G.T KX hmg
  obtain ⟨H, X⟩ := few_is (P := l.prog) (w := w) KX hT nT hobj hints (Nat.le_trans (Nat.le_trans hlen hn2) (by decide))
  obtain ⟨_, _, tb, e0⟩ := env_few X KX G.T.g G.T.b G.T.builtins G.T.nolimit hg hobj hT C G.T.bmain
  exact codeAny_mono (run _ s₁ H a ns tb e0 X.tb X.sq (by omega)) fun r s' h => end_few X hT C h
theorem in_kit {K : PySem.W.Frag} {c T fa : Addr} {x : Str} {oc kV dc pm ct oct : Value} {od an odt : Option Addr} {sl slt : Array (Option Value)} {vst : Array Value} {st : Stmt} (a : PySem.W.nsIn K mainGlobals x = some (some (.ref fa)))
    (l : K.lookup fa = some ⟨oc, od, .func (PySem.W.fnOf x x (C8.fnArgs st) (C8.fnBody st) (C8.fnScope st) .none kV dc pm an (.ref c) ct), sl⟩) (t1 : K.lookup c = some ⟨oct, odt, .fields vst, slt⟩) (t2 : vst[11]? = some (.ref T)) : PySem.W.tabIn K x = some (c, T) := by
  unfold PySem.W.tabIn
  rw [a]
  simp only [l]
  show (match K.lookup c with | some ⟨_, _, .fields vs, _⟩ => (match (vs[11]? : Option Value) with | some (.ref P) => some (c, P) | _ => none) | _ => none) = some (c, T)
  rw [t1]
  simp only [t2]
theorem all_mk {l : PySem.W.OpenLaw} {w : World} {K : PySem.W.Frag} {h : Heap} {mg mb : Str → Option Value} {fa : Addr} {q : Program} {lo : List Str} {mean : ExcName → Option Value} (TT : Top q lo mean mg mb h) (X : K.In h) (hfa : mg "law" = some (.ref fa))
    {f20 : Addr} {oc20 kV20 dc20 pm20 ct20 : Value} {cd20 : Value} {od20 an20 : Option Addr} {sl20 : Array (Option Value)}
    {f26 : Addr} {oc26 kV26 dc26 pm26 ct26 : Value} {c26 : Addr} {od26 an26 : Option Addr} {sl26 : Array (Option Value)}
    {f29 : Addr} {oc29 kV29 dc29 pm29 ct29 : Value} {cd29 : Value} {od29 an29 : Option Addr} {sl29 : Array (Option Value)}
    {f39 : Addr} {oc39 kV39 dc39 pm39 ct39 : Value} {c39 : Addr} {od39 an39 : Option Addr} {sl39 : Array (Option Value)}
    {f40 : Addr} {oc40 kV40 dc40 pm40 ct40 : Value} {cd40 : Value} {od40 an40 : Option Addr} {sl40 : Array (Option Value)}
    {f41 : Addr} {oc41 kV41 dc41 pm41 ct41 : Value} {cd41 : Value} {od41 an41 : Option Addr} {sl41 : Array (Option Value)}
    {f42 : Addr} {oc42 kV42 dc42 pm42 ct42 : Value} {cd42 : Value} {od42 an42 : Option Addr} {sl42 : Array (Option Value)}
    {f43 : Addr} {oc43 kV43 dc43 pm43 ct43 : Value} {cd43 : Value} {od43 an43 : Option Addr} {sl43 : Array (Option Value)}
    {f44 : Addr} {oc44 kV44 dc44 pm44 ct44 : Value} {cd44 : Value} {od44 an44 : Option Addr} {sl44 : Array (Option Value)}
    {f47 : Addr} {oc47 kV47 dc47 pm47 ct47 : Value} {cd47 : Value} {od47 an47 : Option Addr} {sl47 : Array (Option Value)}
    {f49 : Addr} {oc49 kV49 dc49 pm49 ct49 : Value} {cd49 : Value} {od49 an49 : Option Addr} {sl49 : Array (Option Value)}
    {f50 : Addr} {oc50 kV50 dc50 pm50 ct50 : Value} {cd50 : Value} {od50 an50 : Option Addr} {sl50 : Array (Option Value)}
    {f51 : Addr} {oc51 kV51 dc51 pm51 ct51 : Value} {cd51 : Value} {od51 an51 : Option Addr} {sl51 : Array (Option Value)}
    {f52 : Addr} {oc52 kV52 dc52 pm52 ct52 : Value} {cd52 : Value} {od52 an52 : Option Addr} {sl52 : Array (Option Value)}
    {f53 : Addr} {oc53 kV53 dc53 pm53 ct53 : Value} {cd53 : Value} {od53 an53 : Option Addr} {sl53 : Array (Option Value)}
    {f55 : Addr} {oc55 kV55 dc55 pm55 ct55 : Value} {cd55 : Value} {od55 an55 : Option Addr} {sl55 : Array (Option Value)}
    {f56 : Addr} {oc56 kV56 dc56 pm56 ct56 : Value} {cd56 : Value} {od56 an56 : Option Addr} {sl56 : Array (Option Value)}
    {f57 : Addr} {oc57 kV57 dc57 pm57 ct57 : Value} {cd57 : Value} {od57 an57 : Option Addr} {sl57 : Array (Option Value)}
    {f58 : Addr} {oc58 kV58 dc58 pm58 ct58 : Value} {cd58 : Value} {od58 an58 : Option Addr} {sl58 : Array (Option Value)}
    {f59 : Addr} {oc59 kV59 dc59 pm59 ct59 : Value} {cd59 : Value} {od59 an59 : Option Addr} {sl59 : Array (Option Value)}
    {f60 : Addr} {oc60 kV60 dc60 pm60 ct60 : Value} {cd60 : Value} {od60 an60 : Option Addr} {sl60 : Array (Option Value)}
    {f61 : Addr} {oc61 kV61 dc61 pm61 ct61 : Value} {cd61 : Value} {od61 an61 : Option Addr} {sl61 : Array (Option Value)}
    {f62 : Addr} {oc62 kV62 dc62 pm62 ct62 : Value} {cd62 : Value} {od62 an62 : Option Addr} {sl62 : Array (Option Value)}
    {f63 : Addr} {oc63 kV63 dc63 pm63 ct63 : Value} {cd63 : Value} {od63 an63 : Option Addr} {sl63 : Array (Option Value)}
    {fm0 : Addr} {ocm0 kVm0 dcm0 pmm0 ctm0 : Value} {cdm0 : Value} {odm0 anm0 : Option Addr} {slm0 : Array (Option Value)}
    {fm1 : Addr} {ocm1 kVm1 dcm1 pmm1 ctm1 : Value} {cdm1 : Value} {odm1 anm1 : Option Addr} {slm1 : Array (Option Value)}
    {fm2 : Addr} {ocm2 kVm2 dcm2 pmm2 ctm2 : Value} {cdm2 : Value} {odm2 anm2 : Option Addr} {slm2 : Array (Option Value)}
    {fm3 : Addr} {ocm3 kVm3 dcm3 pmm3 ctm3 : Value} {cdm3 : Value} {odm3 anm3 : Option Addr} {slm3 : Array (Option Value)}
    {fm4 : Addr} {ocm4 kVm4 dcm4 pmm4 ctm4 : Value} {cdm4 : Value} {odm4 anm4 : Option Addr} {slm4 : Array (Option Value)}
    {fm5 : Addr} {ocm5 kVm5 dcm5 pmm5 ctm5 : Value} {cdm5 : Value} {odm5 anm5 : Option Addr} {slm5 : Array (Option Value)}
    {fm6 : Addr} {ocm6 kVm6 dcm6 pmm6 ctm6 : Value} {cdm6 : Value} {odm6 anm6 : Option Addr} {slm6 : Array (Option Value)}
    {fm7 : Addr} {ocm7 kVm7 dcm7 pmm7 ctm7 : Value} {cdm7 : Value} {odm7 anm7 : Option Addr} {slm7 : Array (Option Value)}
    {fm8 : Addr} {ocm8 kVm8 dcm8 pmm8 ctm8 : Value} {cdm8 : Value} {odm8 anm8 : Option Addr} {slm8 : Array (Option Value)}
    {fm9 : Addr} {ocm9 kVm9 dcm9 pmm9 ctm9 : Value} {cdm9 : Value} {odm9 anm9 : Option Addr} {slm9 : Array (Option Value)}
    {uMOST_OPEN : Tok} {uMOST_SIGNS : Tok} {uMOST_LETTERS : Tok} {uMOST_PROCEDURES : Tok} {uLEAST_BODIES : Tok} {uMOST_BODIES : Tok} {uMOST_IN_BODY : Tok} {uMOST_STATEMENTS : Tok} {uLONGEST_CHAIN : Tok} {uS uW : Tok} {kw CL DE : Addr} {odkw : Option Addr} {itkw : Array Value} {nkw : Nat} {slkw : Array (Option Value)}
    {T26 : Addr} {oct26 : Value} {odt26 : Option Addr} {vst26 : Array Value} {slt26 : Array (Option Value)} {d26 : DefRec} {T39 : Addr} {oct39 : Value} {odt39 : Option Addr} {vst39 : Array Value} {slt39 : Array (Option Value)} {d39 : DefRec} 
    {E0 E1 E2 E3 E4 E5 E6 E7 E8 E9 E10 E11 E12 E13 E14 E15 E16 : Addr}
    {nmN1 : String} {qN1 : Str} {NN1 fI1 cda1 cc1 : Addr} {bsN1 bmN1 : List Value} {snN1 : List Str} {subN1 : List Value} {abN1 : Bool} {colN1 : Option Bool} {ddN1 : Option Addr} {kk01 kk11 kk21 kk31 kk51 : Option Value} {kVI1 dcI1 pmI1 ctI1 ocI1 ccl1 cl1 : Value} {anI1 odI1 cdd1 cld1 : Option Addr} {slI1 ccs1 csl1 : Array (Option Value)} {vs01 : Array Value} {file1 : Str} {tf1 : Tok} {cdN1 : ClassData}
    {nmN2 : String} {qN2 : Str} {NN2 fI2 cda2 cc2 : Addr} {bsN2 bmN2 : List Value} {snN2 : List Str} {subN2 : List Value} {abN2 : Bool} {colN2 : Option Bool} {ddN2 : Option Addr} {kk02 kk12 kk22 kk32 kk52 : Option Value} {kVI2 dcI2 pmI2 ctI2 ocI2 ccl2 cl2 : Value} {anI2 odI2 cdd2 cld2 : Option Addr} {slI2 ccs2 csl2 : Array (Option Value)} {vs02 : Array Value} {file2 : Str} {tf2 : Tok} {cdN2 : ClassData}
    {nmN12 : String} {qN12 : Str} {NN12 fI12 cda12 cc12 : Addr} {bsN12 bmN12 : List Value} {snN12 : List Str} {subN12 : List Value} {abN12 : Bool} {colN12 : Option Bool} {ddN12 : Option Addr} {kk012 kk112 kk212 kk312 kk512 : Option Value} {kVI12 dcI12 pmI12 ctI12 ocI12 ccl12 cl12 : Value} {anI12 odI12 cdd12 cld12 : Option Addr} {slI12 ccs12 csl12 : Array (Option Value)} {vs012 : Array Value} {file12 : Str} {tf12 : Tok} {cdN12 : ClassData}
    {nmN13 : String} {qN13 : Str} {NN13 fI13 cda13 cc13 : Addr} {bsN13 bmN13 : List Value} {snN13 : List Str} {subN13 : List Value} {abN13 : Bool} {colN13 : Option Bool} {ddN13 : Option Addr} {kk013 kk113 kk213 kk313 kk513 : Option Value} {kVI13 dcI13 pmI13 ctI13 ocI13 ccl13 cl13 : Value} {anI13 odI13 cdd13 cld13 : Option Addr} {slI13 ccs13 csl13 : Array (Option Value)} {vs013 : Array Value} {file13 : Str} {tf13 : Tok} {cdN13 : ClassData}
    {nmN14 : String} {qN14 : Str} {NN14 fI14 cda14 cc14 : Addr} {bsN14 bmN14 : List Value} {snN14 : List Str} {subN14 : List Value} {abN14 : Bool} {colN14 : Option Bool} {ddN14 : Option Addr} {kk014 kk114 kk214 kk314 kk514 : Option Value} {kVI14 dcI14 pmI14 ctI14 ocI14 ccl14 cl14 : Value} {anI14 odI14 cdd14 cld14 : Option Addr} {slI14 ccs14 csl14 : Array (Option Value)} {vs014 : Array Value} {file14 : Str} {tf14 : Tok} {cdN14 : ClassData}
    
    (a20 : PySem.W.nsIn K mainGlobals "is_row" = some (some (.ref f20))) (l20 : K.lookup f20 = some ⟨oc20, od20, .func (PySem.W.fnOf "is_row" "is_row" (C8.fnArgs (topS 20)) (C8.fnBody (topS 20)) (C8.fnScope (topS 20)) .none kV20 dc20 pm20 an20 cd20 ct20), sl20⟩) (c20h : PySem.W.codeIn K cd20 "is_row" = true) (k20 : PySem.W.keepIn K (.ref f20) = true)
    (a26 : PySem.W.nsIn K mainGlobals "is_name" = some (some (.ref f26))) (l26 : K.lookup f26 = some ⟨oc26, od26, .func (PySem.W.fnOf "is_name" "is_name" (C8.fnArgs (topS 26)) (C8.fnBody (topS 26)) (C8.fnScope (topS 26)) .none kV26 dc26 pm26 an26 (.ref c26) ct26), sl26⟩) (c26h : PySem.W.codeIn K (.ref c26) "is_name" = true) (k26 : PySem.W.keepIn K (.ref f26) = true)
    (a29 : PySem.W.nsIn K mainGlobals "split_words" = some (some (.ref f29))) (l29 : K.lookup f29 = some ⟨oc29, od29, .func (PySem.W.fnOf "split_words" "split_words" (C8.fnArgs (topS 29)) (C8.fnBody (topS 29)) (C8.fnScope (topS 29)) .none kV29 dc29 pm29 an29 cd29 ct29), sl29⟩) (c29h : PySem.W.codeIn K cd29 "split_words" = true) (k29 : PySem.W.keepIn K (.ref f29) = true)
    (a39 : PySem.W.nsIn K mainGlobals "is_program" = some (some (.ref f39))) (l39 : K.lookup f39 = some ⟨oc39, od39, .func (PySem.W.fnOf "is_program" "is_program" (C8.fnArgs (topS 39)) (C8.fnBody (topS 39)) (C8.fnScope (topS 39)) .none kV39 dc39 pm39 an39 (.ref c39) ct39), sl39⟩) (c39h : PySem.W.codeIn K (.ref c39) "is_program" = true) (k39 : PySem.W.keepIn K (.ref f39) = true)
    (a40 : PySem.W.nsIn K mainGlobals "_are_bodies" = some (some (.ref f40))) (l40 : K.lookup f40 = some ⟨oc40, od40, .func (PySem.W.fnOf "_are_bodies" "_are_bodies" (C8.fnArgs (topS 40)) (C8.fnBody (topS 40)) (C8.fnScope (topS 40)) .none kV40 dc40 pm40 an40 cd40 ct40), sl40⟩) (c40h : PySem.W.codeIn K cd40 "_are_bodies" = true) (k40 : PySem.W.keepIn K (.ref f40) = true)
    (a41 : PySem.W.nsIn K mainGlobals "_is_statement" = some (some (.ref f41))) (l41 : K.lookup f41 = some ⟨oc41, od41, .func (PySem.W.fnOf "_is_statement" "_is_statement" (C8.fnArgs (topS 41)) (C8.fnBody (topS 41)) (C8.fnScope (topS 41)) .none kV41 dc41 pm41 an41 cd41 ct41), sl41⟩) (c41h : PySem.W.codeIn K cd41 "_is_statement" = true) (k41 : PySem.W.keepIn K (.ref f41) = true)
    (a42 : PySem.W.nsIn K mainGlobals "bodies_of" = some (some (.ref f42))) (l42 : K.lookup f42 = some ⟨oc42, od42, .func (PySem.W.fnOf "bodies_of" "bodies_of" (C8.fnArgs (topS 42)) (C8.fnBody (topS 42)) (C8.fnScope (topS 42)) .none kV42 dc42 pm42 an42 cd42 ct42), sl42⟩) (c42h : PySem.W.codeIn K cd42 "bodies_of" = true) (k42 : PySem.W.keepIn K (.ref f42) = true)
    (a43 : PySem.W.nsIn K mainGlobals "want_program" = some (some (.ref f43))) (l43 : K.lookup f43 = some ⟨oc43, od43, .func (PySem.W.fnOf "want_program" "want_program" (C8.fnArgs (topS 43)) (C8.fnBody (topS 43)) (C8.fnScope (topS 43)) .none kV43 dc43 pm43 an43 cd43 ct43), sl43⟩) (c43h : PySem.W.codeIn K cd43 "want_program" = true) (k43 : PySem.W.keepIn K (.ref f43) = true)
    (a44 : PySem.W.nsIn K mainGlobals "write_program" = some (some (.ref f44))) (l44 : K.lookup f44 = some ⟨oc44, od44, .func (PySem.W.fnOf "write_program" "write_program" (C8.fnArgs (topS 44)) (C8.fnBody (topS 44)) (C8.fnScope (topS 44)) .none kV44 dc44 pm44 an44 cd44 ct44), sl44⟩) (c44h : PySem.W.codeIn K cd44 "write_program" = true) (k44 : PySem.W.keepIn K (.ref f44) = true)
    (a47 : PySem.W.nsIn K mainGlobals "read_program" = some (some (.ref f47))) (l47 : K.lookup f47 = some ⟨oc47, od47, .func (PySem.W.fnOf "read_program" "read_program" (C8.fnArgs (topS 47)) (C8.fnBody (topS 47)) (C8.fnScope (topS 47)) .none kV47 dc47 pm47 an47 cd47 ct47), sl47⟩) (c47h : PySem.W.codeIn K cd47 "read_program" = true) (k47 : PySem.W.keepIn K (.ref f47) = true)
    (a49 : PySem.W.nsIn K mainGlobals "check" = some (some (.ref f49))) (l49 : K.lookup f49 = some ⟨oc49, od49, .func (PySem.W.fnOf "check" "check" (C8.fnArgs (topS 49)) (C8.fnBody (topS 49)) (C8.fnScope (topS 49)) .none kV49 dc49 pm49 an49 cd49 ct49), sl49⟩) (c49h : PySem.W.codeIn K cd49 "check" = true) (k49 : PySem.W.keepIn K (.ref f49) = true)
    (a50 : PySem.W.nsIn K mainGlobals "_first_double" = some (some (.ref f50))) (l50 : K.lookup f50 = some ⟨oc50, od50, .func (PySem.W.fnOf "_first_double" "_first_double" (C8.fnArgs (topS 50)) (C8.fnBody (topS 50)) (C8.fnScope (topS 50)) .none kV50 dc50 pm50 an50 cd50 ct50), sl50⟩) (c50h : PySem.W.codeIn K cd50 "_first_double" = true) (k50 : PySem.W.keepIn K (.ref f50) = true)
    (a51 : PySem.W.nsIn K mainGlobals "_body_fault" = some (some (.ref f51))) (l51 : K.lookup f51 = some ⟨oc51, od51, .func (PySem.W.fnOf "_body_fault" "_body_fault" (C8.fnArgs (topS 51)) (C8.fnBody (topS 51)) (C8.fnScope (topS 51)) .none kV51 dc51 pm51 an51 cd51 ct51), sl51⟩) (c51h : PySem.W.codeIn K cd51 "_body_fault" = true) (k51 : PySem.W.keepIn K (.ref f51) = true)
    (a52 : PySem.W.nsIn K mainGlobals "_find_statements" = some (some (.ref f52))) (l52 : K.lookup f52 = some ⟨oc52, od52, .func (PySem.W.fnOf "_find_statements" "_find_statements" (C8.fnArgs (topS 52)) (C8.fnBody (topS 52)) (C8.fnScope (topS 52)) .none kV52 dc52 pm52 an52 cd52 ct52), sl52⟩) (c52h : PySem.W.codeIn K cd52 "_find_statements" = true) (k52 : PySem.W.keepIn K (.ref f52) = true)
    (a53 : PySem.W.nsIn K mainGlobals "checked" = some (some (.ref f53))) (l53 : K.lookup f53 = some ⟨oc53, od53, .func (PySem.W.fnOf "checked" "checked" (C8.fnArgs (topS 53)) (C8.fnBody (topS 53)) (C8.fnScope (topS 53)) .none kV53 dc53 pm53 an53 cd53 ct53), sl53⟩) (c53h : PySem.W.codeIn K cd53 "checked" = true) (k53 : PySem.W.keepIn K (.ref f53) = true)
    (a55 : PySem.W.nsIn K mainGlobals "_law_well" = some (some (.ref f55))) (l55 : K.lookup f55 = some ⟨oc55, od55, .func (PySem.W.fnOf "_law_well" "_law_well" (C8.fnArgs (topS 55)) (C8.fnBody (topS 55)) (C8.fnScope (topS 55)) .none kV55 dc55 pm55 an55 cd55 ct55), sl55⟩) (c55h : PySem.W.codeIn K cd55 "_law_well" = true) (k55 : PySem.W.keepIn K (.ref f55) = true)
    (a56 : PySem.W.nsIn K mainGlobals "_law_draw" = some (some (.ref f56))) (l56 : K.lookup f56 = some ⟨oc56, od56, .func (PySem.W.fnOf "_law_draw" "_law_draw" (C8.fnArgs (topS 56)) (C8.fnBody (topS 56)) (C8.fnScope (topS 56)) .none kV56 dc56 pm56 an56 cd56 ct56), sl56⟩) (c56h : PySem.W.codeIn K cd56 "_law_draw" = true) (k56 : PySem.W.keepIn K (.ref f56) = true)
    (a57 : PySem.W.nsIn K mainGlobals "_law_raised" = some (some (.ref f57))) (l57 : K.lookup f57 = some ⟨oc57, od57, .func (PySem.W.fnOf "_law_raised" "_law_raised" (C8.fnArgs (topS 57)) (C8.fnBody (topS 57)) (C8.fnScope (topS 57)) .none kV57 dc57 pm57 an57 cd57 ct57), sl57⟩) (c57h : PySem.W.codeIn K cd57 "_law_raised" = true) (k57 : PySem.W.keepIn K (.ref f57) = true)
    (a58 : PySem.W.nsIn K mainGlobals "_law_raised_more" = some (some (.ref f58))) (l58 : K.lookup f58 = some ⟨oc58, od58, .func (PySem.W.fnOf "_law_raised_more" "_law_raised_more" (C8.fnArgs (topS 58)) (C8.fnBody (topS 58)) (C8.fnScope (topS 58)) .none kV58 dc58 pm58 an58 cd58 ct58), sl58⟩) (c58h : PySem.W.codeIn K cd58 "_law_raised_more" = true) (k58 : PySem.W.keepIn K (.ref f58) = true)
    (a59 : PySem.W.nsIn K mainGlobals "_law_classes" = some (some (.ref f59))) (l59 : K.lookup f59 = some ⟨oc59, od59, .func (PySem.W.fnOf "_law_classes" "_law_classes" (C8.fnArgs (topS 59)) (C8.fnBody (topS 59)) (C8.fnScope (topS 59)) .none kV59 dc59 pm59 an59 cd59 ct59), sl59⟩) (c59h : PySem.W.codeIn K cd59 "_law_classes" = true) (k59 : PySem.W.keepIn K (.ref f59) = true)
    (a60 : PySem.W.nsIn K mainGlobals "_law_way_right" = some (some (.ref f60))) (l60 : K.lookup f60 = some ⟨oc60, od60, .func (PySem.W.fnOf "_law_way_right" "_law_way_right" (C8.fnArgs (topS 60)) (C8.fnBody (topS 60)) (C8.fnScope (topS 60)) .none kV60 dc60 pm60 an60 cd60 ct60), sl60⟩) (c60h : PySem.W.codeIn K cd60 "_law_way_right" = true) (k60 : PySem.W.keepIn K (.ref f60) = true)
    (a61 : PySem.W.nsIn K mainGlobals "_law_fields_right" = some (some (.ref f61))) (l61 : K.lookup f61 = some ⟨oc61, od61, .func (PySem.W.fnOf "_law_fields_right" "_law_fields_right" (C8.fnArgs (topS 61)) (C8.fnBody (topS 61)) (C8.fnScope (topS 61)) .none kV61 dc61 pm61 an61 cd61 ct61), sl61⟩) (c61h : PySem.W.codeIn K cd61 "_law_fields_right" = true) (k61 : PySem.W.keepIn K (.ref f61) = true)
    (a62 : PySem.W.nsIn K mainGlobals "_law_by_hand" = some (some (.ref f62))) (l62 : K.lookup f62 = some ⟨oc62, od62, .func (PySem.W.fnOf "_law_by_hand" "_law_by_hand" (C8.fnArgs (topS 62)) (C8.fnBody (topS 62)) (C8.fnScope (topS 62)) .none kV62 dc62 pm62 an62 cd62 ct62), sl62⟩) (c62h : PySem.W.codeIn K cd62 "_law_by_hand" = true) (k62 : PySem.W.keepIn K (.ref f62) = true)
    (a63 : PySem.W.nsIn K mainGlobals "law" = some (some (.ref f63))) (l63 : K.lookup f63 = some ⟨oc63, od63, .func (PySem.W.fnOf "law" "law" (C8.fnArgs (topS 63)) (C8.fnBody (topS 63)) (C8.fnScope (topS 63)) .none kV63 dc63 pm63 an63 cd63 ct63), sl63⟩) (c63h : PySem.W.codeIn K cd63 "law" = true) (k63 : PySem.W.keepIn K (.ref f63) = true)
    (am0 : PySem.W.findIn K (.ref CL) "__init__" = some (some (.ref fm0))) (im0 : PySem.W.isFn K (.ref fm0) = true) (lm0 : K.lookup fm0 = some ⟨ocm0, odm0, .func (PySem.W.fnOf "__init__" "Reader.__init__" (C8.fnArgs (inClass (topS 30) 0)) (C8.fnBody (inClass (topS 30) 0)) (C8.fnScope (inClass (topS 30) 0)) .none kVm0 dcm0 pmm0 anm0 cdm0 ctm0), slm0⟩) (cm0h : PySem.W.codeIn K cdm0 "Reader.__init__" = true) (km0 : PySem.W.keepIn K (.ref fm0) = true)
    (am1 : PySem.W.findIn K (.ref CL) "word" = some (some (.ref fm1))) (im1 : PySem.W.isFn K (.ref fm1) = true) (lm1 : K.lookup fm1 = some ⟨ocm1, odm1, .func (PySem.W.fnOf "word" "Reader.word" (C8.fnArgs (inClass (topS 30) 1)) (C8.fnBody (inClass (topS 30) 1)) (C8.fnScope (inClass (topS 30) 1)) .none kVm1 dcm1 pmm1 anm1 cdm1 ctm1), slm1⟩) (cm1h : PySem.W.codeIn K cdm1 "Reader.word" = true) (km1 : PySem.W.keepIn K (.ref fm1) = true)
    (am2 : PySem.W.findIn K (.ref CL) "refuse" = some (some (.ref fm2))) (im2 : PySem.W.isFn K (.ref fm2) = true) (lm2 : K.lookup fm2 = some ⟨ocm2, odm2, .func (PySem.W.fnOf "refuse" "Reader.refuse" (C8.fnArgs (inClass (topS 30) 2)) (C8.fnBody (inClass (topS 30) 2)) (C8.fnScope (inClass (topS 30) 2)) .none kVm2 dcm2 pmm2 anm2 cdm2 ctm2), slm2⟩) (cm2h : PySem.W.codeIn K cdm2 "Reader.refuse" = true) (km2 : PySem.W.keepIn K (.ref fm2) = true)
    (am3 : PySem.W.findIn K (.ref CL) "take" = some (some (.ref fm3))) (im3 : PySem.W.isFn K (.ref fm3) = true) (lm3 : K.lookup fm3 = some ⟨ocm3, odm3, .func (PySem.W.fnOf "take" "Reader.take" (C8.fnArgs (inClass (topS 30) 3)) (C8.fnBody (inClass (topS 30) 3)) (C8.fnScope (inClass (topS 30) 3)) .none kVm3 dcm3 pmm3 anm3 cdm3 ctm3), slm3⟩) (cm3h : PySem.W.codeIn K cdm3 "Reader.take" = true) (km3 : PySem.W.keepIn K (.ref fm3) = true)
    (am4 : PySem.W.findIn K (.ref CL) "take_name" = some (some (.ref fm4))) (im4 : PySem.W.isFn K (.ref fm4) = true) (lm4 : K.lookup fm4 = some ⟨ocm4, odm4, .func (PySem.W.fnOf "take_name" "Reader.take_name" (C8.fnArgs (inClass (topS 30) 4)) (C8.fnBody (inClass (topS 30) 4)) (C8.fnScope (inClass (topS 30) 4)) .none kVm4 dcm4 pmm4 anm4 cdm4 ctm4), slm4⟩) (cm4h : PySem.W.codeIn K cdm4 "Reader.take_name" = true) (km4 : PySem.W.keepIn K (.ref fm4) = true)
    (am5 : PySem.W.findIn K (.ref CL) "whole" = some (some (.ref fm5))) (im5 : PySem.W.isFn K (.ref fm5) = true) (lm5 : K.lookup fm5 = some ⟨ocm5, odm5, .func (PySem.W.fnOf "whole" "Reader.whole" (C8.fnArgs (inClass (topS 30) 5)) (C8.fnBody (inClass (topS 30) 5)) (C8.fnScope (inClass (topS 30) 5)) .none kVm5 dcm5 pmm5 anm5 cdm5 ctm5), slm5⟩) (cm5h : PySem.W.codeIn K cdm5 "Reader.whole" = true) (km5 : PySem.W.keepIn K (.ref fm5) = true)
    (am6 : PySem.W.findIn K (.ref CL) "procedure" = some (some (.ref fm6))) (im6 : PySem.W.isFn K (.ref fm6) = true) (lm6 : K.lookup fm6 = some ⟨ocm6, odm6, .func (PySem.W.fnOf "procedure" "Reader.procedure" (C8.fnArgs (inClass (topS 30) 6)) (C8.fnBody (inClass (topS 30) 6)) (C8.fnScope (inClass (topS 30) 6)) .none kVm6 dcm6 pmm6 anm6 cdm6 ctm6), slm6⟩) (cm6h : PySem.W.codeIn K cdm6 "Reader.procedure" = true) (km6 : PySem.W.keepIn K (.ref fm6) = true)
    (am7 : PySem.W.findIn K (.ref CL) "body" = some (some (.ref fm7))) (im7 : PySem.W.isFn K (.ref fm7) = true) (lm7 : K.lookup fm7 = some ⟨ocm7, odm7, .func (PySem.W.fnOf "body" "Reader.body" (C8.fnArgs (inClass (topS 30) 7)) (C8.fnBody (inClass (topS 30) 7)) (C8.fnScope (inClass (topS 30) 7)) .none kVm7 dcm7 pmm7 anm7 cdm7 ctm7), slm7⟩) (cm7h : PySem.W.codeIn K cdm7 "Reader.body" = true) (km7 : PySem.W.keepIn K (.ref fm7) = true)
    (am8 : PySem.W.findIn K (.ref CL) "statement" = some (some (.ref fm8))) (im8 : PySem.W.isFn K (.ref fm8) = true) (lm8 : K.lookup fm8 = some ⟨ocm8, odm8, .func (PySem.W.fnOf "statement" "Reader.statement" (C8.fnArgs (inClass (topS 30) 8)) (C8.fnBody (inClass (topS 30) 8)) (C8.fnScope (inClass (topS 30) 8)) .none kVm8 dcm8 pmm8 anm8 cdm8 ctm8), slm8⟩) (cm8h : PySem.W.codeIn K cdm8 "Reader.statement" = true) (km8 : PySem.W.keepIn K (.ref fm8) = true)
    (am9 : PySem.W.findIn K (.ref CL) "plain" = some (some (.ref fm9))) (im9 : PySem.W.isFn K (.ref fm9) = true) (lm9 : K.lookup fm9 = some ⟨ocm9, odm9, .func (PySem.W.fnOf "plain" "Reader.plain" (C8.fnArgs (inClass (topS 30) 9)) (C8.fnBody (inClass (topS 30) 9)) (C8.fnScope (inClass (topS 30) 9)) .none kVm9 dcm9 pmm9 anm9 cdm9 ctm9), slm9⟩) (cm9h : PySem.W.codeIn K cdm9 "Reader.plain" = true) (km9 : PySem.W.keepIn K (.ref fm9) = true)
    (zisinstance : PySem.W.nsIn K mainGlobals "isinstance" = some none) (zint : PySem.W.nsIn K mainGlobals "int" = some none) (zbool : PySem.W.nsIn K mainGlobals "bool" = some none) (zstr : PySem.W.nsIn K mainGlobals "str" = some none) (ztuple : PySem.W.nsIn K mainGlobals "tuple" = some none) (zlen : PySem.W.nsIn K mainGlobals "len" = some none) (zall : PySem.W.nsIn K mainGlobals "all" = some none) (zrange : PySem.W.nsIn K mainGlobals "range" = some none) (zenumerate : PySem.W.nsIn K mainGlobals "enumerate" = some none) (zlist : PySem.W.nsIn K mainGlobals "list" = some none) (zset : PySem.W.nsIn K mainGlobals "set" = some none) (zrepr : PySem.W.nsIn K mainGlobals "repr" = some none) (zsuper : PySem.W.nsIn K mainGlobals "super" = some none) (zValueError : PySem.W.nsIn K mainGlobals "ValueError" = some none) 
    (mMOST_OPEN : PySem.W.nsIn K mainGlobals "MOST_OPEN" = some (some (.int 39 uMOST_OPEN))) (mMOST_SIGNS : PySem.W.nsIn K mainGlobals "MOST_SIGNS" = some (some (.int 10 uMOST_SIGNS))) (mMOST_LETTERS : PySem.W.nsIn K mainGlobals "MOST_LETTERS" = some (some (.int 20 uMOST_LETTERS))) (mMOST_PROCEDURES : PySem.W.nsIn K mainGlobals "MOST_PROCEDURES" = some (some (.int 8 uMOST_PROCEDURES))) (mLEAST_BODIES : PySem.W.nsIn K mainGlobals "LEAST_BODIES" = some (some (.int 2 uLEAST_BODIES))) (mMOST_BODIES : PySem.W.nsIn K mainGlobals "MOST_BODIES" = some (some (.int 6 uMOST_BODIES))) (mMOST_IN_BODY : PySem.W.nsIn K mainGlobals "MOST_IN_BODY" = some (some (.int 60 uMOST_IN_BODY))) (mMOST_STATEMENTS : PySem.W.nsIn K mainGlobals "MOST_STATEMENTS" = some (some (.int 200 uMOST_STATEMENTS))) (mLONGEST_CHAIN : PySem.W.nsIn K mainGlobals "LONGEST_CHAIN" = some (some (.int 12 uLONGEST_CHAIN))) 
    (mS : PySem.W.nsIn K mainGlobals "SMALL_LETTERS" = some (some (.str smallL uS))) (mW : PySem.W.nsIn K mainGlobals "WORD_SIGNS" = some (some (.str wordS uW)))
    (mK : PySem.W.nsIn K mainGlobals "KEPT_WORDS" = some (some (.ref kw))) (mL : PySem.W.nsIn K mainGlobals "Reader" = some (some (.ref CL)))
    (lK : K.lookup kw = some ⟨.type "tuple", odkw, .seq itkw nkw, slkw⟩)
    (pgC : PySem.W.plainGet K CL Str.empty = true) (hdC : PySem.W.hasDictIn K CL = true) (poC : PySem.W.plainOver K CL = true) (saC : PySem.W.findIn K (.ref CL) "__setattr__" = some (some (.builtin "object.__setattr__"))) (mkC : PySem.W.makesIn K CL = true) (kcC : PySem.W.keepIn K (.ref CL) = true)
    (n1 : PySem.W.findIn K (.ref CL) "words" = some none) (n2 : PySem.W.findIn K (.ref CL) "at" = some none) (n3 : PySem.W.findIn K (.ref CL) "depth" = some none)
    (vK : Vals (keptW.map V.str) itkw.toList) (wK : itkw.size ≤ sizeLine)
    (t126 : K.lookup c26 = some ⟨oct26, odt26, .fields vst26, slt26⟩) (t226 : vst26[11]? = some (.ref T26)) (t326 : K.lookup T26 = none) (t426 : (recsOf q).find? (fun e => e.name == ("is_name" : Str)) = some d26)
    (t139 : K.lookup c39 = some ⟨oct39, odt39, .fields vst39, slt39⟩) (t239 : vst39[11]? = some (.ref T39)) (t339 : K.lookup T39 = none) (t439 : (recsOf q).find? (fun e => e.name == ("is_program" : Str)) = some d39)
    (gD : PySem.W.nsIn K mainGlobals "DeedError" = some (some (.ref DE))) (gBadProgram : PySem.W.nsIn K mainGlobals "BadProgram" = some (some (.ref E0))) (gNotChecked : PySem.W.nsIn K mainGlobals "NotChecked" = some (some (.ref E1))) (gBadText : PySem.W.nsIn K mainGlobals "BadText" = some (some (.ref E2))) (gBadRun : PySem.W.nsIn K mainGlobals "BadRun" = some (some (.ref E3))) (gBadName : PySem.W.nsIn K mainGlobals "BadName" = some (some (.ref E4))) (gBadLimit : PySem.W.nsIn K mainGlobals "BadLimit" = some (some (.ref E5))) (gTooGreat : PySem.W.nsIn K mainGlobals "TooGreat" = some (some (.ref E6))) (gBadWord : PySem.W.nsIn K mainGlobals "BadWord" = some (some (.ref E7))) (gBadStraight : PySem.W.nsIn K mainGlobals "BadStraight" = some (some (.ref E8))) (gBadPlace : PySem.W.nsIn K mainGlobals "BadPlace" = some (some (.ref E9))) (gBadCount : PySem.W.nsIn K mainGlobals "BadCount" = some (some (.ref E10))) (gBadBeginning : PySem.W.nsIn K mainGlobals "BadBeginning" = some (some (.ref E11))) (gNotOne : PySem.W.nsIn K mainGlobals "NotOne" = some (some (.ref E12))) (gWrong : PySem.W.nsIn K mainGlobals "Wrong" = some (some (.ref E13))) (gNotLet : PySem.W.nsIn K mainGlobals "NotLet" = some (some (.ref E14))) (gBadLog : PySem.W.nsIn K mainGlobals "BadLog" = some (some (.ref E15))) (gUnlike : PySem.W.nsIn K mainGlobals "Unlike" = some (some (.ref E16))) 
    (eD : ErF K DE) (eE0 : ErF K E0) (eE1 : ErF K E1) (eE2 : ErF K E2) (eE3 : ErF K E3) (eE4 : ErF K E4) (eE5 : ErF K E5) (eE6 : ErF K E6) (eE7 : ErF K E7) (eE8 : ErF K E8) (eE9 : ErF K E9) (eE10 : ErF K E10) (eE11 : ErF K E11) (eE12 : ErF K E12) (eE13 : ErF K E13) (eE14 : ErF K E14) (eE15 : ErF K E15) (eE16 : ErF K E16) 
    (xD : PySem.W.excIn K DE [.type "ValueError", .type "Exception", .type "BaseException", .type "object"] "ValueError.__new__" = true) (xE0 : PySem.W.excIn K E0 [.type "ValueError", .type "Exception", .type "BaseException", .type "object"] "ValueError.__new__" = true) (xE3 : PySem.W.excIn K E3 [.type "ValueError", .type "Exception", .type "BaseException", .type "object"] "ValueError.__new__" = true) (xE4 : PySem.W.excIn K E4 [.type "ValueError", .type "Exception", .type "BaseException", .type "object"] "ValueError.__new__" = true) (xE5 : PySem.W.excIn K E5 [.type "ValueError", .type "Exception", .type "BaseException", .type "object"] "ValueError.__new__" = true) (xE6 : PySem.W.excIn K E6 [.type "ValueError", .type "Exception", .type "BaseException", .type "object"] "ValueError.__new__" = true) (xE7 : PySem.W.excIn K E7 [.type "ValueError", .type "Exception", .type "BaseException", .type "object"] "ValueError.__new__" = true) (xE8 : PySem.W.excIn K E8 [.type "ValueError", .type "Exception", .type "BaseException", .type "object"] "ValueError.__new__" = true) (xE9 : PySem.W.excIn K E9 [.type "ValueError", .type "Exception", .type "BaseException", .type "object"] "ValueError.__new__" = true) (xE10 : PySem.W.excIn K E10 [.type "ValueError", .type "Exception", .type "BaseException", .type "object"] "ValueError.__new__" = true) (xE11 : PySem.W.excIn K E11 [.type "ValueError", .type "Exception", .type "BaseException", .type "object"] "ValueError.__new__" = true) (xE15 : PySem.W.excIn K E15 [.type "ValueError", .type "Exception", .type "BaseException", .type "object"] "ValueError.__new__" = true) (xE16 : PySem.W.excIn K E16 [.type "ValueError", .type "Exception", .type "BaseException", .type "object"] "ValueError.__new__" = true) 
    (eG : ErG K) (hop : PySem.W.nsIn K cStatics "thirdparty.any" = some none)
    (sub17 : subTab K [E0, E1, E2, E3, E4, E5, E6, E7, E8, E9, E10, E11, E12, E13, E14, E15, E16] DE = true)
    (lN1 : K.lookup E1 = some (excClassObj nmN1 qN1 E1 NN1 bsN1 bmN1 true snN1 subN1 abN1 colN1 ddN1 kk01 kk11 kk21 kk31 kk51 "ValueError.__new__"))
    (saN1 : PySem.W.findIn K (.ref E1) "__setattr__" = some (some (.builtin "object.__setattr__"))) (hdN1 : PySem.W.hasDictIn K E1 = true)
    (fN1 : PySem.W.findIn K (.ref E1) "__init__" = some (some (.ref fI1))) (tI1 : PySem.W.typeIn K (.ref fI1) = some (.type "function"))
    (lI1 : K.lookup fI1 = some ⟨ocI1, odI1, .func (PySem.W.ksFn "__init__" "NotChecked.__init__" (C8.fnArgs stI1) (C8.fnBody stI1) (C8.fnScope stI1) .none kVI1 dcI1 pmI1 anI1 (.ref cda1) ctI1 cc1), slI1⟩) (cI1 : PySem.W.codeIn K (.ref cda1) "NotChecked.__init__" = true)
    (hcode1 : K.lookup cda1 = some ⟨ccl1, cdd1, .fields vs01, ccs1⟩) (hcell1 : K.lookup cc1 = some ⟨cl1, cld1, .cell (some (.ref E1)), csl1⟩) (hcd1 : PySem.W.clsIn K E1 = some cdN1) (hsub1 : PySem.W.mroIn K E1 (.ref E1) = some true)
    (hBV1 : PySem.W.subIn K (.ref E1) (.type "ValueError") = some true) (hno1 : PySem.W.findIn K (.ref E1) "what" = some none)
    (rvN1 : PySem.HandSPX.refsVE bmN1 = true) (hvs1 : vs01[2]? = some (.str file1 tf1)) (hfile1 : ((l.prog.main.file : Str) == file1) = true) (hm1 : PySem.W.ks_superIn K E1 E1 "__init__" = some (some (.builtin "ValueError.__init__")))
    (lN2 : K.lookup E2 = some (excClassObj nmN2 qN2 E2 NN2 bsN2 bmN2 true snN2 subN2 abN2 colN2 ddN2 kk02 kk12 kk22 kk32 kk52 "ValueError.__new__"))
    (saN2 : PySem.W.findIn K (.ref E2) "__setattr__" = some (some (.builtin "object.__setattr__"))) (hdN2 : PySem.W.hasDictIn K E2 = true)
    (fN2 : PySem.W.findIn K (.ref E2) "__init__" = some (some (.ref fI2))) (tI2 : PySem.W.typeIn K (.ref fI2) = some (.type "function"))
    (lI2 : K.lookup fI2 = some ⟨ocI2, odI2, .func (PySem.W.ksFn "__init__" "BadText.__init__" (C8.fnArgs stI2) (C8.fnBody stI2) (C8.fnScope stI2) .none kVI2 dcI2 pmI2 anI2 (.ref cda2) ctI2 cc2), slI2⟩) (cI2 : PySem.W.codeIn K (.ref cda2) "BadText.__init__" = true)
    (hcode2 : K.lookup cda2 = some ⟨ccl2, cdd2, .fields vs02, ccs2⟩) (hcell2 : K.lookup cc2 = some ⟨cl2, cld2, .cell (some (.ref E2)), csl2⟩) (hcd2 : PySem.W.clsIn K E2 = some cdN2) (hsub2 : PySem.W.mroIn K E2 (.ref E2) = some true)
    (hBV2 : PySem.W.subIn K (.ref E2) (.type "ValueError") = some true) (hno2 : PySem.W.findIn K (.ref E2) "place" = some none)
    (rvN2 : PySem.HandSPX.refsVE bmN2 = true) (hvs2 : vs02[2]? = some (.str file2 tf2)) (hfile2 : ((l.prog.main.file : Str) == file2) = true) (hm2 : PySem.W.ks_superIn K E2 E2 "__init__" = some (some (.builtin "ValueError.__init__")))
    (lN12 : K.lookup E12 = some (excClassObj nmN12 qN12 E12 NN12 bsN12 bmN12 true snN12 subN12 abN12 colN12 ddN12 kk012 kk112 kk212 kk312 kk512 "ValueError.__new__"))
    (saN12 : PySem.W.findIn K (.ref E12) "__setattr__" = some (some (.builtin "object.__setattr__"))) (hdN12 : PySem.W.hasDictIn K E12 = true)
    (fN12 : PySem.W.findIn K (.ref E12) "__init__" = some (some (.ref fI12))) (tI12 : PySem.W.typeIn K (.ref fI12) = some (.type "function"))
    (lI12 : K.lookup fI12 = some ⟨ocI12, odI12, .func (PySem.W.ksFn "__init__" "NotOne.__init__" (C8.fnArgs stI12) (C8.fnBody stI12) (C8.fnScope stI12) .none kVI12 dcI12 pmI12 anI12 (.ref cda12) ctI12 cc12), slI12⟩) (cI12 : PySem.W.codeIn K (.ref cda12) "NotOne.__init__" = true)
    (hcode12 : K.lookup cda12 = some ⟨ccl12, cdd12, .fields vs012, ccs12⟩) (hcell12 : K.lookup cc12 = some ⟨cl12, cld12, .cell (some (.ref E12)), csl12⟩) (hcd12 : PySem.W.clsIn K E12 = some cdN12) (hsub12 : PySem.W.mroIn K E12 (.ref E12) = some true)
    (hBV12 : PySem.W.subIn K (.ref E12) (.type "ValueError") = some true) (hno12 : PySem.W.findIn K (.ref E12) "name" = some none)
    (rvN12 : PySem.HandSPX.refsVE bmN12 = true) (hvs12 : vs012[2]? = some (.str file12 tf12)) (hfile12 : ((l.prog.main.file : Str) == file12) = true) (hm12 : PySem.W.ks_superIn K E12 E12 "__init__" = some (some (.builtin "ValueError.__init__")))
    (lN13 : K.lookup E13 = some (excClassObj nmN13 qN13 E13 NN13 bsN13 bmN13 true snN13 subN13 abN13 colN13 ddN13 kk013 kk113 kk213 kk313 kk513 "ValueError.__new__"))
    (saN13 : PySem.W.findIn K (.ref E13) "__setattr__" = some (some (.builtin "object.__setattr__"))) (hdN13 : PySem.W.hasDictIn K E13 = true)
    (fN13 : PySem.W.findIn K (.ref E13) "__init__" = some (some (.ref fI13))) (tI13 : PySem.W.typeIn K (.ref fI13) = some (.type "function"))
    (lI13 : K.lookup fI13 = some ⟨ocI13, odI13, .func (PySem.W.ksFn "__init__" "Wrong.__init__" (C8.fnArgs stI13) (C8.fnBody stI13) (C8.fnScope stI13) .none kVI13 dcI13 pmI13 anI13 (.ref cda13) ctI13 cc13), slI13⟩) (cI13 : PySem.W.codeIn K (.ref cda13) "Wrong.__init__" = true)
    (hcode13 : K.lookup cda13 = some ⟨ccl13, cdd13, .fields vs013, ccs13⟩) (hcell13 : K.lookup cc13 = some ⟨cl13, cld13, .cell (some (.ref E13)), csl13⟩) (hcd13 : PySem.W.clsIn K E13 = some cdN13) (hsub13 : PySem.W.mroIn K E13 (.ref E13) = some true)
    (hBV13 : PySem.W.subIn K (.ref E13) (.type "ValueError") = some true) (hno13 : PySem.W.findIn K (.ref E13) "beginning" = some none)
    (rvN13 : PySem.HandSPX.refsVE bmN13 = true) (hvs13 : vs013[2]? = some (.str file13 tf13)) (hfile13 : ((l.prog.main.file : Str) == file13) = true) (hm13 : PySem.W.ks_superIn K E13 E13 "__init__" = some (some (.builtin "ValueError.__init__")))
    (lN14 : K.lookup E14 = some (excClassObj nmN14 qN14 E14 NN14 bsN14 bmN14 true snN14 subN14 abN14 colN14 ddN14 kk014 kk114 kk214 kk314 kk514 "ValueError.__new__"))
    (saN14 : PySem.W.findIn K (.ref E14) "__setattr__" = some (some (.builtin "object.__setattr__"))) (hdN14 : PySem.W.hasDictIn K E14 = true)
    (fN14 : PySem.W.findIn K (.ref E14) "__init__" = some (some (.ref fI14))) (tI14 : PySem.W.typeIn K (.ref fI14) = some (.type "function"))
    (lI14 : K.lookup fI14 = some ⟨ocI14, odI14, .func (PySem.W.ksFn "__init__" "NotLet.__init__" (C8.fnArgs stI14) (C8.fnBody stI14) (C8.fnScope stI14) .none kVI14 dcI14 pmI14 anI14 (.ref cda14) ctI14 cc14), slI14⟩) (cI14 : PySem.W.codeIn K (.ref cda14) "NotLet.__init__" = true)
    (hcode14 : K.lookup cda14 = some ⟨ccl14, cdd14, .fields vs014, ccs14⟩) (hcell14 : K.lookup cc14 = some ⟨cl14, cld14, .cell (some (.ref E14)), csl14⟩) (hcd14 : PySem.W.clsIn K E14 = some cdN14) (hsub14 : PySem.W.mroIn K E14 (.ref E14) = some true)
    (hBV14 : PySem.W.subIn K (.ref E14) (.type "ValueError") = some true) (hno14 : PySem.W.findIn K (.ref E14) "index" = some none)
    (rvN14 : PySem.HandSPX.refsVE bmN14 = true) (hvs14 : vs014[2]? = some (.str file14 tf14)) (hfile14 : ((l.prog.main.file : Str) == file14) = true) (hm14 : PySem.W.ks_superIn K E14 E14 "__init__" = some (some (.builtin "ValueError.__init__")))
    (htop : (l.prog.main.scope.names.lookup ("super" : Str)).isSome = false)
     : ∃ cs : List (Addr × Addr), (∀ p ∈ cs, h.get? p.2 = some { cls := .none, data := .fields #[] }) ∧ (∀ p ∈ cs, K.lookup p.2 = none) ∧ (∀ p ∈ cs, PySem.W.CodeHd h p.1 p.2) ∧
        ∀ (base : Heap) (s : Shared) (H : Hp) (a : Addr) (ns : List Int), (∀ p ∈ cs, LamX.TabB base mg p.1 p.2) → Env0 l.prog w K mg base callerA [] s H → (∀ p ∈ cs, H p.2 = some (.tbl #[])) → SqL K H a (ns.map V.int) → ns.length ≤ 1000 →
          codeAny (model l.prog w) callerA (.call (.ref fa) ⟨[.ref a], []⟩) (CR C8.CX0 [] l.prog w H s (fun v _ => v = .bl true) C8.E0) s := by
  have G := TT.g
  have e := hfa.symm.trans (PySem.W.mg_of X G a63)
  cases e
  have F20 : C8.Def K mg "is_row" (topS 20) _ _ := ⟨⟨_, _, _, _, _, _, _, _, _, _, rfl, l20, c20h⟩, PySem.W.mg_of X G a20, k20⟩
  have b20 := C8.Fun.binds F20.fn rfl (ps := ["thing", "low", "high"]) fun _ _ _ _ _ _ us hl => match us, hl with | [_, _, _], _ => rfl
  have F26 : C8.Def K mg "is_name" (topS 26) _ _ := ⟨⟨_, _, _, _, _, _, _, _, _, _, rfl, l26, c26h⟩, PySem.W.mg_of X G a26, k26⟩
  have b26 := C8.Fun.binds F26.fn rfl (ps := ["thing"]) fun _ _ _ _ _ _ us hl => match us, hl with | [_], _ => rfl
  have F29 : C8.Def K mg "split_words" (topS 29) _ _ := ⟨⟨_, _, _, _, _, _, _, _, _, _, rfl, l29, c29h⟩, PySem.W.mg_of X G a29, k29⟩
  have b29 := C8.Fun.binds F29.fn rfl (ps := ["text"]) fun _ _ _ _ _ _ us hl => match us, hl with | [_], _ => rfl
  have F39 : C8.Def K mg "is_program" (topS 39) _ _ := ⟨⟨_, _, _, _, _, _, _, _, _, _, rfl, l39, c39h⟩, PySem.W.mg_of X G a39, k39⟩
  have b39 := C8.Fun.binds F39.fn rfl (ps := ["thing"]) fun _ _ _ _ _ _ us hl => match us, hl with | [_], _ => rfl
  have F40 : C8.Def K mg "_are_bodies" (topS 40) _ _ := ⟨⟨_, _, _, _, _, _, _, _, _, _, rfl, l40, c40h⟩, PySem.W.mg_of X G a40, k40⟩
  have b40 := C8.Fun.binds F40.fn rfl (ps := ["bodies"]) fun _ _ _ _ _ _ us hl => match us, hl with | [_], _ => rfl
  have F41 : C8.Def K mg "_is_statement" (topS 41) _ _ := ⟨⟨_, _, _, _, _, _, _, _, _, _, rfl, l41, c41h⟩, PySem.W.mg_of X G a41, k41⟩
  have b41 := C8.Fun.binds F41.fn rfl (ps := ["thing"]) fun _ _ _ _ _ _ us hl => match us, hl with | [_], _ => rfl
  have F42 : C8.Def K mg "bodies_of" (topS 42) _ _ := ⟨⟨_, _, _, _, _, _, _, _, _, _, rfl, l42, c42h⟩, PySem.W.mg_of X G a42, k42⟩
  have b42 := C8.Fun.binds F42.fn rfl (ps := ["statement"]) fun _ _ _ _ _ _ us hl => match us, hl with | [_], _ => rfl
  have F43 : C8.Def K mg "want_program" (topS 43) _ _ := ⟨⟨_, _, _, _, _, _, _, _, _, _, rfl, l43, c43h⟩, PySem.W.mg_of X G a43, k43⟩
  have b43 := C8.Fun.binds F43.fn rfl (ps := ["program"]) fun _ _ _ _ _ _ us hl => match us, hl with | [_], _ => rfl
  have F44 : C8.Def K mg "write_program" (topS 44) _ _ := ⟨⟨_, _, _, _, _, _, _, _, _, _, rfl, l44, c44h⟩, PySem.W.mg_of X G a44, k44⟩
  have b44 := C8.Fun.binds F44.fn rfl (ps := ["program"]) fun _ _ _ _ _ _ us hl => match us, hl with | [_], _ => rfl
  have F47 : C8.Def K mg "read_program" (topS 47) _ _ := ⟨⟨_, _, _, _, _, _, _, _, _, _, rfl, l47, c47h⟩, PySem.W.mg_of X G a47, k47⟩
  have b47 := C8.Fun.binds F47.fn rfl (ps := ["text"]) fun _ _ _ _ _ _ us hl => match us, hl with | [_], _ => rfl
  have F49 : C8.Def K mg "check" (topS 49) _ _ := ⟨⟨_, _, _, _, _, _, _, _, _, _, rfl, l49, c49h⟩, PySem.W.mg_of X G a49, k49⟩
  have b49 := C8.Fun.binds F49.fn rfl (ps := ["program"]) fun _ _ _ _ _ _ us hl => match us, hl with | [_], _ => rfl
  have F50 : C8.Def K mg "_first_double" (topS 50) _ _ := ⟨⟨_, _, _, _, _, _, _, _, _, _, rfl, l50, c50h⟩, PySem.W.mg_of X G a50, k50⟩
  have b50 := C8.Fun.binds F50.fn rfl (ps := ["names"]) fun _ _ _ _ _ _ us hl => match us, hl with | [_], _ => rfl
  have F51 : C8.Def K mg "_body_fault" (topS 51) _ _ := ⟨⟨_, _, _, _, _, _, _, _, _, _, rfl, l51, c51h⟩, PySem.W.mg_of X G a51, k51⟩
  have b51 := C8.Fun.binds F51.fn rfl (ps := ["body", "letters", "names"]) fun _ _ _ _ _ _ us hl => match us, hl with | [_, _, _], _ => rfl
  have F52 : C8.Def K mg "_find_statements" (topS 52) _ _ := ⟨⟨_, _, _, _, _, _, _, _, _, _, rfl, l52, c52h⟩, PySem.W.mg_of X G a52, k52⟩
  have b52 := C8.Fun.binds F52.fn rfl (ps := ["body", "is_second", "found"]) fun _ _ _ _ _ _ us hl => match us, hl with | [_, _, _], _ => rfl
  have F53 : C8.Def K mg "checked" (topS 53) _ _ := ⟨⟨_, _, _, _, _, _, _, _, _, _, rfl, l53, c53h⟩, PySem.W.mg_of X G a53, k53⟩
  have b53 := C8.Fun.binds F53.fn rfl (ps := ["program"]) fun _ _ _ _ _ _ us hl => match us, hl with | [_], _ => rfl
  have F55 : C8.Def K mg "_law_well" (topS 55) _ _ := ⟨⟨_, _, _, _, _, _, _, _, _, _, rfl, l55, c55h⟩, PySem.W.mg_of X G a55, k55⟩
  have b55 := C8.Fun.binds F55.fn rfl (ps := ["script"]) fun _ _ _ _ _ _ us hl => match us, hl with | [_], _ => rfl
  have F56 : C8.Def K mg "_law_draw" (topS 56) _ _ := ⟨⟨_, _, _, _, _, _, _, _, _, _, rfl, l56, c56h⟩, PySem.W.mg_of X G a56, k56⟩
  have b56 := C8.Fun.binds F56.fn rfl (ps := ["well", "many"]) fun _ _ _ _ _ _ us hl => match us, hl with | [_, _], _ => rfl
  have F57 : C8.Def K mg "_law_raised" (topS 57) _ _ := ⟨⟨_, _, _, _, _, _, _, _, _, _, rfl, l57, c57h⟩, PySem.W.mg_of X G a57, k57⟩
  have b57 := C8.Fun.binds F57.fn rfl (ps := ["way", "value"]) fun _ _ _ _ _ _ us hl => match us, hl with | [_, _], _ => rfl
  have F58 : C8.Def K mg "_law_raised_more" (topS 58) _ _ := ⟨⟨_, _, _, _, _, _, _, _, _, _, rfl, l58, c58h⟩, PySem.W.mg_of X G a58, k58⟩
  have b58 := C8.Fun.binds F58.fn rfl (ps := ["way", "value"]) fun _ _ _ _ _ _ us hl => match us, hl with | [_, _], _ => rfl
  have F59 : C8.Def K mg "_law_classes" (topS 59) _ _ := ⟨⟨_, _, _, _, _, _, _, _, _, _, rfl, l59, c59h⟩, PySem.W.mg_of X G a59, k59⟩
  have b59 := C8.Fun.binds F59.fn rfl (ps := ["e"]) fun _ _ _ _ _ _ us hl => match us, hl with | [_], _ => rfl
  have F60 : C8.Def K mg "_law_way_right" (topS 60) _ _ := ⟨⟨_, _, _, _, _, _, _, _, _, _, rfl, l60, c60h⟩, PySem.W.mg_of X G a60, k60⟩
  have b60 := C8.Fun.binds F60.fn rfl (ps := ["way", "value"]) fun _ _ _ _ _ _ us hl => match us, hl with | [_, _], _ => rfl
  have F61 : C8.Def K mg "_law_fields_right" (topS 61) _ _ := ⟨⟨_, _, _, _, _, _, _, _, _, _, rfl, l61, c61h⟩, PySem.W.mg_of X G a61, k61⟩
  have b61 := C8.Fun.binds F61.fn rfl (ps := ["trouble", "number", "title", "start"]) fun _ _ _ _ _ _ us hl => match us, hl with | [_, _, _, _], _ => rfl
  have F62 : C8.Def K mg "_law_by_hand" (topS 62) _ _ := ⟨⟨_, _, _, _, _, _, _, _, _, _, rfl, l62, c62h⟩, PySem.W.mg_of X G a62, k62⟩
  have b62 := C8.Fun.binds F62.fn rfl (ps := []) fun _ _ _ _ _ _ us hl => match us, hl with | [], _ => rfl
  have F63 : C8.Def K mg "law" (topS 63) _ _ := ⟨⟨_, _, _, _, _, _, _, _, _, _, rfl, l63, c63h⟩, PySem.W.mg_of X G a63, k63⟩
  have b63 := C8.Fun.binds F63.fn rfl (ps := ["script"]) fun _ _ _ _ _ _ us hl => match us, hl with | [_], _ => rfl
  have Fm0 : C8.Fun K "__init__" "Reader.__init__" (inClass (topS 30) 0) _ _ := ⟨_, _, _, _, _, _, _, _, _, _, rfl, lm0, cm0h⟩
  have bm0 := C8.Fun.binds Fm0 rfl (ps := ["self", "text"]) fun _ _ _ _ _ _ us hl => match us, hl with | [_, _], _ => rfl
  have Fm1 : C8.Fun K "word" "Reader.word" (inClass (topS 30) 1) _ _ := ⟨_, _, _, _, _, _, _, _, _, _, rfl, lm1, cm1h⟩
  have bm1 := C8.Fun.binds Fm1 rfl (ps := ["self"]) fun _ _ _ _ _ _ us hl => match us, hl with | [_], _ => rfl
  have Fm2 : C8.Fun K "refuse" "Reader.refuse" (inClass (topS 30) 2) _ _ := ⟨_, _, _, _, _, _, _, _, _, _, rfl, lm2, cm2h⟩
  have bm2 := C8.Fun.binds Fm2 rfl (ps := ["self"]) fun _ _ _ _ _ _ us hl => match us, hl with | [_], _ => rfl
  have Fm3 : C8.Fun K "take" "Reader.take" (inClass (topS 30) 3) _ _ := ⟨_, _, _, _, _, _, _, _, _, _, rfl, lm3, cm3h⟩
  have bm3 := C8.Fun.binds Fm3 rfl (ps := ["self", "wanted"]) fun _ _ _ _ _ _ us hl => match us, hl with | [_, _], _ => rfl
  have Fm4 : C8.Fun K "take_name" "Reader.take_name" (inClass (topS 30) 4) _ _ := ⟨_, _, _, _, _, _, _, _, _, _, rfl, lm4, cm4h⟩
  have bm4 := C8.Fun.binds Fm4 rfl (ps := ["self"]) fun _ _ _ _ _ _ us hl => match us, hl with | [_], _ => rfl
  have Fm5 : C8.Fun K "whole" "Reader.whole" (inClass (topS 30) 5) _ _ := ⟨_, _, _, _, _, _, _, _, _, _, rfl, lm5, cm5h⟩
  have bm5 := C8.Fun.binds Fm5 rfl (ps := ["self"]) fun _ _ _ _ _ _ us hl => match us, hl with | [_], _ => rfl
  have Fm6 : C8.Fun K "procedure" "Reader.procedure" (inClass (topS 30) 6) _ _ := ⟨_, _, _, _, _, _, _, _, _, _, rfl, lm6, cm6h⟩
  have bm6 := C8.Fun.binds Fm6 rfl (ps := ["self"]) fun _ _ _ _ _ _ us hl => match us, hl with | [_], _ => rfl
  have Fm7 : C8.Fun K "body" "Reader.body" (inClass (topS 30) 7) _ _ := ⟨_, _, _, _, _, _, _, _, _, _, rfl, lm7, cm7h⟩
  have bm7 := C8.Fun.binds Fm7 rfl (ps := ["self"]) fun _ _ _ _ _ _ us hl => match us, hl with | [_], _ => rfl
  have Fm8 : C8.Fun K "statement" "Reader.statement" (inClass (topS 30) 8) _ _ := ⟨_, _, _, _, _, _, _, _, _, _, rfl, lm8, cm8h⟩
  have bm8 := C8.Fun.binds Fm8 rfl (ps := ["self"]) fun _ _ _ _ _ _ us hl => match us, hl with | [_], _ => rfl
  have Fm9 : C8.Fun K "plain" "Reader.plain" (inClass (topS 30) 9) _ _ := ⟨_, _, _, _, _, _, _, _, _, _, rfl, lm9, cm9h⟩
  have bm9 := C8.Fun.binds Fm9 rfl (ps := ["self", "word"]) fun _ _ _ _ _ _ us hl => match us, hl with | [_, _], _ => rfl
  have B : Bl K mg := ⟨PySem.W.mg_none_of X G zisinstance, PySem.W.mg_none_of X G zint, PySem.W.mg_none_of X G zbool, PySem.W.mg_none_of X G zstr, PySem.W.mg_none_of X G ztuple, PySem.W.mg_none_of X G zlen, PySem.W.mg_none_of X G zall, PySem.W.mg_none_of X G zrange, PySem.W.mg_none_of X G zenumerate, PySem.W.mg_none_of X G zlist, PySem.W.mg_none_of X G zset, PySem.W.mg_none_of X G zrepr, ⟨_, PySem.W.mg_of X G mMOST_OPEN⟩, ⟨_, PySem.W.mg_of X G mMOST_SIGNS⟩, ⟨_, PySem.W.mg_of X G mMOST_LETTERS⟩, ⟨_, PySem.W.mg_of X G mMOST_PROCEDURES⟩, ⟨_, PySem.W.mg_of X G mLEAST_BODIES⟩, ⟨_, PySem.W.mg_of X G mMOST_BODIES⟩, ⟨_, PySem.W.mg_of X G mMOST_IN_BODY⟩, ⟨_, PySem.W.mg_of X G mMOST_STATEMENTS⟩, ⟨_, PySem.W.mg_of X G mLONGEST_CHAIN⟩, ⟨_, PySem.W.mg_of X G mS⟩, ⟨_, PySem.W.mg_of X G mW⟩, ⟨kw, PySem.W.mg_of X G mK, fun H => .inr ⟨_, itkw, nkw, lK, rfl, rfl, wK, vK⟩⟩⟩
  have T : Txt K mg CL := ⟨⟨pgC, hdC, poC, saC⟩, n1, n2, n3⟩
  have tb26 := PySem.W.tab_of TT X t426 (in_kit a26 l26 t126 t226)
  have tb39 := PySem.W.tab_of TT X t439 (in_kit a39 l39 t139 t239)
  have eall : ∀ i, i < 17 → ErF K (([E0, E1, E2, E3, E4, E5, E6, E7, E8, E9, E10, E11, E12, E13, E14, E15, E16] : List Addr).getD i 0) := fun i hi => match i, hi with
    | 0, _ => eE0
    | 1, _ => eE1
    | 2, _ => eE2
    | 3, _ => eE3
    | 4, _ => eE4
    | 5, _ => eE5
    | 6, _ => eE6
    | 7, _ => eE7
    | 8, _ => eE8
    | 9, _ => eE9
    | 10, _ => eE10
    | 11, _ => eE11
    | 12, _ => eE12
    | 13, _ => eE13
    | 14, _ => eE14
    | 15, _ => eE15
    | 16, _ => eE16
    | k + 17, hk => absurd hk (by omega)
  have ST := subT_of sub17
  have FM := fam_of ST eG eall eD (PySem.W.mg_of X G gD) (PySem.W.mg_none_of X G zValueError)
  have DK := dk_of ST eall
  have FL : Flds K (fun i => ([E0, E1, E2, E3, E4, E5, E6, E7, E8, E9, E10, E11, E12, E13, E14, E15, E16] : List Addr).getD i 0) := ⟨eE1.xf hdN1, hno1, eE2.xf hdN2, hno2, eE12.xf hdN12, hno12, eE13.xf hdN13, hno13, eE14.xf hdN14, hno14⟩
  refine ⟨[(c26, T26), (c39, T39)], ?hT, ?nT, ?hC, fun base s H a ns tabs e0 free sq hln => ?run⟩
  case hT =>
    intro p hp
    rcases List.mem_cons.mp hp with rfl | hp
    · exact tb26.2
    · cases List.mem_singleton.mp hp
      exact tb39.2
  case nT =>
    intro p hp
    rcases List.mem_cons.mp hp with rfl | hp
    · exact t326
    · cases List.mem_singleton.mp hp
      exact t339
  case hC =>
    intro p hp
    rcases List.mem_cons.mp hp with rfl | hp
    · exact tb26.1
    · cases List.mem_singleton.mp hp
      exact tb39.1
  case run =>
    have hTs : Tbs [T26, T39] H := fun T' hT' => by
      rcases List.mem_cons.mp hT' with rfl | hT'
      · exact ⟨#[], free (c26, _) (by simp), trivial⟩
      · cases List.mem_singleton.mp hT'
        exact ⟨#[], free (c39, _) (by simp), trivial⟩
    have TN1 : OexC K E1 := ⟨⟨_, _, _, _, _, _, _, _, _, _, _, _, _, _, _, lN1, rvN1⟩, saN1, eE1.b, eE1.t, eE1.k⟩
    have RI1 := rsI1 (P := l.prog) (w := w) (base := base) (PySem.W.mg_of X G gNotChecked) TN1 fN1 tI1 lI1 cI1 hcode1 hvs1 hfile1 hcell1 hcd1 hsub1 (PySem.W.mg_none_of X G zsuper) htop hm1 hBV1 hop hno1
    have TN2 : OexC K E2 := ⟨⟨_, _, _, _, _, _, _, _, _, _, _, _, _, _, _, lN2, rvN2⟩, saN2, eE2.b, eE2.t, eE2.k⟩
    have RI2 := rsI2 (P := l.prog) (w := w) (base := base) (PySem.W.mg_of X G gBadText) TN2 fN2 tI2 lI2 cI2 hcode2 hvs2 hfile2 hcell2 hcd2 hsub2 (PySem.W.mg_none_of X G zsuper) htop hm2 hBV2 hop hno2
    have TN12 : OexC K E12 := ⟨⟨_, _, _, _, _, _, _, _, _, _, _, _, _, _, _, lN12, rvN12⟩, saN12, eE12.b, eE12.t, eE12.k⟩
    have RI12 := rsI12 (P := l.prog) (w := w) (base := base) (PySem.W.mg_of X G gNotOne) TN12 fN12 tI12 lI12 cI12 hcode12 hvs12 hfile12 hcell12 hcd12 hsub12 (PySem.W.mg_none_of X G zsuper) htop hm12 hBV12 hop hno12
    have TN13 : OexC K E13 := ⟨⟨_, _, _, _, _, _, _, _, _, _, _, _, _, _, _, lN13, rvN13⟩, saN13, eE13.b, eE13.t, eE13.k⟩
    have RI13 := rsI13 (P := l.prog) (w := w) (base := base) (PySem.W.mg_of X G gWrong) TN13 fN13 tI13 lI13 cI13 hcode13 hvs13 hfile13 hcell13 hcd13 hsub13 (PySem.W.mg_none_of X G zsuper) htop hm13 hBV13 hop hno13
    have TN14 : OexC K E14 := ⟨⟨_, _, _, _, _, _, _, _, _, _, _, _, _, _, _, lN14, rvN14⟩, saN14, eE14.b, eE14.t, eE14.k⟩
    have RI14 := rsI14 (P := l.prog) (w := w) (base := base) (PySem.W.mg_of X G gNotLet) TN14 fN14 tI14 lI14 cI14 hcode14 hvs14 hfile14 hcell14 hcd14 hsub14 (PySem.W.mg_none_of X G zsuper) htop hm14 hBV14 hop hno14
    have RS : Rs l.prog w K mg base (fun i => ([E0, E1, E2, E3, E4, E5, E6, E7, E8, E9, E10, E11, E12, E13, E14, E15, E16] : List Addr).getD i 0) := ⟨eE0.rs (PySem.W.mg_of X G gBadProgram) xE0, RI1, RI2, eE3.rs (PySem.W.mg_of X G gBadRun) xE3, eE4.rs (PySem.W.mg_of X G gBadName) xE4, eE5.rs (PySem.W.mg_of X G gBadLimit) xE5, eE6.rs (PySem.W.mg_of X G gTooGreat) xE6, eE7.rs (PySem.W.mg_of X G gBadWord) xE7, eE8.rs (PySem.W.mg_of X G gBadStraight) xE8, eE9.rs (PySem.W.mg_of X G gBadPlace) xE9, eE10.rs (PySem.W.mg_of X G gBadCount) xE10, eE11.rs (PySem.W.mg_of X G gBadBeginning) xE11, RI12, RI13, RI14, eE15.rs (PySem.W.mg_of X G gBadLog) xE15, eE16.rs (PySem.W.mg_of X G gUnlike) xE16⟩
    have c_row := ok_is_row (P := l.prog) (w := w) (base := base) F20 b20 B
    have f_name := ok_is_name (P := l.prog) (w := w) (Ts := [T26, T39]) (T := T26) l26 c26h (tabs (c26, T26) (by simp)) (by simp) B
    have c_name : C8.Cal l.prog w K mg base 4 "is_name" (spName K [T26, T39]) [] := ⟨_, _, _, _, f_name, F26.mgf, k26, b26, .nil⟩
    have c_bod := ok_bodies_of (P := l.prog) (w := w) (base := base) F42 b42 B
    have c_stm := ok__is_statement F41 b41 B c_row c_name
    have c_bods := ok__are_bodies F40 b40 B c_row c_stm c_bod
    have f_prog := ok_is_program (P := l.prog) (w := w) (Ts := [T26, T39]) (T := T39) l39 c39h (tabs (c39, T39) (by simp)) (by simp) B c_row c_name c_bods
    have c_prog : C8.Cal l.prog w K mg base 8 "is_program" (spProg K [T26, T39]) [] := ⟨_, _, _, _, f_prog, F39.mgf, k39, b39, .nil⟩
    have c_want := ok_want_program F43 b43 B c_prog
    have c_fdT := ok_fdT (P := l.prog) (w := w) (base := base) F50 b50 B
    have c_fdL := ok_fdL (P := l.prog) (w := w) (base := base) F50 b50 B
    have c_fs := fs_all F52 b52 B c_bod 13
    have c_bf := ok__body_fault F51 b51 B c_fs
    have c_check := ok_check F49 b49 B c_want c_fdT c_fdL c_bf
    have c_stA := ok_stA F41 b41 B c_row c_name
    have c_boA := ok_boA (P := l.prog) (w := w) (base := base) F42 b42 B
    have c_abA := ok_abA F40 b40 B c_row c_stA c_boA
    have f_prA := ok_progA (P := l.prog) (w := w) (Ts := [T26, T39]) (T := T39) l39 c39h (tabs (c39, T39) (by simp)) (by simp) B c_row c_name c_abA
    have c_prA : C8.Cal l.prog w K mg base 8 "is_program" (spProgA K [T26, T39]) [] := ⟨_, _, _, _, f_prA, F39.mgf, k39, b39, .nil⟩
    have b_want := bad_wantN F43 b43 B RS c_prA
    have c_write := bad_writeN F44 b44 B b_want
    have c_chk := ok_checkedN F53 b53 B RS c_check
    have c_split := ok_split_words (P := l.prog) (w := w) (base := base) F29 b29 B
    have c_word := okm_word (P := l.prog) (w := w) (base := base) T ⟨am1, im1, km1⟩ Fm1 bm1 B
    have c_take := okm_take T ⟨am3, im3, km3⟩ Fm3 bm3 B c_word
    have c_tn := okm_take_name T ⟨am4, im4, km4⟩ Fm4 bm4 B c_word c_name
    have c_plain := okm_plain T ⟨am9, im9, km9⟩ Fm9 bm9 B c_take c_tn
    have c_ref := okm_refuse T ⟨am2, im2, km2⟩ Fm2 bm2 RS
    have c_takeB := okm_takeB T ⟨am3, im3, km3⟩ Fm3 bm3 B c_word c_ref
    have c_stN := okm_statementN T ⟨am8, im8, km8⟩ Fm8 bm8 B c_word c_plain c_takeB
    have c_bdN := okm_bodyN T ⟨am7, im7, km7⟩ Fm7 bm7 B c_word c_take c_stN
    have c_prN := okm_procedureN T ⟨am6, im6, km6⟩ Fm6 bm6 B c_take c_tn c_bdN
    have c_whN := okm_wholeN T ⟨am5, im5, km5⟩ Fm5 bm5 B c_word c_take c_tn c_prN
    have c_init := okm_init T ⟨mkC, am0, im0, kcC⟩ (PySem.W.mg_of X G mL) Fm0 bm0 B c_split
    have c_read := ok_read_programN F47 b47 B T c_init c_whN
    have c_more := ok__law_raised_more F58 b58 RS
    have f_rd := ok__law_raised F57 b57 RS c_more
    have c_cls := ok__law_classes F59 b59 B RS
    have c_way := ok__law_way_right F60 b60 B FM f_rd F57.mgf k57 b57 c_cls
    have c_fields := ok__law_fields_right F61 b61 B RS FL
    have c_hand := ok__law_by_hand F62 b62 B RS FL (fun i hi => (eall i hi).exm ((ST.cc i hi i hi).trans (by rw [decide_eq_true rfl]))) c_read c_chk c_write
    have c_well := ok__law_well (P := l.prog) (w := w) (base := base) F55 b55 B
    have c_draw := ok__law_draw (P := l.prog) (w := w) (base := base) F56 b56 B
    exact (ok_law F63.fn B (eD.rs (PySem.W.mg_of X G gD) xD) (eD.exm ST.dd) (eD.isC eG) DK c_well c_draw c_way c_cls c_fields c_hand).run callerA [] s H (.ref a) (.ref a) (fun v _ => v = .bl true) rfl ⟨rfl, by decide +kernel, by decide +kernel⟩ e0 (.of_eq rfl) rfl ⟨a, ns, rfl, hln, sq, hTs, fun _ => rfl⟩
end K00


open PySem PySem.W PyProof.Rows
set_option maxRecDepth 100000 in
set_option maxHeartbeats 0 in
theorem PySem.Challenge.cw_undoneall_k00_error_classes_holds : PySem.Challenge.rw_undoneall_k00_error_classes.Holds := by
  w_on; o_law; k_head; (case hw => w_witness2)
  k_fill
  refine K00.walk (l := PySem.Challenge.rw_undoneall_k00_error_classes) (n := 63) (x := "script") rfl (by decide) rfl (fun w h Y => PySem.W.kIn_of Y) ?F
  case F =>
    intro w lo mean mg mb fa h TT KX hmg
    refine' K00.all_mk TT KX hmg ?a20 ?l20 ?c20h ?k20 ?a26 ?l26 ?c26h ?k26 ?a29 ?l29 ?c29h ?k29 ?a39 ?l39 ?c39h ?k39 ?a40 ?l40 ?c40h ?k40 ?a41 ?l41 ?c41h ?k41 ?a42 ?l42 ?c42h ?k42 ?a43 ?l43 ?c43h ?k43 ?a44 ?l44 ?c44h ?k44 ?a47 ?l47 ?c47h ?k47 ?a49 ?l49 ?c49h ?k49 ?a50 ?l50 ?c50h ?k50 ?a51 ?l51 ?c51h ?k51 ?a52 ?l52 ?c52h ?k52 ?a53 ?l53 ?c53h ?k53 ?a55 ?l55 ?c55h ?k55 ?a56 ?l56 ?c56h ?k56 ?a57 ?l57 ?c57h ?k57 ?a58 ?l58 ?c58h ?k58 ?a59 ?l59 ?c59h ?k59 ?a60 ?l60 ?c60h ?k60 ?a61 ?l61 ?c61h ?k61 ?a62 ?l62 ?c62h ?k62 ?a63 ?l63 ?c63h ?k63 ?am0 ?im0 ?lm0 ?cm0h ?km0 ?am1 ?im1 ?lm1 ?cm1h ?km1 ?am2 ?im2 ?lm2 ?cm2h ?km2 ?am3 ?im3 ?lm3 ?cm3h ?km3 ?am4 ?im4 ?lm4 ?cm4h ?km4 ?am5 ?im5 ?lm5 ?cm5h ?km5 ?am6 ?im6 ?lm6 ?cm6h ?km6 ?am7 ?im7 ?lm7 ?cm7h ?km7 ?am8 ?im8 ?lm8 ?cm8h ?km8 ?am9 ?im9 ?lm9 ?cm9h ?km9 ?zisinstance ?zint ?zbool ?zstr ?ztuple ?zlen ?zall ?zrange ?zenumerate ?zlist ?zset ?zrepr ?zsuper ?zValueError ?mMOST_OPEN ?mMOST_SIGNS ?mMOST_LETTERS ?mMOST_PROCEDURES ?mLEAST_BODIES ?mMOST_BODIES ?mMOST_IN_BODY ?mMOST_STATEMENTS ?mLONGEST_CHAIN ?mS ?mW ?mK ?mL ?lK ?pgC ?hdC ?poC ?saC ?mkC ?kcC ?n1 ?n2 ?n3 ?vK ?wK ?t126 ?t226 ?t326 ?t426 ?t139 ?t239 ?t339 ?t439 ?gD ?gBadProgram ?gNotChecked ?gBadText ?gBadRun ?gBadName ?gBadLimit ?gTooGreat ?gBadWord ?gBadStraight ?gBadPlace ?gBadCount ?gBadBeginning ?gNotOne ?gWrong ?gNotLet ?gBadLog ?gUnlike ?eD ?eE0 ?eE1 ?eE2 ?eE3 ?eE4 ?eE5 ?eE6 ?eE7 ?eE8 ?eE9 ?eE10 ?eE11 ?eE12 ?eE13 ?eE14 ?eE15 ?eE16 ?xD ?xE0 ?xE3 ?xE4 ?xE5 ?xE6 ?xE7 ?xE8 ?xE9 ?xE10 ?xE11 ?xE15 ?xE16 ?eG ?hop ?sub17 ?lN1 ?saN1 ?hdN1 ?fN1 ?tI1 ?lI1 ?cI1 ?hcode1 ?hcell1 ?hcd1 ?hsub1 ?hBV1 ?hno1 ?rvN1 ?hvs1 ?hfile1 ?hm1 ?lN2 ?saN2 ?hdN2 ?fN2 ?tI2 ?lI2 ?cI2 ?hcode2 ?hcell2 ?hcd2 ?hsub2 ?hBV2 ?hno2 ?rvN2 ?hvs2 ?hfile2 ?hm2 ?lN12 ?saN12 ?hdN12 ?fN12 ?tI12 ?lI12 ?cI12 ?hcode12 ?hcell12 ?hcd12 ?hsub12 ?hBV12 ?hno12 ?rvN12 ?hvs12 ?hfile12 ?hm12 ?lN13 ?saN13 ?hdN13 ?fN13 ?tI13 ?lI13 ?cI13 ?hcode13 ?hcell13 ?hcd13 ?hsub13 ?hBV13 ?hno13 ?rvN13 ?hvs13 ?hfile13 ?hm13 ?lN14 ?saN14 ?hdN14 ?fN14 ?tI14 ?lI14 ?cI14 ?hcode14 ?hcell14 ?hcd14 ?hsub14 ?hBV14 ?hno14 ?rvN14 ?hvs14 ?hfile14 ?hm14 ?htop
    (case mL => k_is)
    (case gD => k_is)
    (case gBadProgram => k_is)
    (case gNotChecked => k_is)
    (case gBadText => k_is)
    (case gBadRun => k_is)
    (case gBadName => k_is)
    (case gBadLimit => k_is)
    (case gTooGreat => k_is)
    (case gBadWord => k_is)
    (case gBadStraight => k_is)
    (case gBadPlace => k_is)
    (case gBadCount => k_is)
    (case gBadBeginning => k_is)
    (case gNotOne => k_is)
    (case gWrong => k_is)
    (case gNotLet => k_is)
    (case gBadLog => k_is)
    (case gUnlike => k_is)
    (case a20 => k_is)
    (case l20 => k_is)
    (case c20h => k_is)
    (case k20 => k_is)
    (case a26 => k_is)
    (case l26 => k_is)
    (case c26h => k_is)
    (case k26 => k_is)
    (case a29 => k_is)
    (case l29 => k_is)
    (case c29h => k_is)
    (case k29 => k_is)
    (case a39 => k_is)
    (case l39 => k_is)
    (case c39h => k_is)
    (case k39 => k_is)
    (case a40 => k_is)
    (case l40 => k_is)
    (case c40h => k_is)
    (case k40 => k_is)
    (case a41 => k_is)
    (case l41 => k_is)
    (case c41h => k_is)
    (case k41 => k_is)
    (case a42 => k_is)
    (case l42 => k_is)
    (case c42h => k_is)
    (case k42 => k_is)
    (case a43 => k_is)
    (case l43 => k_is)
    (case c43h => k_is)
    (case k43 => k_is)
    (case a44 => k_is)
    (case l44 => k_is)
    (case c44h => k_is)
    (case k44 => k_is)
    (case a47 => k_is)
    (case l47 => k_is)
    (case c47h => k_is)
    (case k47 => k_is)
    (case a49 => k_is)
    (case l49 => k_is)
    (case c49h => k_is)
    (case k49 => k_is)
    (case a50 => k_is)
    (case l50 => k_is)
    (case c50h => k_is)
    (case k50 => k_is)
    (case a51 => k_is)
    (case l51 => k_is)
    (case c51h => k_is)
    (case k51 => k_is)
    (case a52 => k_is)
    (case l52 => k_is)
    (case c52h => k_is)
    (case k52 => k_is)
    (case a53 => k_is)
    (case l53 => k_is)
    (case c53h => k_is)
    (case k53 => k_is)
    (case a55 => k_is)
    (case l55 => k_is)
    (case c55h => k_is)
    (case k55 => k_is)
    (case a56 => k_is)
    (case l56 => k_is)
    (case c56h => k_is)
    (case k56 => k_is)
    (case a57 => k_is)
    (case l57 => k_is)
    (case c57h => k_is)
    (case k57 => k_is)
    (case a58 => k_is)
    (case l58 => k_is)
    (case c58h => k_is)
    (case k58 => k_is)
    (case a59 => k_is)
    (case l59 => k_is)
    (case c59h => k_is)
    (case k59 => k_is)
    (case a60 => k_is)
    (case l60 => k_is)
    (case c60h => k_is)
    (case k60 => k_is)
    (case a61 => k_is)
    (case l61 => k_is)
    (case c61h => k_is)
    (case k61 => k_is)
    (case a62 => k_is)
    (case l62 => k_is)
    (case c62h => k_is)
    (case k62 => k_is)
    (case a63 => k_is)
    (case l63 => k_is)
    (case c63h => k_is)
    (case k63 => k_is)
    (case am0 => k_is)
    (case im0 => k_is)
    (case lm0 => k_is)
    (case cm0h => k_is)
    (case km0 => k_is)
    (case am1 => k_is)
    (case im1 => k_is)
    (case lm1 => k_is)
    (case cm1h => k_is)
    (case km1 => k_is)
    (case am2 => k_is)
    (case im2 => k_is)
    (case lm2 => k_is)
    (case cm2h => k_is)
    (case km2 => k_is)
    (case am3 => k_is)
    (case im3 => k_is)
    (case lm3 => k_is)
    (case cm3h => k_is)
    (case km3 => k_is)
    (case am4 => k_is)
    (case im4 => k_is)
    (case lm4 => k_is)
    (case cm4h => k_is)
    (case km4 => k_is)
    (case am5 => k_is)
    (case im5 => k_is)
    (case lm5 => k_is)
    (case cm5h => k_is)
    (case km5 => k_is)
    (case am6 => k_is)
    (case im6 => k_is)
    (case lm6 => k_is)
    (case cm6h => k_is)
    (case km6 => k_is)
    (case am7 => k_is)
    (case im7 => k_is)
    (case lm7 => k_is)
    (case cm7h => k_is)
    (case km7 => k_is)
    (case am8 => k_is)
    (case im8 => k_is)
    (case lm8 => k_is)
    (case cm8h => k_is)
    (case km8 => k_is)
    (case am9 => k_is)
    (case im9 => k_is)
    (case lm9 => k_is)
    (case cm9h => k_is)
    (case km9 => k_is)
    (case zisinstance => k_is)
    (case zint => k_is)
    (case zbool => k_is)
    (case zstr => k_is)
    (case ztuple => k_is)
    (case zlen => k_is)
    (case zall => k_is)
    (case zrange => k_is)
    (case zenumerate => k_is)
    (case zlist => k_is)
    (case zset => k_is)
    (case zrepr => k_is)
    (case zsuper => k_is)
    (case zValueError => k_is)
    (case mMOST_OPEN => k_is)
    (case mMOST_SIGNS => k_is)
    (case mMOST_LETTERS => k_is)
    (case mMOST_PROCEDURES => k_is)
    (case mLEAST_BODIES => k_is)
    (case mMOST_BODIES => k_is)
    (case mMOST_IN_BODY => k_is)
    (case mMOST_STATEMENTS => k_is)
    (case mLONGEST_CHAIN => k_is)
    (case mS => k_is)
    (case mW => k_is)
    (case mK => k_is)
    (case lK => k_is)
    (case pgC => k_is)
    (case hdC => k_is)
    (case poC => k_is)
    (case saC => k_is)
    (case mkC => k_is)
    (case kcC => k_is)
    (case n1 => k_is)
    (case n2 => k_is)
    (case n3 => k_is)
    (case t126 => k_is)
    (case t139 => k_is)
    (case eD => exact ⟨by k_is, by k_is, by k_is, by k_is, by k_is, by k_is, by k_is, by k_is⟩)
    (case eE0 => exact ⟨by k_is, by k_is, by k_is, by k_is, by k_is, by k_is, by k_is, by k_is⟩)
    (case eE1 => exact ⟨by k_is, by k_is, by k_is, by k_is, by k_is, by k_is, by k_is, by k_is⟩)
    (case eE2 => exact ⟨by k_is, by k_is, by k_is, by k_is, by k_is, by k_is, by k_is, by k_is⟩)
    (case eE3 => exact ⟨by k_is, by k_is, by k_is, by k_is, by k_is, by k_is, by k_is, by k_is⟩)
    (case eE4 => exact ⟨by k_is, by k_is, by k_is, by k_is, by k_is, by k_is, by k_is, by k_is⟩)
    (case eE5 => exact ⟨by k_is, by k_is, by k_is, by k_is, by k_is, by k_is, by k_is, by k_is⟩)
    (case eE6 => exact ⟨by k_is, by k_is, by k_is, by k_is, by k_is, by k_is, by k_is, by k_is⟩)
    (case eE7 => exact ⟨by k_is, by k_is, by k_is, by k_is, by k_is, by k_is, by k_is, by k_is⟩)
    (case eE8 => exact ⟨by k_is, by k_is, by k_is, by k_is, by k_is, by k_is, by k_is, by k_is⟩)
    (case eE9 => exact ⟨by k_is, by k_is, by k_is, by k_is, by k_is, by k_is, by k_is, by k_is⟩)
    (case eE10 => exact ⟨by k_is, by k_is, by k_is, by k_is, by k_is, by k_is, by k_is, by k_is⟩)
    (case eE11 => exact ⟨by k_is, by k_is, by k_is, by k_is, by k_is, by k_is, by k_is, by k_is⟩)
    (case eE12 => exact ⟨by k_is, by k_is, by k_is, by k_is, by k_is, by k_is, by k_is, by k_is⟩)
    (case eE13 => exact ⟨by k_is, by k_is, by k_is, by k_is, by k_is, by k_is, by k_is, by k_is⟩)
    (case eE14 => exact ⟨by k_is, by k_is, by k_is, by k_is, by k_is, by k_is, by k_is, by k_is⟩)
    (case eE15 => exact ⟨by k_is, by k_is, by k_is, by k_is, by k_is, by k_is, by k_is, by k_is⟩)
    (case eE16 => exact ⟨by k_is, by k_is, by k_is, by k_is, by k_is, by k_is, by k_is, by k_is⟩)
    (case xD => k_exc)
    (case xE0 => k_exc)
    (case xE3 => k_exc)
    (case xE4 => k_exc)
    (case xE5 => k_exc)
    (case xE6 => k_exc)
    (case xE7 => k_exc)
    (case xE8 => k_exc)
    (case xE9 => k_exc)
    (case xE10 => k_exc)
    (case xE11 => k_exc)
    (case xE15 => k_exc)
    (case xE16 => k_exc)
    (case eG => exact ⟨by k_is, by k_is⟩)
    (case hop => k_is)
    (case sub17 => kernel_rfl)
    (case lN1 => k_is)
    (case saN1 => k_is)
    (case hdN1 => k_is)
    (case fN1 => k_is)
    (case tI1 => k_is)
    (case lI1 => k_is)
    (case cI1 => k_is)
    (case hcode1 => k_is)
    (case hcell1 => k_is)
    (case hcd1 => k_is)
    (case hsub1 => k_is)
    (case hBV1 => k_is)
    (case hno1 => k_is)
    (case lN2 => k_is)
    (case saN2 => k_is)
    (case hdN2 => k_is)
    (case fN2 => k_is)
    (case tI2 => k_is)
    (case lI2 => k_is)
    (case cI2 => k_is)
    (case hcode2 => k_is)
    (case hcell2 => k_is)
    (case hcd2 => k_is)
    (case hsub2 => k_is)
    (case hBV2 => k_is)
    (case hno2 => k_is)
    (case lN12 => k_is)
    (case saN12 => k_is)
    (case hdN12 => k_is)
    (case fN12 => k_is)
    (case tI12 => k_is)
    (case lI12 => k_is)
    (case cI12 => k_is)
    (case hcode12 => k_is)
    (case hcell12 => k_is)
    (case hcd12 => k_is)
    (case hsub12 => k_is)
    (case hBV12 => k_is)
    (case hno12 => k_is)
    (case lN13 => k_is)
    (case saN13 => k_is)
    (case hdN13 => k_is)
    (case fN13 => k_is)
    (case tI13 => k_is)
    (case lI13 => k_is)
    (case cI13 => k_is)
    (case hcode13 => k_is)
    (case hcell13 => k_is)
    (case hcd13 => k_is)
    (case hsub13 => k_is)
    (case hBV13 => k_is)
    (case hno13 => k_is)
    (case lN14 => k_is)
    (case saN14 => k_is)
    (case hdN14 => k_is)
    (case fN14 => k_is)
    (case tI14 => k_is)
    (case lI14 => k_is)
    (case cI14 => k_is)
    (case hcode14 => k_is)
    (case hcell14 => k_is)
    (case hcd14 => k_is)
    (case hsub14 => k_is)
    (case hBV14 => k_is)
    (case hno14 => k_is)
    (case vK => exact .cons ⟨_, rfl⟩ (.cons ⟨_, rfl⟩ (.cons ⟨_, rfl⟩ (.cons ⟨_, rfl⟩ (.cons ⟨_, rfl⟩ (.cons ⟨_, rfl⟩ (.cons ⟨_, rfl⟩ (.cons ⟨_, rfl⟩ (.cons ⟨_, rfl⟩ (.cons ⟨_, rfl⟩ (.cons ⟨_, rfl⟩ (.nil))))))))))))
    (case wK => show 11 ≤ _; decide)
    (case t226 => rfl)
    (case t326 => first | rfl | kernel_rfl | decide)
    (case t426 => rfl)
    (case t239 => rfl)
    (case t339 => first | rfl | kernel_rfl | decide)
    (case t439 => rfl)
    (case rvN1 => first | rfl | decide)
    (case hvs1 => rfl)
    (case hfile1 => first | rfl | decide +kernel)
    (case hm1 => ks_is)
    (case rvN2 => first | rfl | decide)
    (case hvs2 => rfl)
    (case hfile2 => first | rfl | decide +kernel)
    (case hm2 => ks_is)
    (case rvN12 => first | rfl | decide)
    (case hvs12 => rfl)
    (case hfile12 => first | rfl | decide +kernel)
    (case hm12 => ks_is)
    (case rvN13 => first | rfl | decide)
    (case hvs13 => rfl)
    (case hfile13 => first | rfl | decide +kernel)
    (case hm13 => ks_is)
    (case rvN14 => first | rfl | decide)
    (case hvs14 => rfl)
    (case hfile14 => first | rfl | decide +kernel)
    (case hm14 => ks_is)
    (case htop => first | rfl | decide +kernel)

