/-
  A scope with labels that the run jumps to: for every program and world; no condition.
-/
import Derived.Test.YtklbhbappaibgaaMem
namespace Go.Proofs.Ytklbhbappaibgaa
open Go
set_option linter.unusedVariables false
/-- A scope with one label that is jumped back to, and one that is jumped to once. -/
def Exit.hop2 (l0 l1 : Nat) (J0 J1 : Act → World → Prop) (Q : Exit → Act → World → Prop) : Exit → Act → World → Prop
 | .goto l, a, w => (l = l0 ∧ J0 a w) ∨ (l = l1 ∧ J1 a w)
 | e, a, w => Q e a w
section
variable {P : Program} {a : Act} {w : World} {Q : Exit → Act → World → Prop}
/-- The code behind the label l of a function. -/
noncomputable def behind (f : Func) (l : Nat) : Code := match f.body with
 | some (.seq _ (.scope c)) => match findLabel c l with
  | some (.seq .skip X) => X
  | some X => X
  | none => .skip
 | _ => .skip
/-- The same; told from the jumps alone. -/
theorem wp_scope_jump {c r0 r1 : Code} (l0 l1 : Nat) (J0 : Nat → Act → World → Prop) (J1 : Act → World → Prop) (h0 : findLabel c l0 = some r0) (h1 : findLabel c l1 = some r1)
  (first : ∀ Q' : Exit → Act → World → Prop, (∀ a w, Q .ret a w → Q' .ret a w) → (∀ n' a' w', J0 n' a' w' → Q' (.goto l0) a' w') → (∀ a' w', J1 a' w' → Q' (.goto l1) a' w') → c.wp P Q' a w)
  (pass : ∀ n a w, J0 n a w → ∀ Q' : Exit → Act → World → Prop, (∀ a w, Q .ret a w → Q' .ret a w) → (∀ n' a' w', n' < n → J0 n' a' w' → Q' (.goto l0) a' w') → (∀ a' w', J1 a' w' → Q' (.goto l1) a' w') → r0.wp P Q' a w)
  (last : ∀ a w, J1 a w → ∀ Q' : Exit → Act → World → Prop, (∀ a w, Q .ret a w → Q' .ret a w) → r1.wp P Q' a w) : (Code.scope c).wp P Q a w := by
 intro b k cs
 have hg0 : gotoIn l0 (.inScope c :: k) = some (.code r0 :: .inScope c :: k) := by simp [gotoIn, h0]
 have hg1 : gotoIn l1 (.inScope c :: k) = some (.code r1 :: .inScope c :: k) := by simp [gotoIn, h1]
 have tail : ∀ a w, J1 a w → ∃ e a' w', Q e a' w' ∧ Arrives P (lone (b.at a (.code r1 :: .inScope c :: k)) cs w) b k cs e a' w' := by
  intro a w hJ
  obtain ⟨e, a₁, w₁, hq, harr⟩ := last a w hJ (fun e a w => match e with | .goto l => False | e => Q e a w) (fun _ _ h => h) b (.inScope c :: k) cs
  cases e with
  | normal => exact ⟨.normal, a₁, w₁, hq, Steps.trans harr (.one step_inScope)⟩
  | exit id => exact ⟨.exit id, a₁, w₁, hq, fun k' hk => harr k' (by simp [exitTo, hk])⟩
  | goto l' => exact hq.elim
  | ret => exact ⟨_, a₁, w₁, hq, harr⟩
  | panic ch => exact ⟨_, a₁, w₁, hq, harr⟩
  | outgrown => exact ⟨_, a₁, w₁, hq, harr⟩
 have key : ∀ n a w, J0 n a w → ∃ e a' w', Q e a' w' ∧ Arrives P (lone (b.at a (.code r0 :: .inScope c :: k)) cs w) b k cs e a' w' := by
  intro n
  induction n using Nat.strongRecOn with
  | _ n ih =>
   intro a w hJ
   obtain ⟨e, a₁, w₁, hq, harr⟩ := pass n a w hJ (Exit.hop2 l0 l1 (fun a w => ∃ n', n' < n ∧ J0 n' a w) J1 Q) (fun _ _ h => h) (fun n' _ _ hn h => Or.inl ⟨rfl, n', hn, h⟩) (fun _ _ h => Or.inr ⟨rfl, h⟩) b (.inScope c :: k) cs
   cases e with
   | normal => exact ⟨.normal, a₁, w₁, hq, Steps.trans harr (.one step_inScope)⟩
   | exit id => exact ⟨.exit id, a₁, w₁, hq, fun k' hk => harr k' (by simp [exitTo, hk])⟩
   | goto l' =>
    rcases hq with ⟨rfl, n', hn, hJ'⟩ | ⟨rfl, hJ'⟩
    ·obtain ⟨e₂, a₂, w₂, hq₂, harr₂⟩ := ih n' hn a₁ w₁ hJ'
     exact ⟨e₂, a₂, w₂, hq₂, .of_steps (harr _ hg0) harr₂⟩
    ·obtain ⟨e₂, a₂, w₂, hq₂, harr₂⟩ := tail a₁ w₁ hJ'
     exact ⟨e₂, a₂, w₂, hq₂, .of_steps (harr _ hg1) harr₂⟩
   | ret => exact ⟨_, a₁, w₁, hq, harr⟩
   | panic ch => exact ⟨_, a₁, w₁, hq, harr⟩
   | outgrown => exact ⟨_, a₁, w₁, hq, harr⟩
 obtain ⟨e, a₁, w₁, hq, harr⟩ := first (Exit.hop2 l0 l1 (fun a w => ∃ n', J0 n' a w) J1 Q) (fun _ _ h => h) (fun n' _ _ h => Or.inl ⟨rfl, n', h⟩) (fun _ _ h => Or.inr ⟨rfl, h⟩) b (.inScope c :: k) cs
 cases e with
 | normal => exact ⟨.normal, a₁, w₁, hq, .head step_scope (Steps.trans harr (.one step_inScope))⟩
 | exit id => exact ⟨.exit id, a₁, w₁, hq, fun k' hk => .head step_scope (harr k' (by simp [exitTo, hk]))⟩
 | goto l' =>
  rcases hq with ⟨rfl, n', hJ'⟩ | ⟨rfl, hJ'⟩
  ·obtain ⟨e₂, a₂, w₂, hq₂, harr₂⟩ := key n' a₁ w₁ hJ'
   exact ⟨e₂, a₂, w₂, hq₂, .of_steps (.head step_scope (harr _ hg0)) harr₂⟩
  ·obtain ⟨e₂, a₂, w₂, hq₂, harr₂⟩ := tail a₁ w₁ hJ'
   exact ⟨e₂, a₂, w₂, hq₂, .of_steps (.head step_scope (harr _ hg1)) harr₂⟩
 | ret => exact ⟨_, a₁, w₁, hq, .of_steps (.one step_scope) harr⟩
 | panic ch => exact ⟨_, a₁, w₁, hq, .of_steps (.one step_scope) harr⟩
 | outgrown => exact ⟨_, a₁, w₁, hq, .of_steps (.one step_scope) harr⟩
end
end Go.Proofs.Ytklbhbappaibgaa
