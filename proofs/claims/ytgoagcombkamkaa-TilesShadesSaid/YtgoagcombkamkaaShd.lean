/-
  The walk through TilesShades: for every palette and colour.
-/
import Derived.Test.YtgoagcombkamkaaFill
import Derived.Deep.Cut
import Derived.BigQuiet
import Derived.WalkSmall
namespace Go.Proofs.Ytgoagcombkamkaa
open Go.ChangeShapes Go.WideShapes Go.ChangeAt Go.RowKit
set_option linter.unusedVariables false
set_option linter.unusedSimpArgs false
set_option maxRecDepth 100000
theorem xo (a : Int) (h1 : 0 ≤ a) (h2 : a < 256) : 255 - a = bits .xor .u8 IntKind.u8.max a := byte_all (P := fun a => 255 - a = bits .xor .u8 IntKind.u8.max a) (by decide +kernel) a h1 h2
set_option maxHeartbeats 2000000 in
theorem shades_walk (p k : Int) (p0 : 0 ≤ p) (p1 : p < 256) (k0 : 0 ≤ k) (k1 : k < 256) (w : World) : Calls Try.prog 8 #[.int .u8 p, .int .u8 k] w fun q_ w' => q_ = .returned (.bool true) ∧ Below w.heap.size w w' := by
  suffices hall : ∀ (n_ : Nat) (W0 : World), n_ ≤ W0.heap.size → Below n_ W0 w → Calls Try.prog 8 #[.int .u8 p, .int .u8 k] w fun q_ w' => q_ = .returned (.bool true) ∧ Below n_ W0 w' from hall _ _ (Nat.le_refl _) (Below.refl _ _)
  intro n_ W0 hn hB
  have HN := Lib.hid hn
  have BB := Lib.hid hB
  clear hn hB
  have hnot : ∀ (x : Bool) (w : World), (Op.unary .not (.bool x)).run Try.prog w = .ok (.bool (!x)) w := fun _ _ => rfl
  have AW := Lib.hid awake_c
  have S1 := Lib.hid (fun W => shade_c p k p0 p1 k0 k1 W)
  have S2 := Lib.hid (fun W => shade_c 228 k (by decide) (by decide) k0 k1 W)
  have S3 := Lib.hid (fun W => shade_c p (k % 4) p0 p1 (by omega) (by omega) W)
  have S4 := Lib.hid (fun W => shade_c (255 - p) k (by omega) (by omega) k0 k1 W)
  rw [shade_228] at S2
  rw [shade_mod] at S3
  rw [shade_not p k p0 p1, xo p p0 p1] at S4
  have ea := an3k k k0 k1
  have sb := shadeV_bd p k
  obtain ⟨s, hs⟩ : ∃ q_, q_ = shadeV p k := ⟨_, rfl⟩
  rw [← hs] at S1 S3 S4 sb
  clear hs
  go_enter Try.func8, Try.ntmps8
  go_wp2_with (fail)
  with_reducible refine (AW.out _).mono ?_
  rintro q_ u1 ⟨rfl, hb⟩
  have B1 := Lib.hid (vian HN.out BB.out hb)
  clear hb 
  go_wp2_with (fail)
  with_reducible refine (S1.out _).mono ?_
  rintro q_ w' ⟨rfl, rfl⟩
  go_wp2_with (fail)
  with_reducible refine (S2.out _).mono ?_
  rintro q_ w' ⟨rfl, rfl⟩
  go_wp2_with (fail)
  with_reducible refine (S3.out _).mono ?_
  rintro q_ w' ⟨rfl, rfl⟩
  go_wp2_with (fail)
  with_reducible refine (S4.out _).mono ?_
  rintro q_ w' ⟨rfl, rfl⟩
  go_wp2_with (fail)
  all_goals exact bodyPost_ret (v := .bool true) (by simp [results, Try.results8, go_sem]) rfl ⟨rfl, B1.out⟩
end Go.Proofs.Ytgoagcombkamkaa
