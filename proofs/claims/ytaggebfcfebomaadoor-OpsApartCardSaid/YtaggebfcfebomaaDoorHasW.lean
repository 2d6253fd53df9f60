/-
  What has returns where a text has another one in it: true, for every world and short texts.
-/
import Derived.Test.YtaggebfcfebomaaDoorCond
import Derived.Deep.LoopGhost
import Derived.Laws.Strings2
namespace Go.Proofs.YtaggebfcfebomaaDoor
open Go.ChangeShapes Go.WideShapes Go.ChangeAt Go.RowKit
set_option linter.unusedVariables false

theorem ext_eq (S X : List UInt8) (p : Nat) (h : (S.drop p).take X.length = X) : (⟨S.toArray⟩ : ByteArray).extract p (p + X.length) = ⟨X.toArray⟩ := by
  apply ByteArray.ext
  simp [List.extract_eq_take_drop]
  rw [h]
set_option maxRecDepth 100000 in
set_option maxHeartbeats 2000000 in
theorem has_c (S X : List UInt8) (p : Nat) (hp : p + X.length ≤ S.length) (hS : S.length ≤ 100) (hx : (S.drop p).take X.length = X) (w : World) : Calls Tryd.prog 15 #[.string ⟨(S).toArray⟩, .string ⟨(X).toArray⟩] w fun e w' => e = .returned (.bool true) ∧ w = w' := by
  have HX := Lib.hid (ext_eq S X p hx)
  clear hx
  go_enter Tryd.func15, Tryd.ntmps15
  go_wp2
  go_loopg [5] p (fun g s5 wr => ∃ i : Nat, i ≤ p ∧ g = p - i ∧ s5 = .int .i64 i ∧ w = wr)
  case atStart => exact ⟨0, by omega, rfl, rfl, rfl⟩
  case round =>
    obtain ⟨i, hi, rfl, rfl, rfl⟩ := hrel
    have h1 : i + X.length ≤ S.length := by omega
    have hz : (⟨S.toArray⟩ : ByteArray).size = S.length := by simp [ByteArray.size]
    have hsl := run_slice_string (P := Tryd.prog) (w := w) 9 ⟨S.toArray⟩ .i64 .i64 (i : Int) ((i : Int) + X.length) Tryd.underlying9 (by omega) (by omega) (by rw [hz]; omega)
    have e1 : (i : Int).toNat = i := rfl
    have e2 : ((i : Int) + X.length).toNat = i + X.length := by omega
    rw [e1, e2] at hsl
    clear e1 e2 hz
    by_cases hE : (((⟨S.toArray⟩ : ByteArray).extract i (i + X.length)).toList == X) = true
    · go_wp2
      go_ret
      exact ⟨rfl, rfl⟩
    · have hE' : (((⟨S.toArray⟩ : ByteArray).extract i (i + X.length)).toList == X) = false := by simpa using hE
      have hne : i ≠ p := by
        intro e
        subst e
        apply hE
        rw [HX.out, ByteArray.toList_eq]
        simp
      go_wp2
      go_roundg (p - (i + 1))
      case measure => omega
      case rel => exact ⟨i + 1, by omega, rfl, by go_num, rfl⟩
end Go.Proofs.YtaggebfcfebomaaDoor
