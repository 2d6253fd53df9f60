/-
  The walk through RegsAgain for every input: it returns true.
-/
import Derived.Test.YtiolfmmekcahaaaAgainE
import Derived.Test.YtiolfmmekcahaaaAgainO
namespace Go.Proofs.Ytiolfmmekcahaaa.regsAgain
open Go.ChangeShapes Go.WideShapes Go.ChangeAt Go.RowKit

theorem walk (r o : RR) (ok : r.ok) (oko : o.ok) (v : Value) (w : World) (hv : SB w v) :
    Calls Try.prog 8 #[.agg #[.int .u8 r.a, .int .u8 r.f, .int .u8 r.b, .int .u8 r.c, .int .u8 r.d, .int .u8 r.e, .int .u8 r.h, .int .u8 r.l, .int .u16 r.sp, .int .u16 r.pc], .agg #[.int .u8 o.a, .int .u8 o.f, .int .u8 o.b, .int .u8 o.c, .int .u8 o.d, .int .u8 o.e, .int .u8 o.h, .int .u8 o.l, .int .u16 o.sp, .int .u16 o.pc], v] w fun e w' => e = .returned (.bool true) ∧ Below w.heap.size w w' := by
  obtain ⟨a, n, c, rfl, hm, hl⟩ := hv
  by_cases h : 60 < n
  · exact walkA r o a n c hm (by simp; omega) w
  have hn : decide (60 < (n : Int)) = false := by simp; omega
  obtain ⟨q, hq⟩ : ∃ q : Bool, q = true ↔ ∀ k, k < 12 → encF r k = encF o k := ⟨_, @decide_eq_true_iff _ (Classical.propDecidable _)⟩
  have okn : noR.ok := by simp [RR.ok, noR]
  by_cases h12 : n = 12
  · obtain ⟨b, off, l, rfl, hc, hlo, hat, hb⟩ := hl h12
    subst h12
    by_cases hz : (l.l1 % 16 != 0) = true
    · exact walkE r o noR ok oko okn _ 12 c 5 q hq hm hn (by decide) w
        (fun W hW => dec_c_bad b off c l W hlo (L12.at_below hat hb hW) (Nat.lt_of_lt_of_le hb hW.size) hc hz)
    · have hz' : (l.l1 % 16 != 0) = false := by simpa using hz
      exact walkO r o (decR l) ok oko (decR_ok hlo) _ 12 c 0 q hq hm hn (by decide) w
        (fun W hW => dec_c_ok b off c l W hlo (L12.at_below hat hb hW) (Nat.lt_of_lt_of_le hb hW.size) hc hz')
        (fun W bd hW hE => same_c bd 0 12 b off c 12 (encF (decR l)) (decF l) true ⟨fun _ => enc_dec hlo hz', fun _ => rfl⟩ (by omega) W hE.1 (Nat.lt_of_lt_of_le hb hW.size) (Has.encF hE) (L12.decF (L12.at_below hat hb hW)))
  · exact walkE r o noR ok oko okn a n c 6 q hq hm hn (by decide) w (fun W _ => dec_c_short a n c h12 (by omega) W)
end Go.Proofs.Ytiolfmmekcahaaa.regsAgain
