/-
  What comes in: a slice of bytes, which is nil, or has as many bytes in memory as its length says; no condition.
-/
import Derived.Test.YtiolfmmekcahaaaDec
import Derived.Test.YtiolfmmekcahaaaSame
import Derived.OpenShut
import Derived.ProofKit
namespace Go.Proofs.Ytiolfmmekcahaaa
open Go.ChangeShapes Go.WideShapes Go.ChangeAt Go.RowKit

/-- A slice value whose bytes, if they are twelve, are known. -/
def SB (W : World) (v : Value) : Prop := ∃ (a : Option Addr) (n c : Nat), v = .slice a n c ∧ n ≤ 9223372036854775807 ∧
  (n = 12 → ∃ (b off : Nat) (l : L12), a = some ⟨b, off, none⟩ ∧ 12 ≤ c ∧ l.ok ∧ l.at b off W ∧ b < W.heap.size)

theorem open_bytes {H : Type} {enc : TypeId × Value → H} {W : World} {base : Nat} {v : Value} {d : DataW H} {p : List MemPlace}
    (hv : Value.okWide Try.prog W .any base 44 v) (h : DataW.Trod enc Try.prog W 0 (fun _ => true) true 44 v d p) : SB W v := by
  obtain ⟨a0, len, cap, rfl⟩ := okWide_slice Try.underlying44 hv
  obtain ⟨fuel, hf⟩ := h
  rcases open_ints Try.underlying44 Try.underlying5 cells5 hf with ⟨hcs, _⟩ | ⟨a, len', cap', zs, hcs, _, hl, hm, hz, _, hcell, hwz⟩
  · simp [Value.cells] at hcs
    obtain ⟨rfl, rfl, rfl⟩ := hcs
    exact ⟨none, 0, 0, rfl, by omega, fun h => by omega⟩
  · simp [Value.cells] at hcs
    obtain ⟨rfl, rfl, rfl⟩ := hcs
    simp at hz
    unfold maxLen at hm
    refine ⟨some a, len, cap, rfl, by omega, fun h => ?_⟩
    subst h
    obtain ⟨b, off, rfl, hc⟩ := ints_at hcell (by omega)
    have hw : ∀ i, i < 12 → 0 ≤ zs.getD i 0 ∧ zs.getD i 0 < 256 := fun i hi => by
      have hi' : i < zs.length := by omega
      have e : zs.getD i 0 = zs[i] := by simp [hi']
      rw [e]
      exact u8_bd (hwz _ (List.getElem_mem hi'))
    have hq : ∀ i, i < 12 → W.cell? ⟨b, off + i, none⟩ = some (.int .u8 (zs.getD i 0)) := fun i hi => hc i (by omega)
    refine ⟨b, off, ⟨zs.getD 0 0, zs.getD 1 0, zs.getD 2 0, zs.getD 3 0, zs.getD 4 0, zs.getD 5 0, zs.getD 6 0, zs.getD 7 0, zs.getD 8 0, zs.getD 9 0, zs.getD 10 0, zs.getD 11 0⟩, rfl, hl, ?_, ?_, ?_⟩
    · exact ⟨hw 0 (by omega), hw 1 (by omega), hw 2 (by omega), hw 3 (by omega), hw 4 (by omega), hw 5 (by omega), hw 6 (by omega), hw 7 (by omega), hw 8 (by omega), hw 9 (by omega), hw 10 (by omega), hw 11 (by omega)⟩
    · exact ⟨hq 0 (by omega), hq 1 (by omega), hq 2 (by omega), hq 3 (by omega), hq 4 (by omega), hq 5 (by omega), hq 6 (by omega), hq 7 (by omega), hq 8 (by omega), hq 9 (by omega), hq 10 (by omega), hq 11 (by omega)⟩
    · exact World.block_lt_of_cell? W _ (hq 0 (by omega))

/-- The bytes of an encoded set, as numbers. -/
def encF (r : RR) (k : Nat) : Int := if k = 0 then r.a else if k = 1 then r.f / 16 * 16 else if k = 2 then r.b else if k = 3 then r.c else if k = 4 then r.d else if k = 5 then r.e else if k = 6 then r.h else if k = 7 then r.l else if k = 8 then r.sp % 256 else if k = 9 then r.sp / 256 else if k = 10 then r.pc % 256 else r.pc / 256
def decF (l : L12) (k : Nat) : Int := if k = 0 then l.l0 else if k = 1 then l.l1 else if k = 2 then l.l2 else if k = 3 then l.l3 else if k = 4 then l.l4 else if k = 5 then l.l5 else if k = 6 then l.l6 else if k = 7 then l.l7 else if k = 8 then l.l8 else if k = 9 then l.l9 else if k = 10 then l.l10 else l.l11
theorem lt12 {k : Nat} (h : k < 12) : k = 0 ∨ k = 1 ∨ k = 2 ∨ k = 3 ∨ k = 4 ∨ k = 5 ∨ k = 6 ∨ k = 7 ∨ k = 8 ∨ k = 9 ∨ k = 10 ∨ k = 11 := by omega
theorem Has.encF {w : World} {b : Nat} {r : RR} (h : Has w b (encA r)) : ∀ k, k < 12 → w.cell? ⟨b, 0 + k, none⟩ = some (.int .u8 (encF r k)) := fun k hk => by
  rw [Nat.zero_add, h.2.1]
  rcases lt12 hk with rfl | rfl | rfl | rfl | rfl | rfl | rfl | rfl | rfl | rfl | rfl | rfl <;> rfl
theorem L12.decF {l : L12} {b off : Nat} {w : World} (h : l.at b off w) : ∀ k, k < 12 → w.cell? ⟨b, off + k, none⟩ = some (.int .u8 (decF l k)) := fun k hk => by
  obtain ⟨h0, h1, h2, h3, h4, h5, h6, h7, h8, h9, h10, h11⟩ := h
  rcases lt12 hk with rfl | rfl | rfl | rfl | rfl | rfl | rfl | rfl | rfl | rfl | rfl | rfl <;> assumption
/-- An encoded set, as twelve bytes. -/
def encL (r : RR) : L12 := ⟨r.a, r.f / 16 * 16, r.b, r.c, r.d, r.e, r.h, r.l, r.sp % 256, r.sp / 256, r.pc % 256, r.pc / 256⟩
theorem Has.encL {w : World} {b : Nat} {r : RR} (h : Has w b (encA r)) : (encL r).at b 0 w :=
  ⟨h.2.1 0, h.2.1 1, h.2.1 2, h.2.1 3, h.2.1 4, h.2.1 5, h.2.1 6, h.2.1 7, h.2.1 8, h.2.1 9, h.2.1 10, h.2.1 11⟩
theorem encL_ok {r : RR} (ok : r.ok) : (encL r).ok := by
  obtain ⟨⟨a1, a2⟩, ⟨f1, f2⟩, ⟨b1, b2⟩, ⟨c1, c2⟩, ⟨d1, d2⟩, ⟨e1, e2⟩, ⟨h1, h2⟩, ⟨l1, l2⟩, ⟨s1, s2⟩, ⟨p1, p2⟩⟩ := ok
  simp only [encL, L12.ok]
  omega
/-- A set without the lower four bits of F. -/
def cutF (r : RR) : RR := { r with f := r.f / 16 * 16 }
theorem cutF_ok {r : RR} (ok : r.ok) : (cutF r).ok := by
  obtain ⟨⟨a1, a2⟩, ⟨f1, f2⟩, ⟨b1, b2⟩, ⟨c1, c2⟩, ⟨d1, d2⟩, ⟨e1, e2⟩, ⟨h1, h2⟩, ⟨l1, l2⟩, ⟨s1, s2⟩, ⟨p1, p2⟩⟩ := ok
  simp only [cutF, RR.ok]
  omega
theorem dec_enc (r : RR) (ok : r.ok) : decR (encL r) = cutF r := by
  obtain ⟨⟨a1, a2⟩, ⟨f1, f2⟩, ⟨b1, b2⟩, ⟨c1, c2⟩, ⟨d1, d2⟩, ⟨e1, e2⟩, ⟨h1, h2⟩, ⟨l1, l2⟩, ⟨s1, s2⟩, ⟨p1, p2⟩⟩ := ok
  have e1 : r.sp / 256 * 256 + r.sp % 256 = r.sp := by omega
  have e2 : r.pc / 256 * 256 + r.pc % 256 = r.pc := by omega
  simp only [decR, encL, cutF, e1, e2]
theorem enc_q (r : RR) : ((encL r).l1 % 16 != 0) = false := by
  simp [encL]
theorem decR_ok {l : L12} (ok : l.ok) : (decR l).ok := by
  obtain ⟨⟨p0, q0⟩, ⟨p1, q1⟩, ⟨p2, q2⟩, ⟨p3, q3⟩, ⟨p4, q4⟩, ⟨p5, q5⟩, ⟨p6, q6⟩, ⟨p7, q7⟩, ⟨p8, q8⟩, ⟨p9, q9⟩, ⟨p10, q10⟩, ⟨p11, q11⟩⟩ := ok
  simp only [decR, RR.ok]
  omega
theorem enc_dec {l : L12} (ok : l.ok) (hq : (l.l1 % 16 != 0) = false) : ∀ k, k < 12 → encF (decR l) k = decF l k := by
  obtain ⟨⟨p0, q0⟩, ⟨p1, q1⟩, ⟨p2, q2⟩, ⟨p3, q3⟩, ⟨p4, q4⟩, ⟨p5, q5⟩, ⟨p6, q6⟩, ⟨p7, q7⟩, ⟨p8, q8⟩, ⟨p9, q9⟩, ⟨p10, q10⟩, ⟨p11, q11⟩⟩ := ok
  simp at hq
  intro k hk
  rcases lt12 hk with rfl | rfl | rfl | rfl | rfl | rfl | rfl | rfl | rfl | rfl | rfl | rfl <;> simp [encF, decF, decR] <;> omega
end Go.Proofs.Ytiolfmmekcahaaa
