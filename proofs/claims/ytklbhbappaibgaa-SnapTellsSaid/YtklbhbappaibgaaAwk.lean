/-
  The call that every statement begins with; what comes in: a slice of bytes, a slice of pairs of words: for every world; no condition.
-/
import Derived.Test.YtklbhbappaibgaaUn
import Derived.Test.YtklbhbappaibgaaCh
import Derived.Deep.Slices
namespace Go.Proofs.Ytklbhbappaibgaa
open Go.ChangeShapes Go.WideShapes Go.ChangeAt Go.RowKit Go.Deep
set_option linter.unusedVariables false
set_option linter.unusedSimpArgs false
set_option maxRecDepth 100000
theorem pk_eg : pk [1, 2, 3] [1, 9, 3] = [1, 1, 9, 1] := by
 rw [pk_more (B := [1, 2, 3]) (C := [1, 9, 3]) (e := 1) (d := 1) rfl rfl (by decide) rfl, pk_end (B := [1, 2, 3].drop (1 + 1)) (C := [1, 9, 3].drop (1 + 1)) rfl, num_lo (by decide), num_lo (by decide)]
 rfl
theorem unp_eg : unp [1, 2, 3] [1, 1, 9, 1] = (0, [1, 9, 3]) := by
 have h := unp_pk (B := [1, 2, 3]) (C := [1, 9, 3]) (by decide) rfl
 rwa [pk_eg] at h
theorem by3 (a b c : Nat) (ha : a < 256) (hb : b < 256) (hc : c < 256) : By [a, b, c] := fun x hx => by
 simp at hx; omega
set_option maxHeartbeats 4000000 in
theorem awake_c (w : World) : Calls Try.prog 9 #[] w fun q_ w' => q_ = .returned (.bool true) ∧ Below w.heap.size w w' := by
 go_enter Try.func9, Try.ntmps9
 go_wp2_with (fail)
 have A1 := (new_rd w #[.int .u8 1, .int .u8 2, .int .u8 3] [1, 2, 3] (by3 1 2 3 (by decide) (by decide) (by decide)) (by simp [cs]) 3 rfl)
 have b1 := own1 w (.cells #[.int .u8 1, .int .u8 2, .int .u8 3] 5)
 generalize hw1 : w.alloc (.cells #[.int .u8 1, .int .u8 2, .int .u8 3] 5) = w1 at A1 b1 ⊢
 have A2 := (new_rd w1 #[.int .u8 1, .int .u8 9, .int .u8 3] [1, 9, 3] (by3 1 9 3 (by decide) (by decide) (by decide)) (by simp [cs]) 3 rfl)
 have b2 := own1 w1 (.cells #[.int .u8 1, .int .u8 9, .int .u8 3] 5)
 have hsz : w1.heap.size = w.heap.size + 1 := by rw [← hw1]; simp
 rw [hsz] at A2
 clear hw1
 have A1' := A1.below b2
 have B2 := Lib.hid (via b1 b2)
 generalize w1.alloc (.cells #[.int .u8 1, .int .u8 9, .int .u8 3] 5) = u2 at A2 A1' B2 ⊢
 clear b1 b2 A1 hsz
 refine (pack_c _ _ [1, 2, 3] [1, 9, 3] (by decide) (by decide) u2 A1' A2).mono ?_
 rintro q_ u3 ⟨s3, rfl, o3, b3⟩
 rw [if_pos (show ([1, 2, 3] : List Nat).length = ([1, 9, 3] : List Nat).length from rfl), pk_eg] at o3
 rw [if_pos (show ([1, 2, 3] : List Nat).length = ([1, 9, 3] : List Nat).length from rfl)]
 have O3 := Lib.hid o3.rd
 have B3 := Lib.hid (via B2.out b3)
 clear o3 b3 A1' A2 B2
 go_wp2_with (fail)
 have A1 := (new_rd u3 #[.int .u8 1, .int .u8 2, .int .u8 3] [1, 2, 3] (by3 1 2 3 (by decide) (by decide) (by decide)) (by simp [cs]) 3 rfl)
 have b1 := own1 u3 (.cells #[.int .u8 1, .int .u8 2, .int .u8 3] 5)
 have O4 := Lib.hid (O3.out.below b1)
 have B4 := Lib.hid (via B3.out b1)
 generalize u3.alloc (.cells #[.int .u8 1, .int .u8 2, .int .u8 3] 5) = u4 at A1 O4 B4 ⊢
 clear b1 O3 B3
 refine (unpack_c _ s3 [1, 2, 3] [1, 1, 9, 1] (by decide) (by decide) u4 A1 O4.out).mono ?_
 unfold UnpE
 rw [unp_eg]
 rintro q_ u5 ⟨s5, rfl, o5, b5⟩
 dsimp only at o5 ⊢
 have O5 := Lib.hid o5.rd
 have P5 := Lib.hid (O4.out.below b5)
 have B5 := Lib.hid (via B4.out b5)
 clear o5 b5 A1 O4 B4
 go_wp2_with (fail)
 have A1 := (new_rd u5 #[.int .u8 1, .int .u8 1, .int .u8 9, .int .u8 1] [1, 1, 9, 1] (fun x hx => by simp at hx; omega) (by simp [cs]) 4 rfl)
 have b1 := own1 u5 (.cells #[.int .u8 1, .int .u8 1, .int .u8 9, .int .u8 1] 5)
 have O6 := Lib.hid (O5.out.below b1)
 have P6 := Lib.hid (P5.out.below b1)
 have B6 := Lib.hid (via B5.out b1)
 generalize u5.alloc (.cells #[.int .u8 1, .int .u8 1, .int .u8 9, .int .u8 1] 5) = u6 at A1 O6 P6 B6 ⊢
 clear b1 O5 P5 B5
 refine (same_c s3 _ [1, 1, 9, 1] [1, 1, 9, 1] true (by simp) (by decide) u6 P6.out A1).mono ?_
 rintro q_ u7 ⟨rfl, b7⟩
 have O7 := Lib.hid (O6.out.below b7)
 have B7 := Lib.hid (via B6.out b7)
 clear A1 b7 O6 P6 B6
 go_wp2_with (fail)
 have A1 := (new_rd u7 #[.int .u8 1, .int .u8 9, .int .u8 3] [1, 9, 3] (by3 1 9 3 (by decide) (by decide) (by decide)) (by simp [cs]) 3 rfl)
 have b1 := own1 u7 (.cells #[.int .u8 1, .int .u8 9, .int .u8 3] 5)
 have O8 := Lib.hid (O7.out.below b1)
 have B8 := Lib.hid (via B7.out b1)
 generalize u7.alloc (.cells #[.int .u8 1, .int .u8 9, .int .u8 3] 5) = u8 at A1 O8 B8 ⊢
 clear b1 O7 B7
 refine (same_c s5 _ [1, 9, 3] [1, 9, 3] true (by simp) (by decide) u8 O8.out A1).mono ?_
 rintro q_ u9 ⟨rfl, b9⟩
 have B9 := Lib.hid (via B8.out b9)
 clear A1 b9 O8 B8
 go_wp2
 go_ret
 exact ⟨rfl, B9.out⟩
/-- v is a slice of bytes that lies in memory. -/
theorem open_bytes {H : Type} {enc : TypeId × Value → H} {W : World} {base : Nat} {v : Value} {d : DataW H} {p : List MemPlace}
    (hv : Value.okWide Try.prog W .any base 22 v) (h : DataW.Trod enc Try.prog W 0 (fun _ => true) true 22 v d p) : ∃ L, Rd W v L ∧ L.length ≤ 9223372036854775807 := by
  obtain ⟨a0, len, cap, rfl⟩ := okWide_slice Try.underlying22 hv
  obtain ⟨fuel, hf⟩ := h
  rcases open_ints Try.underlying22 Try.underlying5 cells5 hf with ⟨hcs, _⟩ | ⟨a, len', cap', zs, hcs, _, hl, hm, hz, _, hcell, hwz⟩
  · simp [Value.cells] at hcs
    obtain ⟨rfl, rfl, rfl⟩ := hcs
    exact ⟨[], Rd.nil W, by simp⟩
  · simp [Value.cells] at hcs
    obtain ⟨rfl, rfl, rfl⟩ := hcs
    simp at hz
    unfold maxLen at hm
    have hlen : ((zs.take len).map Int.toNat).length = len := by simp; omega
    refine ⟨(zs.take len).map Int.toNat, ⟨some a, cap, by rw [hlen], by rw [hlen]; exact hl, fun q => by simp at q, fun x hx => ?_, fun h0 => ?_⟩, by rw [hlen]; omega⟩
    · simp only [List.mem_map] at hx
      obtain ⟨z, hz1, rfl⟩ := hx
      have := u8_bd (hwz z (List.mem_of_mem_take hz1))
      omega
    · rw [hlen] at h0
      obtain ⟨b, off, rfl, hc⟩ := ints_at hcell (by omega)
      refine ⟨b, off, rfl, World.block_lt_of_cell? W _ (hc 0 (by omega)), fun j x hx => ?_⟩
      have hj : j < len := by have := at_lt hx; omega
      have hjz : j < zs.length := by omega
      rw [hc j (by omega)]
      have e : zs.getD j 0 = zs[j] := by simp [hjz]
      rw [List.getElem?_map, List.getElem?_take, if_pos hj, List.getElem?_eq_getElem hjz] at hx
      have hx2 : (zs[j]).toNat = x := by simpa using hx
      have := u8_bd (hwz _ (List.getElem_mem hjz))
      rw [e]
      congr 2
      omega
/-- v is a slice of pairs of words that lies in memory. -/
theorem open_pairs {H : Type} {enc : TypeId × Value → H} {W : World} {base : Nat} {v : Value} {d : DataW H} {p : List MemPlace}
    (hv : Value.okWide Try.prog W .any base 23 v) (h : DataW.Trod enc Try.prog W 0 (fun _ => true) true 23 v d p) : ∃ n, Pa W v n ∧ n ≤ 9223372036854775807 := by
  obtain ⟨a0, len, cap, rfl⟩ := okWide_slice Try.underlying23 hv
  obtain ⟨fuel, hf⟩ := h
  rcases open_slice Try.underlying23 hf with ⟨hcs, _⟩ | ⟨a, len', cap', m, n, D, Pl, hcs, _, hl, hm, hmm, _, hi⟩
  · simp [Value.cells] at hcs
    obtain ⟨rfl, rfl, rfl⟩ := hcs
    exact ⟨0, ⟨none, 0, fun _ => 0, fun _ => 0, rfl, fun _ => by show 0 < 65536; decide, fun _ => by show 0 < 65536; decide, fun h => absurd h (by omega)⟩, by omega⟩
  · simp [Value.cells] at hcs
    obtain ⟨rfl, rfl, rfl⟩ := hcs
    simp at hmm
    unfold maxLen at hm
    rw [cells41] at hi
    have key : ∀ i, i < len → ∃ x y : Nat, x < 65536 ∧ y < 65536 ∧ W.cell? ((a.add (i * 2)).add 0) = some (.int .u16 x) ∧ W.cell? ((a.add (i * 2)).add 1) = some (.int .u16 y) := by
      intro i hlt
      obtain ⟨cs, hc, ht⟩ := hi i (by omega)
      obtain ⟨_, hcl, hat⟩ := World.cells?_some hc
      obtain ⟨xs, m1, _, _, _, hlen, hel⟩ := DataW.trod_array Try.underlying41 ht
      have h0 := hel 0 (by decide)
      have h1 := hel 1 (by decide)
      rw [cells40] at h0 h1
      match cs, hcl with
      | [c0, c1], _ =>
        simp at h0 h1
        have e0 : xs[0]? = some (xs[0]'(by omega)) := List.getElem?_eq_getElem (by omega)
        have e1 : xs[1]? = some (xs[1]'(by omega)) := List.getElem?_eq_getElem (by omega)
        rw [e0] at h0
        rw [e1] at h1
        obtain ⟨x, q0, _, w0⟩ := DataW.trod_int Try.underlying40 h0
        obtain ⟨y, q1, _, w1⟩ := DataW.trod_int Try.underlying40 h1
        have r0 : c0 = .int .u16 x := by simpa using q0
        have r1 : c1 = .int .u16 y := by simpa using q1
        obtain ⟨x', rfl⟩ := Int.eq_ofNat_of_zero_le (u16_bd w0).1
        obtain ⟨y', rfl⟩ := Int.eq_ofNat_of_zero_le (u16_bd w1).1
        refine ⟨x', y', by have := (u16_bd w0).2; omega, by have := (u16_bd w1).2; omega, ?_, ?_⟩
        · rw [hat 0 (by decide)]; simp [r0]
        · rw [hat 1 (by decide)]; simp [r1]
    by_cases h0 : 0 < len
    · obtain ⟨b, off, spot⟩ := a
      obtain ⟨x, y, _, _, hx, _⟩ := key 0 h0
      have hspot : spot = none := by simpa [Addr.add] using World.cell?_spot hx
      subst hspot
      have ad : ∀ i k, ((⟨b, off, none⟩ : Addr).add i).add k = ⟨b, off + i + k, none⟩ := fun i k => by rw [Go.WideShapes.add_plain, Go.WideShapes.add_plain]
      have key2 : ∀ i : Nat, ∃ p : Nat × Nat, p.1 < 65536 ∧ p.2 < 65536 ∧ (i < len → W.cell? ⟨b, off + i * 2, none⟩ = some (.int .u16 p.1) ∧ W.cell? ⟨b, off + i * 2 + 1, none⟩ = some (.int .u16 p.2)) := by
        intro i
        by_cases hlt : i < len
        · obtain ⟨x, y, hx, hy, cx, cy⟩ := key i hlt
          rw [ad] at cx cy
          exact ⟨(x, y), hx, hy, fun _ => ⟨cx, cy⟩⟩
        · exact ⟨(0, 0), by decide, by decide, fun h => absurd h hlt⟩
      obtain ⟨F, hF⟩ := Classical.axiomOfChoice key2
      rw [ad] at hx
      exact ⟨len, ⟨some ⟨b, off, none⟩, cap, fun i => (F i).1, fun i => (F i).2, rfl, fun i => (hF i).1, fun i => (hF i).2.1, fun _ => ⟨b, off, rfl, World.block_lt_of_cell? W _ hx, fun j hj => (hF j).2.2 hj⟩⟩, by omega⟩
    · have e : len = 0 := by omega
      subst e
      exact ⟨0, ⟨some a, cap, fun _ => 0, fun _ => 0, rfl, fun _ => by show 0 < 65536; decide, fun _ => by show 0 < 65536; decide, fun h => absurd h (by omega)⟩, by omega⟩
end Go.Proofs.Ytklbhbappaibgaa
