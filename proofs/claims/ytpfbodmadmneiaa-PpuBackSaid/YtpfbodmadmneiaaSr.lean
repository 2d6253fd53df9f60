/-
 A sprite's four bytes, by the program and by the document; two of them compared: for every memory of at most 8192 bytes.
-/
import Derived.Test.YtpfbodmadmneiaaTz
import Derived.Test.YtpfbodmadmneiaaEnc
import Derived.Deep.Cut
import Derived.BigQuiet
import Derived.WalkSmall
import Derived.Laws.IdiomCopy
namespace Go.Proofs.Ytpfbodmadmneiaa
open Go.ChangeShapes Go.WideShapes Go.ChangeAt Go.RowKit
set_option linter.unusedVariables false
set_option linter.unusedSimpArgs false
set_option maxRecDepth 100000
set_option maxHeartbeats 1000000 in
theorem oat_c (s : Value) (F : M) (n k : Nat) (hn : n < 40) (hk : k < 4) (w : World) (h : Mem w s F) : Calls Try.prog 64 #[s, .int .i64 (n : Int), .int .i64 (k : Int)] w fun q_ w' => q_ = .returned (.int .i64 (F (4 * n + k))) ∧ w = w' := by
 obtain ⟨a, l, c, rfl, h1, h2, h3, h4, h5⟩ := h
 obtain ⟨m, hm⟩ : ∃ m, m = 4 * n + k := ⟨_, rfl⟩
 rw [← hm]
 have em : 4 * (n : Int) + (k : Int) = (m : Int) := by omega
 have m8 : m < 8192 := by omega
 clear hm
 have n0 : (0 : Int) ≤ (n : Int) := by omega
 have n1 : (n : Int) < 40 := by omega
 have k0 : (0 : Int) ≤ (k : Int) := by omega
 have k1 : (k : Int) < 4 := by omega
 have q0 : (0 : Int) ≤ (m : Int) := by omega
 have q1 : (m : Int) < 8192 := by omega
 by_cases hlt : m < l
 ·obtain ⟨b, o, rfl, e2, e3⟩ := h5 (by omega)
  have hc := e3 m hlt
  have hb := h3 m
  have l1 : (m : Int) < (l : Int) := by omega
  generalize F m = x at hc hb ⊢
  clear e3 h5 h4 h3
  go_enter Try.func64, Try.ntmps64
  go_wp2
  go_ret
  exact ⟨rfl, rfl⟩
 ·rw [h4 m (by omega)]
  have l1 : ¬ (m : Int) < (l : Int) := by omega
  clear h5 h4 h3
  go_enter Try.func64, Try.ntmps64
  go_wp2
  go_ret
  exact ⟨rfl, rfl⟩
theorem oat0_c (s : Value) (F : M) (n : Nat) (hn : n < 40) (w : World) (h : Mem w s F) : Calls Try.prog 64 #[s, .int .i64 (n : Int), .int .i64 0] w fun q_ w' => q_ = .returned (.int .i64 (F (4 * n))) ∧ w = w' := oat_c s F n 0 hn (by omega) w h
theorem oat1_c (s : Value) (F : M) (n : Nat) (hn : n < 40) (w : World) (h : Mem w s F) : Calls Try.prog 64 #[s, .int .i64 (n : Int), .int .i64 1] w fun q_ w' => q_ = .returned (.int .i64 (F (4 * n + 1))) ∧ w = w' := oat_c s F n 1 hn (by omega) w h
theorem oat2_c (s : Value) (F : M) (n : Nat) (hn : n < 40) (w : World) (h : Mem w s F) : Calls Try.prog 64 #[s, .int .i64 (n : Int), .int .i64 2] w fun q_ w' => q_ = .returned (.int .i64 (F (4 * n + 2))) ∧ w = w' := oat_c s F n 2 hn (by omega) w h
theorem oat3_c (s : Value) (F : M) (n : Nat) (hn : n < 40) (w : World) (h : Mem w s F) : Calls Try.prog 64 #[s, .int .i64 (n : Int), .int .i64 3] w fun q_ w' => q_ = .returned (.int .i64 (F (4 * n + 3))) ∧ w = w' := oat_c s F n 3 hn (by omega) w h
theorem sz5 : (Try.prog.info? 5).map (·.size) = some 1 := by kernel_rfl
/-- The bytes that are copied: r of them, but no more than 4. -/
def cpl (O : M) (st r : Nat) : List Value := (List.range (min r 4)).map fun j => .int .u8 (O (st + j))
theorem cpl_len (O : M) (st r : Nat) : (cpl O st r).length = min r 4 := by simp [cpl]
theorem cpl_get (O : M) (st r j : Nat) (h : j < min r 4) : (cpl O st r)[j]? = some (.int .u8 (O (st + j))) := by unfold cpl; rw [List.getElem?_map, List.getElem?_range h]; rfl
theorem copy_s (w : World) (ab b o st r c : Nat) (O : M) (ty : TypeId) (hA : Has w ab #[.int .u8 0, .int .u8 0, .int .u8 0, .int .u8 0]) (hr : 0 < r) (hO : ∀ j, j < r → w.cell? ⟨b, o + st + j, none⟩ = some (.int .u8 (O (st + j)))) :
  (Builtin.copy_ #[31, 31] ty #[.slice (some ⟨ab, 0, none⟩) 4 4, .slice (some ⟨b, o + st, none⟩) r c]).run Try.prog w = .ok (.int .i64 ((min r 4 : Nat) : Int)) (w.setCells ab 0 (cpl O st r)) := by
 have := run_copy_cells (P := Try.prog) w 31 31 ty 5 ab 0 4 4 ⟨b, o + st, none⟩ r c (cpl O st r) Try.underlying31 sz5 (by rw [cpl_len])
  (fun j v hv => by
   have hj : j < min r 4 := by have := (List.getElem?_eq_some_iff.1 hv).1; rwa [cpl_len] at this
   rw [cpl_get O st r j hj] at hv
   rw [show (⟨b, o + st, none⟩ : Addr).add j = ⟨b, o + st + j, none⟩ from Addr.add_mid b (o + st) j, hO j (by omega)]
   exact hv)
  (fun j hj => by
   rw [cpl_len] at hj
   rw [hA.2.1]
   rcases (show j = 0 ∨ j = 1 ∨ j = 2 ∨ j = 3 by omega) with rfl | rfl | rfl | rfl <;> rfl)
  (fun j hj => hA.2.2 _)
  (fun v hv => by unfold cpl at hv; obtain ⟨j, _, rfl⟩ := List.mem_map.1 hv; rfl)
 rw [this, cpl_len]; rfl
theorem copy_has {w : World} {ab : Nat} (O : M) (st r : Nat) (hA : Has w ab #[.int .u8 0, .int .u8 0, .int .u8 0, .int .u8 0]) (hz : ∀ k, st + r ≤ k → O k = 0) : Has (w.setCells ab 0 (cpl O st r)) ab #[.int .u8 (O st), .int .u8 (O (st + 1)), .int .u8 (O (st + 2)), .int .u8 (O (st + 3))] := by
 have there : ∀ o, o < 4 → (w.cell? ⟨ab, o, none⟩).isSome = true := fun o ho => by
  rw [hA.2.1]
  rcases (show o = 0 ∨ o = 1 ∨ o = 2 ∨ o = 3 by omega) with rfl | rfl | rfl | rfl <;> rfl
 refine ⟨Nat.lt_of_lt_of_le hA.1 (Keeps.setCells (b := ab) (cpl O st r) 0 (Keeps.refl ab w)).size, fun o => ?_, fun o => ?_⟩
 ·by_cases ho : o < min r 4
  ·have := World.cell?_setCells_in ab (cpl O st r) 0 w (fun i hi => by rw [cpl_len] at hi; rw [Nat.zero_add]; exact there i (by omega)) o (by rw [cpl_len]; omega)
   rw [Nat.zero_add] at this
   rw [this, ← List.getElem?_eq_getElem, cpl_get O st r o ho]
   rcases (show o = 0 ∨ o = 1 ∨ o = 2 ∨ o = 3 by omega) with rfl | rfl | rfl | rfl <;> rfl
  ·rw [World.cell?_setCells_out ab (cpl O st r) 0 w ⟨ab, o, none⟩ (fun _ _ => by rw [cpl_len]; show o < 0 ∨ 0 + min r 4 ≤ o; omega), hA.2.1]
   by_cases h4 : o < 4
   ·rcases (show o = 0 ∨ o = 1 ∨ o = 2 ∨ o = 3 by omega) with rfl | rfl | rfl | rfl
    ·have := hz st (by omega); simp [this]
    ·have := hz (st + 1) (by omega); simp [this]
    ·have := hz (st + 2) (by omega); simp [this]
    ·have := hz (st + 3) (by omega); simp [this]
   ·rw [Array.getElem?_eq_none (by simp; omega), Array.getElem?_eq_none (by simp; omega)]
 ·rw [World.frozen?_setCells]; exact hA.2.2 o
set_option maxHeartbeats 2000000 in
theorem spr_c (ov : Value) (O : M) (n : Nat) (hn : n < 40) (w : World) (hM0 : Mem w ov O) : Calls Try.prog 81 #[ov, .int .i64 (n : Int)] w fun q_ w' => q_ = .returned (.agg #[.int .u8 (O (4 * n)), .int .u8 (O (4 * n + 1)), .int .u8 (O (4 * n + 2)), .int .u8 (O (4 * n + 3))]) ∧ Below w.heap.size w w' := by
 suffices hall : ∀ (n_ : Nat) (W0 : World), n_ ≤ W0.heap.size → Below n_ W0 w → MemB n_ W0 ov O → Calls Try.prog 81 #[ov, .int .i64 (n : Int)] w fun q_ w' => q_ = .returned (.agg #[.int .u8 (O (4 * n)), .int .u8 (O (4 * n + 1)), .int .u8 (O (4 * n + 2)), .int .u8 (O (4 * n + 3))]) ∧ Below n_ W0 w' from hall _ _ (Nat.le_refl _) (Below.refl _ _) hM0
 clear hM0
 intro n_ W0 hn hB hM0
 have HN := Lib.hid hn
 have BB := Lib.hid hB
 clear hn hB
 have HM0 := Lib.hid hM0
 clear hM0
 obtain ⟨st, hst⟩ : ∃ m, m = 4 * n := ⟨_, rfl⟩
 rw [← hst]
 have es : (n : Int) * 4 = (st : Int) := by omega
 have s8 : st < 160 := by omega
 clear hst
 have n0 : (0 : Int) ≤ (n : Int) := by omega
 have n1 : (n : Int) < 40 := by omega
 have q0 : (0 : Int) ≤ (st : Int) := by omega
 have q1 : (st : Int) < 160 := by omega
 have hM := HM0.out
 obtain ⟨a, l, cp, rfl, h1, h2, h3, h4, h5⟩ := hM
 clear HM0
 have H3 := Lib.hid h3
 have H4 := Lib.hid h4
 have H5 := Lib.hid h5
 clear h3 h4 h5
 by_cases hlt : st < l
 ·skip
  have l1 : (st : Int) < (l : Int) := by omega
  obtain ⟨b, o, rfl, e2, e3⟩ := H5.out (by omega)
  have E3 := Lib.hid e3
  clear e3 H5
  obtain ⟨r, hr⟩ : ∃ r, r = l - st := ⟨_, rfl⟩
  have r0 : 0 < r := by omega
  have er : l = st + r := by omega
  clear hr
  subst er
  have sl : (st : Int) ≤ (st : Int) + (r : Int) := by omega
  have sc : ¬ cp = st := by omega
  have HZ := Lib.hid (show ∀ k, st + r ≤ k → O k = 0 from H4.out)
  go_enter Try.func81, Try.ntmps81
  have Q_ := own2 w (.cells #[.int .u8 0, .int .u8 0, .int .u8 0, .int .u8 0] 105) (.cells #[.int .u8 0, .int .u8 0, .int .u8 0, .int .u8 0] 111)
  have B0 := Lib.hid (vian HN.out BB.out Q_)
  have P0 := Lib.hid (show Has ((w.alloc (.cells #[.int .u8 0, .int .u8 0, .int .u8 0, .int .u8 0] 105)).alloc (.cells #[.int .u8 0, .int .u8 0, .int .u8 0, .int .u8 0] 111)) w.heap.size #[.int .u8 0, .int .u8 0, .int .u8 0, .int .u8 0] by simpa using (Has.new w #[.int .u8 0, .int .u8 0, .int .u8 0, .int .u8 0] 105).alloc (.cells #[.int .u8 0, .int .u8 0, .int .u8 0, .int .u8 0] 111))
  have LP := Lib.hid (show n_ ≤ w.heap.size + 0 from Nat.le_add_right_of_le (Nat.le_trans HN.out BB.out.size))
  have A0 := Lib.hid (show Has ((w.alloc (.cells #[.int .u8 0, .int .u8 0, .int .u8 0, .int .u8 0] 105)).alloc (.cells #[.int .u8 0, .int .u8 0, .int .u8 0, .int .u8 0] 111)) (w.heap.size + 1) #[.int .u8 0, .int .u8 0, .int .u8 0, .int .u8 0] by simpa using Has.new (w.alloc (.cells #[.int .u8 0, .int .u8 0, .int .u8 0, .int .u8 0] 105)) #[.int .u8 0, .int .u8 0, .int .u8 0, .int .u8 0] 111)
  have LA := Lib.hid (show n_ ≤ (w.heap.size + 1) from Nat.le_add_right_of_le (Nat.le_trans HN.out BB.out.size))
  have NPA := Lib.hid (show w.heap.size + 0 ≠ w.heap.size + 1 by omega)
  simp only [Nat.add_zero] at LP NPA
  clear Q_
  go_upto_region 2 with (fail)
  generalize ((w.alloc (.cells #[.int .u8 0, .int .u8 0, .int .u8 0, .int .u8 0] 105)).alloc (.cells #[.int .u8 0, .int .u8 0, .int .u8 0, .int .u8 0] 111)) = u0 at B0 P0 A0 ⊢
  generalize w.heap.size + 1 = ab at A0 LA NPA ⊢
  generalize w.heap.size = pb at P0 LP NPA ⊢
  obtain ⟨hc0, hf0⟩ := A0.out.out
  go_upto_region 4 with (fail)
  clear hc0 hf0
  have B1 := Lib.hid B0.out.drew
  have P1 := Lib.hid P0.out.drew
  have A1 := Lib.hid A0.out.drew
  clear B0 P0 A0
  refine wp_region_held_drew (S := (fun w' => True)) (by kernel_rfl) trivial (fun hHeld => ?_)
  generalize World.drew _ = u1 at hHeld B1 P1 A1 ⊢
  refine tzz 0 ?_
  refine tzz 1 ?_
  refine tzz 2 ?_
  refine tzz 3 ?_
  refine wpAnyH_ready (rs := [4]) (by kernel_rfl) (by simp) ?_
  refine (acc rfl (fun K hK => ?_) AllReadyH.nil)
  ·skip
   have hO := fun j (hj : j < r) => (show u1.cell? ⟨b, o + st + j, none⟩ = some (.int .u8 (O (st + j))) by rw [Nat.add_assoc]; exact (B1.out.cell (p := ⟨b, o + (st + j), none⟩) e2).trans (E3.out (st + j) (by omega)))
   have hcp := fun ty cc => copy_s u1 ab b o st r cc O ty A1.out r0 hO
   go_simp
   clear hcp hO
   have hk := (Keeps.refl ab u1).setCells (cpl O st r) 0
   have A2 := Lib.hid (copy_has O st r A1.out HZ.out)
   have B2 := Lib.hid (hk.below HN.out LA.out B1.out)
   have P2 := Lib.hid (hk.has NPA.out P1.out)
   clear hk B1 P1 A1
   refine hK.out _ _ ?s5 (fun hNew => ?r5)
   case s5 => exact trivial
   clear hK K hHeld
   have hHeld := hNew
   clear hNew
   generalize World.setCells _ _ _ _ = u2 at hHeld B2 P2 A2 ⊢
   refine wpAnyH_done (by kernel_rfl) ?_ _
   clear hHeld
   obtain ⟨hc0, hf0⟩ := A2.out.out
   go_wp2_with (refine store_g r43 P2.out rfl #[.int .u8 (O st), .int .u8 (O (st + 1)), .int .u8 (O (st + 2)), .int .u8 (O (st + 3))] rfl (four_one _ _ _ _) rfl _ _ rfl rfl rfl ?_)
   intro u3 hP hk
   clear hc0 hf0
   have P3 := Lib.hid hP
   have B3 := Lib.hid (hk.below HN.out LP.out B2.out)
   clear hk hP B2 P2
   try simp only [Act.put]
   go_wp2_with (fail)
   exact bodyPost_ret (results_g r43 rfl _ rfl P3.out rfl) rfl ⟨rfl, B3.out⟩
 ·skip
  have l1 : ¬ (st : Int) < (l : Int) := by omega
  rw [H4.out st (by omega), H4.out (st + 1) (by omega), H4.out (st + 2) (by omega), H4.out (st + 3) (by omega)]
  go_enter Try.func81, Try.ntmps81
  have Q_ := own2 w (.cells #[.int .u8 0, .int .u8 0, .int .u8 0, .int .u8 0] 105) (.cells #[.int .u8 0, .int .u8 0, .int .u8 0, .int .u8 0] 111)
  have B0 := Lib.hid (vian HN.out BB.out Q_)
  have P0 := Lib.hid (show Has ((w.alloc (.cells #[.int .u8 0, .int .u8 0, .int .u8 0, .int .u8 0] 105)).alloc (.cells #[.int .u8 0, .int .u8 0, .int .u8 0, .int .u8 0] 111)) w.heap.size #[.int .u8 0, .int .u8 0, .int .u8 0, .int .u8 0] by simpa using (Has.new w #[.int .u8 0, .int .u8 0, .int .u8 0, .int .u8 0] 105).alloc (.cells #[.int .u8 0, .int .u8 0, .int .u8 0, .int .u8 0] 111))
  have LP := Lib.hid (show n_ ≤ w.heap.size + 0 from Nat.le_add_right_of_le (Nat.le_trans HN.out BB.out.size))
  have A0 := Lib.hid (show Has ((w.alloc (.cells #[.int .u8 0, .int .u8 0, .int .u8 0, .int .u8 0] 105)).alloc (.cells #[.int .u8 0, .int .u8 0, .int .u8 0, .int .u8 0] 111)) (w.heap.size + 1) #[.int .u8 0, .int .u8 0, .int .u8 0, .int .u8 0] by simpa using Has.new (w.alloc (.cells #[.int .u8 0, .int .u8 0, .int .u8 0, .int .u8 0] 105)) #[.int .u8 0, .int .u8 0, .int .u8 0, .int .u8 0] 111)
  have LA := Lib.hid (show n_ ≤ (w.heap.size + 1) from Nat.le_add_right_of_le (Nat.le_trans HN.out BB.out.size))
  have NPA := Lib.hid (show w.heap.size + 0 ≠ w.heap.size + 1 by omega)
  simp only [Nat.add_zero] at LP NPA
  clear Q_
  go_upto_region 2 with (fail)
  generalize ((w.alloc (.cells #[.int .u8 0, .int .u8 0, .int .u8 0, .int .u8 0] 105)).alloc (.cells #[.int .u8 0, .int .u8 0, .int .u8 0, .int .u8 0] 111)) = u0 at B0 P0 A0 ⊢
  generalize w.heap.size + 1 = ab at A0 LA NPA ⊢
  generalize w.heap.size = pb at P0 LP NPA ⊢
  obtain ⟨hc0, hf0⟩ := A0.out.out
  go_wp2_with (refine store_g r43 P0.out rfl #[.int .u8 0, .int .u8 0, .int .u8 0, .int .u8 0] rfl (four_one _ _ _ _) rfl _ _ rfl rfl rfl ?_)
  intro u1 hP hk
  clear hc0 hf0
  have P1 := Lib.hid hP
  have B1 := Lib.hid (hk.below HN.out LP.out B0.out)
  clear hk hP B0 P0
  try simp only [Act.put]
  go_wp2_with (fail)
  exact bodyPost_ret (results_g r43 rfl _ rfl P1.out rfl) rfl ⟨rfl, B1.out⟩
theorem nan_c (x : Int) (w : World) : Calls Try.prog 97 #[.int .u8 x] w fun q_ w' => q_ = .returned (.bool false) ∧ w = w' := by
 go_enter Try.func97, Try.ntmps97
 go_wp2
 go_ret
 exact ⟨rfl, rfl⟩
def cmpV (x y : Int) : Int := if x < y then -1 else if y < x then 1 else 0
theorem cmpV_neg (x y : Int) : cmpV x y < 0 ↔ x < y := by
 unfold cmpV
 split
 ·simp_all
 ·split <;> simp_all
theorem cmp_lt (x y : Int) (h : x < y) (w : World) : Calls Try.prog 92 #[.int .u8 x, .int .u8 y] w fun q_ w' => q_ = .returned (.int .i64 (-1)) ∧ w = w' := by
 have h1 : x < y := by omega
 have h2 : ¬ y < x := by omega
 clear h
 have N1 := Lib.hid (fun W => nan_c x W)
 have N2 := Lib.hid (fun W => nan_c y W)
 go_enter Try.func92, Try.ntmps92
 go_wp2_with (fail)
 with_reducible refine (N1.out _).mono ?_
 rintro q_ w' ⟨rfl, rfl⟩
 go_wp2_with (fail)
 with_reducible refine (N2.out _).mono ?_
 rintro q_ w' ⟨rfl, rfl⟩
 go_wp2_with (fail)
 go_ret
 exact ⟨rfl, rfl⟩
theorem cmp_gt (x y : Int) (h : y < x) (w : World) : Calls Try.prog 92 #[.int .u8 x, .int .u8 y] w fun q_ w' => q_ = .returned (.int .i64 (1)) ∧ w = w' := by
 have h1 : ¬ x < y := by omega
 have h2 : y < x := by omega
 clear h
 have N1 := Lib.hid (fun W => nan_c x W)
 have N2 := Lib.hid (fun W => nan_c y W)
 go_enter Try.func92, Try.ntmps92
 go_wp2_with (fail)
 with_reducible refine (N1.out _).mono ?_
 rintro q_ w' ⟨rfl, rfl⟩
 go_wp2_with (fail)
 with_reducible refine (N2.out _).mono ?_
 rintro q_ w' ⟨rfl, rfl⟩
 go_wp2_with (fail)
 go_ret
 exact ⟨rfl, rfl⟩
theorem cmp_eq (x y : Int) (h : x = y) (w : World) : Calls Try.prog 92 #[.int .u8 x, .int .u8 y] w fun q_ w' => q_ = .returned (.int .i64 (0)) ∧ w = w' := by
 have h1 : ¬ x < y := by omega
 have h2 : ¬ y < x := by omega
 subst h
 have N1 := Lib.hid (fun W => nan_c x W)
 have N2 := Lib.hid (fun W => nan_c x W)
 go_enter Try.func92, Try.ntmps92
 go_wp2_with (fail)
 with_reducible refine (N1.out _).mono ?_
 rintro q_ w' ⟨rfl, rfl⟩
 go_wp2_with (fail)
 with_reducible refine (N2.out _).mono ?_
 rintro q_ w' ⟨rfl, rfl⟩
 go_wp2_with (fail)
 go_ret
 exact ⟨rfl, rfl⟩
theorem cmp_c (x y : Int) (w : World) : Calls Try.prog 92 #[.int .u8 x, .int .u8 y] w fun q_ w' => q_ = .returned (.int .i64 (cmpV x y)) ∧ w = w' := by
 unfold cmpV
 by_cases h1 : x < y
 ·rw [if_pos h1]; exact cmp_lt x y h1 w
 ·by_cases h2 : y < x
  ·rw [if_neg h1, if_pos h2]; exact cmp_gt x y h2 w
  ·rw [if_neg h1, if_neg h2]; exact cmp_eq x y (by omega) w
end Go.Proofs.Ytpfbodmadmneiaa
