/-
  The walk through SoundReads: for every slice of calls; no condition but that each number fits, and that the table lies as it is laid.
-/
import Derived.Test.YtonmnpadmphbdaaDoorPr
import Derived.Deep.Cut
import Derived.BigQuiet
import Derived.WalkSmall
namespace Go.Proofs.YtonmnpadmphbdaaDoor
open Go.ChangeShapes Go.WideShapes Go.ChangeAt Go.RowKit
set_option linter.unusedVariables false
set_option linter.unusedSimpArgs false
set_option maxRecDepth 100000
def row23 : Array Value := #[.int .u8 128, .int .u8 63, .int .u8 0, .int .u8 255, .int .u8 191, .int .u8 255, .int .u8 63, .int .u8 0, .int .u8 255, .int .u8 191, .int .u8 127, .int .u8 255, .int .u8 159, .int .u8 255, .int .u8 191, .int .u8 255, .int .u8 255, .int .u8 0, .int .u8 0, .int .u8 191, .int .u8 0, .int .u8 0, .int .u8 112]
def zero23 : Array Value := #[.int .u8 0, .int .u8 0, .int .u8 0, .int .u8 0, .int .u8 0, .int .u8 0, .int .u8 0, .int .u8 0, .int .u8 0, .int .u8 0, .int .u8 0, .int .u8 0, .int .u8 0, .int .u8 0, .int .u8 0, .int .u8 0, .int .u8 0, .int .u8 0, .int .u8 0, .int .u8 0, .int .u8 0, .int .u8 0, .int .u8 0]
theorem row23_get (n : Nat) (h : n < 23) : row23[n]? = some (.int .u8 (mask n)) := by
  rcases (show n = 0 ∨ n = 1 ∨ n = 2 ∨ n = 3 ∨ n = 4 ∨ n = 5 ∨ n = 6 ∨ n = 7 ∨ n = 8 ∨ n = 9 ∨ n = 10 ∨ n = 11 ∨ n = 12 ∨ n = 13 ∨ n = 14 ∨ n = 15 ∨ n = 16 ∨ n = 17 ∨ n = 18 ∨ n = 19 ∨ n = 20 ∨ n = 21 ∨ n = 22 by omega) with rfl | rfl | rfl | rfl | rfl | rfl | rfl | rfl | rfl | rfl | rfl | rfl | rfl | rfl | rfl | rfl | rfl | rfl | rfl | rfl | rfl | rfl | rfl <;> rfl
theorem info40 : (Tryd.prog.info? 40).map (·.size) = some 23 := by kernel_rfl
/-- The row of the law's own masks is stored. -/
theorem store_row {ops : Array Oper} {rest : List Oper} {op : Oper} {a : Act} {w : World} {Q : Exit → Act → World → Prop} {b : Nat} (h : Has w b zero23)
    (hgd : op.guard = none) (x y : Operand) (ho : op.op = .store 40 x y) (hx : a.eval x = .pointer (some ⟨b, 0, none⟩)) (hy : a.eval y = .agg row23)
    (hK : ∀ w', Has w' b row23 → Keeps b w w' → wpList Tryd.prog ops Q rest (a.put op.dst undef) w') : wpList Tryd.prog ops Q (op :: rest) a w := by
  refine wpList_store_mid hgd 40 x y ho b 0 row23 hx hy (h.there) (by rw [info40]; rfl) (by simp [row23, Value.oneCell']) ?_
  exact hK _ (h.puts rfl) (Keeps.setCells _ 0 (Keeps.refl b w))
attribute [irreducible] row23
set_option maxHeartbeats 2000000 in
theorem reads_long (a : Option Addr) (n c : Nat) (k x : Int) (h0 : 40 < n) (w : World) (hg : Glob w) : Calls Tryd.prog 6 #[.slice a n c, .int .u8 k, .int .u8 x] w fun q_ w' => q_ = .returned (.bool true) ∧ Below w.heap.size w w' := by
  suffices hall : ∀ (n_ : Nat) (W0 : World), n_ ≤ W0.heap.size → Below n_ W0 w → Glob W0 → 0 < n_ → Calls Tryd.prog 6 #[.slice a n c, .int .u8 k, .int .u8 x] w fun q_ w' => q_ = .returned (.bool true) ∧ Below n_ W0 w' from hall _ _ (Nat.le_refl _) (Below.refl _ _) hg hg.1
  clear hg
  intro n_ W0 hn hB hG hn0
  have HN := Lib.hid hn
  have BB := Lib.hid hB
  have HG := Lib.hid hG
  have N0 := Lib.hid hn0
  clear hn hB hG hn0
  have h0I : (40 : Int) < n := by omega
  have AW := Lib.hid awake_c
  have hnot : ∀ (x : Bool) (w : World), (Op.unary .not (.bool x)).run Tryd.prog w = .ok (.bool (!x)) w := fun _ _ => rfl
  go_enter Tryd.func6, Tryd.ntmps6
  go_wp2_with (fail)
  with_reducible refine (AW.out _ (HG.out.below N0.out BB.out)).mono ?_
  rintro q_ u1 ⟨rfl, hb⟩
  have B1 := Lib.hid (vian HN.out BB.out hb)
  clear hb 
  go_wp2_with (fail)
  with_reducible refine (AW.out _ (HG.out.below N0.out B1.out)).mono ?_
  rintro q_ u2 ⟨rfl, hb⟩
  have B2 := Lib.hid (vian HN.out B1.out hb)
  clear hb B1
  go_wp2_with (fail)
  go_ret
  exact ⟨rfl, B2.out⟩
set_option maxHeartbeats 8000000 in
theorem reads_22 (a : Option Addr) (n c : Nat) (f g h : Nat → Int) (hh : ∀ i, 0 ≤ h i ∧ h i < 256) (kn j : Nat) (x : Int) (hn4 : n ≤ 40) (hj : kn % 48 = j) (hk : kn < 256) (g0 : 0 ≤ x) (g1 : x < 256) (h2 : j = 22) (w : World) (hmem : (0 < n → ∃ qb qo, a = some ⟨qb, qo, none⟩ ∧ qb < w.heap.size ∧ ∀ j, j < n → w.cell? ⟨qb, qo + j * 3, none⟩ = some (.int .i64 (f j)) ∧ w.cell? ⟨qb, qo + j * 3 + 1, none⟩ = some (.int .i64 (g j)) ∧ w.cell? ⟨qb, qo + j * 3 + 2, none⟩ = some (.int .u8 (h j)))) (hg : Glob w) : Calls Tryd.prog 6 #[.slice a n c, .int .u8 kn, .int .u8 x] w fun q_ w' => q_ = .returned (.bool true) ∧ Below w.heap.size w w' := by
  suffices hall : ∀ (n_ : Nat) (W0 : World), n_ ≤ W0.heap.size → Below n_ W0 w → (0 < n → ∃ qb qo, a = some ⟨qb, qo, none⟩ ∧ qb < n_ ∧ ∀ j, j < n → W0.cell? ⟨qb, qo + j * 3, none⟩ = some (.int .i64 (f j)) ∧ W0.cell? ⟨qb, qo + j * 3 + 1, none⟩ = some (.int .i64 (g j)) ∧ W0.cell? ⟨qb, qo + j * 3 + 2, none⟩ = some (.int .u8 (h j))) → Glob W0 → 0 < n_ → Calls Tryd.prog 6 #[.slice a n c, .int .u8 kn, .int .u8 x] w fun q_ w' => q_ = .returned (.bool true) ∧ Below n_ W0 w' from hall _ _ (Nat.le_refl _) (Below.refl _ _) hmem hg hg.1
  clear hg
  intro n_ W0 hn hB hI hG hn0
  have HN := Lib.hid hn
  have BB := Lib.hid hB
  have HIN := Lib.hid hI
  have HH := Lib.hid hh
  clear hn hB hI hmem hh
  have HG := Lib.hid hG
  have N0 := Lib.hid hn0
  clear hG hn0
  have h0I : ¬ (40 : Int) < n := by omega
  have AW := Lib.hid awake_c
  obtain ⟨m0, hm0⟩ : ∃ q_, playN f g h n = q_ := ⟨_, rfl⟩
  have k0 : okM m0 := hm0 ▸ ok_play f g h HH.out n
  have SP := Lib.hid (fun W hmem => play_c a n c f g h HH.out hn4 W hmem)
  rw [hm0] at SP
  obtain ⟨mb, hmb⟩ : ∃ q_, onV m0 = q_ := ⟨_, rfl⟩
  have SW := Lib.hid (fun W => (write_c m0 k0 22 128 (by decide) (by decide) W))
  have hwb : writeV m0 22 128 = mb := hmb
  rw [hwb] at SW
  have k1 : okM mb := hmb ▸ ok_on k0
  have e48 : mb 48 = 1 := hmb ▸ on_48 m0
  have SX := Lib.hid (fun W => write_c mb k1 (j : Int) x g0 g1 W)
  obtain ⟨mc, hmc⟩ : ∃ q_, writeV mb (j : Int) x = q_ := ⟨_, rfl⟩
  rw [hmc] at SX
  have hj2 : (kn : Int) % 48 = (j : Int) := by omega
  have hj3 : (kn : Int).tmod 48 = (j : Int) := by rw [Int.tmod_eq_emod_of_nonneg (by omega)]; exact hj2
  have j48 : j < 48 := by omega
  have j22 : ((j : Int) == 22) = true := by simp; omega
  obtain ⟨r, hr⟩ : ∃ q_, readV mc (j : Int) = q_ := ⟨_, rfl⟩
  have hrr : bits .and .u8 r 112 = 112 ∧ r / 128 = x / 128 := by
    have ej : (j : Int) = 22 := by omega
    rw [← hr, ← hmc, ej, read22]
    unfold writeV
    rw [if_pos rfl]
    by_cases q : 128 ≤ x
    · rw [if_pos q]
      have := status_of (onV mb) (on_48 mb)
      exact ⟨this.1, by rw [this.2]; omega⟩
    · rw [if_neg q, status_off]
      exact ⟨by decide +kernel, by rw [show bits .or .u8 0 112 = 112 by decide +kernel]; omega⟩
  have SR := Lib.hid (fun W hW => read_c mc (j : Int) W hW)
  rw [hr] at SR
  obtain ⟨r1, r2⟩ := hrr
  clear hr hmc hmb hwb k0 k1 e48 hm0 hj h2
  have hz29 : ∀ w : World, (zeroValue 29).run Tryd.prog w = .ok (.agg (enc zeroM)) w := zero29
  have hnot : ∀ (x : Bool) (w : World), (Op.unary .not (.bool x)).run Tryd.prog w = .ok (.bool (!x)) w := fun _ _ => rfl
  go_enter Tryd.func6, Tryd.ntmps6
  go_wp2_with (fail)
  with_reducible refine (AW.out _ (HG.out.below N0.out BB.out)).mono ?_
  rintro q_ u1 ⟨rfl, hb⟩
  have B1 := Lib.hid (vian HN.out BB.out hb)
  clear hb 
  go_wp2_with (fail)
  with_reducible refine (SP.out _ (fun hp => by obtain ⟨qb, qo, e1, e2, e3⟩ := HIN.out hp; exact ⟨qb, qo, e1, Nat.lt_of_lt_of_le (Nat.lt_of_lt_of_le e2 HN.out) B1.out.size, fun i hi => ⟨(B1.out.cell (p := ⟨qb, qo + i * 3, none⟩) e2).trans (e3 i hi).1, (B1.out.cell (p := ⟨qb, qo + i * 3 + 1, none⟩) e2).trans (e3 i hi).2.1, (B1.out.cell (p := ⟨qb, qo + i * 3 + 2, none⟩) e2).trans (e3 i hi).2.2⟩⟩)).mono ?_
  rintro q_ u2 ⟨rfl, hb⟩
  have B2 := Lib.hid (vian HN.out B1.out hb)
  clear hb B1
  go_wp2_with (fail)
  with_reducible refine (SW.out _).mono ?_
  rintro q_ u3 ⟨rfl, hb⟩
  have B3 := Lib.hid (vian HN.out B2.out hb)
  clear hb B2
  go_wp2_with (refine store_b (Has.new u3 (enc zeroM) 29) (mb) rfl _ _ rfl rfl rfl ?_)
  intro u4 hP hk
  have Q_ := own1 u3 (.cells (enc zeroM) 29)
  have LP := Lib.hid (show n_ ≤ u3.heap.size from Nat.le_trans HN.out B3.out.size)
  have B4 := Lib.hid (hk.below HN.out LP.out (vian HN.out B3.out Q_))
  have P4 := Lib.hid hP
  generalize u3.heap.size = pb at LP  P4 ⊢
  clear hk hP Q_ B3
  try simp only [Act.put, List.setIfInBounds_toArray, List.set_cons_zero, List.set_cons_succ]
  go_wp2_with (first | ((first | (refine load_b P4.out rfl _ rfl rfl ?_) | (refine load_bg P4.out rfl _ rfl rfl ?_)); simp only [Act.put, List.setIfInBounds_toArray, List.set_cons_zero, List.set_cons_succ]))
  with_reducible refine (SX.out _).mono ?_
  rintro q_ u5 ⟨rfl, hb⟩
  have B5 := Lib.hid (vian HN.out B4.out hb)
  have P5 := Lib.hid (P4.out.below hb)
  clear hb B4 P4
  go_wp2_with (refine store_b (Has.new u5 (enc zeroM) 29) (mc) rfl _ _ rfl rfl rfl ?_)
  intro u6 hP hk
  have Q_ := own1 u5 (.cells (enc zeroM) 29)
  have LC := Lib.hid (show n_ ≤ u5.heap.size from Nat.le_trans HN.out B5.out.size)
  have NPC := Lib.hid (show pb ≠ u5.heap.size from Nat.ne_of_lt P5.out.1)
  have B6 := Lib.hid (hk.below HN.out LC.out (vian HN.out B5.out Q_))
  have P6 := Lib.hid (hk.has NPC.out (P5.out.below Q_))
  have C6 := Lib.hid hP
  generalize u5.heap.size = cb at LC NPC C6 ⊢
  clear hk hP Q_ B5 P5
  try simp only [Act.put, List.setIfInBounds_toArray, List.set_cons_zero, List.set_cons_succ]
  go_wp2_with (refine store_row (Has.new u6 zero23 40) rfl _ _ rfl rfl (by unfold row23; rfl) ?_)
  intro u7 hP hk
  have Q_ := own1 u6 (.cells zero23 40)
  have LT := Lib.hid (show n_ ≤ u6.heap.size from Nat.le_trans HN.out B6.out.size)
  have NPT := Lib.hid (show pb ≠ u6.heap.size from Nat.ne_of_lt P6.out.1)
  have NCT := Lib.hid (show cb ≠ u6.heap.size from Nat.ne_of_lt C6.out.1)
  have B7 := Lib.hid (hk.below HN.out LT.out (vian HN.out B6.out Q_))
  have P7 := Lib.hid (hk.has NPT.out (P6.out.below Q_))
  have C7 := Lib.hid (hk.has NCT.out (C6.out.below Q_))
  have T7 := Lib.hid hP
  generalize u6.heap.size = tb at LT NPT NCT T7 ⊢
  clear hk hP Q_ B6 P6 C6
  try simp only [Act.put]
  go_wp2_with (first | ((first | (refine load_b C7.out rfl _ rfl rfl ?_) | (refine load_bg C7.out rfl _ rfl rfl ?_)); simp only [Act.put, List.setIfInBounds_toArray, List.set_cons_zero, List.set_cons_succ]))
  with_reducible refine (SR.out _ (HG.out.below N0.out B7.out)).mono ?_
  rintro q_ u8 ⟨rfl, hb⟩
  have B8 := Lib.hid (vian HN.out B7.out hb)
  have P8 := Lib.hid (P7.out.below hb)
  have C8 := Lib.hid (C7.out.below hb)
  have T8 := Lib.hid (T7.out.below hb)
  clear hb B7 P7 C7 T7
  go_wp2_with (first | ((first | (refine load_b C8.out rfl _ rfl rfl ?_) | (refine load_bg C8.out rfl _ rfl rfl ?_)); simp only [Act.put, List.setIfInBounds_toArray, List.set_cons_zero, List.set_cons_succ]))
  with_reducible refine (SR.out _ (HG.out.below N0.out B8.out)).mono ?_
  rintro q_ u9 ⟨rfl, hb⟩
  have B9 := Lib.hid (vian HN.out B8.out hb)
  have P9 := Lib.hid (P8.out.below hb)
  have C9 := Lib.hid (C8.out.below hb)
  have T9 := Lib.hid (T8.out.below hb)
  clear hb B8 P8 C8 T8
  go_wp2_with (fail)
  all_goals exact bodyPost_ret (v := .bool true) (by simp [results, Tryd.results6, go_sem]) rfl ⟨rfl, B9.out⟩
set_option maxHeartbeats 8000000 in
theorem reads_lo (a : Option Addr) (n c : Nat) (f g h : Nat → Int) (hh : ∀ i, 0 ≤ h i ∧ h i < 256) (kn j : Nat) (x : Int) (hn4 : n ≤ 40) (hj : kn % 48 = j) (hk : kn < 256) (g0 : 0 ≤ x) (g1 : x < 256) (h2 : ¬ j = 22) (h3 : j < 23) (w : World) (hmem : (0 < n → ∃ qb qo, a = some ⟨qb, qo, none⟩ ∧ qb < w.heap.size ∧ ∀ j, j < n → w.cell? ⟨qb, qo + j * 3, none⟩ = some (.int .i64 (f j)) ∧ w.cell? ⟨qb, qo + j * 3 + 1, none⟩ = some (.int .i64 (g j)) ∧ w.cell? ⟨qb, qo + j * 3 + 2, none⟩ = some (.int .u8 (h j)))) (hg : Glob w) : Calls Tryd.prog 6 #[.slice a n c, .int .u8 kn, .int .u8 x] w fun q_ w' => q_ = .returned (.bool true) ∧ Below w.heap.size w w' := by
  suffices hall : ∀ (n_ : Nat) (W0 : World), n_ ≤ W0.heap.size → Below n_ W0 w → (0 < n → ∃ qb qo, a = some ⟨qb, qo, none⟩ ∧ qb < n_ ∧ ∀ j, j < n → W0.cell? ⟨qb, qo + j * 3, none⟩ = some (.int .i64 (f j)) ∧ W0.cell? ⟨qb, qo + j * 3 + 1, none⟩ = some (.int .i64 (g j)) ∧ W0.cell? ⟨qb, qo + j * 3 + 2, none⟩ = some (.int .u8 (h j))) → Glob W0 → 0 < n_ → Calls Tryd.prog 6 #[.slice a n c, .int .u8 kn, .int .u8 x] w fun q_ w' => q_ = .returned (.bool true) ∧ Below n_ W0 w' from hall _ _ (Nat.le_refl _) (Below.refl _ _) hmem hg hg.1
  clear hg
  intro n_ W0 hn hB hI hG hn0
  have HN := Lib.hid hn
  have BB := Lib.hid hB
  have HIN := Lib.hid hI
  have HH := Lib.hid hh
  clear hn hB hI hmem hh
  have HG := Lib.hid hG
  have N0 := Lib.hid hn0
  clear hG hn0
  have h0I : ¬ (40 : Int) < n := by omega
  have AW := Lib.hid awake_c
  obtain ⟨m0, hm0⟩ : ∃ q_, playN f g h n = q_ := ⟨_, rfl⟩
  have k0 : okM m0 := hm0 ▸ ok_play f g h HH.out n
  have SP := Lib.hid (fun W hmem => play_c a n c f g h HH.out hn4 W hmem)
  rw [hm0] at SP
  obtain ⟨mb, hmb⟩ : ∃ q_, onV m0 = q_ := ⟨_, rfl⟩
  have SW := Lib.hid (fun W => (write_c m0 k0 22 128 (by decide) (by decide) W))
  have hwb : writeV m0 22 128 = mb := hmb
  rw [hwb] at SW
  have k1 : okM mb := hmb ▸ ok_on k0
  have e48 : mb 48 = 1 := hmb ▸ on_48 m0
  have SX := Lib.hid (fun W => write_c mb k1 (j : Int) x g0 g1 W)
  obtain ⟨mc, hmc⟩ : ∃ q_, writeV mb (j : Int) x = q_ := ⟨_, rfl⟩
  rw [hmc] at SX
  have hj2 : (kn : Int) % 48 = (j : Int) := by omega
  have hj3 : (kn : Int).tmod 48 = (j : Int) := by rw [Int.tmod_eq_emod_of_nonneg (by omega)]; exact hj2
  have j48 : j < 48 := by omega
  have j22 : ((j : Int) == 22) = false := by simp; omega
  have hd23 : decide ((j : Int) < 23) = true := by simp; omega
  have hd32 : decide ((j : Int) < 32) = true := by simp; omega
  have hr : readV mc (j : Int) = bits .or .u8 x (mask j) := by rw [← hmc]; exact read_on mb j x e48 j48 (by omega)
  have SR := Lib.hid (fun W hW => read_c mc (j : Int) W hW)
  rw [hr] at SR
  have S1 := Lib.hid (fun W hW => read_c mb (-1) W hW)
  rw [read_bad1] at S1
  have S2 := Lib.hid (fun W hW => read_c mb 48 W hW)
  rw [read_bad2] at S2
  clear hmc hmb hwb k0 k1 e48 hm0 hj hr
  obtain ⟨k, hk2⟩ : ∃ q_, mask j = q_ := ⟨_, rfl⟩
  have HK := Lib.hid hk2
  rw [hk2] at SR
  obtain ⟨r, hr⟩ : ∃ q_, bits .or .u8 x k = q_ := ⟨_, rfl⟩
  rw [hr] at SR
  clear hk2
  have hz29 : ∀ w : World, (zeroValue 29).run Tryd.prog w = .ok (.agg (enc zeroM)) w := zero29
  have hnot : ∀ (x : Bool) (w : World), (Op.unary .not (.bool x)).run Tryd.prog w = .ok (.bool (!x)) w := fun _ _ => rfl
  go_enter Tryd.func6, Tryd.ntmps6
  go_wp2_with (fail)
  with_reducible refine (AW.out _ (HG.out.below N0.out BB.out)).mono ?_
  rintro q_ u1 ⟨rfl, hb⟩
  have B1 := Lib.hid (vian HN.out BB.out hb)
  clear hb 
  go_wp2_with (fail)
  with_reducible refine (SP.out _ (fun hp => by obtain ⟨qb, qo, e1, e2, e3⟩ := HIN.out hp; exact ⟨qb, qo, e1, Nat.lt_of_lt_of_le (Nat.lt_of_lt_of_le e2 HN.out) B1.out.size, fun i hi => ⟨(B1.out.cell (p := ⟨qb, qo + i * 3, none⟩) e2).trans (e3 i hi).1, (B1.out.cell (p := ⟨qb, qo + i * 3 + 1, none⟩) e2).trans (e3 i hi).2.1, (B1.out.cell (p := ⟨qb, qo + i * 3 + 2, none⟩) e2).trans (e3 i hi).2.2⟩⟩)).mono ?_
  rintro q_ u2 ⟨rfl, hb⟩
  have B2 := Lib.hid (vian HN.out B1.out hb)
  clear hb B1
  go_wp2_with (fail)
  with_reducible refine (SW.out _).mono ?_
  rintro q_ u3 ⟨rfl, hb⟩
  have B3 := Lib.hid (vian HN.out B2.out hb)
  clear hb B2
  go_wp2_with (refine store_b (Has.new u3 (enc zeroM) 29) (mb) rfl _ _ rfl rfl rfl ?_)
  intro u4 hP hk
  have Q_ := own1 u3 (.cells (enc zeroM) 29)
  have LP := Lib.hid (show n_ ≤ u3.heap.size from Nat.le_trans HN.out B3.out.size)
  have B4 := Lib.hid (hk.below HN.out LP.out (vian HN.out B3.out Q_))
  have P4 := Lib.hid hP
  generalize u3.heap.size = pb at LP  P4 ⊢
  clear hk hP Q_ B3
  try simp only [Act.put, List.setIfInBounds_toArray, List.set_cons_zero, List.set_cons_succ]
  go_wp2_with (first | ((first | (refine load_b P4.out rfl _ rfl rfl ?_) | (refine load_bg P4.out rfl _ rfl rfl ?_)); simp only [Act.put, List.setIfInBounds_toArray, List.set_cons_zero, List.set_cons_succ]))
  with_reducible refine (SX.out _).mono ?_
  rintro q_ u5 ⟨rfl, hb⟩
  have B5 := Lib.hid (vian HN.out B4.out hb)
  have P5 := Lib.hid (P4.out.below hb)
  clear hb B4 P4
  go_wp2_with (refine store_b (Has.new u5 (enc zeroM) 29) (mc) rfl _ _ rfl rfl rfl ?_)
  intro u6 hP hk
  have Q_ := own1 u5 (.cells (enc zeroM) 29)
  have LC := Lib.hid (show n_ ≤ u5.heap.size from Nat.le_trans HN.out B5.out.size)
  have NPC := Lib.hid (show pb ≠ u5.heap.size from Nat.ne_of_lt P5.out.1)
  have B6 := Lib.hid (hk.below HN.out LC.out (vian HN.out B5.out Q_))
  have P6 := Lib.hid (hk.has NPC.out (P5.out.below Q_))
  have C6 := Lib.hid hP
  generalize u5.heap.size = cb at LC NPC C6 ⊢
  clear hk hP Q_ B5 P5
  try simp only [Act.put, List.setIfInBounds_toArray, List.set_cons_zero, List.set_cons_succ]
  go_wp2_with (refine store_row (Has.new u6 zero23 40) rfl _ _ rfl rfl (by unfold row23; rfl) ?_)
  intro u7 hP hk
  have Q_ := own1 u6 (.cells zero23 40)
  have LT := Lib.hid (show n_ ≤ u6.heap.size from Nat.le_trans HN.out B6.out.size)
  have NPT := Lib.hid (show pb ≠ u6.heap.size from Nat.ne_of_lt P6.out.1)
  have NCT := Lib.hid (show cb ≠ u6.heap.size from Nat.ne_of_lt C6.out.1)
  have B7 := Lib.hid (hk.below HN.out LT.out (vian HN.out B6.out Q_))
  have P7 := Lib.hid (hk.has NPT.out (P6.out.below Q_))
  have C7 := Lib.hid (hk.has NCT.out (C6.out.below Q_))
  have T7 := Lib.hid hP
  generalize u6.heap.size = tb at LT NPT NCT T7 ⊢
  clear hk hP Q_ B6 P6 C6
  try simp only [Act.put]
  obtain ⟨hc, hf⟩ := T7.out.out
  have eT := row23_get j (by omega)
  rw [HK.out] at eT
  have j23 : (j : Int) < 23 := by omega
  go_upto_region 14 with (fail)
  clear hc hf eT
  go_wp2_with (first | ((first | (refine load_b C7.out rfl _ rfl rfl ?_) | (refine load_bg C7.out rfl _ rfl rfl ?_)); simp only [Act.put, List.setIfInBounds_toArray, List.set_cons_zero, List.set_cons_succ]))
  with_reducible refine (SR.out _ (HG.out.below N0.out B7.out)).mono ?_
  rintro q_ u8 ⟨rfl, hb⟩
  have B8 := Lib.hid (vian HN.out B7.out hb)
  have P8 := Lib.hid (P7.out.below hb)
  have C8 := Lib.hid (C7.out.below hb)
  have T8 := Lib.hid (T7.out.below hb)
  clear hb B7 P7 C7 T7
  go_wp2_with (first | ((first | (refine load_b P8.out rfl _ rfl rfl ?_) | (refine load_bg P8.out rfl _ rfl rfl ?_)); simp only [Act.put, List.setIfInBounds_toArray, List.set_cons_zero, List.set_cons_succ]))
  with_reducible refine (S1.out _ (HG.out.below N0.out B8.out)).mono ?_
  rintro q_ u9 ⟨rfl, hb⟩
  have B9 := Lib.hid (vian HN.out B8.out hb)
  have P9 := Lib.hid (P8.out.below hb)
  have C9 := Lib.hid (C8.out.below hb)
  have T9 := Lib.hid (T8.out.below hb)
  clear hb B8 P8 C8 T8
  go_wp2_with (first | ((first | (refine load_b P9.out rfl _ rfl rfl ?_) | (refine load_bg P9.out rfl _ rfl rfl ?_)); simp only [Act.put, List.setIfInBounds_toArray, List.set_cons_zero, List.set_cons_succ]))
  with_reducible refine (S2.out _ (HG.out.below N0.out B9.out)).mono ?_
  rintro q_ u10 ⟨rfl, hb⟩
  have B10 := Lib.hid (vian HN.out B9.out hb)
  have P10 := Lib.hid (P9.out.below hb)
  have C10 := Lib.hid (C9.out.below hb)
  have T10 := Lib.hid (T9.out.below hb)
  clear hb B9 P9 C9 T9
  go_wp2_with (fail)
  all_goals exact bodyPost_ret (v := .bool true) (by simp [results, Tryd.results6, go_sem]) rfl ⟨rfl, B10.out⟩
set_option maxHeartbeats 8000000 in
theorem reads_mid (a : Option Addr) (n c : Nat) (f g h : Nat → Int) (hh : ∀ i, 0 ≤ h i ∧ h i < 256) (kn j : Nat) (x : Int) (hn4 : n ≤ 40) (hj : kn % 48 = j) (hk : kn < 256) (g0 : 0 ≤ x) (g1 : x < 256) (h2 : ¬ j = 22) (h3 : 23 ≤ j) (h4 : j < 32) (w : World) (hmem : (0 < n → ∃ qb qo, a = some ⟨qb, qo, none⟩ ∧ qb < w.heap.size ∧ ∀ j, j < n → w.cell? ⟨qb, qo + j * 3, none⟩ = some (.int .i64 (f j)) ∧ w.cell? ⟨qb, qo + j * 3 + 1, none⟩ = some (.int .i64 (g j)) ∧ w.cell? ⟨qb, qo + j * 3 + 2, none⟩ = some (.int .u8 (h j)))) (hg : Glob w) : Calls Tryd.prog 6 #[.slice a n c, .int .u8 kn, .int .u8 x] w fun q_ w' => q_ = .returned (.bool true) ∧ Below w.heap.size w w' := by
  suffices hall : ∀ (n_ : Nat) (W0 : World), n_ ≤ W0.heap.size → Below n_ W0 w → (0 < n → ∃ qb qo, a = some ⟨qb, qo, none⟩ ∧ qb < n_ ∧ ∀ j, j < n → W0.cell? ⟨qb, qo + j * 3, none⟩ = some (.int .i64 (f j)) ∧ W0.cell? ⟨qb, qo + j * 3 + 1, none⟩ = some (.int .i64 (g j)) ∧ W0.cell? ⟨qb, qo + j * 3 + 2, none⟩ = some (.int .u8 (h j))) → Glob W0 → 0 < n_ → Calls Tryd.prog 6 #[.slice a n c, .int .u8 kn, .int .u8 x] w fun q_ w' => q_ = .returned (.bool true) ∧ Below n_ W0 w' from hall _ _ (Nat.le_refl _) (Below.refl _ _) hmem hg hg.1
  clear hg
  intro n_ W0 hn hB hI hG hn0
  have HN := Lib.hid hn
  have BB := Lib.hid hB
  have HIN := Lib.hid hI
  have HH := Lib.hid hh
  clear hn hB hI hmem hh
  have HG := Lib.hid hG
  have N0 := Lib.hid hn0
  clear hG hn0
  have h0I : ¬ (40 : Int) < n := by omega
  have AW := Lib.hid awake_c
  obtain ⟨m0, hm0⟩ : ∃ q_, playN f g h n = q_ := ⟨_, rfl⟩
  have k0 : okM m0 := hm0 ▸ ok_play f g h HH.out n
  have SP := Lib.hid (fun W hmem => play_c a n c f g h HH.out hn4 W hmem)
  rw [hm0] at SP
  obtain ⟨mb, hmb⟩ : ∃ q_, onV m0 = q_ := ⟨_, rfl⟩
  have SW := Lib.hid (fun W => (write_c m0 k0 22 128 (by decide) (by decide) W))
  have hwb : writeV m0 22 128 = mb := hmb
  rw [hwb] at SW
  have k1 : okM mb := hmb ▸ ok_on k0
  have e48 : mb 48 = 1 := hmb ▸ on_48 m0
  have SX := Lib.hid (fun W => write_c mb k1 (j : Int) x g0 g1 W)
  obtain ⟨mc, hmc⟩ : ∃ q_, writeV mb (j : Int) x = q_ := ⟨_, rfl⟩
  rw [hmc] at SX
  have hj2 : (kn : Int) % 48 = (j : Int) := by omega
  have hj3 : (kn : Int).tmod 48 = (j : Int) := by rw [Int.tmod_eq_emod_of_nonneg (by omega)]; exact hj2
  have j48 : j < 48 := by omega
  have j22 : ((j : Int) == 22) = false := by simp; omega
  have hd23 : decide ((j : Int) < 23) = false := by simp; omega
  have hd32 : decide ((j : Int) < 32) = true := by simp; omega
  have hr : readV mc (j : Int) = bits .or .u8 x (mask j) := by rw [← hmc]; exact read_on mb j x e48 j48 (by omega)
  have SR := Lib.hid (fun W hW => read_c mc (j : Int) W hW)
  rw [hr] at SR
  have S1 := Lib.hid (fun W hW => read_c mb (-1) W hW)
  rw [read_bad1] at S1
  have S2 := Lib.hid (fun W hW => read_c mb 48 W hW)
  rw [read_bad2] at S2
  clear hmc hmb hwb k0 k1 e48 hm0 hj hr
  rw [mask_mid j (by omega) (by omega), or255 x g0 g1] at SR
  have hz29 : ∀ w : World, (zeroValue 29).run Tryd.prog w = .ok (.agg (enc zeroM)) w := zero29
  have hnot : ∀ (x : Bool) (w : World), (Op.unary .not (.bool x)).run Tryd.prog w = .ok (.bool (!x)) w := fun _ _ => rfl
  go_enter Tryd.func6, Tryd.ntmps6
  go_wp2_with (fail)
  with_reducible refine (AW.out _ (HG.out.below N0.out BB.out)).mono ?_
  rintro q_ u1 ⟨rfl, hb⟩
  have B1 := Lib.hid (vian HN.out BB.out hb)
  clear hb 
  go_wp2_with (fail)
  with_reducible refine (SP.out _ (fun hp => by obtain ⟨qb, qo, e1, e2, e3⟩ := HIN.out hp; exact ⟨qb, qo, e1, Nat.lt_of_lt_of_le (Nat.lt_of_lt_of_le e2 HN.out) B1.out.size, fun i hi => ⟨(B1.out.cell (p := ⟨qb, qo + i * 3, none⟩) e2).trans (e3 i hi).1, (B1.out.cell (p := ⟨qb, qo + i * 3 + 1, none⟩) e2).trans (e3 i hi).2.1, (B1.out.cell (p := ⟨qb, qo + i * 3 + 2, none⟩) e2).trans (e3 i hi).2.2⟩⟩)).mono ?_
  rintro q_ u2 ⟨rfl, hb⟩
  have B2 := Lib.hid (vian HN.out B1.out hb)
  clear hb B1
  go_wp2_with (fail)
  with_reducible refine (SW.out _).mono ?_
  rintro q_ u3 ⟨rfl, hb⟩
  have B3 := Lib.hid (vian HN.out B2.out hb)
  clear hb B2
  go_wp2_with (refine store_b (Has.new u3 (enc zeroM) 29) (mb) rfl _ _ rfl rfl rfl ?_)
  intro u4 hP hk
  have Q_ := own1 u3 (.cells (enc zeroM) 29)
  have LP := Lib.hid (show n_ ≤ u3.heap.size from Nat.le_trans HN.out B3.out.size)
  have B4 := Lib.hid (hk.below HN.out LP.out (vian HN.out B3.out Q_))
  have P4 := Lib.hid hP
  generalize u3.heap.size = pb at LP  P4 ⊢
  clear hk hP Q_ B3
  try simp only [Act.put, List.setIfInBounds_toArray, List.set_cons_zero, List.set_cons_succ]
  go_wp2_with (first | ((first | (refine load_b P4.out rfl _ rfl rfl ?_) | (refine load_bg P4.out rfl _ rfl rfl ?_)); simp only [Act.put, List.setIfInBounds_toArray, List.set_cons_zero, List.set_cons_succ]))
  with_reducible refine (SX.out _).mono ?_
  rintro q_ u5 ⟨rfl, hb⟩
  have B5 := Lib.hid (vian HN.out B4.out hb)
  have P5 := Lib.hid (P4.out.below hb)
  clear hb B4 P4
  go_wp2_with (refine store_b (Has.new u5 (enc zeroM) 29) (mc) rfl _ _ rfl rfl rfl ?_)
  intro u6 hP hk
  have Q_ := own1 u5 (.cells (enc zeroM) 29)
  have LC := Lib.hid (show n_ ≤ u5.heap.size from Nat.le_trans HN.out B5.out.size)
  have NPC := Lib.hid (show pb ≠ u5.heap.size from Nat.ne_of_lt P5.out.1)
  have B6 := Lib.hid (hk.below HN.out LC.out (vian HN.out B5.out Q_))
  have P6 := Lib.hid (hk.has NPC.out (P5.out.below Q_))
  have C6 := Lib.hid hP
  generalize u5.heap.size = cb at LC NPC C6 ⊢
  clear hk hP Q_ B5 P5
  try simp only [Act.put, List.setIfInBounds_toArray, List.set_cons_zero, List.set_cons_succ]
  go_wp2_with (refine store_row (Has.new u6 zero23 40) rfl _ _ rfl rfl (by unfold row23; rfl) ?_)
  intro u7 hP hk
  have Q_ := own1 u6 (.cells zero23 40)
  have LT := Lib.hid (show n_ ≤ u6.heap.size from Nat.le_trans HN.out B6.out.size)
  have NPT := Lib.hid (show pb ≠ u6.heap.size from Nat.ne_of_lt P6.out.1)
  have NCT := Lib.hid (show cb ≠ u6.heap.size from Nat.ne_of_lt C6.out.1)
  have B7 := Lib.hid (hk.below HN.out LT.out (vian HN.out B6.out Q_))
  have P7 := Lib.hid (hk.has NPT.out (P6.out.below Q_))
  have C7 := Lib.hid (hk.has NCT.out (C6.out.below Q_))
  have T7 := Lib.hid hP
  generalize u6.heap.size = tb at LT NPT NCT T7 ⊢
  clear hk hP Q_ B6 P6 C6
  try simp only [Act.put]
  go_wp2_with (first | ((first | (refine load_b C7.out rfl _ rfl rfl ?_) | (refine load_bg C7.out rfl _ rfl rfl ?_)); simp only [Act.put, List.setIfInBounds_toArray, List.set_cons_zero, List.set_cons_succ]))
  with_reducible refine (SR.out _ (HG.out.below N0.out B7.out)).mono ?_
  rintro q_ u8 ⟨rfl, hb⟩
  have B8 := Lib.hid (vian HN.out B7.out hb)
  have P8 := Lib.hid (P7.out.below hb)
  have C8 := Lib.hid (C7.out.below hb)
  have T8 := Lib.hid (T7.out.below hb)
  clear hb B7 P7 C7 T7
  go_wp2_with (first | ((first | (refine load_b P8.out rfl _ rfl rfl ?_) | (refine load_bg P8.out rfl _ rfl rfl ?_)); simp only [Act.put, List.setIfInBounds_toArray, List.set_cons_zero, List.set_cons_succ]))
  with_reducible refine (S1.out _ (HG.out.below N0.out B8.out)).mono ?_
  rintro q_ u9 ⟨rfl, hb⟩
  have B9 := Lib.hid (vian HN.out B8.out hb)
  have P9 := Lib.hid (P8.out.below hb)
  have C9 := Lib.hid (C8.out.below hb)
  have T9 := Lib.hid (T8.out.below hb)
  clear hb B8 P8 C8 T8
  go_wp2_with (first | ((first | (refine load_b P9.out rfl _ rfl rfl ?_) | (refine load_bg P9.out rfl _ rfl rfl ?_)); simp only [Act.put, List.setIfInBounds_toArray, List.set_cons_zero, List.set_cons_succ]))
  with_reducible refine (S2.out _ (HG.out.below N0.out B9.out)).mono ?_
  rintro q_ u10 ⟨rfl, hb⟩
  have B10 := Lib.hid (vian HN.out B9.out hb)
  have P10 := Lib.hid (P9.out.below hb)
  have C10 := Lib.hid (C9.out.below hb)
  have T10 := Lib.hid (T9.out.below hb)
  clear hb B9 P9 C9 T9
  go_wp2_with (fail)
  all_goals exact bodyPost_ret (v := .bool true) (by simp [results, Tryd.results6, go_sem]) rfl ⟨rfl, B10.out⟩
set_option maxHeartbeats 8000000 in
theorem reads_top (a : Option Addr) (n c : Nat) (f g h : Nat → Int) (hh : ∀ i, 0 ≤ h i ∧ h i < 256) (kn j : Nat) (x : Int) (hn4 : n ≤ 40) (hj : kn % 48 = j) (hk : kn < 256) (g0 : 0 ≤ x) (g1 : x < 256) (h2 : ¬ j = 22) (h3 : 32 ≤ j) (w : World) (hmem : (0 < n → ∃ qb qo, a = some ⟨qb, qo, none⟩ ∧ qb < w.heap.size ∧ ∀ j, j < n → w.cell? ⟨qb, qo + j * 3, none⟩ = some (.int .i64 (f j)) ∧ w.cell? ⟨qb, qo + j * 3 + 1, none⟩ = some (.int .i64 (g j)) ∧ w.cell? ⟨qb, qo + j * 3 + 2, none⟩ = some (.int .u8 (h j)))) (hg : Glob w) : Calls Tryd.prog 6 #[.slice a n c, .int .u8 kn, .int .u8 x] w fun q_ w' => q_ = .returned (.bool true) ∧ Below w.heap.size w w' := by
  suffices hall : ∀ (n_ : Nat) (W0 : World), n_ ≤ W0.heap.size → Below n_ W0 w → (0 < n → ∃ qb qo, a = some ⟨qb, qo, none⟩ ∧ qb < n_ ∧ ∀ j, j < n → W0.cell? ⟨qb, qo + j * 3, none⟩ = some (.int .i64 (f j)) ∧ W0.cell? ⟨qb, qo + j * 3 + 1, none⟩ = some (.int .i64 (g j)) ∧ W0.cell? ⟨qb, qo + j * 3 + 2, none⟩ = some (.int .u8 (h j))) → Glob W0 → 0 < n_ → Calls Tryd.prog 6 #[.slice a n c, .int .u8 kn, .int .u8 x] w fun q_ w' => q_ = .returned (.bool true) ∧ Below n_ W0 w' from hall _ _ (Nat.le_refl _) (Below.refl _ _) hmem hg hg.1
  clear hg
  intro n_ W0 hn hB hI hG hn0
  have HN := Lib.hid hn
  have BB := Lib.hid hB
  have HIN := Lib.hid hI
  have HH := Lib.hid hh
  clear hn hB hI hmem hh
  have HG := Lib.hid hG
  have N0 := Lib.hid hn0
  clear hG hn0
  have h0I : ¬ (40 : Int) < n := by omega
  have AW := Lib.hid awake_c
  obtain ⟨m0, hm0⟩ : ∃ q_, playN f g h n = q_ := ⟨_, rfl⟩
  have k0 : okM m0 := hm0 ▸ ok_play f g h HH.out n
  have SP := Lib.hid (fun W hmem => play_c a n c f g h HH.out hn4 W hmem)
  rw [hm0] at SP
  obtain ⟨mb, hmb⟩ : ∃ q_, onV m0 = q_ := ⟨_, rfl⟩
  have SW := Lib.hid (fun W => (write_c m0 k0 22 128 (by decide) (by decide) W))
  have hwb : writeV m0 22 128 = mb := hmb
  rw [hwb] at SW
  have k1 : okM mb := hmb ▸ ok_on k0
  have e48 : mb 48 = 1 := hmb ▸ on_48 m0
  have SX := Lib.hid (fun W => write_c mb k1 (j : Int) x g0 g1 W)
  obtain ⟨mc, hmc⟩ : ∃ q_, writeV mb (j : Int) x = q_ := ⟨_, rfl⟩
  rw [hmc] at SX
  have hj2 : (kn : Int) % 48 = (j : Int) := by omega
  have hj3 : (kn : Int).tmod 48 = (j : Int) := by rw [Int.tmod_eq_emod_of_nonneg (by omega)]; exact hj2
  have j48 : j < 48 := by omega
  have j22 : ((j : Int) == 22) = false := by simp; omega
  have hd23 : decide ((j : Int) < 23) = false := by simp; omega
  have hd32 : decide ((j : Int) < 32) = false := by simp; omega
  have hr : readV mc (j : Int) = bits .or .u8 x (mask j) := by rw [← hmc]; exact read_on mb j x e48 j48 (by omega)
  have SR := Lib.hid (fun W hW => read_c mc (j : Int) W hW)
  rw [hr] at SR
  have S1 := Lib.hid (fun W hW => read_c mb (-1) W hW)
  rw [read_bad1] at S1
  have S2 := Lib.hid (fun W hW => read_c mb 48 W hW)
  rw [read_bad2] at S2
  clear hmc hmb hwb k0 k1 e48 hm0 hj hr
  rw [mask_top j (by omega) (by omega), or0 x g0 g1] at SR
  have hz29 : ∀ w : World, (zeroValue 29).run Tryd.prog w = .ok (.agg (enc zeroM)) w := zero29
  have hnot : ∀ (x : Bool) (w : World), (Op.unary .not (.bool x)).run Tryd.prog w = .ok (.bool (!x)) w := fun _ _ => rfl
  go_enter Tryd.func6, Tryd.ntmps6
  go_wp2_with (fail)
  with_reducible refine (AW.out _ (HG.out.below N0.out BB.out)).mono ?_
  rintro q_ u1 ⟨rfl, hb⟩
  have B1 := Lib.hid (vian HN.out BB.out hb)
  clear hb 
  go_wp2_with (fail)
  with_reducible refine (SP.out _ (fun hp => by obtain ⟨qb, qo, e1, e2, e3⟩ := HIN.out hp; exact ⟨qb, qo, e1, Nat.lt_of_lt_of_le (Nat.lt_of_lt_of_le e2 HN.out) B1.out.size, fun i hi => ⟨(B1.out.cell (p := ⟨qb, qo + i * 3, none⟩) e2).trans (e3 i hi).1, (B1.out.cell (p := ⟨qb, qo + i * 3 + 1, none⟩) e2).trans (e3 i hi).2.1, (B1.out.cell (p := ⟨qb, qo + i * 3 + 2, none⟩) e2).trans (e3 i hi).2.2⟩⟩)).mono ?_
  rintro q_ u2 ⟨rfl, hb⟩
  have B2 := Lib.hid (vian HN.out B1.out hb)
  clear hb B1
  go_wp2_with (fail)
  with_reducible refine (SW.out _).mono ?_
  rintro q_ u3 ⟨rfl, hb⟩
  have B3 := Lib.hid (vian HN.out B2.out hb)
  clear hb B2
  go_wp2_with (refine store_b (Has.new u3 (enc zeroM) 29) (mb) rfl _ _ rfl rfl rfl ?_)
  intro u4 hP hk
  have Q_ := own1 u3 (.cells (enc zeroM) 29)
  have LP := Lib.hid (show n_ ≤ u3.heap.size from Nat.le_trans HN.out B3.out.size)
  have B4 := Lib.hid (hk.below HN.out LP.out (vian HN.out B3.out Q_))
  have P4 := Lib.hid hP
  generalize u3.heap.size = pb at LP  P4 ⊢
  clear hk hP Q_ B3
  try simp only [Act.put, List.setIfInBounds_toArray, List.set_cons_zero, List.set_cons_succ]
  go_wp2_with (first | ((first | (refine load_b P4.out rfl _ rfl rfl ?_) | (refine load_bg P4.out rfl _ rfl rfl ?_)); simp only [Act.put, List.setIfInBounds_toArray, List.set_cons_zero, List.set_cons_succ]))
  with_reducible refine (SX.out _).mono ?_
  rintro q_ u5 ⟨rfl, hb⟩
  have B5 := Lib.hid (vian HN.out B4.out hb)
  have P5 := Lib.hid (P4.out.below hb)
  clear hb B4 P4
  go_wp2_with (refine store_b (Has.new u5 (enc zeroM) 29) (mc) rfl _ _ rfl rfl rfl ?_)
  intro u6 hP hk
  have Q_ := own1 u5 (.cells (enc zeroM) 29)
  have LC := Lib.hid (show n_ ≤ u5.heap.size from Nat.le_trans HN.out B5.out.size)
  have NPC := Lib.hid (show pb ≠ u5.heap.size from Nat.ne_of_lt P5.out.1)
  have B6 := Lib.hid (hk.below HN.out LC.out (vian HN.out B5.out Q_))
  have P6 := Lib.hid (hk.has NPC.out (P5.out.below Q_))
  have C6 := Lib.hid hP
  generalize u5.heap.size = cb at LC NPC C6 ⊢
  clear hk hP Q_ B5 P5
  try simp only [Act.put, List.setIfInBounds_toArray, List.set_cons_zero, List.set_cons_succ]
  go_wp2_with (refine store_row (Has.new u6 zero23 40) rfl _ _ rfl rfl (by unfold row23; rfl) ?_)
  intro u7 hP hk
  have Q_ := own1 u6 (.cells zero23 40)
  have LT := Lib.hid (show n_ ≤ u6.heap.size from Nat.le_trans HN.out B6.out.size)
  have NPT := Lib.hid (show pb ≠ u6.heap.size from Nat.ne_of_lt P6.out.1)
  have NCT := Lib.hid (show cb ≠ u6.heap.size from Nat.ne_of_lt C6.out.1)
  have B7 := Lib.hid (hk.below HN.out LT.out (vian HN.out B6.out Q_))
  have P7 := Lib.hid (hk.has NPT.out (P6.out.below Q_))
  have C7 := Lib.hid (hk.has NCT.out (C6.out.below Q_))
  have T7 := Lib.hid hP
  generalize u6.heap.size = tb at LT NPT NCT T7 ⊢
  clear hk hP Q_ B6 P6 C6
  try simp only [Act.put]
  go_wp2_with (first | ((first | (refine load_b C7.out rfl _ rfl rfl ?_) | (refine load_bg C7.out rfl _ rfl rfl ?_)); simp only [Act.put, List.setIfInBounds_toArray, List.set_cons_zero, List.set_cons_succ]))
  with_reducible refine (SR.out _ (HG.out.below N0.out B7.out)).mono ?_
  rintro q_ u8 ⟨rfl, hb⟩
  have B8 := Lib.hid (vian HN.out B7.out hb)
  have P8 := Lib.hid (P7.out.below hb)
  have C8 := Lib.hid (C7.out.below hb)
  have T8 := Lib.hid (T7.out.below hb)
  clear hb B7 P7 C7 T7
  go_wp2_with (first | ((first | (refine load_b P8.out rfl _ rfl rfl ?_) | (refine load_bg P8.out rfl _ rfl rfl ?_)); simp only [Act.put, List.setIfInBounds_toArray, List.set_cons_zero, List.set_cons_succ]))
  with_reducible refine (S1.out _ (HG.out.below N0.out B8.out)).mono ?_
  rintro q_ u9 ⟨rfl, hb⟩
  have B9 := Lib.hid (vian HN.out B8.out hb)
  have P9 := Lib.hid (P8.out.below hb)
  have C9 := Lib.hid (C8.out.below hb)
  have T9 := Lib.hid (T8.out.below hb)
  clear hb B8 P8 C8 T8
  go_wp2_with (first | ((first | (refine load_b P9.out rfl _ rfl rfl ?_) | (refine load_bg P9.out rfl _ rfl rfl ?_)); simp only [Act.put, List.setIfInBounds_toArray, List.set_cons_zero, List.set_cons_succ]))
  with_reducible refine (S2.out _ (HG.out.below N0.out B9.out)).mono ?_
  rintro q_ u10 ⟨rfl, hb⟩
  have B10 := Lib.hid (vian HN.out B9.out hb)
  have P10 := Lib.hid (P9.out.below hb)
  have C10 := Lib.hid (C9.out.below hb)
  have T10 := Lib.hid (T9.out.below hb)
  clear hb B9 P9 C9 T9
  go_wp2_with (fail)
  all_goals exact bodyPost_ret (v := .bool true) (by simp [results, Tryd.results6, go_sem]) rfl ⟨rfl, B10.out⟩
theorem reads_walk (a : Option Addr) (n c : Nat) (f g h : Nat → Int) (hh : ∀ i, 0 ≤ h i ∧ h i < 256) (kn : Nat) (x : Int) (hk : kn < 256) (g0 : 0 ≤ x) (g1 : x < 256) (w : World) (hmem : (0 < n → ∃ qb qo, a = some ⟨qb, qo, none⟩ ∧ qb < w.heap.size ∧ ∀ j, j < n → w.cell? ⟨qb, qo + j * 3, none⟩ = some (.int .i64 (f j)) ∧ w.cell? ⟨qb, qo + j * 3 + 1, none⟩ = some (.int .i64 (g j)) ∧ w.cell? ⟨qb, qo + j * 3 + 2, none⟩ = some (.int .u8 (h j)))) (hg : Glob w) :
    Calls Tryd.prog 6 #[.slice a n c, .int .u8 kn, .int .u8 x] w fun q_ w' => q_ = .returned (.bool true) ∧ Below w.heap.size w w' := by
  by_cases h0 : 40 < n
  · exact reads_long a n c kn x h0 w hg
  · by_cases h2 : kn % 48 = 22
    · exact reads_22 a n c f g h hh kn _ x (by omega) rfl hk g0 g1 h2 w hmem hg
    · by_cases h3 : kn % 48 < 23
      · exact reads_lo a n c f g h hh kn _ x (by omega) rfl hk g0 g1 h2 h3 w hmem hg
      · by_cases h4 : kn % 48 < 32
        · exact reads_mid a n c f g h hh kn _ x (by omega) rfl hk g0 g1 h2 (by omega) h4 w hmem hg
        · exact reads_top a n c f g h hh kn _ x (by omega) rfl hk g0 g1 h2 (by omega) w hmem hg
end Go.Proofs.YtonmnpadmphbdaaDoor
