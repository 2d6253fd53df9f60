/-
  What the document's answer for layer 1 returns for turns: contracts of the calls, one for each kind, with no condition but that each argument fits its kind.
-/
import Derived.Test.YtngdogldgcgnjaaGreatZ27
import Derived.Deep.RegionHeld3
import Derived.Deep.AppendLies
set_option maxRecDepth 100000
set_option maxHeartbeats 8000000
namespace Go.Proofs.YtngdogldgcgnjaaGreat.Alu
open Go.ChangeShapes Go.WideShapes Go.ChangeAt Go.RowKit
set_option linter.unusedVariables false
theorem own8' {w : World} {base : Nat} {v : Value} {xs : List Int} (hl : xs.length = 8) (h : w.ownsRow base 3 1 v 8 (iv xs)) :
  ∃ g cap, v = .slice (some ⟨g, 0, none⟩) 8 cap ∧ base ≤ g ∧ g < w.heap.size ∧ 8 ≤ cap ∧ ∀ j, j < 8 → w.cell? ⟨g, j, none⟩ = some (.int .i64 (xs.getD j 0)) := by
 obtain ⟨g, cap, hv, hc⟩ := own8 hl h; subst hv; have hb := h.lt g rfl
 refine ⟨g, cap, rfl, hb.1, hb.2, ?_, hc⟩
 rcases h.2 with ⟨h0, _⟩ | ⟨g', cap', cur, e, _, _, hle, _⟩
 ·cases h0
 ·cases e; exact hle
theorem own_one (w : World) (base : Nat) (x : Value) (hb : base ≤ w.heap.size) :
  (w.alloc (Obj.cells #[x] 3)).ownsRow base 3 1 (.slice (some ⟨w.heap.size, 0, none⟩) 1 1) 1 [x] :=
 ⟨rfl, .inr ⟨w.heap.size, 1, #[x], rfl, hb, heap_alloc_new w _, Nat.le_refl _, by decide, rfl, rfl⟩⟩
theorem cells_cut {w' : World} {xs : List Int} {g : Nat} (hl : xs.length = 8) (hc : ∀ j, j < 8 → w'.cell? ⟨g, j, none⟩ = some (.int .i64 (xs.getD j 0))) (d n : Nat) (hd : d + n ≤ 8) :
  ∀ (j : Nat) (u : Value), (iv ((xs.drop d).take n))[j]? = some u → w'.cell? ((⟨g, d, none⟩ : Addr).add j) = some u := by
 intro j u hj
 have hj' : j < n := by
  rcases Nat.lt_or_ge j n with h | h
  ·exact h
  ·rw [List.getElem?_eq_none (by simp [iv]; omega)] at hj; cases hj
 have := hc (d + j) (by omega)
 have e : (⟨g, d, none⟩ : Addr).add j = ⟨g, d + j, none⟩ := by
  simp only [Addr.add]; split <;> simp_all
 rw [e, this]
 simp only [iv, List.getElem?_map, List.getElem?_take, List.getElem?_drop, hj', if_true] at hj
 rw [List.getElem?_eq_getElem (by omega)] at hj
 simp at hj
 rw [← hj]; simp [List.getElem?_eq_getElem (show d + j < xs.length by omega)]
theorem iv_one (l : List Int) : ∀ u ∈ iv l, u.oneCell' = true := by
 intro u hu
 simp only [iv, List.mem_map] at hu
 obtain ⟨x, _, rfl⟩ := hu
 rfl
theorem cells_kept {w w' : World} {xs : List Int} {g : Nat} (hc : ∀ j, j < 8 → w.cell? ⟨g, j, none⟩ = some (.int .i64 (xs.getD j 0))) (hb : Below w.heap.size w w') (hg : g < w.heap.size) :
  ∀ j, j < 8 → w'.cell? ⟨g, j, none⟩ = some (.int .i64 (xs.getD j 0)) := fun j hj => (hb.cell (p := ⟨g, j, none⟩) hg).trans (hc j hj)
theorem take_b {f : Nat → Int} (h : ∀ j, 0 ≤ f j ∧ f j ≤ 1) (d n : Nat) : ∀ x ∈ ((bl f 8).drop d).take n, 0 ≤ x ∧ x ≤ 1 :=
 fun x hx => bl_mem f h 8 x (List.mem_of_mem_drop (List.mem_of_mem_take hx))
def frontL (x a : Int) : List Int := x :: ((bl (bt a) 8).drop 0).take 7
def backL (a x : Int) : List Int := ((bl (bt a) 8).drop 1).take 7 ++ [x]
def swapL (a : Int) : List Int := ((bl (bt a) 8).drop 4).take 4 ++ ((bl (bt a) 8).drop 0).take 4
theorem frontL_b (x a : Int) (hx : 0 ≤ x ∧ x ≤ 1) : ∀ y ∈ frontL x a, 0 ≤ y ∧ y ≤ 1 := by
 intro y hy
 rcases List.mem_cons.1 hy with rfl | hy
 ·exact hx
 ·exact take_b (bt_b a) 0 7 y hy
theorem backL_b (a x : Int) (hx : 0 ≤ x ∧ x ≤ 1) : ∀ y ∈ backL a x, 0 ≤ y ∧ y ≤ 1 := by
 intro y hy
 rcases List.mem_append.1 hy with hy | hy
 ·exact take_b (bt_b a) 1 7 y hy
 ·rw [List.mem_singleton.1 hy]; exact hx
theorem swapL_b (a : Int) : ∀ y ∈ swapL a, 0 ≤ y ∧ y ≤ 1 := by
 intro y hy
 rcases List.mem_append.1 hy with hy | hy
 ·exact take_b (bt_b a) 4 4 y hy
 ·exact take_b (bt_b a) 0 4 y hy
theorem len8 (l : List Int) (h : l.length = 8) : l.length ≤ 8 := by omega
theorem own_eq {w : World} {base n : Nat} {v : Value} {xs ys : List Value} (h : xs = ys) (ho : w.ownsRow base 3 1 v n xs) : w.ownsRow base 3 1 v n ys := h ▸ ho
theorem own8v {w : World} {base g cap : Nat} {xs : List Int} (hl : xs.length = 8) (h : w.ownsRow base 3 1 (.slice (some ⟨g, 0, none⟩) 8 cap) 8 (iv xs)) :
  ∀ j, j < 8 → w.cell? ⟨g, j, none⟩ = some (.int .i64 (xs.getD j 0)) := by
 obtain ⟨g', cap', e, hc⟩ := own8 hl h
 cases e; exact hc
theorem own_made0 (w : World) (base b : Nat) (hb : base ≤ b) (e : w.heap.size = b) :
  (w.alloc (Obj.cells #[] 3)).ownsRow base 3 1 (.slice (some ⟨b, 0, none⟩) 0 0) 0 [] := by
 subst e; exact World.ownsRow_made w #[] 0 hb (by decide) rfl
theorem one_at {w : World} {b : Nat} {x : Value} (h : w.cell? ⟨b, 0, none⟩ = some x) : ∀ (j : Nat) (u : Value), [x][j]? = some u → w.cell? ((⟨b, 0, none⟩ : Addr).add j) = some u := by
 intro j u hj
 match j, hj with
 | 0, hj => simp at hj; subst hj; simpa [Addr.add] using h
theorem row_ge {b n c B k : Nat} (h : B ≤ b) (hk : (Value.slice (some ⟨b, 0, none⟩) n c).ownBlock = some k) : B ≤ k := by
 simp [Value.ownBlock] at hk; omega
theorem at_ge {b n c g H B : Nat} (hat : (Value.slice (some ⟨b, 0, none⟩) n c).ownBlock = some g ∨ g = H) (h : B ≤ b) (h' : B ≤ H) : B ≤ g := by
 rcases hat with e | e
 ·exact row_ge h e
 ·omega
theorem turn4_r (k a f : Int) (h1 : 0 ≤ a) (h2 : a < 256) (h3 : 0 ≤ f) (h4 : f < 256) (hm : k % 8 = 4) (w : World) :
  Calls Tryz.prog 44 #[.int .i64 k, .int .u8 a, .int .u8 f] w fun e w' => e = .returned (.tuple #[.int .u8 (val (frontL (0) a)), .int .u8 (FL (val (frontL (0) a) == 0) false false (bt a 7 == 1))]) ∧ Below w.heap.size w w' := by
 obtain ⟨i0, hi, hz0, hz1, hz2⟩ := info_parts Tryz.info3; have hk := kmod k; rw [hm] at hk; clear hm; go_enter Tryz.func44, Tryz.ntmps44; go_wp2
 go_loopw [8, 9] (fun l i wr => ∃ k : Nat, k ≤ 8 ∧ i = .int .i64 k ∧ wr.ownsRow w.heap.size 3 1 l k (iv (bl (bt a) k)) ∧ Below w.heap.size w wr)
  (fun _ i _ => 8 - (intOf i).toNat)
 case atStart => exact ⟨0, by omega, rfl, World.ownsRow_nil _ _ _ _, Below.refl _ _⟩
 case round =>
  obtain ⟨n, hn, rfl, hown, hnx⟩ := hrel; have hba := bt_b a n
  by_cases hlt : n < 8
  ·go_wp2_with (first
    | (go_at_call 65; refine (bit_r _ _ (by omega) (by omega) (by omega) _).mono ?_; rintro e w' ⟨rfl, rfl⟩)
    | (at_builtin; refine wpList_append_own _ rfl _ _ 64 rfl w.heap.size 3 i0 (.int .i64 0) 1 8 Tryz.underlying64 hi hz0 hz1 hz2 rfl (by decide) _ _ _ rfl (hown.alloc _) ⟨wr.heap.size, 0, none⟩ 1 1 [.int .i64 (bt a n)] rfl rfl ?c1 ?c2 ?c3 ?c4 ?c5 ?_))
   case c1 => exact one_cell wr _ _ rfl
   case c2 => intro u hu; simp at hu; subst hu; rfl
   case c3 => unfold maxLen; omega
   case c4 => omega
   case c5 => have := hnx.size; simp; omega
   intro v' w1 hown' hgrow _
   have R := own_next hnx hown hown' hgrow; clear hown' hgrow hown; go_wp2
   go_roundw
   case rel => exact ⟨n + 1, by omega, by go_num, R.1, R.2⟩
   case measure => simp [intOf]; omega
  ·obtain rfl : n = 8 := by omega
   obtain ⟨g, cap, hv8, hg1, hg2, hcap, hcells⟩ := own8' (bl_len _ _) hown; have HC := Lib.hid hcells; have c7 : wr.cell? ⟨g, 7, none⟩ = some (.int .i64 (bt a 7)) := hcells 7 (by decide); clear hcells hown; rw [hv8]; clear hv8
   go_wp2_with (first
    | (go_at_call 34; refine (c_r _ (by omega) (by omega) _).mono ?_; rintro e w' ⟨rfl, rfl⟩)
    | (go_at_call 66; refine (one_r _ _).mono ?_; rintro e w' ⟨rfl, rfl⟩)
    | (at_builtin; refine wpList_append_own _ rfl _ _ 64 rfl w.heap.size 3 i0 (.int .i64 0) 1 8 Tryz.underlying64 hi hz0 hz1 hz2 rfl (by decide) _ _ _ rfl (own_one wr w.heap.size _ hnx.size) ⟨g, 0, none⟩ 7 cap (iv (((bl (bt a) 8).drop 0).take 7)) rfl (by rfl) ?d1 ?d2 ?d3 ?d4 ?d5 ?_))
   case d1 => exact cells_cut (bl_len _ _) (cells_kept HC.out ((Below.refl _ _).alloc (Nat.le_refl _) _) hg2) 0 7 (by decide)
   case d2 => exact iv_one _
   case d3 => unfold maxLen; omega
   case d4 => omega
   case d5 => have := hnx.size; simp; omega
   intro v' w1 hown' hgrow _
   have B1 := (hnx.alloc hnx.size _).grown hgrow (by have := hnx.size; simp; omega) (fun k hk => by simp [Value.ownBlock] at hk; subst hk; exact hnx.size)
   obtain ⟨g2, cap2, hw8, hcells2⟩ := own8 (xs := frontL (0) a) rfl hown'
   have hbo := byteOf_r (frontL (0) a) g2 cap2 w1 rfl (frontL_b _ _ (by decide)) hcells2
   have hvb := val_b (frontL (0) a) (len8 _ rfl) (frontL_b _ _ (by decide)); have HB := Lib.hid B1; clear hown' hgrow B1 HC c7 hnx hcells2; rw [hw8]; clear hw8
   go_wp2_with (first
    | (go_at_call 67; refine hbo.mono ?_; rintro e w' ⟨rfl, rfl⟩)
    | (go_at_call 45; refine (flags_r _ _ _ _ _).mono ?_; rintro e w' ⟨rfl, rfl⟩))
   go_ret2
   exact ⟨rfl, HB.out⟩
theorem turn2_r (k a f : Int) (h1 : 0 ≤ a) (h2 : a < 256) (h3 : 0 ≤ f) (h4 : f < 256) (hm : k % 8 = 2) (w : World) :
  Calls Tryz.prog 44 #[.int .i64 k, .int .u8 a, .int .u8 f] w fun e w' => e = .returned (.tuple #[.int .u8 (val (frontL (fl 1 (cf f)) a)), .int .u8 (FL (val (frontL (fl 1 (cf f)) a) == 0) false false (bt a 7 == 1))]) ∧ Below w.heap.size w w' := by
 obtain ⟨i0, hi, hz0, hz1, hz2⟩ := info_parts Tryz.info3; have hk := kmod k; rw [hm] at hk; clear hm; go_enter Tryz.func44, Tryz.ntmps44; go_wp2
 go_loopw [8, 9] (fun l i wr => ∃ k : Nat, k ≤ 8 ∧ i = .int .i64 k ∧ wr.ownsRow w.heap.size 3 1 l k (iv (bl (bt a) k)) ∧ Below w.heap.size w wr)
  (fun _ i _ => 8 - (intOf i).toNat)
 case atStart => exact ⟨0, by omega, rfl, World.ownsRow_nil _ _ _ _, Below.refl _ _⟩
 case round =>
  obtain ⟨n, hn, rfl, hown, hnx⟩ := hrel; have hba := bt_b a n
  by_cases hlt : n < 8
  ·go_wp2_with (first
    | (go_at_call 65; refine (bit_r _ _ (by omega) (by omega) (by omega) _).mono ?_; rintro e w' ⟨rfl, rfl⟩)
    | (at_builtin; refine wpList_append_own _ rfl _ _ 64 rfl w.heap.size 3 i0 (.int .i64 0) 1 8 Tryz.underlying64 hi hz0 hz1 hz2 rfl (by decide) _ _ _ rfl (hown.alloc _) ⟨wr.heap.size, 0, none⟩ 1 1 [.int .i64 (bt a n)] rfl rfl ?c1 ?c2 ?c3 ?c4 ?c5 ?_))
   case c1 => exact one_cell wr _ _ rfl
   case c2 => intro u hu; simp at hu; subst hu; rfl
   case c3 => unfold maxLen; omega
   case c4 => omega
   case c5 => have := hnx.size; simp; omega
   intro v' w1 hown' hgrow _
   have R := own_next hnx hown hown' hgrow; clear hown' hgrow hown; go_wp2
   go_roundw
   case rel => exact ⟨n + 1, by omega, by go_num, R.1, R.2⟩
   case measure => simp [intOf]; omega
  ·obtain rfl : n = 8 := by omega
   obtain ⟨g, cap, hv8, hg1, hg2, hcap, hcells⟩ := own8' (bl_len _ _) hown; have HC := Lib.hid hcells; have c7 : wr.cell? ⟨g, 7, none⟩ = some (.int .i64 (bt a 7)) := hcells 7 (by decide); clear hcells hown; rw [hv8]; clear hv8
   go_wp2_with (first
    | (go_at_call 34; refine (c_r _ (by omega) (by omega) _).mono ?_; rintro e w' ⟨rfl, rfl⟩)
    | (go_at_call 66; refine (one_r _ _).mono ?_; rintro e w' ⟨rfl, rfl⟩)
    | (at_builtin; refine wpList_append_own _ rfl _ _ 64 rfl w.heap.size 3 i0 (.int .i64 0) 1 8 Tryz.underlying64 hi hz0 hz1 hz2 rfl (by decide) _ _ _ rfl (own_one wr w.heap.size _ hnx.size) ⟨g, 0, none⟩ 7 cap (iv (((bl (bt a) 8).drop 0).take 7)) rfl (by rfl) ?d1 ?d2 ?d3 ?d4 ?d5 ?_))
   case d1 => exact cells_cut (bl_len _ _) (cells_kept HC.out ((Below.refl _ _).alloc (Nat.le_refl _) _) hg2) 0 7 (by decide)
   case d2 => exact iv_one _
   case d3 => unfold maxLen; omega
   case d4 => omega
   case d5 => have := hnx.size; simp; omega
   intro v' w1 hown' hgrow _
   have B1 := (hnx.alloc hnx.size _).grown hgrow (by have := hnx.size; simp; omega) (fun k hk => by simp [Value.ownBlock] at hk; subst hk; exact hnx.size)
   obtain ⟨g2, cap2, hw8, hcells2⟩ := own8 (xs := frontL (fl 1 (cf f)) a) rfl hown'
   have hbo := byteOf_r (frontL (fl 1 (cf f)) a) g2 cap2 w1 rfl (frontL_b _ _ (fl_bd 1 (by decide) _)) hcells2
   have hvb := val_b (frontL (fl 1 (cf f)) a) (len8 _ rfl) (frontL_b _ _ (fl_bd 1 (by decide) _)); have HB := Lib.hid B1; clear hown' hgrow B1 HC c7 hnx hcells2; rw [hw8]; clear hw8
   go_wp2_with (first
    | (go_at_call 67; refine hbo.mono ?_; rintro e w' ⟨rfl, rfl⟩)
    | (go_at_call 45; refine (flags_r _ _ _ _ _).mono ?_; rintro e w' ⟨rfl, rfl⟩))
   go_ret2
   exact ⟨rfl, HB.out⟩
theorem turn7_r (k a f : Int) (h1 : 0 ≤ a) (h2 : a < 256) (h3 : 0 ≤ f) (h4 : f < 256) (hm : k % 8 = 7) (w : World) :
  Calls Tryz.prog 44 #[.int .i64 k, .int .u8 a, .int .u8 f] w fun e w' => e = .returned (.tuple #[.int .u8 (val (backL a (0))), .int .u8 (FL (val (backL a (0)) == 0) false false (bt a 0 == 1))]) ∧ Below w.heap.size w w' := by
 obtain ⟨i0, hi, hz0, hz1, hz2⟩ := info_parts Tryz.info3; have hk := kmod k; rw [hm] at hk; clear hm; go_enter Tryz.func44, Tryz.ntmps44; go_wp2
 go_loopw [8, 9] (fun l i wr => ∃ k : Nat, k ≤ 8 ∧ i = .int .i64 k ∧ wr.ownsRow w.heap.size 3 1 l k (iv (bl (bt a) k)) ∧ Below w.heap.size w wr)
  (fun _ i _ => 8 - (intOf i).toNat)
 case atStart => exact ⟨0, by omega, rfl, World.ownsRow_nil _ _ _ _, Below.refl _ _⟩
 case round =>
  obtain ⟨n, hn, rfl, hown, hnx⟩ := hrel; have hba := bt_b a n
  by_cases hlt : n < 8
  ·go_wp2_with (first
    | (go_at_call 65; refine (bit_r _ _ (by omega) (by omega) (by omega) _).mono ?_; rintro e w' ⟨rfl, rfl⟩)
    | (at_builtin; refine wpList_append_own _ rfl _ _ 64 rfl w.heap.size 3 i0 (.int .i64 0) 1 8 Tryz.underlying64 hi hz0 hz1 hz2 rfl (by decide) _ _ _ rfl (hown.alloc _) ⟨wr.heap.size, 0, none⟩ 1 1 [.int .i64 (bt a n)] rfl rfl ?c1 ?c2 ?c3 ?c4 ?c5 ?_))
   case c1 => exact one_cell wr _ _ rfl
   case c2 => intro u hu; simp at hu; subst hu; rfl
   case c3 => unfold maxLen; omega
   case c4 => omega
   case c5 => have := hnx.size; simp; omega
   intro v' w1 hown' hgrow _
   have R := own_next hnx hown hown' hgrow; clear hown' hgrow hown; go_wp2
   go_roundw
   case rel => exact ⟨n + 1, by omega, by go_num, R.1, R.2⟩
   case measure => simp [intOf]; omega
  ·obtain rfl : n = 8 := by omega
   obtain ⟨g, cap, hv8, hg1, hg2, hcap, hcells⟩ := own8' (bl_len _ _) hown; have HC := Lib.hid hcells; have c0 : wr.cell? ⟨g, 0, none⟩ = some (.int .i64 (bt a 0)) := hcells 0 (by decide); clear hcells hown; rw [hv8]; clear hv8
   go_wp2_with (first
    | (go_at_call 34; refine (c_r _ (by omega) (by omega) _).mono ?_; rintro e w' ⟨rfl, rfl⟩)
    | (go_at_call 66; refine (one_r _ _).mono ?_; rintro e w' ⟨rfl, rfl⟩)
    | (at_builtin; refine wpList_append_own _ rfl _ _ 64 rfl w.heap.size 3 i0 (.int .i64 0) 1 8 Tryz.underlying64 hi hz0 hz1 hz2 rfl (by decide) _ _ _ rfl (World.ownsRow_made wr #[] 0 hnx.size (by decide) rfl) ⟨g, 1, none⟩ 7 _ (iv (((bl (bt a) 8).drop 1).take 7)) rfl (by rfl) ?d1 ?d2 ?d3 ?d4 ?d5 ?_))
   case d1 => exact cells_cut (bl_len _ _) (cells_kept HC.out ((Below.refl _ _).alloc (Nat.le_refl _) _) hg2) 1 7 (by decide)
   case d2 => exact iv_one _
   case d3 => unfold maxLen; omega
   case d4 => omega
   case d5 => have := hnx.size; simp; omega
   intro v' w1 hown' hgrow _
   have B1 := (hnx.alloc hnx.size _).grown hgrow (by have := hnx.size; simp; omega) (fun k hk => by simp [Value.ownBlock] at hk; subst hk; exact hnx.size)
   have HB1 := Lib.hid B1; have HO1 := Lib.hid hown'; clear B1 hown' hgrow HC c0 hnx
   go_wp2_with (at_builtin; refine wpList_append_own _ rfl _ _ 64 rfl w.heap.size 3 i0 (.int .i64 0) 1 8 Tryz.underlying64 hi hz0 hz1 hz2 rfl (by decide) _ _ _ rfl (HO1.out.alloc _) ⟨w1.heap.size, 0, none⟩ 1 1 [.int .i64 (0)] rfl rfl ?e1 ?e2 ?e3 ?e4 ?e5 ?_)
   case e1 => exact one_cell w1 _ _ rfl
   case e2 => intro u hu; simp at hu; subst hu; rfl
   case e3 => unfold maxLen; omega
   case e4 => omega
   case e5 => have := HB1.out.size; simp; omega
   intro v2 w2 hown2 hgrow2 _
   have B2 := (HB1.out.alloc HB1.out.size _).grown hgrow2 (by have := HB1.out.size; simp; omega) (fun k hk => (HO1.out.lt k hk).1)
   obtain ⟨g2, cap2, hw8, hcells2⟩ := own8 (xs := backL a (0)) rfl (own_eq rfl hown2)
   have hbo := byteOf_r (backL a (0)) g2 cap2 w2 rfl (backL_b _ _ (by decide)) hcells2
   have hvb := val_b (backL a (0)) (len8 _ rfl) (backL_b _ _ (by decide)); have HB := Lib.hid B2; clear hown2 hgrow2 B2 HB1 HO1 hcells2; rw [hw8]; clear hw8
   go_wp2_with (first
    | (go_at_call 67; refine hbo.mono ?_; rintro e w' ⟨rfl, rfl⟩)
    | (go_at_call 45; refine (flags_r _ _ _ _ _).mono ?_; rintro e w' ⟨rfl, rfl⟩))
   go_ret2
   exact ⟨rfl, HB.out⟩
theorem turn3_r (k a f : Int) (h1 : 0 ≤ a) (h2 : a < 256) (h3 : 0 ≤ f) (h4 : f < 256) (hm : k % 8 = 3) (w : World) :
  Calls Tryz.prog 44 #[.int .i64 k, .int .u8 a, .int .u8 f] w fun e w' => e = .returned (.tuple #[.int .u8 (val (backL a (fl 1 (cf f)))), .int .u8 (FL (val (backL a (fl 1 (cf f))) == 0) false false (bt a 0 == 1))]) ∧ Below w.heap.size w w' := by
 obtain ⟨i0, hi, hz0, hz1, hz2⟩ := info_parts Tryz.info3; have hk := kmod k; rw [hm] at hk; clear hm; go_enter Tryz.func44, Tryz.ntmps44; go_wp2
 go_loopw [8, 9] (fun l i wr => ∃ k : Nat, k ≤ 8 ∧ i = .int .i64 k ∧ wr.ownsRow w.heap.size 3 1 l k (iv (bl (bt a) k)) ∧ Below w.heap.size w wr)
  (fun _ i _ => 8 - (intOf i).toNat)
 case atStart => exact ⟨0, by omega, rfl, World.ownsRow_nil _ _ _ _, Below.refl _ _⟩
 case round =>
  obtain ⟨n, hn, rfl, hown, hnx⟩ := hrel; have hba := bt_b a n
  by_cases hlt : n < 8
  ·go_wp2_with (first
    | (go_at_call 65; refine (bit_r _ _ (by omega) (by omega) (by omega) _).mono ?_; rintro e w' ⟨rfl, rfl⟩)
    | (at_builtin; refine wpList_append_own _ rfl _ _ 64 rfl w.heap.size 3 i0 (.int .i64 0) 1 8 Tryz.underlying64 hi hz0 hz1 hz2 rfl (by decide) _ _ _ rfl (hown.alloc _) ⟨wr.heap.size, 0, none⟩ 1 1 [.int .i64 (bt a n)] rfl rfl ?c1 ?c2 ?c3 ?c4 ?c5 ?_))
   case c1 => exact one_cell wr _ _ rfl
   case c2 => intro u hu; simp at hu; subst hu; rfl
   case c3 => unfold maxLen; omega
   case c4 => omega
   case c5 => have := hnx.size; simp; omega
   intro v' w1 hown' hgrow _
   have R := own_next hnx hown hown' hgrow; clear hown' hgrow hown; go_wp2
   go_roundw
   case rel => exact ⟨n + 1, by omega, by go_num, R.1, R.2⟩
   case measure => simp [intOf]; omega
  ·obtain rfl : n = 8 := by omega
   obtain ⟨g, cap, hv8, hg1, hg2, hcap, hcells⟩ := own8' (bl_len _ _) hown; have HC := Lib.hid hcells; have c0 : wr.cell? ⟨g, 0, none⟩ = some (.int .i64 (bt a 0)) := hcells 0 (by decide); clear hcells hown; rw [hv8]; clear hv8
   go_wp2_with (first
    | (go_at_call 34; refine (c_r _ (by omega) (by omega) _).mono ?_; rintro e w' ⟨rfl, rfl⟩)
    | (go_at_call 66; refine (one_r _ _).mono ?_; rintro e w' ⟨rfl, rfl⟩)
    | (at_builtin; refine wpList_append_own _ rfl _ _ 64 rfl w.heap.size 3 i0 (.int .i64 0) 1 8 Tryz.underlying64 hi hz0 hz1 hz2 rfl (by decide) _ _ _ rfl (World.ownsRow_made wr #[] 0 hnx.size (by decide) rfl) ⟨g, 1, none⟩ 7 _ (iv (((bl (bt a) 8).drop 1).take 7)) rfl (by rfl) ?d1 ?d2 ?d3 ?d4 ?d5 ?_))
   case d1 => exact cells_cut (bl_len _ _) (cells_kept HC.out ((Below.refl _ _).alloc (Nat.le_refl _) _) hg2) 1 7 (by decide)
   case d2 => exact iv_one _
   case d3 => unfold maxLen; omega
   case d4 => omega
   case d5 => have := hnx.size; simp; omega
   intro v' w1 hown' hgrow _
   have B1 := (hnx.alloc hnx.size _).grown hgrow (by have := hnx.size; simp; omega) (fun k hk => by simp [Value.ownBlock] at hk; subst hk; exact hnx.size)
   have HB1 := Lib.hid B1; have HO1 := Lib.hid hown'; clear B1 hown' hgrow HC c0 hnx
   go_wp2_with (at_builtin; refine wpList_append_own _ rfl _ _ 64 rfl w.heap.size 3 i0 (.int .i64 0) 1 8 Tryz.underlying64 hi hz0 hz1 hz2 rfl (by decide) _ _ _ rfl (HO1.out.alloc _) ⟨w1.heap.size, 0, none⟩ 1 1 [.int .i64 (fl 1 (cf f))] rfl rfl ?e1 ?e2 ?e3 ?e4 ?e5 ?_)
   case e1 => exact one_cell w1 _ _ rfl
   case e2 => intro u hu; simp at hu; subst hu; rfl
   case e3 => unfold maxLen; omega
   case e4 => omega
   case e5 => have := HB1.out.size; simp; omega
   intro v2 w2 hown2 hgrow2 _
   have B2 := (HB1.out.alloc HB1.out.size _).grown hgrow2 (by have := HB1.out.size; simp; omega) (fun k hk => (HO1.out.lt k hk).1)
   obtain ⟨g2, cap2, hw8, hcells2⟩ := own8 (xs := backL a (fl 1 (cf f))) rfl (own_eq rfl hown2)
   have hbo := byteOf_r (backL a (fl 1 (cf f))) g2 cap2 w2 rfl (backL_b _ _ (fl_bd 1 (by decide) _)) hcells2
   have hvb := val_b (backL a (fl 1 (cf f))) (len8 _ rfl) (backL_b _ _ (fl_bd 1 (by decide) _)); have HB := Lib.hid B2; clear hown2 hgrow2 B2 HB1 HO1 hcells2; rw [hw8]; clear hw8
   go_wp2_with (first
    | (go_at_call 67; refine hbo.mono ?_; rintro e w' ⟨rfl, rfl⟩)
    | (go_at_call 45; refine (flags_r _ _ _ _ _).mono ?_; rintro e w' ⟨rfl, rfl⟩))
   go_ret2
   exact ⟨rfl, HB.out⟩
theorem turn1_r (k a f : Int) (h1 : 0 ≤ a) (h2 : a < 256) (h3 : 0 ≤ f) (h4 : f < 256) (hm : k % 8 = 1) (w : World) :
  Calls Tryz.prog 44 #[.int .i64 k, .int .u8 a, .int .u8 f] w fun e w' => e = .returned (.tuple #[.int .u8 (val (backL a (bt a 0))), .int .u8 (FL (val (backL a (bt a 0)) == 0) false false (bt a 0 == 1))]) ∧ Below w.heap.size w w' := by
 obtain ⟨i0, hi, hz0, hz1, hz2⟩ := info_parts Tryz.info3; have hk := kmod k; rw [hm] at hk; clear hm; go_enter Tryz.func44, Tryz.ntmps44; go_wp2
 go_loopw [8, 9] (fun l i wr => ∃ k : Nat, k ≤ 8 ∧ i = .int .i64 k ∧ wr.ownsRow w.heap.size 3 1 l k (iv (bl (bt a) k)) ∧ Below w.heap.size w wr)
  (fun _ i _ => 8 - (intOf i).toNat)
 case atStart => exact ⟨0, by omega, rfl, World.ownsRow_nil _ _ _ _, Below.refl _ _⟩
 case round =>
  obtain ⟨n, hn, rfl, hown, hnx⟩ := hrel; have hba := bt_b a n
  by_cases hlt : n < 8
  ·go_wp2_with (first
    | (go_at_call 65; refine (bit_r _ _ (by omega) (by omega) (by omega) _).mono ?_; rintro e w' ⟨rfl, rfl⟩)
    | (at_builtin; refine wpList_append_own _ rfl _ _ 64 rfl w.heap.size 3 i0 (.int .i64 0) 1 8 Tryz.underlying64 hi hz0 hz1 hz2 rfl (by decide) _ _ _ rfl (hown.alloc _) ⟨wr.heap.size, 0, none⟩ 1 1 [.int .i64 (bt a n)] rfl rfl ?c1 ?c2 ?c3 ?c4 ?c5 ?_))
   case c1 => exact one_cell wr _ _ rfl
   case c2 => intro u hu; simp at hu; subst hu; rfl
   case c3 => unfold maxLen; omega
   case c4 => omega
   case c5 => have := hnx.size; simp; omega
   intro v' w1 hown' hgrow _
   have R := own_next hnx hown hown' hgrow; clear hown' hgrow hown; go_wp2
   go_roundw
   case rel => exact ⟨n + 1, by omega, by go_num, R.1, R.2⟩
   case measure => simp [intOf]; omega
  ·obtain rfl : n = 8 := by omega
   obtain ⟨g, cap, hv8, hg1, hg2, hcap, hcells⟩ := own8' (bl_len _ _) hown; have HC := Lib.hid hcells; have c0 : wr.cell? ⟨g, 0, none⟩ = some (.int .i64 (bt a 0)) := hcells 0 (by decide); clear hcells hown; rw [hv8]; clear hv8
   have hc1 : (1 : Int) ≤ (cap : Int) := by omega
   have hc8 : (8 : Int) ≤ (cap : Int) := by omega
   have hne1 : ¬ cap = 1 := by omega
   have hws := hnx.size; have HX := Lib.hid hnx; clear hnx
   go_wp2_with (first
    | (go_at_call 34; refine (c_r _ (by omega) (by omega) _).mono ?_; rintro e w' ⟨rfl, rfl⟩)
    | (go_at_call 66; refine (one_r _ _).mono ?_; rintro e w' ⟨rfl, rfl⟩))
   go_region_held3 (fun w' => w'.cell? ⟨g, 0, none⟩ = some (.int .i64 (bt a 0)))
    (first
     | go_keep
     | exact (CB.cell (p := ⟨g, 0, none⟩) hg2).trans c0
     | exact (CA.cell (p := ⟨g, 0, none⟩) hg2).trans c0)
    (first
     | (refine step_append_lies _ ?_ (.tmp 48) (.tmp 50) 64 ?_ w.heap.size 3 i0 (.int .i64 0) 1 8 Tryz.underlying64 hi hz0 hz1 hz2 rfl (Nat.le_refl _) (.slice (some ⟨wr.heap.size, 0, none⟩) 0 0) 0 [] ?_ ?_ ⟨g, 1, none⟩ 7 (cap - 1) (iv (((bl (bt a) 8).drop 1).take 7)) ?_ ?_ ?_ (iv_one _) (by decide) (by decide) (by decide) ?_ (wr.heap.size + 1) ?_ ?_; rfl; rfl; rfl; (with_reducible exact ((own_made0 wr w.heap.size wr.heap.size hws rfl).drew)); (first | rfl | (simp [Act.eval]; done) | (simp [Act.eval]; omega)); rfl; exact cells_cut (bl_len _ _) (cells_kept HC.out (((Below.refl _ _).alloc (Nat.le_refl _) _).drew) hg2) 1 7 (by decide); (simp; omega); simp; intro gA capA w1 hownA hgrowA hatA hltA; have hgA : wr.heap.size ≤ gA := at_ge hatA (by omega) (by omega); have BA : Below w.heap.size w w1 := ((HX.out.alloc hws _).drew).grown hgrowA (by simp; omega) (fun k hk => row_ge (by omega) hk); have CA : Below wr.heap.size wr w1 := ((((Below.refl _ _).alloc (Nat.le_refl _) _).drew)).grown hgrowA (by first | (simp; done) | (simp; omega)) (fun k hk => row_ge (by omega) hk))
     | (refine step_append_lies _ ?_ (.tmp 48) (.tmp 50) 64 ?_ w.heap.size 3 i0 (.int .i64 0) 1 8 Tryz.underlying64 hi hz0 hz1 hz2 rfl (Nat.le_refl _) (.slice (some ⟨wr.heap.size, 0, none⟩) 0 0) 0 [] ?_ ?_ ⟨g, 1, none⟩ 7 (cap - 1) (iv (((bl (bt a) 8).drop 1).take 7)) ?_ ?_ ?_ (iv_one _) (by decide) (by decide) (by decide) ?_ (wr.heap.size + 2) ?_ ?_; rfl; rfl; rfl; (with_reducible exact (((own_made0 wr w.heap.size wr.heap.size hws rfl).alloc _).drew)); (first | rfl | (simp [Act.eval]; done) | (simp [Act.eval]; omega)); rfl; exact cells_cut (bl_len _ _) (cells_kept HC.out ((((Below.refl _ _).alloc (Nat.le_refl _) _).alloc (by simp) _).drew) hg2) 1 7 (by decide); (simp; omega); simp; intro gA capA w1 hownA hgrowA hatA hltA; have hgA : wr.heap.size ≤ gA := at_ge hatA (by omega) (by omega); have BA : Below w.heap.size w w1 := (((HX.out.alloc hws _).alloc (by simp; omega) _).drew).grown hgrowA (by simp; omega) (fun k hk => row_ge (by omega) hk); have CA : Below wr.heap.size wr w1 := (((((Below.refl _ _).alloc (Nat.le_refl _) _).alloc (by simp) _).drew)).grown hgrowA (by first | (simp; done) | (simp; omega)) (fun k hk => row_ge (by omega) hk))
     | (refine step_append_lies _ ?_ (.tmp 48) (.tmp 50) 64 ?_ w.heap.size 3 i0 (.int .i64 0) 1 8 Tryz.underlying64 hi hz0 hz1 hz2 rfl (Nat.le_refl _) (.slice (some ⟨wr.heap.size + 1, 0, none⟩) 0 0) 0 [] ?_ ?_ ⟨g, 1, none⟩ 7 (cap - 1) (iv (((bl (bt a) 8).drop 1).take 7)) ?_ ?_ ?_ (iv_one _) (by decide) (by decide) (by decide) ?_ (wr.heap.size + 2) ?_ ?_; rfl; rfl; rfl; (with_reducible exact ((own_made0 (wr.alloc _) w.heap.size (wr.heap.size + 1) (by omega) (by simp)).drew)); (first | rfl | (simp [Act.eval]; done) | (simp [Act.eval]; omega)); rfl; exact cells_cut (bl_len _ _) (cells_kept HC.out ((((Below.refl _ _).alloc (Nat.le_refl _) _).alloc (by simp) _).drew) hg2) 1 7 (by decide); (simp; omega); simp; intro gA capA w1 hownA hgrowA hatA hltA; have hgA : wr.heap.size ≤ gA := at_ge hatA (by omega) (by omega); have BA : Below w.heap.size w w1 := (((HX.out.alloc hws _).alloc (by simp; omega) _).drew).grown hgrowA (by simp; omega) (fun k hk => row_ge (by omega) hk); have CA : Below wr.heap.size wr w1 := (((((Below.refl _ _).alloc (Nat.le_refl _) _).alloc (by simp) _).drew)).grown hgrowA (by first | (simp; done) | (simp; omega)) (fun k hk => row_ge (by omega) hk))
     | (refine step_append_lies _ ?_ (.tmp 51) (.tmp 55) 64 ?_ w.heap.size 3 i0 (.int .i64 0) 1 8 Tryz.underlying64 hi hz0 hz1 hz2 rfl (Nat.le_refl _) (.slice (some ⟨gA, 0, none⟩) (0 + 7) capA) (0 + 7) _ ?_ (hownA.alloc _) ⟨w1.heap.size, 0, none⟩ 1 1 [.int .i64 (bt a 0)] ?_ ?_ ?_ ?_ (by decide) (by decide) (by decide) ?_ _ rfl ?_; rfl; rfl; rfl; rfl; rfl; exact one_at (by simp); simp [Value.oneCell']; (have := BA.size; simp; omega); intro g2 cap2 w2 hownB hgrowB hatB hltB; have BB : Below w.heap.size w w2 := (BA.alloc BA.size _).grown hgrowB (by have := BA.size; simp; omega) (fun k hk => row_ge (by omega) hk); have CB : Below wr.heap.size wr w2 := (CA.alloc CA.size _).grown hgrowB (by have := CA.size; simp; omega) (fun k hk => row_ge (by omega) hk))
     | (refine step_append_lies _ ?_ (.tmp 51) (.tmp 55) 64 ?_ w.heap.size 3 i0 (.int .i64 0) 1 8 Tryz.underlying64 hi hz0 hz1 hz2 rfl (Nat.le_refl _) (.slice (some ⟨gA, 0, none⟩) (0 + 7) capA) (0 + 7) _ ?_ hownA ⟨wr.heap.size + 1, 0, none⟩ 1 1 [.int .i64 (bt a 0)] ?_ ?_ ?_ ?_ (by decide) (by decide) (by decide) ?_ _ rfl ?_; rfl; rfl; rfl; rfl; rfl; exact one_at (by rw [hgrowA.cell_far _ (by first | (simp; done) | (simp; omega)) (by simp [Value.ownBlock])]; simp); simp [Value.oneCell']; (have := BA.size; simp; omega); intro g2 cap2 w2 hownB hgrowB hatB hltB; have BB : Below w.heap.size w w2 := (BA).grown hgrowB (by have := BA.size; simp; omega) (fun k hk => row_ge (by omega) hk); have CB : Below wr.heap.size wr w2 := (CA).grown hgrowB (by have := CA.size; simp; omega) (fun k hk => row_ge (by omega) hk))
     | (refine step_append_lies _ ?_ (.tmp 51) (.tmp 55) 64 ?_ w.heap.size 3 i0 (.int .i64 0) 1 8 Tryz.underlying64 hi hz0 hz1 hz2 rfl (Nat.le_refl _) (.slice (some ⟨gA, 0, none⟩) (0 + 7) capA) (0 + 7) _ ?_ hownA ⟨wr.heap.size, 0, none⟩ 1 1 [.int .i64 (bt a 0)] ?_ ?_ ?_ ?_ (by decide) (by decide) (by decide) ?_ _ rfl ?_; rfl; rfl; rfl; rfl; rfl; exact one_at (by rw [hgrowA.cell_far _ (by first | (simp; done) | (simp; omega)) (by simp [Value.ownBlock])]; simp); simp [Value.oneCell']; (have := BA.size; simp; omega); intro g2 cap2 w2 hownB hgrowB hatB hltB; have BB : Below w.heap.size w w2 := (BA).grown hgrowB (by have := BA.size; simp; omega) (fun k hk => row_ge (by omega) hk); have CB : Below wr.heap.size wr w2 := (CA).grown hgrowB (by have := CA.size; simp; omega) (fun k hk => row_ge (by omega) hk)))
   all_goals
    have hcells2 := own8v (xs := backL a (bt a 0)) rfl (own_eq rfl hownB)
    have hbo := byteOf_r (backL a (bt a 0)) g2 cap2 w2 rfl (backL_b _ _ (bt_b a 0)) hcells2
    have hvb := val_b (backL a (bt a 0)) (len8 _ rfl) (backL_b _ _ (bt_b a 0)); have HB := Lib.hid BB; clear hownB hgrowB BB CB BA CA HC hatB hltB hownA hgrowA hatA hltA HX c0 hcells2
    go_wp2_with (first
     | (go_at_call 67; refine hbo.mono ?_; rintro e w' ⟨rfl, rfl⟩)
     | (go_at_call 45; refine (flags_r _ _ _ _ _).mono ?_; rintro e w' ⟨rfl, rfl⟩))
    go_ret2
    exact ⟨rfl, HB.out⟩
theorem turn5_r (k a f : Int) (h1 : 0 ≤ a) (h2 : a < 256) (h3 : 0 ≤ f) (h4 : f < 256) (hm : k % 8 = 5) (w : World) :
  Calls Tryz.prog 44 #[.int .i64 k, .int .u8 a, .int .u8 f] w fun e w' => e = .returned (.tuple #[.int .u8 (val (backL a (bt a 7))), .int .u8 (FL (val (backL a (bt a 7)) == 0) false false (bt a 0 == 1))]) ∧ Below w.heap.size w w' := by
 obtain ⟨i0, hi, hz0, hz1, hz2⟩ := info_parts Tryz.info3; have hk := kmod k; rw [hm] at hk; clear hm; go_enter Tryz.func44, Tryz.ntmps44; go_wp2
 go_loopw [8, 9] (fun l i wr => ∃ k : Nat, k ≤ 8 ∧ i = .int .i64 k ∧ wr.ownsRow w.heap.size 3 1 l k (iv (bl (bt a) k)) ∧ Below w.heap.size w wr)
  (fun _ i _ => 8 - (intOf i).toNat)
 case atStart => exact ⟨0, by omega, rfl, World.ownsRow_nil _ _ _ _, Below.refl _ _⟩
 case round =>
  obtain ⟨n, hn, rfl, hown, hnx⟩ := hrel; have hba := bt_b a n
  by_cases hlt : n < 8
  ·go_wp2_with (first
    | (go_at_call 65; refine (bit_r _ _ (by omega) (by omega) (by omega) _).mono ?_; rintro e w' ⟨rfl, rfl⟩)
    | (at_builtin; refine wpList_append_own _ rfl _ _ 64 rfl w.heap.size 3 i0 (.int .i64 0) 1 8 Tryz.underlying64 hi hz0 hz1 hz2 rfl (by decide) _ _ _ rfl (hown.alloc _) ⟨wr.heap.size, 0, none⟩ 1 1 [.int .i64 (bt a n)] rfl rfl ?c1 ?c2 ?c3 ?c4 ?c5 ?_))
   case c1 => exact one_cell wr _ _ rfl
   case c2 => intro u hu; simp at hu; subst hu; rfl
   case c3 => unfold maxLen; omega
   case c4 => omega
   case c5 => have := hnx.size; simp; omega
   intro v' w1 hown' hgrow _
   have R := own_next hnx hown hown' hgrow; clear hown' hgrow hown; go_wp2
   go_roundw
   case rel => exact ⟨n + 1, by omega, by go_num, R.1, R.2⟩
   case measure => simp [intOf]; omega
  ·obtain rfl : n = 8 := by omega
   obtain ⟨g, cap, hv8, hg1, hg2, hcap, hcells⟩ := own8' (bl_len _ _) hown; have HC := Lib.hid hcells; have c0 : wr.cell? ⟨g, 0, none⟩ = some (.int .i64 (bt a 0)) := hcells 0 (by decide); have c7 : wr.cell? ⟨g, 7, none⟩ = some (.int .i64 (bt a 7)) := hcells 7 (by decide); clear hcells hown; rw [hv8]; clear hv8
   have hc1 : (1 : Int) ≤ (cap : Int) := by omega
   have hc8 : (8 : Int) ≤ (cap : Int) := by omega
   have hne1 : ¬ cap = 1 := by omega
   have hws := hnx.size; have HX := Lib.hid hnx; clear hnx
   go_wp2_with (first
    | (go_at_call 34; refine (c_r _ (by omega) (by omega) _).mono ?_; rintro e w' ⟨rfl, rfl⟩)
    | (go_at_call 66; refine (one_r _ _).mono ?_; rintro e w' ⟨rfl, rfl⟩))
   go_region_held3 (fun w' => w'.cell? ⟨g, 7, none⟩ = some (.int .i64 (bt a 7)))
    (first
     | go_keep
     | exact (CB.cell (p := ⟨g, 7, none⟩) hg2).trans c7
     | exact (CA.cell (p := ⟨g, 7, none⟩) hg2).trans c7)
    (first
     | (refine step_append_lies _ ?_ (.tmp 93) (.tmp 95) 64 ?_ w.heap.size 3 i0 (.int .i64 0) 1 8 Tryz.underlying64 hi hz0 hz1 hz2 rfl (Nat.le_refl _) (.slice (some ⟨wr.heap.size, 0, none⟩) 0 0) 0 [] ?_ ?_ ⟨g, 1, none⟩ 7 (cap - 1) (iv (((bl (bt a) 8).drop 1).take 7)) ?_ ?_ ?_ (iv_one _) (by decide) (by decide) (by decide) ?_ (wr.heap.size + 1) ?_ ?_; rfl; rfl; rfl; (with_reducible exact ((own_made0 wr w.heap.size wr.heap.size hws rfl).drew)); (first | rfl | (simp [Act.eval]; done) | (simp [Act.eval]; omega)); rfl; exact cells_cut (bl_len _ _) (cells_kept HC.out (((Below.refl _ _).alloc (Nat.le_refl _) _).drew) hg2) 1 7 (by decide); (simp; omega); simp; intro gA capA w1 hownA hgrowA hatA hltA; have hgA : wr.heap.size ≤ gA := at_ge hatA (by omega) (by omega); have BA : Below w.heap.size w w1 := ((HX.out.alloc hws _).drew).grown hgrowA (by simp; omega) (fun k hk => row_ge (by omega) hk); have CA : Below wr.heap.size wr w1 := ((((Below.refl _ _).alloc (Nat.le_refl _) _).drew)).grown hgrowA (by first | (simp; done) | (simp; omega)) (fun k hk => row_ge (by omega) hk))
     | (refine step_append_lies _ ?_ (.tmp 93) (.tmp 95) 64 ?_ w.heap.size 3 i0 (.int .i64 0) 1 8 Tryz.underlying64 hi hz0 hz1 hz2 rfl (Nat.le_refl _) (.slice (some ⟨wr.heap.size, 0, none⟩) 0 0) 0 [] ?_ ?_ ⟨g, 1, none⟩ 7 (cap - 1) (iv (((bl (bt a) 8).drop 1).take 7)) ?_ ?_ ?_ (iv_one _) (by decide) (by decide) (by decide) ?_ (wr.heap.size + 2) ?_ ?_; rfl; rfl; rfl; (with_reducible exact (((own_made0 wr w.heap.size wr.heap.size hws rfl).alloc _).drew)); (first | rfl | (simp [Act.eval]; done) | (simp [Act.eval]; omega)); rfl; exact cells_cut (bl_len _ _) (cells_kept HC.out ((((Below.refl _ _).alloc (Nat.le_refl _) _).alloc (by simp) _).drew) hg2) 1 7 (by decide); (simp; omega); simp; intro gA capA w1 hownA hgrowA hatA hltA; have hgA : wr.heap.size ≤ gA := at_ge hatA (by omega) (by omega); have BA : Below w.heap.size w w1 := (((HX.out.alloc hws _).alloc (by simp; omega) _).drew).grown hgrowA (by simp; omega) (fun k hk => row_ge (by omega) hk); have CA : Below wr.heap.size wr w1 := (((((Below.refl _ _).alloc (Nat.le_refl _) _).alloc (by simp) _).drew)).grown hgrowA (by first | (simp; done) | (simp; omega)) (fun k hk => row_ge (by omega) hk))
     | (refine step_append_lies _ ?_ (.tmp 93) (.tmp 95) 64 ?_ w.heap.size 3 i0 (.int .i64 0) 1 8 Tryz.underlying64 hi hz0 hz1 hz2 rfl (Nat.le_refl _) (.slice (some ⟨wr.heap.size + 1, 0, none⟩) 0 0) 0 [] ?_ ?_ ⟨g, 1, none⟩ 7 (cap - 1) (iv (((bl (bt a) 8).drop 1).take 7)) ?_ ?_ ?_ (iv_one _) (by decide) (by decide) (by decide) ?_ (wr.heap.size + 2) ?_ ?_; rfl; rfl; rfl; (with_reducible exact ((own_made0 (wr.alloc _) w.heap.size (wr.heap.size + 1) (by omega) (by simp)).drew)); (first | rfl | (simp [Act.eval]; done) | (simp [Act.eval]; omega)); rfl; exact cells_cut (bl_len _ _) (cells_kept HC.out ((((Below.refl _ _).alloc (Nat.le_refl _) _).alloc (by simp) _).drew) hg2) 1 7 (by decide); (simp; omega); simp; intro gA capA w1 hownA hgrowA hatA hltA; have hgA : wr.heap.size ≤ gA := at_ge hatA (by omega) (by omega); have BA : Below w.heap.size w w1 := (((HX.out.alloc hws _).alloc (by simp; omega) _).drew).grown hgrowA (by simp; omega) (fun k hk => row_ge (by omega) hk); have CA : Below wr.heap.size wr w1 := (((((Below.refl _ _).alloc (Nat.le_refl _) _).alloc (by simp) _).drew)).grown hgrowA (by first | (simp; done) | (simp; omega)) (fun k hk => row_ge (by omega) hk))
     | (refine step_append_lies _ ?_ (.tmp 96) (.tmp 100) 64 ?_ w.heap.size 3 i0 (.int .i64 0) 1 8 Tryz.underlying64 hi hz0 hz1 hz2 rfl (Nat.le_refl _) (.slice (some ⟨gA, 0, none⟩) (0 + 7) capA) (0 + 7) _ ?_ (hownA.alloc _) ⟨w1.heap.size, 0, none⟩ 1 1 [.int .i64 (bt a 7)] ?_ ?_ ?_ ?_ (by decide) (by decide) (by decide) ?_ _ rfl ?_; rfl; rfl; rfl; rfl; rfl; exact one_at (by simp); simp [Value.oneCell']; (have := BA.size; simp; omega); intro g2 cap2 w2 hownB hgrowB hatB hltB; have BB : Below w.heap.size w w2 := (BA.alloc BA.size _).grown hgrowB (by have := BA.size; simp; omega) (fun k hk => row_ge (by omega) hk); have CB : Below wr.heap.size wr w2 := (CA.alloc CA.size _).grown hgrowB (by have := CA.size; simp; omega) (fun k hk => row_ge (by omega) hk))
     | (refine step_append_lies _ ?_ (.tmp 96) (.tmp 100) 64 ?_ w.heap.size 3 i0 (.int .i64 0) 1 8 Tryz.underlying64 hi hz0 hz1 hz2 rfl (Nat.le_refl _) (.slice (some ⟨gA, 0, none⟩) (0 + 7) capA) (0 + 7) _ ?_ hownA ⟨wr.heap.size + 1, 0, none⟩ 1 1 [.int .i64 (bt a 7)] ?_ ?_ ?_ ?_ (by decide) (by decide) (by decide) ?_ _ rfl ?_; rfl; rfl; rfl; rfl; rfl; exact one_at (by rw [hgrowA.cell_far _ (by first | (simp; done) | (simp; omega)) (by simp [Value.ownBlock])]; simp); simp [Value.oneCell']; (have := BA.size; simp; omega); intro g2 cap2 w2 hownB hgrowB hatB hltB; have BB : Below w.heap.size w w2 := (BA).grown hgrowB (by have := BA.size; simp; omega) (fun k hk => row_ge (by omega) hk); have CB : Below wr.heap.size wr w2 := (CA).grown hgrowB (by have := CA.size; simp; omega) (fun k hk => row_ge (by omega) hk))
     | (refine step_append_lies _ ?_ (.tmp 96) (.tmp 100) 64 ?_ w.heap.size 3 i0 (.int .i64 0) 1 8 Tryz.underlying64 hi hz0 hz1 hz2 rfl (Nat.le_refl _) (.slice (some ⟨gA, 0, none⟩) (0 + 7) capA) (0 + 7) _ ?_ hownA ⟨wr.heap.size, 0, none⟩ 1 1 [.int .i64 (bt a 7)] ?_ ?_ ?_ ?_ (by decide) (by decide) (by decide) ?_ _ rfl ?_; rfl; rfl; rfl; rfl; rfl; exact one_at (by rw [hgrowA.cell_far _ (by first | (simp; done) | (simp; omega)) (by simp [Value.ownBlock])]; simp); simp [Value.oneCell']; (have := BA.size; simp; omega); intro g2 cap2 w2 hownB hgrowB hatB hltB; have BB : Below w.heap.size w w2 := (BA).grown hgrowB (by have := BA.size; simp; omega) (fun k hk => row_ge (by omega) hk); have CB : Below wr.heap.size wr w2 := (CA).grown hgrowB (by have := CA.size; simp; omega) (fun k hk => row_ge (by omega) hk)))
   all_goals
    have hcells2 := own8v (xs := backL a (bt a 7)) rfl (own_eq rfl hownB)
    have hbo := byteOf_r (backL a (bt a 7)) g2 cap2 w2 rfl (backL_b _ _ (bt_b a 7)) hcells2
    have hvb := val_b (backL a (bt a 7)) (len8 _ rfl) (backL_b _ _ (bt_b a 7)); have HB := Lib.hid BB; clear hownB hgrowB BB CB BA CA HC hatB hltB hownA hgrowA hatA hltA HX c0 c7 hcells2
    go_wp2_with (first
     | (go_at_call 67; refine hbo.mono ?_; rintro e w' ⟨rfl, rfl⟩)
     | (go_at_call 45; refine (flags_r _ _ _ _ _).mono ?_; rintro e w' ⟨rfl, rfl⟩))
    go_ret2
    exact ⟨rfl, HB.out⟩
theorem turn0_r (k a f : Int) (h1 : 0 ≤ a) (h2 : a < 256) (h3 : 0 ≤ f) (h4 : f < 256) (hm : k % 8 = 0) (w : World) :
  Calls Tryz.prog 44 #[.int .i64 k, .int .u8 a, .int .u8 f] w fun e w' => e = .returned (.tuple #[.int .u8 (val (frontL (bt a 7) a)), .int .u8 (FL (val (frontL (bt a 7) a) == 0) false false (bt a 7 == 1))]) ∧ Below w.heap.size w w' := by
 obtain ⟨i0, hi, hz0, hz1, hz2⟩ := info_parts Tryz.info3; have hk := kmod k; rw [hm] at hk; clear hm; go_enter Tryz.func44, Tryz.ntmps44; go_wp2
 go_loopw [8, 9] (fun l i wr => ∃ k : Nat, k ≤ 8 ∧ i = .int .i64 k ∧ wr.ownsRow w.heap.size 3 1 l k (iv (bl (bt a) k)) ∧ Below w.heap.size w wr)
  (fun _ i _ => 8 - (intOf i).toNat)
 case atStart => exact ⟨0, by omega, rfl, World.ownsRow_nil _ _ _ _, Below.refl _ _⟩
 case round =>
  obtain ⟨n, hn, rfl, hown, hnx⟩ := hrel; have hba := bt_b a n
  by_cases hlt : n < 8
  ·go_wp2_with (first
    | (go_at_call 65; refine (bit_r _ _ (by omega) (by omega) (by omega) _).mono ?_; rintro e w' ⟨rfl, rfl⟩)
    | (at_builtin; refine wpList_append_own _ rfl _ _ 64 rfl w.heap.size 3 i0 (.int .i64 0) 1 8 Tryz.underlying64 hi hz0 hz1 hz2 rfl (by decide) _ _ _ rfl (hown.alloc _) ⟨wr.heap.size, 0, none⟩ 1 1 [.int .i64 (bt a n)] rfl rfl ?c1 ?c2 ?c3 ?c4 ?c5 ?_))
   case c1 => exact one_cell wr _ _ rfl
   case c2 => intro u hu; simp at hu; subst hu; rfl
   case c3 => unfold maxLen; omega
   case c4 => omega
   case c5 => have := hnx.size; simp; omega
   intro v' w1 hown' hgrow _
   have R := own_next hnx hown hown' hgrow; clear hown' hgrow hown; go_wp2
   go_roundw
   case rel => exact ⟨n + 1, by omega, by go_num, R.1, R.2⟩
   case measure => simp [intOf]; omega
  ·obtain rfl : n = 8 := by omega
   obtain ⟨g, cap, hv8, hg1, hg2, hcap, hcells⟩ := own8' (bl_len _ _) hown; have HC := Lib.hid hcells; have c7 : wr.cell? ⟨g, 7, none⟩ = some (.int .i64 (bt a 7)) := hcells 7 (by decide); clear hcells hown; rw [hv8]; clear hv8
   have hc7 : (7 : Int) ≤ (cap : Int) := by omega
   go_wp2_with (first
    | (go_at_call 34; refine (c_r _ (by omega) (by omega) _).mono ?_; rintro e w' ⟨rfl, rfl⟩)
    | (go_at_call 66; refine (one_r _ _).mono ?_; rintro e w' ⟨rfl, rfl⟩))
   go_region_held3 (fun w' => w'.cell? ⟨g, 7, none⟩ = some (.int .i64 (bt a 7)))
    (first
     | go_keep
     | (rw [hgrow.cell_far _ (by simp; omega) (by simp [Value.ownBlock]; omega)]; assumption))
    ((refine step_append_lies _ (by rfl) _ _ 64 (by rfl) w.heap.size 3 i0 (.int .i64 0) 1 8 Tryz.underlying64 hi hz0 hz1 hz2 rfl (by omega) (.slice (some ⟨wr.heap.size, 0, none⟩) 1 1) 1 [.int .i64 (bt a 7)] (by rfl) ((own_one wr w.heap.size _ hnx.size).drew) ⟨g, 0, none⟩ 7 cap (iv (((bl (bt a) 8).drop 0).take 7)) (by rfl) (by rfl) (cells_cut (bl_len _ _) (cells_kept HC.out (((Below.refl _ _).alloc (Nat.le_refl _) _).drew) hg2) 0 7 (by decide)) (iv_one _) (by omega) (by unfold maxLen; omega) (by omega) (by have := hnx.size; simp; omega) (wr.heap.size + 1) (by simp) ?_; intro g2 cap2 w1 hown' hgrow hat hlt))
   have B1 := (hnx.alloc hnx.size _).drew.grown hgrow (by have := hnx.size; simp; omega) (fun k hk => by simp [Value.ownBlock] at hk; subst hk; exact hnx.size)
   have hcells2 := own8v (xs := frontL (bt a 7) a) rfl (own_eq rfl hown')
   have hbo := byteOf_r (frontL (bt a 7) a) g2 cap2 w1 rfl (frontL_b _ _ (bt_b a 7)) hcells2
   have hvb := val_b (frontL (bt a 7) a) (len8 _ rfl) (frontL_b _ _ (bt_b a 7)); have HB := Lib.hid B1; clear hown' hgrow B1 HC c7 hnx hat hlt hcells2
   go_wp2_with (first
    | (go_at_call 67; refine hbo.mono ?_; rintro e w' ⟨rfl, rfl⟩)
    | (go_at_call 45; refine (flags_r _ _ _ _ _).mono ?_; rintro e w' ⟨rfl, rfl⟩))
   go_ret2
   exact ⟨rfl, HB.out⟩
theorem turn6_r (k a f : Int) (h1 : 0 ≤ a) (h2 : a < 256) (h3 : 0 ≤ f) (h4 : f < 256) (hm : k % 8 = 6) (w : World) :
  Calls Tryz.prog 44 #[.int .i64 k, .int .u8 a, .int .u8 f] w fun e w' => e = .returned (.tuple #[.int .u8 (val (swapL a)), .int .u8 (FL (val (swapL a) == 0) false false (false))]) ∧ Below w.heap.size w w' := by
 obtain ⟨i0, hi, hz0, hz1, hz2⟩ := info_parts Tryz.info3; have hk := kmod k; rw [hm] at hk; clear hm; go_enter Tryz.func44, Tryz.ntmps44; go_wp2
 go_loopw [8, 9] (fun l i wr => ∃ k : Nat, k ≤ 8 ∧ i = .int .i64 k ∧ wr.ownsRow w.heap.size 3 1 l k (iv (bl (bt a) k)) ∧ Below w.heap.size w wr)
  (fun _ i _ => 8 - (intOf i).toNat)
 case atStart => exact ⟨0, by omega, rfl, World.ownsRow_nil _ _ _ _, Below.refl _ _⟩
 case round =>
  obtain ⟨n, hn, rfl, hown, hnx⟩ := hrel; have hba := bt_b a n
  by_cases hlt : n < 8
  ·go_wp2_with (first
    | (go_at_call 65; refine (bit_r _ _ (by omega) (by omega) (by omega) _).mono ?_; rintro e w' ⟨rfl, rfl⟩)
    | (at_builtin; refine wpList_append_own _ rfl _ _ 64 rfl w.heap.size 3 i0 (.int .i64 0) 1 8 Tryz.underlying64 hi hz0 hz1 hz2 rfl (by decide) _ _ _ rfl (hown.alloc _) ⟨wr.heap.size, 0, none⟩ 1 1 [.int .i64 (bt a n)] rfl rfl ?c1 ?c2 ?c3 ?c4 ?c5 ?_))
   case c1 => exact one_cell wr _ _ rfl
   case c2 => intro u hu; simp at hu; subst hu; rfl
   case c3 => unfold maxLen; omega
   case c4 => omega
   case c5 => have := hnx.size; simp; omega
   intro v' w1 hown' hgrow _
   have R := own_next hnx hown hown' hgrow; clear hown' hgrow hown; go_wp2
   go_roundw
   case rel => exact ⟨n + 1, by omega, by go_num, R.1, R.2⟩
   case measure => simp [intOf]; omega
  ·obtain rfl : n = 8 := by omega
   obtain ⟨g, cap, hv8, hg1, hg2, hcap, hcells⟩ := own8' (bl_len _ _) hown; have HC := Lib.hid hcells; have c0 : wr.cell? ⟨g, 0, none⟩ = some (.int .i64 (bt a 0)) := hcells 0 (by decide); clear hcells hown; rw [hv8]; clear hv8
   have hc1 : (4 : Int) ≤ (cap : Int) := by omega
   have hc8 : (8 : Int) ≤ (cap : Int) := by omega
   have hne1 : ¬ cap = 4 := by omega
   have hws := hnx.size; have HX := Lib.hid hnx; clear hnx
   go_wp2_with (first
    | (go_at_call 34; refine (c_r _ (by omega) (by omega) _).mono ?_; rintro e w' ⟨rfl, rfl⟩)
    | (go_at_call 66; refine (one_r _ _).mono ?_; rintro e w' ⟨rfl, rfl⟩))
   go_region_held3 (fun w' => w'.cell? ⟨g, 0, none⟩ = some (.int .i64 (bt a 0)))
    (first
     | go_keep
     | exact (CB.cell (p := ⟨g, 0, none⟩) hg2).trans c0
     | exact (CA.cell (p := ⟨g, 0, none⟩) hg2).trans c0)
    (first
     | (refine step_append_lies _ ?_ (.tmp 104) (.tmp 106) 64 ?_ w.heap.size 3 i0 (.int .i64 0) 1 8 Tryz.underlying64 hi hz0 hz1 hz2 rfl (Nat.le_refl _) (.slice (some ⟨wr.heap.size, 0, none⟩) 0 0) 0 [] ?_ ?_ ⟨g, 4, none⟩ 4 (cap - 4) (iv (((bl (bt a) 8).drop 4).take 4)) ?_ ?_ ?_ (iv_one _) (by decide) (by decide) (by decide) ?_ (wr.heap.size + 1) ?_ ?_; rfl; rfl; rfl; (with_reducible exact ((own_made0 wr w.heap.size wr.heap.size hws rfl).drew)); (first | rfl | (simp [Act.eval]; done) | (simp [Act.eval]; omega)); rfl; exact cells_cut (bl_len _ _) (cells_kept HC.out (((Below.refl _ _).alloc (Nat.le_refl _) _).drew) hg2) 4 4 (by decide); (simp; omega); simp; intro gA capA w1 hownA hgrowA hatA hltA; have hgA : wr.heap.size ≤ gA := at_ge hatA (by omega) (by omega); have BA : Below w.heap.size w w1 := ((HX.out.alloc hws _).drew).grown hgrowA (by simp; omega) (fun k hk => row_ge (by omega) hk); have CA : Below wr.heap.size wr w1 := (((Below.refl _ _).alloc (Nat.le_refl _) _).drew).grown hgrowA (by first | (simp; done) | (simp; omega)) (fun k hk => row_ge (by omega) hk))
     | (refine step_append_lies _ ?_ (.tmp 107) (.tmp 109) 64 ?_ w.heap.size 3 i0 (.int .i64 0) 1 8 Tryz.underlying64 hi hz0 hz1 hz2 rfl (Nat.le_refl _) (.slice (some ⟨gA, 0, none⟩) (0 + 4) capA) (0 + 4) _ ?_ hownA ⟨g, 0, none⟩ 4 cap (iv (((bl (bt a) 8).drop 0).take 4)) ?_ ?_ ?_ (iv_one _) (by decide) (by decide) (by decide) BA.size _ rfl ?_; rfl; rfl; rfl; (first | rfl | (simp [Act.eval]; done)); rfl; exact cells_cut (bl_len _ _) (cells_kept HC.out CA hg2) 0 4 (by decide); intro g2 cap2 w2 hownB hgrowB hatB hltB; have BB : Below w.heap.size w w2 := BA.grown hgrowB BA.size (fun k hk => row_ge (by omega) hk); have CB : Below wr.heap.size wr w2 := CA.grown hgrowB CA.size (fun k hk => row_ge (by omega) hk)))
   have hcells2 := own8v (xs := swapL a) rfl (own_eq rfl hownB)
   have hbo := byteOf_r (swapL a) g2 cap2 w2 rfl (swapL_b _) hcells2
   have hvb := val_b (swapL a) (len8 _ rfl) (swapL_b _); have HB := Lib.hid BB; clear hownB hgrowB BB CB BA CA HC hatB hltB hownA hgrowA hatA hltA HX c0 hcells2
   go_wp2_with (first
    | (go_at_call 67; refine hbo.mono ?_; rintro e w' ⟨rfl, rfl⟩)
    | (go_at_call 45; refine (flags_r _ _ _ _ _).mono ?_; rintro e w' ⟨rfl, rfl⟩))
   go_ret2
   exact ⟨rfl, HB.out⟩
/-! ### In numbers -/
theorem val_snoc (l : List Int) (x : Int) : val (l ++ [x]) = val l + 2 ^ l.length * x := by
 induction l with
 | nil => simp [val]
 | cons y l ih => simp only [List.cons_append, val, ih, List.length_cons, Int.pow_succ]; rw [Int.mul_add, ← Int.mul_assoc, Int.mul_comm (2 ^ l.length) 2]; omega
theorem low7 (a : Int) (h1 : 0 ≤ a) (h2 : a < 256) : val (((bl (bt a) 8).drop 0).take 7) = a % 128 :=
 byte_all (P := fun a => val (((bl (bt a) 8).drop 0).take 7) = a % 128) (by decide +kernel) a h1 h2
theorem high7 (a : Int) (h1 : 0 ≤ a) (h2 : a < 256) : val (((bl (bt a) 8).drop 1).take 7) = a / 2 :=
 byte_all (P := fun a => val (((bl (bt a) 8).drop 1).take 7) = a / 2) (by decide +kernel) a h1 h2
theorem val_swap (a : Int) (h1 : 0 ≤ a) (h2 : a < 256) : val (swapL a) = a * 16 % 256 + a / 16 :=
 byte_all (P := fun a => val (swapL a) = a * 16 % 256 + a / 16) (by decide +kernel) a h1 h2
theorem bt7 (a : Int) (h1 : 0 ≤ a) (h2 : a < 256) : bt a 7 = a / 128 := byte_all (P := fun a => bt a 7 = a / 128) (by decide +kernel) a h1 h2
theorem bt0 (a : Int) : bt a 0 = a % 2 := rfl
theorem val_front (x a : Int) (h1 : 0 ≤ a) (h2 : a < 256) : val (frontL x a) = a * 2 % 256 + x := by
 show x + 2 * val (((bl (bt a) 8).drop 0).take 7) = _
 rw [low7 a h1 h2]; omega
theorem val_back (a x : Int) (h1 : 0 ≤ a) (h2 : a < 256) : val (backL a x) = a / 2 + x * 128 := by
 unfold backL
 rw [val_snoc, high7 a h1 h2]; have : (((bl (bt a) 8).drop 1).take 7).length = 7 := rfl; rw [this, Int.mul_comm]; rfl
theorem fl128 (c : Bool) : fl 1 c * 128 = fl 128 c := by cases c <;> rfl
theorem turn_r (k a f : Int) (h1 : 0 ≤ a) (h2 : a < 256) (h3 : 0 ≤ f) (h4 : f < 256) (w : World) :
  Calls Tryz.prog 44 #[.int .i64 k, .int .u8 a, .int .u8 f] w fun e w' => e = .returned (.tuple #[.int .u8 (turnR k a f), .int .u8 (turnF k a f)]) ∧ Below w.heap.size w w' := by
 have m : k % 8 = 0 ∨ k % 8 = 1 ∨ k % 8 = 2 ∨ k % 8 = 3 ∨ k % 8 = 4 ∨ k % 8 = 5 ∨ k % 8 = 6 ∨ k % 8 = 7 := by omega
 have key : ∀ V O, (Calls Tryz.prog 44 #[.int .i64 k, .int .u8 a, .int .u8 f] w fun e w' => e = .returned (.tuple #[.int .u8 V, .int .u8 (FL (V == 0) false false O)]) ∧ Below w.heap.size w w') →
   turnR k a f = V → turnO k a = O → Calls Tryz.prog 44 #[.int .i64 k, .int .u8 a, .int .u8 f] w fun e w' => e = .returned (.tuple #[.int .u8 (turnR k a f), .int .u8 (turnF k a f)]) ∧ Below w.heap.size w w' := by
  intro V O h e1 e2
  unfold turnF; rw [e1, e2]; exact h
 rcases m with m | m | m | m | m | m | m | m
 ·exact key _ _ (turn0_r k a f h1 h2 h3 h4 m w) (by rw [val_front _ _ h1 h2, bt7 a h1 h2]; simp [turnR, m]) (by rw [bt7 a h1 h2]; simp [turnO, m, show k % 2 = 0 by omega])
 ·exact key _ _ (turn1_r k a f h1 h2 h3 h4 m w) (by rw [val_back _ _ h1 h2, bt0]; simp [turnR, m]) (by rw [bt0]; simp [turnO, m, show k % 2 = 1 by omega])
 ·exact key _ _ (turn2_r k a f h1 h2 h3 h4 m w) (by rw [val_front _ _ h1 h2]; simp [turnR, m]) (by rw [bt7 a h1 h2]; simp [turnO, m, show k % 2 = 0 by omega])
 ·exact key _ _ (turn3_r k a f h1 h2 h3 h4 m w) (by rw [val_back _ _ h1 h2, fl128]; simp [turnR, m]) (by rw [bt0]; simp [turnO, m, show k % 2 = 1 by omega])
 ·exact key _ _ (turn4_r k a f h1 h2 h3 h4 m w) (by rw [val_front _ _ h1 h2]; simp [turnR, m]) (by rw [bt7 a h1 h2]; simp [turnO, m, show k % 2 = 0 by omega])
 ·exact key _ _ (turn5_r k a f h1 h2 h3 h4 m w) (by rw [val_back _ _ h1 h2, bt7 a h1 h2]; simp [turnR, m]) (by rw [bt0]; simp [turnO, m, show k % 2 = 1 by omega])
 ·exact key _ _ (turn6_r k a f h1 h2 h3 h4 m w) (by rw [val_swap _ h1 h2]; simp [turnR, m]) (by simp [turnO, m])
 ·exact key _ _ (turn7_r k a f h1 h2 h3 h4 m w) (by rw [val_back _ _ h1 h2]; simp [turnR, m]) (by rw [bt0]; simp [turnO, m, show k % 2 = 1 by omega])
end Go.Proofs.YtngdogldgcgnjaaGreat.Alu
