/-
 A place of a map, as the program and as the document reckon it: for every view and every memory of at most 8192 bytes.
-/
import Derived.Test.YtpfbodmadmneiaaTz
import Derived.Test.YtpfbodmadmneiaaVw
import Derived.Deep.Cut
import Derived.BigQuiet
import Derived.WalkSmall
namespace Go.Proofs.Ytpfbodmadmneiaa
open Go.ChangeShapes Go.WideShapes Go.ChangeAt Go.RowKit
set_option linter.unusedVariables false
set_option linter.unusedSimpArgs false
set_option maxRecDepth 100000
set_option maxHeartbeats 2000000 in
theorem mapped_c (c sx sy wx wy : Int) (c0 : 0 ≤ c) (c1 : c < 256) (sx0 : 0 ≤ sx) (sx1 : sx < 256) (sy0 : 0 ≤ sy) (sy1 : sy < 256) (wx0 : 0 ≤ wx) (wx1 : wx < 256) (wy0 : 0 ≤ wy) (wy1 : wy < 256) (s : Value) (F : M) (st px py : Int) (s0 : 6144 ≤ st) (s1 : st ≤ 7168) (p0 : 0 ≤ px) (p1 : px < 256) (q0 : 0 ≤ py) (q1 : py < 256) (w : World) (hM0 : Mem w s F) : Calls Try.prog 77 #[.agg #[.int .u8 c, .int .u8 sx, .int .u8 sy, .int .u8 wx, .int .u8 wy], s, .int .i64 st, .int .u8 px, .int .u8 py] w fun q_ w' => q_ = .returned (.int .u8 (spotV F c st px py)) ∧ Below w.heap.size w w' := by
 suffices hall : ∀ (n_ : Nat) (W0 : World), n_ ≤ W0.heap.size → Below n_ W0 w → MemB n_ W0 s F → Calls Try.prog 77 #[.agg #[.int .u8 c, .int .u8 sx, .int .u8 sy, .int .u8 wx, .int .u8 wy], s, .int .i64 st, .int .u8 px, .int .u8 py] w fun q_ w' => q_ = .returned (.int .u8 (spotV F c st px py)) ∧ Below n_ W0 w' from hall _ _ (Nat.le_refl _) (Below.refl _ _) hM0
 clear hM0
 intro n_ W0 hn hB hM0
 have HN := Lib.hid hn
 have BB := Lib.hid hB
 clear hn hB
 have HM0 := Lib.hid hM0
 clear hM0
 obtain ⟨k, hk⟩ : ∃ k : Nat, (k : Int) = st + py / 8 * 32 + px / 8 := ⟨(st + py / 8 * 32 + px / 8).toNat, by omega⟩
 have k1 : k < 8192 := by omega
 have ev : spotV F c st px py = dotV F (numV c (F k)) px py := by
  unfold spotV
  rw [show (st + py / 8 * 32 + px / 8).toNat = k by omega]
 rw [ev]
 have bk := HM0.out.ok k
 have SA := Lib.hid (fun W h => at_c s F k k1 W h)
 rw [hk] at SA
 obtain ⟨b, hb⟩ : ∃ b, b = F k := ⟨_, rfl⟩
 rw [← hb] at SA bk ⊢
 have SN := Lib.hid (fun W => number_c c sx sy wx wy c0 c1 sx0 sx1 sy0 sy1 wx0 wx1 wy0 wy1 b bk.1 bk.2 W)
 obtain ⟨n, hn⟩ : ∃ b_, b_ = numV c b := ⟨_, rfl⟩
 rw [← hn] at SN ⊢
 have SD := Lib.hid (fun W h => dot_c s F n px py (by omega) (by omega) (by omega) (by omega) W h)
 have db := dotV_bd F n px py
 obtain ⟨d, hd⟩ : ∃ b_, b_ = dotV F n px py := ⟨_, rfl⟩
 rw [← hd] at SD db ⊢
 clear hb hn hd hk ev
 go_enter Try.func77, Try.ntmps77
 have Q_ := own1 w (.cells #[.int .u8 c, .int .u8 sx, .int .u8 sy, .int .u8 wx, .int .u8 wy] 80)
 have B0 := Lib.hid (vian HN.out BB.out Q_)
 have P0 := Lib.hid (show Has (w.alloc (.cells #[.int .u8 c, .int .u8 sx, .int .u8 sy, .int .u8 wx, .int .u8 wy] 80)) w.heap.size #[.int .u8 c, .int .u8 sx, .int .u8 sy, .int .u8 wx, .int .u8 wy] by simpa using Has.new w #[.int .u8 c, .int .u8 sx, .int .u8 sy, .int .u8 wx, .int .u8 wy] 80)
 have LP := Lib.hid (show n_ ≤ w.heap.size + 0 from Nat.le_add_right_of_le (Nat.le_trans HN.out BB.out.size))
 simp only [Nat.add_zero] at LP
 clear Q_
 go_upto_region 1 with (fail)
 generalize (w.alloc (.cells #[.int .u8 c, .int .u8 sx, .int .u8 sy, .int .u8 wx, .int .u8 wy] 80)) = u0 at B0 P0 ⊢
 generalize w.heap.size = pb at P0 LP  ⊢
 obtain ⟨hc0, hf0⟩ := P0.out.out
 go_wp2_with (fail)
 clear hc0 hf0
 with_reducible refine (SA.out _ (HM0.out.at HN.out B0.out)).mono ?_
 rintro q_ w' ⟨rfl, rfl⟩
 obtain ⟨hc0, hf0⟩ := P0.out.out
 go_wp2_with (fail)
 clear hc0 hf0
 with_reducible refine (SN.out _).mono ?_
 rintro q_ u1 ⟨rfl, hb⟩
 have B1 := Lib.hid (vian HN.out B0.out hb)
 have P1 := Lib.hid (P0.out.below hb)
 clear hb B0 P0
 obtain ⟨hc0, hf0⟩ := P1.out.out
 go_wp2_with (fail)
 clear hc0 hf0
 with_reducible refine (SD.out _ (HM0.out.at HN.out B1.out)).mono ?_
 rintro q_ w' ⟨rfl, rfl⟩
 go_wp2_with (fail)
 all_goals exact bodyPost_ret (v := .int .u8 d) (by simp [results, Try.results77, go_sem]) rfl ⟨rfl, B1.out⟩
set_option maxHeartbeats 2000000 in
theorem back_c (c sx sy wx wy : Int) (c0 : 0 ≤ c) (c1 : c < 256) (sx0 : 0 ≤ sx) (sx1 : sx < 256) (sy0 : 0 ≤ sy) (sy1 : sy < 256) (wx0 : 0 ≤ wx) (wx1 : wx < 256) (wy0 : 0 ≤ wy) (wy1 : wy < 256) (s : Value) (F : M) (x y : Int) (x0 : -9223372036854775808 ≤ x) (x1 : x ≤ 9223372036854775807) (y0 : -9223372036854775808 ≤ y) (y1 : y ≤ 9223372036854775807) (w : World) (hM0 : Mem w s F) : Calls Try.prog 70 #[.agg #[.int .u8 c, .int .u8 sx, .int .u8 sy, .int .u8 wx, .int .u8 wy], s, .int .i64 x, .int .i64 y] w fun q_ w' => q_ = .returned (.int .u8 (backV F c sx sy x y)) ∧ Below w.heap.size w w' := by
 suffices hall : ∀ (n_ : Nat) (W0 : World), n_ ≤ W0.heap.size → Below n_ W0 w → MemB n_ W0 s F → Calls Try.prog 70 #[.agg #[.int .u8 c, .int .u8 sx, .int .u8 sy, .int .u8 wx, .int .u8 wy], s, .int .i64 x, .int .i64 y] w fun q_ w' => q_ = .returned (.int .u8 (backV F c sx sy x y)) ∧ Below n_ W0 w' from hall _ _ (Nat.le_refl _) (Below.refl _ _) hM0
 clear hM0
 intro n_ W0 hn hB hM0
 have HN := Lib.hid hn
 have BB := Lib.hid hB
 clear hn hB
 have HM0 := Lib.hid hM0
 clear hM0
 have SM := Lib.hid (fun W => map3_c c sx sy wx wy c0 c1 sx0 sx1 sy0 sy1 wx0 wx1 wy0 wy1 W)
 have sb : 6144 ≤ mapV c 3 ∧ mapV c 3 ≤ 7168 := by unfold mapV; split <;> decide
 have ev : backV F c sx sy x y = spotV F c (mapV c 3) ((x % 256 + sx) % 256) ((y % 256 + sy) % 256) := by
  unfold backV
  rw [show (x % 256 + sx) % 256 = (x + sx) % 256 by omega, show (y % 256 + sy) % 256 = (y + sy) % 256 by omega]
 rw [ev]
 obtain ⟨st, hst⟩ : ∃ q_, q_ = mapV c 3 := ⟨_, rfl⟩
 rw [← hst] at SM sb ⊢
 have SP := Lib.hid (fun W h => mapped_c c sx sy wx wy c0 c1 sx0 sx1 sy0 sy1 wx0 wx1 wy0 wy1 s F st ((x % 256 + sx) % 256) ((y % 256 + sy) % 256) sb.1 sb.2 (by omega) (by omega) (by omega) (by omega) W h)
 obtain ⟨d, hd⟩ : ∃ q_, q_ = spotV F c st ((x % 256 + sx) % 256) ((y % 256 + sy) % 256) := ⟨_, rfl⟩
 rw [← hd] at SP ⊢
 rw [show (x % 256 + sx) % 256 = IntKind.u8.wrap (IntKind.u8.wrap x + sx) by simp only [IntKind.wrap_u8'], show (y % 256 + sy) % 256 = IntKind.u8.wrap (IntKind.u8.wrap y + sy) by simp only [IntKind.wrap_u8']] at SP
 clear hd hst ev
 go_enter Try.func70, Try.ntmps70
 have Q_ := own1 w (.cells #[.int .u8 c, .int .u8 sx, .int .u8 sy, .int .u8 wx, .int .u8 wy] 80)
 have B0 := Lib.hid (vian HN.out BB.out Q_)
 have P0 := Lib.hid (show Has (w.alloc (.cells #[.int .u8 c, .int .u8 sx, .int .u8 sy, .int .u8 wx, .int .u8 wy] 80)) w.heap.size #[.int .u8 c, .int .u8 sx, .int .u8 sy, .int .u8 wx, .int .u8 wy] by simpa using Has.new w #[.int .u8 c, .int .u8 sx, .int .u8 sy, .int .u8 wx, .int .u8 wy] 80)
 have LP := Lib.hid (show n_ ≤ w.heap.size + 0 from Nat.le_add_right_of_le (Nat.le_trans HN.out BB.out.size))
 simp only [Nat.add_zero] at LP
 clear Q_
 go_upto_region 1 with (fail)
 generalize (w.alloc (.cells #[.int .u8 c, .int .u8 sx, .int .u8 sy, .int .u8 wx, .int .u8 wy] 80)) = u0 at B0 P0 ⊢
 generalize w.heap.size = pb at P0 LP  ⊢
 have B1 := Lib.hid B0.out.drew
 have P1 := Lib.hid P0.out.drew
 clear B0 P0
 refine wp_region_held_drew (S := (fun w' => ∀ o, w'.cell? ⟨pb, o, none⟩ = (#[.int .u8 c, .int .u8 sx, .int .u8 sy, .int .u8 wx, .int .u8 wy])[o]?)) (by kernel_rfl) P1.out.2.1 (fun hHeld => ?_)
 generalize World.drew _ = u1 at hHeld B1 P1 ⊢
 refine tzz 0 ?_
 refine tzz 1 ?_
 refine tzz 2 ?_
 refine tzz 4 ?_
 refine tzz 5 ?_
 refine tzz 6 ?_
 refine tzz 7 ?_
 refine tzz 8 ?_
 refine tzz 9 ?_
 refine tzz 10 ?_
 refine tzz 11 ?_
 refine tzz 12 ?_
 refine tzz 13 ?_
 refine wpAnyH_ready (rs := [3]) (by kernel_rfl) (by simp) ?_
 refine (acc rfl (fun K hK => ?_) AllReadyH.nil)
 ·skip
  go_simp
  with_reducible refine (SM.out _).mono ?_
  rintro q_ u2 ⟨rfl, hb⟩
  have B2 := Lib.hid (vian HN.out B1.out hb)
  have P2 := Lib.hid (P1.out.below hb)
  clear hb
  clear B1 P1
  refine hK.out _ _ ?s14 (fun hNew => ?r14)
  case s14 => exact P2.out.2.1
  clear hK K hHeld
  have hHeld := hNew
  clear hNew
  refine wpAnyH_ready (rs := [14]) (by kernel_rfl) (by simp) ?_
  refine (acc rfl (fun K hK => ?_) AllReadyH.nil)
  ·skip
   go_simp
   with_reducible refine (SP.out _ (HM0.out.at HN.out B2.out)).mono ?_
   rintro q_ u3 ⟨rfl, hb⟩
   have B3 := Lib.hid (vian HN.out B2.out hb)
   have P3 := Lib.hid (P2.out.below hb)
   clear hb
   clear B2 P2
   refine hK.out _ _ ?s15 (fun hNew => ?r15)
   case s15 => exact P3.out.2.1
   clear hK K hHeld
   have hHeld := hNew
   clear hNew
   refine tzz 15 ?_
   refine wpAnyH_done (by kernel_rfl) ?_ _
   clear hHeld
   go_wp2_with (fail)
   all_goals exact bodyPost_ret (v := .int .u8 d) (by simp [results, Try.results70, go_sem]) rfl ⟨rfl, B3.out⟩
set_option maxHeartbeats 2000000 in
theorem win_c (c sx sy wx wy : Int) (c0 : 0 ≤ c) (c1 : c < 256) (sx0 : 0 ≤ sx) (sx1 : sx < 256) (sy0 : 0 ≤ sy) (sy1 : sy < 256) (wx0 : 0 ≤ wx) (wx1 : wx < 256) (wy0 : 0 ≤ wy) (wy1 : wy < 256) (s : Value) (F : M) (x y : Int) (x0 : -9223372036854775808 ≤ x) (x1 : x ≤ 9223372036854775807) (y0 : -9223372036854775808 ≤ y) (y1 : y ≤ 9223372036854775807) (w : World) (hM0 : Mem w s F) : Calls Try.prog 69 #[.agg #[.int .u8 c, .int .u8 sx, .int .u8 sy, .int .u8 wx, .int .u8 wy], s, .int .i64 x, .int .i64 y] w fun q_ w' => q_ = .returned (.int .u8 (winV F c x y)) ∧ Below w.heap.size w w' := by
 suffices hall : ∀ (n_ : Nat) (W0 : World), n_ ≤ W0.heap.size → Below n_ W0 w → MemB n_ W0 s F → Calls Try.prog 69 #[.agg #[.int .u8 c, .int .u8 sx, .int .u8 sy, .int .u8 wx, .int .u8 wy], s, .int .i64 x, .int .i64 y] w fun q_ w' => q_ = .returned (.int .u8 (winV F c x y)) ∧ Below n_ W0 w' from hall _ _ (Nat.le_refl _) (Below.refl _ _) hM0
 clear hM0
 intro n_ W0 hn hB hM0
 have HN := Lib.hid hn
 have BB := Lib.hid hB
 clear hn hB
 have HM0 := Lib.hid hM0
 clear hM0
 have SM := Lib.hid (fun W => map6_c c sx sy wx wy c0 c1 sx0 sx1 sy0 sy1 wx0 wx1 wy0 wy1 W)
 have sb : 6144 ≤ mapV c 6 ∧ mapV c 6 ≤ 7168 := by unfold mapV; split <;> decide
 have ev : winV F c x y = spotV F c (mapV c 6) (x % 256) (y % 256) := by
  unfold winV
  rfl
 rw [ev]
 obtain ⟨st, hst⟩ : ∃ q_, q_ = mapV c 6 := ⟨_, rfl⟩
 rw [← hst] at SM sb ⊢
 have SP := Lib.hid (fun W h => mapped_c c sx sy wx wy c0 c1 sx0 sx1 sy0 sy1 wx0 wx1 wy0 wy1 s F st (x % 256) (y % 256) sb.1 sb.2 (by omega) (by omega) (by omega) (by omega) W h)
 obtain ⟨d, hd⟩ : ∃ q_, q_ = spotV F c st (x % 256) (y % 256) := ⟨_, rfl⟩
 rw [← hd] at SP ⊢
 rw [show x % 256 = IntKind.u8.wrap x by simp only [IntKind.wrap_u8'], show y % 256 = IntKind.u8.wrap y by simp only [IntKind.wrap_u8']] at SP
 clear hd hst ev
 go_enter Try.func69, Try.ntmps69
 have Q_ := own1 w (.cells #[.int .u8 c, .int .u8 sx, .int .u8 sy, .int .u8 wx, .int .u8 wy] 80)
 have B0 := Lib.hid (vian HN.out BB.out Q_)
 have P0 := Lib.hid (show Has (w.alloc (.cells #[.int .u8 c, .int .u8 sx, .int .u8 sy, .int .u8 wx, .int .u8 wy] 80)) w.heap.size #[.int .u8 c, .int .u8 sx, .int .u8 sy, .int .u8 wx, .int .u8 wy] by simpa using Has.new w #[.int .u8 c, .int .u8 sx, .int .u8 sy, .int .u8 wx, .int .u8 wy] 80)
 have LP := Lib.hid (show n_ ≤ w.heap.size + 0 from Nat.le_add_right_of_le (Nat.le_trans HN.out BB.out.size))
 simp only [Nat.add_zero] at LP
 clear Q_
 go_upto_region 1 with (fail)
 generalize (w.alloc (.cells #[.int .u8 c, .int .u8 sx, .int .u8 sy, .int .u8 wx, .int .u8 wy] 80)) = u0 at B0 P0 ⊢
 generalize w.heap.size = pb at P0 LP  ⊢
 have B1 := Lib.hid B0.out.drew
 have P1 := Lib.hid P0.out.drew
 clear B0 P0
 refine wp_region_held_drew (S := (fun w' => ∀ o, w'.cell? ⟨pb, o, none⟩ = (#[.int .u8 c, .int .u8 sx, .int .u8 sy, .int .u8 wx, .int .u8 wy])[o]?)) (by kernel_rfl) P1.out.2.1 (fun hHeld => ?_)
 generalize World.drew _ = u1 at hHeld B1 P1 ⊢
 refine tzz 0 ?_
 refine tzz 1 ?_
 refine tzz 2 ?_
 refine tzz 4 ?_
 refine tzz 5 ?_
 refine tzz 6 ?_
 refine tzz 7 ?_
 refine wpAnyH_ready (rs := [3]) (by kernel_rfl) (by simp) ?_
 refine (acc rfl (fun K hK => ?_) AllReadyH.nil)
 ·skip
  go_simp
  with_reducible refine (SM.out _).mono ?_
  rintro q_ u2 ⟨rfl, hb⟩
  have B2 := Lib.hid (vian HN.out B1.out hb)
  have P2 := Lib.hid (P1.out.below hb)
  clear hb
  clear B1 P1
  refine hK.out _ _ ?s24 (fun hNew => ?r24)
  case s24 => exact P2.out.2.1
  clear hK K hHeld
  have hHeld := hNew
  clear hNew
  refine wpAnyH_ready (rs := [8]) (by kernel_rfl) (by simp) ?_
  refine (acc rfl (fun K hK => ?_) AllReadyH.nil)
  ·skip
   go_simp
   with_reducible refine (SP.out _ (HM0.out.at HN.out B2.out)).mono ?_
   rintro q_ u3 ⟨rfl, hb⟩
   have B3 := Lib.hid (vian HN.out B2.out hb)
   have P3 := Lib.hid (P2.out.below hb)
   clear hb
   clear B2 P2
   refine hK.out _ _ ?s25 (fun hNew => ?r25)
   case s25 => exact P3.out.2.1
   clear hK K hHeld
   have hHeld := hNew
   clear hNew
   refine tzz 9 ?_
   refine wpAnyH_done (by kernel_rfl) ?_ _
   clear hHeld
   go_wp2_with (fail)
   all_goals exact bodyPost_ret (v := .int .u8 d) (by simp [results, Try.results69, go_sem]) rfl ⟨rfl, B3.out⟩
set_option maxHeartbeats 2000000 in
theorem spot_c (c sx sy wx wy : Int) (c0 : 0 ≤ c) (c1 : c < 256) (sx0 : 0 ≤ sx) (sx1 : sx < 256) (sy0 : 0 ≤ sy) (sy1 : sy < 256) (wx0 : 0 ≤ wx) (wx1 : wx < 256) (wy0 : 0 ≤ wy) (wy1 : wy < 256) (s : Value) (F : M) (o : Bool) (x y : Int) (x0 : -9223372036854775808 ≤ x) (x1 : x ≤ 9223372036854775807) (y0 : -9223372036854775808 ≤ y) (y1 : y ≤ 9223372036854775807) (w : World) (hM0 : Mem w s F) : Calls Try.prog 75 #[.agg #[.int .u8 c, .int .u8 sx, .int .u8 sy, .int .u8 wx, .int .u8 wy], s, .bool o, .int .i64 x, .int .i64 y] w fun q_ w' => q_ = .returned (.int .u8 (spotV F c (if o = true then 7168 else 6144) (x % 256) (y % 256))) ∧ Below w.heap.size w w' := by
 suffices hall : ∀ (n_ : Nat) (W0 : World), n_ ≤ W0.heap.size → Below n_ W0 w → MemB n_ W0 s F → Calls Try.prog 75 #[.agg #[.int .u8 c, .int .u8 sx, .int .u8 sy, .int .u8 wx, .int .u8 wy], s, .bool o, .int .i64 x, .int .i64 y] w fun q_ w' => q_ = .returned (.int .u8 (spotV F c (if o = true then 7168 else 6144) (x % 256) (y % 256))) ∧ Below n_ W0 w' from hall _ _ (Nat.le_refl _) (Below.refl _ _) hM0
 clear hM0
 intro n_ W0 hn hB hM0
 have HN := Lib.hid hn
 have BB := Lib.hid hB
 clear hn hB
 have HM0 := Lib.hid hM0
 clear hM0
 have SX := Lib.hid (fun W => mod256_c x x0 x1 W)
 have SY := Lib.hid (fun W => mod256_c y y0 y1 W)
 have p0 : 0 ≤ x % 256 ∧ x % 256 < 256 := by omega
 have q0 : 0 ≤ y % 256 ∧ y % 256 < 256 := by omega
 obtain ⟨px, hpx⟩ : ∃ q_, q_ = x % 256 := ⟨_, rfl⟩
 obtain ⟨py, hpy⟩ : ∃ q_, q_ = y % 256 := ⟨_, rfl⟩
 rw [← hpx] at SX p0 ⊢
 rw [← hpy] at SY q0 ⊢
 clear hpx hpy
 cases o
 ·skip
  have HST : ∃ q_ : Int, q_ = 6144 := ⟨_, rfl⟩
  obtain ⟨st, hst⟩ := HST
  have hs0 : 6144 ≤ st ∧ st ≤ 7168 := by omega
  rw [show (if (false : Bool) = true then (7168 : Int) else 6144) = st by rw [hst]; rfl]
  obtain ⟨k, hk⟩ : ∃ k : Nat, (k : Int) = 6144 + 32 * (py / 8) + px / 8 := ⟨(6144 + 32 * (py / 8) + px / 8).toNat, by omega⟩
  have k1 : k < 8192 := by omega
  have ev : spotV F c st px py = dotV F (numV c (F k)) px py := by
   unfold spotV
   rw [show (st + py / 8 * 32 + px / 8).toNat = k by omega]
  rw [ev]
  have bk := HM0.out.ok k
  have SA := Lib.hid (fun W h => rat_c s F k k1 W h)
  rw [hk, show 6144 + 32 * (py / 8) + px / 8 = IntKind.i64.wrap (IntKind.i64.wrap (6144 + IntKind.i64.wrap (32 * IntKind.i64.wrap (py.tdiv 8))) + IntKind.i64.wrap (px.tdiv 8)) by rw [Int.tdiv_eq_ediv_of_nonneg q0.1, Int.tdiv_eq_ediv_of_nonneg p0.1]; simp only [IntKind.wrap_i64]; omega] at SA
  obtain ⟨b, hb⟩ : ∃ b, b = F k := ⟨_, rfl⟩
  rw [← hb] at SA bk ⊢
  have SN := Lib.hid (fun W => rnumber_c c sx sy wx wy c0 c1 sx0 sx1 sy0 sy1 wx0 wx1 wy0 wy1 b bk.1 bk.2 W)
  obtain ⟨n, hn⟩ : ∃ b_, b_ = numV c b := ⟨_, rfl⟩
  rw [← hn] at SN ⊢
  have SD := Lib.hid (fun W h => rdot_c s F n px py (by omega) (by omega) (by omega) (by omega) W h)
  have db := dotV_bd F n px py
  obtain ⟨d, hd⟩ : ∃ b_, b_ = dotV F n px py := ⟨_, rfl⟩
  rw [← hd] at SD db ⊢
  clear hb hn hd hk ev hst hs0
  go_enter Try.func75, Try.ntmps75
  have Q_ := own1 w (.cells #[.int .u8 c, .int .u8 sx, .int .u8 sy, .int .u8 wx, .int .u8 wy] 72)
  have B0 := Lib.hid (vian HN.out BB.out Q_)
  have P0 := Lib.hid (show Has (w.alloc (.cells #[.int .u8 c, .int .u8 sx, .int .u8 sy, .int .u8 wx, .int .u8 wy] 72)) w.heap.size #[.int .u8 c, .int .u8 sx, .int .u8 sy, .int .u8 wx, .int .u8 wy] by simpa using Has.new w #[.int .u8 c, .int .u8 sx, .int .u8 sy, .int .u8 wx, .int .u8 wy] 72)
  have LP := Lib.hid (show n_ ≤ w.heap.size + 0 from Nat.le_add_right_of_le (Nat.le_trans HN.out BB.out.size))
  simp only [Nat.add_zero] at LP
  clear Q_
  go_upto_region 1 with (fail)
  generalize (w.alloc (.cells #[.int .u8 c, .int .u8 sx, .int .u8 sy, .int .u8 wx, .int .u8 wy] 72)) = u0 at B0 P0 ⊢
  generalize w.heap.size = pb at P0 LP  ⊢
  go_wp2_with (fail)
  with_reducible refine (SX.out _).mono ?_
  rintro q_ w' ⟨rfl, rfl⟩
  go_wp2_with (fail)
  with_reducible refine (SY.out _).mono ?_
  rintro q_ w' ⟨rfl, rfl⟩
  go_upto_region 5 with (fail)
  have B1 := Lib.hid B0.out.drew
  have P1 := Lib.hid P0.out.drew
  clear B0 P0
  refine wp_region_held_drew (S := (fun w' => ∀ o, w'.cell? ⟨pb, o, none⟩ = (#[.int .u8 c, .int .u8 sx, .int .u8 sy, .int .u8 wx, .int .u8 wy])[o]?)) (by kernel_rfl) P1.out.2.1 (fun hHeld => ?_)
  generalize World.drew _ = u1 at hHeld B1 P1 ⊢
  refine tzz 0 ?_
  refine tzz 1 ?_
  refine tzz 2 ?_
  refine tzz 3 ?_
  refine tzz 4 ?_
  refine tzz 5 ?_
  refine tzz 6 ?_
  refine tzz 7 ?_
  refine tzz 8 ?_
  refine tzz 9 ?_
  refine tzz 10 ?_
  refine tzz 13 ?_
  refine tzz 14 ?_
  refine wpAnyH_ready (rs := [11]) (by kernel_rfl) (by simp) ?_
  refine (acc rfl (fun K hK => ?_) AllReadyH.nil)
  ·skip
   go_simp
   with_reducible refine (SA.out _ (HM0.out.at HN.out B1.out)).mono ?_
   rintro q_ u2 ⟨rfl, hb⟩
   subst hb
   have B2 := B1
   have P2 := P1
   clear B1 P1
   refine hK.out _ _ ?s40 (fun hNew => ?r40)
   case s40 => exact P2.out.2.1
   clear hK K hHeld
   have hHeld := hNew
   clear hNew
   refine wpAnyH_ready (rs := [12]) (by kernel_rfl) (by simp) ?_
   refine (acc rfl (fun K hK => ?_) AllReadyH.nil)
   ·skip
    go_simp
    with_reducible refine (SN.out _).mono ?_
    rintro q_ u3 ⟨rfl, hb⟩
    have B3 := Lib.hid (vian HN.out B2.out hb)
    have P3 := Lib.hid (P2.out.below hb)
    clear hb
    clear B2 P2
    refine hK.out _ _ ?s41 (fun hNew => ?r41)
    case s41 => exact P3.out.2.1
    clear hK K hHeld
    have hHeld := hNew
    clear hNew
    refine wpAnyH_ready (rs := [15]) (by kernel_rfl) (by simp) ?_
    refine (acc rfl (fun K hK => ?_) AllReadyH.nil)
    ·skip
     go_simp
     with_reducible refine (SD.out _ (HM0.out.at HN.out B3.out)).mono ?_
     rintro q_ u4 ⟨rfl, hb⟩
     subst hb
     have B4 := B3
     have P4 := P3
     clear B3 P3
     refine hK.out _ _ ?s42 (fun hNew => ?r42)
     case s42 => exact P4.out.2.1
     clear hK K hHeld
     have hHeld := hNew
     clear hNew
     refine tzz 16 ?_
     refine wpAnyH_done (by kernel_rfl) ?_ _
     clear hHeld
     go_wp2_with (fail)
     all_goals exact bodyPost_ret (v := .int .u8 d) (by simp [results, Try.results75, go_sem]) rfl ⟨rfl, B4.out⟩
 ·skip
  have HST : ∃ q_ : Int, q_ = 7168 := ⟨_, rfl⟩
  obtain ⟨st, hst⟩ := HST
  have hs0 : 6144 ≤ st ∧ st ≤ 7168 := by omega
  rw [show (if (true : Bool) = true then (7168 : Int) else 6144) = st by rw [hst]; rfl]
  obtain ⟨k, hk⟩ : ∃ k : Nat, (k : Int) = 7168 + 32 * (py / 8) + px / 8 := ⟨(7168 + 32 * (py / 8) + px / 8).toNat, by omega⟩
  have k1 : k < 8192 := by omega
  have ev : spotV F c st px py = dotV F (numV c (F k)) px py := by
   unfold spotV
   rw [show (st + py / 8 * 32 + px / 8).toNat = k by omega]
  rw [ev]
  have bk := HM0.out.ok k
  have SA := Lib.hid (fun W h => rat_c s F k k1 W h)
  rw [hk, show 7168 + 32 * (py / 8) + px / 8 = IntKind.i64.wrap (IntKind.i64.wrap (7168 + IntKind.i64.wrap (32 * IntKind.i64.wrap (py.tdiv 8))) + IntKind.i64.wrap (px.tdiv 8)) by rw [Int.tdiv_eq_ediv_of_nonneg q0.1, Int.tdiv_eq_ediv_of_nonneg p0.1]; simp only [IntKind.wrap_i64]; omega] at SA
  obtain ⟨b, hb⟩ : ∃ b, b = F k := ⟨_, rfl⟩
  rw [← hb] at SA bk ⊢
  have SN := Lib.hid (fun W => rnumber_c c sx sy wx wy c0 c1 sx0 sx1 sy0 sy1 wx0 wx1 wy0 wy1 b bk.1 bk.2 W)
  obtain ⟨n, hn⟩ : ∃ b_, b_ = numV c b := ⟨_, rfl⟩
  rw [← hn] at SN ⊢
  have SD := Lib.hid (fun W h => rdot_c s F n px py (by omega) (by omega) (by omega) (by omega) W h)
  have db := dotV_bd F n px py
  obtain ⟨d, hd⟩ : ∃ b_, b_ = dotV F n px py := ⟨_, rfl⟩
  rw [← hd] at SD db ⊢
  clear hb hn hd hk ev hst hs0
  go_enter Try.func75, Try.ntmps75
  have Q_ := own1 w (.cells #[.int .u8 c, .int .u8 sx, .int .u8 sy, .int .u8 wx, .int .u8 wy] 72)
  have B0 := Lib.hid (vian HN.out BB.out Q_)
  have P0 := Lib.hid (show Has (w.alloc (.cells #[.int .u8 c, .int .u8 sx, .int .u8 sy, .int .u8 wx, .int .u8 wy] 72)) w.heap.size #[.int .u8 c, .int .u8 sx, .int .u8 sy, .int .u8 wx, .int .u8 wy] by simpa using Has.new w #[.int .u8 c, .int .u8 sx, .int .u8 sy, .int .u8 wx, .int .u8 wy] 72)
  have LP := Lib.hid (show n_ ≤ w.heap.size + 0 from Nat.le_add_right_of_le (Nat.le_trans HN.out BB.out.size))
  simp only [Nat.add_zero] at LP
  clear Q_
  go_upto_region 1 with (fail)
  generalize (w.alloc (.cells #[.int .u8 c, .int .u8 sx, .int .u8 sy, .int .u8 wx, .int .u8 wy] 72)) = u0 at B0 P0 ⊢
  generalize w.heap.size = pb at P0 LP  ⊢
  go_wp2_with (fail)
  with_reducible refine (SX.out _).mono ?_
  rintro q_ w' ⟨rfl, rfl⟩
  go_wp2_with (fail)
  with_reducible refine (SY.out _).mono ?_
  rintro q_ w' ⟨rfl, rfl⟩
  go_upto_region 5 with (fail)
  have B1 := Lib.hid B0.out.drew
  have P1 := Lib.hid P0.out.drew
  clear B0 P0
  refine wp_region_held_drew (S := (fun w' => ∀ o, w'.cell? ⟨pb, o, none⟩ = (#[.int .u8 c, .int .u8 sx, .int .u8 sy, .int .u8 wx, .int .u8 wy])[o]?)) (by kernel_rfl) P1.out.2.1 (fun hHeld => ?_)
  generalize World.drew _ = u1 at hHeld B1 P1 ⊢
  refine tzz 0 ?_
  refine tzz 1 ?_
  refine tzz 2 ?_
  refine tzz 3 ?_
  refine tzz 4 ?_
  refine tzz 5 ?_
  refine tzz 6 ?_
  refine tzz 7 ?_
  refine tzz 8 ?_
  refine tzz 9 ?_
  refine tzz 10 ?_
  refine tzz 13 ?_
  refine tzz 14 ?_
  refine wpAnyH_ready (rs := [11]) (by kernel_rfl) (by simp) ?_
  refine (acc rfl (fun K hK => ?_) AllReadyH.nil)
  ·skip
   go_simp
   with_reducible refine (SA.out _ (HM0.out.at HN.out B1.out)).mono ?_
   rintro q_ u2 ⟨rfl, hb⟩
   subst hb
   have B2 := B1
   have P2 := P1
   clear B1 P1
   refine hK.out _ _ ?s57 (fun hNew => ?r57)
   case s57 => exact P2.out.2.1
   clear hK K hHeld
   have hHeld := hNew
   clear hNew
   refine wpAnyH_ready (rs := [12]) (by kernel_rfl) (by simp) ?_
   refine (acc rfl (fun K hK => ?_) AllReadyH.nil)
   ·skip
    go_simp
    with_reducible refine (SN.out _).mono ?_
    rintro q_ u3 ⟨rfl, hb⟩
    have B3 := Lib.hid (vian HN.out B2.out hb)
    have P3 := Lib.hid (P2.out.below hb)
    clear hb
    clear B2 P2
    refine hK.out _ _ ?s58 (fun hNew => ?r58)
    case s58 => exact P3.out.2.1
    clear hK K hHeld
    have hHeld := hNew
    clear hNew
    refine wpAnyH_ready (rs := [15]) (by kernel_rfl) (by simp) ?_
    refine (acc rfl (fun K hK => ?_) AllReadyH.nil)
    ·skip
     go_simp
     with_reducible refine (SD.out _ (HM0.out.at HN.out B3.out)).mono ?_
     rintro q_ u4 ⟨rfl, hb⟩
     subst hb
     have B4 := B3
     have P4 := P3
     clear B3 P3
     refine hK.out _ _ ?s59 (fun hNew => ?r59)
     case s59 => exact P4.out.2.1
     clear hK K hHeld
     have hHeld := hNew
     clear hNew
     refine tzz 16 ?_
     refine wpAnyH_done (by kernel_rfl) ?_ _
     clear hHeld
     go_wp2_with (fail)
     all_goals exact bodyPost_ret (v := .int .u8 d) (by simp [results, Try.results75, go_sem]) rfl ⟨rfl, B4.out⟩
set_option maxHeartbeats 2000000 in
theorem rback_c (c sx sy wx wy : Int) (c0 : 0 ≤ c) (c1 : c < 256) (sx0 : 0 ≤ sx) (sx1 : sx < 256) (sy0 : 0 ≤ sy) (sy1 : sy < 256) (wx0 : 0 ≤ wx) (wx1 : wx < 256) (wy0 : 0 ≤ wy) (wy1 : wy < 256) (s : Value) (F : M) (x y : Int) (x0 : -9223372036854775808 ≤ x) (x1 : x ≤ 9223372036854775807) (y0 : -9223372036854775808 ≤ y) (y1 : y ≤ 9223372036854775807) (w : World) (hM0 : Mem w s F) : Calls Try.prog 67 #[.agg #[.int .u8 c, .int .u8 sx, .int .u8 sy, .int .u8 wx, .int .u8 wy], s, .int .i64 x, .int .i64 y] w fun q_ w' => q_ = .returned (.int .u8 (backV F c sx sy x y)) ∧ Below w.heap.size w w' := by
 suffices hall : ∀ (n_ : Nat) (W0 : World), n_ ≤ W0.heap.size → Below n_ W0 w → MemB n_ W0 s F → Calls Try.prog 67 #[.agg #[.int .u8 c, .int .u8 sx, .int .u8 sy, .int .u8 wx, .int .u8 wy], s, .int .i64 x, .int .i64 y] w fun q_ w' => q_ = .returned (.int .u8 (backV F c sx sy x y)) ∧ Below n_ W0 w' from hall _ _ (Nat.le_refl _) (Below.refl _ _) hM0
 clear hM0
 intro n_ W0 hn hB hM0
 have HN := Lib.hid hn
 have BB := Lib.hid hB
 clear hn hB
 have HM0 := Lib.hid hM0
 clear hM0
 have SB := Lib.hid (fun W => bit3_c c c0 c1 W)
 have ev : backV F c sx sy x y = spotV F c (if (bit c 3 == 1) = true then 7168 else 6144) ((x % 256 + sx) % 256) ((y % 256 + sy) % 256) := by
  unfold backV mapV
  rw [show (bit c 3 == 1) = decide (bit c 3 = 1) from rfl]
  simp only [decide_eq_true_eq]
  rw [show (x % 256 + sx) % 256 = (x + sx) % 256 by omega, show (y % 256 + sy) % 256 = (y + sy) % 256 by omega]
 rw [ev]
 have SX := Lib.hid (fun W => mod256_c x x0 x1 W)
 have SY := Lib.hid (fun W => mod256_c y y0 y1 W)
 have SP := Lib.hid (fun W h => spot_c c sx sy wx wy c0 c1 sx0 sx1 sy0 sy1 wx0 wx1 wy0 wy1 s F (bit c 3 == 1) (x % 256 + sx) (y % 256 + sy) (by omega) (by omega) (by omega) (by omega) W h)
 have hq := bit_bd c 3
 obtain ⟨d, hd⟩ : ∃ q_, q_ = spotV F c (if (bit c 3 == 1) = true then 7168 else 6144) ((x % 256 + sx) % 256) ((y % 256 + sy) % 256) := ⟨_, rfl⟩
 rw [← hd] at SP ⊢
 obtain ⟨q, hqq⟩ : ∃ q_, q_ = bit c 3 := ⟨_, rfl⟩
 rw [← hqq] at SB SP hq
 rw [show x % 256 + sx = IntKind.i64.wrap (x % 256 + IntKind.i64.wrap sx) by simp only [IntKind.wrap_i64]; omega, show y % 256 + sy = IntKind.i64.wrap (y % 256 + IntKind.i64.wrap sy) by simp only [IntKind.wrap_i64]; omega] at SP
 clear hd hqq ev
 go_enter Try.func67, Try.ntmps67
 have Q_ := own1 w (.cells #[.int .u8 c, .int .u8 sx, .int .u8 sy, .int .u8 wx, .int .u8 wy] 72)
 have B0 := Lib.hid (vian HN.out BB.out Q_)
 have P0 := Lib.hid (show Has (w.alloc (.cells #[.int .u8 c, .int .u8 sx, .int .u8 sy, .int .u8 wx, .int .u8 wy] 72)) w.heap.size #[.int .u8 c, .int .u8 sx, .int .u8 sy, .int .u8 wx, .int .u8 wy] by simpa using Has.new w #[.int .u8 c, .int .u8 sx, .int .u8 sy, .int .u8 wx, .int .u8 wy] 72)
 have LP := Lib.hid (show n_ ≤ w.heap.size + 0 from Nat.le_add_right_of_le (Nat.le_trans HN.out BB.out.size))
 simp only [Nat.add_zero] at LP
 clear Q_
 go_upto_region 1 with (fail)
 generalize (w.alloc (.cells #[.int .u8 c, .int .u8 sx, .int .u8 sy, .int .u8 wx, .int .u8 wy] 72)) = u0 at B0 P0 ⊢
 generalize w.heap.size = pb at P0 LP  ⊢
 have B1 := Lib.hid B0.out.drew
 have P1 := Lib.hid P0.out.drew
 clear B0 P0
 refine wp_region_held_drew (S := (fun w' => ∀ o, w'.cell? ⟨pb, o, none⟩ = (#[.int .u8 c, .int .u8 sx, .int .u8 sy, .int .u8 wx, .int .u8 wy])[o]?)) (by kernel_rfl) P1.out.2.1 (fun hHeld => ?_)
 generalize World.drew _ = u1 at hHeld B1 P1 ⊢
 refine tzz 0 ?_
 refine tzz 1 ?_
 refine tzz 2 ?_
 refine tzz 3 ?_
 refine tzz 6 ?_
 refine tzz 8 ?_
 refine tzz 9 ?_
 refine tzz 10 ?_
 refine tzz 12 ?_
 refine tzz 14 ?_
 refine tzz 15 ?_
 refine tzz 16 ?_
 refine wpAnyH_ready (rs := [4]) (by kernel_rfl) (by simp) ?_
 refine (acc rfl (fun K hK => ?_) AllReadyH.nil)
 ·skip
  go_simp
  with_reducible refine (SB.out _).mono ?_
  rintro q_ u2 ⟨rfl, hb⟩
  subst hb
  have B2 := B1
  have P2 := P1
  clear B1 P1
  refine hK.out _ _ ?s73 (fun hNew => ?r73)
  case s73 => exact P2.out.2.1
  clear hK K hHeld
  have hHeld := hNew
  clear hNew
  refine tzz 5 ?_
  refine wpAnyH_ready (rs := [7]) (by kernel_rfl) (by simp) ?_
  refine (acc rfl (fun K hK => ?_) AllReadyH.nil)
  ·skip
   go_simp
   with_reducible refine (SX.out _).mono ?_
   rintro q_ u3 ⟨rfl, hb⟩
   subst hb
   have B3 := B2
   have P3 := P2
   clear B2 P2
   refine hK.out _ _ ?s75 (fun hNew => ?r75)
   case s75 => exact P3.out.2.1
   clear hK K hHeld
   have hHeld := hNew
   clear hNew
   refine tzz 11 ?_
   refine wpAnyH_ready (rs := [13]) (by kernel_rfl) (by simp) ?_
   refine (acc rfl (fun K hK => ?_) AllReadyH.nil)
   ·skip
    go_simp
    with_reducible refine (SY.out _).mono ?_
    rintro q_ u4 ⟨rfl, hb⟩
    subst hb
    have B4 := B3
    have P4 := P3
    clear B3 P3
    refine hK.out _ _ ?s77 (fun hNew => ?r77)
    case s77 => exact P4.out.2.1
    clear hK K hHeld
    have hHeld := hNew
    clear hNew
    refine tzz 17 ?_
    refine wpAnyH_ready (rs := [18]) (by kernel_rfl) (by simp) ?_
    refine (acc rfl (fun K hK => ?_) AllReadyH.nil)
    ·skip
     go_simp
     with_reducible refine (SP.out _ (HM0.out.at HN.out B4.out)).mono ?_
     rintro q_ u5 ⟨rfl, hb⟩
     have B5 := Lib.hid (vian HN.out B4.out hb)
     have P5 := Lib.hid (P4.out.below hb)
     clear hb
     clear B4 P4
     refine hK.out _ _ ?s79 (fun hNew => ?r79)
     case s79 => exact P5.out.2.1
     clear hK K hHeld
     have hHeld := hNew
     clear hNew
     refine tzz 19 ?_
     refine wpAnyH_done (by kernel_rfl) ?_ _
     clear hHeld
     go_wp2_with (fail)
     all_goals exact bodyPost_ret (v := .int .u8 d) (by simp [results, Try.results67, go_sem]) rfl ⟨rfl, B5.out⟩
set_option maxHeartbeats 2000000 in
theorem rwin_c (c sx sy wx wy : Int) (c0 : 0 ≤ c) (c1 : c < 256) (sx0 : 0 ≤ sx) (sx1 : sx < 256) (sy0 : 0 ≤ sy) (sy1 : sy < 256) (wx0 : 0 ≤ wx) (wx1 : wx < 256) (wy0 : 0 ≤ wy) (wy1 : wy < 256) (s : Value) (F : M) (x y : Int) (x0 : -9223372036854775808 ≤ x) (x1 : x ≤ 9223372036854775807) (y0 : -9223372036854775808 ≤ y) (y1 : y ≤ 9223372036854775807) (w : World) (hM0 : Mem w s F) : Calls Try.prog 66 #[.agg #[.int .u8 c, .int .u8 sx, .int .u8 sy, .int .u8 wx, .int .u8 wy], s, .int .i64 x, .int .i64 y] w fun q_ w' => q_ = .returned (.int .u8 (winV F c x y)) ∧ Below w.heap.size w w' := by
 suffices hall : ∀ (n_ : Nat) (W0 : World), n_ ≤ W0.heap.size → Below n_ W0 w → MemB n_ W0 s F → Calls Try.prog 66 #[.agg #[.int .u8 c, .int .u8 sx, .int .u8 sy, .int .u8 wx, .int .u8 wy], s, .int .i64 x, .int .i64 y] w fun q_ w' => q_ = .returned (.int .u8 (winV F c x y)) ∧ Below n_ W0 w' from hall _ _ (Nat.le_refl _) (Below.refl _ _) hM0
 clear hM0
 intro n_ W0 hn hB hM0
 have HN := Lib.hid hn
 have BB := Lib.hid hB
 clear hn hB
 have HM0 := Lib.hid hM0
 clear hM0
 have SB := Lib.hid (fun W => bit6_c c c0 c1 W)
 have ev : winV F c x y = spotV F c (if (bit c 6 == 1) = true then 7168 else 6144) ((x) % 256) ((y) % 256) := by
  unfold winV mapV
  rw [show (bit c 6 == 1) = decide (bit c 6 = 1) from rfl]
  simp only [decide_eq_true_eq]
  skip
 rw [ev]
 have SX := Lib.hid (fun W => mod256_c x x0 x1 W)
 have SY := Lib.hid (fun W => mod256_c y y0 y1 W)
 have SP := Lib.hid (fun W h => spot_c c sx sy wx wy c0 c1 sx0 sx1 sy0 sy1 wx0 wx1 wy0 wy1 s F (bit c 6 == 1) (x) (y) (by omega) (by omega) (by omega) (by omega) W h)
 have hq := bit_bd c 6
 obtain ⟨d, hd⟩ : ∃ q_, q_ = spotV F c (if (bit c 6 == 1) = true then 7168 else 6144) ((x) % 256) ((y) % 256) := ⟨_, rfl⟩
 rw [← hd] at SP ⊢
 obtain ⟨q, hqq⟩ : ∃ q_, q_ = bit c 6 := ⟨_, rfl⟩
 rw [← hqq] at SB SP hq
 skip
 clear hd hqq ev
 go_enter Try.func66, Try.ntmps66
 have Q_ := own1 w (.cells #[.int .u8 c, .int .u8 sx, .int .u8 sy, .int .u8 wx, .int .u8 wy] 72)
 have B0 := Lib.hid (vian HN.out BB.out Q_)
 have P0 := Lib.hid (show Has (w.alloc (.cells #[.int .u8 c, .int .u8 sx, .int .u8 sy, .int .u8 wx, .int .u8 wy] 72)) w.heap.size #[.int .u8 c, .int .u8 sx, .int .u8 sy, .int .u8 wx, .int .u8 wy] by simpa using Has.new w #[.int .u8 c, .int .u8 sx, .int .u8 sy, .int .u8 wx, .int .u8 wy] 72)
 have LP := Lib.hid (show n_ ≤ w.heap.size + 0 from Nat.le_add_right_of_le (Nat.le_trans HN.out BB.out.size))
 simp only [Nat.add_zero] at LP
 clear Q_
 go_upto_region 1 with (fail)
 generalize (w.alloc (.cells #[.int .u8 c, .int .u8 sx, .int .u8 sy, .int .u8 wx, .int .u8 wy] 72)) = u0 at B0 P0 ⊢
 generalize w.heap.size = pb at P0 LP  ⊢
 have B1 := Lib.hid B0.out.drew
 have P1 := Lib.hid P0.out.drew
 clear B0 P0
 refine wp_region_held_drew (S := (fun w' => ∀ o, w'.cell? ⟨pb, o, none⟩ = (#[.int .u8 c, .int .u8 sx, .int .u8 sy, .int .u8 wx, .int .u8 wy])[o]?)) (by kernel_rfl) P1.out.2.1 (fun hHeld => ?_)
 generalize World.drew _ = u1 at hHeld B1 P1 ⊢
 refine tzz 0 ?_
 refine tzz 1 ?_
 refine tzz 2 ?_
 refine tzz 3 ?_
 refine tzz 6 ?_
 refine tzz 7 ?_
 refine wpAnyH_ready (rs := [4]) (by kernel_rfl) (by simp) ?_
 refine (acc rfl (fun K hK => ?_) AllReadyH.nil)
 ·skip
  go_simp
  with_reducible refine (SB.out _).mono ?_
  rintro q_ u2 ⟨rfl, hb⟩
  subst hb
  have B2 := B1
  have P2 := P1
  clear B1 P1
  refine hK.out _ _ ?s87 (fun hNew => ?r87)
  case s87 => exact P2.out.2.1
  clear hK K hHeld
  have hHeld := hNew
  clear hNew
  refine tzz 5 ?_
  refine wpAnyH_ready (rs := [8]) (by kernel_rfl) (by simp) ?_
  refine (acc rfl (fun K hK => ?_) AllReadyH.nil)
  ·skip
   go_simp
   with_reducible refine (SP.out _ (HM0.out.at HN.out B2.out)).mono ?_
   rintro q_ u3 ⟨rfl, hb⟩
   have B3 := Lib.hid (vian HN.out B2.out hb)
   have P3 := Lib.hid (P2.out.below hb)
   clear hb
   clear B2 P2
   refine hK.out _ _ ?s89 (fun hNew => ?r89)
   case s89 => exact P3.out.2.1
   clear hK K hHeld
   have hHeld := hNew
   clear hNew
   refine tzz 9 ?_
   refine wpAnyH_done (by kernel_rfl) ?_ _
   clear hHeld
   go_wp2_with (fail)
   all_goals exact bodyPost_ret (v := .int .u8 d) (by simp [results, Try.results66, go_sem]) rfl ⟨rfl, B3.out⟩
end Go.Proofs.Ytpfbodmadmneiaa
