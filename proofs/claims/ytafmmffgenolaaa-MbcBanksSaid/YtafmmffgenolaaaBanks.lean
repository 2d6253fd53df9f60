/-
  The walk through MbcBanks: for every kind and number; no condition.
-/
import Derived.Test.YtafmmffgenolaaaLaw0
import Derived.Deep.Cut
import Derived.Deep.LoopGhost
namespace Go.Proofs.Ytafmmffgenolaaa
open Go.ChangeShapes Go.WideShapes Go.ChangeAt Go.RowKit
set_option linter.unusedVariables false
set_option linter.unusedSimpArgs false
set_option maxRecDepth 100000
theorem bnV8 : bnV 8 = 512 := by decide
set_option maxHeartbeats 8000000 in
theorem banks_walk (k : Nat) (nn : Int) (hk : k < 256) (n0 : 0 ≤ nn) (n1 : nn < 65536) (w : World) : Calls Try.prog 6 #[.int .u8 k, .int .u16 nn] w fun e w' => e = .returned (.bool true) ∧ Below w.heap.size w w' := by
  have hin : (0 : Nat) = 0 := rfl
  have hf : (0 : Nat) = 0 := rfl
  have hg : (0 : Nat) = 0 := rfl
  have AW := Lib.hid awake_c
  have HIN := Lib.hid hin
  have HF := Lib.hid hf
  have HG := Lib.hid hg
  obtain ⟨K, hK⟩ : ∃ q_, kdV k = q_ := ⟨_, rfl⟩
  obtain ⟨B, hB⟩ : ∃ q_, bnV 8 = q_ := ⟨_, rfl⟩
  obtain ⟨R, hR⟩ : ∃ q_, rmV k 0 = q_ := ⟨_, rfl⟩
  have Kb := kdV_bd k
  have Bb := bnV_bd 8
  have Rb := rmV_bd k 0
  rw [hK] at Kb
  rw [hB] at Bb
  rw [hR] at Rb
  have CC := Lib.hid (show ∀ W : World, Calls Try.prog 10 #[.int .u8 (k : Int), .int .u8 (8 : Int), .int .u8 (0 : Int)] W (fun e w' => e = .returned (.agg #[.string { data := #[] }, .int .i64 K, .bool false, .bool false, .int .i64 B, .int .i64 R, .bool false]) ∧ Below W.heap.size W w') from fun W => cart_c k 8 0 K B R hk (by decide) (by decide) hK hB hR W)
  obtain ⟨m0, hm0⟩ : ∃ q_, newV K B R = q_ := ⟨_, rfl⟩
  have M0 := Lib.hid (show m0.ok from hm0 ▸ newV_ok Kb Bb Rb)
  have NC := Lib.hid (fun W => new_m K B R m0 hm0 { data := #[] } false false false W)
  have hnot : ∀ (x : Bool) (w : World), (Op.unary .not (.bool x)).run Try.prog w = .ok (.bool (!x)) w := fun _ _ => rfl
  clear hin hf hg HIN HF HG
  have B512 := Lib.hid (show B = 512 by rw [← hB]; exact bnV8)
  clear hK hB hR
  go_enter Try.func6, Try.ntmps6
  go_wp2_with fail
  with_reducible refine (AW.out _).mono ?_
  rintro e w1 ⟨rfl, b1⟩
  have B1 := Lib.hid b1
  clear b1
  go_wp2_with fail
  with_reducible refine (CC.out _).mono ?_
  rintro e w2 ⟨rfl, b2⟩
  have Q2 := own1 w2 (.cells #[.string { data := #[] }, .int .i64 K, .bool false, .bool false, .int .i64 B, .int .i64 R, .bool false] 26)
  have B2 := Lib.hid (via (via B1.out b2) Q2)
  have H2 := Lib.hid (Has.new w2 #[.string { data := #[] }, .int .i64 K, .bool false, .bool false, .int .i64 B, .int .i64 R, .bool false] 26)
  have LB := Lib.hid (show w.heap.size ≤ w2.heap.size from (via B1.out b2).size)
  clear b2 Q2 B1
  go_upto_region 4 with (fail)
  generalize w2.alloc (.cells #[.string { data := #[] }, .int .i64 K, .bool false, .bool false, .int .i64 B, .int .i64 R, .bool false] 26) = w2' at B2 H2 ⊢
  generalize w2.heap.size = hb at H2 LB ⊢
  obtain ⟨hc, hfz⟩ := H2.out.out
  go_wp2_with fail
  with_reducible refine (NC.out _).mono ?_
  rintro e w3 ⟨rfl, b3⟩
  clear hc hfz
  have Q3 := own1 w3 (.cells #[.int .i64 m0.k, .int .i64 m0.n, .int .i64 m0.r, .bool m0.on, .bool m0.mo, .int .i64 m0.lo, .int .i64 m0.hi, .int .u8 m0.la] 29)
  have B4 := Lib.hid (via (via B2.out b3) Q3)
  have H4 := Lib.hid ((H2.out.below b3).below Q3)
  have M4 := Lib.hid (Has.new w3 #[.int .i64 m0.k, .int .i64 m0.n, .int .i64 m0.r, .bool m0.on, .bool m0.mo, .int .i64 m0.lo, .int .i64 m0.hi, .int .u8 m0.la] 29)
  have LH := Lib.hid (show w.heap.size ≤ w3.heap.size from (via B2.out b3).size)
  have NH := Lib.hid (show hb ≠ w3.heap.size by have := (H2.out.below b3).1; omega)
  clear b3 Q3 B2 H2 CC NC
  go_upto_region 5 with (fail)
  generalize w3.alloc (.cells #[.int .i64 m0.k, .int .i64 m0.n, .int .i64 m0.r, .bool m0.on, .bool m0.mo, .int .i64 m0.lo, .int .i64 m0.hi, .int .u8 m0.la] 29) = w4 at B4 H4 M4 ⊢
  generalize w3.heap.size = h at M4 LH NH ⊢
  have hcb := H4.out.2.1
  have M3 := M4
  have B3 := B4
  have OK0 := M0
  have q512 := B512.out
  subst q512
  rcases (by omega : K = 0 ∨ K = 1 ∨ K = 2 ∨ K = 3 ∨ K = 4 ∨ K = 5) with rfl | rfl | rfl | rfl | rfl | rfl
  · skip
    have kb : 0 ≤ nn % 256 ∧ nn % 256 < 256 := by omega
    obtain ⟨m1, hm1⟩ : ∃ q_, wrV m0 (8192 % 32768) (nn % 256) = q_ := ⟨_, rfl⟩
    obtain ⟨h1, hh1⟩ : ∃ q_, heldV m0 (8192 % 32768) (nn % 256) = q_ := ⟨_, rfl⟩
    have OK1 := Lib.hid (show m1.ok from hm1 ▸ wrV_ok OK0.out _ _ kb)
    have W1 := Lib.hid (fun W => write_c m0 m1 8192 (nn % 256) h1 OK0.out (by decide) (by decide) kb.1 kb.2 hm1 hh1 W)
    have e1 : m1 = ⟨0, 512, R, true, false, 1, 0, 255⟩ := by rw [← hm1, ← hm0]; unfold wrV newV; dsimp only; rw [if_neg (by decide), if_neg (by decide), if_neg (by decide), if_neg (by decide)]; rfl
    have E1 : bankV m1 (32767 % 32768) = 1 := by rw [e1]; rfl
    have E0 : bankV m1 (0 % 32768) = 0 := by rw [e1]; rfl
    clear hm1 hh1 e1
    obtain ⟨hc, hfz⟩ := M4.out.out
    go_wp2_with fail
    with_reducible refine (W1.out _).mono ?_
    rintro e x1 ⟨rfl, bz⟩
    clear hc hfz
    have A1 := Lib.hid (M4.out.below bz)
    have B5 := Lib.hid (set8 (via B4.out bz) h LH.out (.int .i64 m1.k) (.int .i64 m1.n) (.int .i64 m1.r) (.bool m1.on) (.bool m1.mo) (.int .i64 m1.lo) (.int .i64 m1.hi) (.int .u8 m1.la))
    have M5 := Lib.hid (A1.out.put8 (.int .i64 m1.k) (.int .i64 m1.n) (.int .i64 m1.r) (.bool m1.on) (.bool m1.mo) (.int .i64 m1.lo) (.int .i64 m1.hi) (.int .u8 m1.la))
    clear bz
    obtain ⟨hc, hfz⟩ := A1.out.out
    go_upto_region 28 with (fail)
    clear hc hfz A1
    generalize (World.setCell (World.setCell (World.setCell (World.setCell (World.setCell (World.setCell (World.setCell (World.setCell x1 ⟨h, 0, none⟩ (.int .i64 m1.k)) ⟨h, 1, none⟩ (.int .i64 m1.n)) ⟨h, 2, none⟩ (.int .i64 m1.r)) ⟨h, 3, none⟩ (.bool m1.on)) ⟨h, 4, none⟩ (.bool m1.mo)) ⟨h, 5, none⟩ (.int .i64 m1.lo)) ⟨h, 6, none⟩ (.int .i64 m1.hi)) ⟨h, 7, none⟩ (.int .u8 m1.la)) = y1 at B5 M5 ⊢
    go_upto_region 29 with (fail)
    have BA := Lib.hid (fun W => bank_c m1 32767 (1) OK1.out (by decide) (by decide) E1 W)
    have BB := Lib.hid (fun W => bank_c m1 0 0 OK1.out (by decide) (by decide) E0 W)
    have hc := M5.out.2.1
    go_wp2_with fail
    with_reducible refine (BA.out _).mono ?_
    rintro e z1 ⟨rfl, bz⟩
    clear hc
    have B8 := Lib.hid (via B5.out bz)
    have M8 := Lib.hid (M5.out.below bz)
    clear bz
    have hc := M8.out.2.1
    go_wp2_with fail
    with_reducible refine (BB.out _).mono ?_
    rintro e z2 ⟨rfl, bz⟩
    have B9 := Lib.hid (via B8.out bz)
    clear bz hc
    go_wp2
    go_ret
    exact ⟨by first | rfl | simp, B9.out⟩
  · skip
    have kb : 0 ≤ nn % 128 ∧ nn % 128 < 256 := by omega
    obtain ⟨kk, hkk⟩ : ∃ q_, nn % 128 = q_ := ⟨_, rfl⟩
    rw [hkk] at kb
    have kb1 : kk < 128 := by omega
    have kd : 0 ≤ kk / 32 ∧ kk / 32 < 256 := by omega
    obtain ⟨m1, hm1⟩ : ∃ q_, wrV m0 (8192 % 32768) (kk) = q_ := ⟨_, rfl⟩
    obtain ⟨h1, hh1⟩ : ∃ q_, heldV m0 (8192 % 32768) (kk) = q_ := ⟨_, rfl⟩
    have OK1 := Lib.hid (show m1.ok from hm1 ▸ wrV_ok OK0.out _ _ kb)
    have W1 := Lib.hid (fun W => write_c m0 m1 8192 (kk) h1 OK0.out (by decide) (by decide) kb.1 kb.2 hm1 hh1 W)
    obtain ⟨m2, hm2⟩ : ∃ q_, wrV m1 (16384 % 32768) (kk / 32) = q_ := ⟨_, rfl⟩
    obtain ⟨h2, hh2⟩ : ∃ q_, heldV m1 (16384 % 32768) (kk / 32) = q_ := ⟨_, rfl⟩
    have OK2 := Lib.hid (show m2.ok from hm2 ▸ wrV_ok OK1.out _ _ kd)
    have W2 := Lib.hid (fun W => write_c m1 m2 16384 (kk / 32) h2 OK1.out (by decide) (by decide) kd.1 kd.2 hm2 hh2 W)
    have e1 : m1 = ⟨1, 512, R, false, false, someV (kk % 32), 0, 255⟩ := by rw [← hm1, ← hm0]; unfold wrV newV; dsimp only; rw [if_pos rfl, if_neg (by decide), if_pos (by decide)]; rfl
    have e2 : m2 = ⟨1, 512, R, false, false, someV (kk % 32), kk / 32 % 4, 255⟩ := by rw [← hm2, e1]; unfold wrV; dsimp only; rw [if_pos rfl, if_neg (by decide), if_neg (by decide), if_pos (by decide)]
    have E0 : bankV m2 (0 % 32768) = 0 := by rw [e2]; rfl
    have kb0 := kb.1
    have X2 := Lib.hid e2
    clear hm1 hh1 hm2 hh2 e1 e2
    obtain ⟨hc, hfz⟩ := M4.out.out
    go_wp2_with fail
    with_reducible refine (W1.out _).mono ?_
    rintro e x1 ⟨rfl, bz⟩
    clear hc hfz
    have A1 := Lib.hid (M4.out.below bz)
    have B5 := Lib.hid (set8 (via B4.out bz) h LH.out (.int .i64 m1.k) (.int .i64 m1.n) (.int .i64 m1.r) (.bool m1.on) (.bool m1.mo) (.int .i64 m1.lo) (.int .i64 m1.hi) (.int .u8 m1.la))
    have M5 := Lib.hid (A1.out.put8 (.int .i64 m1.k) (.int .i64 m1.n) (.int .i64 m1.r) (.bool m1.on) (.bool m1.mo) (.int .i64 m1.lo) (.int .i64 m1.hi) (.int .u8 m1.la))
    clear bz
    obtain ⟨hc, hfz⟩ := A1.out.out
    go_upto_region 11 with (fail)
    clear hc hfz A1
    generalize (World.setCell (World.setCell (World.setCell (World.setCell (World.setCell (World.setCell (World.setCell (World.setCell x1 ⟨h, 0, none⟩ (.int .i64 m1.k)) ⟨h, 1, none⟩ (.int .i64 m1.n)) ⟨h, 2, none⟩ (.int .i64 m1.r)) ⟨h, 3, none⟩ (.bool m1.on)) ⟨h, 4, none⟩ (.bool m1.mo)) ⟨h, 5, none⟩ (.int .i64 m1.lo)) ⟨h, 6, none⟩ (.int .i64 m1.hi)) ⟨h, 7, none⟩ (.int .u8 m1.la)) = y1 at B5 M5 ⊢
    obtain ⟨hc, hfz⟩ := M5.out.out
    go_wp2_with fail
    with_reducible refine (W2.out _).mono ?_
    rintro e x2 ⟨rfl, bz⟩
    clear hc hfz
    have A2 := Lib.hid (M5.out.below bz)
    have B6 := Lib.hid (set8 (via B5.out bz) h LH.out (.int .i64 m2.k) (.int .i64 m2.n) (.int .i64 m2.r) (.bool m2.on) (.bool m2.mo) (.int .i64 m2.lo) (.int .i64 m2.hi) (.int .u8 m2.la))
    have M6 := Lib.hid (A2.out.put8 (.int .i64 m2.k) (.int .i64 m2.n) (.int .i64 m2.r) (.bool m2.on) (.bool m2.mo) (.int .i64 m2.lo) (.int .i64 m2.hi) (.int .u8 m2.la))
    clear bz
    obtain ⟨hc, hfz⟩ := A2.out.out
    go_upto_region 12 with (fail)
    clear hc hfz A2
    generalize (World.setCell (World.setCell (World.setCell (World.setCell (World.setCell (World.setCell (World.setCell (World.setCell x2 ⟨h, 0, none⟩ (.int .i64 m2.k)) ⟨h, 1, none⟩ (.int .i64 m2.n)) ⟨h, 2, none⟩ (.int .i64 m2.r)) ⟨h, 3, none⟩ (.bool m2.on)) ⟨h, 4, none⟩ (.bool m2.mo)) ⟨h, 5, none⟩ (.int .i64 m2.lo)) ⟨h, 6, none⟩ (.int .i64 m2.hi)) ⟨h, 7, none⟩ (.int .u8 m2.la)) = y2 at B6 M6 ⊢
    rcases (by omega : kk % 32 = 0 ∨ ¬ kk % 32 = 0) with hz | hz
    · have ev : someV (kk % 32) = 1 := by unfold someV; rw [if_pos hz]
      have E1 : bankV m2 (32767 % 32768) = kk + 1 := by rw [X2.out, ev]; unfold bankV selV; dsimp only; rw [if_neg (by decide), if_neg (by decide), if_pos rfl]; omega
      clear ev
      have zb : (kk % 32 == 0) = true := by simpa using hz
      go_upto_region 29 with (fail)
      have BA := Lib.hid (fun W => bank_c m2 32767 (kk + 1) OK2.out (by decide) (by decide) E1 W)
      have BB := Lib.hid (fun W => bank_c m2 0 0 OK2.out (by decide) (by decide) E0 W)
      have hc := M6.out.2.1
      go_wp2_with fail
      with_reducible refine (BA.out _).mono ?_
      rintro e z1 ⟨rfl, bz⟩
      clear hc
      have B8 := Lib.hid (via B6.out bz)
      have M8 := Lib.hid (M6.out.below bz)
      clear bz
      have hc := M8.out.2.1
      go_wp2_with fail
      with_reducible refine (BB.out _).mono ?_
      rintro e z2 ⟨rfl, bz⟩
      have B9 := Lib.hid (via B8.out bz)
      clear bz hc
      go_wp2
      go_ret
      exact ⟨by first | rfl | simp, B9.out⟩
    · have ev : someV (kk % 32) = kk % 32 := by unfold someV; rw [if_neg hz]
      have E1 : bankV m2 (32767 % 32768) = kk := by rw [X2.out, ev]; unfold bankV selV; dsimp only; rw [if_neg (by decide), if_neg (by decide), if_pos rfl]; omega
      clear ev
      have zb : (kk % 32 == 0) = false := by simpa using hz
      go_upto_region 29 with (fail)
      have BA := Lib.hid (fun W => bank_c m2 32767 (kk) OK2.out (by decide) (by decide) E1 W)
      have BB := Lib.hid (fun W => bank_c m2 0 0 OK2.out (by decide) (by decide) E0 W)
      have hc := M6.out.2.1
      go_wp2_with fail
      with_reducible refine (BA.out _).mono ?_
      rintro e z1 ⟨rfl, bz⟩
      clear hc
      have B8 := Lib.hid (via B6.out bz)
      have M8 := Lib.hid (M6.out.below bz)
      clear bz
      have hc := M8.out.2.1
      go_wp2_with fail
      with_reducible refine (BB.out _).mono ?_
      rintro e z2 ⟨rfl, bz⟩
      have B9 := Lib.hid (via B8.out bz)
      clear bz hc
      go_wp2
      go_ret
      exact ⟨by first | rfl | simp, B9.out⟩
  · skip
    have kb : 0 ≤ nn % 16 ∧ nn % 16 < 256 := by omega
    obtain ⟨kk, hkk⟩ : ∃ q_, nn % 16 = q_ := ⟨_, rfl⟩
    rw [hkk] at kb
    have kb2 : kk < 16 := by omega
    obtain ⟨m1, hm1⟩ : ∃ q_, wrV m0 (256 % 32768) (kk) = q_ := ⟨_, rfl⟩
    obtain ⟨h1, hh1⟩ : ∃ q_, heldV m0 (256 % 32768) (kk) = q_ := ⟨_, rfl⟩
    have OK1 := Lib.hid (show m1.ok from hm1 ▸ wrV_ok OK0.out _ _ kb)
    have W1 := Lib.hid (fun W => write_c m0 m1 256 (kk) h1 OK0.out (by decide) (by decide) kb.1 kb.2 hm1 hh1 W)
    have e1 : m1 = ⟨2, 512, R, false, false, someV (kk % 16), 0, 255⟩ := by rw [← hm1, ← hm0]; unfold wrV newV; dsimp only; rw [if_neg (by decide), if_pos rfl, if_pos (by decide), if_neg (by decide)]; rfl
    have E0 : bankV m1 (0 % 32768) = 0 := by rw [e1]; unfold bankV selV; dsimp only; rw [if_pos (by decide), if_neg (by decide)]; rfl
    have kb0 := kb.1
    have X1 := Lib.hid e1
    clear hm1 hh1 e1
    obtain ⟨hc, hfz⟩ := M4.out.out
    go_wp2_with fail
    with_reducible refine (W1.out _).mono ?_
    rintro e x1 ⟨rfl, bz⟩
    clear hc hfz
    have A1 := Lib.hid (M4.out.below bz)
    have B5 := Lib.hid (set8 (via B4.out bz) h LH.out (.int .i64 m1.k) (.int .i64 m1.n) (.int .i64 m1.r) (.bool m1.on) (.bool m1.mo) (.int .i64 m1.lo) (.int .i64 m1.hi) (.int .u8 m1.la))
    have M5 := Lib.hid (A1.out.put8 (.int .i64 m1.k) (.int .i64 m1.n) (.int .i64 m1.r) (.bool m1.on) (.bool m1.mo) (.int .i64 m1.lo) (.int .i64 m1.hi) (.int .u8 m1.la))
    clear bz
    obtain ⟨hc, hfz⟩ := A1.out.out
    go_upto_region 17 with (fail)
    clear hc hfz A1
    generalize (World.setCell (World.setCell (World.setCell (World.setCell (World.setCell (World.setCell (World.setCell (World.setCell x1 ⟨h, 0, none⟩ (.int .i64 m1.k)) ⟨h, 1, none⟩ (.int .i64 m1.n)) ⟨h, 2, none⟩ (.int .i64 m1.r)) ⟨h, 3, none⟩ (.bool m1.on)) ⟨h, 4, none⟩ (.bool m1.mo)) ⟨h, 5, none⟩ (.int .i64 m1.lo)) ⟨h, 6, none⟩ (.int .i64 m1.hi)) ⟨h, 7, none⟩ (.int .u8 m1.la)) = y1 at B5 M5 ⊢
    rcases (by omega : kk = 0 ∨ 1 ≤ kk) with hz | hz
    · have ev : someV (kk % 16) = 1 := by unfold someV; rw [if_pos (by omega)]
      have E1 : bankV m1 (32767 % 32768) = 1 := by rw [X1.out, ev]; unfold bankV selV; dsimp only; rw [if_neg (by decide), if_neg (by decide), if_neg (by decide), if_pos rfl]; rfl
      clear ev
      subst hz
      go_upto_region 29 with (fail)
      have BA := Lib.hid (fun W => bank_c m1 32767 (1) OK1.out (by decide) (by decide) E1 W)
      have BB := Lib.hid (fun W => bank_c m1 0 0 OK1.out (by decide) (by decide) E0 W)
      have hc := M5.out.2.1
      go_wp2_with fail
      with_reducible refine (BA.out _).mono ?_
      rintro e z1 ⟨rfl, bz⟩
      clear hc
      have B8 := Lib.hid (via B5.out bz)
      have M8 := Lib.hid (M5.out.below bz)
      clear bz
      have hc := M8.out.2.1
      go_wp2_with fail
      with_reducible refine (BB.out _).mono ?_
      rintro e z2 ⟨rfl, bz⟩
      have B9 := Lib.hid (via B8.out bz)
      clear bz hc
      go_wp2
      go_ret
      exact ⟨by first | rfl | simp, B9.out⟩
    · have ev : someV (kk % 16) = kk := by unfold someV; rw [if_neg (by omega)]; omega
      have E1 : bankV m1 (32767 % 32768) = kk := by rw [X1.out, ev]; unfold bankV selV; dsimp only; rw [if_neg (by decide), if_neg (by decide), if_neg (by decide), if_pos rfl]; omega
      clear ev
      go_upto_region 29 with (fail)
      have BA := Lib.hid (fun W => bank_c m1 32767 (kk) OK1.out (by decide) (by decide) E1 W)
      have BB := Lib.hid (fun W => bank_c m1 0 0 OK1.out (by decide) (by decide) E0 W)
      have hc := M5.out.2.1
      go_wp2_with fail
      with_reducible refine (BA.out _).mono ?_
      rintro e z1 ⟨rfl, bz⟩
      clear hc
      have B8 := Lib.hid (via B5.out bz)
      have M8 := Lib.hid (M5.out.below bz)
      clear bz
      have hc := M8.out.2.1
      go_wp2_with fail
      with_reducible refine (BB.out _).mono ?_
      rintro e z2 ⟨rfl, bz⟩
      have B9 := Lib.hid (via B8.out bz)
      clear bz hc
      go_wp2
      go_ret
      exact ⟨by first | rfl | simp, B9.out⟩
  · skip
    have kb : 0 ≤ nn % 128 ∧ nn % 128 < 256 := by omega
    obtain ⟨kk, hkk⟩ : ∃ q_, nn % 128 = q_ := ⟨_, rfl⟩
    rw [hkk] at kb
    have kb2 : kk < 128 := by omega
    obtain ⟨m1, hm1⟩ : ∃ q_, wrV m0 (16383 % 32768) (kk) = q_ := ⟨_, rfl⟩
    obtain ⟨h1, hh1⟩ : ∃ q_, heldV m0 (16383 % 32768) (kk) = q_ := ⟨_, rfl⟩
    have OK1 := Lib.hid (show m1.ok from hm1 ▸ wrV_ok OK0.out _ _ kb)
    have W1 := Lib.hid (fun W => write_c m0 m1 16383 (kk) h1 OK0.out (by decide) (by decide) kb.1 kb.2 hm1 hh1 W)
    have e1 : m1 = ⟨3, 512, R, false, false, someV (kk % 128), 0, 255⟩ := by rw [← hm1, ← hm0]; unfold wrV newV; dsimp only; rw [if_neg (by decide), if_neg (by decide), if_pos rfl, if_neg (by decide), if_pos (by decide)]; rfl
    have E0 : bankV m1 (0 % 32768) = 0 := by rw [e1]; unfold bankV selV; dsimp only; rw [if_pos (by decide), if_neg (by decide)]; rfl
    have kb0 := kb.1
    have X1 := Lib.hid e1
    clear hm1 hh1 e1
    obtain ⟨hc, hfz⟩ := M4.out.out
    go_wp2_with fail
    with_reducible refine (W1.out _).mono ?_
    rintro e x1 ⟨rfl, bz⟩
    clear hc hfz
    have A1 := Lib.hid (M4.out.below bz)
    have B5 := Lib.hid (set8 (via B4.out bz) h LH.out (.int .i64 m1.k) (.int .i64 m1.n) (.int .i64 m1.r) (.bool m1.on) (.bool m1.mo) (.int .i64 m1.lo) (.int .i64 m1.hi) (.int .u8 m1.la))
    have M5 := Lib.hid (A1.out.put8 (.int .i64 m1.k) (.int .i64 m1.n) (.int .i64 m1.r) (.bool m1.on) (.bool m1.mo) (.int .i64 m1.lo) (.int .i64 m1.hi) (.int .u8 m1.la))
    clear bz
    obtain ⟨hc, hfz⟩ := A1.out.out
    go_upto_region 21 with (fail)
    clear hc hfz A1
    generalize (World.setCell (World.setCell (World.setCell (World.setCell (World.setCell (World.setCell (World.setCell (World.setCell x1 ⟨h, 0, none⟩ (.int .i64 m1.k)) ⟨h, 1, none⟩ (.int .i64 m1.n)) ⟨h, 2, none⟩ (.int .i64 m1.r)) ⟨h, 3, none⟩ (.bool m1.on)) ⟨h, 4, none⟩ (.bool m1.mo)) ⟨h, 5, none⟩ (.int .i64 m1.lo)) ⟨h, 6, none⟩ (.int .i64 m1.hi)) ⟨h, 7, none⟩ (.int .u8 m1.la)) = y1 at B5 M5 ⊢
    rcases (by omega : kk = 0 ∨ 1 ≤ kk) with hz | hz
    · have ev : someV (kk % 128) = 1 := by unfold someV; rw [if_pos (by omega)]
      have E1 : bankV m1 (32767 % 32768) = 1 := by rw [X1.out, ev]; unfold bankV selV; dsimp only; rw [if_neg (by decide), if_neg (by decide), if_neg (by decide), if_neg (by decide), if_pos rfl]; rfl
      clear ev
      subst hz
      go_upto_region 29 with (fail)
      have BA := Lib.hid (fun W => bank_c m1 32767 (1) OK1.out (by decide) (by decide) E1 W)
      have BB := Lib.hid (fun W => bank_c m1 0 0 OK1.out (by decide) (by decide) E0 W)
      have hc := M5.out.2.1
      go_wp2_with fail
      with_reducible refine (BA.out _).mono ?_
      rintro e z1 ⟨rfl, bz⟩
      clear hc
      have B8 := Lib.hid (via B5.out bz)
      have M8 := Lib.hid (M5.out.below bz)
      clear bz
      have hc := M8.out.2.1
      go_wp2_with fail
      with_reducible refine (BB.out _).mono ?_
      rintro e z2 ⟨rfl, bz⟩
      have B9 := Lib.hid (via B8.out bz)
      clear bz hc
      go_wp2
      go_ret
      exact ⟨by first | rfl | simp, B9.out⟩
    · have ev : someV (kk % 128) = kk := by unfold someV; rw [if_neg (by omega)]; omega
      have E1 : bankV m1 (32767 % 32768) = kk := by rw [X1.out, ev]; unfold bankV selV; dsimp only; rw [if_neg (by decide), if_neg (by decide), if_neg (by decide), if_neg (by decide), if_pos rfl]; omega
      clear ev
      go_upto_region 29 with (fail)
      have BA := Lib.hid (fun W => bank_c m1 32767 (kk) OK1.out (by decide) (by decide) E1 W)
      have BB := Lib.hid (fun W => bank_c m1 0 0 OK1.out (by decide) (by decide) E0 W)
      have hc := M5.out.2.1
      go_wp2_with fail
      with_reducible refine (BA.out _).mono ?_
      rintro e z1 ⟨rfl, bz⟩
      clear hc
      have B8 := Lib.hid (via B5.out bz)
      have M8 := Lib.hid (M5.out.below bz)
      clear bz
      have hc := M8.out.2.1
      go_wp2_with fail
      with_reducible refine (BB.out _).mono ?_
      rintro e z2 ⟨rfl, bz⟩
      have B9 := Lib.hid (via B8.out bz)
      clear bz hc
      go_wp2
      go_ret
      exact ⟨by first | rfl | simp, B9.out⟩
  · skip
    have E1 : bankV m0 (16384 % 32768) = 0 := by rw [← hm0]; rfl
    have BA := Lib.hid (fun W => bank_c m0 16384 0 M0.out (by decide) (by decide) E1 W)
    have hc := M4.out.2.1
    go_wp2_with fail
    with_reducible refine (BA.out _).mono ?_
    rintro e z1 ⟨rfl, bz⟩
    have B8 := Lib.hid (via B4.out bz)
    clear bz hc
    go_wp2
    go_ret
    exact ⟨by first | rfl | simp, B8.out⟩
  · skip
    have kb : 0 ≤ nn % 512 % 256 ∧ nn % 512 % 256 < 256 := by omega
    obtain ⟨kk, hkk⟩ : ∃ q_, nn % 512 = q_ := ⟨_, rfl⟩
    rw [hkk] at kb
    have kb0 : 0 ≤ kk := by omega
    have kb1 : kk < 512 := by omega
    have kd : 0 ≤ kk / 256 ∧ kk / 256 < 256 := by omega
    obtain ⟨m1, hm1⟩ : ∃ q_, wrV m0 (12287 % 32768) (kk % 256) = q_ := ⟨_, rfl⟩
    obtain ⟨h1, hh1⟩ : ∃ q_, heldV m0 (12287 % 32768) (kk % 256) = q_ := ⟨_, rfl⟩
    have OK1 := Lib.hid (show m1.ok from hm1 ▸ wrV_ok OK0.out _ _ kb)
    have W1 := Lib.hid (fun W => write_c m0 m1 12287 (kk % 256) h1 OK0.out (by decide) (by decide) kb.1 kb.2 hm1 hh1 W)
    obtain ⟨m2, hm2⟩ : ∃ q_, wrV m1 (12288 % 32768) (kk / 256) = q_ := ⟨_, rfl⟩
    obtain ⟨h2, hh2⟩ : ∃ q_, heldV m1 (12288 % 32768) (kk / 256) = q_ := ⟨_, rfl⟩
    have OK2 := Lib.hid (show m2.ok from hm2 ▸ wrV_ok OK1.out _ _ kd)
    have W2 := Lib.hid (fun W => write_c m1 m2 12288 (kk / 256) h2 OK1.out (by decide) (by decide) kd.1 kd.2 hm2 hh2 W)
    have e1 : m1 = ⟨5, 512, R, false, false, 1 / 256 * 256 + kk % 256, 0, 255⟩ := by rw [← hm1, ← hm0]; unfold wrV newV; dsimp only; rw [if_neg (by decide), if_neg (by decide), if_neg (by decide), if_pos rfl, if_neg (by decide), if_pos (by decide)]; rfl
    have e2 : m2 = ⟨5, 512, R, false, false, (1 / 256 * 256 + kk % 256) % 256 + kk / 256 % 2 * 256, 0, 255⟩ := by rw [← hm2, e1]; unfold wrV; dsimp only; rw [if_neg (by decide), if_neg (by decide), if_neg (by decide), if_pos rfl, if_neg (by decide), if_neg (by decide), if_pos (by decide)]
    have E0 : bankV m2 (0 % 32768) = 0 := by rw [e2]; rfl
    have E1 : bankV m2 (32767 % 32768) = kk := by rw [e2]; unfold bankV selV; dsimp only; rw [if_neg (by decide), if_neg (by decide), if_neg (by decide), if_neg (by decide), if_neg (by decide), if_pos rfl]; omega
    clear hm1 hh1 hm2 hh2 e1 e2
    obtain ⟨hc, hfz⟩ := M4.out.out
    go_wp2_with fail
    with_reducible refine (W1.out _).mono ?_
    rintro e x1 ⟨rfl, bz⟩
    clear hc hfz
    have A1 := Lib.hid (M4.out.below bz)
    have B5 := Lib.hid (set8 (via B4.out bz) h LH.out (.int .i64 m1.k) (.int .i64 m1.n) (.int .i64 m1.r) (.bool m1.on) (.bool m1.mo) (.int .i64 m1.lo) (.int .i64 m1.hi) (.int .u8 m1.la))
    have M5 := Lib.hid (A1.out.put8 (.int .i64 m1.k) (.int .i64 m1.n) (.int .i64 m1.r) (.bool m1.on) (.bool m1.mo) (.int .i64 m1.lo) (.int .i64 m1.hi) (.int .u8 m1.la))
    clear bz
    obtain ⟨hc, hfz⟩ := A1.out.out
    go_upto_region 25 with (fail)
    clear hc hfz A1
    generalize (World.setCell (World.setCell (World.setCell (World.setCell (World.setCell (World.setCell (World.setCell (World.setCell x1 ⟨h, 0, none⟩ (.int .i64 m1.k)) ⟨h, 1, none⟩ (.int .i64 m1.n)) ⟨h, 2, none⟩ (.int .i64 m1.r)) ⟨h, 3, none⟩ (.bool m1.on)) ⟨h, 4, none⟩ (.bool m1.mo)) ⟨h, 5, none⟩ (.int .i64 m1.lo)) ⟨h, 6, none⟩ (.int .i64 m1.hi)) ⟨h, 7, none⟩ (.int .u8 m1.la)) = y1 at B5 M5 ⊢
    obtain ⟨hc, hfz⟩ := M5.out.out
    go_wp2_with fail
    with_reducible refine (W2.out _).mono ?_
    rintro e x2 ⟨rfl, bz⟩
    clear hc hfz
    have A2 := Lib.hid (M5.out.below bz)
    have B6 := Lib.hid (set8 (via B5.out bz) h LH.out (.int .i64 m2.k) (.int .i64 m2.n) (.int .i64 m2.r) (.bool m2.on) (.bool m2.mo) (.int .i64 m2.lo) (.int .i64 m2.hi) (.int .u8 m2.la))
    have M6 := Lib.hid (A2.out.put8 (.int .i64 m2.k) (.int .i64 m2.n) (.int .i64 m2.r) (.bool m2.on) (.bool m2.mo) (.int .i64 m2.lo) (.int .i64 m2.hi) (.int .u8 m2.la))
    clear bz
    obtain ⟨hc, hfz⟩ := A2.out.out
    go_upto_region 29 with (fail)
    clear hc hfz A2
    generalize (World.setCell (World.setCell (World.setCell (World.setCell (World.setCell (World.setCell (World.setCell (World.setCell x2 ⟨h, 0, none⟩ (.int .i64 m2.k)) ⟨h, 1, none⟩ (.int .i64 m2.n)) ⟨h, 2, none⟩ (.int .i64 m2.r)) ⟨h, 3, none⟩ (.bool m2.on)) ⟨h, 4, none⟩ (.bool m2.mo)) ⟨h, 5, none⟩ (.int .i64 m2.lo)) ⟨h, 6, none⟩ (.int .i64 m2.hi)) ⟨h, 7, none⟩ (.int .u8 m2.la)) = y2 at B6 M6 ⊢
    have BA := Lib.hid (fun W => bank_c m2 32767 (kk) OK2.out (by decide) (by decide) E1 W)
    have BB := Lib.hid (fun W => bank_c m2 0 0 OK2.out (by decide) (by decide) E0 W)
    have hc := M6.out.2.1
    go_wp2_with fail
    with_reducible refine (BA.out _).mono ?_
    rintro e z1 ⟨rfl, bz⟩
    clear hc
    have B8 := Lib.hid (via B6.out bz)
    have M8 := Lib.hid (M6.out.below bz)
    clear bz
    have hc := M8.out.2.1
    go_wp2_with fail
    with_reducible refine (BB.out _).mono ?_
    rintro e z2 ⟨rfl, bz⟩
    have B9 := Lib.hid (via B8.out bz)
    clear bz hc
    go_wp2
    go_ret
    exact ⟨by first | rfl | simp, B9.out⟩
end Go.Proofs.Ytafmmffgenolaaa
