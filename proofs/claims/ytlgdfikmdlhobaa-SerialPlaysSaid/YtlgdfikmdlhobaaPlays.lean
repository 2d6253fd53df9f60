/-
  The walk through SerialPlays: for every world in which the calls lie as told; no other condition.
-/
import Derived.Test.YtlgdfikmdlhobaaOpn
import Derived.Deep.Cut
import Derived.Deep.CutBlock
import Derived.Deep.DeepCutAuto
import Derived.Deep.LoopGhost
import Derived.Laws.StructEq
namespace Go.Proofs.Ytlgdfikmdlhobaa
open Go.ChangeShapes Go.WideShapes Go.ChangeAt Go.RowKit
set_option linter.unusedVariables false
set_option linter.unusedSimpArgs false
set_option maxRecDepth 100000
set_option maxHeartbeats 2000000 in
theorem plays_long (a : Option Addr) (n c : Nat) (h0 : 40 < n) (w : World) : Calls Try.prog 3 #[.slice a n c] w fun q_ w' => q_ = .returned (.bool true) ∧ Below w.heap.size w w' := by
  suffices hall : ∀ (n_ : Nat) (W0 : World), n_ ≤ W0.heap.size → Below n_ W0 w → Calls Try.prog 3 #[.slice a n c] w fun q_ w' => q_ = .returned (.bool true) ∧ Below n_ W0 w' from hall _ _ (Nat.le_refl _) (Below.refl _ _)
  intro n_ W0 hn hB
  have HN := Lib.hid hn
  have BB := Lib.hid hB
  clear hn hB
  have AW := Lib.hid awake_c
  have h0I : (40 : Int) < n := by omega
  have hnot : ∀ (x : Bool) (w : World), (Op.unary .not (.bool x)).run Try.prog w = .ok (.bool (!x)) w := fun _ _ => rfl
  go_enter Try.func3, Try.ntmps3
  go_wp2_with fail
  with_reducible refine (AW.out _).mono ?_
  rintro q_ w1 ⟨rfl, hb⟩
  have B1 := Lib.hid (vian HN.out BB.out hb)
  clear hb 
  go_wp2_with fail
  with_reducible refine (AW.out _).mono ?_
  rintro q_ w2 ⟨rfl, hb⟩
  have B2 := Lib.hid (vian HN.out B1.out hb)
  clear hb B1
  go_wp2
  go_ret
  exact ⟨rfl, B2.out⟩
set_option maxHeartbeats 8000000 in
theorem plays_some (f g h : Nat → Int) (hh : ∀ i, 0 ≤ h i ∧ h i < 256) (a : Option Addr) (n c : Nat) (h0 : ¬ 40 < n) (w : World) (hmem : (0 < n → ∃ qb qo, a = some ⟨qb, qo, none⟩ ∧ qb < w.heap.size ∧ ∀ j, j < n → w.cell? ⟨qb, qo + j * 3, none⟩ = some (.int .i64 (f j)) ∧ w.cell? ⟨qb, qo + j * 3 + 1, none⟩ = some (.int .i64 (g j)) ∧ w.cell? ⟨qb, qo + j * 3 + 2, none⟩ = some (.int .u8 (h j)))) : Calls Try.prog 3 #[.slice a n c] w fun q_ w' => q_ = .returned (.bool true) ∧ Below w.heap.size w w' := by
  suffices hall : ∀ (n_ : Nat) (W0 : World), n_ ≤ W0.heap.size → Below n_ W0 w → (0 < n → ∃ qb qo, a = some ⟨qb, qo, none⟩ ∧ qb < n_ ∧ ∀ j, j < n → W0.cell? ⟨qb, qo + j * 3, none⟩ = some (.int .i64 (f j)) ∧ W0.cell? ⟨qb, qo + j * 3 + 1, none⟩ = some (.int .i64 (g j)) ∧ W0.cell? ⟨qb, qo + j * 3 + 2, none⟩ = some (.int .u8 (h j))) → Calls Try.prog 3 #[.slice a n c] w fun q_ w' => q_ = .returned (.bool true) ∧ Below n_ W0 w' from hall _ _ (Nat.le_refl _) (Below.refl _ _) hmem
  intro n_ W0 hn hB hI
  have HN := Lib.hid hn
  have BB := Lib.hid hB
  have HIN := Lib.hid hI
  have HH := Lib.hid hh
  clear hn hB hI hmem hh
  have h0I : ¬ (40 : Int) < n := by omega
  have AW := Lib.hid awake_c
  have hnot : ∀ (x : Bool) (w : World), (Op.unary .not (.bool x)).run Try.prog w = .ok (.bool (!x)) w := fun _ _ => rfl
  go_enter Try.func3, Try.ntmps3
  go_wp2_with fail
  with_reducible refine (AW.out _).mono ?_
  rintro q_ w1 ⟨rfl, hb⟩
  have B1 := Lib.hid (vian HN.out BB.out hb)
  clear hb 
  have Q_ := own2 w1 (.cells #[.int .u8 0, .int .u8 0, .int .u8 0, .int .i64 0, .int .i64 0, .int .i64 0] 25) (.cells #[.int .u8 0, .int .u8 0, .int .u8 0, .int .i64 0, .int .i64 0, .int .i64 0] 26)
  have B2 := Lib.hid (vian HN.out B1.out Q_)
  have P2 := Lib.hid ((Has.new w1 #[.int .u8 0, .int .u8 0, .int .u8 0, .int .i64 0, .int .i64 0, .int .i64 0] 25).alloc (.cells #[.int .u8 0, .int .u8 0, .int .u8 0, .int .i64 0, .int .i64 0, .int .i64 0] 26))
  have R2 := Lib.hid (show Has ((w1.alloc (.cells #[.int .u8 0, .int .u8 0, .int .u8 0, .int .i64 0, .int .i64 0, .int .i64 0] 25)).alloc (.cells #[.int .u8 0, .int .u8 0, .int .u8 0, .int .i64 0, .int .i64 0, .int .i64 0] 26)) (w1.heap.size + 1) #[.int .u8 0, .int .u8 0, .int .u8 0, .int .i64 0, .int .i64 0, .int .i64 0] by simpa using Has.new (w1.alloc (.cells #[.int .u8 0, .int .u8 0, .int .u8 0, .int .i64 0, .int .i64 0, .int .i64 0] 25)) #[.int .u8 0, .int .u8 0, .int .u8 0, .int .i64 0, .int .i64 0, .int .i64 0] 26)
  have LP := Lib.hid (show n_ ≤ w1.heap.size from Nat.le_trans HN.out B1.out.size)
  have LR := Lib.hid (show n_ ≤ w1.heap.size + 1 from Nat.le_succ_of_le (Nat.le_trans HN.out B1.out.size))
  have NE := Lib.hid (show w1.heap.size ≠ w1.heap.size + 1 by omega)
  clear Q_ B1
  go_upto_region 4 with (fail)
  generalize (w1.alloc (.cells #[.int .u8 0, .int .u8 0, .int .u8 0, .int .i64 0, .int .i64 0, .int .i64 0] 25)).alloc (.cells #[.int .u8 0, .int .u8 0, .int .u8 0, .int .i64 0, .int .i64 0, .int .i64 0] 26) = w2 at B2 P2 R2 ⊢
  generalize w1.heap.size + 1 = rb at R2 LR NE ⊢
  generalize w1.heap.size = pb at P2 LP NE ⊢
  go_wp2
  go_loopg [21] n (fun g' i wr => ∃ (t : Nat) (m : PV), t ≤ n ∧ g' + t = n ∧ i = .int .i64 t ∧ m.ok ∧ Below n_ W0 wr ∧ Has wr pb #[.int .u8 m.d, .int .u8 m.c, .int .u8 m.l, .int .i64 m.b, .int .i64 m.n, .int .i64 m.s] ∧ Has wr rb #[.int .u8 m.d, .int .u8 m.c, .int .u8 m.l, .int .i64 m.b, .int .i64 m.n, .int .i64 m.s])
  case atStart => exact ⟨0, zeroV, by omega, by omega, rfl, zero_ok, B2.out, P2.out, R2.out⟩
  case round =>
    obtain ⟨w3, hw3⟩ : ∃ q_, q_ = wr := ⟨_, rfl⟩
    subst hw3
    obtain ⟨t, m, ht, hg, rfl, hok, hB, hP, hR⟩ := hrel
    have TG := Lib.hid hg
    have OK := Lib.hid hok
    have B3 := Lib.hid hB
    have P3 := Lib.hid hP
    have R3 := Lib.hid hR
    clear hg hok hB hP hR B2 P2 R2
    by_cases hlt : t < n
    · have l1 : (t : Int) < n := by omega
      have l0 : (0 : Int) ≤ t := by omega
      obtain ⟨qb, qo, rfl, hqb, hcells⟩ := HIN.out (by omega)
      have QQ := Lib.hid hqb
      have E0 := Lib.hid (hcells t hlt).1
      have E1 := Lib.hid (hcells t hlt).2.1
      have E2 := Lib.hid (hcells t hlt).2.2
      have xb := HH.out t
      generalize f t = kk at E0
      generalize g t = nn at E1
      generalize h t = xx at E2 xb
      clear hcells hqb
      have e0 := (B3.out.cell (p := ⟨qb, qo + t * 3, none⟩) QQ.out).trans E0.out
      have e1 := (B3.out.cell (p := ⟨qb, qo + t * 3 + 1, none⟩) QQ.out).trans E1.out
      have e2 := (B3.out.cell (p := ⟨qb, qo + t * 3 + 2, none⟩) QQ.out).trans E2.out
      have Q_ := own1 w3 (.cells #[.int .i64 kk, .int .i64 nn, .int .u8 xx] 28)
      have B4 := Lib.hid (vian HN.out B3.out Q_)
      have P4 := Lib.hid (P3.out.below Q_)
      have R4 := Lib.hid (R3.out.below Q_)
      have O4 := Lib.hid (Has.new w3 #[.int .i64 kk, .int .i64 nn, .int .u8 xx] 28)
      have LO := Lib.hid (show n_ ≤ w3.heap.size from Nat.le_trans HN.out B3.out.size)
      have NOP := Lib.hid (show pb ≠ w3.heap.size from Nat.ne_of_lt P3.out.1)
      have NOR := Lib.hid (show rb ≠ w3.heap.size from Nat.ne_of_lt R3.out.1)
      clear Q_
      go_upto_region 8 with (fail)
      generalize w3.alloc (.cells #[.int .i64 kk, .int .i64 nn, .int .u8 xx] 28) = w4 at B4 P4 R4 O4 ⊢
      generalize w3.heap.size = ob at O4 LO NOP NOR ⊢
      clear B3 P3 R3
      clear e0 e1 e2 E0 E1 E2 QQ
      obtain ⟨hc, hf⟩ := O4.out.out
      go_upto_block 2 with (fail)
      clear hc hf
      go_cut [] (fun wx => ∃ m' : PV, m'.ok ∧ Below n_ W0 wx ∧ Has wx pb #[.int .u8 m'.d, .int .u8 m'.c, .int .u8 m'.l, .int .i64 m'.b, .int .i64 m'.n, .int .i64 m'.s] ∧ Has wx rb #[.int .u8 m'.d, .int .u8 m'.c, .int .u8 m'.l, .int .i64 m'.b, .int .i64 m'.n, .int .i64 m'.s] ∧ Has wx ob #[.int .i64 kk, .int .i64 nn, .int .u8 xx])
      case first =>
        by_cases k1 : kk = 1
        · subst k1
          have xb0 := xb
          by_cases b1 : nn ≤ 1200
          · by_cases b2 : nn ≤ 0
            · have b4 : ¬ 0 < nn := by omega
              obtain ⟨hc, hf⟩ := O4.out.out
              go_upto_region 11 with (fail)
              clear hc hf
              go_wp2
              go_loopg [36] 0 (fun g' i wr => ∃ (s : Nat) (m' : PV), s ≤ 0 ∧ g' + s = 0 ∧ i = .int .i64 s ∧ m'.ok ∧ Below n_ W0 wr ∧ Has wr pb #[.int .u8 m'.d, .int .u8 m'.c, .int .u8 m'.l, .int .i64 m'.b, .int .i64 m'.n, .int .i64 m'.s] ∧ Has wr rb #[.int .u8 m'.d, .int .u8 m'.c, .int .u8 m'.l, .int .i64 m'.b, .int .i64 m'.n, .int .i64 m'.s] ∧ Has wr ob #[.int .i64 1, .int .i64 nn, .int .u8 xx])
              case atStart => exact ⟨0, m, by omega, by omega, rfl, OK.out, B4.out, P4.out, R4.out, O4.out⟩
              case round =>
                obtain ⟨w5, hw5⟩ : ∃ q_, q_ = wr := ⟨_, rfl⟩
                subst hw5
                obtain ⟨s, m1, hs, hg, rfl, hok, hB, hP, hR, hO⟩ := hrel
                have SG := Lib.hid hg
                have OK1 := Lib.hid hok
                have B5 := Lib.hid hB
                have P5 := Lib.hid hP
                have R5 := Lib.hid hR
                have O5 := Lib.hid hO
                clear hg hok hB hP hR hO B4 P4 R4 O4 OK
                by_cases hls : s < 0
                · exact absurd hls (by omega)
                · have et : s = 0 := by omega
                  subst et
                  go_wp2
                  go_meet
                  exact ⟨m1, OK1.out, B5.out, P5.out, R5.out, O5.out⟩
            · obtain ⟨N, hN⟩ := Int.eq_ofNat_of_zero_le (show 0 ≤ nn by omega)
              subst hN
              have b3 : (0 : Int) ≤ N := by omega
              have b4 : (N : Int) ≤ 1200 := b1
              have b5 : ¬ (1200 : Int) < N := by omega
              have b6 : ¬ (N : Int) < 0 := by omega
              have b7 : 0 < N := by omega
              have b8 : (0 : Int) < N := by omega
              obtain ⟨hc, hf⟩ := O4.out.out
              go_upto_region 11 with (fail)
              clear hc hf
              go_wp2
              go_loopg [36] N (fun g' i wr => ∃ (s : Nat) (m' : PV), s ≤ N ∧ g' + s = N ∧ i = .int .i64 s ∧ m'.ok ∧ Below n_ W0 wr ∧ Has wr pb #[.int .u8 m'.d, .int .u8 m'.c, .int .u8 m'.l, .int .i64 m'.b, .int .i64 m'.n, .int .i64 m'.s] ∧ Has wr rb #[.int .u8 m'.d, .int .u8 m'.c, .int .u8 m'.l, .int .i64 m'.b, .int .i64 m'.n, .int .i64 m'.s] ∧ Has wr ob #[.int .i64 1, .int .i64 N, .int .u8 xx])
              case atStart => exact ⟨0, m, by omega, by omega, rfl, OK.out, B4.out, P4.out, R4.out, O4.out⟩
              case round =>
                obtain ⟨w5, hw5⟩ : ∃ q_, q_ = wr := ⟨_, rfl⟩
                subst hw5
                obtain ⟨s, m1, hs, hg, rfl, hok, hB, hP, hR, hO⟩ := hrel
                have SG := Lib.hid hg
                have OK1 := Lib.hid hok
                have B5 := Lib.hid hB
                have P5 := Lib.hid hP
                have R5 := Lib.hid hR
                have O5 := Lib.hid hO
                clear hg hok hB hP hR hO B4 P4 R4 O4 OK
                by_cases hls : s < N
                · have l2 : (s : Int) < N := by omega
                  obtain ⟨m2, hm2⟩ : ∃ q_, tickV m1 = q_ := ⟨_, rfl⟩
                  obtain ⟨ir, hir⟩ : ∃ q_, tickI m1 = q_ := ⟨_, rfl⟩
                  have TC := Lib.hid (fun W => tick_c m1 m2 ir OK1.out hm2 hir W)
                  have RTC := Lib.hid (fun W => rtick_c m1 m2 ir OK1.out hm2 hir W)
                  have OK2 := Lib.hid (show m2.ok from hm2 ▸ tick_ok OK1.out)
                  clear hm2 hir OK1
                  obtain ⟨hc, hf⟩ := P5.out.out
                  go_wp2_with fail
                  with_reducible refine (TC.out _).mono ?_
                  rintro q_ w6 ⟨rfl, hb⟩
                  clear hc hf
                  have B6 := Lib.hid (vian HN.out B5.out hb)
                  have P6 := Lib.hid (P5.out.below hb)
                  have R6 := Lib.hid (R5.out.below hb)
                  have O6 := Lib.hid (O5.out.below hb)
                  clear hb B5 P5 R5 O5
                  have B7 := Lib.hid (set6 B6.out pb LP.out (.int .u8 m2.d) (.int .u8 m2.c) (.int .u8 m2.l) (.int .i64 m2.b) (.int .i64 m2.n) (.int .i64 m2.s))
                  have P7 := Lib.hid (P6.out.put6 (.int .u8 m2.d) (.int .u8 m2.c) (.int .u8 m2.l) (.int .i64 m2.b) (.int .i64 m2.n) (.int .i64 m2.s))
                  have R7 := Lib.hid (R6.out.far6 NE.out.symm (.int .u8 m2.d) (.int .u8 m2.c) (.int .u8 m2.l) (.int .i64 m2.b) (.int .i64 m2.n) (.int .i64 m2.s))
                  have O7 := Lib.hid (O6.out.far6 NOP.out.symm (.int .u8 m2.d) (.int .u8 m2.c) (.int .u8 m2.l) (.int .i64 m2.b) (.int .i64 m2.n) (.int .i64 m2.s))
                  obtain ⟨hc, hf⟩ := P6.out.out
                  go_upto_region 14 with (fail)
                  clear hc hf B6 P6 R6 O6
                  generalize (World.setCell (World.setCell (World.setCell (World.setCell (World.setCell (World.setCell w6 ⟨pb, 0, none⟩ (.int .u8 m2.d)) ⟨pb, 1, none⟩ (.int .u8 m2.c)) ⟨pb, 2, none⟩ (.int .u8 m2.l)) ⟨pb, 3, none⟩ (.int .i64 m2.b)) ⟨pb, 4, none⟩ (.int .i64 m2.n)) ⟨pb, 5, none⟩ (.int .i64 m2.s)) = w7 at B7 P7 R7 O7 ⊢
                  obtain ⟨hc, hf⟩ := R7.out.out
                  go_wp2_with fail
                  with_reducible refine (RTC.out _).mono ?_
                  rintro q_ w8 ⟨rfl, hb⟩
                  clear hc hf
                  have B8 := Lib.hid (vian HN.out B7.out hb)
                  have P8 := Lib.hid (P7.out.below hb)
                  have R8 := Lib.hid (R7.out.below hb)
                  have O8 := Lib.hid (O7.out.below hb)
                  clear hb B7 P7 R7 O7
                  have B9 := Lib.hid (set6 B8.out rb LR.out (.int .u8 m2.d) (.int .u8 m2.c) (.int .u8 m2.l) (.int .i64 m2.b) (.int .i64 m2.n) (.int .i64 m2.s))
                  have R9 := Lib.hid (R8.out.put6 (.int .u8 m2.d) (.int .u8 m2.c) (.int .u8 m2.l) (.int .i64 m2.b) (.int .i64 m2.n) (.int .i64 m2.s))
                  have P9 := Lib.hid (P8.out.far6 NE.out (.int .u8 m2.d) (.int .u8 m2.c) (.int .u8 m2.l) (.int .i64 m2.b) (.int .i64 m2.n) (.int .i64 m2.s))
                  have O9 := Lib.hid (O8.out.far6 NOR.out.symm (.int .u8 m2.d) (.int .u8 m2.c) (.int .u8 m2.l) (.int .i64 m2.b) (.int .i64 m2.n) (.int .i64 m2.s))
                  obtain ⟨hc, hf⟩ := R8.out.out
                  go_upto_region 15 with (fail)
                  clear hc hf B8 P8 R8 O8
                  generalize (World.setCell (World.setCell (World.setCell (World.setCell (World.setCell (World.setCell w8 ⟨rb, 0, none⟩ (.int .u8 m2.d)) ⟨rb, 1, none⟩ (.int .u8 m2.c)) ⟨rb, 2, none⟩ (.int .u8 m2.l)) ⟨rb, 3, none⟩ (.int .i64 m2.b)) ⟨rb, 4, none⟩ (.int .i64 m2.n)) ⟨rb, 5, none⟩ (.int .i64 m2.s)) = w9 at B9 P9 R9 O9 ⊢
                  obtain ⟨hc, hf⟩ := P9.out.out
                  obtain ⟨hc1, hf1⟩ := R9.out.out
                  go_wp2
                  clear hc hf hc1 hf1
                  go_roundg (N - (s + 1))
                  · exact ⟨s + 1, m2, by omega, by omega, by simp, OK2.out, B9.out, P9.out, R9.out, O9.out⟩
                  case measure => have := SG.out; omega
                · have et : s = N := by omega
                  subst et
                  go_wp2
                  go_meet
                  exact ⟨m1, OK1.out, B5.out, P5.out, R5.out, O5.out⟩
          · have b2 : 0 < nn := by omega
            have b3 : 0 ≤ nn := by omega
            have b4 : 1200 < nn := by omega
            obtain ⟨hc, hf⟩ := O4.out.out
            go_upto_region 11 with (fail)
            clear hc hf
            go_wp2
            go_loopg [36] 1200 (fun g' i wr => ∃ (s : Nat) (m' : PV), s ≤ 1200 ∧ g' + s = 1200 ∧ i = .int .i64 s ∧ m'.ok ∧ Below n_ W0 wr ∧ Has wr pb #[.int .u8 m'.d, .int .u8 m'.c, .int .u8 m'.l, .int .i64 m'.b, .int .i64 m'.n, .int .i64 m'.s] ∧ Has wr rb #[.int .u8 m'.d, .int .u8 m'.c, .int .u8 m'.l, .int .i64 m'.b, .int .i64 m'.n, .int .i64 m'.s] ∧ Has wr ob #[.int .i64 1, .int .i64 nn, .int .u8 xx])
            case atStart => exact ⟨0, m, by omega, by omega, rfl, OK.out, B4.out, P4.out, R4.out, O4.out⟩
            case round =>
              obtain ⟨w5, hw5⟩ : ∃ q_, q_ = wr := ⟨_, rfl⟩
              subst hw5
              obtain ⟨s, m1, hs, hg, rfl, hok, hB, hP, hR, hO⟩ := hrel
              have SG := Lib.hid hg
              have OK1 := Lib.hid hok
              have B5 := Lib.hid hB
              have P5 := Lib.hid hP
              have R5 := Lib.hid hR
              have O5 := Lib.hid hO
              clear hg hok hB hP hR hO B4 P4 R4 O4 OK
              by_cases hls : s < 1200
              · have l2 : (s : Int) < 1200 := by omega
                obtain ⟨m2, hm2⟩ : ∃ q_, tickV m1 = q_ := ⟨_, rfl⟩
                obtain ⟨ir, hir⟩ : ∃ q_, tickI m1 = q_ := ⟨_, rfl⟩
                have TC := Lib.hid (fun W => tick_c m1 m2 ir OK1.out hm2 hir W)
                have RTC := Lib.hid (fun W => rtick_c m1 m2 ir OK1.out hm2 hir W)
                have OK2 := Lib.hid (show m2.ok from hm2 ▸ tick_ok OK1.out)
                clear hm2 hir OK1
                obtain ⟨hc, hf⟩ := P5.out.out
                go_wp2_with fail
                with_reducible refine (TC.out _).mono ?_
                rintro q_ w6 ⟨rfl, hb⟩
                clear hc hf
                have B6 := Lib.hid (vian HN.out B5.out hb)
                have P6 := Lib.hid (P5.out.below hb)
                have R6 := Lib.hid (R5.out.below hb)
                have O6 := Lib.hid (O5.out.below hb)
                clear hb B5 P5 R5 O5
                have B7 := Lib.hid (set6 B6.out pb LP.out (.int .u8 m2.d) (.int .u8 m2.c) (.int .u8 m2.l) (.int .i64 m2.b) (.int .i64 m2.n) (.int .i64 m2.s))
                have P7 := Lib.hid (P6.out.put6 (.int .u8 m2.d) (.int .u8 m2.c) (.int .u8 m2.l) (.int .i64 m2.b) (.int .i64 m2.n) (.int .i64 m2.s))
                have R7 := Lib.hid (R6.out.far6 NE.out.symm (.int .u8 m2.d) (.int .u8 m2.c) (.int .u8 m2.l) (.int .i64 m2.b) (.int .i64 m2.n) (.int .i64 m2.s))
                have O7 := Lib.hid (O6.out.far6 NOP.out.symm (.int .u8 m2.d) (.int .u8 m2.c) (.int .u8 m2.l) (.int .i64 m2.b) (.int .i64 m2.n) (.int .i64 m2.s))
                obtain ⟨hc, hf⟩ := P6.out.out
                go_upto_region 14 with (fail)
                clear hc hf B6 P6 R6 O6
                generalize (World.setCell (World.setCell (World.setCell (World.setCell (World.setCell (World.setCell w6 ⟨pb, 0, none⟩ (.int .u8 m2.d)) ⟨pb, 1, none⟩ (.int .u8 m2.c)) ⟨pb, 2, none⟩ (.int .u8 m2.l)) ⟨pb, 3, none⟩ (.int .i64 m2.b)) ⟨pb, 4, none⟩ (.int .i64 m2.n)) ⟨pb, 5, none⟩ (.int .i64 m2.s)) = w7 at B7 P7 R7 O7 ⊢
                obtain ⟨hc, hf⟩ := R7.out.out
                go_wp2_with fail
                with_reducible refine (RTC.out _).mono ?_
                rintro q_ w8 ⟨rfl, hb⟩
                clear hc hf
                have B8 := Lib.hid (vian HN.out B7.out hb)
                have P8 := Lib.hid (P7.out.below hb)
                have R8 := Lib.hid (R7.out.below hb)
                have O8 := Lib.hid (O7.out.below hb)
                clear hb B7 P7 R7 O7
                have B9 := Lib.hid (set6 B8.out rb LR.out (.int .u8 m2.d) (.int .u8 m2.c) (.int .u8 m2.l) (.int .i64 m2.b) (.int .i64 m2.n) (.int .i64 m2.s))
                have R9 := Lib.hid (R8.out.put6 (.int .u8 m2.d) (.int .u8 m2.c) (.int .u8 m2.l) (.int .i64 m2.b) (.int .i64 m2.n) (.int .i64 m2.s))
                have P9 := Lib.hid (P8.out.far6 NE.out (.int .u8 m2.d) (.int .u8 m2.c) (.int .u8 m2.l) (.int .i64 m2.b) (.int .i64 m2.n) (.int .i64 m2.s))
                have O9 := Lib.hid (O8.out.far6 NOR.out.symm (.int .u8 m2.d) (.int .u8 m2.c) (.int .u8 m2.l) (.int .i64 m2.b) (.int .i64 m2.n) (.int .i64 m2.s))
                obtain ⟨hc, hf⟩ := R8.out.out
                go_upto_region 15 with (fail)
                clear hc hf B8 P8 R8 O8
                generalize (World.setCell (World.setCell (World.setCell (World.setCell (World.setCell (World.setCell w8 ⟨rb, 0, none⟩ (.int .u8 m2.d)) ⟨rb, 1, none⟩ (.int .u8 m2.c)) ⟨rb, 2, none⟩ (.int .u8 m2.l)) ⟨rb, 3, none⟩ (.int .i64 m2.b)) ⟨rb, 4, none⟩ (.int .i64 m2.n)) ⟨rb, 5, none⟩ (.int .i64 m2.s)) = w9 at B9 P9 R9 O9 ⊢
                obtain ⟨hc, hf⟩ := P9.out.out
                obtain ⟨hc1, hf1⟩ := R9.out.out
                go_wp2
                clear hc hf hc1 hf1
                go_roundg (1200 - (s + 1))
                · exact ⟨s + 1, m2, by omega, by omega, by simp, OK2.out, B9.out, P9.out, R9.out, O9.out⟩
                case measure => have := SG.out; omega
              · have et : s = 1200 := by omega
                subst et
                go_wp2
                go_meet
                exact ⟨m1, OK1.out, B5.out, P5.out, R5.out, O5.out⟩
        · by_cases k2 : kk = 2
          · subst k2
            obtain ⟨m2, hm2⟩ : ∃ q_, wrV m nn xx = q_ := ⟨_, rfl⟩
            have WC := Lib.hid (fun W => write_c m m2 nn xx OK.out xb.1 xb.2 hm2 W)
            have RWC := Lib.hid (fun W => rwrite_c m m2 nn xx OK.out xb.1 xb.2 hm2 W)
            have OK2 := Lib.hid (show m2.ok from hm2 ▸ wr_ok OK.out _ _ xb.1 xb.2)
            clear hm2
            obtain ⟨hc, hf⟩ := O4.out.out
            go_upto_region 19 with (fail)
            clear hc hf
            have B5 := Lib.hid B4.out.drew
            have P5 := Lib.hid P4.out.drew
            have R5 := Lib.hid R4.out.drew
            have O5 := Lib.hid O4.out.drew
            clear B4 P4 R4 O4
            refine wp_region_held_drew (S := (fun w' => (∀ o, w'.cell? ⟨ob, o, none⟩ = #[.int .i64 2, .int .i64 nn, .int .u8 xx][o]?))) (by kernel_rfl) (O5.out.2.1) (fun hHeld => ?_)
            generalize World.drew w4 = u5 at hHeld B5 P5 R5 O5 ⊢
            refine wpAnyH_take (i := 1) (oi := { dst := some 60, op := Go.Op.fieldAddr 28 (Go.Operand.tmp 6) 1, type := 0, pos := "law.go:43", after := #[], guard := none }) (v := ?v15) rfl (by kernel_rfl) (by kernel_rfl) (by kernel_rfl) (fun _ _ _ h => h) (Or.inl ⟨by rfl, ?y15⟩) (by assumption) ?z15
            case y15 => (intro w hSw; (try dsimp only at hSw); go_simp) <;> with_reducible rfl
            try simp only [Act.put, List.setIfInBounds_toArray, List.set_cons_zero, List.set_cons_succ]
            refine wpAnyH_take (i := 2) (oi := { dst := some 61, op := Go.Op.load 3 (Go.Operand.tmp 60), type := 3, pos := "law.go:43", after := #[{ on := 1, ground := Go.Ground.data }], guard := none }) (v := ?v16) rfl (by kernel_rfl) (by kernel_rfl) (by kernel_rfl) (fun _ _ _ h => h) (Or.inl ⟨by rfl, ?y16⟩) (by assumption) ?z16
            case y16 => (intro w hSw; (try dsimp only at hSw); go_simp) <;> with_reducible rfl
            try simp only [Act.put, List.setIfInBounds_toArray, List.set_cons_zero, List.set_cons_succ]
            refine wpAnyH_take (i := 3) (oi := { dst := some 62, op := Go.Op.fieldAddr 28 (Go.Operand.tmp 6) 2, type := 0, pos := "law.go:43", after := #[], guard := none }) (v := ?v17) rfl (by kernel_rfl) (by kernel_rfl) (by kernel_rfl) (fun _ _ _ h => h) (Or.inl ⟨by rfl, ?y17⟩) (by assumption) ?z17
            case y17 => (intro w hSw; (try dsimp only at hSw); go_simp) <;> with_reducible rfl
            try simp only [Act.put, List.setIfInBounds_toArray, List.set_cons_zero, List.set_cons_succ]
            refine wpAnyH_take (i := 4) (oi := { dst := some 63, op := Go.Op.load 5 (Go.Operand.tmp 62), type := 5, pos := "law.go:43", after := #[{ on := 3, ground := Go.Ground.data }], guard := none }) (v := ?v18) rfl (by kernel_rfl) (by kernel_rfl) (by kernel_rfl) (fun _ _ _ h => h) (Or.inl ⟨by rfl, ?y18⟩) (by assumption) ?z18
            case y18 => (intro w hSw; (try dsimp only at hSw); go_simp) <;> with_reducible rfl
            try simp only [Act.put, List.setIfInBounds_toArray, List.set_cons_zero, List.set_cons_succ]
            refine wpAnyH_take (i := 7) (oi := { dst := some 66, op := Go.Op.fieldAddr 28 (Go.Operand.tmp 6) 1, type := 0, pos := "law.go:43", after := #[], guard := none }) (v := ?v19) rfl (by kernel_rfl) (by kernel_rfl) (by kernel_rfl) (fun _ _ _ h => h) (Or.inl ⟨by rfl, ?y19⟩) (by assumption) ?z19
            case y19 => (intro w hSw; (try dsimp only at hSw); go_simp) <;> with_reducible rfl
            try simp only [Act.put, List.setIfInBounds_toArray, List.set_cons_zero, List.set_cons_succ]
            refine wpAnyH_take (i := 8) (oi := { dst := some 67, op := Go.Op.load 3 (Go.Operand.tmp 66), type := 3, pos := "law.go:43", after := #[{ on := 7, ground := Go.Ground.data }], guard := none }) (v := ?v20) rfl (by kernel_rfl) (by kernel_rfl) (by kernel_rfl) (fun _ _ _ h => h) (Or.inl ⟨by rfl, ?y20⟩) (by assumption) ?z20
            case y20 => (intro w hSw; (try dsimp only at hSw); go_simp) <;> with_reducible rfl
            try simp only [Act.put, List.setIfInBounds_toArray, List.set_cons_zero, List.set_cons_succ]
            refine wpAnyH_take (i := 9) (oi := { dst := some 68, op := Go.Op.fieldAddr 28 (Go.Operand.tmp 6) 2, type := 0, pos := "law.go:43", after := #[], guard := none }) (v := ?v21) rfl (by kernel_rfl) (by kernel_rfl) (by kernel_rfl) (fun _ _ _ h => h) (Or.inl ⟨by rfl, ?y21⟩) (by assumption) ?z21
            case y21 => (intro w hSw; (try dsimp only at hSw); go_simp) <;> with_reducible rfl
            try simp only [Act.put, List.setIfInBounds_toArray, List.set_cons_zero, List.set_cons_succ]
            refine wpAnyH_take (i := 10) (oi := { dst := some 69, op := Go.Op.load 5 (Go.Operand.tmp 68), type := 5, pos := "law.go:43", after := #[{ on := 9, ground := Go.Ground.data }], guard := none }) (v := ?v22) rfl (by kernel_rfl) (by kernel_rfl) (by kernel_rfl) (fun _ _ _ h => h) (Or.inl ⟨by rfl, ?y22⟩) (by assumption) ?z22
            case y22 => (intro w hSw; (try dsimp only at hSw); go_simp) <;> with_reducible rfl
            try simp only [Act.put, List.setIfInBounds_toArray, List.set_cons_zero, List.set_cons_succ]
            refine wpAnyH_ready (rs := [0, 6]) (by kernel_rfl) (by simp) ?_
            refine (AllReadyH.cons (o := { dst := some 59, op := Go.Op.load 25 (Go.Operand.tmp 3), type := 25, pos := "law.go:43", after := #[], guard := none }) rfl (fun K hK => ?_) (AllReadyH.cons (o := { dst := some 65, op := Go.Op.load 26 (Go.Operand.tmp 4), type := 26, pos := "law.go:43", after := #[], guard := none }) rfl (fun K hK => ?_) AllReadyH.nil))
            · skip
              obtain ⟨hc, hfz⟩ := P5.out.out
              go_simp
              clear hc hfz
              have B6 := B5
              have P6 := P5
              have R6 := R5
              have O6 := O5
              clear B5 P5 R5 O5
              refine hK.out _ _ ?s23 (fun hNew => ?r23)
              case s23 => exact (O6.out.2.1)
              clear hK K hHeld
              have hHeld := hNew
              clear hNew
              refine wpAnyH_ready (rs := [5, 6]) (by kernel_rfl) (by simp) ?_
              refine (AllReadyH.cons (o := { dst := some 64, op := Go.Op.call { callee := Go.Callee.value (Go.Operand.func 11), args := #[Go.Operand.tmp 59, Go.Operand.tmp 61, Go.Operand.tmp 63], argTypes := #[25, 3, 5] }, type := 25, pos := "law.go:43", after := #[{ on := 0, ground := Go.Ground.data }, { on := 2, ground := Go.Ground.data }, { on := 4, ground := Go.Ground.data }], guard := none }) rfl (fun K hK => ?_) (AllReadyH.cons (o := { dst := some 65, op := Go.Op.load 26 (Go.Operand.tmp 4), type := 26, pos := "law.go:43", after := #[], guard := none }) rfl (fun K hK => ?_) AllReadyH.nil))
              · skip
                go_simp
                with_reducible refine (WC.out _).mono ?_
                rintro q_ u7 ⟨rfl, hb⟩
                have B7 := Lib.hid (vian HN.out B6.out hb)
                have P7 := Lib.hid (P6.out.below hb)
                have R7 := Lib.hid (R6.out.below hb)
                have O7 := Lib.hid (O6.out.below hb)
                clear hb
                clear B6 P6 R6 O6
                refine hK.out _ _ ?s24 (fun hNew => ?r24)
                case s24 => exact (O7.out.2.1)
                clear hK K hHeld
                have hHeld := hNew
                clear hNew
                refine wpAnyH_ready (rs := [6]) (by kernel_rfl) (by simp) ?_
                refine (AllReadyH.cons (o := { dst := some 65, op := Go.Op.load 26 (Go.Operand.tmp 4), type := 26, pos := "law.go:43", after := #[], guard := none }) rfl (fun K hK => ?_) AllReadyH.nil)
                · skip
                  obtain ⟨hc, hfz⟩ := R7.out.out
                  go_simp
                  clear hc hfz
                  have B8 := B7
                  have P8 := P7
                  have R8 := R7
                  have O8 := O7
                  clear B7 P7 R7 O7
                  refine hK.out _ _ ?s25 (fun hNew => ?r25)
                  case s25 => exact (O8.out.2.1)
                  clear hK K hHeld
                  have hHeld := hNew
                  clear hNew
                  refine wpAnyH_ready (rs := [11]) (by kernel_rfl) (by simp) ?_
                  refine (AllReadyH.cons (o := { dst := some 70, op := Go.Op.call { callee := Go.Callee.value (Go.Operand.func 12), args := #[Go.Operand.tmp 65, Go.Operand.tmp 67, Go.Operand.tmp 69], argTypes := #[26, 3, 5] }, type := 26, pos := "law.go:43", after := #[{ on := 6, ground := Go.Ground.data }, { on := 8, ground := Go.Ground.data }, { on := 10, ground := Go.Ground.data }, { on := 5, ground := Go.Ground.chain }], guard := none }) rfl (fun K hK => ?_) AllReadyH.nil)
                  · skip
                    go_simp
                    with_reducible refine (RWC.out _).mono ?_
                    rintro q_ u9 ⟨rfl, hb⟩
                    have B9 := Lib.hid (vian HN.out B8.out hb)
                    have P9 := Lib.hid (P8.out.below hb)
                    have R9 := Lib.hid (R8.out.below hb)
                    have O9 := Lib.hid (O8.out.below hb)
                    clear hb
                    clear B8 P8 R8 O8
                    refine hK.out _ _ ?s26 (fun hNew => ?r26)
                    case s26 => exact (O9.out.2.1)
                    clear hK K hHeld
                    have hHeld := hNew
                    clear hNew
                    refine wpAnyH_ready (rs := [12]) (by kernel_rfl) (by simp) ?_
                    refine (AllReadyH.cons (o := { dst := none, op := Go.Op.store 25 (Go.Operand.tmp 3) (Go.Operand.tmp 64), type := 0, pos := "law.go:43", after := #[{ on := 5, ground := Go.Ground.data }, { on := 11, ground := Go.Ground.chain }, { on := 0, ground := Go.Ground.phase }, { on := 1, ground := Go.Ground.phase }, { on := 2, ground := Go.Ground.phase }, { on := 3, ground := Go.Ground.phase }, { on := 4, ground := Go.Ground.phase }, { on := 5, ground := Go.Ground.phase }, { on := 6, ground := Go.Ground.textOnly Go.Departure.lateStores }, { on := 7, ground := Go.Ground.textOnly Go.Departure.lateStores }, { on := 8, ground := Go.Ground.textOnly Go.Departure.lateStores }, { on := 9, ground := Go.Ground.textOnly Go.Departure.lateStores }, { on := 10, ground := Go.Ground.textOnly Go.Departure.lateStores }, { on := 11, ground := Go.Ground.textOnly Go.Departure.lateStoresUnsure }], guard := none }) rfl (fun K hK => ?_) AllReadyH.nil)
                    · skip
                      obtain ⟨hc, hfz⟩ := P9.out.out
                      go_simp
                      clear hc hfz
                      have P10 := Lib.hid (P9.out.put6 (.int .u8 m2.d) (.int .u8 m2.c) (.int .u8 m2.l) (.int .i64 m2.b) (.int .i64 m2.n) (.int .i64 m2.s))
                      have R10 := Lib.hid (R9.out.far6 NE.out.symm (.int .u8 m2.d) (.int .u8 m2.c) (.int .u8 m2.l) (.int .i64 m2.b) (.int .i64 m2.n) (.int .i64 m2.s))
                      have O10 := Lib.hid (O9.out.far6 NOP.out.symm (.int .u8 m2.d) (.int .u8 m2.c) (.int .u8 m2.l) (.int .i64 m2.b) (.int .i64 m2.n) (.int .i64 m2.s))
                      have B10 := Lib.hid (set6 B9.out pb LP.out (.int .u8 m2.d) (.int .u8 m2.c) (.int .u8 m2.l) (.int .i64 m2.b) (.int .i64 m2.n) (.int .i64 m2.s))
                      clear B9 P9 R9 O9
                      refine hK.out _ _ ?s27 (fun hNew => ?r27)
                      case s27 => exact (O10.out.2.1)
                      clear hK K hHeld
                      have hHeld := hNew
                      clear hNew
                      generalize (World.setCell (World.setCell (World.setCell (World.setCell (World.setCell (World.setCell _ ⟨pb, 0, none⟩ _) ⟨pb, 1, none⟩ _) ⟨pb, 2, none⟩ _) ⟨pb, 3, none⟩ _) ⟨pb, 4, none⟩ _) ⟨pb, 5, none⟩ _) = u10 at hHeld B10 P10 R10 O10 ⊢
                      refine wpAnyH_ready (rs := [13]) (by kernel_rfl) (by simp) ?_
                      refine (AllReadyH.cons (o := { dst := none, op := Go.Op.store 26 (Go.Operand.tmp 4) (Go.Operand.tmp 70), type := 0, pos := "law.go:43", after := #[{ on := 11, ground := Go.Ground.data }, { on := 12, ground := Go.Ground.chain }, { on := 0, ground := Go.Ground.phase }, { on := 1, ground := Go.Ground.phase }, { on := 2, ground := Go.Ground.phase }, { on := 3, ground := Go.Ground.phase }, { on := 4, ground := Go.Ground.phase }, { on := 5, ground := Go.Ground.phase }, { on := 6, ground := Go.Ground.phase }, { on := 7, ground := Go.Ground.phase }, { on := 8, ground := Go.Ground.phase }, { on := 9, ground := Go.Ground.phase }, { on := 10, ground := Go.Ground.phase }, { on := 11, ground := Go.Ground.phase }, { on := 12, ground := Go.Ground.phase }], guard := none }) rfl (fun K hK => ?_) AllReadyH.nil)
                      · skip
                        obtain ⟨hc, hfz⟩ := R10.out.out
                        go_simp
                        clear hc hfz
                        have R11 := Lib.hid (R10.out.put6 (.int .u8 m2.d) (.int .u8 m2.c) (.int .u8 m2.l) (.int .i64 m2.b) (.int .i64 m2.n) (.int .i64 m2.s))
                        have P11 := Lib.hid (P10.out.far6 NE.out (.int .u8 m2.d) (.int .u8 m2.c) (.int .u8 m2.l) (.int .i64 m2.b) (.int .i64 m2.n) (.int .i64 m2.s))
                        have O11 := Lib.hid (O10.out.far6 NOR.out.symm (.int .u8 m2.d) (.int .u8 m2.c) (.int .u8 m2.l) (.int .i64 m2.b) (.int .i64 m2.n) (.int .i64 m2.s))
                        have B11 := Lib.hid (set6 B10.out rb LR.out (.int .u8 m2.d) (.int .u8 m2.c) (.int .u8 m2.l) (.int .i64 m2.b) (.int .i64 m2.n) (.int .i64 m2.s))
                        clear B10 P10 R10 O10
                        refine hK.out _ _ ?s28 (fun hNew => ?r28)
                        case s28 => exact (O11.out.2.1)
                        clear hK K hHeld
                        have hHeld := hNew
                        clear hNew
                        generalize (World.setCell (World.setCell (World.setCell (World.setCell (World.setCell (World.setCell _ ⟨rb, 0, none⟩ _) ⟨rb, 1, none⟩ _) ⟨rb, 2, none⟩ _) ⟨rb, 3, none⟩ _) ⟨rb, 4, none⟩ _) ⟨rb, 5, none⟩ _) = u11 at hHeld B11 P11 R11 O11 ⊢
                        refine wpAnyH_done (by kernel_rfl) ?_ _
                        clear hHeld
                        go_wp2
                        go_meet
                        exact ⟨m2, OK2.out, B11.out, P11.out, R11.out, O11.out⟩
              · skip
                obtain ⟨hc, hfz⟩ := R6.out.out
                go_simp
                clear hc hfz
                have B7 := B6
                have P7 := P6
                have R7 := R6
                have O7 := O6
                clear B6 P6 R6 O6
                refine hK.out _ _ ?s29 (fun hNew => ?r29)
                case s29 => exact (O7.out.2.1)
                clear hK K hHeld
                have hHeld := hNew
                clear hNew
                refine wpAnyH_ready (rs := [5]) (by kernel_rfl) (by simp) ?_
                refine (AllReadyH.cons (o := { dst := some 64, op := Go.Op.call { callee := Go.Callee.value (Go.Operand.func 11), args := #[Go.Operand.tmp 59, Go.Operand.tmp 61, Go.Operand.tmp 63], argTypes := #[25, 3, 5] }, type := 25, pos := "law.go:43", after := #[{ on := 0, ground := Go.Ground.data }, { on := 2, ground := Go.Ground.data }, { on := 4, ground := Go.Ground.data }], guard := none }) rfl (fun K hK => ?_) AllReadyH.nil)
                · skip
                  go_simp
                  with_reducible refine (WC.out _).mono ?_
                  rintro q_ u8 ⟨rfl, hb⟩
                  have B8 := Lib.hid (vian HN.out B7.out hb)
                  have P8 := Lib.hid (P7.out.below hb)
                  have R8 := Lib.hid (R7.out.below hb)
                  have O8 := Lib.hid (O7.out.below hb)
                  clear hb
                  clear B7 P7 R7 O7
                  refine hK.out _ _ ?s30 (fun hNew => ?r30)
                  case s30 => exact (O8.out.2.1)
                  clear hK K hHeld
                  have hHeld := hNew
                  clear hNew
                  refine wpAnyH_ready (rs := [11]) (by kernel_rfl) (by simp) ?_
                  refine (AllReadyH.cons (o := { dst := some 70, op := Go.Op.call { callee := Go.Callee.value (Go.Operand.func 12), args := #[Go.Operand.tmp 65, Go.Operand.tmp 67, Go.Operand.tmp 69], argTypes := #[26, 3, 5] }, type := 26, pos := "law.go:43", after := #[{ on := 6, ground := Go.Ground.data }, { on := 8, ground := Go.Ground.data }, { on := 10, ground := Go.Ground.data }, { on := 5, ground := Go.Ground.chain }], guard := none }) rfl (fun K hK => ?_) AllReadyH.nil)
                  · skip
                    go_simp
                    with_reducible refine (RWC.out _).mono ?_
                    rintro q_ u9 ⟨rfl, hb⟩
                    have B9 := Lib.hid (vian HN.out B8.out hb)
                    have P9 := Lib.hid (P8.out.below hb)
                    have R9 := Lib.hid (R8.out.below hb)
                    have O9 := Lib.hid (O8.out.below hb)
                    clear hb
                    clear B8 P8 R8 O8
                    refine hK.out _ _ ?s31 (fun hNew => ?r31)
                    case s31 => exact (O9.out.2.1)
                    clear hK K hHeld
                    have hHeld := hNew
                    clear hNew
                    refine wpAnyH_ready (rs := [12]) (by kernel_rfl) (by simp) ?_
                    refine (AllReadyH.cons (o := { dst := none, op := Go.Op.store 25 (Go.Operand.tmp 3) (Go.Operand.tmp 64), type := 0, pos := "law.go:43", after := #[{ on := 5, ground := Go.Ground.data }, { on := 11, ground := Go.Ground.chain }, { on := 0, ground := Go.Ground.phase }, { on := 1, ground := Go.Ground.phase }, { on := 2, ground := Go.Ground.phase }, { on := 3, ground := Go.Ground.phase }, { on := 4, ground := Go.Ground.phase }, { on := 5, ground := Go.Ground.phase }, { on := 6, ground := Go.Ground.textOnly Go.Departure.lateStores }, { on := 7, ground := Go.Ground.textOnly Go.Departure.lateStores }, { on := 8, ground := Go.Ground.textOnly Go.Departure.lateStores }, { on := 9, ground := Go.Ground.textOnly Go.Departure.lateStores }, { on := 10, ground := Go.Ground.textOnly Go.Departure.lateStores }, { on := 11, ground := Go.Ground.textOnly Go.Departure.lateStoresUnsure }], guard := none }) rfl (fun K hK => ?_) AllReadyH.nil)
                    · skip
                      obtain ⟨hc, hfz⟩ := P9.out.out
                      go_simp
                      clear hc hfz
                      have P10 := Lib.hid (P9.out.put6 (.int .u8 m2.d) (.int .u8 m2.c) (.int .u8 m2.l) (.int .i64 m2.b) (.int .i64 m2.n) (.int .i64 m2.s))
                      have R10 := Lib.hid (R9.out.far6 NE.out.symm (.int .u8 m2.d) (.int .u8 m2.c) (.int .u8 m2.l) (.int .i64 m2.b) (.int .i64 m2.n) (.int .i64 m2.s))
                      have O10 := Lib.hid (O9.out.far6 NOP.out.symm (.int .u8 m2.d) (.int .u8 m2.c) (.int .u8 m2.l) (.int .i64 m2.b) (.int .i64 m2.n) (.int .i64 m2.s))
                      have B10 := Lib.hid (set6 B9.out pb LP.out (.int .u8 m2.d) (.int .u8 m2.c) (.int .u8 m2.l) (.int .i64 m2.b) (.int .i64 m2.n) (.int .i64 m2.s))
                      clear B9 P9 R9 O9
                      refine hK.out _ _ ?s32 (fun hNew => ?r32)
                      case s32 => exact (O10.out.2.1)
                      clear hK K hHeld
                      have hHeld := hNew
                      clear hNew
                      generalize (World.setCell (World.setCell (World.setCell (World.setCell (World.setCell (World.setCell _ ⟨pb, 0, none⟩ _) ⟨pb, 1, none⟩ _) ⟨pb, 2, none⟩ _) ⟨pb, 3, none⟩ _) ⟨pb, 4, none⟩ _) ⟨pb, 5, none⟩ _) = u10 at hHeld B10 P10 R10 O10 ⊢
                      refine wpAnyH_ready (rs := [13]) (by kernel_rfl) (by simp) ?_
                      refine (AllReadyH.cons (o := { dst := none, op := Go.Op.store 26 (Go.Operand.tmp 4) (Go.Operand.tmp 70), type := 0, pos := "law.go:43", after := #[{ on := 11, ground := Go.Ground.data }, { on := 12, ground := Go.Ground.chain }, { on := 0, ground := Go.Ground.phase }, { on := 1, ground := Go.Ground.phase }, { on := 2, ground := Go.Ground.phase }, { on := 3, ground := Go.Ground.phase }, { on := 4, ground := Go.Ground.phase }, { on := 5, ground := Go.Ground.phase }, { on := 6, ground := Go.Ground.phase }, { on := 7, ground := Go.Ground.phase }, { on := 8, ground := Go.Ground.phase }, { on := 9, ground := Go.Ground.phase }, { on := 10, ground := Go.Ground.phase }, { on := 11, ground := Go.Ground.phase }, { on := 12, ground := Go.Ground.phase }], guard := none }) rfl (fun K hK => ?_) AllReadyH.nil)
                      · skip
                        obtain ⟨hc, hfz⟩ := R10.out.out
                        go_simp
                        clear hc hfz
                        have R11 := Lib.hid (R10.out.put6 (.int .u8 m2.d) (.int .u8 m2.c) (.int .u8 m2.l) (.int .i64 m2.b) (.int .i64 m2.n) (.int .i64 m2.s))
                        have P11 := Lib.hid (P10.out.far6 NE.out (.int .u8 m2.d) (.int .u8 m2.c) (.int .u8 m2.l) (.int .i64 m2.b) (.int .i64 m2.n) (.int .i64 m2.s))
                        have O11 := Lib.hid (O10.out.far6 NOR.out.symm (.int .u8 m2.d) (.int .u8 m2.c) (.int .u8 m2.l) (.int .i64 m2.b) (.int .i64 m2.n) (.int .i64 m2.s))
                        have B11 := Lib.hid (set6 B10.out rb LR.out (.int .u8 m2.d) (.int .u8 m2.c) (.int .u8 m2.l) (.int .i64 m2.b) (.int .i64 m2.n) (.int .i64 m2.s))
                        clear B10 P10 R10 O10
                        refine hK.out _ _ ?s33 (fun hNew => ?r33)
                        case s33 => exact (O11.out.2.1)
                        clear hK K hHeld
                        have hHeld := hNew
                        clear hNew
                        generalize (World.setCell (World.setCell (World.setCell (World.setCell (World.setCell (World.setCell _ ⟨rb, 0, none⟩ _) ⟨rb, 1, none⟩ _) ⟨rb, 2, none⟩ _) ⟨rb, 3, none⟩ _) ⟨rb, 4, none⟩ _) ⟨rb, 5, none⟩ _) = u11 at hHeld B11 P11 R11 O11 ⊢
                        refine wpAnyH_done (by kernel_rfl) ?_ _
                        clear hHeld
                        go_wp2
                        go_meet
                        exact ⟨m2, OK2.out, B11.out, P11.out, R11.out, O11.out⟩
            · skip
              obtain ⟨hc, hfz⟩ := R5.out.out
              go_simp
              clear hc hfz
              have B6 := B5
              have P6 := P5
              have R6 := R5
              have O6 := O5
              clear B5 P5 R5 O5
              refine hK.out _ _ ?s34 (fun hNew => ?r34)
              case s34 => exact (O6.out.2.1)
              clear hK K hHeld
              have hHeld := hNew
              clear hNew
              refine wpAnyH_ready (rs := [0]) (by kernel_rfl) (by simp) ?_
              refine (AllReadyH.cons (o := { dst := some 59, op := Go.Op.load 25 (Go.Operand.tmp 3), type := 25, pos := "law.go:43", after := #[], guard := none }) rfl (fun K hK => ?_) AllReadyH.nil)
              · skip
                obtain ⟨hc, hfz⟩ := P6.out.out
                go_simp
                clear hc hfz
                have B7 := B6
                have P7 := P6
                have R7 := R6
                have O7 := O6
                clear B6 P6 R6 O6
                refine hK.out _ _ ?s35 (fun hNew => ?r35)
                case s35 => exact (O7.out.2.1)
                clear hK K hHeld
                have hHeld := hNew
                clear hNew
                refine wpAnyH_ready (rs := [5]) (by kernel_rfl) (by simp) ?_
                refine (AllReadyH.cons (o := { dst := some 64, op := Go.Op.call { callee := Go.Callee.value (Go.Operand.func 11), args := #[Go.Operand.tmp 59, Go.Operand.tmp 61, Go.Operand.tmp 63], argTypes := #[25, 3, 5] }, type := 25, pos := "law.go:43", after := #[{ on := 0, ground := Go.Ground.data }, { on := 2, ground := Go.Ground.data }, { on := 4, ground := Go.Ground.data }], guard := none }) rfl (fun K hK => ?_) AllReadyH.nil)
                · skip
                  go_simp
                  with_reducible refine (WC.out _).mono ?_
                  rintro q_ u8 ⟨rfl, hb⟩
                  have B8 := Lib.hid (vian HN.out B7.out hb)
                  have P8 := Lib.hid (P7.out.below hb)
                  have R8 := Lib.hid (R7.out.below hb)
                  have O8 := Lib.hid (O7.out.below hb)
                  clear hb
                  clear B7 P7 R7 O7
                  refine hK.out _ _ ?s36 (fun hNew => ?r36)
                  case s36 => exact (O8.out.2.1)
                  clear hK K hHeld
                  have hHeld := hNew
                  clear hNew
                  refine wpAnyH_ready (rs := [11]) (by kernel_rfl) (by simp) ?_
                  refine (AllReadyH.cons (o := { dst := some 70, op := Go.Op.call { callee := Go.Callee.value (Go.Operand.func 12), args := #[Go.Operand.tmp 65, Go.Operand.tmp 67, Go.Operand.tmp 69], argTypes := #[26, 3, 5] }, type := 26, pos := "law.go:43", after := #[{ on := 6, ground := Go.Ground.data }, { on := 8, ground := Go.Ground.data }, { on := 10, ground := Go.Ground.data }, { on := 5, ground := Go.Ground.chain }], guard := none }) rfl (fun K hK => ?_) AllReadyH.nil)
                  · skip
                    go_simp
                    with_reducible refine (RWC.out _).mono ?_
                    rintro q_ u9 ⟨rfl, hb⟩
                    have B9 := Lib.hid (vian HN.out B8.out hb)
                    have P9 := Lib.hid (P8.out.below hb)
                    have R9 := Lib.hid (R8.out.below hb)
                    have O9 := Lib.hid (O8.out.below hb)
                    clear hb
                    clear B8 P8 R8 O8
                    refine hK.out _ _ ?s37 (fun hNew => ?r37)
                    case s37 => exact (O9.out.2.1)
                    clear hK K hHeld
                    have hHeld := hNew
                    clear hNew
                    refine wpAnyH_ready (rs := [12]) (by kernel_rfl) (by simp) ?_
                    refine (AllReadyH.cons (o := { dst := none, op := Go.Op.store 25 (Go.Operand.tmp 3) (Go.Operand.tmp 64), type := 0, pos := "law.go:43", after := #[{ on := 5, ground := Go.Ground.data }, { on := 11, ground := Go.Ground.chain }, { on := 0, ground := Go.Ground.phase }, { on := 1, ground := Go.Ground.phase }, { on := 2, ground := Go.Ground.phase }, { on := 3, ground := Go.Ground.phase }, { on := 4, ground := Go.Ground.phase }, { on := 5, ground := Go.Ground.phase }, { on := 6, ground := Go.Ground.textOnly Go.Departure.lateStores }, { on := 7, ground := Go.Ground.textOnly Go.Departure.lateStores }, { on := 8, ground := Go.Ground.textOnly Go.Departure.lateStores }, { on := 9, ground := Go.Ground.textOnly Go.Departure.lateStores }, { on := 10, ground := Go.Ground.textOnly Go.Departure.lateStores }, { on := 11, ground := Go.Ground.textOnly Go.Departure.lateStoresUnsure }], guard := none }) rfl (fun K hK => ?_) AllReadyH.nil)
                    · skip
                      obtain ⟨hc, hfz⟩ := P9.out.out
                      go_simp
                      clear hc hfz
                      have P10 := Lib.hid (P9.out.put6 (.int .u8 m2.d) (.int .u8 m2.c) (.int .u8 m2.l) (.int .i64 m2.b) (.int .i64 m2.n) (.int .i64 m2.s))
                      have R10 := Lib.hid (R9.out.far6 NE.out.symm (.int .u8 m2.d) (.int .u8 m2.c) (.int .u8 m2.l) (.int .i64 m2.b) (.int .i64 m2.n) (.int .i64 m2.s))
                      have O10 := Lib.hid (O9.out.far6 NOP.out.symm (.int .u8 m2.d) (.int .u8 m2.c) (.int .u8 m2.l) (.int .i64 m2.b) (.int .i64 m2.n) (.int .i64 m2.s))
                      have B10 := Lib.hid (set6 B9.out pb LP.out (.int .u8 m2.d) (.int .u8 m2.c) (.int .u8 m2.l) (.int .i64 m2.b) (.int .i64 m2.n) (.int .i64 m2.s))
                      clear B9 P9 R9 O9
                      refine hK.out _ _ ?s38 (fun hNew => ?r38)
                      case s38 => exact (O10.out.2.1)
                      clear hK K hHeld
                      have hHeld := hNew
                      clear hNew
                      generalize (World.setCell (World.setCell (World.setCell (World.setCell (World.setCell (World.setCell _ ⟨pb, 0, none⟩ _) ⟨pb, 1, none⟩ _) ⟨pb, 2, none⟩ _) ⟨pb, 3, none⟩ _) ⟨pb, 4, none⟩ _) ⟨pb, 5, none⟩ _) = u10 at hHeld B10 P10 R10 O10 ⊢
                      refine wpAnyH_ready (rs := [13]) (by kernel_rfl) (by simp) ?_
                      refine (AllReadyH.cons (o := { dst := none, op := Go.Op.store 26 (Go.Operand.tmp 4) (Go.Operand.tmp 70), type := 0, pos := "law.go:43", after := #[{ on := 11, ground := Go.Ground.data }, { on := 12, ground := Go.Ground.chain }, { on := 0, ground := Go.Ground.phase }, { on := 1, ground := Go.Ground.phase }, { on := 2, ground := Go.Ground.phase }, { on := 3, ground := Go.Ground.phase }, { on := 4, ground := Go.Ground.phase }, { on := 5, ground := Go.Ground.phase }, { on := 6, ground := Go.Ground.phase }, { on := 7, ground := Go.Ground.phase }, { on := 8, ground := Go.Ground.phase }, { on := 9, ground := Go.Ground.phase }, { on := 10, ground := Go.Ground.phase }, { on := 11, ground := Go.Ground.phase }, { on := 12, ground := Go.Ground.phase }], guard := none }) rfl (fun K hK => ?_) AllReadyH.nil)
                      · skip
                        obtain ⟨hc, hfz⟩ := R10.out.out
                        go_simp
                        clear hc hfz
                        have R11 := Lib.hid (R10.out.put6 (.int .u8 m2.d) (.int .u8 m2.c) (.int .u8 m2.l) (.int .i64 m2.b) (.int .i64 m2.n) (.int .i64 m2.s))
                        have P11 := Lib.hid (P10.out.far6 NE.out (.int .u8 m2.d) (.int .u8 m2.c) (.int .u8 m2.l) (.int .i64 m2.b) (.int .i64 m2.n) (.int .i64 m2.s))
                        have O11 := Lib.hid (O10.out.far6 NOR.out.symm (.int .u8 m2.d) (.int .u8 m2.c) (.int .u8 m2.l) (.int .i64 m2.b) (.int .i64 m2.n) (.int .i64 m2.s))
                        have B11 := Lib.hid (set6 B10.out rb LR.out (.int .u8 m2.d) (.int .u8 m2.c) (.int .u8 m2.l) (.int .i64 m2.b) (.int .i64 m2.n) (.int .i64 m2.s))
                        clear B10 P10 R10 O10
                        refine hK.out _ _ ?s39 (fun hNew => ?r39)
                        case s39 => exact (O11.out.2.1)
                        clear hK K hHeld
                        have hHeld := hNew
                        clear hNew
                        generalize (World.setCell (World.setCell (World.setCell (World.setCell (World.setCell (World.setCell _ ⟨rb, 0, none⟩ _) ⟨rb, 1, none⟩ _) ⟨rb, 2, none⟩ _) ⟨rb, 3, none⟩ _) ⟨rb, 4, none⟩ _) ⟨rb, 5, none⟩ _) = u11 at hHeld B11 P11 R11 O11 ⊢
                        refine wpAnyH_done (by kernel_rfl) ?_ _
                        clear hHeld
                        go_wp2
                        go_meet
                        exact ⟨m2, OK2.out, B11.out, P11.out, R11.out, O11.out⟩
          · obtain ⟨hc, hf⟩ := O4.out.out
            go_wp2
            go_meet
            exact ⟨m, OK.out, B4.out, P4.out, R4.out, O4.out⟩
      case rest =>
        obtain ⟨m', hok', hB, hP, hR, hO⟩ := hcut
        have OK' := Lib.hid hok'
        have B5 := Lib.hid hB.drew
        have P5 := Lib.hid hP.drew
        have R5 := Lib.hid hR.drew
        have O5 := Lib.hid hO.drew
        clear hok' hB hP hR hO B4 P4 R4 O4 OK
        obtain ⟨y, hy⟩ : ∃ q_, readV m' nn = q_ := ⟨_, rfl⟩
        have RD := Lib.hid (fun W => read_c m' nn y OK'.out hy W)
        have RRD := Lib.hid (fun W => rread_c m' nn y OK'.out hy W)
        clear hy
        go_upto_region 20 with (fail)
        refine wp_region_held_drew (S := (fun w' => (∀ o, w'.cell? ⟨pb, o, none⟩ = #[.int .u8 m'.d, .int .u8 m'.c, .int .u8 m'.l, .int .i64 m'.b, .int .i64 m'.n, .int .i64 m'.s][o]?) ∧ (∀ o, w'.cell? ⟨rb, o, none⟩ = #[.int .u8 m'.d, .int .u8 m'.c, .int .u8 m'.l, .int .i64 m'.b, .int .i64 m'.n, .int .i64 m'.s][o]?) ∧ (∀ o, w'.cell? ⟨ob, o, none⟩ = #[.int .i64 kk, .int .i64 nn, .int .u8 xx][o]?))) (by kernel_rfl) ⟨P5.out.2.1, R5.out.2.1, O5.out.2.1⟩ (fun hHeld => ?_)
        generalize World.drew wc = u5 at hHeld B5 P5 R5 O5 ⊢
        refine wpAnyH_take (i := 0) (oi := { dst := some 71, op := Go.Op.load 25 (Go.Operand.tmp 3), type := 25, pos := "law.go:45", after := #[], guard := none }) (v := ?v1) rfl (by kernel_rfl) (by kernel_rfl) (by kernel_rfl) (fun _ _ _ h => h) (Or.inl ⟨by rfl, ?y1⟩) (by assumption) ?z1
        case y1 => (intro w hSw; (try dsimp only at hSw); go_simp) <;> with_reducible rfl
        try simp only [Act.put, List.setIfInBounds_toArray, List.set_cons_zero, List.set_cons_succ]
        refine wpAnyH_take (i := 1) (oi := { dst := some 72, op := Go.Op.load 26 (Go.Operand.tmp 4), type := 26, pos := "law.go:45", after := #[], guard := none }) (v := ?v2) rfl (by kernel_rfl) (by kernel_rfl) (by kernel_rfl) (fun _ _ _ h => h) (Or.inl ⟨by rfl, ?y2⟩) (by assumption) ?z2
        case y2 => (intro w hSw; (try dsimp only at hSw); go_simp) <;> with_reducible rfl
        try simp only [Act.put, List.setIfInBounds_toArray, List.set_cons_zero, List.set_cons_succ]
        refine wpAnyH_take (i := 2) (oi := { dst := some 73, op := Go.Op.binOp Go.BinOp.neq 26 (Go.Operand.tmp 71) (Go.Operand.tmp 72) 26, type := 4, pos := "law.go:45", after := #[{ on := 0, ground := Go.Ground.data }, { on := 1, ground := Go.Ground.data }], guard := none }) (v := ?v3) rfl (by kernel_rfl) (by kernel_rfl) (by kernel_rfl) (fun _ _ _ h => h) (Or.inl ⟨by rfl, ?y3⟩) (by assumption) ?z3
        case y3 => (intro w hSw; (try dsimp only at hSw); go_simp) <;> with_reducible rfl
        try simp only [Act.put, List.setIfInBounds_toArray, List.set_cons_zero, List.set_cons_succ]
        refine wpAnyH_take (i := 3) (oi := { dst := some 74, op := Go.Op.move (Go.Operand.tmp 73), type := 4, pos := "law.go:45", after := #[{ on := 2, ground := Go.Ground.data }], guard := none }) (v := ?v4) rfl (by kernel_rfl) (by kernel_rfl) (by kernel_rfl) (fun _ _ _ h => h) (Or.inl ⟨by rfl, ?y4⟩) (by assumption) ?z4
        case y4 => (intro w hSw; (try dsimp only at hSw); go_simp) <;> with_reducible rfl
        try simp only [Act.put, List.setIfInBounds_toArray, List.set_cons_zero, List.set_cons_succ]
        refine wpAnyH_take (i := 4) (oi := { dst := some 75, op := Go.Op.load 25 (Go.Operand.tmp 3), type := 25, pos := "law.go:45", after := #[{ on := 3, ground := Go.Ground.guard }], guard := some (3, false) }) (v := ?v5) rfl (by kernel_rfl) (by kernel_rfl) (by kernel_rfl) (fun _ _ _ h => h) (Or.inl ⟨by rfl, ?y5⟩) (by assumption) ?z5
        case y5 => (intro w hSw; (try dsimp only at hSw); go_simp) <;> with_reducible rfl
        try simp only [Act.put, List.setIfInBounds_toArray, List.set_cons_zero, List.set_cons_succ]
        refine wpAnyH_take (i := 5) (oi := { dst := some 76, op := Go.Op.fieldAddr 28 (Go.Operand.tmp 6) 1, type := 0, pos := "law.go:45", after := #[{ on := 3, ground := Go.Ground.guard }], guard := some (3, false) }) (v := ?v6) rfl (by kernel_rfl) (by kernel_rfl) (by kernel_rfl) (fun _ _ _ h => h) (Or.inl ⟨by rfl, ?y6⟩) (by assumption) ?z6
        case y6 => (intro w hSw; (try dsimp only at hSw); go_simp) <;> with_reducible rfl
        try simp only [Act.put, List.setIfInBounds_toArray, List.set_cons_zero, List.set_cons_succ]
        refine wpAnyH_take (i := 6) (oi := { dst := some 77, op := Go.Op.load 3 (Go.Operand.tmp 76), type := 3, pos := "law.go:45", after := #[{ on := 5, ground := Go.Ground.data }, { on := 3, ground := Go.Ground.guard }], guard := some (3, false) }) (v := ?v7) rfl (by kernel_rfl) (by kernel_rfl) (by kernel_rfl) (fun _ _ _ h => h) (Or.inl ⟨by rfl, ?y7⟩) (by assumption) ?z7
        case y7 => (intro w hSw; (try dsimp only at hSw); go_simp) <;> with_reducible rfl
        try simp only [Act.put, List.setIfInBounds_toArray, List.set_cons_zero, List.set_cons_succ]
        refine wpAnyH_take (i := 8) (oi := { dst := some 79, op := Go.Op.load 26 (Go.Operand.tmp 4), type := 26, pos := "law.go:45", after := #[{ on := 3, ground := Go.Ground.guard }], guard := some (3, false) }) (v := ?v8) rfl (by kernel_rfl) (by kernel_rfl) (by kernel_rfl) (fun _ _ _ h => h) (Or.inl ⟨by rfl, ?y8⟩) (by assumption) ?z8
        case y8 => (intro w hSw; (try dsimp only at hSw); go_simp) <;> with_reducible rfl
        try simp only [Act.put, List.setIfInBounds_toArray, List.set_cons_zero, List.set_cons_succ]
        refine wpAnyH_take (i := 9) (oi := { dst := some 80, op := Go.Op.fieldAddr 28 (Go.Operand.tmp 6) 1, type := 0, pos := "law.go:45", after := #[{ on := 3, ground := Go.Ground.guard }], guard := some (3, false) }) (v := ?v9) rfl (by kernel_rfl) (by kernel_rfl) (by kernel_rfl) (fun _ _ _ h => h) (Or.inl ⟨by rfl, ?y9⟩) (by assumption) ?z9
        case y9 => (intro w hSw; (try dsimp only at hSw); go_simp) <;> with_reducible rfl
        try simp only [Act.put, List.setIfInBounds_toArray, List.set_cons_zero, List.set_cons_succ]
        refine wpAnyH_take (i := 10) (oi := { dst := some 81, op := Go.Op.load 3 (Go.Operand.tmp 80), type := 3, pos := "law.go:45", after := #[{ on := 9, ground := Go.Ground.data }, { on := 3, ground := Go.Ground.guard }], guard := some (3, false) }) (v := ?v10) rfl (by kernel_rfl) (by kernel_rfl) (by kernel_rfl) (fun _ _ _ h => h) (Or.inl ⟨by rfl, ?y10⟩) (by assumption) ?z10
        case y10 => (intro w hSw; (try dsimp only at hSw); go_simp) <;> with_reducible rfl
        try simp only [Act.put, List.setIfInBounds_toArray, List.set_cons_zero, List.set_cons_succ]
        refine wpAnyH_ready (rs := [7]) (by kernel_rfl) (by simp) ?_
        refine (AllReadyH.cons (o := { dst := some 78, op := Go.Op.call { callee := Go.Callee.value (Go.Operand.func 13), args := #[Go.Operand.tmp 75, Go.Operand.tmp 77], argTypes := #[25, 3] }, type := 5, pos := "law.go:45", after := #[{ on := 4, ground := Go.Ground.data }, { on := 6, ground := Go.Ground.data }, { on := 3, ground := Go.Ground.chain }, { on := 3, ground := Go.Ground.guard }], guard := some (3, false) }) rfl (fun K hK => ?_) AllReadyH.nil)
        · skip
          go_simp
          with_reducible refine (RD.out _).mono ?_
          rintro q_ u6 ⟨rfl, hb⟩
          have B6 := Lib.hid (vian HN.out B5.out hb)
          have P6 := Lib.hid (P5.out.below hb)
          have R6 := Lib.hid (R5.out.below hb)
          have O6 := Lib.hid (O5.out.below hb)
          clear hb
          clear B5 P5 R5 O5
          refine hK.out _ _ ?s11 (fun hNew => ?r11)
          case s11 => exact ⟨P6.out.2.1, R6.out.2.1, O6.out.2.1⟩
          clear hK K hHeld
          have hHeld := hNew
          clear hNew
          refine wpAnyH_ready (rs := [11]) (by kernel_rfl) (by simp) ?_
          refine (AllReadyH.cons (o := { dst := some 82, op := Go.Op.call { callee := Go.Callee.value (Go.Operand.func 14), args := #[Go.Operand.tmp 79, Go.Operand.tmp 81], argTypes := #[26, 3] }, type := 5, pos := "law.go:45", after := #[{ on := 8, ground := Go.Ground.data }, { on := 10, ground := Go.Ground.data }, { on := 7, ground := Go.Ground.chain }, { on := 3, ground := Go.Ground.guard }], guard := some (3, false) }) rfl (fun K hK => ?_) AllReadyH.nil)
          · skip
            go_simp
            with_reducible refine (RRD.out _).mono ?_
            rintro q_ u7 ⟨rfl, hb⟩
            have B7 := Lib.hid (vian HN.out B6.out hb)
            have P7 := Lib.hid (P6.out.below hb)
            have R7 := Lib.hid (R6.out.below hb)
            have O7 := Lib.hid (O6.out.below hb)
            clear hb
            clear B6 P6 R6 O6
            refine hK.out _ _ ?s12 (fun hNew => ?r12)
            case s12 => exact ⟨P7.out.2.1, R7.out.2.1, O7.out.2.1⟩
            clear hK K hHeld
            have hHeld := hNew
            clear hNew
            refine wpAnyH_take (i := 12) (oi := { dst := some 83, op := Go.Op.binOp Go.BinOp.neq 5 (Go.Operand.tmp 78) (Go.Operand.tmp 82) 5, type := 4, pos := "law.go:45", after := #[{ on := 7, ground := Go.Ground.data }, { on := 11, ground := Go.Ground.data }, { on := 3, ground := Go.Ground.guard }], guard := some (3, false) }) (v := ?v13) rfl (by kernel_rfl) (by kernel_rfl) (by kernel_rfl) (fun _ _ _ h => h) (Or.inl ⟨by rfl, ?y13⟩) (by assumption) ?z13
            case y13 => (intro w hSw; (try dsimp only at hSw); go_simp) <;> with_reducible rfl
            try simp only [Act.put, List.setIfInBounds_toArray, List.set_cons_zero, List.set_cons_succ]
            refine wpAnyH_take (i := 13) (oi := { dst := some 84, op := Go.Op.pick (Go.Operand.tmp 74) (Go.Operand.const (Go.Value.bool true)) (Go.Operand.tmp 83), type := 4, pos := "law.go:45", after := #[{ on := 3, ground := Go.Ground.data }, { on := 12, ground := Go.Ground.data }], guard := none }) (v := ?v14) rfl (by kernel_rfl) (by kernel_rfl) (by kernel_rfl) (fun _ _ _ h => h) (Or.inl ⟨by rfl, ?y14⟩) (by assumption) ?z14
            case y14 => (intro w hSw; (try dsimp only at hSw); go_simp) <;> with_reducible rfl
            try simp only [Act.put, List.setIfInBounds_toArray, List.set_cons_zero, List.set_cons_succ]
            refine wpAnyH_done (by kernel_rfl) ?_ _
            clear hHeld
            go_wp2
            go_roundg (gk - 1)
            · exact ⟨t + 1, m', by omega, by have := TG.out; omega, by simp, OK'.out, B7.out, P7.out, R7.out⟩
            case measure => have := TG.out; omega
    · have et : t = n := by omega
      subst et
      go_wp2
      go_ret
      exact ⟨rfl, B3.out⟩
theorem plays_walk (v : Value) (w : World) (h : OpsIn w v) : Calls Try.prog 3 #[v] w fun q_ w' => q_ = .returned (.bool true) ∧ Below w.heap.size w w' := by
  obtain ⟨a, n, c, rfl, hm, f, g, h, hh, hi⟩ := h
  by_cases h0 : 40 < n
  · exact plays_long a n c h0 w
  · exact plays_some f g h hh a n c h0 w hi
end Go.Proofs.Ytlgdfikmdlhobaa
