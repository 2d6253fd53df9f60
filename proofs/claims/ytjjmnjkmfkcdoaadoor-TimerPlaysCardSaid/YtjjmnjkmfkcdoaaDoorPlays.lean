/-
  The walk through TimerPlays: for every timer and every world in which the calls lie as told; no condition but that the table lies as it is laid.
-/
import Derived.Test.YtjjmnjkmfkcdoaaDoorOpn
import Derived.Test.YtjjmnjkmfkcdoaaDoorAwk
import Derived.Deep.Cut
import Derived.Deep.DeepCutAuto
import Derived.Deep.CutBlock
import Derived.Deep.LoopGhost
import Derived.LoopN
import Derived.Laws.StructEq
import Derived.Laws.Tables
namespace Go.Proofs.YtjjmnjkmfkcdoaaDoor
open Go.ChangeShapes Go.WideShapes Go.ChangeAt Go.RowKit
set_option linter.unusedVariables false
set_option linter.unusedSimpArgs false
set_option maxRecDepth 100000
set_option maxHeartbeats 8000000 in
theorem plays_long (c a_ m k kk : Int) (o : Bool) (hv : TV.ok ⟨c, a_, m, k, o⟩) (hkk : k % 8 = kk) (a : Option Addr) (n cp : Nat) (h0 : 60 < n)  (w : World) (hglob : Glob w) : Calls Tryd.prog 3 #[.agg #[.int .u16 c, .int .u8 a_, .int .u8 m, .int .u8 k, .bool o], .slice a n cp] w fun q_ w' => q_ = .returned (.bool true) ∧ Below w.heap.size w w' := by
  suffices hall : ∀ (n_ : Nat) (W0 : World), n_ ≤ W0.heap.size → Below n_ W0 w → Tab n_ W0 → Calls Tryd.prog 3 #[.agg #[.int .u16 c, .int .u8 a_, .int .u8 m, .int .u8 k, .bool o], .slice a n cp] w fun q_ w' => q_ = .returned (.bool true) ∧ Below n_ W0 w' from hall _ _ (Nat.le_refl _) (Below.refl _ _) ⟨hglob.1, hglob⟩
  intro n_ W0 hn hB hT
  have HN := Lib.hid hn
  have BB := Lib.hid hB
  have TT := Lib.hid hT
  have AW := Lib.hid awake_c
  have VOK := Lib.hid hv
  have k0 : 0 ≤ k := hv.2.2.2.1
  have k1 : k < 256 := hv.2.2.2.2
  clear hn hB hT hglob hv
  have hnot : ∀ (x : Bool) (w : World), (Op.unary .not (.bool x)).run Tryd.prog w = .ok (.bool (!x)) w := fun _ _ => rfl
  have h0I : (60 : Int) < n := by omega
  go_enter Tryd.func3, Tryd.ntmps3
  have B0 := Lib.hid (vian HN.out BB.out (own1 w (.cells #[.int .u16 c, .int .u8 a_, .int .u8 m, .int .u8 k, .bool o] 24)))
  have V0 := Lib.hid (Has.new w #[.int .u16 c, .int .u8 a_, .int .u8 m, .int .u8 k, .bool o] 24)
  have LV := Lib.hid (Nat.le_trans HN.out BB.out.size)
  go_upto_region 1 with (fail)
  generalize w.alloc (.cells #[.int .u16 c, .int .u8 a_, .int .u8 m, .int .u8 k, .bool o] 24) = w0 at B0 V0 ⊢
  generalize w.heap.size = vb at V0 LV ⊢
  go_wp2_with fail
  with_reducible refine (AW.out _ (TT.out.next B0.out).g).mono ?_
  rintro q_ w1 ⟨rfl, hb⟩
  have B1 := Lib.hid (vian HN.out B0.out hb)
  have V1 := Lib.hid (V0.out.below hb)
  clear hb B0 V0
  go_wp2_with fail
  with_reducible refine (AW.out _ (TT.out.next B1.out).g).mono ?_
  rintro q_ w2 ⟨rfl, hb⟩
  have B2 := Lib.hid (vian HN.out B1.out hb)
  clear hb
  go_wp2
  go_ret
  exact ⟨rfl, B2.out⟩
set_option maxHeartbeats 8000000 in
theorem plays_some (c a_ m k kk : Int) (o : Bool) (hv : TV.ok ⟨c, a_, m, k, o⟩) (hkk : k % 8 = kk) (a : Option Addr) (n cp : Nat) (h0 : ¬ 60 < n) (f g h : Nat → Int) (hh : ∀ i, 0 ≤ h i ∧ h i < 256) (w : World) (hglob : Glob w) (hmem : (0 < n → ∃ qb qo, a = some ⟨qb, qo, none⟩ ∧ qb < w.heap.size ∧ ∀ j, j < n → w.cell? ⟨qb, qo + j * 3, none⟩ = some (.int .i64 (f j)) ∧ w.cell? ⟨qb, qo + j * 3 + 1, none⟩ = some (.int .i64 (g j)) ∧ w.cell? ⟨qb, qo + j * 3 + 2, none⟩ = some (.int .u8 (h j)))) : Calls Tryd.prog 3 #[.agg #[.int .u16 c, .int .u8 a_, .int .u8 m, .int .u8 k, .bool o], .slice a n cp] w fun q_ w' => q_ = .returned (.bool true) ∧ Below w.heap.size w w' := by
  suffices hall : ∀ (n_ : Nat) (W0 : World), n_ ≤ W0.heap.size → Below n_ W0 w → Tab n_ W0 → (0 < n → ∃ qb qo, a = some ⟨qb, qo, none⟩ ∧ qb < n_ ∧ ∀ j, j < n → W0.cell? ⟨qb, qo + j * 3, none⟩ = some (.int .i64 (f j)) ∧ W0.cell? ⟨qb, qo + j * 3 + 1, none⟩ = some (.int .i64 (g j)) ∧ W0.cell? ⟨qb, qo + j * 3 + 2, none⟩ = some (.int .u8 (h j))) → Calls Tryd.prog 3 #[.agg #[.int .u16 c, .int .u8 a_, .int .u8 m, .int .u8 k, .bool o], .slice a n cp] w fun q_ w' => q_ = .returned (.bool true) ∧ Below n_ W0 w' from hall _ _ (Nat.le_refl _) (Below.refl _ _) ⟨hglob.1, hglob⟩ hmem
  intro n_ W0 hn hB hT hI
  have HN := Lib.hid hn
  have BB := Lib.hid hB
  have TT := Lib.hid hT
  have AW := Lib.hid awake_c
  have VOK := Lib.hid hv
  have k0 : 0 ≤ k := hv.2.2.2.1
  have k1 : k < 256 := hv.2.2.2.2
  have HIN := Lib.hid hI
  have HH := Lib.hid hh
  clear hn hB hT hglob hv hI hmem hh
  have hnot : ∀ (x : Bool) (w : World), (Op.unary .not (.bool x)).run Tryd.prog w = .ok (.bool (!x)) w := fun _ _ => rfl
  have h0I : ¬ (60 : Int) < n := by omega
  have kk0 : 0 ≤ kk := by omega
  have kk1 : kk < 256 := by omega
  go_enter Tryd.func3, Tryd.ntmps3
  have B0 := Lib.hid (vian HN.out BB.out (own1 w (.cells #[.int .u16 c, .int .u8 a_, .int .u8 m, .int .u8 k, .bool o] 24)))
  have V0 := Lib.hid (Has.new w #[.int .u16 c, .int .u8 a_, .int .u8 m, .int .u8 k, .bool o] 24)
  have LV := Lib.hid (Nat.le_trans HN.out BB.out.size)
  go_upto_region 1 with (fail)
  generalize w.alloc (.cells #[.int .u16 c, .int .u8 a_, .int .u8 m, .int .u8 k, .bool o] 24) = w0 at B0 V0 ⊢
  generalize w.heap.size = vb at V0 LV ⊢
  go_wp2_with fail
  with_reducible refine (AW.out _ (TT.out.next B0.out).g).mono ?_
  rintro q_ w1 ⟨rfl, hb⟩
  have B1 := Lib.hid (vian HN.out B0.out hb)
  have V1 := Lib.hid (V0.out.below hb)
  clear hb B0 V0
  have V2 := Lib.hid (show Has (w1.setCell ⟨vb, 3, none⟩ (.int .u8 kk)) vb #[.int .u16 c, .int .u8 a_, .int .u8 m, .int .u8 kk, .bool o] by simpa using V1.out.set 3 (.int .u8 kk) (by simp))
  have B2 := Lib.hid (store1 B1.out LV.out 3 (.int .u8 kk))
  obtain ⟨hc, hf⟩ := V1.out.out
  go_upto_region 4 with (fail)
  clear hc hf
  generalize w1.setCell ⟨vb, 3, none⟩ (.int .u8 kk) = w2 at V2 B2 ⊢
  clear V1 B1
  have T3 := Lib.hid (Has.new w2 #[.int .u16 c, .int .u8 a_, .int .u8 m, .int .u8 kk, .bool o] 27)
  have V3 := Lib.hid (V2.out.alloc (.cells #[.int .u16 c, .int .u8 a_, .int .u8 m, .int .u8 kk, .bool o] 27))
  have B3 := Lib.hid (vian HN.out B2.out (own1 w2 (.cells #[.int .u16 c, .int .u8 a_, .int .u8 m, .int .u8 kk, .bool o] 27)))
  have LT := Lib.hid (Nat.le_trans HN.out B2.out.size)
  have NVT := Lib.hid (show vb ≠ w2.heap.size from fun e => absurd V2.out.1 (Nat.not_lt.2 (Nat.le_of_eq e.symm)))
  obtain ⟨hc, hf⟩ := V2.out.out
  go_upto_region 5 with (fail)
  generalize w2.alloc (.cells #[.int .u16 c, .int .u8 a_, .int .u8 m, .int .u8 kk, .bool o] 27) = w3 at T3 V3 B3 ⊢
  generalize w2.heap.size = tb at T3 LT NVT ⊢
  clear B2 V2
  clear hc hf
  have M0 := Lib.hid (show TV.ok ⟨c, a_, m, kk, o⟩ from ⟨VOK.out.1, VOK.out.2.1, VOK.out.2.2.1, kk0, kk1⟩)
  go_wp2
  clear hkk k0 k1 kk0 kk1
  go_loopg [25] n (fun g' i wr => ∃ (t : Nat) (m : TV), t ≤ n ∧ g' + t = n ∧ i = .int .i64 t ∧ m.ok ∧ Below n_ W0 wr ∧ Has wr vb #[.int .u16 m.c, .int .u8 m.a, .int .u8 m.m, .int .u8 m.k, .bool m.o] ∧ Has wr tb #[.int .u16 m.c, .int .u8 m.a, .int .u8 m.m, .int .u8 m.k, .bool m.o])
  case atStart => exact ⟨0, ⟨c, a_, m, kk, o⟩, by omega, by omega, rfl, M0.out, B3.out, V3.out, T3.out⟩
  case round =>
    obtain ⟨t, m, ht, hg, rfl, hok, hB, hV, hT⟩ := hrel
    have TG := Lib.hid hg
    have OK := Lib.hid hok
    have B0 := Lib.hid hB
    have V0 := Lib.hid hV
    have T0 := Lib.hid hT
    clear hg hok hB hV hT B3 V3 T3 M0
    by_cases hlt : t < n
    · have l1 : (t : Int) < n := by omega
      have l0 : (0 : Int) ≤ t := by omega
      obtain ⟨qb, qo, rfl, hqb, hcells⟩ := HIN.out (by omega)
      have e0 := (B0.out.cell (p := ⟨qb, qo + t * 3, none⟩) hqb).trans (hcells t hlt).1
      have e1 := (B0.out.cell (p := ⟨qb, qo + t * 3 + 1, none⟩) hqb).trans (hcells t hlt).2.1
      have e2 := (B0.out.cell (p := ⟨qb, qo + t * 3 + 2, none⟩) hqb).trans (hcells t hlt).2.2
      have xb := HH.out t
      generalize f t = kd at e0
      generalize g t = nn at e1
      generalize h t = xx at e2 xb
      clear hcells hqb
      have O1 := Lib.hid (Has.new wr #[.int .i64 kd, .int .i64 nn, .int .u8 xx] 29)
      have B1 := Lib.hid (vian HN.out B0.out (own1 wr (.cells #[.int .i64 kd, .int .i64 nn, .int .u8 xx] 29)))
      have V1 := Lib.hid (V0.out.alloc (.cells #[.int .i64 kd, .int .i64 nn, .int .u8 xx] 29))
      have T1 := Lib.hid (T0.out.alloc (.cells #[.int .i64 kd, .int .i64 nn, .int .u8 xx] 29))
      have NO := Lib.hid (show wr.heap.size ≠ vb from fun e => absurd V0.out.1 (Nat.not_lt.2 (Nat.le_of_eq e)))
      have NOT_ := Lib.hid (show wr.heap.size ≠ tb from fun e => absurd T0.out.1 (Nat.not_lt.2 (Nat.le_of_eq e)))
      go_upto_region 9 with (fail)
      generalize wr.alloc (.cells #[.int .i64 kd, .int .i64 nn, .int .u8 xx] 29) = w1 at O1 B1 V1 T1 ⊢
      generalize wr.heap.size = ob at O1 NO NOT_ ⊢
      clear e0 e1 e2 B0 V0 T0
      obtain ⟨hc, hf⟩ := O1.out.out
      go_upto_block 2 with (fail)
      clear hc hf
      go_cut [34] (fun s34 wx => ∃ m' : TV, m'.ok ∧ Below n_ W0 wx ∧ Has wx vb #[.int .u16 m'.c, .int .u8 m'.a, .int .u8 m'.m, .int .u8 m'.k, .bool m'.o] ∧ Has wx tb #[.int .u16 m'.c, .int .u8 m'.a, .int .u8 m'.m, .int .u8 m'.k, .bool m'.o] ∧ Has wx ob #[.int .i64 kd, .int .i64 nn, .int .u8 xx])
      case first =>
        by_cases hk1 : kd = 1
        · subst hk1
          have OK1 := Lib.hid OK.out
          rcases (by omega : nn ≤ 0 ∨ (0 < nn ∧ nn ≤ 400) ∨ 400 < nn) with hn | ⟨hn, hn2⟩ | hn
          · obtain ⟨hc, hf⟩ := O1.out.out
            go_upto_region 12 with (fail)
            clear hc hf
            refine wp_loop_rounds 1 ?_
            rw [rounds_succ]
            go_wp2
            go_meet
            exact ⟨m, OK.out, B1.out, V1.out, T1.out, O1.out⟩
          · obtain ⟨N, rfl⟩ := Int.eq_ofNat_of_zero_le (show 0 ≤ nn by omega)
            obtain ⟨hc, hf⟩ := O1.out.out
            go_upto_region 12 with (fail)
            clear hc hf
            go_loopg [40] N (fun g2 i2 wr2 => ∃ (t2 : Nat) (m2 : TV), t2 ≤ N ∧ g2 + t2 = N ∧ i2 = .int .i64 t2 ∧ m2.ok ∧ Below n_ W0 wr2 ∧ Has wr2 vb #[.int .u16 m2.c, .int .u8 m2.a, .int .u8 m2.m, .int .u8 m2.k, .bool m2.o] ∧ Has wr2 tb #[.int .u16 m2.c, .int .u8 m2.a, .int .u8 m2.m, .int .u8 m2.k, .bool m2.o] ∧ Has wr2 ob #[.int .i64 1, .int .i64 (N : Int), .int .u8 xx])
            case atStart => exact ⟨0, m, by omega, by omega, rfl, OK.out, B1.out, V1.out, T1.out, O1.out⟩
            case round =>
              obtain ⟨t2, m2, ht2, hg2, rfl, hok2, hB2, hV2, hT2, hO2⟩ := hrel
              have TG2 := Lib.hid hg2
              have OK2 := Lib.hid hok2
              have Y0 := Lib.hid hB2
              have V0 := Lib.hid hV2
              have T0 := Lib.hid hT2
              have O0 := Lib.hid hO2
              clear hg2 hok2 hB2 hV2 hT2 hO2
              by_cases hlt2 : t2 < N
              · have j1 : (t2 : Int) < N := by omega
                have j0 : (0 : Int) ≤ t2 := by omega
                obtain ⟨m', hm'⟩ : ∃ q_, tickV m2 = q_ := ⟨_, rfl⟩
                have DC := Lib.hid (fun W hG => pt_c m2 m' OK2.out hm' W hG)
                have RC := Lib.hid (fun W => rt_c m2 m' OK2.out hm' W)
                have OK' := Lib.hid (show m'.ok from hm' ▸ tick_ok OK2.out)
                clear hm'
                obtain ⟨hc, hf⟩ := T0.out.out
                go_wp2_with fail
                with_reducible refine (DC.out _ (TT.out.next Y0.out).g).mono ?_
                rintro q_ z1 ⟨rfl, hb⟩
                have Y1 := Lib.hid (vian HN.out Y0.out hb)
                have V1_ := Lib.hid (V0.out.below hb)
                have T1_ := Lib.hid (T0.out.below hb)
                have O1_ := Lib.hid (O0.out.below hb)
                clear hb hc hf Y0 V0 T0 O0
                have Y2 := Lib.hid (set5 Y1.out tb LT.out (.int .u16 m'.c) (.int .u8 m'.a) (.int .u8 m'.m) (.int .u8 m'.k) (.bool m'.o))
                have V2_ := Lib.hid (V1_.out.far5 NVT.out (.int .u16 m'.c) (.int .u8 m'.a) (.int .u8 m'.m) (.int .u8 m'.k) (.bool m'.o))
                have T2_ := Lib.hid (T1_.out.put5 (.int .u16 m'.c) (.int .u8 m'.a) (.int .u8 m'.m) (.int .u8 m'.k) (.bool m'.o))
                have O2_ := Lib.hid (O1_.out.far5 NOT_.out (.int .u16 m'.c) (.int .u8 m'.a) (.int .u8 m'.m) (.int .u8 m'.k) (.bool m'.o))
                obtain ⟨hc, hf⟩ := T1_.out.out
                go_upto_region 15 with (fail)
                generalize (World.setCell (World.setCell (World.setCell (World.setCell (World.setCell z1 ⟨tb, 0, none⟩ (.int .u16 m'.c)) ⟨tb, 1, none⟩ (.int .u8 m'.a)) ⟨tb, 2, none⟩ (.int .u8 m'.m)) ⟨tb, 3, none⟩ (.int .u8 m'.k)) ⟨tb, 4, none⟩ (.bool m'.o)) = z2 at Y2 V2_ T2_ O2_ ⊢
                clear hc hf Y1 V1_ T1_ O1_
                obtain ⟨hc, hf⟩ := V2_.out.out
                go_wp2_with fail
                with_reducible refine (RC.out _).mono ?_
                rintro q_ z3 ⟨rfl, hb⟩
                have Y3 := Lib.hid (vian HN.out Y2.out hb)
                have V3_ := Lib.hid (V2_.out.below hb)
                have T3_ := Lib.hid (T2_.out.below hb)
                have O3_ := Lib.hid (O2_.out.below hb)
                clear hb hc hf Y2 V2_ T2_ O2_
                have Y4 := Lib.hid (set5 Y3.out vb LV.out (.int .u16 m'.c) (.int .u8 m'.a) (.int .u8 m'.m) (.int .u8 m'.k) (.bool m'.o))
                have V4_ := Lib.hid (V3_.out.put5 (.int .u16 m'.c) (.int .u8 m'.a) (.int .u8 m'.m) (.int .u8 m'.k) (.bool m'.o))
                have T4_ := Lib.hid (T3_.out.far5 NVT.out.symm (.int .u16 m'.c) (.int .u8 m'.a) (.int .u8 m'.m) (.int .u8 m'.k) (.bool m'.o))
                have O4_ := Lib.hid (O3_.out.far5 NO.out (.int .u16 m'.c) (.int .u8 m'.a) (.int .u8 m'.m) (.int .u8 m'.k) (.bool m'.o))
                obtain ⟨hc, hf⟩ := V3_.out.out
                go_upto_region 16 with (fail)
                generalize (World.setCell (World.setCell (World.setCell (World.setCell (World.setCell z3 ⟨vb, 0, none⟩ (.int .u16 m'.c)) ⟨vb, 1, none⟩ (.int .u8 m'.a)) ⟨vb, 2, none⟩ (.int .u8 m'.m)) ⟨vb, 3, none⟩ (.int .u8 m'.k)) ⟨vb, 4, none⟩ (.bool m'.o)) = z4 at Y4 V4_ T4_ O4_ ⊢
                clear hc hf Y3 V3_ T3_ O3_
                obtain ⟨hc, hf⟩ := T4_.out.out
                obtain ⟨hd, he⟩ := V4_.out.out
                go_wp2
                go_roundg (gk - 1)
                exact ⟨t2 + 1, m', by omega, by have := TG2.out; omega, by simp, OK'.out, Y4.out, V4_.out, T4_.out, O4_.out⟩
                case measure => have := TG2.out; omega
              · have et : t2 = N := by omega
                subst et
                go_wp2
                go_meet
                exact ⟨m2, OK2.out, Y0.out, V0.out, T0.out, O0.out⟩
          · obtain ⟨hc, hf⟩ := O1.out.out
            go_upto_region 12 with (fail)
            clear hc hf
            obtain ⟨K, hK4⟩ : ∃ K : Nat, K = 400 := ⟨_, rfl⟩
            have EK := Lib.hid hK4
            clear hK4
            go_loopg [40] K (fun g2 i2 wr2 => ∃ (t2 : Nat) (m2 : TV), t2 ≤ K ∧ g2 + t2 = K ∧ i2 = .int .i64 t2 ∧ m2.ok ∧ Below n_ W0 wr2 ∧ Has wr2 vb #[.int .u16 m2.c, .int .u8 m2.a, .int .u8 m2.m, .int .u8 m2.k, .bool m2.o] ∧ Has wr2 tb #[.int .u16 m2.c, .int .u8 m2.a, .int .u8 m2.m, .int .u8 m2.k, .bool m2.o] ∧ Has wr2 ob #[.int .i64 1, .int .i64 nn, .int .u8 xx])
            case atStart => exact ⟨0, m, by omega, by omega, rfl, OK.out, B1.out, V1.out, T1.out, O1.out⟩
            case round =>
              obtain ⟨t2, m2, ht2, hg2, rfl, hok2, hB2, hV2, hT2, hO2⟩ := hrel
              have TG2 := Lib.hid hg2
              have OK2 := Lib.hid hok2
              have Y0 := Lib.hid hB2
              have V0 := Lib.hid hV2
              have T0 := Lib.hid hT2
              have O0 := Lib.hid hO2
              clear hg2 hok2 hB2 hV2 hT2 hO2
              have ek := EK.out
              by_cases hlt2 : t2 < K
              · have j1 : (t2 : Int) < 400 := by omega
                have j0 : (0 : Int) ≤ t2 := by omega
                clear ek
                obtain ⟨m', hm'⟩ : ∃ q_, tickV m2 = q_ := ⟨_, rfl⟩
                have DC := Lib.hid (fun W hG => pt_c m2 m' OK2.out hm' W hG)
                have RC := Lib.hid (fun W => rt_c m2 m' OK2.out hm' W)
                have OK' := Lib.hid (show m'.ok from hm' ▸ tick_ok OK2.out)
                clear hm'
                obtain ⟨hc, hf⟩ := T0.out.out
                go_wp2_with fail
                with_reducible refine (DC.out _ (TT.out.next Y0.out).g).mono ?_
                rintro q_ z1 ⟨rfl, hb⟩
                have Y1 := Lib.hid (vian HN.out Y0.out hb)
                have V1_ := Lib.hid (V0.out.below hb)
                have T1_ := Lib.hid (T0.out.below hb)
                have O1_ := Lib.hid (O0.out.below hb)
                clear hb hc hf Y0 V0 T0 O0
                have Y2 := Lib.hid (set5 Y1.out tb LT.out (.int .u16 m'.c) (.int .u8 m'.a) (.int .u8 m'.m) (.int .u8 m'.k) (.bool m'.o))
                have V2_ := Lib.hid (V1_.out.far5 NVT.out (.int .u16 m'.c) (.int .u8 m'.a) (.int .u8 m'.m) (.int .u8 m'.k) (.bool m'.o))
                have T2_ := Lib.hid (T1_.out.put5 (.int .u16 m'.c) (.int .u8 m'.a) (.int .u8 m'.m) (.int .u8 m'.k) (.bool m'.o))
                have O2_ := Lib.hid (O1_.out.far5 NOT_.out (.int .u16 m'.c) (.int .u8 m'.a) (.int .u8 m'.m) (.int .u8 m'.k) (.bool m'.o))
                obtain ⟨hc, hf⟩ := T1_.out.out
                go_upto_region 15 with (fail)
                generalize (World.setCell (World.setCell (World.setCell (World.setCell (World.setCell z1 ⟨tb, 0, none⟩ (.int .u16 m'.c)) ⟨tb, 1, none⟩ (.int .u8 m'.a)) ⟨tb, 2, none⟩ (.int .u8 m'.m)) ⟨tb, 3, none⟩ (.int .u8 m'.k)) ⟨tb, 4, none⟩ (.bool m'.o)) = z2 at Y2 V2_ T2_ O2_ ⊢
                clear hc hf Y1 V1_ T1_ O1_
                obtain ⟨hc, hf⟩ := V2_.out.out
                go_wp2_with fail
                with_reducible refine (RC.out _).mono ?_
                rintro q_ z3 ⟨rfl, hb⟩
                have Y3 := Lib.hid (vian HN.out Y2.out hb)
                have V3_ := Lib.hid (V2_.out.below hb)
                have T3_ := Lib.hid (T2_.out.below hb)
                have O3_ := Lib.hid (O2_.out.below hb)
                clear hb hc hf Y2 V2_ T2_ O2_
                have Y4 := Lib.hid (set5 Y3.out vb LV.out (.int .u16 m'.c) (.int .u8 m'.a) (.int .u8 m'.m) (.int .u8 m'.k) (.bool m'.o))
                have V4_ := Lib.hid (V3_.out.put5 (.int .u16 m'.c) (.int .u8 m'.a) (.int .u8 m'.m) (.int .u8 m'.k) (.bool m'.o))
                have T4_ := Lib.hid (T3_.out.far5 NVT.out.symm (.int .u16 m'.c) (.int .u8 m'.a) (.int .u8 m'.m) (.int .u8 m'.k) (.bool m'.o))
                have O4_ := Lib.hid (O3_.out.far5 NO.out (.int .u16 m'.c) (.int .u8 m'.a) (.int .u8 m'.m) (.int .u8 m'.k) (.bool m'.o))
                obtain ⟨hc, hf⟩ := V3_.out.out
                go_upto_region 16 with (fail)
                generalize (World.setCell (World.setCell (World.setCell (World.setCell (World.setCell z3 ⟨vb, 0, none⟩ (.int .u16 m'.c)) ⟨vb, 1, none⟩ (.int .u8 m'.a)) ⟨vb, 2, none⟩ (.int .u8 m'.m)) ⟨vb, 3, none⟩ (.int .u8 m'.k)) ⟨vb, 4, none⟩ (.bool m'.o)) = z4 at Y4 V4_ T4_ O4_ ⊢
                clear hc hf Y3 V3_ T3_ O3_
                obtain ⟨hc, hf⟩ := T4_.out.out
                obtain ⟨hd, he⟩ := V4_.out.out
                go_wp2
                go_roundg (gk - 1)
                exact ⟨t2 + 1, m', by omega, by have := TG2.out; omega, by simp, OK'.out, Y4.out, V4_.out, T4_.out, O4_.out⟩
                case measure => have := TG2.out; omega
              · have et : t2 = K := by omega
                have j2 : ¬ (t2 : Int) < 400 := by omega
                clear ek
                go_wp2
                go_meet
                exact ⟨m2, OK2.out, Y0.out, V0.out, T0.out, O0.out⟩
        by_cases hk2 : kd = 2
        · subst hk2
          obtain ⟨m', hm'⟩ : ∃ q_, wrV m nn xx = q_ := ⟨_, rfl⟩
          have DC := Lib.hid (fun W hG => pw_c m m' nn xx OK.out xb.1 xb.2 hm' W hG)
          have RC := Lib.hid (fun W => rw_c m m' nn xx OK.out xb.1 xb.2 hm' W)
          have OK' := Lib.hid (show m'.ok from hm' ▸ wr_ok OK.out _ _ xb.1 xb.2)
          clear hm'
          obtain ⟨hc, hf⟩ := O1.out.out
          go_upto_region 20 with (fail)
          clear hc hf
          refine wp_region_held_drew (S := (fun w' => ∀ o_, w'.cell? ⟨ob, o_, none⟩ = #[.int .i64 2, .int .i64 nn, .int .u8 xx][o_]?)) (by kernel_rfl) O1.out.drew.2.1 (fun hHeld => ?_)
          have B0 := Lib.hid B1.out.drew
          have V0 := Lib.hid V1.out.drew
          have T0 := Lib.hid T1.out.drew
          have O0 := Lib.hid O1.out.drew
          clear B1 V1 T1 O1
          generalize World.drew w1 = u0 at hHeld B0 V0 T0 O0 ⊢
          refine wpAnyH_take (i := 1) (oi := { dst := some 64, op := Go.Op.fieldAddr 29 (Go.Operand.tmp 7) 1, type := 0, pos := "law.go:44", after := #[], guard := none }) (v := ?v1) rfl (by kernel_rfl) (by kernel_rfl) (by kernel_rfl) (fun _ _ _ h => h) (Or.inl ⟨by rfl, ?y1⟩) (by assumption) ?z1
          case y1 => (intro w hSw; (try dsimp only at hSw); go_simp) <;> with_reducible rfl
          try simp only [Act.put, List.setIfInBounds_toArray, List.set_cons_zero, List.set_cons_succ]
          refine wpAnyH_take (i := 2) (oi := { dst := some 65, op := Go.Op.load 3 (Go.Operand.tmp 64), type := 3, pos := "law.go:44", after := #[{ on := 1, ground := Go.Ground.data }], guard := none }) (v := ?v2) rfl (by kernel_rfl) (by kernel_rfl) (by kernel_rfl) (fun _ _ _ h => h) (Or.inl ⟨by rfl, ?y2⟩) (by assumption) ?z2
          case y2 => (intro w hSw; (try dsimp only at hSw); go_simp) <;> with_reducible rfl
          try simp only [Act.put, List.setIfInBounds_toArray, List.set_cons_zero, List.set_cons_succ]
          refine wpAnyH_take (i := 3) (oi := { dst := some 66, op := Go.Op.fieldAddr 29 (Go.Operand.tmp 7) 2, type := 0, pos := "law.go:44", after := #[], guard := none }) (v := ?v3) rfl (by kernel_rfl) (by kernel_rfl) (by kernel_rfl) (fun _ _ _ h => h) (Or.inl ⟨by rfl, ?y3⟩) (by assumption) ?z3
          case y3 => (intro w hSw; (try dsimp only at hSw); go_simp) <;> with_reducible rfl
          try simp only [Act.put, List.setIfInBounds_toArray, List.set_cons_zero, List.set_cons_succ]
          refine wpAnyH_take (i := 4) (oi := { dst := some 67, op := Go.Op.load 5 (Go.Operand.tmp 66), type := 5, pos := "law.go:44", after := #[{ on := 3, ground := Go.Ground.data }], guard := none }) (v := ?v4) rfl (by kernel_rfl) (by kernel_rfl) (by kernel_rfl) (fun _ _ _ h => h) (Or.inl ⟨by rfl, ?y4⟩) (by assumption) ?z4
          case y4 => (intro w hSw; (try dsimp only at hSw); go_simp) <;> with_reducible rfl
          try simp only [Act.put, List.setIfInBounds_toArray, List.set_cons_zero, List.set_cons_succ]
          refine wpAnyH_take (i := 7) (oi := { dst := some 70, op := Go.Op.fieldAddr 29 (Go.Operand.tmp 7) 1, type := 0, pos := "law.go:44", after := #[], guard := none }) (v := ?v5) rfl (by kernel_rfl) (by kernel_rfl) (by kernel_rfl) (fun _ _ _ h => h) (Or.inl ⟨by rfl, ?y5⟩) (by assumption) ?z5
          case y5 => (intro w hSw; (try dsimp only at hSw); go_simp) <;> with_reducible rfl
          try simp only [Act.put, List.setIfInBounds_toArray, List.set_cons_zero, List.set_cons_succ]
          refine wpAnyH_take (i := 8) (oi := { dst := some 71, op := Go.Op.load 3 (Go.Operand.tmp 70), type := 3, pos := "law.go:44", after := #[{ on := 7, ground := Go.Ground.data }], guard := none }) (v := ?v6) rfl (by kernel_rfl) (by kernel_rfl) (by kernel_rfl) (fun _ _ _ h => h) (Or.inl ⟨by rfl, ?y6⟩) (by assumption) ?z6
          case y6 => (intro w hSw; (try dsimp only at hSw); go_simp) <;> with_reducible rfl
          try simp only [Act.put, List.setIfInBounds_toArray, List.set_cons_zero, List.set_cons_succ]
          refine wpAnyH_take (i := 9) (oi := { dst := some 72, op := Go.Op.fieldAddr 29 (Go.Operand.tmp 7) 2, type := 0, pos := "law.go:44", after := #[], guard := none }) (v := ?v7) rfl (by kernel_rfl) (by kernel_rfl) (by kernel_rfl) (fun _ _ _ h => h) (Or.inl ⟨by rfl, ?y7⟩) (by assumption) ?z7
          case y7 => (intro w hSw; (try dsimp only at hSw); go_simp) <;> with_reducible rfl
          try simp only [Act.put, List.setIfInBounds_toArray, List.set_cons_zero, List.set_cons_succ]
          refine wpAnyH_take (i := 10) (oi := { dst := some 73, op := Go.Op.load 5 (Go.Operand.tmp 72), type := 5, pos := "law.go:44", after := #[{ on := 9, ground := Go.Ground.data }], guard := none }) (v := ?v8) rfl (by kernel_rfl) (by kernel_rfl) (by kernel_rfl) (fun _ _ _ h => h) (Or.inl ⟨by rfl, ?y8⟩) (by assumption) ?z8
          case y8 => (intro w hSw; (try dsimp only at hSw); go_simp) <;> with_reducible rfl
          try simp only [Act.put, List.setIfInBounds_toArray, List.set_cons_zero, List.set_cons_succ]
          refine wpAnyH_ready (rs := [0, 6]) (by kernel_rfl) (by simp) ?_
          refine (AllReadyH.cons (o := { dst := some 63, op := Go.Op.load 27 (Go.Operand.tmp 5), type := 27, pos := "law.go:44", after := #[], guard := none }) rfl (fun K hK => ?_) (AllReadyH.cons (o := { dst := some 69, op := Go.Op.load 24 (Go.Operand.tmp 2), type := 24, pos := "law.go:44", after := #[], guard := none }) rfl (fun K hK => ?_) AllReadyH.nil))
          · skip
            obtain ⟨hc, hfz⟩ := T0.out.out
            go_simp
            clear hc hfz
            have B1 := B0
            have T1 := T0
            have V1 := V0
            have O1 := O0
            clear B0 T0 V0 O0
            refine hK.out _ _ ?s9 (fun hNew => ?r9)
            case s9 => exact O1.out.2.1
            clear hK K hHeld
            have hHeld := hNew
            clear hNew
            refine wpAnyH_ready (rs := [5, 6]) (by kernel_rfl) (by simp) ?_
            refine (AllReadyH.cons (o := { dst := some 68, op := Go.Op.call { callee := Go.Callee.value (Go.Operand.func 12), args := #[Go.Operand.tmp 63, Go.Operand.tmp 65, Go.Operand.tmp 67], argTypes := #[27, 3, 5] }, type := 27, pos := "law.go:44", after := #[{ on := 0, ground := Go.Ground.data }, { on := 2, ground := Go.Ground.data }, { on := 4, ground := Go.Ground.data }], guard := none }) rfl (fun K hK => ?_) (AllReadyH.cons (o := { dst := some 69, op := Go.Op.load 24 (Go.Operand.tmp 2), type := 24, pos := "law.go:44", after := #[], guard := none }) rfl (fun K hK => ?_) AllReadyH.nil))
            · skip
              go_simp
              with_reducible refine (DC.out _ (TT.out.next B1.out).g).mono ?_
              rintro q_ u2 ⟨rfl, hb⟩
              have B2 := Lib.hid (vian HN.out B1.out hb)
              have T2 := Lib.hid (T1.out.below hb)
              have V2 := Lib.hid (V1.out.below hb)
              have O2 := Lib.hid (O1.out.below hb)
              clear hb B1 T1 V1 O1
              refine hK.out _ _ ?s10 (fun hNew => ?r10)
              case s10 => exact O2.out.2.1
              clear hK K hHeld
              have hHeld := hNew
              clear hNew
              refine wpAnyH_ready (rs := [6]) (by kernel_rfl) (by simp) ?_
              refine (AllReadyH.cons (o := { dst := some 69, op := Go.Op.load 24 (Go.Operand.tmp 2), type := 24, pos := "law.go:44", after := #[], guard := none }) rfl (fun K hK => ?_) AllReadyH.nil)
              · skip
                obtain ⟨hc, hfz⟩ := V2.out.out
                go_simp
                clear hc hfz
                have B3 := B2
                have T3 := T2
                have V3 := V2
                have O3 := O2
                clear B2 T2 V2 O2
                refine hK.out _ _ ?s11 (fun hNew => ?r11)
                case s11 => exact O3.out.2.1
                clear hK K hHeld
                have hHeld := hNew
                clear hNew
                refine wpAnyH_ready (rs := [11]) (by kernel_rfl) (by simp) ?_
                refine (AllReadyH.cons (o := { dst := some 74, op := Go.Op.call { callee := Go.Callee.value (Go.Operand.func 13), args := #[Go.Operand.tmp 69, Go.Operand.tmp 71, Go.Operand.tmp 73], argTypes := #[24, 3, 5] }, type := 24, pos := "law.go:44", after := #[{ on := 6, ground := Go.Ground.data }, { on := 8, ground := Go.Ground.data }, { on := 10, ground := Go.Ground.data }, { on := 5, ground := Go.Ground.chain }], guard := none }) rfl (fun K hK => ?_) AllReadyH.nil)
                · skip
                  go_simp
                  with_reducible refine (RC.out _).mono ?_
                  rintro q_ u4 ⟨rfl, hb⟩
                  have B4 := Lib.hid (vian HN.out B3.out hb)
                  have T4 := Lib.hid (T3.out.below hb)
                  have V4 := Lib.hid (V3.out.below hb)
                  have O4 := Lib.hid (O3.out.below hb)
                  clear hb B3 T3 V3 O3
                  refine hK.out _ _ ?s12 (fun hNew => ?r12)
                  case s12 => exact O4.out.2.1
                  clear hK K hHeld
                  have hHeld := hNew
                  clear hNew
                  refine wpAnyH_ready (rs := [12]) (by kernel_rfl) (by simp) ?_
                  refine (AllReadyH.cons (o := { dst := none, op := Go.Op.store 27 (Go.Operand.tmp 5) (Go.Operand.tmp 68), type := 0, pos := "law.go:44", after := #[{ on := 5, ground := Go.Ground.data }, { on := 11, ground := Go.Ground.chain }, { on := 0, ground := Go.Ground.phase }, { on := 1, ground := Go.Ground.phase }, { on := 2, ground := Go.Ground.phase }, { on := 3, ground := Go.Ground.phase }, { on := 4, ground := Go.Ground.phase }, { on := 5, ground := Go.Ground.phase }, { on := 6, ground := Go.Ground.textOnly Go.Departure.lateStores }, { on := 7, ground := Go.Ground.textOnly Go.Departure.lateStores }, { on := 8, ground := Go.Ground.textOnly Go.Departure.lateStores }, { on := 9, ground := Go.Ground.textOnly Go.Departure.lateStores }, { on := 10, ground := Go.Ground.textOnly Go.Departure.lateStores }, { on := 11, ground := Go.Ground.textOnly Go.Departure.lateStoresUnsure }], guard := none }) rfl (fun K hK => ?_) AllReadyH.nil)
                  · skip
                    obtain ⟨hc, hfz⟩ := T4.out.out
                    go_simp
                    clear hc hfz
                    have T5 := Lib.hid (T4.out.put5 (.int .u16 m'.c) (.int .u8 m'.a) (.int .u8 m'.m) (.int .u8 m'.k) (.bool m'.o))
                    have V5 := Lib.hid (V4.out.far5 NVT.out (.int .u16 m'.c) (.int .u8 m'.a) (.int .u8 m'.m) (.int .u8 m'.k) (.bool m'.o))
                    have O5 := Lib.hid (O4.out.far5 NOT_.out (.int .u16 m'.c) (.int .u8 m'.a) (.int .u8 m'.m) (.int .u8 m'.k) (.bool m'.o))
                    have B5 := Lib.hid (set5 B4.out tb LT.out (.int .u16 m'.c) (.int .u8 m'.a) (.int .u8 m'.m) (.int .u8 m'.k) (.bool m'.o))
                    clear B4 T4 V4 O4
                    refine hK.out _ _ ?s13 (fun hNew => ?r13)
                    case s13 => exact O5.out.2.1
                    clear hK K hHeld
                    have hHeld := hNew
                    clear hNew
                    generalize (World.setCell (World.setCell (World.setCell (World.setCell (World.setCell u4 ⟨tb, 0, none⟩ (.int .u16 m'.c)) ⟨tb, 1, none⟩ (.int .u8 m'.a)) ⟨tb, 2, none⟩ (.int .u8 m'.m)) ⟨tb, 3, none⟩ (.int .u8 m'.k)) ⟨tb, 4, none⟩ (.bool m'.o)) = u5 at hHeld B5 T5 V5 O5 ⊢
                    refine wpAnyH_ready (rs := [13]) (by kernel_rfl) (by simp) ?_
                    refine (AllReadyH.cons (o := { dst := none, op := Go.Op.store 24 (Go.Operand.tmp 2) (Go.Operand.tmp 74), type := 0, pos := "law.go:44", after := #[{ on := 11, ground := Go.Ground.data }, { on := 12, ground := Go.Ground.chain }, { on := 0, ground := Go.Ground.phase }, { on := 1, ground := Go.Ground.phase }, { on := 2, ground := Go.Ground.phase }, { on := 3, ground := Go.Ground.phase }, { on := 4, ground := Go.Ground.phase }, { on := 5, ground := Go.Ground.phase }, { on := 6, ground := Go.Ground.phase }, { on := 7, ground := Go.Ground.phase }, { on := 8, ground := Go.Ground.phase }, { on := 9, ground := Go.Ground.phase }, { on := 10, ground := Go.Ground.phase }, { on := 11, ground := Go.Ground.phase }, { on := 12, ground := Go.Ground.phase }], guard := none }) rfl (fun K hK => ?_) AllReadyH.nil)
                    · skip
                      obtain ⟨hc, hfz⟩ := V5.out.out
                      go_simp
                      clear hc hfz
                      have V6 := Lib.hid (V5.out.put5 (.int .u16 m'.c) (.int .u8 m'.a) (.int .u8 m'.m) (.int .u8 m'.k) (.bool m'.o))
                      have T6 := Lib.hid (T5.out.far5 NVT.out.symm (.int .u16 m'.c) (.int .u8 m'.a) (.int .u8 m'.m) (.int .u8 m'.k) (.bool m'.o))
                      have O6 := Lib.hid (O5.out.far5 NO.out (.int .u16 m'.c) (.int .u8 m'.a) (.int .u8 m'.m) (.int .u8 m'.k) (.bool m'.o))
                      have B6 := Lib.hid (set5 B5.out vb LV.out (.int .u16 m'.c) (.int .u8 m'.a) (.int .u8 m'.m) (.int .u8 m'.k) (.bool m'.o))
                      clear B5 T5 V5 O5
                      refine hK.out _ _ ?s14 (fun hNew => ?r14)
                      case s14 => exact O6.out.2.1
                      clear hK K hHeld
                      have hHeld := hNew
                      clear hNew
                      generalize (World.setCell (World.setCell (World.setCell (World.setCell (World.setCell u5 ⟨vb, 0, none⟩ (.int .u16 m'.c)) ⟨vb, 1, none⟩ (.int .u8 m'.a)) ⟨vb, 2, none⟩ (.int .u8 m'.m)) ⟨vb, 3, none⟩ (.int .u8 m'.k)) ⟨vb, 4, none⟩ (.bool m'.o)) = u6 at hHeld B6 T6 V6 O6 ⊢
                      refine wpAnyH_done (by kernel_rfl) ?_ _
                      clear hHeld
                      go_wp2
                      go_meet
                      exact ⟨m', OK'.out, B6.out, V6.out, T6.out, O6.out⟩
            · skip
              obtain ⟨hc, hfz⟩ := V1.out.out
              go_simp
              clear hc hfz
              have B2 := B1
              have T2 := T1
              have V2 := V1
              have O2 := O1
              clear B1 T1 V1 O1
              refine hK.out _ _ ?s15 (fun hNew => ?r15)
              case s15 => exact O2.out.2.1
              clear hK K hHeld
              have hHeld := hNew
              clear hNew
              refine wpAnyH_ready (rs := [5]) (by kernel_rfl) (by simp) ?_
              refine (AllReadyH.cons (o := { dst := some 68, op := Go.Op.call { callee := Go.Callee.value (Go.Operand.func 12), args := #[Go.Operand.tmp 63, Go.Operand.tmp 65, Go.Operand.tmp 67], argTypes := #[27, 3, 5] }, type := 27, pos := "law.go:44", after := #[{ on := 0, ground := Go.Ground.data }, { on := 2, ground := Go.Ground.data }, { on := 4, ground := Go.Ground.data }], guard := none }) rfl (fun K hK => ?_) AllReadyH.nil)
              · skip
                go_simp
                with_reducible refine (DC.out _ (TT.out.next B2.out).g).mono ?_
                rintro q_ u3 ⟨rfl, hb⟩
                have B3 := Lib.hid (vian HN.out B2.out hb)
                have T3 := Lib.hid (T2.out.below hb)
                have V3 := Lib.hid (V2.out.below hb)
                have O3 := Lib.hid (O2.out.below hb)
                clear hb B2 T2 V2 O2
                refine hK.out _ _ ?s16 (fun hNew => ?r16)
                case s16 => exact O3.out.2.1
                clear hK K hHeld
                have hHeld := hNew
                clear hNew
                refine wpAnyH_ready (rs := [11]) (by kernel_rfl) (by simp) ?_
                refine (AllReadyH.cons (o := { dst := some 74, op := Go.Op.call { callee := Go.Callee.value (Go.Operand.func 13), args := #[Go.Operand.tmp 69, Go.Operand.tmp 71, Go.Operand.tmp 73], argTypes := #[24, 3, 5] }, type := 24, pos := "law.go:44", after := #[{ on := 6, ground := Go.Ground.data }, { on := 8, ground := Go.Ground.data }, { on := 10, ground := Go.Ground.data }, { on := 5, ground := Go.Ground.chain }], guard := none }) rfl (fun K hK => ?_) AllReadyH.nil)
                · skip
                  go_simp
                  with_reducible refine (RC.out _).mono ?_
                  rintro q_ u4 ⟨rfl, hb⟩
                  have B4 := Lib.hid (vian HN.out B3.out hb)
                  have T4 := Lib.hid (T3.out.below hb)
                  have V4 := Lib.hid (V3.out.below hb)
                  have O4 := Lib.hid (O3.out.below hb)
                  clear hb B3 T3 V3 O3
                  refine hK.out _ _ ?s17 (fun hNew => ?r17)
                  case s17 => exact O4.out.2.1
                  clear hK K hHeld
                  have hHeld := hNew
                  clear hNew
                  refine wpAnyH_ready (rs := [12]) (by kernel_rfl) (by simp) ?_
                  refine (AllReadyH.cons (o := { dst := none, op := Go.Op.store 27 (Go.Operand.tmp 5) (Go.Operand.tmp 68), type := 0, pos := "law.go:44", after := #[{ on := 5, ground := Go.Ground.data }, { on := 11, ground := Go.Ground.chain }, { on := 0, ground := Go.Ground.phase }, { on := 1, ground := Go.Ground.phase }, { on := 2, ground := Go.Ground.phase }, { on := 3, ground := Go.Ground.phase }, { on := 4, ground := Go.Ground.phase }, { on := 5, ground := Go.Ground.phase }, { on := 6, ground := Go.Ground.textOnly Go.Departure.lateStores }, { on := 7, ground := Go.Ground.textOnly Go.Departure.lateStores }, { on := 8, ground := Go.Ground.textOnly Go.Departure.lateStores }, { on := 9, ground := Go.Ground.textOnly Go.Departure.lateStores }, { on := 10, ground := Go.Ground.textOnly Go.Departure.lateStores }, { on := 11, ground := Go.Ground.textOnly Go.Departure.lateStoresUnsure }], guard := none }) rfl (fun K hK => ?_) AllReadyH.nil)
                  · skip
                    obtain ⟨hc, hfz⟩ := T4.out.out
                    go_simp
                    clear hc hfz
                    have T5 := Lib.hid (T4.out.put5 (.int .u16 m'.c) (.int .u8 m'.a) (.int .u8 m'.m) (.int .u8 m'.k) (.bool m'.o))
                    have V5 := Lib.hid (V4.out.far5 NVT.out (.int .u16 m'.c) (.int .u8 m'.a) (.int .u8 m'.m) (.int .u8 m'.k) (.bool m'.o))
                    have O5 := Lib.hid (O4.out.far5 NOT_.out (.int .u16 m'.c) (.int .u8 m'.a) (.int .u8 m'.m) (.int .u8 m'.k) (.bool m'.o))
                    have B5 := Lib.hid (set5 B4.out tb LT.out (.int .u16 m'.c) (.int .u8 m'.a) (.int .u8 m'.m) (.int .u8 m'.k) (.bool m'.o))
                    clear B4 T4 V4 O4
                    refine hK.out _ _ ?s18 (fun hNew => ?r18)
                    case s18 => exact O5.out.2.1
                    clear hK K hHeld
                    have hHeld := hNew
                    clear hNew
                    generalize (World.setCell (World.setCell (World.setCell (World.setCell (World.setCell u4 ⟨tb, 0, none⟩ (.int .u16 m'.c)) ⟨tb, 1, none⟩ (.int .u8 m'.a)) ⟨tb, 2, none⟩ (.int .u8 m'.m)) ⟨tb, 3, none⟩ (.int .u8 m'.k)) ⟨tb, 4, none⟩ (.bool m'.o)) = u5 at hHeld B5 T5 V5 O5 ⊢
                    refine wpAnyH_ready (rs := [13]) (by kernel_rfl) (by simp) ?_
                    refine (AllReadyH.cons (o := { dst := none, op := Go.Op.store 24 (Go.Operand.tmp 2) (Go.Operand.tmp 74), type := 0, pos := "law.go:44", after := #[{ on := 11, ground := Go.Ground.data }, { on := 12, ground := Go.Ground.chain }, { on := 0, ground := Go.Ground.phase }, { on := 1, ground := Go.Ground.phase }, { on := 2, ground := Go.Ground.phase }, { on := 3, ground := Go.Ground.phase }, { on := 4, ground := Go.Ground.phase }, { on := 5, ground := Go.Ground.phase }, { on := 6, ground := Go.Ground.phase }, { on := 7, ground := Go.Ground.phase }, { on := 8, ground := Go.Ground.phase }, { on := 9, ground := Go.Ground.phase }, { on := 10, ground := Go.Ground.phase }, { on := 11, ground := Go.Ground.phase }, { on := 12, ground := Go.Ground.phase }], guard := none }) rfl (fun K hK => ?_) AllReadyH.nil)
                    · skip
                      obtain ⟨hc, hfz⟩ := V5.out.out
                      go_simp
                      clear hc hfz
                      have V6 := Lib.hid (V5.out.put5 (.int .u16 m'.c) (.int .u8 m'.a) (.int .u8 m'.m) (.int .u8 m'.k) (.bool m'.o))
                      have T6 := Lib.hid (T5.out.far5 NVT.out.symm (.int .u16 m'.c) (.int .u8 m'.a) (.int .u8 m'.m) (.int .u8 m'.k) (.bool m'.o))
                      have O6 := Lib.hid (O5.out.far5 NO.out (.int .u16 m'.c) (.int .u8 m'.a) (.int .u8 m'.m) (.int .u8 m'.k) (.bool m'.o))
                      have B6 := Lib.hid (set5 B5.out vb LV.out (.int .u16 m'.c) (.int .u8 m'.a) (.int .u8 m'.m) (.int .u8 m'.k) (.bool m'.o))
                      clear B5 T5 V5 O5
                      refine hK.out _ _ ?s19 (fun hNew => ?r19)
                      case s19 => exact O6.out.2.1
                      clear hK K hHeld
                      have hHeld := hNew
                      clear hNew
                      generalize (World.setCell (World.setCell (World.setCell (World.setCell (World.setCell u5 ⟨vb, 0, none⟩ (.int .u16 m'.c)) ⟨vb, 1, none⟩ (.int .u8 m'.a)) ⟨vb, 2, none⟩ (.int .u8 m'.m)) ⟨vb, 3, none⟩ (.int .u8 m'.k)) ⟨vb, 4, none⟩ (.bool m'.o)) = u6 at hHeld B6 T6 V6 O6 ⊢
                      refine wpAnyH_done (by kernel_rfl) ?_ _
                      clear hHeld
                      go_wp2
                      go_meet
                      exact ⟨m', OK'.out, B6.out, V6.out, T6.out, O6.out⟩
          · skip
            obtain ⟨hc, hfz⟩ := V0.out.out
            go_simp
            clear hc hfz
            have B1 := B0
            have T1 := T0
            have V1 := V0
            have O1 := O0
            clear B0 T0 V0 O0
            refine hK.out _ _ ?s20 (fun hNew => ?r20)
            case s20 => exact O1.out.2.1
            clear hK K hHeld
            have hHeld := hNew
            clear hNew
            refine wpAnyH_ready (rs := [0]) (by kernel_rfl) (by simp) ?_
            refine (AllReadyH.cons (o := { dst := some 63, op := Go.Op.load 27 (Go.Operand.tmp 5), type := 27, pos := "law.go:44", after := #[], guard := none }) rfl (fun K hK => ?_) AllReadyH.nil)
            · skip
              obtain ⟨hc, hfz⟩ := T1.out.out
              go_simp
              clear hc hfz
              have B2 := B1
              have T2 := T1
              have V2 := V1
              have O2 := O1
              clear B1 T1 V1 O1
              refine hK.out _ _ ?s21 (fun hNew => ?r21)
              case s21 => exact O2.out.2.1
              clear hK K hHeld
              have hHeld := hNew
              clear hNew
              refine wpAnyH_ready (rs := [5]) (by kernel_rfl) (by simp) ?_
              refine (AllReadyH.cons (o := { dst := some 68, op := Go.Op.call { callee := Go.Callee.value (Go.Operand.func 12), args := #[Go.Operand.tmp 63, Go.Operand.tmp 65, Go.Operand.tmp 67], argTypes := #[27, 3, 5] }, type := 27, pos := "law.go:44", after := #[{ on := 0, ground := Go.Ground.data }, { on := 2, ground := Go.Ground.data }, { on := 4, ground := Go.Ground.data }], guard := none }) rfl (fun K hK => ?_) AllReadyH.nil)
              · skip
                go_simp
                with_reducible refine (DC.out _ (TT.out.next B2.out).g).mono ?_
                rintro q_ u3 ⟨rfl, hb⟩
                have B3 := Lib.hid (vian HN.out B2.out hb)
                have T3 := Lib.hid (T2.out.below hb)
                have V3 := Lib.hid (V2.out.below hb)
                have O3 := Lib.hid (O2.out.below hb)
                clear hb B2 T2 V2 O2
                refine hK.out _ _ ?s22 (fun hNew => ?r22)
                case s22 => exact O3.out.2.1
                clear hK K hHeld
                have hHeld := hNew
                clear hNew
                refine wpAnyH_ready (rs := [11]) (by kernel_rfl) (by simp) ?_
                refine (AllReadyH.cons (o := { dst := some 74, op := Go.Op.call { callee := Go.Callee.value (Go.Operand.func 13), args := #[Go.Operand.tmp 69, Go.Operand.tmp 71, Go.Operand.tmp 73], argTypes := #[24, 3, 5] }, type := 24, pos := "law.go:44", after := #[{ on := 6, ground := Go.Ground.data }, { on := 8, ground := Go.Ground.data }, { on := 10, ground := Go.Ground.data }, { on := 5, ground := Go.Ground.chain }], guard := none }) rfl (fun K hK => ?_) AllReadyH.nil)
                · skip
                  go_simp
                  with_reducible refine (RC.out _).mono ?_
                  rintro q_ u4 ⟨rfl, hb⟩
                  have B4 := Lib.hid (vian HN.out B3.out hb)
                  have T4 := Lib.hid (T3.out.below hb)
                  have V4 := Lib.hid (V3.out.below hb)
                  have O4 := Lib.hid (O3.out.below hb)
                  clear hb B3 T3 V3 O3
                  refine hK.out _ _ ?s23 (fun hNew => ?r23)
                  case s23 => exact O4.out.2.1
                  clear hK K hHeld
                  have hHeld := hNew
                  clear hNew
                  refine wpAnyH_ready (rs := [12]) (by kernel_rfl) (by simp) ?_
                  refine (AllReadyH.cons (o := { dst := none, op := Go.Op.store 27 (Go.Operand.tmp 5) (Go.Operand.tmp 68), type := 0, pos := "law.go:44", after := #[{ on := 5, ground := Go.Ground.data }, { on := 11, ground := Go.Ground.chain }, { on := 0, ground := Go.Ground.phase }, { on := 1, ground := Go.Ground.phase }, { on := 2, ground := Go.Ground.phase }, { on := 3, ground := Go.Ground.phase }, { on := 4, ground := Go.Ground.phase }, { on := 5, ground := Go.Ground.phase }, { on := 6, ground := Go.Ground.textOnly Go.Departure.lateStores }, { on := 7, ground := Go.Ground.textOnly Go.Departure.lateStores }, { on := 8, ground := Go.Ground.textOnly Go.Departure.lateStores }, { on := 9, ground := Go.Ground.textOnly Go.Departure.lateStores }, { on := 10, ground := Go.Ground.textOnly Go.Departure.lateStores }, { on := 11, ground := Go.Ground.textOnly Go.Departure.lateStoresUnsure }], guard := none }) rfl (fun K hK => ?_) AllReadyH.nil)
                  · skip
                    obtain ⟨hc, hfz⟩ := T4.out.out
                    go_simp
                    clear hc hfz
                    have T5 := Lib.hid (T4.out.put5 (.int .u16 m'.c) (.int .u8 m'.a) (.int .u8 m'.m) (.int .u8 m'.k) (.bool m'.o))
                    have V5 := Lib.hid (V4.out.far5 NVT.out (.int .u16 m'.c) (.int .u8 m'.a) (.int .u8 m'.m) (.int .u8 m'.k) (.bool m'.o))
                    have O5 := Lib.hid (O4.out.far5 NOT_.out (.int .u16 m'.c) (.int .u8 m'.a) (.int .u8 m'.m) (.int .u8 m'.k) (.bool m'.o))
                    have B5 := Lib.hid (set5 B4.out tb LT.out (.int .u16 m'.c) (.int .u8 m'.a) (.int .u8 m'.m) (.int .u8 m'.k) (.bool m'.o))
                    clear B4 T4 V4 O4
                    refine hK.out _ _ ?s24 (fun hNew => ?r24)
                    case s24 => exact O5.out.2.1
                    clear hK K hHeld
                    have hHeld := hNew
                    clear hNew
                    generalize (World.setCell (World.setCell (World.setCell (World.setCell (World.setCell u4 ⟨tb, 0, none⟩ (.int .u16 m'.c)) ⟨tb, 1, none⟩ (.int .u8 m'.a)) ⟨tb, 2, none⟩ (.int .u8 m'.m)) ⟨tb, 3, none⟩ (.int .u8 m'.k)) ⟨tb, 4, none⟩ (.bool m'.o)) = u5 at hHeld B5 T5 V5 O5 ⊢
                    refine wpAnyH_ready (rs := [13]) (by kernel_rfl) (by simp) ?_
                    refine (AllReadyH.cons (o := { dst := none, op := Go.Op.store 24 (Go.Operand.tmp 2) (Go.Operand.tmp 74), type := 0, pos := "law.go:44", after := #[{ on := 11, ground := Go.Ground.data }, { on := 12, ground := Go.Ground.chain }, { on := 0, ground := Go.Ground.phase }, { on := 1, ground := Go.Ground.phase }, { on := 2, ground := Go.Ground.phase }, { on := 3, ground := Go.Ground.phase }, { on := 4, ground := Go.Ground.phase }, { on := 5, ground := Go.Ground.phase }, { on := 6, ground := Go.Ground.phase }, { on := 7, ground := Go.Ground.phase }, { on := 8, ground := Go.Ground.phase }, { on := 9, ground := Go.Ground.phase }, { on := 10, ground := Go.Ground.phase }, { on := 11, ground := Go.Ground.phase }, { on := 12, ground := Go.Ground.phase }], guard := none }) rfl (fun K hK => ?_) AllReadyH.nil)
                    · skip
                      obtain ⟨hc, hfz⟩ := V5.out.out
                      go_simp
                      clear hc hfz
                      have V6 := Lib.hid (V5.out.put5 (.int .u16 m'.c) (.int .u8 m'.a) (.int .u8 m'.m) (.int .u8 m'.k) (.bool m'.o))
                      have T6 := Lib.hid (T5.out.far5 NVT.out.symm (.int .u16 m'.c) (.int .u8 m'.a) (.int .u8 m'.m) (.int .u8 m'.k) (.bool m'.o))
                      have O6 := Lib.hid (O5.out.far5 NO.out (.int .u16 m'.c) (.int .u8 m'.a) (.int .u8 m'.m) (.int .u8 m'.k) (.bool m'.o))
                      have B6 := Lib.hid (set5 B5.out vb LV.out (.int .u16 m'.c) (.int .u8 m'.a) (.int .u8 m'.m) (.int .u8 m'.k) (.bool m'.o))
                      clear B5 T5 V5 O5
                      refine hK.out _ _ ?s25 (fun hNew => ?r25)
                      case s25 => exact O6.out.2.1
                      clear hK K hHeld
                      have hHeld := hNew
                      clear hNew
                      generalize (World.setCell (World.setCell (World.setCell (World.setCell (World.setCell u5 ⟨vb, 0, none⟩ (.int .u16 m'.c)) ⟨vb, 1, none⟩ (.int .u8 m'.a)) ⟨vb, 2, none⟩ (.int .u8 m'.m)) ⟨vb, 3, none⟩ (.int .u8 m'.k)) ⟨vb, 4, none⟩ (.bool m'.o)) = u6 at hHeld B6 T6 V6 O6 ⊢
                      refine wpAnyH_done (by kernel_rfl) ?_ _
                      clear hHeld
                      go_wp2
                      go_meet
                      exact ⟨m', OK'.out, B6.out, V6.out, T6.out, O6.out⟩
        · obtain ⟨hc, hf⟩ := O1.out.out
          go_wp2
          go_meet
          exact ⟨m, OK.out, B1.out, V1.out, T1.out, O1.out⟩
      case rest =>
        obtain ⟨m', hok, hB, hV, hT, hO⟩ := hcut
        have OK' := Lib.hid hok
        have B0 := Lib.hid hB
        have V0 := Lib.hid hV
        have T0 := Lib.hid hT
        have O0 := Lib.hid hO
        clear hok hB hV hT hO B1 V1 T1 O1
        obtain ⟨y, hy⟩ : ∃ q_, readV m' nn = q_ := ⟨_, rfl⟩
        have RD := Lib.hid (fun W => prd_c m' nn y OK'.out hy W)
        have RRD := Lib.hid (fun W => drd_c m' nn y OK'.out hy W)
        clear hy
        go_upto_region 21 with (fail)
        refine wp_region_held_drew (S := (fun w' => (∀ o_, w'.cell? ⟨tb, o_, none⟩ = #[.int .u16 m'.c, .int .u8 m'.a, .int .u8 m'.m, .int .u8 m'.k, .bool m'.o][o_]?) ∧ (∀ o_, w'.cell? ⟨vb, o_, none⟩ = #[.int .u16 m'.c, .int .u8 m'.a, .int .u8 m'.m, .int .u8 m'.k, .bool m'.o][o_]?) ∧ (∀ o_, w'.cell? ⟨ob, o_, none⟩ = #[.int .i64 kd, .int .i64 nn, .int .u8 xx][o_]?))) (by kernel_rfl) ⟨T0.out.drew.2.1, V0.out.drew.2.1, O0.out.drew.2.1⟩ (fun hHeld => ?_)
        replace B0 := Lib.hid B0.out.drew
        replace V0 := Lib.hid V0.out.drew
        replace T0 := Lib.hid T0.out.drew
        replace O0 := Lib.hid O0.out.drew
        generalize World.drew wc = u0 at hHeld B0 V0 T0 O0 ⊢
        refine wpAnyH_take (i := 0) (oi := { dst := some 75, op := Go.Op.load 27 (Go.Operand.tmp 5), type := 27, pos := "law.go:46", after := #[], guard := none }) (v := ?v26) rfl (by kernel_rfl) (by kernel_rfl) (by kernel_rfl) (fun _ _ _ h => h) (Or.inl ⟨by rfl, ?y26⟩) (by assumption) ?z26
        case y26 => (intro w hSw; (try dsimp only at hSw); go_simp) <;> with_reducible rfl
        try simp only [Act.put, List.setIfInBounds_toArray, List.set_cons_zero, List.set_cons_succ]
        refine wpAnyH_take (i := 1) (oi := { dst := some 76, op := Go.Op.load 24 (Go.Operand.tmp 2), type := 24, pos := "law.go:46", after := #[], guard := none }) (v := ?v27) rfl (by kernel_rfl) (by kernel_rfl) (by kernel_rfl) (fun _ _ _ h => h) (Or.inl ⟨by rfl, ?y27⟩) (by assumption) ?z27
        case y27 => (intro w hSw; (try dsimp only at hSw); go_simp) <;> with_reducible rfl
        try simp only [Act.put, List.setIfInBounds_toArray, List.set_cons_zero, List.set_cons_succ]
        refine wpAnyH_take (i := 2) (oi := { dst := some 77, op := Go.Op.binOp Go.BinOp.neq 24 (Go.Operand.tmp 75) (Go.Operand.tmp 76) 24, type := 4, pos := "law.go:46", after := #[{ on := 0, ground := Go.Ground.data }, { on := 1, ground := Go.Ground.data }], guard := none }) (v := ?v28) rfl (by kernel_rfl) (by kernel_rfl) (by kernel_rfl) (fun _ _ _ h => h) (Or.inl ⟨by rfl, ?y28⟩) (by assumption) ?z28
        case y28 => (intro w hSw; (try dsimp only at hSw); go_simp) <;> with_reducible rfl
        try simp only [Act.put, List.setIfInBounds_toArray, List.set_cons_zero, List.set_cons_succ]
        refine wpAnyH_take (i := 3) (oi := { dst := some 78, op := Go.Op.move (Go.Operand.tmp 77), type := 4, pos := "law.go:46", after := #[{ on := 2, ground := Go.Ground.data }], guard := none }) (v := ?v29) rfl (by kernel_rfl) (by kernel_rfl) (by kernel_rfl) (fun _ _ _ h => h) (Or.inl ⟨by rfl, ?y29⟩) (by assumption) ?z29
        case y29 => (intro w hSw; (try dsimp only at hSw); go_simp) <;> with_reducible rfl
        try simp only [Act.put, List.setIfInBounds_toArray, List.set_cons_zero, List.set_cons_succ]
        refine wpAnyH_take (i := 4) (oi := { dst := some 79, op := Go.Op.load 27 (Go.Operand.tmp 5), type := 27, pos := "law.go:46", after := #[{ on := 3, ground := Go.Ground.guard }], guard := some (3, false) }) (v := ?v30) rfl (by kernel_rfl) (by kernel_rfl) (by kernel_rfl) (fun _ _ _ h => h) (Or.inl ⟨by rfl, ?y30⟩) (by assumption) ?z30
        case y30 => (intro w hSw; (try dsimp only at hSw); go_simp) <;> with_reducible rfl
        try simp only [Act.put, List.setIfInBounds_toArray, List.set_cons_zero, List.set_cons_succ]
        refine wpAnyH_take (i := 5) (oi := { dst := some 80, op := Go.Op.fieldAddr 29 (Go.Operand.tmp 7) 1, type := 0, pos := "law.go:46", after := #[{ on := 3, ground := Go.Ground.guard }], guard := some (3, false) }) (v := ?v31) rfl (by kernel_rfl) (by kernel_rfl) (by kernel_rfl) (fun _ _ _ h => h) (Or.inl ⟨by rfl, ?y31⟩) (by assumption) ?z31
        case y31 => (intro w hSw; (try dsimp only at hSw); go_simp) <;> with_reducible rfl
        try simp only [Act.put, List.setIfInBounds_toArray, List.set_cons_zero, List.set_cons_succ]
        refine wpAnyH_take (i := 6) (oi := { dst := some 81, op := Go.Op.load 3 (Go.Operand.tmp 80), type := 3, pos := "law.go:46", after := #[{ on := 5, ground := Go.Ground.data }, { on := 3, ground := Go.Ground.guard }], guard := some (3, false) }) (v := ?v32) rfl (by kernel_rfl) (by kernel_rfl) (by kernel_rfl) (fun _ _ _ h => h) (Or.inl ⟨by rfl, ?y32⟩) (by assumption) ?z32
        case y32 => (intro w hSw; (try dsimp only at hSw); go_simp) <;> with_reducible rfl
        try simp only [Act.put, List.setIfInBounds_toArray, List.set_cons_zero, List.set_cons_succ]
        refine wpAnyH_take (i := 8) (oi := { dst := some 83, op := Go.Op.load 24 (Go.Operand.tmp 2), type := 24, pos := "law.go:46", after := #[{ on := 3, ground := Go.Ground.guard }], guard := some (3, false) }) (v := ?v33) rfl (by kernel_rfl) (by kernel_rfl) (by kernel_rfl) (fun _ _ _ h => h) (Or.inl ⟨by rfl, ?y33⟩) (by assumption) ?z33
        case y33 => (intro w hSw; (try dsimp only at hSw); go_simp) <;> with_reducible rfl
        try simp only [Act.put, List.setIfInBounds_toArray, List.set_cons_zero, List.set_cons_succ]
        refine wpAnyH_take (i := 9) (oi := { dst := some 84, op := Go.Op.fieldAddr 29 (Go.Operand.tmp 7) 1, type := 0, pos := "law.go:46", after := #[{ on := 3, ground := Go.Ground.guard }], guard := some (3, false) }) (v := ?v34) rfl (by kernel_rfl) (by kernel_rfl) (by kernel_rfl) (fun _ _ _ h => h) (Or.inl ⟨by rfl, ?y34⟩) (by assumption) ?z34
        case y34 => (intro w hSw; (try dsimp only at hSw); go_simp) <;> with_reducible rfl
        try simp only [Act.put, List.setIfInBounds_toArray, List.set_cons_zero, List.set_cons_succ]
        refine wpAnyH_take (i := 10) (oi := { dst := some 85, op := Go.Op.load 3 (Go.Operand.tmp 84), type := 3, pos := "law.go:46", after := #[{ on := 9, ground := Go.Ground.data }, { on := 3, ground := Go.Ground.guard }], guard := some (3, false) }) (v := ?v35) rfl (by kernel_rfl) (by kernel_rfl) (by kernel_rfl) (fun _ _ _ h => h) (Or.inl ⟨by rfl, ?y35⟩) (by assumption) ?z35
        case y35 => (intro w hSw; (try dsimp only at hSw); go_simp) <;> with_reducible rfl
        try simp only [Act.put, List.setIfInBounds_toArray, List.set_cons_zero, List.set_cons_succ]
        refine wpAnyH_ready (rs := [7]) (by kernel_rfl) (by simp) ?_
        refine (AllReadyH.cons (o := { dst := some 82, op := Go.Op.call { callee := Go.Callee.value (Go.Operand.func 14), args := #[Go.Operand.tmp 79, Go.Operand.tmp 81], argTypes := #[27, 3] }, type := 5, pos := "law.go:46", after := #[{ on := 4, ground := Go.Ground.data }, { on := 6, ground := Go.Ground.data }, { on := 3, ground := Go.Ground.chain }, { on := 3, ground := Go.Ground.guard }], guard := some (3, false) }) rfl (fun K hK => ?_) AllReadyH.nil)
        · skip
          go_simp
          with_reducible refine (RD.out _).mono ?_
          rintro q_ u1 ⟨rfl, hb⟩
          have B1 := Lib.hid (vian HN.out B0.out hb)
          have T1 := Lib.hid (T0.out.below hb)
          have V1 := Lib.hid (V0.out.below hb)
          have O1 := Lib.hid (O0.out.below hb)
          clear hb B0 T0 V0 O0
          refine hK.out _ _ ?s36 (fun hNew => ?r36)
          case s36 => exact ⟨T1.out.2.1, V1.out.2.1, O1.out.2.1⟩
          clear hK K hHeld
          have hHeld := hNew
          clear hNew
          refine wpAnyH_ready (rs := [11]) (by kernel_rfl) (by simp) ?_
          refine (AllReadyH.cons (o := { dst := some 86, op := Go.Op.call { callee := Go.Callee.value (Go.Operand.func 15), args := #[Go.Operand.tmp 83, Go.Operand.tmp 85], argTypes := #[24, 3] }, type := 5, pos := "law.go:46", after := #[{ on := 8, ground := Go.Ground.data }, { on := 10, ground := Go.Ground.data }, { on := 7, ground := Go.Ground.chain }, { on := 3, ground := Go.Ground.guard }], guard := some (3, false) }) rfl (fun K hK => ?_) AllReadyH.nil)
          · skip
            go_simp
            with_reducible refine (RRD.out _).mono ?_
            rintro q_ u2 ⟨rfl, hb⟩
            have B2 := Lib.hid (vian HN.out B1.out hb)
            have T2 := Lib.hid (T1.out.below hb)
            have V2 := Lib.hid (V1.out.below hb)
            have O2 := Lib.hid (O1.out.below hb)
            clear hb B1 T1 V1 O1
            refine hK.out _ _ ?s37 (fun hNew => ?r37)
            case s37 => exact ⟨T2.out.2.1, V2.out.2.1, O2.out.2.1⟩
            clear hK K hHeld
            have hHeld := hNew
            clear hNew
            refine wpAnyH_take (i := 12) (oi := { dst := some 87, op := Go.Op.binOp Go.BinOp.neq 5 (Go.Operand.tmp 82) (Go.Operand.tmp 86) 5, type := 4, pos := "law.go:46", after := #[{ on := 7, ground := Go.Ground.data }, { on := 11, ground := Go.Ground.data }, { on := 3, ground := Go.Ground.guard }], guard := some (3, false) }) (v := ?v38) rfl (by kernel_rfl) (by kernel_rfl) (by kernel_rfl) (fun _ _ _ h => h) (Or.inl ⟨by rfl, ?y38⟩) (by assumption) ?z38
            case y38 => (intro w hSw; (try dsimp only at hSw); go_simp) <;> with_reducible rfl
            try simp only [Act.put, List.setIfInBounds_toArray, List.set_cons_zero, List.set_cons_succ]
            refine wpAnyH_take (i := 13) (oi := { dst := some 88, op := Go.Op.pick (Go.Operand.tmp 78) (Go.Operand.const (Go.Value.bool true)) (Go.Operand.tmp 87), type := 4, pos := "law.go:46", after := #[{ on := 3, ground := Go.Ground.data }, { on := 12, ground := Go.Ground.data }], guard := none }) (v := ?v39) rfl (by kernel_rfl) (by kernel_rfl) (by kernel_rfl) (fun _ _ _ h => h) (Or.inl ⟨by rfl, ?y39⟩) (by assumption) ?z39
            case y39 => (intro w hSw; (try dsimp only at hSw); go_simp) <;> with_reducible rfl
            try simp only [Act.put, List.setIfInBounds_toArray, List.set_cons_zero, List.set_cons_succ]
            refine wpAnyH_done (by kernel_rfl) ?_ _
            clear hHeld
            go_wp2
            go_roundg (gk - 1)
            exact ⟨t + 1, m', by omega, by have := TG.out; omega, by simp, OK'.out, B2.out, V2.out, T2.out⟩
            case measure => have := TG.out; omega
    · have et : t = n := by omega
      subst et
      go_wp2
      go_ret
      exact ⟨rfl, B0.out⟩
theorem plays_walk (v : TV) (l : Value) (hv : v.ok) (w : World) (h : OpsIn w l) (hG : Glob w) : Calls Tryd.prog 3 #[.agg #[.int .u16 v.c, .int .u8 v.a, .int .u8 v.m, .int .u8 v.k, .bool v.o], l] w fun q_ w' => q_ = .returned (.bool true) ∧ Below w.heap.size w w' := by
  obtain ⟨c, a_, m, k, o⟩ := v
  obtain ⟨a, n, cp, rfl, hm, f, g, h, hh, hi⟩ := h
  by_cases h0 : 60 < n
  · exact plays_long c a_ m k _ o hv rfl a n cp h0 w hG
  · exact plays_some c a_ m k _ o hv rfl a n cp h0 f g h hh w hG hi
end Go.Proofs.YtjjmnjkmfkcdoaaDoor
