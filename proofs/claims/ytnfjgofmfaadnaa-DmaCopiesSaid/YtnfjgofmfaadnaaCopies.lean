/-
  The walk through DmaCopies: for every page, number of cycles and page; no condition but that each number fits.
-/
import Derived.Test.YtnfjgofmfaadnaaAwk
import Derived.Deep.Cut
import Derived.Deep.LoopGhost
import Derived.BigQuiet
import Derived.Laws.StructEq
namespace Go.Proofs.Ytnfjgofmfaadnaa
open Go.ChangeShapes Go.WideShapes Go.ChangeAt Go.RowKit
set_option linter.unusedVariables false
set_option linter.unusedSimpArgs false
set_option maxRecDepth 100000
theorem at_from {y : Int} (h0 : 0 ≤ y) (h1 : y < 256) {s : Nat} (h : s < 160) : fromV (atV y s) = baseV y + s ∧ numV (atV y s) = s ∧ busyV (atV y s) = true := by
  have b := base_bd h0 h1
  have e : (atV y s).l = 160 - (s : Int) := by unfold atV; dsimp only; omega
  have g : ¬ (atV y s).l ≤ 0 := by rw [e]; omega
  obtain ⟨_, i2, i3, i4⟩ := tick_busy g
  refine ⟨?_, ?_, i4⟩
  · rw [i2, e]
    show (baseV y + _) % 65536 = _
    omega
  · rw [i3, e]; omega
theorem at_done (y : Int) {s : Nat} (h : 160 ≤ s) : fromV (atV y s) = 0 ∧ numV (atV y s) = 0 ∧ busyV (atV y s) = false := by
  have g : (atV y s).l ≤ 0 := by unfold atV; dsimp only; omega
  exact (tick_idle g).2
theorem byte_all {P : Int → Prop} (h : ∀ n : Fin 256, P (n.val : Int)) (a : Int) (h1 : 0 ≤ a) (h2 : a < 256) : P a := by
  have := h ⟨a.toNat, by omega⟩
  rwa [show ((a.toNat : Nat) : Int) = a by omega] at this
theorem base_low (y : Int) (h0 : 0 ≤ y) (h1 : y < 256) : bits .and .u16 (baseV y) 255 = 0 := byte_all (P := fun y => bits .and .u16 (baseV y) 255 = 0) (by decide +kernel) y h0 h1
set_option maxHeartbeats 8000000 in
theorem copies_g (x cy y : Int) (c0 : 0 ≤ cy) (c1 : cy < 256) (y0 : 0 ≤ y) (y1 : y < 256) (N : Nat) (hN : N < 161) (e0 : cy.tmod 161 = N) (L : Int) (hL : (atV x N).l = L) (B : Int) (hB : baseV y = B) (C1 : ∀ W, Calls Try.prog 9 #[.agg #[.int .u8 0, .int .i64 0], .int .u8 x] W fun q_ w' => q_ = .returned (.agg #[.int .u8 x, .int .i64 160]) ∧ Below W.heap.size W w') (C2 : (∀ t : Nat, ∀ W, Calls Try.prog 11 #[.agg #[.int .u8 (atV x t).p, .int .i64 (atV x t).l]] W fun q_ w' => q_ = .returned (.tuple #[.agg #[.int .u8 (atV x (t + 1)).p, .int .i64 (atV x (t + 1)).l], .int .u16 (fromV (atV x t)), .int .i64 (numV (atV x t)), .bool (busyV (atV x t))]) ∧ Below W.heap.size W w')) (C3 : ∀ W, Calls Try.prog 9 #[.agg #[.int .u8 x, .int .i64 L], .int .u8 y] W fun q_ w' => q_ = .returned (.agg #[.int .u8 y, .int .i64 160]) ∧ Below W.heap.size W w') (C4 : (∀ t : Nat, ∀ W, Calls Try.prog 11 #[.agg #[.int .u8 (atV y t).p, .int .i64 (atV y t).l]] W fun q_ w' => q_ = .returned (.tuple #[.agg #[.int .u8 (atV y (t + 1)).p, .int .i64 (atV y (t + 1)).l], .int .u16 (fromV (atV y t)), .int .i64 (numV (atV y t)), .bool (busyV (atV y t))]) ∧ Below W.heap.size W w')) (C5 : (∀ t : Nat, ∀ W, Calls Try.prog 13 #[.agg #[.int .u8 (atV y t).p, .int .i64 (atV y t).l]] W fun q_ w' => q_ = .returned (.bool (busyV (atV y t))) ∧ Below W.heap.size W w')) (w : World) : Calls Try.prog 4 #[.int .u8 x, .int .u8 cy, .int .u8 y] w fun q_ w' => q_ = .returned (.bool true) ∧ Below w.heap.size w w' := by
  suffices hall : ∀ (n_ : Nat) (W0 : World), n_ ≤ W0.heap.size → Below n_ W0 w → Calls Try.prog 4 #[.int .u8 x, .int .u8 cy, .int .u8 y] w fun q_ w' => q_ = .returned (.bool true) ∧ Below n_ W0 w' from hall _ _ (Nat.le_refl _) (Below.refl _ _)
  intro n_ W0 hn hB
  have HN := Lib.hid hn
  have BB := Lib.hid hB
  clear hn hB
  obtain ⟨q0, q1, _⟩ := base_bd y0 y1
  have q2 := base_low y y0 y1
  rw [hB] at q0 q1 q2
  have YY := Lib.hid (And.intro y0 y1)
  have HB := Lib.hid hB
  clear y0 y1 hB
  have K1 := Lib.hid C1
  have SC := Lib.hid C2
  have K3 := Lib.hid C3
  have SD := Lib.hid C4
  have BZ := Lib.hid C5
  clear C1 C2 C3 C4 C5
  have AW := Lib.hid awake_c
  have hnot : ∀ (x : Bool) (w : World), (Op.unary .not (.bool x)).run Try.prog w = .ok (.bool (!x)) w := fun _ _ => rfl
  go_enter Try.func4, Try.ntmps4
  go_wp2_with fail
  with_reducible refine (AW.out _).mono ?_
  rintro q_ w1 ⟨rfl, hb⟩
  have B1 := Lib.hid (vian HN.out BB.out hb)
  clear hb 
  go_wp2_with fail
  with_reducible refine (K1.out _).mono ?_
  rintro q_ w2 ⟨rfl, hb⟩
  have B2 := Lib.hid (vian HN.out B1.out hb)
  clear hb B1
  have Q_ := own1 w2 (.cells #[.int .u8 x, .int .i64 160] 26)
  have B3 := Lib.hid (vian HN.out B2.out Q_)
  have P3 := Lib.hid (Has.new w2 #[.int .u8 x, .int .i64 160] 26)
  have LP := Lib.hid (show n_ ≤ w2.heap.size from Nat.le_trans HN.out B2.out.size)
  clear Q_
  go_upto_region 4 with (fail)
  generalize w2.alloc (.cells #[.int .u8 x, .int .i64 160] 26) = w3 at B3 P3 ⊢
  generalize w2.heap.size = pb at P3 LP  ⊢
  clear B2 
  go_wp2
  go_loopg [21] N (fun g' i w5 => ∃ (t : Nat), t ≤ N ∧ g' + t = N ∧ i = .int .i64 t ∧ Below n_ W0 w5 ∧ Has w5 pb #[.int .u8 (atV x t).p, .int .i64 (atV x t).l])
  case atStart => exact ⟨0, by omega, by omega, rfl, B3.out, P3.out⟩
  case round =>
    obtain ⟨w5, hw5⟩ : ∃ q_, q_ = wr := ⟨_, rfl⟩
    subst hw5
    obtain ⟨t, ht, hg, rfl, hB, hP⟩ := hrel
    have TG := Lib.hid hg
    have B5 := Lib.hid hB
    have P5 := Lib.hid hP
    clear hg hB hP B3 P3
    by_cases hlt : t < N
    · have l1 : (t : Int) < N := by omega
      have TC := Lib.hid (SC.out t)
      obtain ⟨m, hm⟩ : ∃ q_, atV x t = q_ := ⟨_, rfl⟩
      obtain ⟨m', hm'⟩ : ∃ q_, atV x (t + 1) = q_ := ⟨_, rfl⟩
      rw [hm] at TC P5
      rw [hm'] at TC
      have HM := Lib.hid hm'
      clear hm hm'
      obtain ⟨hc, hf⟩ := P5.out.out
      go_wp2_with fail
      with_reducible refine (TC.out _).mono ?_
      rintro q_ u1 ⟨rfl, hb⟩
      clear hc hf
      have B1 := Lib.hid (vian HN.out B5.out hb)
      have P1 := Lib.hid (P5.out.below hb)
      clear hb B5 P5
      have B2 := Lib.hid (set2 B1.out pb LP.out (.int .u8 m'.p) (.int .i64 m'.l))
      have P2 := Lib.hid (P1.out.put2 (.int .u8 m'.p) (.int .i64 m'.l))
      obtain ⟨hc, hf⟩ := P1.out.out
      go_wp2
      clear hc hf
      go_roundg (N - (t + 1))
      · exact ⟨t + 1, by omega, by omega, by simp, B2.out, HM.out ▸ P2.out⟩
      case measure => have := TG.out; omega
    · have et : t = N := by omega
      subst et
      rw [show (#[.int .u8 (atV x t).p, .int .i64 (atV x t).l] : Array Value) = #[.int .u8 x, .int .i64 L] by rw [hL]; rfl] at P5
      clear hL
      obtain ⟨hc0, hf0⟩ := P5.out.out
      go_wp2_with fail
      with_reducible refine (K3.out _).mono ?_
      rintro q_ w6 ⟨rfl, hb⟩
      clear hc0 hf0
      have B6 := Lib.hid (vian HN.out B5.out hb)
      have P6 := Lib.hid (P5.out.below hb)
      clear hb B5 P5
      have B7 := Lib.hid (set2 B6.out pb LP.out (.int .u8 y) (.int .i64 160))
      have P7 := Lib.hid (P6.out.put2 (.int .u8 y) (.int .i64 160))
      obtain ⟨hc, hf⟩ := P6.out.out
      go_upto_region 9 with (fail)
      clear hc hf B6 P6
      generalize (World.setCell (World.setCell w6 ⟨pb, 0, none⟩ (.int .u8 y)) ⟨pb, 1, none⟩ (.int .i64 160)) = w7 at B7 P7 ⊢
      go_wp2
      go_loopg [34, 8] 200 (fun g' i k w8 => ∃ (s : Nat), s ≤ 200 ∧ g' + s = 200 ∧ i = .int .i64 s ∧ k = .int .u16 (if s = 0 then 0 else B) ∧ Below n_ W0 w8 ∧ Has w8 pb #[.int .u8 (atV y s).p, .int .i64 (atV y s).l])
      case atStart => exact ⟨0, by omega, by omega, rfl, rfl, B7.out, P7.out⟩
      case round =>
        obtain ⟨w8, hw8⟩ : ∃ q_, q_ = wr := ⟨_, rfl⟩
        subst hw8
        obtain ⟨s, hs, hg, rfl, rfl, hB, hP⟩ := hrel
        have SG := Lib.hid hg
        have B8 := Lib.hid hB
        have P8 := Lib.hid hP
        clear hg hB hP B7 P7
        by_cases hls : s < 200
        · have l2 : (s : Int) < 200 := by omega
          have TC := Lib.hid (SD.out s)
          have BC := Lib.hid (BZ.out (s + 1))
          by_cases h0 : s = 0
          · skip
            subst h0
            have e_ := at_from YY.out.1 YY.out.2 (s := 0) (by omega)
            rw [HB.out, show B + ((0 : Nat) : Int) = B by simp, show ((0 : Nat) : Int) = 0 from rfl] at e_
            rw [e_.1, e_.2.1, e_.2.2] at TC
            rw [(at_from YY.out.1 YY.out.2 (s := 0 + 1) (by omega)).2.2] at BC
            rw [if_pos rfl]
            have v1 : IntKind.u16.wrap B = B := by rw [IntKind.wrap_u16]; omega
            clear e_
            obtain ⟨m, hm⟩ : ∃ q_, atV y 0 = q_ := ⟨_, rfl⟩
            obtain ⟨m', hm'⟩ : ∃ q_, atV y (0 + 1) = q_ := ⟨_, rfl⟩
            rw [hm] at TC P8
            rw [hm'] at TC BC
            have HM := Lib.hid hm'
            clear hm hm'
            obtain ⟨hc, hf⟩ := P8.out.out
            go_wp2_with fail
            with_reducible refine (TC.out _).mono ?_
            rintro q_ u1 ⟨rfl, hb⟩
            clear hc hf
            have B1 := Lib.hid (vian HN.out B8.out hb)
            have P1 := Lib.hid (P8.out.below hb)
            clear hb B8 P8
            have B2 := Lib.hid (set2 B1.out pb LP.out (.int .u8 m'.p) (.int .i64 m'.l))
            have P2 := Lib.hid (P1.out.put2 (.int .u8 m'.p) (.int .i64 m'.l))
            obtain ⟨hc, hf⟩ := P1.out.out
            go_upto_region 17 with (fail)
            clear hc hf B1 P1
            generalize (World.setCell (World.setCell u1 ⟨pb, 0, none⟩ (.int .u8 m'.p)) ⟨pb, 1, none⟩ (.int .i64 m'.l)) = u2 at B2 P2 ⊢
            obtain ⟨hc, hf⟩ := P2.out.out
            go_wp2_with fail
            with_reducible refine (BC.out _).mono ?_
            rintro q_ u3 ⟨rfl, hb⟩
            clear hc hf
            have B3 := Lib.hid (vian HN.out B2.out hb)
            have P3 := Lib.hid (P2.out.below hb)
            clear hb B2 P2
            go_wp2
            go_roundg (200 - (0 + 1))
            · exact ⟨0 + 1, by omega, by omega, by simp <;> omega, by rw [if_neg (by omega)], B3.out, HM.out ▸ P3.out⟩
            case measure => have := SG.out; omega
          by_cases h1 : s < 159
          · skip
            have l3 : (s : Int) < 160 := by omega
            have l4 : (0 : Int) ≤ s := by omega
            have d1 : decide ((s : Int) < 160) = true := decide_eq_true l3
            have d0 : ((s : Int) == 0) = false := by simpa using h0
            have e_ := at_from YY.out.1 YY.out.2 (s := s) (by omega)
            rw [HB.out] at e_
            obtain ⟨F, hF⟩ : ∃ q_, B + (s : Int) = q_ := ⟨_, rfl⟩
            rw [hF] at e_
            rw [e_.1, e_.2.1, e_.2.2] at TC
            rw [if_neg h0]
            have v0 : IntKind.u16.wrap (s : Int) = s := by rw [IntKind.wrap_u16]; omega
            have v1 : IntKind.u16.wrap F = F := by rw [IntKind.wrap_u16]; omega
            rw [(at_from YY.out.1 YY.out.2 (s := s + 1) (by omega)).2.2] at BC
            have d2 : decide ((s : Int) < 159) = true := decide_eq_true (by omega)
            clear e_
            obtain ⟨m, hm⟩ : ∃ q_, atV y s = q_ := ⟨_, rfl⟩
            obtain ⟨m', hm'⟩ : ∃ q_, atV y (s + 1) = q_ := ⟨_, rfl⟩
            rw [hm] at TC P8
            rw [hm'] at TC BC
            have HM := Lib.hid hm'
            clear hm hm'
            obtain ⟨hc, hf⟩ := P8.out.out
            go_wp2_with fail
            with_reducible refine (TC.out _).mono ?_
            rintro q_ u1 ⟨rfl, hb⟩
            clear hc hf
            have B1 := Lib.hid (vian HN.out B8.out hb)
            have P1 := Lib.hid (P8.out.below hb)
            clear hb B8 P8
            have B2 := Lib.hid (set2 B1.out pb LP.out (.int .u8 m'.p) (.int .i64 m'.l))
            have P2 := Lib.hid (P1.out.put2 (.int .u8 m'.p) (.int .i64 m'.l))
            obtain ⟨hc, hf⟩ := P1.out.out
            go_upto_region 17 with (fail)
            clear hc hf B1 P1
            generalize (World.setCell (World.setCell u1 ⟨pb, 0, none⟩ (.int .u8 m'.p)) ⟨pb, 1, none⟩ (.int .i64 m'.l)) = u2 at B2 P2 ⊢
            obtain ⟨hc, hf⟩ := P2.out.out
            go_wp2_with fail
            with_reducible refine (BC.out _).mono ?_
            rintro q_ u3 ⟨rfl, hb⟩
            clear hc hf
            have B3 := Lib.hid (vian HN.out B2.out hb)
            have P3 := Lib.hid (P2.out.below hb)
            clear hb B2 P2
            go_wp2
            go_roundg (200 - (s + 1))
            · exact ⟨s + 1, by omega, by omega, by simp <;> omega, by rw [if_neg (by omega)], B3.out, HM.out ▸ P3.out⟩
            case measure => have := SG.out; omega
          by_cases h2 : s = 159
          · skip
            have l3 : (s : Int) < 160 := by omega
            have l4 : (0 : Int) ≤ s := by omega
            have d1 : decide ((s : Int) < 160) = true := decide_eq_true l3
            have d0 : ((s : Int) == 0) = false := by simpa using h0
            have e_ := at_from YY.out.1 YY.out.2 (s := s) (by omega)
            rw [HB.out] at e_
            obtain ⟨F, hF⟩ : ∃ q_, B + (s : Int) = q_ := ⟨_, rfl⟩
            rw [hF] at e_
            rw [e_.1, e_.2.1, e_.2.2] at TC
            rw [if_neg h0]
            have v0 : IntKind.u16.wrap (s : Int) = s := by rw [IntKind.wrap_u16]; omega
            have v1 : IntKind.u16.wrap F = F := by rw [IntKind.wrap_u16]; omega
            rw [(at_done y (s := s + 1) (by omega)).2.2] at BC
            have d2 : decide ((s : Int) < 159) = false := decide_eq_false (by omega)
            clear e_
            obtain ⟨m, hm⟩ : ∃ q_, atV y s = q_ := ⟨_, rfl⟩
            obtain ⟨m', hm'⟩ : ∃ q_, atV y (s + 1) = q_ := ⟨_, rfl⟩
            rw [hm] at TC P8
            rw [hm'] at TC BC
            have HM := Lib.hid hm'
            clear hm hm'
            obtain ⟨hc, hf⟩ := P8.out.out
            go_wp2_with fail
            with_reducible refine (TC.out _).mono ?_
            rintro q_ u1 ⟨rfl, hb⟩
            clear hc hf
            have B1 := Lib.hid (vian HN.out B8.out hb)
            have P1 := Lib.hid (P8.out.below hb)
            clear hb B8 P8
            have B2 := Lib.hid (set2 B1.out pb LP.out (.int .u8 m'.p) (.int .i64 m'.l))
            have P2 := Lib.hid (P1.out.put2 (.int .u8 m'.p) (.int .i64 m'.l))
            obtain ⟨hc, hf⟩ := P1.out.out
            go_upto_region 17 with (fail)
            clear hc hf B1 P1
            generalize (World.setCell (World.setCell u1 ⟨pb, 0, none⟩ (.int .u8 m'.p)) ⟨pb, 1, none⟩ (.int .i64 m'.l)) = u2 at B2 P2 ⊢
            obtain ⟨hc, hf⟩ := P2.out.out
            go_wp2_with fail
            with_reducible refine (BC.out _).mono ?_
            rintro q_ u3 ⟨rfl, hb⟩
            clear hc hf
            have B3 := Lib.hid (vian HN.out B2.out hb)
            have P3 := Lib.hid (P2.out.below hb)
            clear hb B2 P2
            go_wp2
            go_roundg (200 - (s + 1))
            · exact ⟨s + 1, by omega, by omega, by simp <;> omega, by rw [if_neg (by omega)], B3.out, HM.out ▸ P3.out⟩
            case measure => have := SG.out; omega
          · skip
            have l4 : (0 : Int) ≤ s := by omega
            have h0 : ¬ s = 0 := by omega
            have d1 : decide ((s : Int) < 160) = false := decide_eq_false (by omega)
            have d0 : ((s : Int) == 0) = false := by simpa using h0
            have e_ := at_done y (s := s) (by omega)
            rw [e_.1, e_.2.1, e_.2.2] at TC
            rw [if_neg h0]
            rw [(at_done y (s := s + 1) (by omega)).2.2] at BC
            have d2 : decide ((s : Int) < 159) = false := decide_eq_false (by omega)
            clear e_
            obtain ⟨m, hm⟩ : ∃ q_, atV y s = q_ := ⟨_, rfl⟩
            obtain ⟨m', hm'⟩ : ∃ q_, atV y (s + 1) = q_ := ⟨_, rfl⟩
            rw [hm] at TC P8
            rw [hm'] at TC BC
            have HM := Lib.hid hm'
            clear hm hm'
            obtain ⟨hc, hf⟩ := P8.out.out
            go_wp2_with fail
            with_reducible refine (TC.out _).mono ?_
            rintro q_ u1 ⟨rfl, hb⟩
            clear hc hf
            have B1 := Lib.hid (vian HN.out B8.out hb)
            have P1 := Lib.hid (P8.out.below hb)
            clear hb B8 P8
            have B2 := Lib.hid (set2 B1.out pb LP.out (.int .u8 m'.p) (.int .i64 m'.l))
            have P2 := Lib.hid (P1.out.put2 (.int .u8 m'.p) (.int .i64 m'.l))
            obtain ⟨hc, hf⟩ := P1.out.out
            go_upto_region 17 with (fail)
            clear hc hf B1 P1
            generalize (World.setCell (World.setCell u1 ⟨pb, 0, none⟩ (.int .u8 m'.p)) ⟨pb, 1, none⟩ (.int .i64 m'.l)) = u2 at B2 P2 ⊢
            obtain ⟨hc, hf⟩ := P2.out.out
            go_wp2_with fail
            with_reducible refine (BC.out _).mono ?_
            rintro q_ u3 ⟨rfl, hb⟩
            clear hc hf
            have B3 := Lib.hid (vian HN.out B2.out hb)
            have P3 := Lib.hid (P2.out.below hb)
            clear hb B2 P2
            go_wp2
            go_roundg (200 - (s + 1))
            · exact ⟨s + 1, by omega, by omega, by simp <;> omega, by rw [if_neg (by omega)], B3.out, HM.out ▸ P3.out⟩
            case measure => have := SG.out; omega
        · have es : s = 200 := by omega
          subst es
          rw [if_neg (by decide)]
          go_wp2
          go_ret
          exact ⟨rfl, B8.out⟩
theorem copies_walk (x cy y : Int) (x0 : 0 ≤ x) (x1 : x < 256) (c0 : 0 ≤ cy) (c1 : cy < 256) (y0 : 0 ≤ y) (y1 : y < 256) (w : World) : Calls Try.prog 4 #[.int .u8 x, .int .u8 cy, .int .u8 y] w fun q_ w' => q_ = .returned (.bool true) ∧ Below w.heap.size w w' := by
  obtain ⟨N, hN⟩ := Int.eq_ofNat_of_zero_le (show 0 ≤ cy % 161 by omega)
  have e0 : cy.tmod 161 = N := (Int.tmod_eq_emod_of_nonneg c0).trans hN
  exact copies_g x cy y c0 c1 y0 y1 N (by omega) e0 _ rfl _ rfl (fun W => write_c 0 0 x x0 x1 W) (fun t W => tick_c (atV x t) _ _ _ _ (at_ok x0 x1 t) (at_next x t) rfl rfl rfl W) (fun W => write_c x _ y y0 y1 W) (fun t W => tick_c (atV y t) _ _ _ _ (at_ok y0 y1 t) (at_next y t) rfl rfl rfl W) (fun t W => busy_c (atV y t) _ rfl W) w
end Go.Proofs.Ytnfjgofmfaadnaa
