/-
  The walk through SerialCounts: for every world in which the bytes lie as told; no other condition.
-/
import Derived.Test.YtlgdfikmdlhobaaOpn
import Derived.Deep.Cut
import Derived.Deep.LoopGhost
import Derived.BigQuiet
import Derived.WalkSmall
import Derived.Laws.StructEq
namespace Go.Proofs.Ytlgdfikmdlhobaa
open Go.ChangeShapes Go.WideShapes Go.ChangeAt Go.RowKit
set_option linter.unusedVariables false
set_option linter.unusedSimpArgs false
set_option maxRecDepth 100000
set_option maxHeartbeats 2000000 in
theorem counts_l0 (a : Option Addr) (n c : Nat) (a2 : Option Addr) (k c2 : Nat) (h0 : 60 < n) (w : World) : Calls Try.prog 7 #[.slice a n c, .slice a2 k c2] w fun q_ w' => q_ = .returned (.bool true) ∧ Below w.heap.size w w' := by
  suffices hall : ∀ (n_ : Nat) (W0 : World), n_ ≤ W0.heap.size → Below n_ W0 w → Calls Try.prog 7 #[.slice a n c, .slice a2 k c2] w fun q_ w' => q_ = .returned (.bool true) ∧ Below n_ W0 w' from hall _ _ (Nat.le_refl _) (Below.refl _ _)
  intro n_ W0 hn hB
  have HN := Lib.hid hn
  have BB := Lib.hid hB
  clear hn hB
  have AW := Lib.hid awake_c
  have h0I : (60 : Int) < n := by omega
  have hnot : ∀ (x : Bool) (w : World), (Op.unary .not (.bool x)).run Try.prog w = .ok (.bool (!x)) w := fun _ _ => rfl
  go_enter Try.func7, Try.ntmps7
  go_wp2_with fail
  with_reducible refine (AW.out _).mono ?_
  rintro q_ w1 ⟨rfl, hb⟩
  have B1 := Lib.hid (vian HN.out BB.out hb)
  clear hb 
  go_wp2_with fail
  with_reducible refine (AW.out _).mono ?_
  rintro q_ w2 ⟨rfl, hb⟩
  have B2 := Lib.hid (vian HN.out B1.out hb)
  clear hb B1
  go_wp2
  go_ret
  exact ⟨rfl, B2.out⟩
set_option maxHeartbeats 2000000 in
theorem counts_l1 (a : Option Addr) (n c : Nat) (a2 : Option Addr) (k c2 : Nat) (h0 : ¬ 60 < n) (h1 : k < n) (w : World) : Calls Try.prog 7 #[.slice a n c, .slice a2 k c2] w fun q_ w' => q_ = .returned (.bool true) ∧ Below w.heap.size w w' := by
  suffices hall : ∀ (n_ : Nat) (W0 : World), n_ ≤ W0.heap.size → Below n_ W0 w → Calls Try.prog 7 #[.slice a n c, .slice a2 k c2] w fun q_ w' => q_ = .returned (.bool true) ∧ Below n_ W0 w' from hall _ _ (Nat.le_refl _) (Below.refl _ _)
  intro n_ W0 hn hB
  have HN := Lib.hid hn
  have BB := Lib.hid hB
  clear hn hB
  have AW := Lib.hid awake_c
  have h0I : ¬ (60 : Int) < n := by omega
  have h1I : (k : Int) < n := by omega
  have hnot : ∀ (x : Bool) (w : World), (Op.unary .not (.bool x)).run Try.prog w = .ok (.bool (!x)) w := fun _ _ => rfl
  go_enter Try.func7, Try.ntmps7
  go_wp2_with fail
  with_reducible refine (AW.out _).mono ?_
  rintro q_ w1 ⟨rfl, hb⟩
  have B1 := Lib.hid (vian HN.out BB.out hb)
  clear hb 
  go_wp2_with fail
  with_reducible refine (AW.out _).mono ?_
  rintro q_ w2 ⟨rfl, hb⟩
  have B2 := Lib.hid (vian HN.out B1.out hb)
  clear hb B1
  go_wp2
  go_ret
  exact ⟨rfl, B2.out⟩
set_option maxHeartbeats 8000000 in
theorem counts_some (f g : Nat → Int) (hf : ∀ i, 0 ≤ f i ∧ f i < 256) (hg : ∀ i, 0 ≤ g i ∧ g i < 256) (a : Option Addr) (n c : Nat) (a2 : Option Addr) (k c2 : Nat) (h0 : ¬ 60 < n) (h1 : ¬ k < n) (w : World) (hm1 : (0 < n → ∃ qb qo, a = some ⟨qb, qo, none⟩ ∧ qb < w.heap.size ∧ ∀ j, j < n → w.cell? ⟨qb, qo + j, none⟩ = some (.int .u8 (f j)))) (hm2 : (0 < k → ∃ qb qo, a2 = some ⟨qb, qo, none⟩ ∧ qb < w.heap.size ∧ ∀ j, j < k → w.cell? ⟨qb, qo + j, none⟩ = some (.int .u8 (g j)))) : Calls Try.prog 7 #[.slice a n c, .slice a2 k c2] w fun q_ w' => q_ = .returned (.bool true) ∧ Below w.heap.size w w' := by
  suffices hall : ∀ (n_ : Nat) (W0 : World), n_ ≤ W0.heap.size → Below n_ W0 w → (0 < n → ∃ qb qo, a = some ⟨qb, qo, none⟩ ∧ qb < n_ ∧ ∀ j, j < n → W0.cell? ⟨qb, qo + j, none⟩ = some (.int .u8 (f j))) → (0 < k → ∃ qb qo, a2 = some ⟨qb, qo, none⟩ ∧ qb < n_ ∧ ∀ j, j < k → W0.cell? ⟨qb, qo + j, none⟩ = some (.int .u8 (g j))) → Calls Try.prog 7 #[.slice a n c, .slice a2 k c2] w fun q_ w' => q_ = .returned (.bool true) ∧ Below n_ W0 w' from hall _ _ (Nat.le_refl _) (Below.refl _ _) hm1 hm2
  intro n_ W0 hn hB hI hJ
  have HN := Lib.hid hn
  have BB := Lib.hid hB
  have HI := Lib.hid hI
  have HJ := Lib.hid hJ
  have HF := Lib.hid hf
  have HG := Lib.hid hg
  clear hn hB hI hJ hm1 hm2 hf hg
  have h0I : ¬ (60 : Int) < n := by omega
  have h1I : ¬ (k : Int) < n := by omega
  have AW := Lib.hid awake_c
  have hnot : ∀ (x : Bool) (w : World), (Op.unary .not (.bool x)).run Try.prog w = .ok (.bool (!x)) w := fun _ _ => rfl
  go_enter Try.func7, Try.ntmps7
  go_wp2_with fail
  with_reducible refine (AW.out _).mono ?_
  rintro q_ w1 ⟨rfl, hb⟩
  have B1 := Lib.hid (vian HN.out BB.out hb)
  clear hb 
  have Q_ := own1 w1 (.cells #[.int .u8 0, .int .u8 0, .int .u8 0, .int .i64 0, .int .i64 0, .int .i64 0] 25)
  have B2 := Lib.hid (vian HN.out B1.out Q_)
  have P2 := Lib.hid (Has.new w1 #[.int .u8 0, .int .u8 0, .int .u8 0, .int .i64 0, .int .i64 0, .int .i64 0] 25)
  have LP := Lib.hid (show n_ ≤ w1.heap.size from Nat.le_trans HN.out B1.out.size)
  clear Q_
  go_upto_region 4 with (fail)
  generalize w1.alloc (.cells #[.int .u8 0, .int .u8 0, .int .u8 0, .int .i64 0, .int .i64 0, .int .i64 0] 25) = w2 at B2 P2 ⊢
  generalize w1.heap.size = pb at P2 LP  ⊢
  clear B1 
  go_wp2
  go_loopg [27, 6, 7] n (fun g' i cnt las wr => ∃ (t : Nat) (d0 c0 L0 b0 n0 S0 : Int), t ≤ n ∧ g' + t = n ∧ i = .int .i64 t ∧ cnt = .int .i64 S0 ∧ las = .int .u8 L0 ∧ PV.ok ⟨d0, c0, L0, b0, n0, S0⟩ ∧ S0 ≤ t ∧ Below n_ W0 wr ∧ Has wr pb #[.int .u8 d0, .int .u8 c0, .int .u8 L0, .int .i64 b0, .int .i64 n0, .int .i64 S0])
  case atStart => exact ⟨0, 0, 0, 0, 0, 0, 0, by omega, by omega, rfl, rfl, rfl, zero_ok, by omega, B2.out, P2.out⟩
  case round =>
    obtain ⟨w3, hw3⟩ : ∃ q_, q_ = wr := ⟨_, rfl⟩
    subst hw3
    obtain ⟨t, d0, c0, L0, b0, n0, S0, ht, hg, rfl, rfl, rfl, hok, hS, hB, hP⟩ := hrel
    have TG := Lib.hid hg
    have OK := Lib.hid hok
    have B3 := Lib.hid hB
    have P3 := Lib.hid hP
    have S0a : 0 ≤ S0 := hok.2.2.2.2.2.1
    have S0b : S0 ≤ 60 := by omega
    clear hg hok hB hP B2 P2
    by_cases hlt : t < n
    · have l1 : (t : Int) < n := by omega
      have l2 : (t : Int) < k := by omega
      have l0 : (0 : Int) ≤ t := by omega
      obtain ⟨qa, ao, rfl, hqa, hcA⟩ := HI.out (by omega)
      obtain ⟨qd, od, rfl, hqd, hcD⟩ := HJ.out (by omega)
      have QA := Lib.hid hqa
      have QD := Lib.hid hqd
      have EA := Lib.hid (hcA t hlt)
      have ED := Lib.hid (hcD t (by omega))
      have xb := HF.out t
      have yb := HG.out t
      generalize f t = x at EA xb
      generalize g t = y at ED yb
      obtain ⟨Y, rfl⟩ := Int.eq_ofNat_of_zero_le yb.1
      have yb2 : Y < 256 := by omega
      clear hcA hcD hqa hqd
      have K1 := Lib.hid (show ∀ W, Calls Try.prog 11 #[.agg #[.int .u8 d0, .int .u8 c0, .int .u8 L0, .int .i64 b0, .int .i64 n0, .int .i64 S0], .int .i64 0, .int .u8 (Y : Int)] W fun q_ w' => q_ = .returned (.agg #[.int .u8 (Y : Int), .int .u8 c0, .int .u8 L0, .int .i64 b0, .int .i64 n0, .int .i64 S0]) ∧ Below W.heap.size W w' from fun W => write_c ⟨d0, c0, L0, b0, n0, S0⟩ ⟨Y, c0, L0, b0, n0, S0⟩ 0 Y OK.out yb.1 yb.2 rfl W)
      have OK1 := Lib.hid (show PV.ok ⟨Y, c0, L0, b0, n0, S0⟩ from wr_ok OK.out 0 Y yb.1 yb.2)
      go_upto_region 8 with (fail)
      have B4 := Lib.hid B3.out.drew
      have P4 := Lib.hid P3.out.drew
      clear B3 P3 OK
      by_cases hgb : begins x
      · have hcx : x / 128 * 128 + x % 2 = 129 := by have := hgb.1; have := hgb.2; omega
        have HE : wrV ⟨Y, c0, L0, b0, n0, S0⟩ 1 x = ⟨(Y : Int), 129, (Y : Int), 8, 0, S0 + 1⟩ := by
          rw [wr_begins _ x hgb, hcx]
          dsimp only
          rw [show (S0 + 1) % 65536 = S0 + 1 by omega]
        have OK2 := Lib.hid (show PV.ok ⟨(Y : Int), 129, (Y : Int), 8, 0, S0 + 1⟩ from HE ▸ wr_ok OK1.out 1 x xb.1 xb.2)
        have K2 := Lib.hid (show ∀ W, Calls Try.prog 11 #[.agg #[.int .u8 (Y : Int), .int .u8 c0, .int .u8 L0, .int .i64 b0, .int .i64 n0, .int .i64 S0], .int .i64 1, .int .u8 x] W fun q_ w' => q_ = .returned (.agg #[.int .u8 (Y : Int), .int .u8 129, .int .u8 (Y : Int), .int .i64 8, .int .i64 0, .int .i64 (S0 + 1)]) ∧ Below W.heap.size W w' from fun W => write_c ⟨Y, c0, L0, b0, n0, S0⟩ ⟨(Y : Int), 129, (Y : Int), 8, 0, S0 + 1⟩ 1 x OK1.out xb.1 xb.2 HE W)
        have e129 : bits .and .u8 x 129 = 129 := (and129 x xb.1 xb.2).trans hcx
        clear HE hcx
        refine wp_region_held_drew (S := (fun w' => w'.cell? ⟨qa, ao + t, none⟩ = some (.int .u8 x) ∧ w'.cell? ⟨qd, od + t, none⟩ = some (.int .u8 (Y : Int)))) (by kernel_rfl) ⟨(B4.out.cell (p := ⟨qa, ao + t, none⟩) QA.out).trans EA.out, (B4.out.cell (p := ⟨qd, od + t, none⟩) QD.out).trans ED.out⟩ (fun hHeld => ?_)
        generalize World.drew w3 = u4 at hHeld B4 P4 ⊢
        refine wpAnyH_take (i := 1) (oi := { dst := some 31, op := Go.Op.move (Go.Operand.tmp 1), type := 41, pos := "law.go:120", after := #[], guard := none }) (v := ?v1) rfl (by kernel_rfl) (by kernel_rfl) (by kernel_rfl) (fun _ _ _ h => h) (Or.inl ⟨by rfl, ?y1⟩) (by assumption) ?z1
        case y1 => (intro w hSw; (try dsimp only at hSw); go_simp) <;> with_reducible rfl
        try simp only [Act.put, List.setIfInBounds_toArray, List.set_cons_zero, List.set_cons_succ]
        refine wpAnyH_take (i := 2) (oi := { dst := some 32, op := Go.Op.move (Go.Operand.tmp 8), type := 3, pos := "law.go:120", after := #[], guard := none }) (v := ?v2) rfl (by kernel_rfl) (by kernel_rfl) (by kernel_rfl) (fun _ _ _ h => h) (Or.inl ⟨by rfl, ?y2⟩) (by assumption) ?z2
        case y2 => (intro w hSw; (try dsimp only at hSw); go_simp) <;> with_reducible rfl
        try simp only [Act.put, List.setIfInBounds_toArray, List.set_cons_zero, List.set_cons_succ]
        refine wpAnyH_take (i := 3) (oi := { dst := some 33, op := Go.Op.indexAddr 41 (Go.Operand.tmp 31) (Go.Operand.tmp 32), type := 0, pos := "law.go:120", after := #[{ on := 1, ground := Go.Ground.data }, { on := 2, ground := Go.Ground.data }], guard := none }) (v := ?v3) rfl (by kernel_rfl) (by kernel_rfl) (by kernel_rfl) (fun _ _ _ h => h) (Or.inl ⟨by rfl, ?y3⟩) (by assumption) ?z3
        case y3 => (intro w hSw; (try dsimp only at hSw); go_simp) <;> with_reducible rfl
        try simp only [Act.put, List.setIfInBounds_toArray, List.set_cons_zero, List.set_cons_succ]
        refine wpAnyH_take (i := 4) (oi := { dst := some 34, op := Go.Op.load 5 (Go.Operand.tmp 33), type := 5, pos := "law.go:120", after := #[{ on := 3, ground := Go.Ground.data }], guard := none }) (v := ?v4) rfl (by kernel_rfl) (by kernel_rfl) (by kernel_rfl) (fun _ _ _ h => h) (Or.inl ⟨by rfl, ?y4⟩) (by assumption) ?z4
        case y4 => (intro w hSw; (try dsimp only at hSw); go_simp) <;> with_reducible rfl
        try simp only [Act.put, List.setIfInBounds_toArray, List.set_cons_zero, List.set_cons_succ]
        refine wpAnyH_take (i := 6) (oi := { dst := some 36, op := Go.Op.move (Go.Operand.tmp 0), type := 41, pos := "law.go:120", after := #[], guard := none }) (v := ?v5) rfl (by kernel_rfl) (by kernel_rfl) (by kernel_rfl) (fun _ _ _ h => h) (Or.inl ⟨by rfl, ?y5⟩) (by assumption) ?z5
        case y5 => (intro w hSw; (try dsimp only at hSw); go_simp) <;> with_reducible rfl
        try simp only [Act.put, List.setIfInBounds_toArray, List.set_cons_zero, List.set_cons_succ]
        refine wpAnyH_take (i := 7) (oi := { dst := some 37, op := Go.Op.move (Go.Operand.tmp 8), type := 3, pos := "law.go:120", after := #[], guard := none }) (v := ?v6) rfl (by kernel_rfl) (by kernel_rfl) (by kernel_rfl) (fun _ _ _ h => h) (Or.inl ⟨by rfl, ?y6⟩) (by assumption) ?z6
        case y6 => (intro w hSw; (try dsimp only at hSw); go_simp) <;> with_reducible rfl
        try simp only [Act.put, List.setIfInBounds_toArray, List.set_cons_zero, List.set_cons_succ]
        refine wpAnyH_take (i := 8) (oi := { dst := some 38, op := Go.Op.indexAddr 41 (Go.Operand.tmp 36) (Go.Operand.tmp 37), type := 0, pos := "law.go:120", after := #[{ on := 6, ground := Go.Ground.data }, { on := 7, ground := Go.Ground.data }], guard := none }) (v := ?v7) rfl (by kernel_rfl) (by kernel_rfl) (by kernel_rfl) (fun _ _ _ h => h) (Or.inl ⟨by rfl, ?y7⟩) (by assumption) ?z7
        case y7 => (intro w hSw; (try dsimp only at hSw); go_simp) <;> with_reducible rfl
        try simp only [Act.put, List.setIfInBounds_toArray, List.set_cons_zero, List.set_cons_succ]
        refine wpAnyH_take (i := 9) (oi := { dst := some 39, op := Go.Op.load 5 (Go.Operand.tmp 38), type := 5, pos := "law.go:120", after := #[{ on := 8, ground := Go.Ground.data }], guard := none }) (v := ?v8) rfl (by kernel_rfl) (by kernel_rfl) (by kernel_rfl) (fun _ _ _ h => h) (Or.inl ⟨by rfl, ?y8⟩) (by assumption) ?z8
        case y8 => (intro w hSw; (try dsimp only at hSw); go_simp) <;> with_reducible rfl
        try simp only [Act.put, List.setIfInBounds_toArray, List.set_cons_zero, List.set_cons_succ]
        refine wpAnyH_ready (rs := [0]) (by kernel_rfl) (by simp) ?_
        refine (AllReadyH.cons (o := { dst := some 30, op := Go.Op.load 25 (Go.Operand.tmp 5), type := 25, pos := "law.go:120", after := #[], guard := none }) rfl (fun K hK => ?_) AllReadyH.nil)
        · skip
          obtain ⟨hc, hfz⟩ := P4.out.out
          go_simp
          clear hc hfz
          have B5 := B4
          have P5 := P4
          clear B4 P4
          refine hK.out _ _ ?s9 (fun hNew => ?r9)
          case s9 => exact ⟨(B5.out.cell (p := ⟨qa, ao + t, none⟩) QA.out).trans EA.out, (B5.out.cell (p := ⟨qd, od + t, none⟩) QD.out).trans ED.out⟩
          clear hK K hHeld
          have hHeld := hNew
          clear hNew
          refine wpAnyH_ready (rs := [5]) (by kernel_rfl) (by simp) ?_
          refine (AllReadyH.cons (o := { dst := some 35, op := Go.Op.call { callee := Go.Callee.value (Go.Operand.func 11), args := #[Go.Operand.tmp 30, Go.Operand.const (Go.Value.int Go.IntKind.i64 0), Go.Operand.tmp 34], argTypes := #[25, 3, 5] }, type := 25, pos := "law.go:120", after := #[{ on := 0, ground := Go.Ground.data }, { on := 4, ground := Go.Ground.data }], guard := none }) rfl (fun K hK => ?_) AllReadyH.nil)
          · skip
            go_simp
            with_reducible refine (K1.out _).mono ?_
            rintro q_ u6 ⟨rfl, hb⟩
            have B6 := Lib.hid (vian HN.out B5.out hb)
            have P6 := Lib.hid (P5.out.below hb)
            clear hb
            clear B5 P5
            refine hK.out _ _ ?s10 (fun hNew => ?r10)
            case s10 => exact ⟨(B6.out.cell (p := ⟨qa, ao + t, none⟩) QA.out).trans EA.out, (B6.out.cell (p := ⟨qd, od + t, none⟩) QD.out).trans ED.out⟩
            clear hK K hHeld
            have hHeld := hNew
            clear hNew
            refine wpAnyH_ready (rs := [10]) (by kernel_rfl) (by simp) ?_
            refine (AllReadyH.cons (o := { dst := some 40, op := Go.Op.call { callee := Go.Callee.value (Go.Operand.func 11), args := #[Go.Operand.tmp 35, Go.Operand.const (Go.Value.int Go.IntKind.i64 1), Go.Operand.tmp 39], argTypes := #[25, 3, 5] }, type := 25, pos := "law.go:120", after := #[{ on := 5, ground := Go.Ground.data }, { on := 9, ground := Go.Ground.data }, { on := 5, ground := Go.Ground.chain }], guard := none }) rfl (fun K hK => ?_) AllReadyH.nil)
            · skip
              go_simp
              with_reducible refine (K2.out _).mono ?_
              rintro q_ u7 ⟨rfl, hb⟩
              have B7 := Lib.hid (vian HN.out B6.out hb)
              have P7 := Lib.hid (P6.out.below hb)
              clear hb
              clear B6 P6
              refine hK.out _ _ ?s11 (fun hNew => ?r11)
              case s11 => exact ⟨(B7.out.cell (p := ⟨qa, ao + t, none⟩) QA.out).trans EA.out, (B7.out.cell (p := ⟨qd, od + t, none⟩) QD.out).trans ED.out⟩
              clear hK K hHeld
              have hHeld := hNew
              clear hNew
              refine wpAnyH_ready (rs := [11]) (by kernel_rfl) (by simp) ?_
              refine (AllReadyH.cons (o := { dst := none, op := Go.Op.store 25 (Go.Operand.tmp 5) (Go.Operand.tmp 40), type := 0, pos := "law.go:120", after := #[{ on := 10, ground := Go.Ground.data }, { on := 10, ground := Go.Ground.chain }, { on := 0, ground := Go.Ground.phase }, { on := 1, ground := Go.Ground.phase }, { on := 2, ground := Go.Ground.phase }, { on := 3, ground := Go.Ground.phase }, { on := 4, ground := Go.Ground.phase }, { on := 5, ground := Go.Ground.phase }, { on := 6, ground := Go.Ground.phase }, { on := 7, ground := Go.Ground.phase }, { on := 8, ground := Go.Ground.phase }, { on := 9, ground := Go.Ground.phase }, { on := 10, ground := Go.Ground.phase }], guard := none }) rfl (fun K hK => ?_) AllReadyH.nil)
              · skip
                obtain ⟨hc, hfz⟩ := P7.out.out
                go_simp
                clear hc hfz
                have P8 := Lib.hid (P7.out.put6 (.int .u8 (Y : Int)) (.int .u8 129) (.int .u8 (Y : Int)) (.int .i64 8) (.int .i64 0) (.int .i64 (S0 + 1)))
                have B8 := Lib.hid (set6 B7.out pb LP.out (.int .u8 (Y : Int)) (.int .u8 129) (.int .u8 (Y : Int)) (.int .i64 8) (.int .i64 0) (.int .i64 (S0 + 1)))
                clear B7 P7
                refine hK.out _ _ ?s12 (fun hNew => ?r12)
                case s12 => exact ⟨(B8.out.cell (p := ⟨qa, ao + t, none⟩) QA.out).trans EA.out, (B8.out.cell (p := ⟨qd, od + t, none⟩) QD.out).trans ED.out⟩
                clear hK K hHeld
                have hHeld := hNew
                clear hNew
                generalize (World.setCell (World.setCell (World.setCell (World.setCell (World.setCell (World.setCell _ ⟨pb, 0, none⟩ _) ⟨pb, 1, none⟩ _) ⟨pb, 2, none⟩ _) ⟨pb, 3, none⟩ _) ⟨pb, 4, none⟩ _) ⟨pb, 5, none⟩ _) = u8 at hHeld B8 P8 ⊢
                refine wpAnyH_done (by kernel_rfl) ?_ _
                clear hHeld
                obtain ⟨hc, hf⟩ := P8.out.out
                have eA := (B8.out.cell (p := ⟨qa, ao + t, none⟩) QA.out).trans EA.out
                have eD := (B8.out.cell (p := ⟨qd, od + t, none⟩) QD.out).trans ED.out
                go_upto_region 12 with (fail)
                go_wp2
                clear hc hf eA eD
                go_loopg [58] Y (fun g' i wr => ∃ (s : Nat) (d c b r : Int), s ≤ Y ∧ g' + s = Y ∧ i = .int .i64 s ∧ PV.ok ⟨d, c, Y, b, r, S0 + 1⟩ ∧ b * 128 - r = 1024 - s ∧ Below n_ W0 wr ∧ Has wr pb #[.int .u8 d, .int .u8 c, .int .u8 (Y : Int), .int .i64 b, .int .i64 r, .int .i64 (S0 + 1)])
                case atStart => exact ⟨0, Y, 129, 8, 0, by omega, by omega, rfl, OK2.out, by omega, B8.out, P8.out⟩
                case round =>
                  obtain ⟨w9, hw9⟩ : ∃ q_, q_ = wr := ⟨_, rfl⟩
                  subst hw9
                  obtain ⟨s, d, c, b, r, hs, hg, rfl, hok, hlf, hB, hP⟩ := hrel
                  have SG := Lib.hid hg
                  have OK3 := Lib.hid hok
                  have B9 := Lib.hid hB
                  have P9 := Lib.hid hP
                  have rb : 0 ≤ r ∧ r ≤ 127 := hok.2.2.2.2.1
                  have b1 : 0 < b := by omega
                  have LF := Lib.hid hlf
                  clear hg hok hB hP hlf rb B8 P8 OK2
                  by_cases hls : s < Y
                  · have l3 : (s : Int) < Y := by omega
                    obtain ⟨⟨d2, c2', L2, b2, r2, S2⟩, hq⟩ : ∃ q_, tickV ⟨d, c, Y, b, r, S0 + 1⟩ = q_ := ⟨_, rfl⟩
                    obtain ⟨ir, hir⟩ : ∃ q_, tickI ⟨d, c, Y, b, r, S0 + 1⟩ = q_ := ⟨_, rfl⟩
                    have OK4 := tick_ok OK3.out
                    have lf := tick_left OK3.out b1
                    have kp := tick_keeps ⟨d, c, Y, b, r, S0 + 1⟩
                    have tc := fun W => tick_c _ _ ir OK3.out hq hir W
                    rw [hq] at OK4 lf kp
                    obtain ⟨rfl, rfl⟩ : S2 = S0 + 1 ∧ L2 = Y := kp
                    have lf2 : b2 * 128 - r2 = b * 128 - r - 1 := lf
                    have TC := Lib.hid (show ∀ W, Calls Try.prog 9 #[.agg #[.int .u8 d, .int .u8 c, .int .u8 (Y : Int), .int .i64 b, .int .i64 r, .int .i64 (S0 + 1)]] W fun q_ w' => q_ = .returned (.tuple #[.agg #[.int .u8 d2, .int .u8 c2', .int .u8 (Y : Int), .int .i64 b2, .int .i64 r2, .int .i64 (S0 + 1)], .bool ir]) ∧ Below W.heap.size W w' from tc)
                    have OK5 := Lib.hid OK4
                    have LF2 := Lib.hid lf2
                    clear tc hq hir OK4 lf lf2 OK3
                    obtain ⟨hc, hf⟩ := P9.out.out
                    go_wp2_with fail
                    with_reducible refine (TC.out _).mono ?_
                    rintro q_ w10 ⟨rfl, hb⟩
                    clear hc hf
                    have B10 := Lib.hid (vian HN.out B9.out hb)
                    have P10 := Lib.hid (P9.out.below hb)
                    clear hb B9 P9
                    obtain ⟨hc, hf⟩ := P10.out.out
                    go_wp2
                    clear hc hf
                    go_roundg (Y - (s + 1))
                    · exact ⟨s + 1, d2, c2', b2, r2, by omega, by omega, by simp, OK5.out, by have := LF.out; have := LF2.out; omega, set6 B10.out pb LP.out _ _ _ _ _ _, P10.out.put6 _ _ _ _ _ _⟩
                    case measure => have := SG.out; omega
                  · have et : s = Y := by omega
                    subst et
                    have bt : decide (0 < b) = true := decide_eq_true b1
                    obtain ⟨hc, hf⟩ := P9.out.out
                    have eA := (B9.out.cell (p := ⟨qa, ao + t, none⟩) QA.out).trans EA.out
                    go_upto_region 16 with (fail)
                    go_quiet (fail)
                    clear hc hf eA
                    go_wp2
                    go_roundg (n - (t + 1))
                    · exact ⟨t + 1, d, c, s, b, r, S0 + 1, by omega, by omega, by simp, rfl, rfl, OK3.out, by omega, below_drewN B9.out _, P9.out.below (below_drewN (Below.refl _ _) _)⟩
                    case measure => have := TG.out; omega
      · obtain ⟨cx, hcx⟩ : ∃ q_, x / 128 * 128 + x % 2 = q_ := ⟨_, rfl⟩
        have HE : wrV ⟨Y, c0, L0, b0, n0, S0⟩ 1 x = ⟨(Y : Int), cx, L0, 0, n0, S0⟩ := by
          rw [wr_not _ x hgb, hcx]
        have OK2 := Lib.hid (show PV.ok ⟨(Y : Int), cx, L0, 0, n0, S0⟩ from HE ▸ wr_ok OK1.out 1 x xb.1 xb.2)
        have K2 := Lib.hid (show ∀ W, Calls Try.prog 11 #[.agg #[.int .u8 (Y : Int), .int .u8 c0, .int .u8 L0, .int .i64 b0, .int .i64 n0, .int .i64 S0], .int .i64 1, .int .u8 x] W fun q_ w' => q_ = .returned (.agg #[.int .u8 (Y : Int), .int .u8 cx, .int .u8 L0, .int .i64 0, .int .i64 n0, .int .i64 S0]) ∧ Below W.heap.size W w' from fun W => write_c ⟨Y, c0, L0, b0, n0, S0⟩ ⟨(Y : Int), cx, L0, 0, n0, S0⟩ 1 x OK1.out xb.1 xb.2 HE W)
        have e129 : bits .and .u8 x 129 = cx := (and129 x xb.1 xb.2).trans hcx
        have ev : ¬ cx = 129 := fun h => hgb (show x / 128 = 1 ∧ x % 2 = 1 by omega)
        have ev2 : (cx == 129) = false := by simpa using ev
        clear HE hcx
        refine wp_region_held_drew (S := (fun w' => w'.cell? ⟨qa, ao + t, none⟩ = some (.int .u8 x) ∧ w'.cell? ⟨qd, od + t, none⟩ = some (.int .u8 (Y : Int)))) (by kernel_rfl) ⟨(B4.out.cell (p := ⟨qa, ao + t, none⟩) QA.out).trans EA.out, (B4.out.cell (p := ⟨qd, od + t, none⟩) QD.out).trans ED.out⟩ (fun hHeld => ?_)
        generalize World.drew w3 = u4 at hHeld B4 P4 ⊢
        refine wpAnyH_take (i := 1) (oi := { dst := some 31, op := Go.Op.move (Go.Operand.tmp 1), type := 41, pos := "law.go:120", after := #[], guard := none }) (v := ?v13) rfl (by kernel_rfl) (by kernel_rfl) (by kernel_rfl) (fun _ _ _ h => h) (Or.inl ⟨by rfl, ?y13⟩) (by assumption) ?z13
        case y13 => (intro w hSw; (try dsimp only at hSw); go_simp) <;> with_reducible rfl
        try simp only [Act.put, List.setIfInBounds_toArray, List.set_cons_zero, List.set_cons_succ]
        refine wpAnyH_take (i := 2) (oi := { dst := some 32, op := Go.Op.move (Go.Operand.tmp 8), type := 3, pos := "law.go:120", after := #[], guard := none }) (v := ?v14) rfl (by kernel_rfl) (by kernel_rfl) (by kernel_rfl) (fun _ _ _ h => h) (Or.inl ⟨by rfl, ?y14⟩) (by assumption) ?z14
        case y14 => (intro w hSw; (try dsimp only at hSw); go_simp) <;> with_reducible rfl
        try simp only [Act.put, List.setIfInBounds_toArray, List.set_cons_zero, List.set_cons_succ]
        refine wpAnyH_take (i := 3) (oi := { dst := some 33, op := Go.Op.indexAddr 41 (Go.Operand.tmp 31) (Go.Operand.tmp 32), type := 0, pos := "law.go:120", after := #[{ on := 1, ground := Go.Ground.data }, { on := 2, ground := Go.Ground.data }], guard := none }) (v := ?v15) rfl (by kernel_rfl) (by kernel_rfl) (by kernel_rfl) (fun _ _ _ h => h) (Or.inl ⟨by rfl, ?y15⟩) (by assumption) ?z15
        case y15 => (intro w hSw; (try dsimp only at hSw); go_simp) <;> with_reducible rfl
        try simp only [Act.put, List.setIfInBounds_toArray, List.set_cons_zero, List.set_cons_succ]
        refine wpAnyH_take (i := 4) (oi := { dst := some 34, op := Go.Op.load 5 (Go.Operand.tmp 33), type := 5, pos := "law.go:120", after := #[{ on := 3, ground := Go.Ground.data }], guard := none }) (v := ?v16) rfl (by kernel_rfl) (by kernel_rfl) (by kernel_rfl) (fun _ _ _ h => h) (Or.inl ⟨by rfl, ?y16⟩) (by assumption) ?z16
        case y16 => (intro w hSw; (try dsimp only at hSw); go_simp) <;> with_reducible rfl
        try simp only [Act.put, List.setIfInBounds_toArray, List.set_cons_zero, List.set_cons_succ]
        refine wpAnyH_take (i := 6) (oi := { dst := some 36, op := Go.Op.move (Go.Operand.tmp 0), type := 41, pos := "law.go:120", after := #[], guard := none }) (v := ?v17) rfl (by kernel_rfl) (by kernel_rfl) (by kernel_rfl) (fun _ _ _ h => h) (Or.inl ⟨by rfl, ?y17⟩) (by assumption) ?z17
        case y17 => (intro w hSw; (try dsimp only at hSw); go_simp) <;> with_reducible rfl
        try simp only [Act.put, List.setIfInBounds_toArray, List.set_cons_zero, List.set_cons_succ]
        refine wpAnyH_take (i := 7) (oi := { dst := some 37, op := Go.Op.move (Go.Operand.tmp 8), type := 3, pos := "law.go:120", after := #[], guard := none }) (v := ?v18) rfl (by kernel_rfl) (by kernel_rfl) (by kernel_rfl) (fun _ _ _ h => h) (Or.inl ⟨by rfl, ?y18⟩) (by assumption) ?z18
        case y18 => (intro w hSw; (try dsimp only at hSw); go_simp) <;> with_reducible rfl
        try simp only [Act.put, List.setIfInBounds_toArray, List.set_cons_zero, List.set_cons_succ]
        refine wpAnyH_take (i := 8) (oi := { dst := some 38, op := Go.Op.indexAddr 41 (Go.Operand.tmp 36) (Go.Operand.tmp 37), type := 0, pos := "law.go:120", after := #[{ on := 6, ground := Go.Ground.data }, { on := 7, ground := Go.Ground.data }], guard := none }) (v := ?v19) rfl (by kernel_rfl) (by kernel_rfl) (by kernel_rfl) (fun _ _ _ h => h) (Or.inl ⟨by rfl, ?y19⟩) (by assumption) ?z19
        case y19 => (intro w hSw; (try dsimp only at hSw); go_simp) <;> with_reducible rfl
        try simp only [Act.put, List.setIfInBounds_toArray, List.set_cons_zero, List.set_cons_succ]
        refine wpAnyH_take (i := 9) (oi := { dst := some 39, op := Go.Op.load 5 (Go.Operand.tmp 38), type := 5, pos := "law.go:120", after := #[{ on := 8, ground := Go.Ground.data }], guard := none }) (v := ?v20) rfl (by kernel_rfl) (by kernel_rfl) (by kernel_rfl) (fun _ _ _ h => h) (Or.inl ⟨by rfl, ?y20⟩) (by assumption) ?z20
        case y20 => (intro w hSw; (try dsimp only at hSw); go_simp) <;> with_reducible rfl
        try simp only [Act.put, List.setIfInBounds_toArray, List.set_cons_zero, List.set_cons_succ]
        refine wpAnyH_ready (rs := [0]) (by kernel_rfl) (by simp) ?_
        refine (AllReadyH.cons (o := { dst := some 30, op := Go.Op.load 25 (Go.Operand.tmp 5), type := 25, pos := "law.go:120", after := #[], guard := none }) rfl (fun K hK => ?_) AllReadyH.nil)
        · skip
          obtain ⟨hc, hfz⟩ := P4.out.out
          go_simp
          clear hc hfz
          have B5 := B4
          have P5 := P4
          clear B4 P4
          refine hK.out _ _ ?s21 (fun hNew => ?r21)
          case s21 => exact ⟨(B5.out.cell (p := ⟨qa, ao + t, none⟩) QA.out).trans EA.out, (B5.out.cell (p := ⟨qd, od + t, none⟩) QD.out).trans ED.out⟩
          clear hK K hHeld
          have hHeld := hNew
          clear hNew
          refine wpAnyH_ready (rs := [5]) (by kernel_rfl) (by simp) ?_
          refine (AllReadyH.cons (o := { dst := some 35, op := Go.Op.call { callee := Go.Callee.value (Go.Operand.func 11), args := #[Go.Operand.tmp 30, Go.Operand.const (Go.Value.int Go.IntKind.i64 0), Go.Operand.tmp 34], argTypes := #[25, 3, 5] }, type := 25, pos := "law.go:120", after := #[{ on := 0, ground := Go.Ground.data }, { on := 4, ground := Go.Ground.data }], guard := none }) rfl (fun K hK => ?_) AllReadyH.nil)
          · skip
            go_simp
            with_reducible refine (K1.out _).mono ?_
            rintro q_ u6 ⟨rfl, hb⟩
            have B6 := Lib.hid (vian HN.out B5.out hb)
            have P6 := Lib.hid (P5.out.below hb)
            clear hb
            clear B5 P5
            refine hK.out _ _ ?s22 (fun hNew => ?r22)
            case s22 => exact ⟨(B6.out.cell (p := ⟨qa, ao + t, none⟩) QA.out).trans EA.out, (B6.out.cell (p := ⟨qd, od + t, none⟩) QD.out).trans ED.out⟩
            clear hK K hHeld
            have hHeld := hNew
            clear hNew
            refine wpAnyH_ready (rs := [10]) (by kernel_rfl) (by simp) ?_
            refine (AllReadyH.cons (o := { dst := some 40, op := Go.Op.call { callee := Go.Callee.value (Go.Operand.func 11), args := #[Go.Operand.tmp 35, Go.Operand.const (Go.Value.int Go.IntKind.i64 1), Go.Operand.tmp 39], argTypes := #[25, 3, 5] }, type := 25, pos := "law.go:120", after := #[{ on := 5, ground := Go.Ground.data }, { on := 9, ground := Go.Ground.data }, { on := 5, ground := Go.Ground.chain }], guard := none }) rfl (fun K hK => ?_) AllReadyH.nil)
            · skip
              go_simp
              with_reducible refine (K2.out _).mono ?_
              rintro q_ u7 ⟨rfl, hb⟩
              have B7 := Lib.hid (vian HN.out B6.out hb)
              have P7 := Lib.hid (P6.out.below hb)
              clear hb
              clear B6 P6
              refine hK.out _ _ ?s23 (fun hNew => ?r23)
              case s23 => exact ⟨(B7.out.cell (p := ⟨qa, ao + t, none⟩) QA.out).trans EA.out, (B7.out.cell (p := ⟨qd, od + t, none⟩) QD.out).trans ED.out⟩
              clear hK K hHeld
              have hHeld := hNew
              clear hNew
              refine wpAnyH_ready (rs := [11]) (by kernel_rfl) (by simp) ?_
              refine (AllReadyH.cons (o := { dst := none, op := Go.Op.store 25 (Go.Operand.tmp 5) (Go.Operand.tmp 40), type := 0, pos := "law.go:120", after := #[{ on := 10, ground := Go.Ground.data }, { on := 10, ground := Go.Ground.chain }, { on := 0, ground := Go.Ground.phase }, { on := 1, ground := Go.Ground.phase }, { on := 2, ground := Go.Ground.phase }, { on := 3, ground := Go.Ground.phase }, { on := 4, ground := Go.Ground.phase }, { on := 5, ground := Go.Ground.phase }, { on := 6, ground := Go.Ground.phase }, { on := 7, ground := Go.Ground.phase }, { on := 8, ground := Go.Ground.phase }, { on := 9, ground := Go.Ground.phase }, { on := 10, ground := Go.Ground.phase }], guard := none }) rfl (fun K hK => ?_) AllReadyH.nil)
              · skip
                obtain ⟨hc, hfz⟩ := P7.out.out
                go_simp
                clear hc hfz
                have P8 := Lib.hid (P7.out.put6 (.int .u8 (Y : Int)) (.int .u8 cx) (.int .u8 L0) (.int .i64 0) (.int .i64 n0) (.int .i64 S0))
                have B8 := Lib.hid (set6 B7.out pb LP.out (.int .u8 (Y : Int)) (.int .u8 cx) (.int .u8 L0) (.int .i64 0) (.int .i64 n0) (.int .i64 S0))
                clear B7 P7
                refine hK.out _ _ ?s24 (fun hNew => ?r24)
                case s24 => exact ⟨(B8.out.cell (p := ⟨qa, ao + t, none⟩) QA.out).trans EA.out, (B8.out.cell (p := ⟨qd, od + t, none⟩) QD.out).trans ED.out⟩
                clear hK K hHeld
                have hHeld := hNew
                clear hNew
                generalize (World.setCell (World.setCell (World.setCell (World.setCell (World.setCell (World.setCell _ ⟨pb, 0, none⟩ _) ⟨pb, 1, none⟩ _) ⟨pb, 2, none⟩ _) ⟨pb, 3, none⟩ _) ⟨pb, 4, none⟩ _) ⟨pb, 5, none⟩ _) = u8 at hHeld B8 P8 ⊢
                refine wpAnyH_done (by kernel_rfl) ?_ _
                clear hHeld
                obtain ⟨hc, hf⟩ := P8.out.out
                have eA := (B8.out.cell (p := ⟨qa, ao + t, none⟩) QA.out).trans EA.out
                have eD := (B8.out.cell (p := ⟨qd, od + t, none⟩) QD.out).trans ED.out
                go_upto_region 12 with (fail)
                go_wp2
                clear hc hf eA eD
                go_loopg [58] Y (fun g' i wr => ∃ (s : Nat), s ≤ Y ∧ g' + s = Y ∧ i = .int .i64 s ∧ Below n_ W0 wr ∧ Has wr pb #[.int .u8 (Y : Int), .int .u8 cx, .int .u8 L0, .int .i64 0, .int .i64 n0, .int .i64 S0])
                case atStart => exact ⟨0, by omega, by omega, rfl, B8.out, P8.out⟩
                case round =>
                  obtain ⟨w9, hw9⟩ : ∃ q_, q_ = wr := ⟨_, rfl⟩
                  subst hw9
                  obtain ⟨s, hs, hg, rfl, hB, hP⟩ := hrel
                  have SG := Lib.hid hg
                  have B9 := Lib.hid hB
                  have P9 := Lib.hid hP
                  clear hg hB hP B8 P8
                  by_cases hls : s < Y
                  · have l3 : (s : Int) < Y := by omega
                    have ti := tick_idle (p := ⟨(Y : Int), cx, L0, 0, n0, S0⟩) (by show (0 : Int) ≤ 0; decide)
                    have TC := Lib.hid (show ∀ W, Calls Try.prog 9 #[.agg #[.int .u8 (Y : Int), .int .u8 cx, .int .u8 L0, .int .i64 0, .int .i64 n0, .int .i64 S0]] W fun q_ w' => q_ = .returned (.tuple #[.agg #[.int .u8 (Y : Int), .int .u8 cx, .int .u8 L0, .int .i64 0, .int .i64 n0, .int .i64 S0], .bool false]) ∧ Below W.heap.size W w' from fun W => tick_c _ ⟨(Y : Int), cx, L0, 0, n0, S0⟩ false OK2.out ti.1 ti.2 W)
                    clear ti
                    obtain ⟨hc, hf⟩ := P9.out.out
                    go_wp2_with fail
                    with_reducible refine (TC.out _).mono ?_
                    rintro q_ w10 ⟨rfl, hb⟩
                    clear hc hf
                    have B10 := Lib.hid (vian HN.out B9.out hb)
                    have P10 := Lib.hid (P9.out.below hb)
                    clear hb B9 P9
                    obtain ⟨hc, hf⟩ := P10.out.out
                    go_wp2
                    clear hc hf
                    go_roundg (Y - (s + 1))
                    · exact ⟨s + 1, by omega, by omega, by simp, set6 B10.out pb LP.out _ _ _ _ _ _, P10.out.put6 _ _ _ _ _ _⟩
                    case measure => have := SG.out; omega
                  · have et : s = Y := by omega
                    subst et
                    obtain ⟨hc, hf⟩ := P9.out.out
                    have eA := (B9.out.cell (p := ⟨qa, ao + t, none⟩) QA.out).trans EA.out
                    go_upto_region 16 with (fail)
                    go_quiet (fail)
                    clear hc hf eA
                    go_wp2
                    go_roundg (n - (t + 1))
                    · exact ⟨t + 1, s, cx, L0, 0, n0, S0, by omega, by omega, by simp, rfl, rfl, OK2.out, by omega, below_drewN B9.out _, P9.out.below (below_drewN (Below.refl _ _) _)⟩
                    case measure => have := TG.out; omega
    · have et : t = n := by omega
      subst et
      go_wp2
      go_ret
      exact ⟨rfl, B3.out⟩
theorem counts_walk (v u : Value) (w : World) (hv : BytesIn w v) (hu : BytesIn w u) : Calls Try.prog 7 #[v, u] w fun q_ w' => q_ = .returned (.bool true) ∧ Below w.heap.size w w' := by
  obtain ⟨a, n, c, rfl, _, f, hf, hi⟩ := hv
  obtain ⟨a2, k, c2, rfl, _, g, hg, hj⟩ := hu
  by_cases h0 : 60 < n
  · exact counts_l0 a n c a2 k c2 h0 w
  by_cases h1 : k < n
  · exact counts_l1 a n c a2 k c2 h0 h1 w
  · exact counts_some f g hf hg a n c a2 k c2 h0 h1 w hi hj
end Go.Proofs.Ytlgdfikmdlhobaa
