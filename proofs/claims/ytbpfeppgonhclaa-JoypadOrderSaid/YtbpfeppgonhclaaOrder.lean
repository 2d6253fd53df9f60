/-
  The walk through JoypadOrder: for every plan that lies in memory; no other condition but that each number fits.
-/
import Derived.Test.YtbpfeppgonhclaaAwk
import Derived.Test.YtbpfeppgonhclaaOpn
import Derived.Test.YtbpfeppgonhclaaAt
import Derived.Test.YtbpfeppgonhclaaRw
import Derived.Test.YtbpfeppgonhclaaPlans
import Derived.Deep.Cut
import Derived.Laws.StructEq
import Derived.Deep.LoopGhost
import Derived.BigQuiet
import Derived.Deep.QuietTactic
namespace Go.Proofs.Ytbpfeppgonhclaa
open Go.ChangeShapes Go.WideShapes Go.ChangeAt Go.RowKit
set_option linter.unusedVariables false
set_option linter.unusedSimpArgs false
set_option maxRecDepth 100000
set_option maxHeartbeats 2000000 in
theorem order_long (a : Option Addr) (n c : Nat) (h0 : 100 < n) (y x m : Int) (hy : 0 ≤ y) (hy2 : y < 18446744073709551616) (hx : 0 ≤ x) (hx2 : x < 18446744073709551616) (hm : 0 ≤ m) (hm2 : m < 256) (w : World) : Calls Try.prog 7 #[.slice a n c, .int .u64 y, .int .u64 x, .int .u8 m] w fun q_ w' => q_ = .returned (.bool true) ∧ Below w.heap.size w w' := by
  suffices hall : ∀ (n_ : Nat) (W0 : World), n_ ≤ W0.heap.size → Below n_ W0 w → Calls Try.prog 7 #[.slice a n c, .int .u64 y, .int .u64 x, .int .u8 m] w fun q_ w' => q_ = .returned (.bool true) ∧ Below n_ W0 w' from hall _ _ (Nat.le_refl _) (Below.refl _ _)
  intro n_ W0 hn hB
  have HN := Lib.hid hn
  have BB := Lib.hid hB
  clear hn hB
  have AW := Lib.hid awake_c
  have h0I : (100 : Int) < n := by omega
  have hnot : ∀ (x : Bool) (w : World), (Op.unary .not (.bool x)).run Try.prog w = .ok (.bool (!x)) w := fun _ _ => rfl
  go_enter Try.func7, Try.ntmps7
  go_wp2_with fail
  with_reducible refine (AW.out _).mono ?_
  rintro q_ w1 ⟨rfl, hb⟩
  have B1 := Lib.hid (vian HN.out BB.out hb)
  clear hb 
  go_wp2_with fail
  with_reducible refine (AW.out _).mono ?_
  rintro q_ w2 ⟨rfl, hb⟩
  have B2 := Lib.hid (vian HN.out B1.out hb)
  clear hb B1
  go_wp2
  go_ret
  exact ⟨rfl, B2.out⟩
set_option maxHeartbeats 2000000 in
theorem order_none (a : Option Addr) (n c : Nat) (h0 : n = 0) (y x m : Int) (hy : 0 ≤ y) (hy2 : y < 18446744073709551616) (hx : 0 ≤ x) (hx2 : x < 18446744073709551616) (hm : 0 ≤ m) (hm2 : m < 256) (w : World) : Calls Try.prog 7 #[.slice a n c, .int .u64 y, .int .u64 x, .int .u8 m] w fun q_ w' => q_ = .returned (.bool true) ∧ Below w.heap.size w w' := by
  suffices hall : ∀ (n_ : Nat) (W0 : World), n_ ≤ W0.heap.size → Below n_ W0 w → Calls Try.prog 7 #[.slice a n c, .int .u64 y, .int .u64 x, .int .u8 m] w fun q_ w' => q_ = .returned (.bool true) ∧ Below n_ W0 w' from hall _ _ (Nat.le_refl _) (Below.refl _ _)
  intro n_ W0 hn hB
  have HN := Lib.hid hn
  have BB := Lib.hid hB
  clear hn hB
  have AW := Lib.hid awake_c
  subst h0
  have hnot : ∀ (x : Bool) (w : World), (Op.unary .not (.bool x)).run Try.prog w = .ok (.bool (!x)) w := fun _ _ => rfl
  go_enter Try.func7, Try.ntmps7
  go_wp2_with fail
  with_reducible refine (AW.out _).mono ?_
  rintro q_ w1 ⟨rfl, hb⟩
  have B1 := Lib.hid (vian HN.out BB.out hb)
  clear hb 
  go_wp2_with fail
  with_reducible refine (AW.out _).mono ?_
  rintro q_ w2 ⟨rfl, hb⟩
  have B2 := Lib.hid (vian HN.out B1.out hb)
  clear hb B1
  go_wp2
  go_ret
  exact ⟨rfl, B2.out⟩
/-- No two of the first k times are alike. -/
def Dst (f : Nat → Int) (k : Nat) : Prop := ∀ i j, i < k → j < k → f i = f j → i = j
theorem Dst.next {f : Nat → Int} {k : Nat} (h : Dst f k) (h2 : ∀ j, j < k → f j ≠ f k) : Dst f (k + 1) := by
  intro i j hi hj e
  by_cases e1 : i = k
  · by_cases e2 : j = k
    · omega
    · subst e1; exact absurd e.symm (h2 j (by omega))
  · by_cases e2 : j = k
    · subst e2; exact absurd e (h2 i (by omega))
    · exact h i j (by omega) (by omega) e
/-- What the law's third loop finds. -/
def Sty (f : Nat → Int) (x m : Int) (k : Nat) (b : Bool) : Prop := b = true → ∀ j, j < k → ¬ (x < f j ∧ f j - x ≤ m)
theorem Sty.no {f : Nat → Int} {x m : Int} {k : Nat} : Sty f x m k false := fun h => by cases h
theorem Sty.next {f : Nat → Int} {x m : Int} {k : Nat} {b : Bool} (h : Sty f x m k b) (h2 : ¬ (x < f k ∧ f k - x ≤ m)) : Sty f x m (k + 1) b := by
  intro e j hj
  by_cases e1 : j = k
  · subst e1; exact h2
  · exact h e j (by omega)
theorem Sty.at {f g : Nat → Int} {x m : Int} {k : Nat} (hm : 0 ≤ m) (h : Sty f x m k true) : atD f g (x + m) k = atD f g x k :=
  (atD_stay fun j hj => by have := h rfl j hj; omega).symm
set_option maxHeartbeats 8000000 in
theorem order_some (a : Option Addr) (n c : Nat) (h0 : ¬ 100 < n) (h00 : 0 < n) (f g : Nat → Int) (hf : ∀ i, 0 ≤ f i ∧ f i < 18446744073709551616) (hg : ∀ i, 0 ≤ g i ∧ g i < 256) (y x m : Int) (hy : 0 ≤ y) (hy2 : y < 18446744073709551616) (hx : 0 ≤ x) (hx2 : x < 18446744073709551616) (hm : 0 ≤ m) (hm2 : m < 256) (w : World) (hmem : (0 < n → ∃ qb qo, a = some ⟨qb, qo, none⟩ ∧ qb < w.heap.size ∧ ∀ j, j < n → w.cell? ⟨qb, qo + j * 2, none⟩ = some (.int .u64 (f j)) ∧ w.cell? ⟨qb, qo + j * 2 + 1, none⟩ = some (.int .u8 (g j)))) : Calls Try.prog 7 #[.slice a n c, .int .u64 y, .int .u64 x, .int .u8 m] w fun q_ w' => q_ = .returned (.bool true) ∧ Below w.heap.size w w' := by
  suffices hall : ∀ (n_ : Nat) (W0 : World), n_ ≤ W0.heap.size → Below n_ W0 w → (0 < n → ∃ qb qo, a = some ⟨qb, qo, none⟩ ∧ qb < n_ ∧ ∀ j, j < n → W0.cell? ⟨qb, qo + j * 2, none⟩ = some (.int .u64 (f j)) ∧ W0.cell? ⟨qb, qo + j * 2 + 1, none⟩ = some (.int .u8 (g j))) → Calls Try.prog 7 #[.slice a n c, .int .u64 y, .int .u64 x, .int .u8 m] w fun q_ w' => q_ = .returned (.bool true) ∧ Below n_ W0 w' from hall _ _ (Nat.le_refl _) (Below.refl _ _) hmem
  intro n_ W0 hn hB hI
  have HN := Lib.hid hn
  have BB := Lib.hid hB
  have HIN := Lib.hid hI
  have HF := Lib.hid hf
  have HG := Lib.hid hg
  clear hn hB hI hmem hf hg
  have AW := Lib.hid awake_c
  have h0I : ¬ (100 : Int) < n := by omega
  have h00I : (0 : Int) < n := by omega
  have hne : ¬ n = 0 := by omega
  have hneI : ¬ (n : Int) = 0 := by omega
  have kb : 0 ≤ y % n ∧ y % n < n := ⟨Int.emod_nonneg _ (by omega), Int.emod_lt_of_pos _ (by omega)⟩
  have d1 : decide ((100 : Int) < n) = false := decide_eq_false h0I
  have d2 : ((n : Int) == 0) = false := by simpa using hne
  obtain ⟨k, hk⟩ : ∃ k : Nat, y % n = (k : Int) := ⟨(y % n).toNat, by omega⟩
  have KN := Lib.hid (show k < n by omega)
  have hkI : (k : Int) < n := by omega
  have hk2 : y.tmod n = (k : Int) := by rw [Int.tmod_eq_emod_of_nonneg hy]; exact hk
  clear kb
  have hnot : ∀ (x : Bool) (w : World), (Op.unary .not (.bool x)).run Try.prog w = .ok (.bool (!x)) w := fun _ _ => rfl
  go_enter Try.func7, Try.ntmps7
  go_wp2_with fail
  with_reducible refine (AW.out _).mono ?_
  rintro q_ w1 ⟨rfl, hb⟩
  have B1 := Lib.hid (vian HN.out BB.out hb)
  clear hb 
  go_upto_region 5 with (fail)
  clear hk hk2 d1 d2
  have R1 := Lib.hid (World.ownsRow_nil w1 n_ 41 2)
  go_wp2
  go_loopg [9, 10, 37] n (fun g' v u i wr => ∃ (t : Nat), t ≤ n ∧ g' + t = n ∧ i = .int .i64 t ∧ wr.ownsRow n_ 41 2 v t (plL f g t) ∧ wr.ownsRow n_ 41 2 u t (plL (fun i => f (trn n k i)) (fun i => g (trn n k i)) t) ∧ Apt v u ∧ Dst f t ∧ Below n_ W0 wr)
  case atStart => exact ⟨0, by omega, by omega, rfl, R1.out, R1.out, fun k h => by simp [Value.ownBlock] at h, fun i j h => absurd h (by omega), B1.out⟩
  case round =>
    obtain ⟨t, ht, hg, rfl, hR, hS, hA, hD, hB⟩ := hrel
    have TG := Lib.hid hg
    have B0 := Lib.hid hB
    have R0 := Lib.hid hR
    have S0 := Lib.hid hS
    have A0 := Lib.hid hA
    have D0 := Lib.hid hD
    clear hg hB hR hS hA hD R1 B1
    by_cases hlt : t < n
    · have l1 : (t : Int) < n := by omega
      have l0 : (0 : Int) ≤ t := by omega
      obtain ⟨qb, qo, rfl, hqb, hcells⟩ := HIN.out (by omega)
      have QQ := Lib.hid hqb
      have E0 := Lib.hid (hcells t hlt).1
      have E1 := Lib.hid (hcells t hlt).2
      have fb := HF.out t
      have gb := HG.out t
      have HC := Lib.hid hcells
      clear hcells hqb
      go_upto_region 9 with (fail)
      go_wp2
      go_loopg [41] t (fun g' i ws => ∃ (s : Nat), s ≤ t ∧ g' + s = t ∧ i = .int .i64 s ∧ (∀ j, j < s → f j ≠ f t) ∧ (ws.ownsRow n_ 41 2 u9 t (plL f g t) ∧ ws.ownsRow n_ 41 2 u10 t (plL (fun i => f (trn n k i)) (fun i => g (trn n k i)) t)) ∧ Below n_ W0 ws)
      case atStart => exact ⟨0, by omega, by omega, rfl, fun j h => absurd h (by omega), ⟨R0.out, S0.out⟩, B0.out⟩
      case round =>
        obtain ⟨s, hs, hg, rfl, hne2, hRS, hB⟩ := hrel
        have SG := Lib.hid hg
        have B1 := Lib.hid hB
        have RS := Lib.hid hRS
        have NE := Lib.hid hne2
        clear hg hB hRS hne2 B0 R0 S0
        have e0 := (B1.out.cell (p := ⟨qb, qo + t * 2, none⟩) QQ.out).trans E0.out
        by_cases hst : s < t
        · have l2 : (s : Int) < t := by omega
          have l3 : (0 : Int) ≤ s := by omega
          have l4 : (s : Int) < n := by omega
          have e2 := (B1.out.cell (p := ⟨qb, qo + s * 2, none⟩) QQ.out).trans (HC.out s (by omega)).1
          have fb2 := HF.out s
          by_cases hq : f s = f t
          · rw [hq] at e2 fb2
            generalize f t = F at e0 e2 fb fb2
            clear NE
            go_upto_region 11 with (fail)
            go_quiet (fail)
            go_wp2
            go_ret
            exact ⟨rfl, below_drewN B1.out _⟩
          · have hq2 : ¬ f t = f s := fun e => hq e.symm
            have hq3 : (f t == f s) = false := by simpa using hq2
            have HQ := Lib.hid hq
            clear hq
            generalize f t = F at e0 fb hq2 hq3
            generalize f s = F2 at e2 fb2 hq2 hq3
            go_upto_region 11 with (fail)
            go_quiet (fail)
            go_wp2
            go_roundg (gk - 1)
            · refine ⟨s + 1, by omega, by have := SG.out; omega, by simp, fun j hj => ?_, ⟨ownsRow_drewN _ RS.out.1, ownsRow_drewN _ RS.out.2⟩, below_drewN B1.out _⟩
              by_cases ej : j = s
              · rw [ej]; exact HQ.out
              · exact NE.out j (by omega)
            case measure => have := SG.out; omega
        · have es : s = t := by omega
          subst es
          obtain ⟨v', w2, hrun, ho, hb, hs2, ha2⟩ := app2_c RS.out.1 RS.out.2 A0.out (Nat.le_trans HN.out B1.out.size) (by omega)
          have RUN := Lib.hid hrun
          have O2 := Lib.hid ho
          have S2 := Lib.hid hs2
          have A2 := Lib.hid ha2
          have B2 := Lib.hid (B1.out.trans hb)
          clear hrun ho hb hs2 ha2
          have e1 := (B1.out.cell (p := ⟨qb, qo + s * 2 + 1, none⟩) QQ.out).trans E1.out
          go_upto_region 15 with (at_builtin; refine wpList_append_run rfl _ _ _ _ _ _ rfl rfl rfl RUN.out ?_)
          clear e0 e1
          obtain ⟨z, hz⟩ : ∃ z, trn n k s = z := ⟨_, rfl⟩
          have zn : z < n := hz ▸ trn_lt hlt
          have zi : ((n : Int) - 1 - s + k) % n = (z : Int) := by
            rw [← hz]; unfold trn
            rw [show ((n : Int) - 1 - s + k) = ((n - 1 - s + k : Nat) : Int) by omega]
            exact (Int.natCast_emod _ _).symm
          have zI : (z : Int) < n := by omega
          have z0 : (0 : Int) ≤ z := by omega
          obtain ⟨v2, w3, hrun, ho, hb, hs2, ha2⟩ := app2_c S2.out O2.out A2.out.symm (Nat.le_trans HN.out B2.out.size) (by omega)
          have hrun2 : (Builtin.append_ #[39, 39] 39 #[u10, .slice (some ⟨w2.heap.size, 0, none⟩) 1 1]).run Try.prog (w2.alloc (.cells #[.int .u64 (f (trn n k s)), .int .u8 (g (trn n k s))] 41)) = .ok v2 w3 := hrun
          rw [hz] at hrun2
          have RUN2 := Lib.hid hrun2
          have O3 := Lib.hid ho
          have S3 := Lib.hid hs2
          have A3 := Lib.hid ha2.symm
          have B3 := Lib.hid (B2.out.trans hb)
          clear hrun hrun2 ho hb hs2 ha2
          have e3 := (B2.out.cell (p := ⟨qb, qo + z * 2, none⟩) QQ.out).trans (HC.out z zn).1
          have e4 := (B2.out.cell (p := ⟨qb, qo + z * 2 + 1, none⟩) QQ.out).trans (HC.out z zn).2
          have HZ := Lib.hid hz
          clear hz B2
          go_upto_region 16 with (at_builtin; refine wpList_append_run rfl _ _ _ _ _ _ rfl rfl rfl RUN2.out ?_)
          clear e3 e4 zi
          go_wp2
          go_roundg (n - (s + 1))
          · exact ⟨s + 1, by omega, by omega, by simp, S3.out, O3.out, A3.out, D0.out.next NE.out, B3.out⟩
          case measure => have := TG.out; omega
    · have et : t = n := by omega
      subst et
      have A2 := Lib.hid A0.out
      obtain ⟨a2, c2, rfl, hin2⟩ := own_in R0.out
      obtain ⟨a3, c3, rfl, hin3⟩ := own_in S0.out
      have M0 : Hid (PIn wr a2 t f g) := Lib.hid hin2
      have N0 : Hid (PIn wr a3 t (fun i => f (trn t k i)) (fun i => g (trn t k i))) := Lib.hid hin3
      have KA := Lib.hid (fun W (h : PIn W a2 t f g) => at_c a2 t c2 (by omega) f g HF.out HG.out x hx hx2 W h)
      have KC := Lib.hid (fun W (hz : 0 ≤ x + m) (hz2 : x + m < 18446744073709551616) (h : PIn W a2 t f g) => at_c a2 t c2 (by omega) f g HF.out HG.out (x + m) hz hz2 W h)
      have KB := Lib.hid (fun W (h : PIn W a3 t (fun i => f (trn t k i)) (fun i => g (trn t k i))) => at_c a3 t c3 (by omega) _ _ (fun i => HF.out _) (fun i => HG.out _) x hx hx2 W h)
      rw [atD_turn (f := f) (g := g) (trn t k) (fun j hj => trn_lt hj) (fun j hj => trn_trn KN.out hj) D0.out] at KB
      have TD := Lib.hid (fun h => Sty.at (f := f) (g := g) (x := x) (m := m) (k := t) hm h)
      obtain ⟨D, hD⟩ : ∃ D, atD f g x t = D := ⟨_, rfl⟩
      rw [hD] at KA KB TD
      clear hD hin2 hin3 R0 S0 A0 A2 D0
      go_wp2
      go_loopg [14, 82] t (fun g' sv i ws => ∃ (s : Nat) (b : Bool), s ≤ t ∧ g' + s = t ∧ i = .int .i64 s ∧ sv = .bool b ∧ Sty f x m s b ∧ wr = ws)
      case atStart => exact ⟨0, true, by omega, by omega, rfl, rfl, fun _ j h => absurd h (by omega), rfl⟩
      case round =>
        obtain ⟨s, b, hs, hg, rfl, rfl, hY, rfl⟩ := hrel
        have SG := Lib.hid hg
        have SY := Lib.hid hY
        clear hg hY
        by_cases hst : s < t
        · have l2 : (s : Int) < t := by omega
          have l3 : (0 : Int) ≤ s := by omega
          obtain ⟨qb, qo, rfl, hqb, hcells⟩ := HIN.out (by omega)
          have e0 := (B0.out.cell (p := ⟨qb, qo + s * 2, none⟩) hqb).trans (hcells s hst).1
          have fb := HF.out s
          clear hcells
          by_cases c1 : x < f s
          · by_cases c2 : f s - x ≤ m
            · generalize f s = F at e0 fb c1 c2
              go_wp2
              go_roundg (gk - 1)
              · exact ⟨s + 1, false, by omega, by have := SG.out; omega, by simp, rfl, Sty.no, rfl⟩
              case measure => have := SG.out; omega
            · have SY2 := Lib.hid (SY.out.next (fun h => c2 h.2))
              generalize f s = F at e0 fb c1 c2
              go_wp2
              go_roundg (gk - 1)
              · exact ⟨s + 1, b, by omega, by have := SG.out; omega, by simp, rfl, SY2.out, rfl⟩
              case measure => have := SG.out; omega
          · have SY2 := Lib.hid (SY.out.next (fun h => c1 h.1))
            generalize f s = F at e0 fb c1
            go_wp2
            go_roundg (gk - 1)
            · exact ⟨s + 1, b, by omega, by have := SG.out; omega, by simp, rfl, SY2.out, rfl⟩
            case measure => have := SG.out; omega
        · have es : s = t := by omega
          subst es
          cases b with
          | false =>
            go_wp2_with fail
            with_reducible refine (KA.out _ M0.out).mono ?_
            rintro q_ w1 ⟨rfl, hb⟩
            have B1 := Lib.hid (vian HN.out B0.out hb)
            have M1 := Lib.hid (M0.out.below hb)
            have N1 := Lib.hid (N0.out.below hb)
            clear hb B0 M0 N0
            go_wp2_with fail
            with_reducible refine (KB.out _ N1.out).mono ?_
            rintro q_ w2 ⟨rfl, hb⟩
            have B2 := Lib.hid (vian HN.out B1.out hb)
            have M2 := Lib.hid (M1.out.below hb)
            have N2 := Lib.hid (N1.out.below hb)
            clear hb B1 M1 N1
            go_wp2
            go_ret
            exact ⟨rfl, B2.out⟩
          | true =>
            have TD2 := TD.out SY.out
            clear TD
            by_cases hov : x + m < 18446744073709551616
            · have KC2 := Lib.hid (fun W h => KC.out W (by omega) hov h)
              rw [TD2] at KC2
              have ew : IntKind.u64.wrap (x + m) = x + m := by
                simp [IntKind.wrap, IntKind.bits, IntKind.signed]; omega
              have d1 : decide (x + m < x) = false := decide_eq_false (by omega)
              clear TD2 KC
              go_wp2_with fail
              with_reducible refine (KA.out _ M0.out).mono ?_
              rintro q_ w1 ⟨rfl, hb⟩
              have B1 := Lib.hid (vian HN.out B0.out hb)
              have M1 := Lib.hid (M0.out.below hb)
              have N1 := Lib.hid (N0.out.below hb)
              clear hb B0 M0 N0
              go_wp2_with fail
              with_reducible refine (KB.out _ N1.out).mono ?_
              rintro q_ w2 ⟨rfl, hb⟩
              have B2 := Lib.hid (vian HN.out B1.out hb)
              have M2 := Lib.hid (M1.out.below hb)
              have N2 := Lib.hid (N1.out.below hb)
              clear hb B1 M1 N1
              clear d1
              go_wp2_with fail
              with_reducible refine (KC2.out _ M2.out).mono ?_
              rintro q_ w3 ⟨rfl, hb⟩
              have B3 := Lib.hid (vian HN.out B2.out hb)
              have M3 := Lib.hid (M2.out.below hb)
              have N3 := Lib.hid (N2.out.below hb)
              clear hb B2 M2 N2
              go_wp2_with fail
              with_reducible refine (KA.out _ M3.out).mono ?_
              rintro q_ w4 ⟨rfl, hb⟩
              have B4 := Lib.hid (vian HN.out B3.out hb)
              have M4 := Lib.hid (M3.out.below hb)
              have N4 := Lib.hid (N3.out.below hb)
              clear hb B3 M3 N3
              go_wp2
              go_ret
              exact ⟨rfl, B4.out⟩
            · have ew : IntKind.u64.wrap (x + m) = x + m - 18446744073709551616 := by
                simp [IntKind.wrap, IntKind.bits, IntKind.signed]; omega
              have d1 : decide (x + m - 18446744073709551616 < x) = true := decide_eq_true (by omega)
              clear TD2 KC
              go_wp2_with fail
              with_reducible refine (KA.out _ M0.out).mono ?_
              rintro q_ w1 ⟨rfl, hb⟩
              have B1 := Lib.hid (vian HN.out B0.out hb)
              have M1 := Lib.hid (M0.out.below hb)
              have N1 := Lib.hid (N0.out.below hb)
              clear hb B0 M0 N0
              go_wp2_with fail
              with_reducible refine (KB.out _ N1.out).mono ?_
              rintro q_ w2 ⟨rfl, hb⟩
              have B2 := Lib.hid (vian HN.out B1.out hb)
              have M2 := Lib.hid (M1.out.below hb)
              have N2 := Lib.hid (N1.out.below hb)
              clear hb B1 M1 N1
              go_wp2
              go_ret
              exact ⟨rfl, B2.out⟩
theorem order_walk (v : Value) (y x m : Int) (hy : 0 ≤ y) (hy2 : y < 18446744073709551616) (hx : 0 ≤ x) (hx2 : x < 18446744073709551616) (hm : 0 ≤ m) (hm2 : m < 256) (w : World) (ho : ChIn w v) : Calls Try.prog 7 #[v, .int .u64 y, .int .u64 x, .int .u8 m] w fun q_ w' => q_ = .returned (.bool true) ∧ Below w.heap.size w w' := by
  obtain ⟨a, n, c, rfl, hlen, f, g, hf, hg, hi⟩ := ho
  by_cases h0 : 100 < n
  · exact order_long a n c h0 y x m hy hy2 hx hx2 hm hm2 w
  · by_cases h1 : n = 0
    · exact order_none a n c h1 y x m hy hy2 hx hx2 hm hm2 w
    · exact order_some a n c h0 (by omega) f g hf hg y x m hy hy2 hx hx2 hm hm2 w hi
end Go.Proofs.Ytbpfeppgonhclaa
