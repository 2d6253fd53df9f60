/-
  The walk through HeaderRest: for every world in which the places and the two tables lie as told; no other condition.
-/
import Derived.Test.YtifhajdcfjiaiaaDoorOpn
namespace Go.Proofs.YtifhajdcfjiaiaaDoor
open Go.ChangeShapes Go.WideShapes Go.ChangeAt Go.RowKit
set_option linter.unusedVariables false
set_option maxRecDepth 100000
theorem xor_bd (a b : Int) (h1 : 0 ≤ a) (h2 : a < 256) (h3 : 0 ≤ b) (h4 : b < 256) : 0 ≤ bits .xor .u8 a b ∧ bits .xor .u8 a b < 256 := by
  rw [u8_xor a b h1 h2 h3 h4]
  have : a.toNat ^^^ b.toNat < 2 ^ 8 := Nat.xor_lt_two_pow (by omega) (by omega)
  omega
/-- But for whether the sum is right, a header hangs on the bytes from 308 to 333 alone. -/
theorem par_congr {n : Nat} {f g : Nat → Int} (h : ∀ i, 308 ≤ i → i ≤ 333 → f i = g i) : parV n g = { parV n f with w := (parV n g).w } := by
  unfold parV
  rw [perr_congr h]
  by_cases e : perr n g = 0
  · rw [if_pos e, if_pos e]
    have q := headV_congr (n := n) h
    rw [show headV n g = { ({ headV n g with w := false } : HV) with w := (headV n g).w } from rfl, ← q]
  · rw [if_neg e, if_neg e]
set_option maxHeartbeats 2000000 in
theorem rest_long (k bn r x : Nat) (a : Option Addr) (n c : Nat) (h0 : 60 < n) (w : World) (G : Glob w) : Calls Tryd.prog 6 #[.int .u8 k, .int .u8 bn, .int .u8 r, .slice a n c, .int .u8 x] w fun e w' => e = .returned (.bool true) ∧ Below w.heap.size w w' := by
  have GG := Lib.hid G
  have hnot : ∀ (x : Bool) (w : World), (Op.unary .not (.bool x)).run Tryd.prog w = .ok (.bool (!x)) w := fun _ _ => rfl
  have AW := Lib.hid (awake_c w G)
  have h0I : (60 : Int) < n := by omega
  clear G
  go_enter Tryd.func6, Tryd.ntmps6
  go_wp2_with fail
  with_reducible refine AW.out.mono ?_
  rintro e w1 ⟨rfl, b1⟩
  have B1 := Lib.hid b1
  have A2 := Lib.hid (awake_c w1 (GG.out.below b1))
  clear b1 AW
  go_wp2_with fail
  with_reducible refine A2.out.mono ?_
  rintro e w2 ⟨rfl, b2⟩
  have B2 := Lib.hid (via B1.out b2)
  clear b2
  go_wp2
  go_ret
  exact ⟨rfl, B2.out⟩
set_option maxHeartbeats 4000000 in
theorem rest_some (k bn r x : Nat) (hk : k < 256) (hb : bn < 256) (hr : r < 256) (hx : x < 256) (a : Option Addr) (m c : Nat) (h0 : ¬ 60 < m) (p : Nat → Int) (hp : ∀ i, 0 ≤ p i ∧ p i < 65536) (w : World)
    (hin : 0 < m → ∃ b o, a = some ⟨b, o, none⟩ ∧ b < w.heap.size ∧ ∀ j, j < m → w.cell? ⟨b, o + j, none⟩ = some (.int .u16 (p j))) (G : Glob w) : Calls Tryd.prog 6 #[.int .u8 k, .int .u8 bn, .int .u8 r, .slice a m c, .int .u8 x] w fun e w' => e = .returned (.bool true) ∧ Below w.heap.size w w' := by
  have GG := Lib.hid G
  have HIN := Lib.hid hin
  have HP := Lib.hid hp
  have hnot : ∀ (x : Bool) (w : World), (Op.unary .not (.bool x)).run Tryd.prog w = .ok (.bool (!x)) w := fun _ _ => rfl
  have AW := Lib.hid (awake_c w G)
  clear G hin hp
  obtain ⟨q, hq⟩ : ∃ q, bn % 3 = q := ⟨_, rfl⟩
  have hq1 : (bn : Int) % 3 = q := by omega
  have hq2 : (bn : Int).tmod 3 = q := by rw [Int.tmod_eq_emod_of_nonneg (by omega)]; exact hq1
  have hqi : (q : Int) < 256 := by omega
  have HQ := Lib.hid (show q % 9 = q by omega)
  have hbI : (bn : Int) < 256 := by omega
  have hxI : (x : Int) < 256 := by omega
  have h0I : ¬ (60 : Int) < m := by omega
  clear hq
  go_enter Tryd.func6, Tryd.ntmps6
  go_wp2_with fail
  with_reducible refine AW.out.mono ?_
  rintro e w1 ⟨rfl, b1⟩
  have B1 := Lib.hid b1
  clear b1 AW
  have MC := made_c k r q none 0 0 zf w1 (by omega) (by omega) (by omega) (by omega) zf_ok (fun h => absurd h (by omega))
  rw [HQ.out] at MC
  have MH := Lib.hid MC
  clear MC
  go_wp2_with fail
  with_reducible refine MH.out.mono ?_
  rintro e w2 ⟨rfl, O2, b2⟩
  have B2 := Lib.hid (via B1.out b2)
  have LG := Lib.hid B1.out.size
  have MO := Lib.hid (made_ok (p := zf) (b := (q : Int)) (min 0 15000) (show 0 ≤ (k : Int) ∧ (k : Int) < 256 by omega) (by omega) (show 0 ≤ (r : Int) ∧ (r : Int) < 256 by omega) zf_ok)
  have n0 := szN_ge q
  have n1 := szN_le q (by omega)
  generalize szN q = n at O2 n0 n1 ⊢
  generalize made (k : Int) q r zf (min 0 15000) = f at O2 MO
  have OH := Lib.hid O2
  generalize w1.heap.size = g at OH LG ⊢
  clear O2 b2 MH B1
  obtain ⟨ph, hph⟩ : ∃ q_, parV n f = q_ := ⟨_, rfl⟩
  obtain ⟨pe, hpe⟩ : ∃ q_, perr n f = q_ := ⟨_, rfl⟩
  have PC := Lib.hid (parse_v (OH.out.by MO.out (by omega)) (GG.out.below B2.out) hph hpe)
  have HPH := Lib.hid hph
  have HPE := Lib.hid hpe
  clear hph hpe
  go_wp2_with fail
  with_reducible refine PC.out.mono ?_
  rintro e w3 ⟨rfl, b3⟩
  have Q3 := own1 w3 (.cells #[.string ph.t, .int .i64 ph.k, .bool ph.c, .bool ph.b, .int .i64 ph.n, .int .i64 ph.r, .bool ph.w] 27)
  have B4 := Lib.hid (via (via B2.out b3) Q3)
  have O4 := Lib.hid ((OH.out.below b3).below Q3)
  have A4 := Lib.hid (Has.new w3 #[.string ph.t, .int .i64 ph.k, .bool ph.c, .bool ph.b, .int .i64 ph.n, .int .i64 ph.r, .bool ph.w] 27)
  have NG := Lib.hid (show g ≠ w3.heap.size by have := (OH.out.below b3).lt; omega)
  have L4 := Lib.hid (show w.heap.size ≤ w3.heap.size from (via B2.out b3).size)
  clear b3 Q3 PC OH B2
  go_upto_region 5 with (fail)
  generalize w3.alloc (.cells #[.string ph.t, .int .i64 ph.k, .bool ph.c, .bool ph.b, .int .i64 ph.n, .int .i64 ph.r, .bool ph.w] 27) = w4 at B4 O4 A4 ⊢
  generalize w3.heap.size = h4 at A4 NG L4 ⊢
  go_wp2
  go_loopg [38] m (fun g' i wr => ∃ (t : Nat) (f' : Nat → Int), t ≤ m ∧ g' + t = m ∧ i = .int .i64 t ∧ Below w.heap.size w wr ∧ Own wr g n f' ∧ okB f' ∧ (∀ i, 308 ≤ i → i ≤ 333 → f i = f' i) ∧ Has wr h4 #[.string ph.t, .int .i64 ph.k, .bool ph.c, .bool ph.b, .int .i64 ph.n, .int .i64 ph.r, .bool ph.w])
  case atStart => exact ⟨0, f, by omega, by omega, rfl, B4.out, O4.out, MO.out, fun _ _ _ => rfl, A4.out⟩
  case round =>
    obtain ⟨t, f', ht, hg, rfl, hB, hO, hok, hag, hA⟩ := hrel
    have TG := Lib.hid hg
    have TB := Lib.hid hB
    have TO := Lib.hid hO
    have TK := Lib.hid hok
    have TA := Lib.hid hag
    have TH := Lib.hid hA
    clear hg hB hO hok hag hA B4 O4 A4
    by_cases hlt : t < m
    · have l1 : (t : Int) < m := by omega
      have l0 : (0 : Int) ≤ t := by omega
      obtain ⟨pb, po, rfl, hpb, hcells⟩ := HIN.out (by omega)
      have hcl : wr.cell? ⟨pb, po + t, none⟩ = some (.int .u16 (p t)) := (TB.out.cell (p := ⟨pb, po + t, none⟩) hpb).trans (hcells t hlt)
      have pbd := HP.out t
      obtain ⟨s, hs⟩ : ∃ s : Nat, (p t).toNat % n = s := ⟨_, rfl⟩
      have hsn : s < n := by rw [← hs]; exact Nat.mod_lt _ (by omega)
      have hs1 : (p t) % (n : Int) = s := by rw [← hs, Int.natCast_emod]; congr 1; omega
      have hs2 : (p t).tmod (n : Int) = s := by rw [Int.tmod_eq_emod_of_nonneg pbd.1]; exact hs1
      have hsI : (s : Int) < n := by omega
      have hnz : ¬ (n : Int) = 0 := by omega
      have n0I : (0 : Int) < n := by omega
      generalize p t = pt at hcl pbd hs1 hs2
      clear hs hcells
      by_cases hp1 : s < 308 ∨ 335 < s
      · have xb := xor_bd (f' s) x (TK.out s).1 (TK.out s).2 (by omega) (by omega)
        have c1 := TO.out.mem s hsn
        have f1 := TO.out.free s
        have NO := Lib.hid (TO.out.set s hsn (bits .xor .u8 (f' s) x))
        have NB := Lib.hid (TB.out.setCell (p := ⟨g, s, none⟩) LG.out (.int .u8 (bits .xor .u8 (f' s) x)))
        have NK := Lib.hid (TK.out.upd s (bits .xor .u8 (f' s) x) xb.1 xb.2)
        have NA := Lib.hid (show ∀ i, 308 ≤ i → i ≤ 333 → f i = upd f' s (bits .xor .u8 (f' s) x) i from fun i h1 h2 => by rw [upd_far _ _ _ _ (by omega)]; exact TA.out i h1 h2)
        have NH := Lib.hid (TH.out.far ⟨g, s, none⟩ (.int .u8 (bits .xor .u8 (f' s) x)) NG.out)
        clear xb
        by_cases hp2 : s < 308
        · have hp2I : (s : Int) < 308 := by omega
          clear hp1
          go_wp2
          go_roundg (gk - 1)
          exact ⟨t + 1, _, by omega, by have := TG.out; omega, by simp, NB.out, NO.out, NK.out, NA.out, NH.out⟩
          case measure => have := TG.out; omega
        · have hp2I : ¬ (s : Int) < 308 := by omega
          have hp3I : (335 : Int) < s := by omega
          clear hp1
          go_wp2
          go_roundg (gk - 1)
          exact ⟨t + 1, _, by omega, by have := TG.out; omega, by simp, NB.out, NO.out, NK.out, NA.out, NH.out⟩
          case measure => have := TG.out; omega
      · have hp2I : ¬ (s : Int) < 308 := by omega
        have hp3I : ¬ (335 : Int) < s := by omega
        clear hp1
        go_wp2
        go_roundg (gk - 1)
        exact ⟨t + 1, f', by omega, by have := TG.out; omega, by simp, TB.out, TO.out, TK.out, TA.out, TH.out⟩
        case measure => have := TG.out; omega
    · have et : t = m := by omega
      subst et
      have PQ := par_congr (n := n) TA.out
      rw [HPH.out] at PQ
      have EQ := perr_congr (n := n) TA.out
      rw [HPE.out] at EQ
      generalize (parV n f').w = gw at PQ
      have PC := Lib.hid (parse_v (TO.out.by TK.out (by omega)) (GG.out.below TB.out) PQ EQ.symm)
      clear PQ EQ
      dsimp only at PC
      go_wp2_with fail
      with_reducible refine PC.out.mono ?_
      rintro e w5 ⟨rfl, b5⟩
      have Q5 := own1 w5 (.cells #[.string ph.t, .int .i64 ph.k, .bool ph.c, .bool ph.b, .int .i64 ph.n, .int .i64 ph.r, .bool gw] 27)
      have B6 := Lib.hid (via (via TB.out b5) Q5)
      have H6 := Lib.hid ((TH.out.below b5).below Q5)
      have A6 := Lib.hid (Has.new w5 #[.string ph.t, .int .i64 ph.k, .bool ph.c, .bool ph.b, .int .i64 ph.n, .int .i64 ph.r, .bool gw] 27)
      have N6 := Lib.hid (show h4 ≠ w5.heap.size by have := (TH.out.below b5).1; omega)
      have L6 := Lib.hid (show w.heap.size ≤ w5.heap.size from (via TB.out b5).size)
      clear b5 Q5 PC
      go_upto_region 13 with (fail)
      generalize w5.alloc (.cells #[.string ph.t, .int .i64 ph.k, .bool ph.c, .bool ph.b, .int .i64 ph.n, .int .i64 ph.r, .bool gw] 27) = w6 at B6 H6 A6 ⊢
      generalize w5.heap.size = h6 at A6 N6 L6 ⊢
      have c6 := H6.out.2.1
      have d6 := A6.out.2.1
      have f6 := A6.out.2.2
      go_upto_region 14 with (fail)
      clear c6 d6 f6
      have B7 := Lib.hid (B6.out.setCell (p := ⟨h6, 6, none⟩) L6.out (.bool ph.w))
      have H7 := Lib.hid (H6.out.far ⟨h6, 6, none⟩ (.bool ph.w) (fun e => N6.out e.symm))
      have A7 := Lib.hid (show Has (w6.setCell ⟨h6, 6, none⟩ (.bool ph.w)) h6 #[.string ph.t, .int .i64 ph.k, .bool ph.c, .bool ph.b, .int .i64 ph.n, .int .i64 ph.r, .bool ph.w] by
        have := A6.out.set 6 (.bool ph.w) (by simp)
        simpa using this)
      generalize w6.setCell ⟨h6, 6, none⟩ (.bool ph.w) = w7 at B7 H7 A7 ⊢
      have c7 := H7.out.2.1
      have d7 := A7.out.2.1
      go_wp2
      go_ret
      exact ⟨rfl, B7.out⟩
theorem rest_walk (k bn r : Nat) (v : Value) (x : Nat) (hk : k < 256) (hb : bn < 256) (hr : r < 256) (hx : x < 256) (w : World) (h : WoIn w v) (G : Glob w) : Calls Tryd.prog 6 #[.int .u8 k, .int .u8 bn, .int .u8 r, v, .int .u8 x] w fun e w' => e = .returned (.bool true) ∧ Below w.heap.size w w' := by
  obtain ⟨a, m, c, rfl, hm, p, hp, hin⟩ := h
  by_cases h0 : 60 < m
  · exact rest_long k bn r x a m c h0 w G
  · exact rest_some k bn r x hk hb hr hx a m c h0 p hp w hin G
end Go.Proofs.YtifhajdcfjiaiaaDoor
