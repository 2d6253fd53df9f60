/-
  What ops.Text returns: for every world in which the table of package math/bits is as its text lays it, and every order.
-/
import Derived.Test.YtaggebfcfebomaaDoorLeafD
import Derived.Test.YtaggebfcfebomaaDoorLine
import Derived.Test.YtaggebfcfebomaaDoorOprA
import Derived.Test.YtaggebfcfebomaaDoorOprB
import Derived.Test.YtaggebfcfebomaaDoorOprC
namespace Go.Proofs.YtaggebfcfebomaaDoor
open Go.ChangeShapes Go.WideShapes Go.ChangeAt Go.RowKit
set_option linter.unusedVariables false

/-- A few short texts. -/
structure Short (m : List UInt8) (l : List (List UInt8)) : Prop where
  hm : m.length ≤ 5
  hl : l.length ≤ 2
  each : ∀ x ∈ l, x.length ≤ 10
theorem pick_len (n : Int) (l : List (List UInt8)) (h : ∀ x ∈ l, x.length ≤ 5) : (pickL n l).length ≤ 5 := by
  unfold pickL
  split
  · rename_i hh
    have hk : n.toNat < l.length := by omega
    rw [List.getD_eq_getElem?_getD, List.getElem?_eq_getElem hk]
    exact h _ (List.getElem_mem hk)
  · decide
theorem join_len {m : List UInt8} {l : List (List UInt8)} (h : Short m l) : (Lib.join l [44, 32]).length ≤ 1000 := by
  obtain ⟨_, h1, h2⟩ := h
  match l, h1 with
  | [], _ => simp [Lib.join]
  | [a], _ => have := h2 a (by simp); simp [Lib.join, List.intercalate]; omega
  | [a, b], _ => have := h2 a (by simp); have := h2 b (by simp); simp [Lib.join, List.intercalate]; omega
theorem lineV_c (m : List UInt8) (l : List (List UInt8)) (hs : Short m l) (v : Value) (w : World) (h : IsL w v l) : Calls Tryd.prog 21 #[.string ⟨(m).toArray⟩, v] w fun e w' => e = .returned (.string ⟨(lineL m l).toArray⟩) ∧ Below w.heap.size w w' := by
  rcases h with ⟨rfl, rfl⟩ | ⟨b, c, rfl, hc, h0, hT⟩
  · exact (line0_c m w).mono fun e w' ⟨h1, h2⟩ => ⟨h1, h2 ▸ Below.refl _ _⟩
  · exact lineS_c m (Nat.le_trans hs.hm (by decide)) l (fun e => by rw [e] at h0; simp at h0) b c _ rfl hc (Nat.le_trans hs.hl (by decide)) (join_len hs) w hT
set_option maxRecDepth 100000 in
set_option maxHeartbeats 2000000 in
theorem text_g (k x y s : Int) (n : Nat) (m : List UInt8) (l : List (List UInt8)) (hs : Short m l) (hm : ∀ w, Calls Tryd.prog 22 #[.agg #[.int .i64 k, .int .i64 x, .int .i64 y, .int .i64 s, .int .u16 (n : Nat)]] w fun e w' => e = .returned (.string ⟨(m).toArray⟩) ∧ Below w.heap.size w w')
    (ho : ∀ w, Tz w → Calls Tryd.prog 23 #[.agg #[.int .i64 k, .int .i64 x, .int .i64 y, .int .i64 s, .int .u16 (n : Nat)]] w (RetL w l)) (w : World) (hz : Tz w) : Calls Tryd.prog 13 #[.agg #[.int .i64 k, .int .i64 x, .int .i64 y, .int .i64 s, .int .u16 (n : Nat)]] w fun e w' => e = .returned (.string ⟨(lineL m l).toArray⟩) ∧ Below w.heap.size w w' := by
  have HM := Lib.hid hm
  have HO := Lib.hid ho
  have HZ := Lib.hid hz
  clear hm ho hz
  go_enter Tryd.func13, Tryd.ntmps13
  go_wp2_with fail
  have HS := Lib.hid (OS.new w #[.int .i64 k, .int .i64 x, .int .i64 y, .int .i64 s, .int .u16 (n : Nat)] 27 HZ.out)
  refine wp_region_held_drew (S := (fun w' => (∀ o, w'.cell? ⟨w.heap.size, o, none⟩ = #[Value.int .i64 k, .int .i64 x, .int .i64 y, .int .i64 s, .int .u16 (n : Nat)][o]?) ∧ OR w w')) (by kernel_rfl) HS.out (fun hHeld => ?_)
  clear HS HZ
  generalize (w.alloc (.cells #[.int .i64 k, .int .i64 x, .int .i64 y, .int .i64 s, .int .u16 (n : Nat)] 27)).drew = V0 at hHeld ⊢
  refine wpAnyH_take (i := 0) (oi := { dst := some 3, op := Go.Op.load 27 (Go.Operand.tmp 1), type := 27, pos := "text.go:13", after := #[], guard := none }) (v := ?v1) rfl (by kernel_rfl) (by kernel_rfl) (by kernel_rfl) (fun _ _ _ h => h) (Or.inl ⟨by rfl, ?y1⟩) (by assumption) ?z1
  case y1 => (intro w hSw; (try dsimp only at hSw); go_simp) <;> with_reducible rfl
  try simp only [Act.put, List.setIfInBounds_toArray, List.set_cons_zero, List.set_cons_succ]
  refine wpAnyH_take (i := 2) (oi := { dst := some 5, op := Go.Op.load 27 (Go.Operand.tmp 1), type := 27, pos := "text.go:13", after := #[], guard := none }) (v := ?v2) rfl (by kernel_rfl) (by kernel_rfl) (by kernel_rfl) (fun _ _ _ h => h) (Or.inl ⟨by rfl, ?y2⟩) (by assumption) ?z2
  case y2 => (intro w hSw; (try dsimp only at hSw); go_simp) <;> with_reducible rfl
  try simp only [Act.put, List.setIfInBounds_toArray, List.set_cons_zero, List.set_cons_succ]
  refine wpAnyH_ready (rs := [1]) (by kernel_rfl) (by simp) ?_
  refine (AllReadyH.cons (o := { dst := some 4, op := Go.Op.call { callee := Go.Callee.value (Go.Operand.func 22), args := #[Go.Operand.tmp 3], argTypes := #[27] }, type := 9, pos := "text.go:13", after := #[{ on := 0, ground := Go.Ground.data }], guard := none }) rfl (fun K hK => ?_) AllReadyH.nil)
  · go_simp
    go_wp2_with (go_at_call 22; (with_reducible refine (HM.out _).mono ?_); rintro e V1 ⟨rfl, hb⟩)
    refine hK.out _ _ ?s3 (fun hNew => ?r3)
    case s3 => exact OS.below hHeld hb
    clear hK K
    clear hb
    clear hHeld
    have hHeld := hNew
    clear hNew
    refine wpAnyH_ready (rs := [3]) (by kernel_rfl) (by simp) ?_
    refine (AllReadyH.cons (o := { dst := some 6, op := Go.Op.call { callee := Go.Callee.value (Go.Operand.func 23), args := #[Go.Operand.tmp 5], argTypes := #[27] }, type := 59, pos := "text.go:13", after := #[{ on := 2, ground := Go.Ground.data }, { on := 1, ground := Go.Ground.chain }], guard := none }) rfl (fun K hK => ?_) AllReadyH.nil)
    · have hZ := hHeld.2.2.2
      go_simp
      go_wp2_with (go_at_call 23; (with_reducible refine (HO.out _ hZ).mono ?_); rintro e V2 ⟨v, rfl, hL, hb⟩)
      refine hK.out _ _ ?s4 (fun hNew => ?r4)
      case s4 => exact OS.below hHeld hb
      clear hK K
      have HL := Lib.hid hL
      clear hL hb hZ
      clear hHeld
      have hHeld := hNew
      clear hNew
      refine wpAnyH_ready (rs := [4]) (by kernel_rfl) (by simp) ?_
      refine (AllReadyH.cons (o := { dst := some 7, op := Go.Op.call { callee := Go.Callee.value (Go.Operand.func 21), args := #[Go.Operand.tmp 4, Go.Operand.tmp 6], argTypes := #[9, 59] }, type := 9, pos := "text.go:13", after := #[{ on := 1, ground := Go.Ground.data }, { on := 3, ground := Go.Ground.data }, { on := 3, ground := Go.Ground.chain }], guard := none }) rfl (fun K hK => ?_) AllReadyH.nil)
      · go_simp
        go_wp2_with (go_at_call 21; (with_reducible refine (lineV_c m l hs v _ HL.out).mono ?_); rintro e V3 ⟨rfl, hb⟩)
        refine hK.out _ _ ?s5 (fun hNew => ?r5)
        case s5 => exact OS.below hHeld hb
        clear hK K
        clear hb HL
        clear hHeld
        have hHeld := hNew
        clear hNew
        refine wpAnyH_take (i := 5) (oi := { dst := some 2, op := Go.Op.assign (Go.Operand.tmp 7), type := 9, pos := "text.go:13", after := #[{ on := 4, ground := Go.Ground.data }, { on := 4, ground := Go.Ground.chain }, { on := 0, ground := Go.Ground.phase }, { on := 1, ground := Go.Ground.phase }, { on := 2, ground := Go.Ground.phase }, { on := 3, ground := Go.Ground.phase }, { on := 4, ground := Go.Ground.phase }], guard := none }) (v := ?v6) rfl (by kernel_rfl) (by kernel_rfl) (by kernel_rfl) (fun _ _ _ h => h) (Or.inl ⟨by rfl, ?y6⟩) (by assumption) ?z6
        case y6 => (intro w hSw; (try dsimp only at hSw); go_simp) <;> with_reducible rfl
        try simp only [Act.put, List.setIfInBounds_toArray, List.set_cons_zero, List.set_cons_succ]
        refine wpAnyH_done (by kernel_rfl) ?_ _
        go_wp2
        go_ret
        exact ⟨rfl, hHeld.2.1⟩
/-- The word of an order, and its operands. -/
def txM (k x : Int) : List UInt8 := match k.toNat with
  | 1 => [110, 111, 112]
  | 2 => [115, 116, 111, 112]
  | 3 => [104, 97, 108, 116]
  | 4 => [98, 97, 100]
  | 5 => [100, 105]
  | 6 => [101, 105]
  | 7 => [108, 100]
  | 8 => [108, 100]
  | 9 => [108, 100]
  | 10 => pickL x sumN
  | 11 => pickL x sumN
  | 12 => [105, 110, 99]
  | 13 => [100, 101, 99]
  | 14 => [105, 110, 99]
  | 15 => [100, 101, 99]
  | 16 => [97, 100, 100]
  | 17 => pickL x turnN
  | 18 => pickL x turnAN
  | 19 => [100, 97, 97]
  | 20 => [99, 112, 108]
  | 21 => [115, 99, 102]
  | 22 => [99, 99, 102]
  | 23 => [106, 114]
  | 24 => [106, 112]
  | 25 => [99, 97, 108, 108]
  | 26 => [114, 101, 116]
  | 27 => [114, 101, 116, 105]
  | 28 => [114, 115, 116]
  | 29 => [106, 112]
  | 30 => [112, 117, 115, 104]
  | 31 => [112, 111, 112]
  | 32 => [108, 100]
  | 33 => [108, 100]
  | 34 => [108, 100, 104]
  | 35 => [108, 100, 104]
  | 36 => [108, 100, 104]
  | 37 => [108, 100, 104]
  | 38 => [108, 100]
  | 39 => [108, 100]
  | 40 => [108, 100]
  | 41 => [97, 100, 100]
  | 42 => [108, 100]
  | 43 => [108, 100]
  | 44 => [98, 105, 116]
  | 45 => [114, 101, 115]
  | 46 => [115, 101, 116]
  | _ => [63]
def txO (k x y : Int) (n : Nat) : List (List UInt8) := match k.toNat with
  | 1 => []
  | 2 => [hexs n 2]
  | 3 => []
  | 4 => []
  | 5 => []
  | 6 => []
  | 7 => [pickL x placeN, pickL y placeN]
  | 8 => [pickL x placeN, hexs n 2]
  | 9 => [pickL x pairN, hexs n 4]
  | 10 => [[97], pickL y placeN]
  | 11 => [[97], hexs n 2]
  | 12 => [pickL x placeN]
  | 13 => [pickL x placeN]
  | 14 => [pickL x pairN]
  | 15 => [pickL x pairN]
  | 16 => [[104, 108], pickL x pairN]
  | 17 => [pickL y placeN]
  | 18 => []
  | 19 => []
  | 20 => []
  | 21 => []
  | 22 => []
  | 23 => condL x [hexs n 2]
  | 24 => condL x [hexs n 4]
  | 25 => condL x [hexs n 4]
  | 26 => condL x []
  | 27 => []
  | 28 => [hexs n 2]
  | 29 => [[104, 108]]
  | 30 => [pickL x pairN]
  | 31 => [pickL x pairN]
  | 32 => [[97], pickL x thruN]
  | 33 => [pickL x thruN, [97]]
  | 34 => [[97], 40 :: (hexs n 2 ++ [41])]
  | 35 => [40 :: (hexs n 2 ++ [41]), [97]]
  | 36 => [[97], [40, 99, 41]]
  | 37 => [[40, 99, 41], [97]]
  | 38 => [[97], 40 :: (hexs n 4 ++ [41])]
  | 39 => [40 :: (hexs n 4 ++ [41]), [97]]
  | 40 => [40 :: (hexs n 4 ++ [41]), [115, 112]]
  | 41 => [[115, 112], hexs n 2]
  | 42 => [[104, 108], 115 :: 112 :: 43 :: hexs n 2]
  | 43 => [[115, 112], [104, 108]]
  | 44 => [pickL x bitN, pickL y placeN]
  | 45 => [pickL x bitN, pickL y placeN]
  | 46 => [pickL x bitN, pickL y placeN]
  | _ => []
/-- The text of an order. -/
def textL (r : OpV) : List UInt8 := lineL (txM r.k r.x) (txO r.k r.x r.y r.n.toNat)
theorem sl (a : List UInt8) (ha : a.length ≤ 10) : ∀ x ∈ [a], x.length ≤ 10 := by simpa using ha
theorem sl2 (a b : List UInt8) (ha : a.length ≤ 10) (hb : b.length ≤ 10) : ∀ x ∈ [a, b], x.length ≤ 10 := by simpa using ⟨ha, hb⟩
theorem pl5 {n : Int} {l : List (List UInt8)} (h : ∀ x ∈ l, x.length ≤ 5) : (pickL n l).length ≤ 10 := Nat.le_trans (pick_len n l h) (by decide)
theorem condS {m : List UInt8} (hm : m.length ≤ 5) (x : Int) (l : List (List UInt8)) (h1 : l.length ≤ 1) (h2 : ∀ x ∈ l, x.length ≤ 10) : Short m (condL x l) := by
  unfold condL
  split
  · exact ⟨hm, by omega, h2⟩
  · exact ⟨hm, by simp; omega, fun y hy => by
      rcases List.mem_cons.1 hy with rfl | hy
      · exact pl5 (by decide)
      · exact h2 y hy⟩
theorem text_c (r : OpV) (hn1 : 0 ≤ r.n) (hn2 : r.n < 65536) (w : World) (hz : Tz w) : Calls Tryd.prog 13 #[.agg #[.int .i64 r.k, .int .i64 r.x, .int .i64 r.y, .int .i64 r.s, .int .u16 r.n]] w fun e w' => e = .returned (.string ⟨(textL r).toArray⟩) ∧ Below w.heap.size w w' := by
  obtain ⟨k, x, y, s, nn⟩ := r
  obtain ⟨n, rfl⟩ := Int.eq_ofNat_of_zero_le hn1
  have hn : n < 65536 := by simp at hn2; omega
  clear hn1 hn2
  by_cases h : 1 ≤ k ∧ k ≤ 46
  · have hv : k = 1 ∨ k = 2 ∨ k = 3 ∨ k = 4 ∨ k = 5 ∨ k = 6 ∨ k = 7 ∨ k = 8 ∨ k = 9 ∨ k = 10 ∨ k = 11 ∨ k = 12 ∨ k = 13 ∨ k = 14 ∨ k = 15 ∨ k = 16 ∨ k = 17 ∨ k = 18 ∨ k = 19 ∨ k = 20 ∨ k = 21 ∨ k = 22 ∨ k = 23 ∨ k = 24 ∨ k = 25 ∨ k = 26 ∨ k = 27 ∨ k = 28 ∨ k = 29 ∨ k = 30 ∨ k = 31 ∨ k = 32 ∨ k = 33 ∨ k = 34 ∨ k = 35 ∨ k = 36 ∨ k = 37 ∨ k = 38 ∨ k = 39 ∨ k = 40 ∨ k = 41 ∨ k = 42 ∨ k = 43 ∨ k = 44 ∨ k = 45 ∨ k = 46 := by omega
    clear h
    rcases hv with rfl | rfl | rfl | rfl | rfl | rfl | rfl | rfl | rfl | rfl | rfl | rfl | rfl | rfl | rfl | rfl | rfl | rfl | rfl | rfl | rfl | rfl | rfl | rfl | rfl | rfl | rfl | rfl | rfl | rfl | rfl | rfl | rfl | rfl | rfl | rfl | rfl | rfl | rfl | rfl | rfl | rfl | rfl | rfl | rfl | rfl
    · exact text_g 1 x y s n ([110, 111, 112]) ([]) (⟨by decide, by simp, by simp⟩) (fun w => mn_1 x y s n w) (fun w hz => opr_1 x y s n hn w hz) w hz
    · exact text_g 2 x y s n ([115, 116, 111, 112]) ([hexs n 2]) (⟨by decide, by simp, sl _ ((by rw [hexs_len]; decide))⟩) (fun w => mn_2 x y s n w) (fun w hz => opr_2 x y s n hn w hz) w hz
    · exact text_g 3 x y s n ([104, 97, 108, 116]) ([]) (⟨by decide, by simp, by simp⟩) (fun w => mn_3 x y s n w) (fun w hz => opr_3 x y s n hn w hz) w hz
    · exact text_g 4 x y s n ([98, 97, 100]) ([]) (⟨by decide, by simp, by simp⟩) (fun w => mn_4 x y s n w) (fun w hz => opr_4 x y s n hn w hz) w hz
    · exact text_g 5 x y s n ([100, 105]) ([]) (⟨by decide, by simp, by simp⟩) (fun w => mn_5 x y s n w) (fun w hz => opr_5 x y s n hn w hz) w hz
    · exact text_g 6 x y s n ([101, 105]) ([]) (⟨by decide, by simp, by simp⟩) (fun w => mn_6 x y s n w) (fun w hz => opr_6 x y s n hn w hz) w hz
    · exact text_g 7 x y s n ([108, 100]) ([pickL x placeN, pickL y placeN]) (⟨by decide, by simp, sl2 _ _ (pl5 (by decide)) (pl5 (by decide))⟩) (fun w => mn_7 x y s n w) (fun w hz => opr_7 x y s n hn w hz) w hz
    · exact text_g 8 x y s n ([108, 100]) ([pickL x placeN, hexs n 2]) (⟨by decide, by simp, sl2 _ _ (pl5 (by decide)) ((by rw [hexs_len]; decide))⟩) (fun w => mn_8 x y s n w) (fun w hz => opr_8 x y s n hn w hz) w hz
    · exact text_g 9 x y s n ([108, 100]) ([pickL x pairN, hexs n 4]) (⟨by decide, by simp, sl2 _ _ (pl5 (by decide)) ((by rw [hexs_len]; decide))⟩) (fun w => mn_9 x y s n w) (fun w hz => opr_9 x y s n hn w hz) w hz
    · exact text_g 10 x y s n (pickL x sumN) ([[97], pickL y placeN]) (⟨pick_len _ _ (by decide), by simp, sl2 _ _ ((by decide)) (pl5 (by decide))⟩) (fun w => mn_10 x y s n w) (fun w hz => opr_10 x y s n hn w hz) w hz
    · exact text_g 11 x y s n (pickL x sumN) ([[97], hexs n 2]) (⟨pick_len _ _ (by decide), by simp, sl2 _ _ ((by decide)) ((by rw [hexs_len]; decide))⟩) (fun w => mn_11 x y s n w) (fun w hz => opr_11 x y s n hn w hz) w hz
    · exact text_g 12 x y s n ([105, 110, 99]) ([pickL x placeN]) (⟨by decide, by simp, sl _ (pl5 (by decide))⟩) (fun w => mn_12 x y s n w) (fun w hz => opr_12 x y s n hn w hz) w hz
    · exact text_g 13 x y s n ([100, 101, 99]) ([pickL x placeN]) (⟨by decide, by simp, sl _ (pl5 (by decide))⟩) (fun w => mn_13 x y s n w) (fun w hz => opr_13 x y s n hn w hz) w hz
    · exact text_g 14 x y s n ([105, 110, 99]) ([pickL x pairN]) (⟨by decide, by simp, sl _ (pl5 (by decide))⟩) (fun w => mn_14 x y s n w) (fun w hz => opr_14 x y s n hn w hz) w hz
    · exact text_g 15 x y s n ([100, 101, 99]) ([pickL x pairN]) (⟨by decide, by simp, sl _ (pl5 (by decide))⟩) (fun w => mn_15 x y s n w) (fun w hz => opr_15 x y s n hn w hz) w hz
    · exact text_g 16 x y s n ([97, 100, 100]) ([[104, 108], pickL x pairN]) (⟨by decide, by simp, sl2 _ _ ((by decide)) (pl5 (by decide))⟩) (fun w => mn_16 x y s n w) (fun w hz => opr_16 x y s n hn w hz) w hz
    · exact text_g 17 x y s n (pickL x turnN) ([pickL y placeN]) (⟨pick_len _ _ (by decide), by simp, sl _ (pl5 (by decide))⟩) (fun w => mn_17 x y s n w) (fun w hz => opr_17 x y s n hn w hz) w hz
    · exact text_g 18 x y s n (pickL x turnAN) ([]) (⟨pick_len _ _ (by decide), by simp, by simp⟩) (fun w => mn_18 x y s n w) (fun w hz => opr_18 x y s n hn w hz) w hz
    · exact text_g 19 x y s n ([100, 97, 97]) ([]) (⟨by decide, by simp, by simp⟩) (fun w => mn_19 x y s n w) (fun w hz => opr_19 x y s n hn w hz) w hz
    · exact text_g 20 x y s n ([99, 112, 108]) ([]) (⟨by decide, by simp, by simp⟩) (fun w => mn_20 x y s n w) (fun w hz => opr_20 x y s n hn w hz) w hz
    · exact text_g 21 x y s n ([115, 99, 102]) ([]) (⟨by decide, by simp, by simp⟩) (fun w => mn_21 x y s n w) (fun w hz => opr_21 x y s n hn w hz) w hz
    · exact text_g 22 x y s n ([99, 99, 102]) ([]) (⟨by decide, by simp, by simp⟩) (fun w => mn_22 x y s n w) (fun w hz => opr_22 x y s n hn w hz) w hz
    · exact text_g 23 x y s n ([106, 114]) (condL x [hexs n 2]) (condS (by decide) x _ (by simp) (sl _ ((by rw [hexs_len]; decide)))) (fun w => mn_23 x y s n w) (fun w hz => opr_23 x y s n hn w hz) w hz
    · exact text_g 24 x y s n ([106, 112]) (condL x [hexs n 4]) (condS (by decide) x _ (by simp) (sl _ ((by rw [hexs_len]; decide)))) (fun w => mn_24 x y s n w) (fun w hz => opr_24 x y s n hn w hz) w hz
    · exact text_g 25 x y s n ([99, 97, 108, 108]) (condL x [hexs n 4]) (condS (by decide) x _ (by simp) (sl _ ((by rw [hexs_len]; decide)))) (fun w => mn_25 x y s n w) (fun w hz => opr_25 x y s n hn w hz) w hz
    · exact text_g 26 x y s n ([114, 101, 116]) (condL x []) (condS (by decide) x _ (by simp) (by simp)) (fun w => mn_26 x y s n w) (fun w hz => opr_26 x y s n hn w hz) w hz
    · exact text_g 27 x y s n ([114, 101, 116, 105]) ([]) (⟨by decide, by simp, by simp⟩) (fun w => mn_27 x y s n w) (fun w hz => opr_27 x y s n hn w hz) w hz
    · exact text_g 28 x y s n ([114, 115, 116]) ([hexs n 2]) (⟨by decide, by simp, sl _ ((by rw [hexs_len]; decide))⟩) (fun w => mn_28 x y s n w) (fun w hz => opr_28 x y s n hn w hz) w hz
    · exact text_g 29 x y s n ([106, 112]) ([[104, 108]]) (⟨by decide, by simp, sl _ ((by decide))⟩) (fun w => mn_29 x y s n w) (fun w hz => opr_29 x y s n hn w hz) w hz
    · exact text_g 30 x y s n ([112, 117, 115, 104]) ([pickL x pairN]) (⟨by decide, by simp, sl _ (pl5 (by decide))⟩) (fun w => mn_30 x y s n w) (fun w hz => opr_30 x y s n hn w hz) w hz
    · exact text_g 31 x y s n ([112, 111, 112]) ([pickL x pairN]) (⟨by decide, by simp, sl _ (pl5 (by decide))⟩) (fun w => mn_31 x y s n w) (fun w hz => opr_31 x y s n hn w hz) w hz
    · exact text_g 32 x y s n ([108, 100]) ([[97], pickL x thruN]) (⟨by decide, by simp, sl2 _ _ ((by decide)) (pl5 (by decide))⟩) (fun w => mn_32 x y s n w) (fun w hz => opr_32 x y s n hn w hz) w hz
    · exact text_g 33 x y s n ([108, 100]) ([pickL x thruN, [97]]) (⟨by decide, by simp, sl2 _ _ (pl5 (by decide)) ((by decide))⟩) (fun w => mn_33 x y s n w) (fun w hz => opr_33 x y s n hn w hz) w hz
    · exact text_g 34 x y s n ([108, 100, 104]) ([[97], 40 :: (hexs n 2 ++ [41])]) (⟨by decide, by simp, sl2 _ _ ((by decide)) ((by simp [hexs_len]))⟩) (fun w => mn_34 x y s n w) (fun w hz => opr_34 x y s n hn w hz) w hz
    · exact text_g 35 x y s n ([108, 100, 104]) ([40 :: (hexs n 2 ++ [41]), [97]]) (⟨by decide, by simp, sl2 _ _ ((by simp [hexs_len])) ((by decide))⟩) (fun w => mn_35 x y s n w) (fun w hz => opr_35 x y s n hn w hz) w hz
    · exact text_g 36 x y s n ([108, 100, 104]) ([[97], [40, 99, 41]]) (⟨by decide, by simp, sl2 _ _ ((by decide)) ((by decide))⟩) (fun w => mn_36 x y s n w) (fun w hz => opr_36 x y s n hn w hz) w hz
    · exact text_g 37 x y s n ([108, 100, 104]) ([[40, 99, 41], [97]]) (⟨by decide, by simp, sl2 _ _ ((by decide)) ((by decide))⟩) (fun w => mn_37 x y s n w) (fun w hz => opr_37 x y s n hn w hz) w hz
    · exact text_g 38 x y s n ([108, 100]) ([[97], 40 :: (hexs n 4 ++ [41])]) (⟨by decide, by simp, sl2 _ _ ((by decide)) ((by simp [hexs_len]))⟩) (fun w => mn_38 x y s n w) (fun w hz => opr_38 x y s n hn w hz) w hz
    · exact text_g 39 x y s n ([108, 100]) ([40 :: (hexs n 4 ++ [41]), [97]]) (⟨by decide, by simp, sl2 _ _ ((by simp [hexs_len])) ((by decide))⟩) (fun w => mn_39 x y s n w) (fun w hz => opr_39 x y s n hn w hz) w hz
    · exact text_g 40 x y s n ([108, 100]) ([40 :: (hexs n 4 ++ [41]), [115, 112]]) (⟨by decide, by simp, sl2 _ _ ((by simp [hexs_len])) ((by decide))⟩) (fun w => mn_40 x y s n w) (fun w hz => opr_40 x y s n hn w hz) w hz
    · exact text_g 41 x y s n ([97, 100, 100]) ([[115, 112], hexs n 2]) (⟨by decide, by simp, sl2 _ _ ((by decide)) ((by rw [hexs_len]; decide))⟩) (fun w => mn_41 x y s n w) (fun w hz => opr_41 x y s n hn w hz) w hz
    · exact text_g 42 x y s n ([108, 100]) ([[104, 108], 115 :: 112 :: 43 :: hexs n 2]) (⟨by decide, by simp, sl2 _ _ ((by decide)) ((by simp [hexs_len]))⟩) (fun w => mn_42 x y s n w) (fun w hz => opr_42 x y s n hn w hz) w hz
    · exact text_g 43 x y s n ([108, 100]) ([[115, 112], [104, 108]]) (⟨by decide, by simp, sl2 _ _ ((by decide)) ((by decide))⟩) (fun w => mn_43 x y s n w) (fun w hz => opr_43 x y s n hn w hz) w hz
    · exact text_g 44 x y s n ([98, 105, 116]) ([pickL x bitN, pickL y placeN]) (⟨by decide, by simp, sl2 _ _ (pl5 (by decide)) (pl5 (by decide))⟩) (fun w => mn_44 x y s n w) (fun w hz => opr_44 x y s n hn w hz) w hz
    · exact text_g 45 x y s n ([114, 101, 115]) ([pickL x bitN, pickL y placeN]) (⟨by decide, by simp, sl2 _ _ (pl5 (by decide)) (pl5 (by decide))⟩) (fun w => mn_45 x y s n w) (fun w hz => opr_45 x y s n hn w hz) w hz
    · exact text_g 46 x y s n ([115, 101, 116]) ([pickL x bitN, pickL y placeN]) (⟨by decide, by simp, sl2 _ _ (pl5 (by decide)) (pl5 (by decide))⟩) (fun w => mn_46 x y s n w) (fun w hz => opr_46 x y s n hn w hz) w hz
  · have e0 : k.toNat = 0 ∨ ∃ j, k.toNat = j + 47 := by
      by_cases h1 : k ≤ 0
      · left; omega
      · right; exact ⟨k.toNat - 47, by omega⟩
    have e1 : txM k x = [63] := by
      unfold txM
      rcases e0 with e | ⟨j, e⟩ <;> (rw [e]; rfl)
    have e2 : txO k x y n = [] := by
      unfold txO
      rcases e0 with e | ⟨j, e⟩ <;> (rw [e]; rfl)
    have e3 : textL ⟨k, x, y, s, (n : Int)⟩ = lineL [63] [] := by
      show lineL (txM k x) (txO k x y n) = _
      rw [e1, e2]
    rw [e3]
    exact text_g k x y s n [63] [] ⟨by decide, by decide, by simp⟩ (fun w => mn_d k x y s n (by simpa using (show k ≠ 1 by omega)) (by simpa using (show k ≠ 2 by omega)) (by simpa using (show k ≠ 3 by omega)) (by simpa using (show k ≠ 4 by omega)) (by simpa using (show k ≠ 5 by omega)) (by simpa using (show k ≠ 6 by omega)) (by simpa using (show k ≠ 7 by omega)) (by simpa using (show k ≠ 8 by omega)) (by simpa using (show k ≠ 9 by omega)) (by simpa using (show k ≠ 10 by omega)) (by simpa using (show k ≠ 11 by omega)) (by simpa using (show k ≠ 12 by omega)) (by simpa using (show k ≠ 13 by omega)) (by simpa using (show k ≠ 14 by omega)) (by simpa using (show k ≠ 15 by omega)) (by simpa using (show k ≠ 16 by omega)) (by simpa using (show k ≠ 17 by omega)) (by simpa using (show k ≠ 18 by omega)) (by simpa using (show k ≠ 19 by omega)) (by simpa using (show k ≠ 20 by omega)) (by simpa using (show k ≠ 21 by omega)) (by simpa using (show k ≠ 22 by omega)) (by simpa using (show k ≠ 23 by omega)) (by simpa using (show k ≠ 24 by omega)) (by simpa using (show k ≠ 25 by omega)) (by simpa using (show k ≠ 26 by omega)) (by simpa using (show k ≠ 27 by omega)) (by simpa using (show k ≠ 28 by omega)) (by simpa using (show k ≠ 29 by omega)) (by simpa using (show k ≠ 30 by omega)) (by simpa using (show k ≠ 31 by omega)) (by simpa using (show k ≠ 32 by omega)) (by simpa using (show k ≠ 33 by omega)) (by simpa using (show k ≠ 34 by omega)) (by simpa using (show k ≠ 35 by omega)) (by simpa using (show k ≠ 36 by omega)) (by simpa using (show k ≠ 37 by omega)) (by simpa using (show k ≠ 38 by omega)) (by simpa using (show k ≠ 39 by omega)) (by simpa using (show k ≠ 40 by omega)) (by simpa using (show k ≠ 41 by omega)) (by simpa using (show k ≠ 42 by omega)) (by simpa using (show k ≠ 43 by omega)) (by simpa using (show k ≠ 44 by omega)) (by simpa using (show k ≠ 45 by omega)) (by simpa using (show k ≠ 46 by omega)) w) (fun w _ => opr_d k x y s n (by simpa using (show k ≠ 1 by omega)) (by simpa using (show k ≠ 2 by omega)) (by simpa using (show k ≠ 3 by omega)) (by simpa using (show k ≠ 4 by omega)) (by simpa using (show k ≠ 5 by omega)) (by simpa using (show k ≠ 6 by omega)) (by simpa using (show k ≠ 7 by omega)) (by simpa using (show k ≠ 8 by omega)) (by simpa using (show k ≠ 9 by omega)) (by simpa using (show k ≠ 10 by omega)) (by simpa using (show k ≠ 11 by omega)) (by simpa using (show k ≠ 12 by omega)) (by simpa using (show k ≠ 13 by omega)) (by simpa using (show k ≠ 14 by omega)) (by simpa using (show k ≠ 15 by omega)) (by simpa using (show k ≠ 16 by omega)) (by simpa using (show k ≠ 17 by omega)) (by simpa using (show k ≠ 18 by omega)) (by simpa using (show k ≠ 19 by omega)) (by simpa using (show k ≠ 20 by omega)) (by simpa using (show k ≠ 21 by omega)) (by simpa using (show k ≠ 22 by omega)) (by simpa using (show k ≠ 23 by omega)) (by simpa using (show k ≠ 24 by omega)) (by simpa using (show k ≠ 25 by omega)) (by simpa using (show k ≠ 26 by omega)) (by simpa using (show k ≠ 27 by omega)) (by simpa using (show k ≠ 28 by omega)) (by simpa using (show k ≠ 29 by omega)) (by simpa using (show k ≠ 30 by omega)) (by simpa using (show k ≠ 31 by omega)) (by simpa using (show k ≠ 32 by omega)) (by simpa using (show k ≠ 33 by omega)) (by simpa using (show k ≠ 34 by omega)) (by simpa using (show k ≠ 35 by omega)) (by simpa using (show k ≠ 36 by omega)) (by simpa using (show k ≠ 37 by omega)) (by simpa using (show k ≠ 38 by omega)) (by simpa using (show k ≠ 39 by omega)) (by simpa using (show k ≠ 40 by omega)) (by simpa using (show k ≠ 41 by omega)) (by simpa using (show k ≠ 42 by omega)) (by simpa using (show k ≠ 43 by omega)) (by simpa using (show k ≠ 44 by omega)) (by simpa using (show k ≠ 45 by omega)) (by simpa using (show k ≠ 46 by omega)) w) w hz
end Go.Proofs.YtaggebfcfebomaaDoor
