/-
  The walk through OpsWords: it returns true, for all bytes and every world in which the table of package math/bits is as its text lays it.
-/
import Derived.Test.YtaggebfcfebomaaDoorInf
import Derived.Test.YtaggebfcfebomaaDoorLawB
import Derived.Test.YtaggebfcfebomaaDoorRT0
namespace Go.Proofs.YtaggebfcfebomaaDoor
open Go.ChangeShapes Go.WideShapes Go.ChangeAt Go.RowKit
set_option linter.unusedVariables false

def WR (ob : Nat) (w0 w : World) : Prop := Below w0.heap.size w0 w ∧ ob < w.heap.size
theorem WS.below {w0 W w2 : World} {ob : Nat} {A : Array Value} (h : (∀ o, W.cell? ⟨ob, o, none⟩ = A[o]?) ∧ WR ob w0 W) (hb : Below W.heap.size W w2) :
    (∀ o, w2.cell? ⟨ob, o, none⟩ = A[o]?) ∧ WR ob w0 w2 := by
  obtain ⟨hc, _⟩ := bcell hb
  exact ⟨fun o => (hc _ o h.2.2).trans (h.1 o), via h.2.1 hb, Nat.lt_of_lt_of_le h.2.2 hb.size⟩
theorem conv2 (d e : UInt8) (w : World) (c : Nat) (h : Has w c #[.int .u8 (d.toNat : Int), .int .u8 (e.toNat : Int)]) : (convert 37 9 (.slice (some ⟨c, 0, none⟩) 2 2)).run Tryd.prog w = .ok (.string ⟨#[d, e]⟩) w := by
  have hadd : ∀ j, (⟨c, 0, none⟩ : Addr).add j = ⟨c, 0 + j, none⟩ := fun j => by unfold Addr.add; split <;> simp_all
  exact run_convert_bytes_back (P := Tryd.prog) w 37 9 5 ⟨c, 0, none⟩ 2 [d, e] Tryd.underlying37 Tryd.underlying5 Tryd.underlying9 (fun j hj => by
    have : j = 0 ∨ j = 1 := by simp at hj; omega
    rcases this with rfl | rfl
    · rw [hadd]; exact h.2.1 0
    · rw [hadd]; exact h.2.1 1)
theorem hasT (T X : List UInt8) (h : Inf T X) (w : World) : Calls Tryd.prog 15 #[.string ⟨(T).toArray⟩, .string ⟨(X).toArray⟩] w fun e w' => e = .returned (.bool true) ∧ w = w' :=
  let ⟨h1, p, h2, h3⟩ := h
  has_c T X p h2 h1 h3 w
theorem hasF (T : List UInt8) (a b c d : UInt8) (h : Inf T ([a, b] ++ [c, d])) (w : World) : Calls Tryd.prog 15 #[.string ⟨(T).toArray⟩, .string ((⟨#[a, b]⟩ : ByteArray) ++ ⟨#[c, d]⟩)] w fun e w' => e = .returned (.bool true) ∧ w = w' := by
  rw [cat]
  exact hasT T ([a, b] ++ [c, d]) h w
set_option maxRecDepth 100000 in
set_option maxHeartbeats 2000000 in
theorem ww3 (a b c : Nat) (ha : a < 256) (hb : b < 256) (hc : c < 256) (k x y : Int) (hk : kind3 k = true) (hr0 : decF a b c = ⟨k, x, y, 3, ((c : Int) * 256 + b)⟩) (w : World) (hz : Tz w) : Calls Tryd.prog 8 #[.int .u8 a, .int .u8 b, .int .u8 c] w fun e w' => e = .returned (.bool true) ∧ Below w.heap.size w w' := by
  have HR := Lib.hid hr0
  clear hr0
  obtain ⟨T, hT⟩ : ∃ T, textL ⟨k, x, y, 3, ((c : Int) * 256 + b)⟩ = T := ⟨_, rfl⟩
  have HT := Lib.hid hT
  clear hT
  obtain ⟨bh, hbh⟩ : ∃ v, b / 16 = v := ⟨_, rfl⟩
  obtain ⟨bl, hbl⟩ : ∃ v, b % 16 = v := ⟨_, rfl⟩
  obtain ⟨ch, hch⟩ : ∃ v, c / 16 = v := ⟨_, rfl⟩
  obtain ⟨cl, hcl⟩ : ∃ v, c % 16 = v := ⟨_, rfl⟩
  have v1 : bh < 16 := by omega
  have v0 : bl < 16 := by omega
  have u1 : ch < 16 := by omega
  have u0 : cl < 16 := by omega
  have r1 : IntKind.u8.wrap ((b : Int) / 16) = (bh : Int) := by rw [show (b : Int) / 16 = (bh : Int) by omega]; unfold IntKind.wrap; simp [IntKind.bits, IntKind.signed]; omega
  have r0 : IntKind.u8.wrap ((b : Int) % 16) = (bl : Int) := by rw [show (b : Int) % 16 = (bl : Int) by omega]; unfold IntKind.wrap; simp [IntKind.bits, IntKind.signed]; omega
  have r3 : IntKind.u8.wrap ((c : Int) / 16) = (ch : Int) := by rw [show (c : Int) / 16 = (ch : Int) by omega]; unfold IntKind.wrap; simp [IntKind.bits, IntKind.signed]; omega
  have r2 : IntKind.u8.wrap ((c : Int) % 16) = (cl : Int) := by rw [show (c : Int) % 16 = (cl : Int) by omega]; unfold IntKind.wrap; simp [IntKind.bits, IntKind.signed]; omega
  have m0 : (b : Int) % 16 = (bl : Int) := by omega
  have m2 : (c : Int) % 16 = (cl : Int) := by omega
  have t0 : (b : Int).tmod 16 = (bl : Int) := by rw [Int.tmod_eq_emod_of_nonneg (by omega)]; exact m0
  have t2 : (c : Int).tmod 16 = (cl : Int) := by rw [Int.tmod_eq_emod_of_nonneg (by omega)]; exact m2
  have M0 := Lib.hid m0
  have M2 := Lib.hid m2
  have KB := Lib.hid (show b / 16 % 16 = bh by omega)
  have KBl := Lib.hid hbl
  have KC := Lib.hid (show c / 16 % 16 = ch by omega)
  have KCl := Lib.hid hcl
  obtain ⟨D1, hD1⟩ : ∃ D, (⟨#[48, 49, 50, 51, 52, 53, 54, 55, 56, 57, 97, 98, 99, 100, 101, 102]⟩ : ByteArray)[bh]'v1 = D := ⟨_, rfl⟩
  obtain ⟨D0, hD0⟩ : ∃ D, (⟨#[48, 49, 50, 51, 52, 53, 54, 55, 56, 57, 97, 98, 99, 100, 101, 102]⟩ : ByteArray)[bl]'v0 = D := ⟨_, rfl⟩
  obtain ⟨E1, hE1⟩ : ∃ D, (⟨#[48, 49, 50, 51, 52, 53, 54, 55, 56, 57, 97, 98, 99, 100, 101, 102]⟩ : ByteArray)[ch]'u1 = D := ⟨_, rfl⟩
  obtain ⟨E0, hE0⟩ : ∃ D, (⟨#[48, 49, 50, 51, 52, 53, 54, 55, 56, 57, 97, 98, 99, 100, 101, 102]⟩ : ByteArray)[cl]'u0 = D := ⟨_, rfl⟩
  have KD1 := Lib.hid ((dgb' bh v1 v1).symm.trans hD1)
  have KD0 := Lib.hid ((dgb' bl v0 v0).symm.trans hD0)
  have KE1 := Lib.hid ((dgb' ch u1 u1).symm.trans hE1)
  have KE0 := Lib.hid ((dgb' cl u0 u0).symm.trans hE0)
  clear hbh hbl hch hcl m0 m2
  have z1 : (bh : Int) < 16 := by omega
  have z0 : (bl : Int) < 16 := by omega
  have y1 : (ch : Int) < 16 := by omega
  have y0 : (cl : Int) < 16 := by omega
  have ho := or16 c b hc hb
  have hn1 : 0 ≤ ((c : Int) * 256 + b) := by omega
  have hn2 : ((c : Int) * 256 + b) < 65536 := by omega
  have hI := inf4 k x y 3 (c * 256 + b) hk
  have ec : (((c * 256 + b : Nat) : Nat) : Int) = (c : Int) * 256 + b := by omega
  rw [ec, HT.out, hx4 b c hb, hx2, KB.out, KBl.out, KC.out, KCl.out, KD1.out, KD0.out, KE1.out, KE0.out] at hI
  have HI := Lib.hid hI
  clear ec hI
  have hnot : ∀ (x : Bool) (w : World), (Op.unary .not (.bool x)).run Tryd.prog w = .ok (.bool (!x)) w := fun _ _ => rfl
  go_enter Tryd.func8, Tryd.ntmps8
  go_wp2_with fail
  refine (awake_c w hz).mono ?_
  rintro e w1 ⟨rfl, hb1⟩
  have B1 := Lib.hid hb1
  have Z1 := Lib.hid ((hz.below hb1).below (own1 w1 (.cells Tryd.zeroCells54 54)))
  have h3 := (hz.below hb1).lt
  clear hb1 hz
  go_wp2_with (go_at_call 10; (with_reducible refine (new_c _).mono ?_); rintro e w' ⟨rfl, rfl⟩)
  refine (dec_m _ a b c ha hb hc _ _ _ _ _ HR.out _ (Or.inl (Tab.new w1 54))).mono ?_
  rintro e V2 ⟨rfl, hO⟩
  have HS := Lib.hid (LS.start B1.out hO #[.int .i64 k, .int .i64 x, .int .i64 y, .int .i64 3, .int .u16 ((c : Int) * 256 + b)] 27)
  have Z2 := Lib.hid ((Z1.out.but hO.1 (by omega)).below (own1 V2 (.cells #[.int .i64 k, .int .i64 x, .int .i64 y, .int .i64 3, .int .u16 ((c : Int) * 256 + b)] 27)))
  clear B1 Z1 hO h3
  go_wp2_with fail
  have HT2 := text_c ⟨k, x, y, 3, ((c : Int) * 256 + b)⟩ hn1 hn2 _ Z2.out
  rw [HT.out] at HT2
  refine HT2.mono ?_
  rintro e V3 ⟨rfl, hb3⟩
  have HS2 := Lib.hid (WS.below (ob := V2.heap.size) ⟨HS.out.1, HS.out.2.2.1, HS.out.2.2.2.1⟩ hb3)
  clear HS Z2 HT2 hb3
  generalize V2.heap.size = ob at HS2 ⊢
  go_wp2_with fail
  refine wp_region_held_drew (S := (fun w' => (∀ o, w'.cell? ⟨ob, o, none⟩ = #[Value.int .i64 k, .int .i64 x, .int .i64 y, .int .i64 3, .int .u16 ((c : Int) * 256 + b)][o]?) ∧ WR ob w w')) (by kernel_rfl) (WS.below HS2.out (Below.refl _ _).drew) (fun hHeld => ?_)
  clear HS2
  generalize V3.drew = V60 at hHeld ⊢
  refine wpAnyH_take (i := 0) (oi := { dst := some 21, op := Go.Op.move (Go.Operand.tmp 9), type := 9, pos := "law.go:84", after := #[], guard := none }) (v := ?v601) rfl (by kernel_rfl) (by kernel_rfl) (by kernel_rfl) (fun _ _ _ h => h) (Or.inl ⟨by rfl, ?y601⟩) (by assumption) ?z601
  case y601 => (intro w hSw; (try dsimp only at hSw); go_simp) <;> with_reducible rfl
  try simp only [Act.put, List.setIfInBounds_toArray, List.set_cons_zero, List.set_cons_succ]
  refine wpAnyH_take (i := 1) (oi := { dst := some 22, op := Go.Op.move (Go.Operand.tmp 1), type := 5, pos := "law.go:84", after := #[], guard := none }) (v := ?v602) rfl (by kernel_rfl) (by kernel_rfl) (by kernel_rfl) (fun _ _ _ h => h) (Or.inl ⟨by rfl, ?y602⟩) (by assumption) ?z602
  case y602 => (intro w hSw; (try dsimp only at hSw); go_simp) <;> with_reducible rfl
  try simp only [Act.put, List.setIfInBounds_toArray, List.set_cons_zero, List.set_cons_succ]
  refine wpAnyH_take (i := 2) (oi := { dst := some 23, op := Go.Op.binOp Go.BinOp.quo 5 (Go.Operand.tmp 22) (Go.Operand.const (Go.Value.int Go.IntKind.u8 16)) 5, type := 5, pos := "law.go:84", after := #[{ on := 1, ground := Go.Ground.data }], guard := none }) (v := ?v603) rfl (by kernel_rfl) (by kernel_rfl) (by kernel_rfl) (fun _ _ _ h => h) (Or.inl ⟨by rfl, ?y603⟩) (by assumption) ?z603
  case y603 => (intro w hSw; (try dsimp only at hSw); go_simp) <;> with_reducible rfl
  try simp only [Act.put, List.setIfInBounds_toArray, List.set_cons_zero, List.set_cons_succ]
  refine wpAnyH_take (i := 3) (oi := { dst := some 24, op := Go.Op.index 9 (Go.Operand.tmp 21) (Go.Operand.tmp 23), type := 5, pos := "law.go:84", after := #[{ on := 0, ground := Go.Ground.data }, { on := 2, ground := Go.Ground.data }], guard := none }) (v := ?v604) rfl (by kernel_rfl) (by kernel_rfl) (by kernel_rfl) (fun _ _ _ h => h) (Or.inl ⟨by rfl, ?y604⟩) (by assumption) ?z604
  case y604 => (intro w hSw; (try dsimp only at hSw); go_simp) <;> with_reducible rfl
  try simp only [Act.put, List.setIfInBounds_toArray, List.set_cons_zero, List.set_cons_succ]
  refine wpAnyH_take (i := 4) (oi := { dst := some 25, op := Go.Op.move (Go.Operand.tmp 9), type := 9, pos := "law.go:84", after := #[], guard := none }) (v := ?v605) rfl (by kernel_rfl) (by kernel_rfl) (by kernel_rfl) (fun _ _ _ h => h) (Or.inl ⟨by rfl, ?y605⟩) (by assumption) ?z605
  case y605 => (intro w hSw; (try dsimp only at hSw); go_simp) <;> with_reducible rfl
  try simp only [Act.put, List.setIfInBounds_toArray, List.set_cons_zero, List.set_cons_succ]
  refine wpAnyH_take (i := 5) (oi := { dst := some 26, op := Go.Op.move (Go.Operand.tmp 1), type := 5, pos := "law.go:84", after := #[], guard := none }) (v := ?v606) rfl (by kernel_rfl) (by kernel_rfl) (by kernel_rfl) (fun _ _ _ h => h) (Or.inl ⟨by rfl, ?y606⟩) (by assumption) ?z606
  case y606 => (intro w hSw; (try dsimp only at hSw); go_simp) <;> with_reducible rfl
  try simp only [Act.put, List.setIfInBounds_toArray, List.set_cons_zero, List.set_cons_succ]
  refine wpAnyH_take (i := 6) (oi := { dst := some 27, op := Go.Op.binOp Go.BinOp.rem 5 (Go.Operand.tmp 26) (Go.Operand.const (Go.Value.int Go.IntKind.u8 16)) 5, type := 5, pos := "law.go:84", after := #[{ on := 5, ground := Go.Ground.data }], guard := none }) (v := ?v607) rfl (by kernel_rfl) (by kernel_rfl) (by kernel_rfl) (fun _ _ _ h => h) (Or.inl ⟨by rfl, ?y607⟩) (by assumption) ?z607
  case y607 => (intro w hSw; (try dsimp only at hSw); go_simp) <;> with_reducible rfl
  try simp only [Act.put, List.setIfInBounds_toArray, List.set_cons_zero, List.set_cons_succ]
  refine wpAnyH_take (i := 7) (oi := { dst := some 28, op := Go.Op.index 9 (Go.Operand.tmp 25) (Go.Operand.tmp 27), type := 5, pos := "law.go:84", after := #[{ on := 4, ground := Go.Ground.data }, { on := 6, ground := Go.Ground.data }], guard := none }) (v := ?v608) rfl (by kernel_rfl) (by kernel_rfl) (by kernel_rfl) (fun _ _ _ h => h) (Or.inl ⟨by rfl, ?y608⟩) (by assumption) ?z608
  case y608 => (intro w hSw; (try dsimp only at hSw); go_simp) <;> with_reducible rfl
  try simp only [Act.put, List.setIfInBounds_toArray, List.set_cons_zero, List.set_cons_succ]
  refine wpAnyH_ready (rs := [8]) (by kernel_rfl) (by simp) ?_
  refine (AllReadyH.cons (o := { dst := some 29, op := Go.Op.buildSlice 37 2 #[(0, Go.Operand.tmp 24), (1, Go.Operand.tmp 28)], type := 37, pos := "law.go:84", after := #[{ on := 3, ground := Go.Ground.data }, { on := 7, ground := Go.Ground.data }], guard := none }) rfl (fun K hK => ?_) AllReadyH.nil)
  · go_simp
    refine hK.out _ _ ?s609 (fun hNew => ?r609)
    case s609 => exact WS.below hHeld (own1 _ _)
    clear hK K
    clear hHeld
    have hHeld := hNew
    clear hNew
    have HN := Lib.hid (Has.new V60 #[.int .u8 (D1.toNat : Int), .int .u8 (D0.toNat : Int)] 5)
    generalize V60.alloc (.cells #[.int .u8 (D1.toNat : Int), .int .u8 (D0.toNat : Int)] 5) = V61 at hHeld HN ⊢
    generalize V60.heap.size = sb6 at HN ⊢
    refine wpAnyH_ready (rs := [9]) (by kernel_rfl) (by simp) ?_
    refine (AllReadyH.cons (o := { dst := some 30, op := Go.Op.convert 37 9 (Go.Operand.tmp 29), type := 9, pos := "law.go:84", after := #[{ on := 8, ground := Go.Ground.data }], guard := none }) rfl (fun K hK => ?_) AllReadyH.nil)
    · have hcv := conv2 D1 D0 _ _ HN.out
      go_simp
      refine hK.out _ _ ?s610 (fun hNew => ?r610)
      case s610 => exact hHeld
      clear hK K
      clear hcv HN
      clear hHeld
      have hHeld := hNew
      clear hNew
      obtain ⟨V62, hVV⟩ : ∃ V, V = V61 := ⟨_, rfl⟩
      rw [← hVV] at hHeld ⊢
      clear hVV
      refine wpAnyH_take (i := 10) (oi := { dst := some 10, op := Go.Op.assign (Go.Operand.tmp 30), type := 9, pos := "law.go:84", after := #[{ on := 9, ground := Go.Ground.data }, { on := 0, ground := Go.Ground.phase }, { on := 1, ground := Go.Ground.phase }, { on := 2, ground := Go.Ground.phase }, { on := 3, ground := Go.Ground.phase }, { on := 4, ground := Go.Ground.phase }, { on := 5, ground := Go.Ground.phase }, { on := 6, ground := Go.Ground.phase }, { on := 7, ground := Go.Ground.phase }, { on := 8, ground := Go.Ground.phase }, { on := 9, ground := Go.Ground.phase }], guard := none }) (v := ?v611) rfl (by kernel_rfl) (by kernel_rfl) (by kernel_rfl) (fun _ _ _ h => h) (Or.inl ⟨by rfl, ?y611⟩) (by assumption) ?z611
      case y611 => (intro w hSw; (try dsimp only at hSw); go_simp) <;> with_reducible rfl
      try simp only [Act.put, List.setIfInBounds_toArray, List.set_cons_zero, List.set_cons_succ]
      refine wpAnyH_done (by kernel_rfl) ?_ _
      go_wp2_with fail
      refine wp_region_held_drew (S := (fun w' => (∀ o, w'.cell? ⟨ob, o, none⟩ = #[Value.int .i64 k, .int .i64 x, .int .i64 y, .int .i64 3, .int .u16 ((c : Int) * 256 + b)][o]?) ∧ WR ob w w')) (by kernel_rfl) (WS.below hHeld (Below.refl _ _).drew) (fun hNew => ?_)
      clear hHeld
      have hHeld := hNew
      clear hNew
      generalize V62.drew = V70 at hHeld ⊢
      refine wpAnyH_take (i := 0) (oi := { dst := some 31, op := Go.Op.move (Go.Operand.tmp 9), type := 9, pos := "law.go:85", after := #[], guard := none }) (v := ?v701) rfl (by kernel_rfl) (by kernel_rfl) (by kernel_rfl) (fun _ _ _ h => h) (Or.inl ⟨by rfl, ?y701⟩) (by assumption) ?z701
      case y701 => (intro w hSw; (try dsimp only at hSw); go_simp) <;> with_reducible rfl
      try simp only [Act.put, List.setIfInBounds_toArray, List.set_cons_zero, List.set_cons_succ]
      refine wpAnyH_take (i := 1) (oi := { dst := some 32, op := Go.Op.move (Go.Operand.tmp 2), type := 5, pos := "law.go:85", after := #[], guard := none }) (v := ?v702) rfl (by kernel_rfl) (by kernel_rfl) (by kernel_rfl) (fun _ _ _ h => h) (Or.inl ⟨by rfl, ?y702⟩) (by assumption) ?z702
      case y702 => (intro w hSw; (try dsimp only at hSw); go_simp) <;> with_reducible rfl
      try simp only [Act.put, List.setIfInBounds_toArray, List.set_cons_zero, List.set_cons_succ]
      refine wpAnyH_take (i := 2) (oi := { dst := some 33, op := Go.Op.binOp Go.BinOp.quo 5 (Go.Operand.tmp 32) (Go.Operand.const (Go.Value.int Go.IntKind.u8 16)) 5, type := 5, pos := "law.go:85", after := #[{ on := 1, ground := Go.Ground.data }], guard := none }) (v := ?v703) rfl (by kernel_rfl) (by kernel_rfl) (by kernel_rfl) (fun _ _ _ h => h) (Or.inl ⟨by rfl, ?y703⟩) (by assumption) ?z703
      case y703 => (intro w hSw; (try dsimp only at hSw); go_simp) <;> with_reducible rfl
      try simp only [Act.put, List.setIfInBounds_toArray, List.set_cons_zero, List.set_cons_succ]
      refine wpAnyH_take (i := 3) (oi := { dst := some 34, op := Go.Op.index 9 (Go.Operand.tmp 31) (Go.Operand.tmp 33), type := 5, pos := "law.go:85", after := #[{ on := 0, ground := Go.Ground.data }, { on := 2, ground := Go.Ground.data }], guard := none }) (v := ?v704) rfl (by kernel_rfl) (by kernel_rfl) (by kernel_rfl) (fun _ _ _ h => h) (Or.inl ⟨by rfl, ?y704⟩) (by assumption) ?z704
      case y704 => (intro w hSw; (try dsimp only at hSw); go_simp) <;> with_reducible rfl
      try simp only [Act.put, List.setIfInBounds_toArray, List.set_cons_zero, List.set_cons_succ]
      refine wpAnyH_take (i := 4) (oi := { dst := some 35, op := Go.Op.move (Go.Operand.tmp 9), type := 9, pos := "law.go:85", after := #[], guard := none }) (v := ?v705) rfl (by kernel_rfl) (by kernel_rfl) (by kernel_rfl) (fun _ _ _ h => h) (Or.inl ⟨by rfl, ?y705⟩) (by assumption) ?z705
      case y705 => (intro w hSw; (try dsimp only at hSw); go_simp) <;> with_reducible rfl
      try simp only [Act.put, List.setIfInBounds_toArray, List.set_cons_zero, List.set_cons_succ]
      refine wpAnyH_take (i := 5) (oi := { dst := some 36, op := Go.Op.move (Go.Operand.tmp 2), type := 5, pos := "law.go:85", after := #[], guard := none }) (v := ?v706) rfl (by kernel_rfl) (by kernel_rfl) (by kernel_rfl) (fun _ _ _ h => h) (Or.inl ⟨by rfl, ?y706⟩) (by assumption) ?z706
      case y706 => (intro w hSw; (try dsimp only at hSw); go_simp) <;> with_reducible rfl
      try simp only [Act.put, List.setIfInBounds_toArray, List.set_cons_zero, List.set_cons_succ]
      refine wpAnyH_take (i := 6) (oi := { dst := some 37, op := Go.Op.binOp Go.BinOp.rem 5 (Go.Operand.tmp 36) (Go.Operand.const (Go.Value.int Go.IntKind.u8 16)) 5, type := 5, pos := "law.go:85", after := #[{ on := 5, ground := Go.Ground.data }], guard := none }) (v := ?v707) rfl (by kernel_rfl) (by kernel_rfl) (by kernel_rfl) (fun _ _ _ h => h) (Or.inl ⟨by rfl, ?y707⟩) (by assumption) ?z707
      case y707 => (intro w hSw; (try dsimp only at hSw); go_simp) <;> with_reducible rfl
      try simp only [Act.put, List.setIfInBounds_toArray, List.set_cons_zero, List.set_cons_succ]
      refine wpAnyH_take (i := 7) (oi := { dst := some 38, op := Go.Op.index 9 (Go.Operand.tmp 35) (Go.Operand.tmp 37), type := 5, pos := "law.go:85", after := #[{ on := 4, ground := Go.Ground.data }, { on := 6, ground := Go.Ground.data }], guard := none }) (v := ?v708) rfl (by kernel_rfl) (by kernel_rfl) (by kernel_rfl) (fun _ _ _ h => h) (Or.inl ⟨by rfl, ?y708⟩) (by assumption) ?z708
      case y708 => (intro w hSw; (try dsimp only at hSw); go_simp) <;> with_reducible rfl
      try simp only [Act.put, List.setIfInBounds_toArray, List.set_cons_zero, List.set_cons_succ]
      refine wpAnyH_take (i := 10) (oi := { dst := some 41, op := Go.Op.move (Go.Operand.tmp 10), type := 9, pos := "law.go:85", after := #[], guard := none }) (v := ?v709) rfl (by kernel_rfl) (by kernel_rfl) (by kernel_rfl) (fun _ _ _ h => h) (Or.inl ⟨by rfl, ?y709⟩) (by assumption) ?z709
      case y709 => (intro w hSw; (try dsimp only at hSw); go_simp) <;> with_reducible rfl
      try simp only [Act.put, List.setIfInBounds_toArray, List.set_cons_zero, List.set_cons_succ]
      refine wpAnyH_ready (rs := [8]) (by kernel_rfl) (by simp) ?_
      refine (AllReadyH.cons (o := { dst := some 39, op := Go.Op.buildSlice 37 2 #[(0, Go.Operand.tmp 34), (1, Go.Operand.tmp 38)], type := 37, pos := "law.go:85", after := #[{ on := 3, ground := Go.Ground.data }, { on := 7, ground := Go.Ground.data }], guard := none }) rfl (fun K hK => ?_) AllReadyH.nil)
      · go_simp
        refine hK.out _ _ ?s710 (fun hNew => ?r710)
        case s710 => exact WS.below hHeld (own1 _ _)
        clear hK K
        clear hHeld
        have hHeld := hNew
        clear hNew
        have HN := Lib.hid (Has.new V70 #[.int .u8 (E1.toNat : Int), .int .u8 (E0.toNat : Int)] 5)
        generalize V70.alloc (.cells #[.int .u8 (E1.toNat : Int), .int .u8 (E0.toNat : Int)] 5) = V71 at hHeld HN ⊢
        generalize V70.heap.size = sb7 at HN ⊢
        refine wpAnyH_ready (rs := [9]) (by kernel_rfl) (by simp) ?_
        refine (AllReadyH.cons (o := { dst := some 40, op := Go.Op.convert 37 9 (Go.Operand.tmp 39), type := 9, pos := "law.go:85", after := #[{ on := 8, ground := Go.Ground.data }], guard := none }) rfl (fun K hK => ?_) AllReadyH.nil)
        · have hcv := conv2 E1 E0 _ _ HN.out
          go_simp
          refine hK.out _ _ ?s711 (fun hNew => ?r711)
          case s711 => exact hHeld
          clear hK K
          clear hcv HN
          clear hHeld
          have hHeld := hNew
          clear hNew
          obtain ⟨V72, hVV⟩ : ∃ V, V = V71 := ⟨_, rfl⟩
          rw [← hVV] at hHeld ⊢
          clear hVV
          refine wpAnyH_take (i := 11) (oi := { dst := some 42, op := Go.Op.binOp Go.BinOp.add 9 (Go.Operand.tmp 40) (Go.Operand.tmp 41) 9, type := 9, pos := "law.go:85", after := #[{ on := 9, ground := Go.Ground.data }, { on := 10, ground := Go.Ground.data }], guard := none }) (v := ?v712) rfl (by kernel_rfl) (by kernel_rfl) (by kernel_rfl) (fun _ _ _ h => h) (Or.inl ⟨by rfl, ?y712⟩) (by assumption) ?z712
          case y712 => (intro w hSw; (try dsimp only at hSw); go_simp) <;> with_reducible rfl
          try simp only [Act.put, List.setIfInBounds_toArray, List.set_cons_zero, List.set_cons_succ]
          refine wpAnyH_take (i := 12) (oi := { dst := some 11, op := Go.Op.assign (Go.Operand.tmp 42), type := 9, pos := "law.go:85", after := #[{ on := 11, ground := Go.Ground.data }, { on := 0, ground := Go.Ground.phase }, { on := 1, ground := Go.Ground.phase }, { on := 2, ground := Go.Ground.phase }, { on := 3, ground := Go.Ground.phase }, { on := 4, ground := Go.Ground.phase }, { on := 5, ground := Go.Ground.phase }, { on := 6, ground := Go.Ground.phase }, { on := 7, ground := Go.Ground.phase }, { on := 8, ground := Go.Ground.phase }, { on := 9, ground := Go.Ground.phase }, { on := 10, ground := Go.Ground.phase }, { on := 11, ground := Go.Ground.phase }], guard := none }) (v := ?v713) rfl (by kernel_rfl) (by kernel_rfl) (by kernel_rfl) (fun _ _ _ h => h) (Or.inl ⟨by rfl, ?y713⟩) (by assumption) ?z713
          case y713 => (intro w hSw; (try dsimp only at hSw); go_simp) <;> with_reducible rfl
          try simp only [Act.put, List.setIfInBounds_toArray, List.set_cons_zero, List.set_cons_succ]
          refine wpAnyH_done (by kernel_rfl) ?_ _
          have hcc := hHeld.1
          go_wp2_with (go_at_call 15; (with_reducible refine (hasF T _ _ _ _ HI.out _).mono ?_); rintro e w' ⟨rfl, rfl⟩)
          go_ret
          exact ⟨rfl, hHeld.2.1⟩
set_option maxRecDepth 100000 in
set_option maxHeartbeats 2000000 in
theorem ww2 (a b c : Nat) (ha : a < 256) (hb : b < 256) (hc : c < 256) (k x y : Int) (hk : kind2 k = true) (hcb : ((a : Int) != 203) = true) (hr0 : decF a b c = ⟨k, x, y, 2, (b : Nat)⟩) (w : World) (hz : Tz w) : Calls Tryd.prog 8 #[.int .u8 a, .int .u8 b, .int .u8 c] w fun e w' => e = .returned (.bool true) ∧ Below w.heap.size w w' := by
  have HR := Lib.hid hr0
  clear hr0
  obtain ⟨T, hT⟩ : ∃ T, textL ⟨k, x, y, 2, (b : Nat)⟩ = T := ⟨_, rfl⟩
  have HT := Lib.hid hT
  clear hT
  obtain ⟨bh, hbh⟩ : ∃ v, b / 16 = v := ⟨_, rfl⟩
  obtain ⟨bl, hbl⟩ : ∃ v, b % 16 = v := ⟨_, rfl⟩
  obtain ⟨ch, hch⟩ : ∃ v, c / 16 = v := ⟨_, rfl⟩
  obtain ⟨cl, hcl⟩ : ∃ v, c % 16 = v := ⟨_, rfl⟩
  have v1 : bh < 16 := by omega
  have v0 : bl < 16 := by omega
  have u1 : ch < 16 := by omega
  have u0 : cl < 16 := by omega
  have r1 : IntKind.u8.wrap ((b : Int) / 16) = (bh : Int) := by rw [show (b : Int) / 16 = (bh : Int) by omega]; unfold IntKind.wrap; simp [IntKind.bits, IntKind.signed]; omega
  have r0 : IntKind.u8.wrap ((b : Int) % 16) = (bl : Int) := by rw [show (b : Int) % 16 = (bl : Int) by omega]; unfold IntKind.wrap; simp [IntKind.bits, IntKind.signed]; omega
  have r3 : IntKind.u8.wrap ((c : Int) / 16) = (ch : Int) := by rw [show (c : Int) / 16 = (ch : Int) by omega]; unfold IntKind.wrap; simp [IntKind.bits, IntKind.signed]; omega
  have r2 : IntKind.u8.wrap ((c : Int) % 16) = (cl : Int) := by rw [show (c : Int) % 16 = (cl : Int) by omega]; unfold IntKind.wrap; simp [IntKind.bits, IntKind.signed]; omega
  have m0 : (b : Int) % 16 = (bl : Int) := by omega
  have m2 : (c : Int) % 16 = (cl : Int) := by omega
  have t0 : (b : Int).tmod 16 = (bl : Int) := by rw [Int.tmod_eq_emod_of_nonneg (by omega)]; exact m0
  have t2 : (c : Int).tmod 16 = (cl : Int) := by rw [Int.tmod_eq_emod_of_nonneg (by omega)]; exact m2
  have M0 := Lib.hid m0
  have M2 := Lib.hid m2
  have KB := Lib.hid (show b / 16 % 16 = bh by omega)
  have KBl := Lib.hid hbl
  have KC := Lib.hid (show c / 16 % 16 = ch by omega)
  have KCl := Lib.hid hcl
  obtain ⟨D1, hD1⟩ : ∃ D, (⟨#[48, 49, 50, 51, 52, 53, 54, 55, 56, 57, 97, 98, 99, 100, 101, 102]⟩ : ByteArray)[bh]'v1 = D := ⟨_, rfl⟩
  obtain ⟨D0, hD0⟩ : ∃ D, (⟨#[48, 49, 50, 51, 52, 53, 54, 55, 56, 57, 97, 98, 99, 100, 101, 102]⟩ : ByteArray)[bl]'v0 = D := ⟨_, rfl⟩
  obtain ⟨E1, hE1⟩ : ∃ D, (⟨#[48, 49, 50, 51, 52, 53, 54, 55, 56, 57, 97, 98, 99, 100, 101, 102]⟩ : ByteArray)[ch]'u1 = D := ⟨_, rfl⟩
  obtain ⟨E0, hE0⟩ : ∃ D, (⟨#[48, 49, 50, 51, 52, 53, 54, 55, 56, 57, 97, 98, 99, 100, 101, 102]⟩ : ByteArray)[cl]'u0 = D := ⟨_, rfl⟩
  have KD1 := Lib.hid ((dgb' bh v1 v1).symm.trans hD1)
  have KD0 := Lib.hid ((dgb' bl v0 v0).symm.trans hD0)
  have KE1 := Lib.hid ((dgb' ch u1 u1).symm.trans hE1)
  have KE0 := Lib.hid ((dgb' cl u0 u0).symm.trans hE0)
  clear hbh hbl hch hcl m0 m2
  have z1 : (bh : Int) < 16 := by omega
  have z0 : (bl : Int) < 16 := by omega
  have y1 : (ch : Int) < 16 := by omega
  have y0 : (cl : Int) < 16 := by omega
  have hn1 : 0 ≤ (b : Int) := by omega
  have hn2 : (b : Int) < 65536 := by omega
  have hI := inf2 k x y 2 b hk
  rw [HT.out, hx2, KB.out, KBl.out, KD1.out, KD0.out] at hI
  have HI := Lib.hid hI
  clear hI
  have hnot : ∀ (x : Bool) (w : World), (Op.unary .not (.bool x)).run Tryd.prog w = .ok (.bool (!x)) w := fun _ _ => rfl
  go_enter Tryd.func8, Tryd.ntmps8
  go_wp2_with fail
  refine (awake_c w hz).mono ?_
  rintro e w1 ⟨rfl, hb1⟩
  have B1 := Lib.hid hb1
  have Z1 := Lib.hid ((hz.below hb1).below (own1 w1 (.cells Tryd.zeroCells54 54)))
  have h3 := (hz.below hb1).lt
  clear hb1 hz
  go_wp2_with (go_at_call 10; (with_reducible refine (new_c _).mono ?_); rintro e w' ⟨rfl, rfl⟩)
  refine (dec_m _ a b c ha hb hc _ _ _ _ _ HR.out _ (Or.inl (Tab.new w1 54))).mono ?_
  rintro e V2 ⟨rfl, hO⟩
  have HS := Lib.hid (LS.start B1.out hO #[.int .i64 k, .int .i64 x, .int .i64 y, .int .i64 2, .int .u16 (b : Nat)] 27)
  have Z2 := Lib.hid ((Z1.out.but hO.1 (by omega)).below (own1 V2 (.cells #[.int .i64 k, .int .i64 x, .int .i64 y, .int .i64 2, .int .u16 (b : Nat)] 27)))
  clear B1 Z1 hO h3
  go_wp2_with fail
  have HT2 := text_c ⟨k, x, y, 2, (b : Nat)⟩ hn1 hn2 _ Z2.out
  rw [HT.out] at HT2
  refine HT2.mono ?_
  rintro e V3 ⟨rfl, hb3⟩
  have HS2 := Lib.hid (WS.below (ob := V2.heap.size) ⟨HS.out.1, HS.out.2.2.1, HS.out.2.2.2.1⟩ hb3)
  clear HS Z2 HT2 hb3
  generalize V2.heap.size = ob at HS2 ⊢
  go_wp2_with fail
  refine wp_region_held_drew (S := (fun w' => (∀ o, w'.cell? ⟨ob, o, none⟩ = #[Value.int .i64 k, .int .i64 x, .int .i64 y, .int .i64 2, .int .u16 (b : Nat)][o]?) ∧ WR ob w w')) (by kernel_rfl) (WS.below HS2.out (Below.refl _ _).drew) (fun hHeld => ?_)
  clear HS2
  generalize V3.drew = V60 at hHeld ⊢
  refine wpAnyH_take (i := 0) (oi := { dst := some 21, op := Go.Op.move (Go.Operand.tmp 9), type := 9, pos := "law.go:84", after := #[], guard := none }) (v := ?v601) rfl (by kernel_rfl) (by kernel_rfl) (by kernel_rfl) (fun _ _ _ h => h) (Or.inl ⟨by rfl, ?y601⟩) (by assumption) ?z601
  case y601 => (intro w hSw; (try dsimp only at hSw); go_simp) <;> with_reducible rfl
  try simp only [Act.put, List.setIfInBounds_toArray, List.set_cons_zero, List.set_cons_succ]
  refine wpAnyH_take (i := 1) (oi := { dst := some 22, op := Go.Op.move (Go.Operand.tmp 1), type := 5, pos := "law.go:84", after := #[], guard := none }) (v := ?v602) rfl (by kernel_rfl) (by kernel_rfl) (by kernel_rfl) (fun _ _ _ h => h) (Or.inl ⟨by rfl, ?y602⟩) (by assumption) ?z602
  case y602 => (intro w hSw; (try dsimp only at hSw); go_simp) <;> with_reducible rfl
  try simp only [Act.put, List.setIfInBounds_toArray, List.set_cons_zero, List.set_cons_succ]
  refine wpAnyH_take (i := 2) (oi := { dst := some 23, op := Go.Op.binOp Go.BinOp.quo 5 (Go.Operand.tmp 22) (Go.Operand.const (Go.Value.int Go.IntKind.u8 16)) 5, type := 5, pos := "law.go:84", after := #[{ on := 1, ground := Go.Ground.data }], guard := none }) (v := ?v603) rfl (by kernel_rfl) (by kernel_rfl) (by kernel_rfl) (fun _ _ _ h => h) (Or.inl ⟨by rfl, ?y603⟩) (by assumption) ?z603
  case y603 => (intro w hSw; (try dsimp only at hSw); go_simp) <;> with_reducible rfl
  try simp only [Act.put, List.setIfInBounds_toArray, List.set_cons_zero, List.set_cons_succ]
  refine wpAnyH_take (i := 3) (oi := { dst := some 24, op := Go.Op.index 9 (Go.Operand.tmp 21) (Go.Operand.tmp 23), type := 5, pos := "law.go:84", after := #[{ on := 0, ground := Go.Ground.data }, { on := 2, ground := Go.Ground.data }], guard := none }) (v := ?v604) rfl (by kernel_rfl) (by kernel_rfl) (by kernel_rfl) (fun _ _ _ h => h) (Or.inl ⟨by rfl, ?y604⟩) (by assumption) ?z604
  case y604 => (intro w hSw; (try dsimp only at hSw); go_simp) <;> with_reducible rfl
  try simp only [Act.put, List.setIfInBounds_toArray, List.set_cons_zero, List.set_cons_succ]
  refine wpAnyH_take (i := 4) (oi := { dst := some 25, op := Go.Op.move (Go.Operand.tmp 9), type := 9, pos := "law.go:84", after := #[], guard := none }) (v := ?v605) rfl (by kernel_rfl) (by kernel_rfl) (by kernel_rfl) (fun _ _ _ h => h) (Or.inl ⟨by rfl, ?y605⟩) (by assumption) ?z605
  case y605 => (intro w hSw; (try dsimp only at hSw); go_simp) <;> with_reducible rfl
  try simp only [Act.put, List.setIfInBounds_toArray, List.set_cons_zero, List.set_cons_succ]
  refine wpAnyH_take (i := 5) (oi := { dst := some 26, op := Go.Op.move (Go.Operand.tmp 1), type := 5, pos := "law.go:84", after := #[], guard := none }) (v := ?v606) rfl (by kernel_rfl) (by kernel_rfl) (by kernel_rfl) (fun _ _ _ h => h) (Or.inl ⟨by rfl, ?y606⟩) (by assumption) ?z606
  case y606 => (intro w hSw; (try dsimp only at hSw); go_simp) <;> with_reducible rfl
  try simp only [Act.put, List.setIfInBounds_toArray, List.set_cons_zero, List.set_cons_succ]
  refine wpAnyH_take (i := 6) (oi := { dst := some 27, op := Go.Op.binOp Go.BinOp.rem 5 (Go.Operand.tmp 26) (Go.Operand.const (Go.Value.int Go.IntKind.u8 16)) 5, type := 5, pos := "law.go:84", after := #[{ on := 5, ground := Go.Ground.data }], guard := none }) (v := ?v607) rfl (by kernel_rfl) (by kernel_rfl) (by kernel_rfl) (fun _ _ _ h => h) (Or.inl ⟨by rfl, ?y607⟩) (by assumption) ?z607
  case y607 => (intro w hSw; (try dsimp only at hSw); go_simp) <;> with_reducible rfl
  try simp only [Act.put, List.setIfInBounds_toArray, List.set_cons_zero, List.set_cons_succ]
  refine wpAnyH_take (i := 7) (oi := { dst := some 28, op := Go.Op.index 9 (Go.Operand.tmp 25) (Go.Operand.tmp 27), type := 5, pos := "law.go:84", after := #[{ on := 4, ground := Go.Ground.data }, { on := 6, ground := Go.Ground.data }], guard := none }) (v := ?v608) rfl (by kernel_rfl) (by kernel_rfl) (by kernel_rfl) (fun _ _ _ h => h) (Or.inl ⟨by rfl, ?y608⟩) (by assumption) ?z608
  case y608 => (intro w hSw; (try dsimp only at hSw); go_simp) <;> with_reducible rfl
  try simp only [Act.put, List.setIfInBounds_toArray, List.set_cons_zero, List.set_cons_succ]
  refine wpAnyH_ready (rs := [8]) (by kernel_rfl) (by simp) ?_
  refine (AllReadyH.cons (o := { dst := some 29, op := Go.Op.buildSlice 37 2 #[(0, Go.Operand.tmp 24), (1, Go.Operand.tmp 28)], type := 37, pos := "law.go:84", after := #[{ on := 3, ground := Go.Ground.data }, { on := 7, ground := Go.Ground.data }], guard := none }) rfl (fun K hK => ?_) AllReadyH.nil)
  · go_simp
    refine hK.out _ _ ?s609 (fun hNew => ?r609)
    case s609 => exact WS.below hHeld (own1 _ _)
    clear hK K
    clear hHeld
    have hHeld := hNew
    clear hNew
    have HN := Lib.hid (Has.new V60 #[.int .u8 (D1.toNat : Int), .int .u8 (D0.toNat : Int)] 5)
    generalize V60.alloc (.cells #[.int .u8 (D1.toNat : Int), .int .u8 (D0.toNat : Int)] 5) = V61 at hHeld HN ⊢
    generalize V60.heap.size = sb6 at HN ⊢
    refine wpAnyH_ready (rs := [9]) (by kernel_rfl) (by simp) ?_
    refine (AllReadyH.cons (o := { dst := some 30, op := Go.Op.convert 37 9 (Go.Operand.tmp 29), type := 9, pos := "law.go:84", after := #[{ on := 8, ground := Go.Ground.data }], guard := none }) rfl (fun K hK => ?_) AllReadyH.nil)
    · have hcv := conv2 D1 D0 _ _ HN.out
      go_simp
      refine hK.out _ _ ?s610 (fun hNew => ?r610)
      case s610 => exact hHeld
      clear hK K
      clear hcv HN
      clear hHeld
      have hHeld := hNew
      clear hNew
      obtain ⟨V62, hVV⟩ : ∃ V, V = V61 := ⟨_, rfl⟩
      rw [← hVV] at hHeld ⊢
      clear hVV
      refine wpAnyH_take (i := 10) (oi := { dst := some 10, op := Go.Op.assign (Go.Operand.tmp 30), type := 9, pos := "law.go:84", after := #[{ on := 9, ground := Go.Ground.data }, { on := 0, ground := Go.Ground.phase }, { on := 1, ground := Go.Ground.phase }, { on := 2, ground := Go.Ground.phase }, { on := 3, ground := Go.Ground.phase }, { on := 4, ground := Go.Ground.phase }, { on := 5, ground := Go.Ground.phase }, { on := 6, ground := Go.Ground.phase }, { on := 7, ground := Go.Ground.phase }, { on := 8, ground := Go.Ground.phase }, { on := 9, ground := Go.Ground.phase }], guard := none }) (v := ?v611) rfl (by kernel_rfl) (by kernel_rfl) (by kernel_rfl) (fun _ _ _ h => h) (Or.inl ⟨by rfl, ?y611⟩) (by assumption) ?z611
      case y611 => (intro w hSw; (try dsimp only at hSw); go_simp) <;> with_reducible rfl
      try simp only [Act.put, List.setIfInBounds_toArray, List.set_cons_zero, List.set_cons_succ]
      refine wpAnyH_done (by kernel_rfl) ?_ _
      go_wp2_with fail
      refine wp_region_held_drew (S := (fun w' => (∀ o, w'.cell? ⟨ob, o, none⟩ = #[Value.int .i64 k, .int .i64 x, .int .i64 y, .int .i64 2, .int .u16 (b : Nat)][o]?) ∧ WR ob w w')) (by kernel_rfl) (WS.below hHeld (Below.refl _ _).drew) (fun hNew => ?_)
      clear hHeld
      have hHeld := hNew
      clear hNew
      generalize V62.drew = V70 at hHeld ⊢
      refine wpAnyH_take (i := 0) (oi := { dst := some 31, op := Go.Op.move (Go.Operand.tmp 9), type := 9, pos := "law.go:85", after := #[], guard := none }) (v := ?v701) rfl (by kernel_rfl) (by kernel_rfl) (by kernel_rfl) (fun _ _ _ h => h) (Or.inl ⟨by rfl, ?y701⟩) (by assumption) ?z701
      case y701 => (intro w hSw; (try dsimp only at hSw); go_simp) <;> with_reducible rfl
      try simp only [Act.put, List.setIfInBounds_toArray, List.set_cons_zero, List.set_cons_succ]
      refine wpAnyH_take (i := 1) (oi := { dst := some 32, op := Go.Op.move (Go.Operand.tmp 2), type := 5, pos := "law.go:85", after := #[], guard := none }) (v := ?v702) rfl (by kernel_rfl) (by kernel_rfl) (by kernel_rfl) (fun _ _ _ h => h) (Or.inl ⟨by rfl, ?y702⟩) (by assumption) ?z702
      case y702 => (intro w hSw; (try dsimp only at hSw); go_simp) <;> with_reducible rfl
      try simp only [Act.put, List.setIfInBounds_toArray, List.set_cons_zero, List.set_cons_succ]
      refine wpAnyH_take (i := 2) (oi := { dst := some 33, op := Go.Op.binOp Go.BinOp.quo 5 (Go.Operand.tmp 32) (Go.Operand.const (Go.Value.int Go.IntKind.u8 16)) 5, type := 5, pos := "law.go:85", after := #[{ on := 1, ground := Go.Ground.data }], guard := none }) (v := ?v703) rfl (by kernel_rfl) (by kernel_rfl) (by kernel_rfl) (fun _ _ _ h => h) (Or.inl ⟨by rfl, ?y703⟩) (by assumption) ?z703
      case y703 => (intro w hSw; (try dsimp only at hSw); go_simp) <;> with_reducible rfl
      try simp only [Act.put, List.setIfInBounds_toArray, List.set_cons_zero, List.set_cons_succ]
      refine wpAnyH_take (i := 3) (oi := { dst := some 34, op := Go.Op.index 9 (Go.Operand.tmp 31) (Go.Operand.tmp 33), type := 5, pos := "law.go:85", after := #[{ on := 0, ground := Go.Ground.data }, { on := 2, ground := Go.Ground.data }], guard := none }) (v := ?v704) rfl (by kernel_rfl) (by kernel_rfl) (by kernel_rfl) (fun _ _ _ h => h) (Or.inl ⟨by rfl, ?y704⟩) (by assumption) ?z704
      case y704 => (intro w hSw; (try dsimp only at hSw); go_simp) <;> with_reducible rfl
      try simp only [Act.put, List.setIfInBounds_toArray, List.set_cons_zero, List.set_cons_succ]
      refine wpAnyH_take (i := 4) (oi := { dst := some 35, op := Go.Op.move (Go.Operand.tmp 9), type := 9, pos := "law.go:85", after := #[], guard := none }) (v := ?v705) rfl (by kernel_rfl) (by kernel_rfl) (by kernel_rfl) (fun _ _ _ h => h) (Or.inl ⟨by rfl, ?y705⟩) (by assumption) ?z705
      case y705 => (intro w hSw; (try dsimp only at hSw); go_simp) <;> with_reducible rfl
      try simp only [Act.put, List.setIfInBounds_toArray, List.set_cons_zero, List.set_cons_succ]
      refine wpAnyH_take (i := 5) (oi := { dst := some 36, op := Go.Op.move (Go.Operand.tmp 2), type := 5, pos := "law.go:85", after := #[], guard := none }) (v := ?v706) rfl (by kernel_rfl) (by kernel_rfl) (by kernel_rfl) (fun _ _ _ h => h) (Or.inl ⟨by rfl, ?y706⟩) (by assumption) ?z706
      case y706 => (intro w hSw; (try dsimp only at hSw); go_simp) <;> with_reducible rfl
      try simp only [Act.put, List.setIfInBounds_toArray, List.set_cons_zero, List.set_cons_succ]
      refine wpAnyH_take (i := 6) (oi := { dst := some 37, op := Go.Op.binOp Go.BinOp.rem 5 (Go.Operand.tmp 36) (Go.Operand.const (Go.Value.int Go.IntKind.u8 16)) 5, type := 5, pos := "law.go:85", after := #[{ on := 5, ground := Go.Ground.data }], guard := none }) (v := ?v707) rfl (by kernel_rfl) (by kernel_rfl) (by kernel_rfl) (fun _ _ _ h => h) (Or.inl ⟨by rfl, ?y707⟩) (by assumption) ?z707
      case y707 => (intro w hSw; (try dsimp only at hSw); go_simp) <;> with_reducible rfl
      try simp only [Act.put, List.setIfInBounds_toArray, List.set_cons_zero, List.set_cons_succ]
      refine wpAnyH_take (i := 7) (oi := { dst := some 38, op := Go.Op.index 9 (Go.Operand.tmp 35) (Go.Operand.tmp 37), type := 5, pos := "law.go:85", after := #[{ on := 4, ground := Go.Ground.data }, { on := 6, ground := Go.Ground.data }], guard := none }) (v := ?v708) rfl (by kernel_rfl) (by kernel_rfl) (by kernel_rfl) (fun _ _ _ h => h) (Or.inl ⟨by rfl, ?y708⟩) (by assumption) ?z708
      case y708 => (intro w hSw; (try dsimp only at hSw); go_simp) <;> with_reducible rfl
      try simp only [Act.put, List.setIfInBounds_toArray, List.set_cons_zero, List.set_cons_succ]
      refine wpAnyH_take (i := 10) (oi := { dst := some 41, op := Go.Op.move (Go.Operand.tmp 10), type := 9, pos := "law.go:85", after := #[], guard := none }) (v := ?v709) rfl (by kernel_rfl) (by kernel_rfl) (by kernel_rfl) (fun _ _ _ h => h) (Or.inl ⟨by rfl, ?y709⟩) (by assumption) ?z709
      case y709 => (intro w hSw; (try dsimp only at hSw); go_simp) <;> with_reducible rfl
      try simp only [Act.put, List.setIfInBounds_toArray, List.set_cons_zero, List.set_cons_succ]
      refine wpAnyH_ready (rs := [8]) (by kernel_rfl) (by simp) ?_
      refine (AllReadyH.cons (o := { dst := some 39, op := Go.Op.buildSlice 37 2 #[(0, Go.Operand.tmp 34), (1, Go.Operand.tmp 38)], type := 37, pos := "law.go:85", after := #[{ on := 3, ground := Go.Ground.data }, { on := 7, ground := Go.Ground.data }], guard := none }) rfl (fun K hK => ?_) AllReadyH.nil)
      · go_simp
        refine hK.out _ _ ?s710 (fun hNew => ?r710)
        case s710 => exact WS.below hHeld (own1 _ _)
        clear hK K
        clear hHeld
        have hHeld := hNew
        clear hNew
        have HN := Lib.hid (Has.new V70 #[.int .u8 (E1.toNat : Int), .int .u8 (E0.toNat : Int)] 5)
        generalize V70.alloc (.cells #[.int .u8 (E1.toNat : Int), .int .u8 (E0.toNat : Int)] 5) = V71 at hHeld HN ⊢
        generalize V70.heap.size = sb7 at HN ⊢
        refine wpAnyH_ready (rs := [9]) (by kernel_rfl) (by simp) ?_
        refine (AllReadyH.cons (o := { dst := some 40, op := Go.Op.convert 37 9 (Go.Operand.tmp 39), type := 9, pos := "law.go:85", after := #[{ on := 8, ground := Go.Ground.data }], guard := none }) rfl (fun K hK => ?_) AllReadyH.nil)
        · have hcv := conv2 E1 E0 _ _ HN.out
          go_simp
          refine hK.out _ _ ?s711 (fun hNew => ?r711)
          case s711 => exact hHeld
          clear hK K
          clear hcv HN
          clear hHeld
          have hHeld := hNew
          clear hNew
          obtain ⟨V72, hVV⟩ : ∃ V, V = V71 := ⟨_, rfl⟩
          rw [← hVV] at hHeld ⊢
          clear hVV
          refine wpAnyH_take (i := 11) (oi := { dst := some 42, op := Go.Op.binOp Go.BinOp.add 9 (Go.Operand.tmp 40) (Go.Operand.tmp 41) 9, type := 9, pos := "law.go:85", after := #[{ on := 9, ground := Go.Ground.data }, { on := 10, ground := Go.Ground.data }], guard := none }) (v := ?v712) rfl (by kernel_rfl) (by kernel_rfl) (by kernel_rfl) (fun _ _ _ h => h) (Or.inl ⟨by rfl, ?y712⟩) (by assumption) ?z712
          case y712 => (intro w hSw; (try dsimp only at hSw); go_simp) <;> with_reducible rfl
          try simp only [Act.put, List.setIfInBounds_toArray, List.set_cons_zero, List.set_cons_succ]
          refine wpAnyH_take (i := 12) (oi := { dst := some 11, op := Go.Op.assign (Go.Operand.tmp 42), type := 9, pos := "law.go:85", after := #[{ on := 11, ground := Go.Ground.data }, { on := 0, ground := Go.Ground.phase }, { on := 1, ground := Go.Ground.phase }, { on := 2, ground := Go.Ground.phase }, { on := 3, ground := Go.Ground.phase }, { on := 4, ground := Go.Ground.phase }, { on := 5, ground := Go.Ground.phase }, { on := 6, ground := Go.Ground.phase }, { on := 7, ground := Go.Ground.phase }, { on := 8, ground := Go.Ground.phase }, { on := 9, ground := Go.Ground.phase }, { on := 10, ground := Go.Ground.phase }, { on := 11, ground := Go.Ground.phase }], guard := none }) (v := ?v713) rfl (by kernel_rfl) (by kernel_rfl) (by kernel_rfl) (fun _ _ _ h => h) (Or.inl ⟨by rfl, ?y713⟩) (by assumption) ?z713
          case y713 => (intro w hSw; (try dsimp only at hSw); go_simp) <;> with_reducible rfl
          try simp only [Act.put, List.setIfInBounds_toArray, List.set_cons_zero, List.set_cons_succ]
          refine wpAnyH_done (by kernel_rfl) ?_ _
          have hcc := hHeld.1
          go_wp2_with (go_at_call 15; (with_reducible refine (hasT T [D1, D0] HI.out _).mono ?_); rintro e w' ⟨rfl, rfl⟩)
          go_ret
          exact ⟨rfl, hHeld.2.1⟩
set_option maxRecDepth 100000 in
set_option maxHeartbeats 2000000 in
theorem wwp (a b c : Nat) (ha : a < 256) (hb : b < 256) (hc : c < 256) (k x y : Int) (hcb : ((a : Int) != 203) = false) (hr0 : decF a b c = ⟨k, x, y, 2, 0⟩) (w : World) (hz : Tz w) : Calls Tryd.prog 8 #[.int .u8 a, .int .u8 b, .int .u8 c] w fun e w' => e = .returned (.bool true) ∧ Below w.heap.size w w' := by
  have HR := Lib.hid hr0
  clear hr0
  obtain ⟨T, hT⟩ : ∃ T, textL ⟨k, x, y, 2, 0⟩ = T := ⟨_, rfl⟩
  have HT := Lib.hid hT
  clear hT
  obtain ⟨bh, hbh⟩ : ∃ v, b / 16 = v := ⟨_, rfl⟩
  obtain ⟨bl, hbl⟩ : ∃ v, b % 16 = v := ⟨_, rfl⟩
  obtain ⟨ch, hch⟩ : ∃ v, c / 16 = v := ⟨_, rfl⟩
  obtain ⟨cl, hcl⟩ : ∃ v, c % 16 = v := ⟨_, rfl⟩
  have v1 : bh < 16 := by omega
  have v0 : bl < 16 := by omega
  have u1 : ch < 16 := by omega
  have u0 : cl < 16 := by omega
  have r1 : IntKind.u8.wrap ((b : Int) / 16) = (bh : Int) := by rw [show (b : Int) / 16 = (bh : Int) by omega]; unfold IntKind.wrap; simp [IntKind.bits, IntKind.signed]; omega
  have r0 : IntKind.u8.wrap ((b : Int) % 16) = (bl : Int) := by rw [show (b : Int) % 16 = (bl : Int) by omega]; unfold IntKind.wrap; simp [IntKind.bits, IntKind.signed]; omega
  have r3 : IntKind.u8.wrap ((c : Int) / 16) = (ch : Int) := by rw [show (c : Int) / 16 = (ch : Int) by omega]; unfold IntKind.wrap; simp [IntKind.bits, IntKind.signed]; omega
  have r2 : IntKind.u8.wrap ((c : Int) % 16) = (cl : Int) := by rw [show (c : Int) % 16 = (cl : Int) by omega]; unfold IntKind.wrap; simp [IntKind.bits, IntKind.signed]; omega
  have m0 : (b : Int) % 16 = (bl : Int) := by omega
  have m2 : (c : Int) % 16 = (cl : Int) := by omega
  have t0 : (b : Int).tmod 16 = (bl : Int) := by rw [Int.tmod_eq_emod_of_nonneg (by omega)]; exact m0
  have t2 : (c : Int).tmod 16 = (cl : Int) := by rw [Int.tmod_eq_emod_of_nonneg (by omega)]; exact m2
  have M0 := Lib.hid m0
  have M2 := Lib.hid m2
  have KB := Lib.hid (show b / 16 % 16 = bh by omega)
  have KBl := Lib.hid hbl
  have KC := Lib.hid (show c / 16 % 16 = ch by omega)
  have KCl := Lib.hid hcl
  obtain ⟨D1, hD1⟩ : ∃ D, (⟨#[48, 49, 50, 51, 52, 53, 54, 55, 56, 57, 97, 98, 99, 100, 101, 102]⟩ : ByteArray)[bh]'v1 = D := ⟨_, rfl⟩
  obtain ⟨D0, hD0⟩ : ∃ D, (⟨#[48, 49, 50, 51, 52, 53, 54, 55, 56, 57, 97, 98, 99, 100, 101, 102]⟩ : ByteArray)[bl]'v0 = D := ⟨_, rfl⟩
  obtain ⟨E1, hE1⟩ : ∃ D, (⟨#[48, 49, 50, 51, 52, 53, 54, 55, 56, 57, 97, 98, 99, 100, 101, 102]⟩ : ByteArray)[ch]'u1 = D := ⟨_, rfl⟩
  obtain ⟨E0, hE0⟩ : ∃ D, (⟨#[48, 49, 50, 51, 52, 53, 54, 55, 56, 57, 97, 98, 99, 100, 101, 102]⟩ : ByteArray)[cl]'u0 = D := ⟨_, rfl⟩
  have KD1 := Lib.hid ((dgb' bh v1 v1).symm.trans hD1)
  have KD0 := Lib.hid ((dgb' bl v0 v0).symm.trans hD0)
  have KE1 := Lib.hid ((dgb' ch u1 u1).symm.trans hE1)
  have KE0 := Lib.hid ((dgb' cl u0 u0).symm.trans hE0)
  clear hbh hbl hch hcl m0 m2
  have z1 : (bh : Int) < 16 := by omega
  have z0 : (bl : Int) < 16 := by omega
  have y1 : (ch : Int) < 16 := by omega
  have y0 : (cl : Int) < 16 := by omega
  have hn1 : (0 : Int) ≤ 0 := by omega
  have hn2 : (0 : Int) < 65536 := by omega
  have hnot : ∀ (x : Bool) (w : World), (Op.unary .not (.bool x)).run Tryd.prog w = .ok (.bool (!x)) w := fun _ _ => rfl
  go_enter Tryd.func8, Tryd.ntmps8
  go_wp2_with fail
  refine (awake_c w hz).mono ?_
  rintro e w1 ⟨rfl, hb1⟩
  have B1 := Lib.hid hb1
  have Z1 := Lib.hid ((hz.below hb1).below (own1 w1 (.cells Tryd.zeroCells54 54)))
  have h3 := (hz.below hb1).lt
  clear hb1 hz
  go_wp2_with (go_at_call 10; (with_reducible refine (new_c _).mono ?_); rintro e w' ⟨rfl, rfl⟩)
  refine (dec_m _ a b c ha hb hc _ _ _ _ _ HR.out _ (Or.inl (Tab.new w1 54))).mono ?_
  rintro e V2 ⟨rfl, hO⟩
  have HS := Lib.hid (LS.start B1.out hO #[.int .i64 k, .int .i64 x, .int .i64 y, .int .i64 2, .int .u16 0] 27)
  have Z2 := Lib.hid ((Z1.out.but hO.1 (by omega)).below (own1 V2 (.cells #[.int .i64 k, .int .i64 x, .int .i64 y, .int .i64 2, .int .u16 0] 27)))
  clear B1 Z1 hO h3
  go_wp2_with fail
  have HT2 := text_c ⟨k, x, y, 2, 0⟩ hn1 hn2 _ Z2.out
  rw [HT.out] at HT2
  refine HT2.mono ?_
  rintro e V3 ⟨rfl, hb3⟩
  have HS2 := Lib.hid (WS.below (ob := V2.heap.size) ⟨HS.out.1, HS.out.2.2.1, HS.out.2.2.2.1⟩ hb3)
  clear HS Z2 HT2 hb3
  generalize V2.heap.size = ob at HS2 ⊢
  go_wp2_with fail
  refine wp_region_held_drew (S := (fun w' => (∀ o, w'.cell? ⟨ob, o, none⟩ = #[Value.int .i64 k, .int .i64 x, .int .i64 y, .int .i64 2, .int .u16 0][o]?) ∧ WR ob w w')) (by kernel_rfl) (WS.below HS2.out (Below.refl _ _).drew) (fun hHeld => ?_)
  clear HS2
  generalize V3.drew = V60 at hHeld ⊢
  refine wpAnyH_take (i := 0) (oi := { dst := some 21, op := Go.Op.move (Go.Operand.tmp 9), type := 9, pos := "law.go:84", after := #[], guard := none }) (v := ?v601) rfl (by kernel_rfl) (by kernel_rfl) (by kernel_rfl) (fun _ _ _ h => h) (Or.inl ⟨by rfl, ?y601⟩) (by assumption) ?z601
  case y601 => (intro w hSw; (try dsimp only at hSw); go_simp) <;> with_reducible rfl
  try simp only [Act.put, List.setIfInBounds_toArray, List.set_cons_zero, List.set_cons_succ]
  refine wpAnyH_take (i := 1) (oi := { dst := some 22, op := Go.Op.move (Go.Operand.tmp 1), type := 5, pos := "law.go:84", after := #[], guard := none }) (v := ?v602) rfl (by kernel_rfl) (by kernel_rfl) (by kernel_rfl) (fun _ _ _ h => h) (Or.inl ⟨by rfl, ?y602⟩) (by assumption) ?z602
  case y602 => (intro w hSw; (try dsimp only at hSw); go_simp) <;> with_reducible rfl
  try simp only [Act.put, List.setIfInBounds_toArray, List.set_cons_zero, List.set_cons_succ]
  refine wpAnyH_take (i := 2) (oi := { dst := some 23, op := Go.Op.binOp Go.BinOp.quo 5 (Go.Operand.tmp 22) (Go.Operand.const (Go.Value.int Go.IntKind.u8 16)) 5, type := 5, pos := "law.go:84", after := #[{ on := 1, ground := Go.Ground.data }], guard := none }) (v := ?v603) rfl (by kernel_rfl) (by kernel_rfl) (by kernel_rfl) (fun _ _ _ h => h) (Or.inl ⟨by rfl, ?y603⟩) (by assumption) ?z603
  case y603 => (intro w hSw; (try dsimp only at hSw); go_simp) <;> with_reducible rfl
  try simp only [Act.put, List.setIfInBounds_toArray, List.set_cons_zero, List.set_cons_succ]
  refine wpAnyH_take (i := 3) (oi := { dst := some 24, op := Go.Op.index 9 (Go.Operand.tmp 21) (Go.Operand.tmp 23), type := 5, pos := "law.go:84", after := #[{ on := 0, ground := Go.Ground.data }, { on := 2, ground := Go.Ground.data }], guard := none }) (v := ?v604) rfl (by kernel_rfl) (by kernel_rfl) (by kernel_rfl) (fun _ _ _ h => h) (Or.inl ⟨by rfl, ?y604⟩) (by assumption) ?z604
  case y604 => (intro w hSw; (try dsimp only at hSw); go_simp) <;> with_reducible rfl
  try simp only [Act.put, List.setIfInBounds_toArray, List.set_cons_zero, List.set_cons_succ]
  refine wpAnyH_take (i := 4) (oi := { dst := some 25, op := Go.Op.move (Go.Operand.tmp 9), type := 9, pos := "law.go:84", after := #[], guard := none }) (v := ?v605) rfl (by kernel_rfl) (by kernel_rfl) (by kernel_rfl) (fun _ _ _ h => h) (Or.inl ⟨by rfl, ?y605⟩) (by assumption) ?z605
  case y605 => (intro w hSw; (try dsimp only at hSw); go_simp) <;> with_reducible rfl
  try simp only [Act.put, List.setIfInBounds_toArray, List.set_cons_zero, List.set_cons_succ]
  refine wpAnyH_take (i := 5) (oi := { dst := some 26, op := Go.Op.move (Go.Operand.tmp 1), type := 5, pos := "law.go:84", after := #[], guard := none }) (v := ?v606) rfl (by kernel_rfl) (by kernel_rfl) (by kernel_rfl) (fun _ _ _ h => h) (Or.inl ⟨by rfl, ?y606⟩) (by assumption) ?z606
  case y606 => (intro w hSw; (try dsimp only at hSw); go_simp) <;> with_reducible rfl
  try simp only [Act.put, List.setIfInBounds_toArray, List.set_cons_zero, List.set_cons_succ]
  refine wpAnyH_take (i := 6) (oi := { dst := some 27, op := Go.Op.binOp Go.BinOp.rem 5 (Go.Operand.tmp 26) (Go.Operand.const (Go.Value.int Go.IntKind.u8 16)) 5, type := 5, pos := "law.go:84", after := #[{ on := 5, ground := Go.Ground.data }], guard := none }) (v := ?v607) rfl (by kernel_rfl) (by kernel_rfl) (by kernel_rfl) (fun _ _ _ h => h) (Or.inl ⟨by rfl, ?y607⟩) (by assumption) ?z607
  case y607 => (intro w hSw; (try dsimp only at hSw); go_simp) <;> with_reducible rfl
  try simp only [Act.put, List.setIfInBounds_toArray, List.set_cons_zero, List.set_cons_succ]
  refine wpAnyH_take (i := 7) (oi := { dst := some 28, op := Go.Op.index 9 (Go.Operand.tmp 25) (Go.Operand.tmp 27), type := 5, pos := "law.go:84", after := #[{ on := 4, ground := Go.Ground.data }, { on := 6, ground := Go.Ground.data }], guard := none }) (v := ?v608) rfl (by kernel_rfl) (by kernel_rfl) (by kernel_rfl) (fun _ _ _ h => h) (Or.inl ⟨by rfl, ?y608⟩) (by assumption) ?z608
  case y608 => (intro w hSw; (try dsimp only at hSw); go_simp) <;> with_reducible rfl
  try simp only [Act.put, List.setIfInBounds_toArray, List.set_cons_zero, List.set_cons_succ]
  refine wpAnyH_ready (rs := [8]) (by kernel_rfl) (by simp) ?_
  refine (AllReadyH.cons (o := { dst := some 29, op := Go.Op.buildSlice 37 2 #[(0, Go.Operand.tmp 24), (1, Go.Operand.tmp 28)], type := 37, pos := "law.go:84", after := #[{ on := 3, ground := Go.Ground.data }, { on := 7, ground := Go.Ground.data }], guard := none }) rfl (fun K hK => ?_) AllReadyH.nil)
  · go_simp
    refine hK.out _ _ ?s609 (fun hNew => ?r609)
    case s609 => exact WS.below hHeld (own1 _ _)
    clear hK K
    clear hHeld
    have hHeld := hNew
    clear hNew
    have HN := Lib.hid (Has.new V60 #[.int .u8 (D1.toNat : Int), .int .u8 (D0.toNat : Int)] 5)
    generalize V60.alloc (.cells #[.int .u8 (D1.toNat : Int), .int .u8 (D0.toNat : Int)] 5) = V61 at hHeld HN ⊢
    generalize V60.heap.size = sb6 at HN ⊢
    refine wpAnyH_ready (rs := [9]) (by kernel_rfl) (by simp) ?_
    refine (AllReadyH.cons (o := { dst := some 30, op := Go.Op.convert 37 9 (Go.Operand.tmp 29), type := 9, pos := "law.go:84", after := #[{ on := 8, ground := Go.Ground.data }], guard := none }) rfl (fun K hK => ?_) AllReadyH.nil)
    · have hcv := conv2 D1 D0 _ _ HN.out
      go_simp
      refine hK.out _ _ ?s610 (fun hNew => ?r610)
      case s610 => exact hHeld
      clear hK K
      clear hcv HN
      clear hHeld
      have hHeld := hNew
      clear hNew
      obtain ⟨V62, hVV⟩ : ∃ V, V = V61 := ⟨_, rfl⟩
      rw [← hVV] at hHeld ⊢
      clear hVV
      refine wpAnyH_take (i := 10) (oi := { dst := some 10, op := Go.Op.assign (Go.Operand.tmp 30), type := 9, pos := "law.go:84", after := #[{ on := 9, ground := Go.Ground.data }, { on := 0, ground := Go.Ground.phase }, { on := 1, ground := Go.Ground.phase }, { on := 2, ground := Go.Ground.phase }, { on := 3, ground := Go.Ground.phase }, { on := 4, ground := Go.Ground.phase }, { on := 5, ground := Go.Ground.phase }, { on := 6, ground := Go.Ground.phase }, { on := 7, ground := Go.Ground.phase }, { on := 8, ground := Go.Ground.phase }, { on := 9, ground := Go.Ground.phase }], guard := none }) (v := ?v611) rfl (by kernel_rfl) (by kernel_rfl) (by kernel_rfl) (fun _ _ _ h => h) (Or.inl ⟨by rfl, ?y611⟩) (by assumption) ?z611
      case y611 => (intro w hSw; (try dsimp only at hSw); go_simp) <;> with_reducible rfl
      try simp only [Act.put, List.setIfInBounds_toArray, List.set_cons_zero, List.set_cons_succ]
      refine wpAnyH_done (by kernel_rfl) ?_ _
      go_wp2_with fail
      refine wp_region_held_drew (S := (fun w' => (∀ o, w'.cell? ⟨ob, o, none⟩ = #[Value.int .i64 k, .int .i64 x, .int .i64 y, .int .i64 2, .int .u16 0][o]?) ∧ WR ob w w')) (by kernel_rfl) (WS.below hHeld (Below.refl _ _).drew) (fun hNew => ?_)
      clear hHeld
      have hHeld := hNew
      clear hNew
      generalize V62.drew = V70 at hHeld ⊢
      refine wpAnyH_take (i := 0) (oi := { dst := some 31, op := Go.Op.move (Go.Operand.tmp 9), type := 9, pos := "law.go:85", after := #[], guard := none }) (v := ?v701) rfl (by kernel_rfl) (by kernel_rfl) (by kernel_rfl) (fun _ _ _ h => h) (Or.inl ⟨by rfl, ?y701⟩) (by assumption) ?z701
      case y701 => (intro w hSw; (try dsimp only at hSw); go_simp) <;> with_reducible rfl
      try simp only [Act.put, List.setIfInBounds_toArray, List.set_cons_zero, List.set_cons_succ]
      refine wpAnyH_take (i := 1) (oi := { dst := some 32, op := Go.Op.move (Go.Operand.tmp 2), type := 5, pos := "law.go:85", after := #[], guard := none }) (v := ?v702) rfl (by kernel_rfl) (by kernel_rfl) (by kernel_rfl) (fun _ _ _ h => h) (Or.inl ⟨by rfl, ?y702⟩) (by assumption) ?z702
      case y702 => (intro w hSw; (try dsimp only at hSw); go_simp) <;> with_reducible rfl
      try simp only [Act.put, List.setIfInBounds_toArray, List.set_cons_zero, List.set_cons_succ]
      refine wpAnyH_take (i := 2) (oi := { dst := some 33, op := Go.Op.binOp Go.BinOp.quo 5 (Go.Operand.tmp 32) (Go.Operand.const (Go.Value.int Go.IntKind.u8 16)) 5, type := 5, pos := "law.go:85", after := #[{ on := 1, ground := Go.Ground.data }], guard := none }) (v := ?v703) rfl (by kernel_rfl) (by kernel_rfl) (by kernel_rfl) (fun _ _ _ h => h) (Or.inl ⟨by rfl, ?y703⟩) (by assumption) ?z703
      case y703 => (intro w hSw; (try dsimp only at hSw); go_simp) <;> with_reducible rfl
      try simp only [Act.put, List.setIfInBounds_toArray, List.set_cons_zero, List.set_cons_succ]
      refine wpAnyH_take (i := 3) (oi := { dst := some 34, op := Go.Op.index 9 (Go.Operand.tmp 31) (Go.Operand.tmp 33), type := 5, pos := "law.go:85", after := #[{ on := 0, ground := Go.Ground.data }, { on := 2, ground := Go.Ground.data }], guard := none }) (v := ?v704) rfl (by kernel_rfl) (by kernel_rfl) (by kernel_rfl) (fun _ _ _ h => h) (Or.inl ⟨by rfl, ?y704⟩) (by assumption) ?z704
      case y704 => (intro w hSw; (try dsimp only at hSw); go_simp) <;> with_reducible rfl
      try simp only [Act.put, List.setIfInBounds_toArray, List.set_cons_zero, List.set_cons_succ]
      refine wpAnyH_take (i := 4) (oi := { dst := some 35, op := Go.Op.move (Go.Operand.tmp 9), type := 9, pos := "law.go:85", after := #[], guard := none }) (v := ?v705) rfl (by kernel_rfl) (by kernel_rfl) (by kernel_rfl) (fun _ _ _ h => h) (Or.inl ⟨by rfl, ?y705⟩) (by assumption) ?z705
      case y705 => (intro w hSw; (try dsimp only at hSw); go_simp) <;> with_reducible rfl
      try simp only [Act.put, List.setIfInBounds_toArray, List.set_cons_zero, List.set_cons_succ]
      refine wpAnyH_take (i := 5) (oi := { dst := some 36, op := Go.Op.move (Go.Operand.tmp 2), type := 5, pos := "law.go:85", after := #[], guard := none }) (v := ?v706) rfl (by kernel_rfl) (by kernel_rfl) (by kernel_rfl) (fun _ _ _ h => h) (Or.inl ⟨by rfl, ?y706⟩) (by assumption) ?z706
      case y706 => (intro w hSw; (try dsimp only at hSw); go_simp) <;> with_reducible rfl
      try simp only [Act.put, List.setIfInBounds_toArray, List.set_cons_zero, List.set_cons_succ]
      refine wpAnyH_take (i := 6) (oi := { dst := some 37, op := Go.Op.binOp Go.BinOp.rem 5 (Go.Operand.tmp 36) (Go.Operand.const (Go.Value.int Go.IntKind.u8 16)) 5, type := 5, pos := "law.go:85", after := #[{ on := 5, ground := Go.Ground.data }], guard := none }) (v := ?v707) rfl (by kernel_rfl) (by kernel_rfl) (by kernel_rfl) (fun _ _ _ h => h) (Or.inl ⟨by rfl, ?y707⟩) (by assumption) ?z707
      case y707 => (intro w hSw; (try dsimp only at hSw); go_simp) <;> with_reducible rfl
      try simp only [Act.put, List.setIfInBounds_toArray, List.set_cons_zero, List.set_cons_succ]
      refine wpAnyH_take (i := 7) (oi := { dst := some 38, op := Go.Op.index 9 (Go.Operand.tmp 35) (Go.Operand.tmp 37), type := 5, pos := "law.go:85", after := #[{ on := 4, ground := Go.Ground.data }, { on := 6, ground := Go.Ground.data }], guard := none }) (v := ?v708) rfl (by kernel_rfl) (by kernel_rfl) (by kernel_rfl) (fun _ _ _ h => h) (Or.inl ⟨by rfl, ?y708⟩) (by assumption) ?z708
      case y708 => (intro w hSw; (try dsimp only at hSw); go_simp) <;> with_reducible rfl
      try simp only [Act.put, List.setIfInBounds_toArray, List.set_cons_zero, List.set_cons_succ]
      refine wpAnyH_take (i := 10) (oi := { dst := some 41, op := Go.Op.move (Go.Operand.tmp 10), type := 9, pos := "law.go:85", after := #[], guard := none }) (v := ?v709) rfl (by kernel_rfl) (by kernel_rfl) (by kernel_rfl) (fun _ _ _ h => h) (Or.inl ⟨by rfl, ?y709⟩) (by assumption) ?z709
      case y709 => (intro w hSw; (try dsimp only at hSw); go_simp) <;> with_reducible rfl
      try simp only [Act.put, List.setIfInBounds_toArray, List.set_cons_zero, List.set_cons_succ]
      refine wpAnyH_ready (rs := [8]) (by kernel_rfl) (by simp) ?_
      refine (AllReadyH.cons (o := { dst := some 39, op := Go.Op.buildSlice 37 2 #[(0, Go.Operand.tmp 34), (1, Go.Operand.tmp 38)], type := 37, pos := "law.go:85", after := #[{ on := 3, ground := Go.Ground.data }, { on := 7, ground := Go.Ground.data }], guard := none }) rfl (fun K hK => ?_) AllReadyH.nil)
      · go_simp
        refine hK.out _ _ ?s710 (fun hNew => ?r710)
        case s710 => exact WS.below hHeld (own1 _ _)
        clear hK K
        clear hHeld
        have hHeld := hNew
        clear hNew
        have HN := Lib.hid (Has.new V70 #[.int .u8 (E1.toNat : Int), .int .u8 (E0.toNat : Int)] 5)
        generalize V70.alloc (.cells #[.int .u8 (E1.toNat : Int), .int .u8 (E0.toNat : Int)] 5) = V71 at hHeld HN ⊢
        generalize V70.heap.size = sb7 at HN ⊢
        refine wpAnyH_ready (rs := [9]) (by kernel_rfl) (by simp) ?_
        refine (AllReadyH.cons (o := { dst := some 40, op := Go.Op.convert 37 9 (Go.Operand.tmp 39), type := 9, pos := "law.go:85", after := #[{ on := 8, ground := Go.Ground.data }], guard := none }) rfl (fun K hK => ?_) AllReadyH.nil)
        · have hcv := conv2 E1 E0 _ _ HN.out
          go_simp
          refine hK.out _ _ ?s711 (fun hNew => ?r711)
          case s711 => exact hHeld
          clear hK K
          clear hcv HN
          clear hHeld
          have hHeld := hNew
          clear hNew
          obtain ⟨V72, hVV⟩ : ∃ V, V = V71 := ⟨_, rfl⟩
          rw [← hVV] at hHeld ⊢
          clear hVV
          refine wpAnyH_take (i := 11) (oi := { dst := some 42, op := Go.Op.binOp Go.BinOp.add 9 (Go.Operand.tmp 40) (Go.Operand.tmp 41) 9, type := 9, pos := "law.go:85", after := #[{ on := 9, ground := Go.Ground.data }, { on := 10, ground := Go.Ground.data }], guard := none }) (v := ?v712) rfl (by kernel_rfl) (by kernel_rfl) (by kernel_rfl) (fun _ _ _ h => h) (Or.inl ⟨by rfl, ?y712⟩) (by assumption) ?z712
          case y712 => (intro w hSw; (try dsimp only at hSw); go_simp) <;> with_reducible rfl
          try simp only [Act.put, List.setIfInBounds_toArray, List.set_cons_zero, List.set_cons_succ]
          refine wpAnyH_take (i := 12) (oi := { dst := some 11, op := Go.Op.assign (Go.Operand.tmp 42), type := 9, pos := "law.go:85", after := #[{ on := 11, ground := Go.Ground.data }, { on := 0, ground := Go.Ground.phase }, { on := 1, ground := Go.Ground.phase }, { on := 2, ground := Go.Ground.phase }, { on := 3, ground := Go.Ground.phase }, { on := 4, ground := Go.Ground.phase }, { on := 5, ground := Go.Ground.phase }, { on := 6, ground := Go.Ground.phase }, { on := 7, ground := Go.Ground.phase }, { on := 8, ground := Go.Ground.phase }, { on := 9, ground := Go.Ground.phase }, { on := 10, ground := Go.Ground.phase }, { on := 11, ground := Go.Ground.phase }], guard := none }) (v := ?v713) rfl (by kernel_rfl) (by kernel_rfl) (by kernel_rfl) (fun _ _ _ h => h) (Or.inl ⟨by rfl, ?y713⟩) (by assumption) ?z713
          case y713 => (intro w hSw; (try dsimp only at hSw); go_simp) <;> with_reducible rfl
          try simp only [Act.put, List.setIfInBounds_toArray, List.set_cons_zero, List.set_cons_succ]
          refine wpAnyH_done (by kernel_rfl) ?_ _
          have hcc := hHeld.1
          go_wp2
          all_goals (go_ret; exact ⟨rfl, hHeld.2.1⟩)
set_option maxRecDepth 100000 in
set_option maxHeartbeats 2000000 in
theorem ww1 (a b c : Nat) (ha : a < 256) (hb : b < 256) (hc : c < 256) (k x y : Int) (hr0 : decF a b c = ⟨k, x, y, 1, 0⟩) (w : World) (hz : Tz w) : Calls Tryd.prog 8 #[.int .u8 a, .int .u8 b, .int .u8 c] w fun e w' => e = .returned (.bool true) ∧ Below w.heap.size w w' := by
  have HR := Lib.hid hr0
  clear hr0
  obtain ⟨T, hT⟩ : ∃ T, textL ⟨k, x, y, 1, 0⟩ = T := ⟨_, rfl⟩
  have HT := Lib.hid hT
  clear hT
  obtain ⟨bh, hbh⟩ : ∃ v, b / 16 = v := ⟨_, rfl⟩
  obtain ⟨bl, hbl⟩ : ∃ v, b % 16 = v := ⟨_, rfl⟩
  obtain ⟨ch, hch⟩ : ∃ v, c / 16 = v := ⟨_, rfl⟩
  obtain ⟨cl, hcl⟩ : ∃ v, c % 16 = v := ⟨_, rfl⟩
  have v1 : bh < 16 := by omega
  have v0 : bl < 16 := by omega
  have u1 : ch < 16 := by omega
  have u0 : cl < 16 := by omega
  have r1 : IntKind.u8.wrap ((b : Int) / 16) = (bh : Int) := by rw [show (b : Int) / 16 = (bh : Int) by omega]; unfold IntKind.wrap; simp [IntKind.bits, IntKind.signed]; omega
  have r0 : IntKind.u8.wrap ((b : Int) % 16) = (bl : Int) := by rw [show (b : Int) % 16 = (bl : Int) by omega]; unfold IntKind.wrap; simp [IntKind.bits, IntKind.signed]; omega
  have r3 : IntKind.u8.wrap ((c : Int) / 16) = (ch : Int) := by rw [show (c : Int) / 16 = (ch : Int) by omega]; unfold IntKind.wrap; simp [IntKind.bits, IntKind.signed]; omega
  have r2 : IntKind.u8.wrap ((c : Int) % 16) = (cl : Int) := by rw [show (c : Int) % 16 = (cl : Int) by omega]; unfold IntKind.wrap; simp [IntKind.bits, IntKind.signed]; omega
  have m0 : (b : Int) % 16 = (bl : Int) := by omega
  have m2 : (c : Int) % 16 = (cl : Int) := by omega
  have t0 : (b : Int).tmod 16 = (bl : Int) := by rw [Int.tmod_eq_emod_of_nonneg (by omega)]; exact m0
  have t2 : (c : Int).tmod 16 = (cl : Int) := by rw [Int.tmod_eq_emod_of_nonneg (by omega)]; exact m2
  have M0 := Lib.hid m0
  have M2 := Lib.hid m2
  have KB := Lib.hid (show b / 16 % 16 = bh by omega)
  have KBl := Lib.hid hbl
  have KC := Lib.hid (show c / 16 % 16 = ch by omega)
  have KCl := Lib.hid hcl
  obtain ⟨D1, hD1⟩ : ∃ D, (⟨#[48, 49, 50, 51, 52, 53, 54, 55, 56, 57, 97, 98, 99, 100, 101, 102]⟩ : ByteArray)[bh]'v1 = D := ⟨_, rfl⟩
  obtain ⟨D0, hD0⟩ : ∃ D, (⟨#[48, 49, 50, 51, 52, 53, 54, 55, 56, 57, 97, 98, 99, 100, 101, 102]⟩ : ByteArray)[bl]'v0 = D := ⟨_, rfl⟩
  obtain ⟨E1, hE1⟩ : ∃ D, (⟨#[48, 49, 50, 51, 52, 53, 54, 55, 56, 57, 97, 98, 99, 100, 101, 102]⟩ : ByteArray)[ch]'u1 = D := ⟨_, rfl⟩
  obtain ⟨E0, hE0⟩ : ∃ D, (⟨#[48, 49, 50, 51, 52, 53, 54, 55, 56, 57, 97, 98, 99, 100, 101, 102]⟩ : ByteArray)[cl]'u0 = D := ⟨_, rfl⟩
  have KD1 := Lib.hid ((dgb' bh v1 v1).symm.trans hD1)
  have KD0 := Lib.hid ((dgb' bl v0 v0).symm.trans hD0)
  have KE1 := Lib.hid ((dgb' ch u1 u1).symm.trans hE1)
  have KE0 := Lib.hid ((dgb' cl u0 u0).symm.trans hE0)
  clear hbh hbl hch hcl m0 m2
  have z1 : (bh : Int) < 16 := by omega
  have z0 : (bl : Int) < 16 := by omega
  have y1 : (ch : Int) < 16 := by omega
  have y0 : (cl : Int) < 16 := by omega
  have hn1 : (0 : Int) ≤ 0 := by omega
  have hn2 : (0 : Int) < 65536 := by omega
  have hnot : ∀ (x : Bool) (w : World), (Op.unary .not (.bool x)).run Tryd.prog w = .ok (.bool (!x)) w := fun _ _ => rfl
  go_enter Tryd.func8, Tryd.ntmps8
  go_wp2_with fail
  refine (awake_c w hz).mono ?_
  rintro e w1 ⟨rfl, hb1⟩
  have B1 := Lib.hid hb1
  have Z1 := Lib.hid ((hz.below hb1).below (own1 w1 (.cells Tryd.zeroCells54 54)))
  have h3 := (hz.below hb1).lt
  clear hb1 hz
  go_wp2_with (go_at_call 10; (with_reducible refine (new_c _).mono ?_); rintro e w' ⟨rfl, rfl⟩)
  refine (dec_m _ a b c ha hb hc _ _ _ _ _ HR.out _ (Or.inl (Tab.new w1 54))).mono ?_
  rintro e V2 ⟨rfl, hO⟩
  have HS := Lib.hid (LS.start B1.out hO #[.int .i64 k, .int .i64 x, .int .i64 y, .int .i64 1, .int .u16 0] 27)
  have Z2 := Lib.hid ((Z1.out.but hO.1 (by omega)).below (own1 V2 (.cells #[.int .i64 k, .int .i64 x, .int .i64 y, .int .i64 1, .int .u16 0] 27)))
  clear B1 Z1 hO h3
  go_wp2_with fail
  have HT2 := text_c ⟨k, x, y, 1, 0⟩ hn1 hn2 _ Z2.out
  rw [HT.out] at HT2
  refine HT2.mono ?_
  rintro e V3 ⟨rfl, hb3⟩
  have HS2 := Lib.hid (WS.below (ob := V2.heap.size) ⟨HS.out.1, HS.out.2.2.1, HS.out.2.2.2.1⟩ hb3)
  clear HS Z2 HT2 hb3
  generalize V2.heap.size = ob at HS2 ⊢
  go_wp2_with fail
  refine wp_region_held_drew (S := (fun w' => (∀ o, w'.cell? ⟨ob, o, none⟩ = #[Value.int .i64 k, .int .i64 x, .int .i64 y, .int .i64 1, .int .u16 0][o]?) ∧ WR ob w w')) (by kernel_rfl) (WS.below HS2.out (Below.refl _ _).drew) (fun hHeld => ?_)
  clear HS2
  generalize V3.drew = V60 at hHeld ⊢
  refine wpAnyH_take (i := 0) (oi := { dst := some 21, op := Go.Op.move (Go.Operand.tmp 9), type := 9, pos := "law.go:84", after := #[], guard := none }) (v := ?v601) rfl (by kernel_rfl) (by kernel_rfl) (by kernel_rfl) (fun _ _ _ h => h) (Or.inl ⟨by rfl, ?y601⟩) (by assumption) ?z601
  case y601 => (intro w hSw; (try dsimp only at hSw); go_simp) <;> with_reducible rfl
  try simp only [Act.put, List.setIfInBounds_toArray, List.set_cons_zero, List.set_cons_succ]
  refine wpAnyH_take (i := 1) (oi := { dst := some 22, op := Go.Op.move (Go.Operand.tmp 1), type := 5, pos := "law.go:84", after := #[], guard := none }) (v := ?v602) rfl (by kernel_rfl) (by kernel_rfl) (by kernel_rfl) (fun _ _ _ h => h) (Or.inl ⟨by rfl, ?y602⟩) (by assumption) ?z602
  case y602 => (intro w hSw; (try dsimp only at hSw); go_simp) <;> with_reducible rfl
  try simp only [Act.put, List.setIfInBounds_toArray, List.set_cons_zero, List.set_cons_succ]
  refine wpAnyH_take (i := 2) (oi := { dst := some 23, op := Go.Op.binOp Go.BinOp.quo 5 (Go.Operand.tmp 22) (Go.Operand.const (Go.Value.int Go.IntKind.u8 16)) 5, type := 5, pos := "law.go:84", after := #[{ on := 1, ground := Go.Ground.data }], guard := none }) (v := ?v603) rfl (by kernel_rfl) (by kernel_rfl) (by kernel_rfl) (fun _ _ _ h => h) (Or.inl ⟨by rfl, ?y603⟩) (by assumption) ?z603
  case y603 => (intro w hSw; (try dsimp only at hSw); go_simp) <;> with_reducible rfl
  try simp only [Act.put, List.setIfInBounds_toArray, List.set_cons_zero, List.set_cons_succ]
  refine wpAnyH_take (i := 3) (oi := { dst := some 24, op := Go.Op.index 9 (Go.Operand.tmp 21) (Go.Operand.tmp 23), type := 5, pos := "law.go:84", after := #[{ on := 0, ground := Go.Ground.data }, { on := 2, ground := Go.Ground.data }], guard := none }) (v := ?v604) rfl (by kernel_rfl) (by kernel_rfl) (by kernel_rfl) (fun _ _ _ h => h) (Or.inl ⟨by rfl, ?y604⟩) (by assumption) ?z604
  case y604 => (intro w hSw; (try dsimp only at hSw); go_simp) <;> with_reducible rfl
  try simp only [Act.put, List.setIfInBounds_toArray, List.set_cons_zero, List.set_cons_succ]
  refine wpAnyH_take (i := 4) (oi := { dst := some 25, op := Go.Op.move (Go.Operand.tmp 9), type := 9, pos := "law.go:84", after := #[], guard := none }) (v := ?v605) rfl (by kernel_rfl) (by kernel_rfl) (by kernel_rfl) (fun _ _ _ h => h) (Or.inl ⟨by rfl, ?y605⟩) (by assumption) ?z605
  case y605 => (intro w hSw; (try dsimp only at hSw); go_simp) <;> with_reducible rfl
  try simp only [Act.put, List.setIfInBounds_toArray, List.set_cons_zero, List.set_cons_succ]
  refine wpAnyH_take (i := 5) (oi := { dst := some 26, op := Go.Op.move (Go.Operand.tmp 1), type := 5, pos := "law.go:84", after := #[], guard := none }) (v := ?v606) rfl (by kernel_rfl) (by kernel_rfl) (by kernel_rfl) (fun _ _ _ h => h) (Or.inl ⟨by rfl, ?y606⟩) (by assumption) ?z606
  case y606 => (intro w hSw; (try dsimp only at hSw); go_simp) <;> with_reducible rfl
  try simp only [Act.put, List.setIfInBounds_toArray, List.set_cons_zero, List.set_cons_succ]
  refine wpAnyH_take (i := 6) (oi := { dst := some 27, op := Go.Op.binOp Go.BinOp.rem 5 (Go.Operand.tmp 26) (Go.Operand.const (Go.Value.int Go.IntKind.u8 16)) 5, type := 5, pos := "law.go:84", after := #[{ on := 5, ground := Go.Ground.data }], guard := none }) (v := ?v607) rfl (by kernel_rfl) (by kernel_rfl) (by kernel_rfl) (fun _ _ _ h => h) (Or.inl ⟨by rfl, ?y607⟩) (by assumption) ?z607
  case y607 => (intro w hSw; (try dsimp only at hSw); go_simp) <;> with_reducible rfl
  try simp only [Act.put, List.setIfInBounds_toArray, List.set_cons_zero, List.set_cons_succ]
  refine wpAnyH_take (i := 7) (oi := { dst := some 28, op := Go.Op.index 9 (Go.Operand.tmp 25) (Go.Operand.tmp 27), type := 5, pos := "law.go:84", after := #[{ on := 4, ground := Go.Ground.data }, { on := 6, ground := Go.Ground.data }], guard := none }) (v := ?v608) rfl (by kernel_rfl) (by kernel_rfl) (by kernel_rfl) (fun _ _ _ h => h) (Or.inl ⟨by rfl, ?y608⟩) (by assumption) ?z608
  case y608 => (intro w hSw; (try dsimp only at hSw); go_simp) <;> with_reducible rfl
  try simp only [Act.put, List.setIfInBounds_toArray, List.set_cons_zero, List.set_cons_succ]
  refine wpAnyH_ready (rs := [8]) (by kernel_rfl) (by simp) ?_
  refine (AllReadyH.cons (o := { dst := some 29, op := Go.Op.buildSlice 37 2 #[(0, Go.Operand.tmp 24), (1, Go.Operand.tmp 28)], type := 37, pos := "law.go:84", after := #[{ on := 3, ground := Go.Ground.data }, { on := 7, ground := Go.Ground.data }], guard := none }) rfl (fun K hK => ?_) AllReadyH.nil)
  · go_simp
    refine hK.out _ _ ?s609 (fun hNew => ?r609)
    case s609 => exact WS.below hHeld (own1 _ _)
    clear hK K
    clear hHeld
    have hHeld := hNew
    clear hNew
    have HN := Lib.hid (Has.new V60 #[.int .u8 (D1.toNat : Int), .int .u8 (D0.toNat : Int)] 5)
    generalize V60.alloc (.cells #[.int .u8 (D1.toNat : Int), .int .u8 (D0.toNat : Int)] 5) = V61 at hHeld HN ⊢
    generalize V60.heap.size = sb6 at HN ⊢
    refine wpAnyH_ready (rs := [9]) (by kernel_rfl) (by simp) ?_
    refine (AllReadyH.cons (o := { dst := some 30, op := Go.Op.convert 37 9 (Go.Operand.tmp 29), type := 9, pos := "law.go:84", after := #[{ on := 8, ground := Go.Ground.data }], guard := none }) rfl (fun K hK => ?_) AllReadyH.nil)
    · have hcv := conv2 D1 D0 _ _ HN.out
      go_simp
      refine hK.out _ _ ?s610 (fun hNew => ?r610)
      case s610 => exact hHeld
      clear hK K
      clear hcv HN
      clear hHeld
      have hHeld := hNew
      clear hNew
      obtain ⟨V62, hVV⟩ : ∃ V, V = V61 := ⟨_, rfl⟩
      rw [← hVV] at hHeld ⊢
      clear hVV
      refine wpAnyH_take (i := 10) (oi := { dst := some 10, op := Go.Op.assign (Go.Operand.tmp 30), type := 9, pos := "law.go:84", after := #[{ on := 9, ground := Go.Ground.data }, { on := 0, ground := Go.Ground.phase }, { on := 1, ground := Go.Ground.phase }, { on := 2, ground := Go.Ground.phase }, { on := 3, ground := Go.Ground.phase }, { on := 4, ground := Go.Ground.phase }, { on := 5, ground := Go.Ground.phase }, { on := 6, ground := Go.Ground.phase }, { on := 7, ground := Go.Ground.phase }, { on := 8, ground := Go.Ground.phase }, { on := 9, ground := Go.Ground.phase }], guard := none }) (v := ?v611) rfl (by kernel_rfl) (by kernel_rfl) (by kernel_rfl) (fun _ _ _ h => h) (Or.inl ⟨by rfl, ?y611⟩) (by assumption) ?z611
      case y611 => (intro w hSw; (try dsimp only at hSw); go_simp) <;> with_reducible rfl
      try simp only [Act.put, List.setIfInBounds_toArray, List.set_cons_zero, List.set_cons_succ]
      refine wpAnyH_done (by kernel_rfl) ?_ _
      go_wp2_with fail
      refine wp_region_held_drew (S := (fun w' => (∀ o, w'.cell? ⟨ob, o, none⟩ = #[Value.int .i64 k, .int .i64 x, .int .i64 y, .int .i64 1, .int .u16 0][o]?) ∧ WR ob w w')) (by kernel_rfl) (WS.below hHeld (Below.refl _ _).drew) (fun hNew => ?_)
      clear hHeld
      have hHeld := hNew
      clear hNew
      generalize V62.drew = V70 at hHeld ⊢
      refine wpAnyH_take (i := 0) (oi := { dst := some 31, op := Go.Op.move (Go.Operand.tmp 9), type := 9, pos := "law.go:85", after := #[], guard := none }) (v := ?v701) rfl (by kernel_rfl) (by kernel_rfl) (by kernel_rfl) (fun _ _ _ h => h) (Or.inl ⟨by rfl, ?y701⟩) (by assumption) ?z701
      case y701 => (intro w hSw; (try dsimp only at hSw); go_simp) <;> with_reducible rfl
      try simp only [Act.put, List.setIfInBounds_toArray, List.set_cons_zero, List.set_cons_succ]
      refine wpAnyH_take (i := 1) (oi := { dst := some 32, op := Go.Op.move (Go.Operand.tmp 2), type := 5, pos := "law.go:85", after := #[], guard := none }) (v := ?v702) rfl (by kernel_rfl) (by kernel_rfl) (by kernel_rfl) (fun _ _ _ h => h) (Or.inl ⟨by rfl, ?y702⟩) (by assumption) ?z702
      case y702 => (intro w hSw; (try dsimp only at hSw); go_simp) <;> with_reducible rfl
      try simp only [Act.put, List.setIfInBounds_toArray, List.set_cons_zero, List.set_cons_succ]
      refine wpAnyH_take (i := 2) (oi := { dst := some 33, op := Go.Op.binOp Go.BinOp.quo 5 (Go.Operand.tmp 32) (Go.Operand.const (Go.Value.int Go.IntKind.u8 16)) 5, type := 5, pos := "law.go:85", after := #[{ on := 1, ground := Go.Ground.data }], guard := none }) (v := ?v703) rfl (by kernel_rfl) (by kernel_rfl) (by kernel_rfl) (fun _ _ _ h => h) (Or.inl ⟨by rfl, ?y703⟩) (by assumption) ?z703
      case y703 => (intro w hSw; (try dsimp only at hSw); go_simp) <;> with_reducible rfl
      try simp only [Act.put, List.setIfInBounds_toArray, List.set_cons_zero, List.set_cons_succ]
      refine wpAnyH_take (i := 3) (oi := { dst := some 34, op := Go.Op.index 9 (Go.Operand.tmp 31) (Go.Operand.tmp 33), type := 5, pos := "law.go:85", after := #[{ on := 0, ground := Go.Ground.data }, { on := 2, ground := Go.Ground.data }], guard := none }) (v := ?v704) rfl (by kernel_rfl) (by kernel_rfl) (by kernel_rfl) (fun _ _ _ h => h) (Or.inl ⟨by rfl, ?y704⟩) (by assumption) ?z704
      case y704 => (intro w hSw; (try dsimp only at hSw); go_simp) <;> with_reducible rfl
      try simp only [Act.put, List.setIfInBounds_toArray, List.set_cons_zero, List.set_cons_succ]
      refine wpAnyH_take (i := 4) (oi := { dst := some 35, op := Go.Op.move (Go.Operand.tmp 9), type := 9, pos := "law.go:85", after := #[], guard := none }) (v := ?v705) rfl (by kernel_rfl) (by kernel_rfl) (by kernel_rfl) (fun _ _ _ h => h) (Or.inl ⟨by rfl, ?y705⟩) (by assumption) ?z705
      case y705 => (intro w hSw; (try dsimp only at hSw); go_simp) <;> with_reducible rfl
      try simp only [Act.put, List.setIfInBounds_toArray, List.set_cons_zero, List.set_cons_succ]
      refine wpAnyH_take (i := 5) (oi := { dst := some 36, op := Go.Op.move (Go.Operand.tmp 2), type := 5, pos := "law.go:85", after := #[], guard := none }) (v := ?v706) rfl (by kernel_rfl) (by kernel_rfl) (by kernel_rfl) (fun _ _ _ h => h) (Or.inl ⟨by rfl, ?y706⟩) (by assumption) ?z706
      case y706 => (intro w hSw; (try dsimp only at hSw); go_simp) <;> with_reducible rfl
      try simp only [Act.put, List.setIfInBounds_toArray, List.set_cons_zero, List.set_cons_succ]
      refine wpAnyH_take (i := 6) (oi := { dst := some 37, op := Go.Op.binOp Go.BinOp.rem 5 (Go.Operand.tmp 36) (Go.Operand.const (Go.Value.int Go.IntKind.u8 16)) 5, type := 5, pos := "law.go:85", after := #[{ on := 5, ground := Go.Ground.data }], guard := none }) (v := ?v707) rfl (by kernel_rfl) (by kernel_rfl) (by kernel_rfl) (fun _ _ _ h => h) (Or.inl ⟨by rfl, ?y707⟩) (by assumption) ?z707
      case y707 => (intro w hSw; (try dsimp only at hSw); go_simp) <;> with_reducible rfl
      try simp only [Act.put, List.setIfInBounds_toArray, List.set_cons_zero, List.set_cons_succ]
      refine wpAnyH_take (i := 7) (oi := { dst := some 38, op := Go.Op.index 9 (Go.Operand.tmp 35) (Go.Operand.tmp 37), type := 5, pos := "law.go:85", after := #[{ on := 4, ground := Go.Ground.data }, { on := 6, ground := Go.Ground.data }], guard := none }) (v := ?v708) rfl (by kernel_rfl) (by kernel_rfl) (by kernel_rfl) (fun _ _ _ h => h) (Or.inl ⟨by rfl, ?y708⟩) (by assumption) ?z708
      case y708 => (intro w hSw; (try dsimp only at hSw); go_simp) <;> with_reducible rfl
      try simp only [Act.put, List.setIfInBounds_toArray, List.set_cons_zero, List.set_cons_succ]
      refine wpAnyH_take (i := 10) (oi := { dst := some 41, op := Go.Op.move (Go.Operand.tmp 10), type := 9, pos := "law.go:85", after := #[], guard := none }) (v := ?v709) rfl (by kernel_rfl) (by kernel_rfl) (by kernel_rfl) (fun _ _ _ h => h) (Or.inl ⟨by rfl, ?y709⟩) (by assumption) ?z709
      case y709 => (intro w hSw; (try dsimp only at hSw); go_simp) <;> with_reducible rfl
      try simp only [Act.put, List.setIfInBounds_toArray, List.set_cons_zero, List.set_cons_succ]
      refine wpAnyH_ready (rs := [8]) (by kernel_rfl) (by simp) ?_
      refine (AllReadyH.cons (o := { dst := some 39, op := Go.Op.buildSlice 37 2 #[(0, Go.Operand.tmp 34), (1, Go.Operand.tmp 38)], type := 37, pos := "law.go:85", after := #[{ on := 3, ground := Go.Ground.data }, { on := 7, ground := Go.Ground.data }], guard := none }) rfl (fun K hK => ?_) AllReadyH.nil)
      · go_simp
        refine hK.out _ _ ?s710 (fun hNew => ?r710)
        case s710 => exact WS.below hHeld (own1 _ _)
        clear hK K
        clear hHeld
        have hHeld := hNew
        clear hNew
        have HN := Lib.hid (Has.new V70 #[.int .u8 (E1.toNat : Int), .int .u8 (E0.toNat : Int)] 5)
        generalize V70.alloc (.cells #[.int .u8 (E1.toNat : Int), .int .u8 (E0.toNat : Int)] 5) = V71 at hHeld HN ⊢
        generalize V70.heap.size = sb7 at HN ⊢
        refine wpAnyH_ready (rs := [9]) (by kernel_rfl) (by simp) ?_
        refine (AllReadyH.cons (o := { dst := some 40, op := Go.Op.convert 37 9 (Go.Operand.tmp 39), type := 9, pos := "law.go:85", after := #[{ on := 8, ground := Go.Ground.data }], guard := none }) rfl (fun K hK => ?_) AllReadyH.nil)
        · have hcv := conv2 E1 E0 _ _ HN.out
          go_simp
          refine hK.out _ _ ?s711 (fun hNew => ?r711)
          case s711 => exact hHeld
          clear hK K
          clear hcv HN
          clear hHeld
          have hHeld := hNew
          clear hNew
          obtain ⟨V72, hVV⟩ : ∃ V, V = V71 := ⟨_, rfl⟩
          rw [← hVV] at hHeld ⊢
          clear hVV
          refine wpAnyH_take (i := 11) (oi := { dst := some 42, op := Go.Op.binOp Go.BinOp.add 9 (Go.Operand.tmp 40) (Go.Operand.tmp 41) 9, type := 9, pos := "law.go:85", after := #[{ on := 9, ground := Go.Ground.data }, { on := 10, ground := Go.Ground.data }], guard := none }) (v := ?v712) rfl (by kernel_rfl) (by kernel_rfl) (by kernel_rfl) (fun _ _ _ h => h) (Or.inl ⟨by rfl, ?y712⟩) (by assumption) ?z712
          case y712 => (intro w hSw; (try dsimp only at hSw); go_simp) <;> with_reducible rfl
          try simp only [Act.put, List.setIfInBounds_toArray, List.set_cons_zero, List.set_cons_succ]
          refine wpAnyH_take (i := 12) (oi := { dst := some 11, op := Go.Op.assign (Go.Operand.tmp 42), type := 9, pos := "law.go:85", after := #[{ on := 11, ground := Go.Ground.data }, { on := 0, ground := Go.Ground.phase }, { on := 1, ground := Go.Ground.phase }, { on := 2, ground := Go.Ground.phase }, { on := 3, ground := Go.Ground.phase }, { on := 4, ground := Go.Ground.phase }, { on := 5, ground := Go.Ground.phase }, { on := 6, ground := Go.Ground.phase }, { on := 7, ground := Go.Ground.phase }, { on := 8, ground := Go.Ground.phase }, { on := 9, ground := Go.Ground.phase }, { on := 10, ground := Go.Ground.phase }, { on := 11, ground := Go.Ground.phase }], guard := none }) (v := ?v713) rfl (by kernel_rfl) (by kernel_rfl) (by kernel_rfl) (fun _ _ _ h => h) (Or.inl ⟨by rfl, ?y713⟩) (by assumption) ?z713
          case y713 => (intro w hSw; (try dsimp only at hSw); go_simp) <;> with_reducible rfl
          try simp only [Act.put, List.setIfInBounds_toArray, List.set_cons_zero, List.set_cons_succ]
          refine wpAnyH_done (by kernel_rfl) ?_ _
          have hcc := hHeld.1
          go_wp2
          all_goals (go_ret; exact ⟨rfl, hHeld.2.1⟩)
set_option maxRecDepth 100000 in
set_option maxHeartbeats 2000000 in
theorem wwr (a b c : Nat) (ha : a < 256) (hb : b < 256) (hc : c < 256) (x y : Int) (n : Int) (hn01 : 0 ≤ n) (hn02 : n < 65536) (hr0 : decF a b c = ⟨28, x, y, 1, n⟩) (w : World) (hz : Tz w) : Calls Tryd.prog 8 #[.int .u8 a, .int .u8 b, .int .u8 c] w fun e w' => e = .returned (.bool true) ∧ Below w.heap.size w w' := by
  have HR := Lib.hid hr0
  clear hr0
  obtain ⟨T, hT⟩ : ∃ T, textL ⟨28, x, y, 1, n⟩ = T := ⟨_, rfl⟩
  have HT := Lib.hid hT
  clear hT
  obtain ⟨bh, hbh⟩ : ∃ v, b / 16 = v := ⟨_, rfl⟩
  obtain ⟨bl, hbl⟩ : ∃ v, b % 16 = v := ⟨_, rfl⟩
  obtain ⟨ch, hch⟩ : ∃ v, c / 16 = v := ⟨_, rfl⟩
  obtain ⟨cl, hcl⟩ : ∃ v, c % 16 = v := ⟨_, rfl⟩
  have v1 : bh < 16 := by omega
  have v0 : bl < 16 := by omega
  have u1 : ch < 16 := by omega
  have u0 : cl < 16 := by omega
  have r1 : IntKind.u8.wrap ((b : Int) / 16) = (bh : Int) := by rw [show (b : Int) / 16 = (bh : Int) by omega]; unfold IntKind.wrap; simp [IntKind.bits, IntKind.signed]; omega
  have r0 : IntKind.u8.wrap ((b : Int) % 16) = (bl : Int) := by rw [show (b : Int) % 16 = (bl : Int) by omega]; unfold IntKind.wrap; simp [IntKind.bits, IntKind.signed]; omega
  have r3 : IntKind.u8.wrap ((c : Int) / 16) = (ch : Int) := by rw [show (c : Int) / 16 = (ch : Int) by omega]; unfold IntKind.wrap; simp [IntKind.bits, IntKind.signed]; omega
  have r2 : IntKind.u8.wrap ((c : Int) % 16) = (cl : Int) := by rw [show (c : Int) % 16 = (cl : Int) by omega]; unfold IntKind.wrap; simp [IntKind.bits, IntKind.signed]; omega
  have m0 : (b : Int) % 16 = (bl : Int) := by omega
  have m2 : (c : Int) % 16 = (cl : Int) := by omega
  have t0 : (b : Int).tmod 16 = (bl : Int) := by rw [Int.tmod_eq_emod_of_nonneg (by omega)]; exact m0
  have t2 : (c : Int).tmod 16 = (cl : Int) := by rw [Int.tmod_eq_emod_of_nonneg (by omega)]; exact m2
  have M0 := Lib.hid m0
  have M2 := Lib.hid m2
  have KB := Lib.hid (show b / 16 % 16 = bh by omega)
  have KBl := Lib.hid hbl
  have KC := Lib.hid (show c / 16 % 16 = ch by omega)
  have KCl := Lib.hid hcl
  obtain ⟨D1, hD1⟩ : ∃ D, (⟨#[48, 49, 50, 51, 52, 53, 54, 55, 56, 57, 97, 98, 99, 100, 101, 102]⟩ : ByteArray)[bh]'v1 = D := ⟨_, rfl⟩
  obtain ⟨D0, hD0⟩ : ∃ D, (⟨#[48, 49, 50, 51, 52, 53, 54, 55, 56, 57, 97, 98, 99, 100, 101, 102]⟩ : ByteArray)[bl]'v0 = D := ⟨_, rfl⟩
  obtain ⟨E1, hE1⟩ : ∃ D, (⟨#[48, 49, 50, 51, 52, 53, 54, 55, 56, 57, 97, 98, 99, 100, 101, 102]⟩ : ByteArray)[ch]'u1 = D := ⟨_, rfl⟩
  obtain ⟨E0, hE0⟩ : ∃ D, (⟨#[48, 49, 50, 51, 52, 53, 54, 55, 56, 57, 97, 98, 99, 100, 101, 102]⟩ : ByteArray)[cl]'u0 = D := ⟨_, rfl⟩
  have KD1 := Lib.hid ((dgb' bh v1 v1).symm.trans hD1)
  have KD0 := Lib.hid ((dgb' bl v0 v0).symm.trans hD0)
  have KE1 := Lib.hid ((dgb' ch u1 u1).symm.trans hE1)
  have KE0 := Lib.hid ((dgb' cl u0 u0).symm.trans hE0)
  clear hbh hbl hch hcl m0 m2
  have z1 : (bh : Int) < 16 := by omega
  have z0 : (bl : Int) < 16 := by omega
  have y1 : (ch : Int) < 16 := by omega
  have y0 : (cl : Int) < 16 := by omega
  have hn1 : (0 : Int) ≤ n := hn01
  have hn2 : n < 65536 := hn02
  have hnot : ∀ (x : Bool) (w : World), (Op.unary .not (.bool x)).run Tryd.prog w = .ok (.bool (!x)) w := fun _ _ => rfl
  go_enter Tryd.func8, Tryd.ntmps8
  go_wp2_with fail
  refine (awake_c w hz).mono ?_
  rintro e w1 ⟨rfl, hb1⟩
  have B1 := Lib.hid hb1
  have Z1 := Lib.hid ((hz.below hb1).below (own1 w1 (.cells Tryd.zeroCells54 54)))
  have h3 := (hz.below hb1).lt
  clear hb1 hz
  go_wp2_with (go_at_call 10; (with_reducible refine (new_c _).mono ?_); rintro e w' ⟨rfl, rfl⟩)
  refine (dec_m _ a b c ha hb hc _ _ _ _ _ HR.out _ (Or.inl (Tab.new w1 54))).mono ?_
  rintro e V2 ⟨rfl, hO⟩
  have HS := Lib.hid (LS.start B1.out hO #[.int .i64 28, .int .i64 x, .int .i64 y, .int .i64 1, .int .u16 n] 27)
  have Z2 := Lib.hid ((Z1.out.but hO.1 (by omega)).below (own1 V2 (.cells #[.int .i64 28, .int .i64 x, .int .i64 y, .int .i64 1, .int .u16 n] 27)))
  clear B1 Z1 hO h3
  go_wp2_with fail
  have HT2 := text_c ⟨28, x, y, 1, n⟩ hn1 hn2 _ Z2.out
  rw [HT.out] at HT2
  refine HT2.mono ?_
  rintro e V3 ⟨rfl, hb3⟩
  have HS2 := Lib.hid (WS.below (ob := V2.heap.size) ⟨HS.out.1, HS.out.2.2.1, HS.out.2.2.2.1⟩ hb3)
  clear HS Z2 HT2 hb3
  generalize V2.heap.size = ob at HS2 ⊢
  go_wp2_with fail
  refine wp_region_held_drew (S := (fun w' => (∀ o, w'.cell? ⟨ob, o, none⟩ = #[Value.int .i64 28, .int .i64 x, .int .i64 y, .int .i64 1, .int .u16 n][o]?) ∧ WR ob w w')) (by kernel_rfl) (WS.below HS2.out (Below.refl _ _).drew) (fun hHeld => ?_)
  clear HS2
  generalize V3.drew = V60 at hHeld ⊢
  refine wpAnyH_take (i := 0) (oi := { dst := some 21, op := Go.Op.move (Go.Operand.tmp 9), type := 9, pos := "law.go:84", after := #[], guard := none }) (v := ?v601) rfl (by kernel_rfl) (by kernel_rfl) (by kernel_rfl) (fun _ _ _ h => h) (Or.inl ⟨by rfl, ?y601⟩) (by assumption) ?z601
  case y601 => (intro w hSw; (try dsimp only at hSw); go_simp) <;> with_reducible rfl
  try simp only [Act.put, List.setIfInBounds_toArray, List.set_cons_zero, List.set_cons_succ]
  refine wpAnyH_take (i := 1) (oi := { dst := some 22, op := Go.Op.move (Go.Operand.tmp 1), type := 5, pos := "law.go:84", after := #[], guard := none }) (v := ?v602) rfl (by kernel_rfl) (by kernel_rfl) (by kernel_rfl) (fun _ _ _ h => h) (Or.inl ⟨by rfl, ?y602⟩) (by assumption) ?z602
  case y602 => (intro w hSw; (try dsimp only at hSw); go_simp) <;> with_reducible rfl
  try simp only [Act.put, List.setIfInBounds_toArray, List.set_cons_zero, List.set_cons_succ]
  refine wpAnyH_take (i := 2) (oi := { dst := some 23, op := Go.Op.binOp Go.BinOp.quo 5 (Go.Operand.tmp 22) (Go.Operand.const (Go.Value.int Go.IntKind.u8 16)) 5, type := 5, pos := "law.go:84", after := #[{ on := 1, ground := Go.Ground.data }], guard := none }) (v := ?v603) rfl (by kernel_rfl) (by kernel_rfl) (by kernel_rfl) (fun _ _ _ h => h) (Or.inl ⟨by rfl, ?y603⟩) (by assumption) ?z603
  case y603 => (intro w hSw; (try dsimp only at hSw); go_simp) <;> with_reducible rfl
  try simp only [Act.put, List.setIfInBounds_toArray, List.set_cons_zero, List.set_cons_succ]
  refine wpAnyH_take (i := 3) (oi := { dst := some 24, op := Go.Op.index 9 (Go.Operand.tmp 21) (Go.Operand.tmp 23), type := 5, pos := "law.go:84", after := #[{ on := 0, ground := Go.Ground.data }, { on := 2, ground := Go.Ground.data }], guard := none }) (v := ?v604) rfl (by kernel_rfl) (by kernel_rfl) (by kernel_rfl) (fun _ _ _ h => h) (Or.inl ⟨by rfl, ?y604⟩) (by assumption) ?z604
  case y604 => (intro w hSw; (try dsimp only at hSw); go_simp) <;> with_reducible rfl
  try simp only [Act.put, List.setIfInBounds_toArray, List.set_cons_zero, List.set_cons_succ]
  refine wpAnyH_take (i := 4) (oi := { dst := some 25, op := Go.Op.move (Go.Operand.tmp 9), type := 9, pos := "law.go:84", after := #[], guard := none }) (v := ?v605) rfl (by kernel_rfl) (by kernel_rfl) (by kernel_rfl) (fun _ _ _ h => h) (Or.inl ⟨by rfl, ?y605⟩) (by assumption) ?z605
  case y605 => (intro w hSw; (try dsimp only at hSw); go_simp) <;> with_reducible rfl
  try simp only [Act.put, List.setIfInBounds_toArray, List.set_cons_zero, List.set_cons_succ]
  refine wpAnyH_take (i := 5) (oi := { dst := some 26, op := Go.Op.move (Go.Operand.tmp 1), type := 5, pos := "law.go:84", after := #[], guard := none }) (v := ?v606) rfl (by kernel_rfl) (by kernel_rfl) (by kernel_rfl) (fun _ _ _ h => h) (Or.inl ⟨by rfl, ?y606⟩) (by assumption) ?z606
  case y606 => (intro w hSw; (try dsimp only at hSw); go_simp) <;> with_reducible rfl
  try simp only [Act.put, List.setIfInBounds_toArray, List.set_cons_zero, List.set_cons_succ]
  refine wpAnyH_take (i := 6) (oi := { dst := some 27, op := Go.Op.binOp Go.BinOp.rem 5 (Go.Operand.tmp 26) (Go.Operand.const (Go.Value.int Go.IntKind.u8 16)) 5, type := 5, pos := "law.go:84", after := #[{ on := 5, ground := Go.Ground.data }], guard := none }) (v := ?v607) rfl (by kernel_rfl) (by kernel_rfl) (by kernel_rfl) (fun _ _ _ h => h) (Or.inl ⟨by rfl, ?y607⟩) (by assumption) ?z607
  case y607 => (intro w hSw; (try dsimp only at hSw); go_simp) <;> with_reducible rfl
  try simp only [Act.put, List.setIfInBounds_toArray, List.set_cons_zero, List.set_cons_succ]
  refine wpAnyH_take (i := 7) (oi := { dst := some 28, op := Go.Op.index 9 (Go.Operand.tmp 25) (Go.Operand.tmp 27), type := 5, pos := "law.go:84", after := #[{ on := 4, ground := Go.Ground.data }, { on := 6, ground := Go.Ground.data }], guard := none }) (v := ?v608) rfl (by kernel_rfl) (by kernel_rfl) (by kernel_rfl) (fun _ _ _ h => h) (Or.inl ⟨by rfl, ?y608⟩) (by assumption) ?z608
  case y608 => (intro w hSw; (try dsimp only at hSw); go_simp) <;> with_reducible rfl
  try simp only [Act.put, List.setIfInBounds_toArray, List.set_cons_zero, List.set_cons_succ]
  refine wpAnyH_ready (rs := [8]) (by kernel_rfl) (by simp) ?_
  refine (AllReadyH.cons (o := { dst := some 29, op := Go.Op.buildSlice 37 2 #[(0, Go.Operand.tmp 24), (1, Go.Operand.tmp 28)], type := 37, pos := "law.go:84", after := #[{ on := 3, ground := Go.Ground.data }, { on := 7, ground := Go.Ground.data }], guard := none }) rfl (fun K hK => ?_) AllReadyH.nil)
  · go_simp
    refine hK.out _ _ ?s609 (fun hNew => ?r609)
    case s609 => exact WS.below hHeld (own1 _ _)
    clear hK K
    clear hHeld
    have hHeld := hNew
    clear hNew
    have HN := Lib.hid (Has.new V60 #[.int .u8 (D1.toNat : Int), .int .u8 (D0.toNat : Int)] 5)
    generalize V60.alloc (.cells #[.int .u8 (D1.toNat : Int), .int .u8 (D0.toNat : Int)] 5) = V61 at hHeld HN ⊢
    generalize V60.heap.size = sb6 at HN ⊢
    refine wpAnyH_ready (rs := [9]) (by kernel_rfl) (by simp) ?_
    refine (AllReadyH.cons (o := { dst := some 30, op := Go.Op.convert 37 9 (Go.Operand.tmp 29), type := 9, pos := "law.go:84", after := #[{ on := 8, ground := Go.Ground.data }], guard := none }) rfl (fun K hK => ?_) AllReadyH.nil)
    · have hcv := conv2 D1 D0 _ _ HN.out
      go_simp
      refine hK.out _ _ ?s610 (fun hNew => ?r610)
      case s610 => exact hHeld
      clear hK K
      clear hcv HN
      clear hHeld
      have hHeld := hNew
      clear hNew
      obtain ⟨V62, hVV⟩ : ∃ V, V = V61 := ⟨_, rfl⟩
      rw [← hVV] at hHeld ⊢
      clear hVV
      refine wpAnyH_take (i := 10) (oi := { dst := some 10, op := Go.Op.assign (Go.Operand.tmp 30), type := 9, pos := "law.go:84", after := #[{ on := 9, ground := Go.Ground.data }, { on := 0, ground := Go.Ground.phase }, { on := 1, ground := Go.Ground.phase }, { on := 2, ground := Go.Ground.phase }, { on := 3, ground := Go.Ground.phase }, { on := 4, ground := Go.Ground.phase }, { on := 5, ground := Go.Ground.phase }, { on := 6, ground := Go.Ground.phase }, { on := 7, ground := Go.Ground.phase }, { on := 8, ground := Go.Ground.phase }, { on := 9, ground := Go.Ground.phase }], guard := none }) (v := ?v611) rfl (by kernel_rfl) (by kernel_rfl) (by kernel_rfl) (fun _ _ _ h => h) (Or.inl ⟨by rfl, ?y611⟩) (by assumption) ?z611
      case y611 => (intro w hSw; (try dsimp only at hSw); go_simp) <;> with_reducible rfl
      try simp only [Act.put, List.setIfInBounds_toArray, List.set_cons_zero, List.set_cons_succ]
      refine wpAnyH_done (by kernel_rfl) ?_ _
      go_wp2_with fail
      refine wp_region_held_drew (S := (fun w' => (∀ o, w'.cell? ⟨ob, o, none⟩ = #[Value.int .i64 28, .int .i64 x, .int .i64 y, .int .i64 1, .int .u16 n][o]?) ∧ WR ob w w')) (by kernel_rfl) (WS.below hHeld (Below.refl _ _).drew) (fun hNew => ?_)
      clear hHeld
      have hHeld := hNew
      clear hNew
      generalize V62.drew = V70 at hHeld ⊢
      refine wpAnyH_take (i := 0) (oi := { dst := some 31, op := Go.Op.move (Go.Operand.tmp 9), type := 9, pos := "law.go:85", after := #[], guard := none }) (v := ?v701) rfl (by kernel_rfl) (by kernel_rfl) (by kernel_rfl) (fun _ _ _ h => h) (Or.inl ⟨by rfl, ?y701⟩) (by assumption) ?z701
      case y701 => (intro w hSw; (try dsimp only at hSw); go_simp) <;> with_reducible rfl
      try simp only [Act.put, List.setIfInBounds_toArray, List.set_cons_zero, List.set_cons_succ]
      refine wpAnyH_take (i := 1) (oi := { dst := some 32, op := Go.Op.move (Go.Operand.tmp 2), type := 5, pos := "law.go:85", after := #[], guard := none }) (v := ?v702) rfl (by kernel_rfl) (by kernel_rfl) (by kernel_rfl) (fun _ _ _ h => h) (Or.inl ⟨by rfl, ?y702⟩) (by assumption) ?z702
      case y702 => (intro w hSw; (try dsimp only at hSw); go_simp) <;> with_reducible rfl
      try simp only [Act.put, List.setIfInBounds_toArray, List.set_cons_zero, List.set_cons_succ]
      refine wpAnyH_take (i := 2) (oi := { dst := some 33, op := Go.Op.binOp Go.BinOp.quo 5 (Go.Operand.tmp 32) (Go.Operand.const (Go.Value.int Go.IntKind.u8 16)) 5, type := 5, pos := "law.go:85", after := #[{ on := 1, ground := Go.Ground.data }], guard := none }) (v := ?v703) rfl (by kernel_rfl) (by kernel_rfl) (by kernel_rfl) (fun _ _ _ h => h) (Or.inl ⟨by rfl, ?y703⟩) (by assumption) ?z703
      case y703 => (intro w hSw; (try dsimp only at hSw); go_simp) <;> with_reducible rfl
      try simp only [Act.put, List.setIfInBounds_toArray, List.set_cons_zero, List.set_cons_succ]
      refine wpAnyH_take (i := 3) (oi := { dst := some 34, op := Go.Op.index 9 (Go.Operand.tmp 31) (Go.Operand.tmp 33), type := 5, pos := "law.go:85", after := #[{ on := 0, ground := Go.Ground.data }, { on := 2, ground := Go.Ground.data }], guard := none }) (v := ?v704) rfl (by kernel_rfl) (by kernel_rfl) (by kernel_rfl) (fun _ _ _ h => h) (Or.inl ⟨by rfl, ?y704⟩) (by assumption) ?z704
      case y704 => (intro w hSw; (try dsimp only at hSw); go_simp) <;> with_reducible rfl
      try simp only [Act.put, List.setIfInBounds_toArray, List.set_cons_zero, List.set_cons_succ]
      refine wpAnyH_take (i := 4) (oi := { dst := some 35, op := Go.Op.move (Go.Operand.tmp 9), type := 9, pos := "law.go:85", after := #[], guard := none }) (v := ?v705) rfl (by kernel_rfl) (by kernel_rfl) (by kernel_rfl) (fun _ _ _ h => h) (Or.inl ⟨by rfl, ?y705⟩) (by assumption) ?z705
      case y705 => (intro w hSw; (try dsimp only at hSw); go_simp) <;> with_reducible rfl
      try simp only [Act.put, List.setIfInBounds_toArray, List.set_cons_zero, List.set_cons_succ]
      refine wpAnyH_take (i := 5) (oi := { dst := some 36, op := Go.Op.move (Go.Operand.tmp 2), type := 5, pos := "law.go:85", after := #[], guard := none }) (v := ?v706) rfl (by kernel_rfl) (by kernel_rfl) (by kernel_rfl) (fun _ _ _ h => h) (Or.inl ⟨by rfl, ?y706⟩) (by assumption) ?z706
      case y706 => (intro w hSw; (try dsimp only at hSw); go_simp) <;> with_reducible rfl
      try simp only [Act.put, List.setIfInBounds_toArray, List.set_cons_zero, List.set_cons_succ]
      refine wpAnyH_take (i := 6) (oi := { dst := some 37, op := Go.Op.binOp Go.BinOp.rem 5 (Go.Operand.tmp 36) (Go.Operand.const (Go.Value.int Go.IntKind.u8 16)) 5, type := 5, pos := "law.go:85", after := #[{ on := 5, ground := Go.Ground.data }], guard := none }) (v := ?v707) rfl (by kernel_rfl) (by kernel_rfl) (by kernel_rfl) (fun _ _ _ h => h) (Or.inl ⟨by rfl, ?y707⟩) (by assumption) ?z707
      case y707 => (intro w hSw; (try dsimp only at hSw); go_simp) <;> with_reducible rfl
      try simp only [Act.put, List.setIfInBounds_toArray, List.set_cons_zero, List.set_cons_succ]
      refine wpAnyH_take (i := 7) (oi := { dst := some 38, op := Go.Op.index 9 (Go.Operand.tmp 35) (Go.Operand.tmp 37), type := 5, pos := "law.go:85", after := #[{ on := 4, ground := Go.Ground.data }, { on := 6, ground := Go.Ground.data }], guard := none }) (v := ?v708) rfl (by kernel_rfl) (by kernel_rfl) (by kernel_rfl) (fun _ _ _ h => h) (Or.inl ⟨by rfl, ?y708⟩) (by assumption) ?z708
      case y708 => (intro w hSw; (try dsimp only at hSw); go_simp) <;> with_reducible rfl
      try simp only [Act.put, List.setIfInBounds_toArray, List.set_cons_zero, List.set_cons_succ]
      refine wpAnyH_take (i := 10) (oi := { dst := some 41, op := Go.Op.move (Go.Operand.tmp 10), type := 9, pos := "law.go:85", after := #[], guard := none }) (v := ?v709) rfl (by kernel_rfl) (by kernel_rfl) (by kernel_rfl) (fun _ _ _ h => h) (Or.inl ⟨by rfl, ?y709⟩) (by assumption) ?z709
      case y709 => (intro w hSw; (try dsimp only at hSw); go_simp) <;> with_reducible rfl
      try simp only [Act.put, List.setIfInBounds_toArray, List.set_cons_zero, List.set_cons_succ]
      refine wpAnyH_ready (rs := [8]) (by kernel_rfl) (by simp) ?_
      refine (AllReadyH.cons (o := { dst := some 39, op := Go.Op.buildSlice 37 2 #[(0, Go.Operand.tmp 34), (1, Go.Operand.tmp 38)], type := 37, pos := "law.go:85", after := #[{ on := 3, ground := Go.Ground.data }, { on := 7, ground := Go.Ground.data }], guard := none }) rfl (fun K hK => ?_) AllReadyH.nil)
      · go_simp
        refine hK.out _ _ ?s710 (fun hNew => ?r710)
        case s710 => exact WS.below hHeld (own1 _ _)
        clear hK K
        clear hHeld
        have hHeld := hNew
        clear hNew
        have HN := Lib.hid (Has.new V70 #[.int .u8 (E1.toNat : Int), .int .u8 (E0.toNat : Int)] 5)
        generalize V70.alloc (.cells #[.int .u8 (E1.toNat : Int), .int .u8 (E0.toNat : Int)] 5) = V71 at hHeld HN ⊢
        generalize V70.heap.size = sb7 at HN ⊢
        refine wpAnyH_ready (rs := [9]) (by kernel_rfl) (by simp) ?_
        refine (AllReadyH.cons (o := { dst := some 40, op := Go.Op.convert 37 9 (Go.Operand.tmp 39), type := 9, pos := "law.go:85", after := #[{ on := 8, ground := Go.Ground.data }], guard := none }) rfl (fun K hK => ?_) AllReadyH.nil)
        · have hcv := conv2 E1 E0 _ _ HN.out
          go_simp
          refine hK.out _ _ ?s711 (fun hNew => ?r711)
          case s711 => exact hHeld
          clear hK K
          clear hcv HN
          clear hHeld
          have hHeld := hNew
          clear hNew
          obtain ⟨V72, hVV⟩ : ∃ V, V = V71 := ⟨_, rfl⟩
          rw [← hVV] at hHeld ⊢
          clear hVV
          refine wpAnyH_take (i := 11) (oi := { dst := some 42, op := Go.Op.binOp Go.BinOp.add 9 (Go.Operand.tmp 40) (Go.Operand.tmp 41) 9, type := 9, pos := "law.go:85", after := #[{ on := 9, ground := Go.Ground.data }, { on := 10, ground := Go.Ground.data }], guard := none }) (v := ?v712) rfl (by kernel_rfl) (by kernel_rfl) (by kernel_rfl) (fun _ _ _ h => h) (Or.inl ⟨by rfl, ?y712⟩) (by assumption) ?z712
          case y712 => (intro w hSw; (try dsimp only at hSw); go_simp) <;> with_reducible rfl
          try simp only [Act.put, List.setIfInBounds_toArray, List.set_cons_zero, List.set_cons_succ]
          refine wpAnyH_take (i := 12) (oi := { dst := some 11, op := Go.Op.assign (Go.Operand.tmp 42), type := 9, pos := "law.go:85", after := #[{ on := 11, ground := Go.Ground.data }, { on := 0, ground := Go.Ground.phase }, { on := 1, ground := Go.Ground.phase }, { on := 2, ground := Go.Ground.phase }, { on := 3, ground := Go.Ground.phase }, { on := 4, ground := Go.Ground.phase }, { on := 5, ground := Go.Ground.phase }, { on := 6, ground := Go.Ground.phase }, { on := 7, ground := Go.Ground.phase }, { on := 8, ground := Go.Ground.phase }, { on := 9, ground := Go.Ground.phase }, { on := 10, ground := Go.Ground.phase }, { on := 11, ground := Go.Ground.phase }], guard := none }) (v := ?v713) rfl (by kernel_rfl) (by kernel_rfl) (by kernel_rfl) (fun _ _ _ h => h) (Or.inl ⟨by rfl, ?y713⟩) (by assumption) ?z713
          case y713 => (intro w hSw; (try dsimp only at hSw); go_simp) <;> with_reducible rfl
          try simp only [Act.put, List.setIfInBounds_toArray, List.set_cons_zero, List.set_cons_succ]
          refine wpAnyH_done (by kernel_rfl) ?_ _
          have hcc := hHeld.1
          go_wp2
          all_goals (go_ret; exact ⟨rfl, hHeld.2.1⟩)
theorem words_walk (a b c : Nat) (ha : a < 256) (hb : b < 256) (hc : c < 256) (w : World) (hz : Tz w) : Calls Tryd.prog 8 #[.int .u8 a, .int .u8 b, .int .u8 c] w fun e w' => e = .returned (.bool true) ∧ Below w.heap.size w w' := by
  by_cases h : a = 203
  · subst h
    have e1 : decF 203 b c = pfT b := if_pos rfl
    have e2 := (pfT_ok ⟨b, hb⟩).2
    have e3 := pfT_n ⟨b, hb⟩
    simp only at e2 e3
    cases hr : pfT b with
    | mk k x y s n =>
      rw [hr] at e1 e2 e3
      obtain rfl : s = 2 := e2
      obtain rfl : n = 0 := e3
      exact wwp 203 b c ha hb hc k x y (by decide) e1 w hz
  · have hcb : ((a : Int) != 203) = true := by
      rw [bne_iff_ne]
      omega
    have e1 : decF a b c = decN (plT a) b c := if_neg h
    have hk := plT_kind ⟨a, ha⟩
    have ho := plT_ok ⟨a, ha⟩
    simp only at hk ho
    cases hr : plT a with
    | mk k x y s n =>
      rw [hr] at e1 hk ho
      simp [okP] at ho
      obtain ⟨h2, h3, h1⟩ := hk
      rcases ho.2.2.1 with rfl | rfl | rfl
      · have e2 : decN ⟨k, x, y, 1, n⟩ b c = ⟨k, x, y, 1, n⟩ := rfl
        rw [e2] at e1
        rcases h1 rfl with e | e
        · obtain rfl : k = 28 := e
          exact wwr a b c ha hb hc x y n (by omega) (by omega) e1 w hz
        · obtain rfl : n = 0 := e
          exact ww1 a b c ha hb hc k x y e1 w hz
      · have e2 : decN ⟨k, x, y, 2, n⟩ b c = ⟨k, x, y, 2, b⟩ := rfl
        rw [e2] at e1
        exact ww2 a b c ha hb hc k x y (h2 rfl) hcb e1 w hz
      · have e2 : decN ⟨k, x, y, 3, n⟩ b c = ⟨k, x, y, 3, (c : Int) * 256 + b⟩ := rfl
        rw [e2] at e1
        exact ww3 a b c ha hb hc k x y (h3 rfl) e1 w hz
end Go.Proofs.YtaggebfcfebomaaDoor
