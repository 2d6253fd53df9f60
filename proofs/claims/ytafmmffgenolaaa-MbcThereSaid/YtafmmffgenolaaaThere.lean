/-
  The walk through MbcThere: for every world in which the writes lie as told; no other condition.
-/
import Derived.Test.YtafmmffgenolaaaLaw0
import Derived.Deep.Cut
import Derived.StillTailTactics
import Derived.Deep.LoopGhost
namespace Go.Proofs.Ytafmmffgenolaaa
open Go.ChangeShapes Go.WideShapes Go.ChangeAt Go.RowKit
set_option linter.unusedVariables false
set_option linter.unusedSimpArgs false
set_option maxRecDepth 100000
theorem far8c {w : World} {r b o : Nat} {x : Option Value} (h : w.cell? ⟨r, o, none⟩ = x) (hn : r ≠ b) (v0 v1 v2 v3 v4 v5 v6 v7 : Value) : World.cell? (World.setCell (World.setCell (World.setCell (World.setCell (World.setCell (World.setCell (World.setCell (World.setCell w ⟨b, 0, none⟩ (v0)) ⟨b, 1, none⟩ (v1)) ⟨b, 2, none⟩ (v2)) ⟨b, 3, none⟩ (v3)) ⟨b, 4, none⟩ (v4)) ⟨b, 5, none⟩ (v5)) ⟨b, 6, none⟩ (v6)) ⟨b, 7, none⟩ (v7)) ⟨r, o, none⟩ = x := by
  have e : ∀ i, (⟨b, i, none⟩ : Addr) ≠ ⟨r, o, none⟩ := fun i q => hn (by injection q with q; exact q.symm)
  rw [World.cell?_setCell_other _ _ _ _ (e 7), World.cell?_setCell_other _ _ _ _ (e 6), World.cell?_setCell_other _ _ _ _ (e 5), World.cell?_setCell_other _ _ _ _ (e 4), World.cell?_setCell_other _ _ _ _ (e 3), World.cell?_setCell_other _ _ _ _ (e 2), World.cell?_setCell_other _ _ _ _ (e 1), World.cell?_setCell_other _ _ _ _ (e 0)]
  exact h
theorem at_ways (m : MV) (a : Int) : (isV (atV m a) = true ∧ 0 ≤ numV (atV m a) ∧ numV (atV m a) < m.r ∧ 40960 ≤ a ∧ a ≤ 49151) ∨ (isV (atV m a) = false ∧ numV (atV m a) = 0) := by
  unfold atV
  by_cases h1 : a < 40960
  · rw [if_pos h1]; right; exact ⟨rfl, rfl⟩
  rw [if_neg h1]
  by_cases h2 : 49151 < a
  · rw [if_pos h2]; right; exact ⟨rfl, rfl⟩
  rw [if_neg h2]
  by_cases h3 : m.on = false
  · rw [if_pos h3]; right; exact ⟨rfl, rfl⟩
  rw [if_neg h3]
  by_cases h4 : m.r < 1
  · rw [if_pos h4]; right; exact ⟨rfl, rfl⟩
  rw [if_neg h4]
  cases offV m a with
  | none => right; exact ⟨rfl, rfl⟩
  | some z => left; exact ⟨rfl, Int.emod_nonneg _ (by omega), Int.emod_lt_of_pos _ (by omega), by omega, by omega⟩
theorem cl_ways (m : MV) (a : Int) : isV (clV m) = false ∨ (isV (clV m) = true ∧ 0 ≤ numV (clV m) ∧ numV (clV m) ≤ 4 ∧ isV (atV m a) = false) := by
  unfold clV
  by_cases h1 : m.k = 3
  · rw [if_pos h1]
    by_cases h2 : m.on = true
    · rw [if_pos h2]
      by_cases h3 : m.hi < 8
      · rw [if_pos h3]; left; rfl
      rw [if_neg h3]
      by_cases h4 : 12 < m.hi
      · rw [if_pos h4]; left; rfl
      rw [if_neg h4]
      right
      have e : offV m a = none := by unfold offV; rw [if_neg (by omega), if_neg (by omega), if_neg (by omega), if_pos h1, if_pos (by omega)]
      refine ⟨rfl, by show 0 ≤ m.hi - 8; omega, by show m.hi - 8 ≤ 4; omega, ?_⟩
      unfold atV
      rw [e]
      repeat' split
      all_goals rfl
    · rw [if_neg h2]; left; rfl
  · rw [if_neg h1]; left; rfl
theorem ways3 (okb clb : Bool) (nv cv R a : Int) (h1 : (okb = true ∧ 0 ≤ nv ∧ nv < R ∧ 40960 ≤ a ∧ a ≤ 49151) ∨ (okb = false ∧ nv = 0)) (h2 : clb = false ∨ (clb = true ∧ 0 ≤ cv ∧ cv ≤ 4 ∧ okb = false)) :
    okb = true ∧ 0 ≤ nv ∧ nv < R ∧ 40960 ≤ a ∧ a ≤ 49151 ∧ clb = false ∨ okb = false ∧ nv = 0 ∧ clb = false ∨ okb = false ∧ nv = 0 ∧ clb = true ∧ 0 ≤ cv ∧ cv ≤ 4 := by
  rcases h1 with ⟨x1, x2, x3, x4, x5⟩ | ⟨x1, x2⟩
  · rcases h2 with y1 | ⟨y1, y2, y3, y4⟩
    · exact Or.inl ⟨x1, x2, x3, x4, x5, y1⟩
    · rw [x1] at y4; cases y4
  · rcases h2 with y1 | ⟨y1, y2, y3, y4⟩
    · exact Or.inr (Or.inl ⟨x1, x2, y1⟩)
    · exact Or.inr (Or.inr ⟨x1, x2, y1, y2, y3⟩)
def nearV (a b : Int) : Int := 16384 * (a / 16384 % 2) + b % 16384
theorem near_rom (m : MV) (a b : Int) (ha : 0 ≤ a) (hb : 0 ≤ b) : romV m (nearV a b) - romV m a = b % 16384 - a % 16384 := by
  unfold romV bankV
  have e : selV m (nearV a b % 32768) = selV m (a % 32768) := by
    unfold selV nearV
    by_cases h : a % 32768 < 16384
    · rw [if_pos (show (16384 * (a / 16384 % 2) + b % 16384) % 32768 < 16384 by omega), if_pos h]
    · rw [if_neg (show ¬ (16384 * (a / 16384 % 2) + b % 16384) % 32768 < 16384 by omega), if_neg h]
  rw [e]
  have e2 : nearV a b % 16384 = b % 16384 := by unfold nearV; omega
  rw [e2]; omega
theorem rom_bd {m : MV} (hm : m.ok) (a : Int) : 0 ≤ romV m a ∧ romV m a < 16384 * m.n := by
  have := bankV_bd hm (a % 32768)
  unfold romV; omega
set_option maxHeartbeats 2000000 in
theorem there_long (k b r : Nat) (at_ by_ : Int) (a : Option Addr) (n c : Nat) (h0 : 100 < n) (w : World) : Calls Try.prog 4 #[.int .u8 k, .int .u8 b, .int .u8 r, .slice a n c, .int .u16 at_, .int .u16 by_] w fun e w' => e = .returned (.bool true) ∧ Below w.heap.size w w' := by
  have AW := Lib.hid awake_c
  have h0I : (100 : Int) < n := by omega
  have hnot : ∀ (x : Bool) (w : World), (Op.unary .not (.bool x)).run Try.prog w = .ok (.bool (!x)) w := fun _ _ => rfl
  go_enter Try.func4, Try.ntmps4
  go_wp2_with fail
  with_reducible refine (AW.out _).mono ?_
  rintro e w1 ⟨rfl, b1⟩
  have B1 := Lib.hid (b1)
  clear b1
  go_wp2_with fail
  with_reducible refine (AW.out _).mono ?_
  rintro e w2 ⟨rfl, b2⟩
  have B2 := Lib.hid (via B1.out b2)
  clear b2
  go_wp2
  go_ret
  exact ⟨rfl, B2.out⟩
set_option maxHeartbeats 4000000 in
theorem there_some (k b r : Nat) (at_ by_ : Int) (hk : k < 256) (hb : b < 256) (hr : r < 256) (ha0 : 0 ≤ at_) (haI : at_ < 65536) (hb0 : 0 ≤ by_) (hbI : by_ < 65536) (a : Option Addr) (n c : Nat) (h0 : ¬ 100 < n) (f g : Nat → Int) (hf : ∀ i, 0 ≤ f i ∧ f i < 65536) (hg : ∀ i, 0 ≤ g i ∧ g i < 256) (w : World) (hin : 0 < n → ∃ qb qo, a = some ⟨qb, qo, none⟩ ∧ qb < w.heap.size ∧ ∀ j, j < n → w.cell? ⟨qb, qo + j * 2, none⟩ = some (.int .u16 (f j)) ∧ w.cell? ⟨qb, qo + j * 2 + 1, none⟩ = some (.int .u8 (g j))) : Calls Try.prog 4 #[.int .u8 k, .int .u8 b, .int .u8 r, .slice a n c, .int .u16 at_, .int .u16 by_] w fun e w' => e = .returned (.bool true) ∧ Below w.heap.size w w' := by
  have AW := Lib.hid awake_c
  have HIN := Lib.hid hin
  have HF := Lib.hid hf
  have HG := Lib.hid hg
  obtain ⟨K, hK⟩ : ∃ q_, kdV k = q_ := ⟨_, rfl⟩
  obtain ⟨B, hB⟩ : ∃ q_, bnV b = q_ := ⟨_, rfl⟩
  obtain ⟨R, hR⟩ : ∃ q_, rmV k r = q_ := ⟨_, rfl⟩
  have Kb := kdV_bd k
  have Bb := bnV_bd b
  have Rb := rmV_bd k r
  rw [hK] at Kb
  rw [hB] at Bb
  rw [hR] at Rb
  have CC := Lib.hid (show ∀ W : World, Calls Try.prog 10 #[.int .u8 (k : Int), .int .u8 (b : Int), .int .u8 (r : Int)] W (fun e w' => e = .returned (.agg #[.string { data := #[] }, .int .i64 K, .bool false, .bool false, .int .i64 B, .int .i64 R, .bool false]) ∧ Below W.heap.size W w') from fun W => cart_c k b r K B R hk hb hr hK hB hR W)
  obtain ⟨m0, hm0⟩ : ∃ q_, newV K B R = q_ := ⟨_, rfl⟩
  have M0 := Lib.hid (show m0.ok from hm0 ▸ newV_ok Kb Bb Rb)
  have NC := Lib.hid (fun W => new_m K B R m0 hm0 { data := #[] } false false false W)
  have hnot : ∀ (x : Bool) (w : World), (Op.unary .not (.bool x)).run Try.prog w = .ok (.bool (!x)) w := fun _ _ => rfl
  have h0I : ¬ (100 : Int) < n := by omega
  have MN := Lib.hid (show m0.n = B from hm0 ▸ rfl)
  have MR := Lib.hid (show m0.r = R from hm0 ▸ rfl)
  obtain ⟨nr, hnr⟩ : ∃ q_, nearV at_ by_ = q_ := ⟨_, rfl⟩
  have z1 := and16384 (at_ : Int) ha0 haI
  have z2 := and16383 (by_ : Int) hb0 hbI
  have z3 := orNear ((at_ : Int) / 16384 % 2) ((by_ : Int) % 16384) (by omega) (by omega) (by omega) (by omega)
  have z3' : bits .or .u16 (16384 * ((at_ : Int) / 16384 % 2)) ((by_ : Int) % 16384) = nr := z3.trans hnr
  have nr0 : 0 ≤ nr := by rw [← hnr]; unfold nearV; omega
  have nr1 : nr < 65536 := by rw [← hnr]; unfold nearV; omega
  obtain ⟨nq, hnq⟩ : ∃ q_, (by_ : Int) % 16384 = q_ := ⟨_, rfl⟩
  have z4 : bits .and .u16 nr 16383 = nq := by rw [and16383 nr nr0 nr1, ← hnr, ← hnq]; unfold nearV; omega
  obtain ⟨aq, haq⟩ : ∃ q_, (at_ : Int) % 16384 = q_ := ⟨_, rfl⟩
  have z5 : bits .and .u16 (at_ : Int) 16383 = aq := (and16383 _ ha0 haI).trans haq
  have z6 : IntKind.i64.wrap nq = nq := by rw [IntKind.wrap_i64]; omega
  have z7 : IntKind.i64.wrap aq = aq := by rw [IntKind.wrap_i64]; omega
  obtain ⟨dq, hdq⟩ : ∃ q_, nq - aq = q_ := ⟨_, rfl⟩
  have z8 : IntKind.i64.wrap (nq - aq) = dq := by rw [IntKind.wrap_i64]; omega
  have z9 : IntKind.i64.wrap dq = dq := by rw [IntKind.wrap_i64]; omega
  rw [hnq] at z2 z3'
  have ZD := Lib.hid hdq
  have ZN := Lib.hid hnr
  have ZNQ := Lib.hid hnq
  have ZAQ := Lib.hid haq
  clear hin hf hg hK hB hR z3 hdq hnr hnq haq
  go_enter Try.func4, Try.ntmps4
  go_wp2_with fail
  with_reducible refine (AW.out _).mono ?_
  rintro e w1 ⟨rfl, b1⟩
  have B1 := Lib.hid b1
  clear b1
  go_wp2_with fail
  with_reducible refine (CC.out _).mono ?_
  rintro e w2 ⟨rfl, b2⟩
  have Q2 := own1 w2 (.cells #[.string { data := #[] }, .int .i64 K, .bool false, .bool false, .int .i64 B, .int .i64 R, .bool false] 26)
  have B2 := Lib.hid (via (via B1.out b2) Q2)
  have H2 := Lib.hid (Has.new w2 #[.string { data := #[] }, .int .i64 K, .bool false, .bool false, .int .i64 B, .int .i64 R, .bool false] 26)
  have LB := Lib.hid (show w.heap.size ≤ w2.heap.size from (via B1.out b2).size)
  clear b2 Q2 B1
  go_upto_region 4 with (fail)
  generalize w2.alloc (.cells #[.string { data := #[] }, .int .i64 K, .bool false, .bool false, .int .i64 B, .int .i64 R, .bool false] 26) = w2' at B2 H2 ⊢
  generalize w2.heap.size = hb at H2 LB ⊢
  obtain ⟨hc, hfz⟩ := H2.out.out
  go_wp2_with fail
  with_reducible refine (NC.out _).mono ?_
  rintro e w3 ⟨rfl, b3⟩
  clear hc hfz
  have Q3 := own1 w3 (.cells #[.int .i64 m0.k, .int .i64 m0.n, .int .i64 m0.r, .bool m0.on, .bool m0.mo, .int .i64 m0.lo, .int .i64 m0.hi, .int .u8 m0.la] 29)
  have B4 := Lib.hid (via (via B2.out b3) Q3)
  have H4 := Lib.hid ((H2.out.below b3).below Q3)
  have M4 := Lib.hid (Has.new w3 #[.int .i64 m0.k, .int .i64 m0.n, .int .i64 m0.r, .bool m0.on, .bool m0.mo, .int .i64 m0.lo, .int .i64 m0.hi, .int .u8 m0.la] 29)
  have LH := Lib.hid (show w.heap.size ≤ w3.heap.size from (via B2.out b3).size)
  have NH := Lib.hid (show hb ≠ w3.heap.size by have := (H2.out.below b3).1; omega)
  clear b3 Q3 B2 H2 CC NC
  go_upto_region 5 with (fail)
  generalize w3.alloc (.cells #[.int .i64 m0.k, .int .i64 m0.n, .int .i64 m0.r, .bool m0.on, .bool m0.mo, .int .i64 m0.lo, .int .i64 m0.hi, .int .u8 m0.la] 29) = w4 at B4 H4 M4 ⊢
  generalize w3.heap.size = h at M4 LH NH ⊢
  go_wp2
  go_loopg [38] n (fun g' i wr => ∃ (t : Nat) (m : MV), t ≤ n ∧ g' + t = n ∧ i = .int .i64 t ∧ m.ok ∧ m.n = B ∧ m.r = R ∧ Below w.heap.size w wr ∧ Has wr h #[.int .i64 m.k, .int .i64 m.n, .int .i64 m.r, .bool m.on, .bool m.mo, .int .i64 m.lo, .int .i64 m.hi, .int .u8 m.la] ∧ Has wr hb #[.string { data := #[] }, .int .i64 K, .bool false, .bool false, .int .i64 B, .int .i64 R, .bool false])
  case atStart => exact ⟨0, m0, by omega, by omega, rfl, M0.out, MN.out, MR.out, B4.out, M4.out, H4.out⟩
  case round =>
    obtain ⟨t, m, ht, hg, rfl, hok, hmn, hmr, hB, hM, hP⟩ := hrel
    have TG := Lib.hid hg
    have OK := Lib.hid hok
    have MNN := Lib.hid hmn
    have MRR := Lib.hid hmr
    have TB := Lib.hid hB
    have TM := Lib.hid hM
    have TP := Lib.hid hP
    clear hg hok hmn hmr hB hM hP B4 H4 M4 MN MR
    by_cases hlt : t < n
    · have l1 : (t : Int) < n := by omega
      have l0 : (0 : Int) ≤ t := by omega
      obtain ⟨qb, qo, rfl, hqb, hcells⟩ := HIN.out (by omega)
      have QL := Lib.hid (Nat.lt_of_lt_of_le hqb TB.out.drew.size)
      have hq1 : (World.drew wr).cell? ⟨qb, qo + t * 2, none⟩ = some (.int .u16 (f t)) := (TB.out.drew.cell (p := ⟨qb, qo + t * 2, none⟩) hqb).trans (hcells t hlt).1
      have hq2 : (World.drew wr).cell? ⟨qb, qo + t * 2 + 1, none⟩ = some (.int .u8 (g t)) := (TB.out.drew.cell (p := ⟨qb, qo + t * 2 + 1, none⟩) hqb).trans (hcells t hlt).2
      have fb := HF.out t
      have gb := HG.out t
      generalize f t = pf at hq1 fb
      generalize g t = pg at hq2 gb
      clear hcells
      obtain ⟨m', hm'⟩ : ∃ q_, wrV m (pf % 32768) pg = q_ := ⟨_, rfl⟩
      obtain ⟨hh, hhh⟩ : ∃ q_, heldV m (pf % 32768) pg = q_ := ⟨_, rfl⟩
      have WC := Lib.hid (fun W => write_c m m' pf pg hh OK.out fb.1 fb.2 gb.1 gb.2 hm' hhh W)
      have OK' := Lib.hid (show m'.ok from hm' ▸ wrV_ok OK.out _ _ gb)
      have MN' := Lib.hid (show m'.n = B from hm' ▸ (wrV_same m _ _).2.1.trans MNN.out)
      have MR' := Lib.hid (show m'.r = R from hm' ▸ (wrV_same m _ _).2.2.trans MRR.out)
      clear hm' hhh
      obtain ⟨okb, hokb⟩ : ∃ q_, isV (atV m' at_) = q_ := ⟨_, rfl⟩
      obtain ⟨nv, hnv⟩ : ∃ q_, numV (atV m' at_) = q_ := ⟨_, rfl⟩
      obtain ⟨clb, hclb⟩ : ∃ q_, isV (clV m') = q_ := ⟨_, rfl⟩
      obtain ⟨cv, hcv⟩ : ∃ q_, numV (clV m') = q_ := ⟨_, rfl⟩
      obtain ⟨rv, hrv⟩ : ∃ q_, romV m' at_ = q_ := ⟨_, rfl⟩
      obtain ⟨rn, hrn⟩ : ∃ q_, romV m' nr = q_ := ⟨_, rfl⟩
      have AT := Lib.hid (fun W => at_c m' at_ nv okb OK'.out ha0 haI hnv hokb W)
      have CL := Lib.hid (fun W => clock_c m' cv clb OK'.out hcv hclb W)
      have RA := Lib.hid (fun W => rom_c m' at_ rv OK'.out ha0 haI hrv W)
      have RN := Lib.hid (fun W => rom_c m' nr rn OK'.out nr0 nr1 hrn W)
      have aw2 := at_ways m' at_
      have cw2 := cl_ways m' at_
      rw [hokb, hnv, MR'.out] at aw2
      rw [hokb, hclb, hcv] at cw2
      have AW2 := Lib.hid aw2
      have CW2 := Lib.hid cw2
      have rb := rom_bd OK'.out at_
      have rb2 := rom_bd OK'.out nr
      have nrm := near_rom m' at_ by_ ha0 hb0
      rw [ZN.out, hrv, hrn, ZNQ.out, ZAQ.out, ZD.out] at nrm
      rw [hrv, MN'.out] at rb
      rw [hrn, MN'.out] at rb2
      have z10 : IntKind.i64.wrap (rn - rv) = dq := by rw [nrm]; exact z9
      have QR := Lib.hid rb
      clear aw2 cw2 rb rb2 nrm hokb hnv hclb hcv hrv hrn
      have QH := Lib.hid (show qb ≠ h by have := LH.out; omega)
      clear hqb
      go_upto_region 8 with (fail)
      have TM := Lib.hid TM.out.drew
      have TB := Lib.hid TB.out.drew
      have TP := Lib.hid TP.out.drew
      have QA0 := Lib.hid (show (World.drew wr).cell? ⟨qb, qo + t * 2, none⟩ = some (.int .u16 pf) from hq1)
      have QA1 := Lib.hid (show (World.drew wr).cell? ⟨qb, qo + t * 2 + 1, none⟩ = some (.int .u8 pg) from hq2)
      clear hq1 hq2
      refine wp_region_held_drew (S := (fun w' => (w'.cell? ⟨qb, qo + t * 2, none⟩ = some (.int .u16 pf)) ∧ (w'.cell? ⟨qb, qo + t * 2 + 1, none⟩ = some (.int .u8 pg)))) (by kernel_rfl) ⟨QA0.out, QA1.out⟩ (fun hHeld => ?_)
      generalize World.drew wr = u0 at hHeld TM TB QL QA0 QA1 TP  ⊢
      refine wpAnyH_take (i := 1) (oi := { dst := some 43, op := Go.Op.move (Go.Operand.tmp 3), type := 22, pos := "law.go:66", after := #[], guard := none }) (v := ?v16) rfl (by kernel_rfl) (by kernel_rfl) (by kernel_rfl) (fun _ _ _ h => h) (Or.inl ⟨by rfl, ?y16⟩) (by assumption) ?z16
      case y16 => (intro w hSw; (try dsimp only at hSw); go_simp) <;> with_reducible rfl
      try simp only [Act.put, List.setIfInBounds_toArray, List.set_cons_zero, List.set_cons_succ]
      refine wpAnyH_take (i := 2) (oi := { dst := some 44, op := Go.Op.move (Go.Operand.tmp 15), type := 3, pos := "law.go:66", after := #[], guard := none }) (v := ?v17) rfl (by kernel_rfl) (by kernel_rfl) (by kernel_rfl) (fun _ _ _ h => h) (Or.inl ⟨by rfl, ?y17⟩) (by assumption) ?z17
      case y17 => (intro w hSw; (try dsimp only at hSw); go_simp) <;> with_reducible rfl
      try simp only [Act.put, List.setIfInBounds_toArray, List.set_cons_zero, List.set_cons_succ]
      refine wpAnyH_take (i := 3) (oi := { dst := some 45, op := Go.Op.indexAddr 22 (Go.Operand.tmp 43) (Go.Operand.tmp 44), type := 0, pos := "law.go:66", after := #[{ on := 1, ground := Go.Ground.data }, { on := 2, ground := Go.Ground.data }], guard := none }) (v := ?v18) rfl (by kernel_rfl) (by kernel_rfl) (by kernel_rfl) (fun _ _ _ h => h) (Or.inl ⟨by rfl, ?y18⟩) (by assumption) ?z18
      case y18 => (intro w hSw; (try dsimp only at hSw); go_simp) <;> with_reducible rfl
      try simp only [Act.put, List.setIfInBounds_toArray, List.set_cons_zero, List.set_cons_succ]
      refine wpAnyH_take (i := 4) (oi := { dst := some 46, op := Go.Op.fieldAddr 37 (Go.Operand.tmp 45) 0, type := 0, pos := "law.go:66", after := #[{ on := 3, ground := Go.Ground.data }], guard := none }) (v := ?v19) rfl (by kernel_rfl) (by kernel_rfl) (by kernel_rfl) (fun _ _ _ h => h) (Or.inl ⟨by rfl, ?y19⟩) (by assumption) ?z19
      case y19 => (intro w hSw; (try dsimp only at hSw); go_simp) <;> with_reducible rfl
      try simp only [Act.put, List.setIfInBounds_toArray, List.set_cons_zero, List.set_cons_succ]
      refine wpAnyH_take (i := 5) (oi := { dst := some 47, op := Go.Op.load 23 (Go.Operand.tmp 46), type := 23, pos := "law.go:66", after := #[{ on := 4, ground := Go.Ground.data }], guard := none }) (v := ?v20) rfl (by kernel_rfl) (by kernel_rfl) (by kernel_rfl) (fun _ _ _ h => h) (Or.inl ⟨by rfl, ?y20⟩) (by assumption) ?z20
      case y20 => (intro w hSw; (try dsimp only at hSw); go_simp) <;> with_reducible rfl
      try simp only [Act.put, List.setIfInBounds_toArray, List.set_cons_zero, List.set_cons_succ]
      refine wpAnyH_take (i := 6) (oi := { dst := some 48, op := Go.Op.move (Go.Operand.tmp 3), type := 22, pos := "law.go:66", after := #[], guard := none }) (v := ?v21) rfl (by kernel_rfl) (by kernel_rfl) (by kernel_rfl) (fun _ _ _ h => h) (Or.inl ⟨by rfl, ?y21⟩) (by assumption) ?z21
      case y21 => (intro w hSw; (try dsimp only at hSw); go_simp) <;> with_reducible rfl
      try simp only [Act.put, List.setIfInBounds_toArray, List.set_cons_zero, List.set_cons_succ]
      refine wpAnyH_take (i := 7) (oi := { dst := some 49, op := Go.Op.move (Go.Operand.tmp 15), type := 3, pos := "law.go:66", after := #[], guard := none }) (v := ?v22) rfl (by kernel_rfl) (by kernel_rfl) (by kernel_rfl) (fun _ _ _ h => h) (Or.inl ⟨by rfl, ?y22⟩) (by assumption) ?z22
      case y22 => (intro w hSw; (try dsimp only at hSw); go_simp) <;> with_reducible rfl
      try simp only [Act.put, List.setIfInBounds_toArray, List.set_cons_zero, List.set_cons_succ]
      refine wpAnyH_take (i := 8) (oi := { dst := some 50, op := Go.Op.indexAddr 22 (Go.Operand.tmp 48) (Go.Operand.tmp 49), type := 0, pos := "law.go:66", after := #[{ on := 6, ground := Go.Ground.data }, { on := 7, ground := Go.Ground.data }], guard := none }) (v := ?v23) rfl (by kernel_rfl) (by kernel_rfl) (by kernel_rfl) (fun _ _ _ h => h) (Or.inl ⟨by rfl, ?y23⟩) (by assumption) ?z23
      case y23 => (intro w hSw; (try dsimp only at hSw); go_simp) <;> with_reducible rfl
      try simp only [Act.put, List.setIfInBounds_toArray, List.set_cons_zero, List.set_cons_succ]
      refine wpAnyH_take (i := 9) (oi := { dst := some 51, op := Go.Op.fieldAddr 37 (Go.Operand.tmp 50) 1, type := 0, pos := "law.go:66", after := #[{ on := 8, ground := Go.Ground.data }], guard := none }) (v := ?v24) rfl (by kernel_rfl) (by kernel_rfl) (by kernel_rfl) (fun _ _ _ h => h) (Or.inl ⟨by rfl, ?y24⟩) (by assumption) ?z24
      case y24 => (intro w hSw; (try dsimp only at hSw); go_simp) <;> with_reducible rfl
      try simp only [Act.put, List.setIfInBounds_toArray, List.set_cons_zero, List.set_cons_succ]
      refine wpAnyH_take (i := 10) (oi := { dst := some 52, op := Go.Op.load 5 (Go.Operand.tmp 51), type := 5, pos := "law.go:66", after := #[{ on := 9, ground := Go.Ground.data }], guard := none }) (v := ?v25) rfl (by kernel_rfl) (by kernel_rfl) (by kernel_rfl) (fun _ _ _ h => h) (Or.inl ⟨by rfl, ?y25⟩) (by assumption) ?z25
      case y25 => (intro w hSw; (try dsimp only at hSw); go_simp) <;> with_reducible rfl
      try simp only [Act.put, List.setIfInBounds_toArray, List.set_cons_zero, List.set_cons_succ]
      refine wpAnyH_ready (rs := [0]) (by kernel_rfl) (by simp) ?_
      refine (AllReadyH.cons (o := { dst := some 42, op := Go.Op.load 29 (Go.Operand.tmp 14), type := 29, pos := "law.go:66", after := #[], guard := none }) rfl (fun K hK => ?_) AllReadyH.nil)
      · skip
        obtain ⟨hc, hfz⟩ := TM.out.out
        go_simp
        clear hc hfz
        refine hK.out _ _ ?s26 (fun hNew => ?r26)
        case s26 => exact ⟨QA0.out, QA1.out⟩
        clear hK K hHeld
        have hHeld := hNew
        clear hNew
        refine wpAnyH_ready (rs := [11]) (by kernel_rfl) (by simp) ?_
        refine (AllReadyH.cons (o := { dst := some 53, op := Go.Op.call { callee := Go.Callee.value (Go.Operand.func 13), args := #[Go.Operand.tmp 42, Go.Operand.tmp 47, Go.Operand.tmp 52], argTypes := #[29, 23, 5] }, type := 34, pos := "law.go:66", after := #[{ on := 0, ground := Go.Ground.data }, { on := 5, ground := Go.Ground.data }, { on := 10, ground := Go.Ground.data }], guard := none }) rfl (fun K hK => ?_) AllReadyH.nil)
        · skip
          go_simp
          with_reducible refine (WC.out _).mono ?_
          rintro e u1 ⟨rfl, hb⟩
          have TB1 := Lib.hid (via TB.out hb)
          have TM1 := Lib.hid (TM.out.below hb)
          have QB0 := Lib.hid ((hb.cell (p := ⟨qb, qo + t * 2, none⟩) QL.out).trans QA0.out)
          have QB1 := Lib.hid ((hb.cell (p := ⟨qb, qo + t * 2 + 1, none⟩) QL.out).trans QA1.out)
          have TP1 := Lib.hid (TP.out.below hb)
          clear hb
          refine hK.out _ _ ?s27 (fun hNew => ?r27)
          case s27 => exact ⟨QB0.out, QB1.out⟩
          clear hK K hHeld
          have hHeld := hNew
          clear hNew
          refine wpAnyH_take (i := 12) (oi := { dst := some 41, op := Go.Op.move (Go.Operand.tmp 53), type := 34, pos := "law.go:66", after := #[{ on := 11, ground := Go.Ground.data }], guard := none }) (v := ?v28) rfl (by kernel_rfl) (by kernel_rfl) (by kernel_rfl) (fun _ _ _ h => h) (Or.inl ⟨by rfl, ?y28⟩) (by assumption) ?z28
          case y28 => (intro w hSw; (try dsimp only at hSw); go_simp) <;> with_reducible rfl
          try simp only [Act.put, List.setIfInBounds_toArray, List.set_cons_zero, List.set_cons_succ]
          refine wpAnyH_take (i := 13) (oi := { dst := some 54, op := Go.Op.extract (Go.Operand.tmp 41) 0, type := 29, pos := "law.go:66", after := #[{ on := 12, ground := Go.Ground.data }], guard := none }) (v := ?v29) rfl (by kernel_rfl) (by kernel_rfl) (by kernel_rfl) (fun _ _ _ h => h) (Or.inl ⟨by rfl, ?y29⟩) (by assumption) ?z29
          case y29 => (intro w hSw; (try dsimp only at hSw); go_simp) <;> with_reducible rfl
          try simp only [Act.put, List.setIfInBounds_toArray, List.set_cons_zero, List.set_cons_succ]
          refine wpAnyH_take (i := 14) (oi := { dst := some 55, op := Go.Op.extract (Go.Operand.tmp 41) 1, type := 4, pos := "law.go:66", after := #[{ on := 12, ground := Go.Ground.data }, { on := 15, ground := Go.Ground.gcOnly Go.Departure.lateStores }], guard := none }) (v := ?v30) rfl (by kernel_rfl) (by kernel_rfl) (by kernel_rfl) (fun _ _ _ h => h) (Or.inl ⟨by rfl, ?y30⟩) (by assumption) ?z30
          case y30 => (intro w hSw; (try dsimp only at hSw); go_simp) <;> with_reducible rfl
          try simp only [Act.put, List.setIfInBounds_toArray, List.set_cons_zero, List.set_cons_succ]
          refine wpAnyH_ready (rs := [15]) (by kernel_rfl) (by simp) ?_
          refine (AllReadyH.cons (o := { dst := none, op := Go.Op.store 29 (Go.Operand.tmp 14) (Go.Operand.tmp 54), type := 0, pos := "law.go:66", after := #[{ on := 13, ground := Go.Ground.data }, { on := 11, ground := Go.Ground.chain }, { on := 0, ground := Go.Ground.phase }, { on := 1, ground := Go.Ground.phase }, { on := 2, ground := Go.Ground.phase }, { on := 3, ground := Go.Ground.phase }, { on := 4, ground := Go.Ground.phase }, { on := 5, ground := Go.Ground.phase }, { on := 6, ground := Go.Ground.phase }, { on := 7, ground := Go.Ground.phase }, { on := 8, ground := Go.Ground.phase }, { on := 9, ground := Go.Ground.phase }, { on := 10, ground := Go.Ground.phase }, { on := 11, ground := Go.Ground.phase }, { on := 12, ground := Go.Ground.phase }, { on := 13, ground := Go.Ground.phase }, { on := 14, ground := Go.Ground.textOnly Go.Departure.lateStores }], guard := none }) rfl (fun K hK => ?_) AllReadyH.nil)
          · skip
            obtain ⟨hc, hfz⟩ := TM1.out.out
            go_simp
            clear hc hfz
            have TM2 := Lib.hid (TM1.out.put8 (.int .i64 m'.k) (.int .i64 m'.n) (.int .i64 m'.r) (.bool m'.on) (.bool m'.mo) (.int .i64 m'.lo) (.int .i64 m'.hi) (.int .u8 m'.la))
            have TB2 := Lib.hid (set8 TB1.out h LH.out (.int .i64 m'.k) (.int .i64 m'.n) (.int .i64 m'.r) (.bool m'.on) (.bool m'.mo) (.int .i64 m'.lo) (.int .i64 m'.hi) (.int .u8 m'.la))
            have TP2 := Lib.hid (TP1.out.far8 NH.out (.int .i64 m'.k) (.int .i64 m'.n) (.int .i64 m'.r) (.bool m'.on) (.bool m'.mo) (.int .i64 m'.lo) (.int .i64 m'.hi) (.int .u8 m'.la))
            have QC0 := Lib.hid (far8c QB0.out QH.out (.int .i64 m'.k) (.int .i64 m'.n) (.int .i64 m'.r) (.bool m'.on) (.bool m'.mo) (.int .i64 m'.lo) (.int .i64 m'.hi) (.int .u8 m'.la))
            have QC1 := Lib.hid (far8c QB1.out QH.out (.int .i64 m'.k) (.int .i64 m'.n) (.int .i64 m'.r) (.bool m'.on) (.bool m'.mo) (.int .i64 m'.lo) (.int .i64 m'.hi) (.int .u8 m'.la))
            refine hK.out _ _ ?s31 (fun hNew => ?r31)
            case s31 => exact ⟨QC0.out, QC1.out⟩
            clear hK K hHeld
            have hHeld := hNew
            clear hNew
            generalize (World.setCell (World.setCell (World.setCell (World.setCell (World.setCell (World.setCell (World.setCell (World.setCell u1 ⟨h, 0, none⟩ (.int .i64 m'.k)) ⟨h, 1, none⟩ (.int .i64 m'.n)) ⟨h, 2, none⟩ (.int .i64 m'.r)) ⟨h, 3, none⟩ (.bool m'.on)) ⟨h, 4, none⟩ (.bool m'.mo)) ⟨h, 5, none⟩ (.int .i64 m'.lo)) ⟨h, 6, none⟩ (.int .i64 m'.hi)) ⟨h, 7, none⟩ (.int .u8 m'.la)) = u2 at hHeld TM2 TB2 QC0 QC1 TP2 ⊢
            refine wpAnyH_done (by kernel_rfl) ?_ _
            clear hHeld
            have hc := TM2.out.2.1
            go_wp2_with fail
            with_reducible refine (AT.out _).mono ?_
            rintro e u3 ⟨rfl, hb⟩
            clear hc
            have TB3 := Lib.hid (via TB2.out hb)
            have TM3 := Lib.hid (TM2.out.below hb)
            have TP3 := Lib.hid (TP2.out.below hb)
            clear hb
            have hc := TM3.out.2.1
            go_wp2_with fail
            with_reducible refine (CL.out _).mono ?_
            rintro e u4 ⟨rfl, hb⟩
            clear hc
            have TB4 := Lib.hid (via TB3.out hb)
            have TM4 := Lib.hid (TM3.out.below hb)
            have TP4 := Lib.hid (TP3.out.below hb)
            clear hb
            have hc := TM4.out.2.1
            go_wp2_with fail
            with_reducible refine (RA.out _).mono ?_
            rintro e u5 ⟨rfl, hb⟩
            clear hc
            have TB5 := Lib.hid (via TB4.out hb)
            have TM5 := Lib.hid (TM4.out.below hb)
            have TP5 := Lib.hid (TP4.out.below hb)
            clear hb
            have hcp := TP5.out.2.1
            have q1 := QR.out.1
            have q2 := QR.out.2
            have FF : Hid (okb = true ∧ 0 ≤ nv ∧ nv < R ∧ (40960 : Int) ≤ at_ ∧ (at_ : Int) ≤ 49151 ∧ clb = false ∨ okb = false ∧ nv = 0 ∧ clb = false ∨ okb = false ∧ nv = 0 ∧ clb = true ∧ 0 ≤ cv ∧ cv ≤ 4) := Lib.hid (ways3 _ _ _ _ _ _ AW2.out CW2.out)
            clear AW2 CW2
            rcases FF.out with ⟨f1, f2, f3, f4, f5, f6⟩ | ⟨f1, f2, f3⟩ | ⟨f1, f2, f3, f4, f5⟩
            · subst f1
              subst f6
              go_upto_region 15 with (fail)
              have TB6 := Lib.hid TB5.out.drew
              have TM6 := Lib.hid TM5.out.drew
              have TP6 := Lib.hid TP5.out.drew
              clear hcp
              refine wp_region_held_drew (S := (fun w' => (∀ o, w'.cell? ⟨h, o, none⟩ = #[.int .i64 m'.k, .int .i64 m'.n, .int .i64 m'.r, .bool m'.on, .bool m'.mo, .int .i64 m'.lo, .int .i64 m'.hi, .int .u8 m'.la][o]?) ∧ True)) (by kernel_rfl) ⟨TM6.out.2.1, trivial⟩ (fun hHeld => ?_)
              generalize World.drew u5 = u6 at hHeld TB6 TM6 TP6 ⊢
              refine wpAnyH_take (i := 0) (oi := { dst := some 127, op := Go.Op.load 29 (Go.Operand.tmp 14), type := 29, pos := "law.go:74", after := #[], guard := none }) (v := ?v1_1) rfl (by kernel_rfl) (by kernel_rfl) (by kernel_rfl) (fun _ _ _ h => h) (Or.inl ⟨by rfl, ?y1_1⟩) (by assumption) ?z1_1
              case y1_1 => (intro w hSw; (try dsimp only at hSw); go_simp) <;> with_reducible rfl
              try simp only [Act.put, List.setIfInBounds_toArray, List.set_cons_zero, List.set_cons_succ]
              refine wpAnyH_take (i := 1) (oi := { dst := some 128, op := Go.Op.move (Go.Operand.tmp 21), type := 23, pos := "law.go:74", after := #[], guard := none }) (v := ?v2_1) rfl (by kernel_rfl) (by kernel_rfl) (by kernel_rfl) (fun _ _ _ h => h) (Or.inl ⟨by rfl, ?y2_1⟩) (by assumption) ?z2_1
              case y2_1 => (intro w hSw; (try dsimp only at hSw); go_simp) <;> with_reducible rfl
              try simp only [Act.put, List.setIfInBounds_toArray, List.set_cons_zero, List.set_cons_succ]
              refine wpAnyH_take (i := 3) (oi := { dst := some 130, op := Go.Op.load 29 (Go.Operand.tmp 14), type := 29, pos := "law.go:74", after := #[], guard := none }) (v := ?v3_1) rfl (by kernel_rfl) (by kernel_rfl) (by kernel_rfl) (fun _ _ _ h => h) (Or.inl ⟨by rfl, ?y3_1⟩) (by assumption) ?z3_1
              case y3_1 => (intro w hSw; (try dsimp only at hSw); go_simp) <;> with_reducible rfl
              try simp only [Act.put, List.setIfInBounds_toArray, List.set_cons_zero, List.set_cons_succ]
              refine wpAnyH_take (i := 4) (oi := { dst := some 131, op := Go.Op.move (Go.Operand.tmp 4), type := 23, pos := "law.go:74", after := #[], guard := none }) (v := ?v4_1) rfl (by kernel_rfl) (by kernel_rfl) (by kernel_rfl) (fun _ _ _ h => h) (Or.inl ⟨by rfl, ?y4_1⟩) (by assumption) ?z4_1
              case y4_1 => (intro w hSw; (try dsimp only at hSw); go_simp) <;> with_reducible rfl
              try simp only [Act.put, List.setIfInBounds_toArray, List.set_cons_zero, List.set_cons_succ]
              refine wpAnyH_take (i := 7) (oi := { dst := some 134, op := Go.Op.move (Go.Operand.tmp 21), type := 23, pos := "law.go:74", after := #[], guard := none }) (v := ?v5_1) rfl (by kernel_rfl) (by kernel_rfl) (by kernel_rfl) (fun _ _ _ h => h) (Or.inl ⟨by rfl, ?y5_1⟩) (by assumption) ?z5_1
              case y5_1 => (intro w hSw; (try dsimp only at hSw); go_simp) <;> with_reducible rfl
              try simp only [Act.put, List.setIfInBounds_toArray, List.set_cons_zero, List.set_cons_succ]
              refine wpAnyH_take (i := 8) (oi := { dst := some 135, op := Go.Op.binOp Go.BinOp.and 23 (Go.Operand.tmp 134) (Go.Operand.const (Go.Value.int Go.IntKind.u16 16383)) 23, type := 23, pos := "law.go:74", after := #[{ on := 7, ground := Go.Ground.data }], guard := none }) (v := ?v6_1) rfl (by kernel_rfl) (by kernel_rfl) (by kernel_rfl) (fun _ _ _ h => h) (Or.inl ⟨by rfl, ?y6_1⟩) (by assumption) ?z6_1
              case y6_1 => (intro w hSw; (try dsimp only at hSw); go_simp) <;> with_reducible rfl
              try simp only [Act.put, List.setIfInBounds_toArray, List.set_cons_zero, List.set_cons_succ]
              refine wpAnyH_take (i := 9) (oi := { dst := some 136, op := Go.Op.convert 23 3 (Go.Operand.tmp 135), type := 3, pos := "law.go:74", after := #[{ on := 8, ground := Go.Ground.data }], guard := none }) (v := ?v7_1) rfl (by kernel_rfl) (by kernel_rfl) (by kernel_rfl) (fun _ _ _ h => h) (Or.inl ⟨by rfl, ?y7_1⟩) (by assumption) ?z7_1
              case y7_1 => (intro w hSw; (try dsimp only at hSw); go_simp) <;> with_reducible rfl
              try simp only [Act.put, List.setIfInBounds_toArray, List.set_cons_zero, List.set_cons_succ]
              refine wpAnyH_take (i := 10) (oi := { dst := some 137, op := Go.Op.move (Go.Operand.tmp 4), type := 23, pos := "law.go:74", after := #[], guard := none }) (v := ?v8_1) rfl (by kernel_rfl) (by kernel_rfl) (by kernel_rfl) (fun _ _ _ h => h) (Or.inl ⟨by rfl, ?y8_1⟩) (by assumption) ?z8_1
              case y8_1 => (intro w hSw; (try dsimp only at hSw); go_simp) <;> with_reducible rfl
              try simp only [Act.put, List.setIfInBounds_toArray, List.set_cons_zero, List.set_cons_succ]
              refine wpAnyH_take (i := 11) (oi := { dst := some 138, op := Go.Op.binOp Go.BinOp.and 23 (Go.Operand.tmp 137) (Go.Operand.const (Go.Value.int Go.IntKind.u16 16383)) 23, type := 23, pos := "law.go:74", after := #[{ on := 10, ground := Go.Ground.data }], guard := none }) (v := ?v9_1) rfl (by kernel_rfl) (by kernel_rfl) (by kernel_rfl) (fun _ _ _ h => h) (Or.inl ⟨by rfl, ?y9_1⟩) (by assumption) ?z9_1
              case y9_1 => (intro w hSw; (try dsimp only at hSw); go_simp) <;> with_reducible rfl
              try simp only [Act.put, List.setIfInBounds_toArray, List.set_cons_zero, List.set_cons_succ]
              refine wpAnyH_take (i := 12) (oi := { dst := some 139, op := Go.Op.convert 23 3 (Go.Operand.tmp 138), type := 3, pos := "law.go:74", after := #[{ on := 11, ground := Go.Ground.data }], guard := none }) (v := ?v10_1) rfl (by kernel_rfl) (by kernel_rfl) (by kernel_rfl) (fun _ _ _ h => h) (Or.inl ⟨by rfl, ?y10_1⟩) (by assumption) ?z10_1
              case y10_1 => (intro w hSw; (try dsimp only at hSw); go_simp) <;> with_reducible rfl
              try simp only [Act.put, List.setIfInBounds_toArray, List.set_cons_zero, List.set_cons_succ]
              refine wpAnyH_take (i := 13) (oi := { dst := some 140, op := Go.Op.binOp Go.BinOp.sub 3 (Go.Operand.tmp 136) (Go.Operand.tmp 139) 3, type := 3, pos := "law.go:74", after := #[{ on := 9, ground := Go.Ground.data }, { on := 12, ground := Go.Ground.data }], guard := none }) (v := ?v11_1) rfl (by kernel_rfl) (by kernel_rfl) (by kernel_rfl) (fun _ _ _ h => h) (Or.inl ⟨by rfl, ?y11_1⟩) (by assumption) ?z11_1
              case y11_1 => (intro w hSw; (try dsimp only at hSw); go_simp) <;> with_reducible rfl
              try simp only [Act.put, List.setIfInBounds_toArray, List.set_cons_zero, List.set_cons_succ]
              refine wpAnyH_ready (rs := [2]) (by kernel_rfl) (by simp) ?_
              refine (AllReadyH.cons (o := { dst := some 129, op := Go.Op.call { callee := Go.Callee.value (Go.Operand.func 21), args := #[Go.Operand.tmp 127, Go.Operand.tmp 128], argTypes := #[29, 23] }, type := 3, pos := "law.go:74", after := #[{ on := 0, ground := Go.Ground.data }, { on := 1, ground := Go.Ground.data }], guard := none }) rfl (fun K hK => ?_) AllReadyH.nil)
              · skip
                go_simp
                with_reducible refine (RN.out _).mono ?_
                rintro e u7 ⟨rfl, hb⟩
                have TB7 := Lib.hid (via TB6.out hb)
                have TM7 := Lib.hid (TM6.out.below hb)
                have TP7 := Lib.hid (TP6.out.below hb)
                clear hb
                refine hK.out _ _ ?s12_1 (fun hNew => ?r12_1)
                case s12_1 => exact ⟨TM7.out.2.1, trivial⟩
                clear hK K hHeld
                have hHeld := hNew
                clear hNew
                refine wpAnyH_ready (rs := [5]) (by kernel_rfl) (by simp) ?_
                refine (AllReadyH.cons (o := { dst := some 132, op := Go.Op.call { callee := Go.Callee.value (Go.Operand.func 21), args := #[Go.Operand.tmp 130, Go.Operand.tmp 131], argTypes := #[29, 23] }, type := 3, pos := "law.go:74", after := #[{ on := 3, ground := Go.Ground.data }, { on := 4, ground := Go.Ground.data }, { on := 2, ground := Go.Ground.chain }], guard := none }) rfl (fun K hK => ?_) AllReadyH.nil)
                · skip
                  go_simp
                  with_reducible refine (RA.out _).mono ?_
                  rintro e u8 ⟨rfl, hb⟩
                  have TB8 := Lib.hid (via TB7.out hb)
                  have TM8 := Lib.hid (TM7.out.below hb)
                  have TP8 := Lib.hid (TP7.out.below hb)
                  clear hb
                  refine hK.out _ _ ?s13_1 (fun hNew => ?r13_1)
                  case s13_1 => exact ⟨TM8.out.2.1, trivial⟩
                  clear hK K hHeld
                  have hHeld := hNew
                  clear hNew
                  refine wpAnyH_take (i := 6) (oi := { dst := some 133, op := Go.Op.binOp Go.BinOp.sub 3 (Go.Operand.tmp 129) (Go.Operand.tmp 132) 3, type := 3, pos := "law.go:74", after := #[{ on := 2, ground := Go.Ground.data }, { on := 5, ground := Go.Ground.data }], guard := none }) (v := ?v14_1) rfl (by kernel_rfl) (by kernel_rfl) (by kernel_rfl) (fun _ _ _ h => h) (Or.inl ⟨by rfl, ?y14_1⟩) (by assumption) ?z14_1
                  case y14_1 => (intro w hSw; (try dsimp only at hSw); go_simp) <;> with_reducible rfl
                  try simp only [Act.put, List.setIfInBounds_toArray, List.set_cons_zero, List.set_cons_succ]
                  refine wpAnyH_take (i := 14) (oi := { dst := some 141, op := Go.Op.binOp Go.BinOp.neq 3 (Go.Operand.tmp 133) (Go.Operand.tmp 140) 3, type := 4, pos := "law.go:74", after := #[{ on := 6, ground := Go.Ground.data }, { on := 13, ground := Go.Ground.data }], guard := none }) (v := ?v15_1) rfl (by kernel_rfl) (by kernel_rfl) (by kernel_rfl) (fun _ _ _ h => h) (Or.inl ⟨by rfl, ?y15_1⟩) (by assumption) ?z15_1
                  case y15_1 => (intro w hSw; (try dsimp only at hSw); go_simp) <;> with_reducible rfl
                  try simp only [Act.put, List.setIfInBounds_toArray, List.set_cons_zero, List.set_cons_succ]
                  refine wpAnyH_done (by kernel_rfl) ?_ _
                  clear hHeld
                  go_wp2
                  go_roundg (gk - 1)
                  exact ⟨t + 1, m', by omega, by have := TG.out; omega, by simp, OK'.out, MN'.out, MR'.out, TB8.out, TM8.out, TP8.out⟩
                  case measure => have := TG.out; omega
            · subst f1
              subst f2
              subst f3
              go_upto_region 15 with (fail)
              have TB6 := Lib.hid TB5.out.drew
              have TM6 := Lib.hid TM5.out.drew
              have TP6 := Lib.hid TP5.out.drew
              clear hcp
              refine wp_region_held_drew (S := (fun w' => (∀ o, w'.cell? ⟨h, o, none⟩ = #[.int .i64 m'.k, .int .i64 m'.n, .int .i64 m'.r, .bool m'.on, .bool m'.mo, .int .i64 m'.lo, .int .i64 m'.hi, .int .u8 m'.la][o]?) ∧ True)) (by kernel_rfl) ⟨TM6.out.2.1, trivial⟩ (fun hHeld => ?_)
              generalize World.drew u5 = u6 at hHeld TB6 TM6 TP6 ⊢
              refine wpAnyH_take (i := 0) (oi := { dst := some 127, op := Go.Op.load 29 (Go.Operand.tmp 14), type := 29, pos := "law.go:74", after := #[], guard := none }) (v := ?v1_2) rfl (by kernel_rfl) (by kernel_rfl) (by kernel_rfl) (fun _ _ _ h => h) (Or.inl ⟨by rfl, ?y1_2⟩) (by assumption) ?z1_2
              case y1_2 => (intro w hSw; (try dsimp only at hSw); go_simp) <;> with_reducible rfl
              try simp only [Act.put, List.setIfInBounds_toArray, List.set_cons_zero, List.set_cons_succ]
              refine wpAnyH_take (i := 1) (oi := { dst := some 128, op := Go.Op.move (Go.Operand.tmp 21), type := 23, pos := "law.go:74", after := #[], guard := none }) (v := ?v2_2) rfl (by kernel_rfl) (by kernel_rfl) (by kernel_rfl) (fun _ _ _ h => h) (Or.inl ⟨by rfl, ?y2_2⟩) (by assumption) ?z2_2
              case y2_2 => (intro w hSw; (try dsimp only at hSw); go_simp) <;> with_reducible rfl
              try simp only [Act.put, List.setIfInBounds_toArray, List.set_cons_zero, List.set_cons_succ]
              refine wpAnyH_take (i := 3) (oi := { dst := some 130, op := Go.Op.load 29 (Go.Operand.tmp 14), type := 29, pos := "law.go:74", after := #[], guard := none }) (v := ?v3_2) rfl (by kernel_rfl) (by kernel_rfl) (by kernel_rfl) (fun _ _ _ h => h) (Or.inl ⟨by rfl, ?y3_2⟩) (by assumption) ?z3_2
              case y3_2 => (intro w hSw; (try dsimp only at hSw); go_simp) <;> with_reducible rfl
              try simp only [Act.put, List.setIfInBounds_toArray, List.set_cons_zero, List.set_cons_succ]
              refine wpAnyH_take (i := 4) (oi := { dst := some 131, op := Go.Op.move (Go.Operand.tmp 4), type := 23, pos := "law.go:74", after := #[], guard := none }) (v := ?v4_2) rfl (by kernel_rfl) (by kernel_rfl) (by kernel_rfl) (fun _ _ _ h => h) (Or.inl ⟨by rfl, ?y4_2⟩) (by assumption) ?z4_2
              case y4_2 => (intro w hSw; (try dsimp only at hSw); go_simp) <;> with_reducible rfl
              try simp only [Act.put, List.setIfInBounds_toArray, List.set_cons_zero, List.set_cons_succ]
              refine wpAnyH_take (i := 7) (oi := { dst := some 134, op := Go.Op.move (Go.Operand.tmp 21), type := 23, pos := "law.go:74", after := #[], guard := none }) (v := ?v5_2) rfl (by kernel_rfl) (by kernel_rfl) (by kernel_rfl) (fun _ _ _ h => h) (Or.inl ⟨by rfl, ?y5_2⟩) (by assumption) ?z5_2
              case y5_2 => (intro w hSw; (try dsimp only at hSw); go_simp) <;> with_reducible rfl
              try simp only [Act.put, List.setIfInBounds_toArray, List.set_cons_zero, List.set_cons_succ]
              refine wpAnyH_take (i := 8) (oi := { dst := some 135, op := Go.Op.binOp Go.BinOp.and 23 (Go.Operand.tmp 134) (Go.Operand.const (Go.Value.int Go.IntKind.u16 16383)) 23, type := 23, pos := "law.go:74", after := #[{ on := 7, ground := Go.Ground.data }], guard := none }) (v := ?v6_2) rfl (by kernel_rfl) (by kernel_rfl) (by kernel_rfl) (fun _ _ _ h => h) (Or.inl ⟨by rfl, ?y6_2⟩) (by assumption) ?z6_2
              case y6_2 => (intro w hSw; (try dsimp only at hSw); go_simp) <;> with_reducible rfl
              try simp only [Act.put, List.setIfInBounds_toArray, List.set_cons_zero, List.set_cons_succ]
              refine wpAnyH_take (i := 9) (oi := { dst := some 136, op := Go.Op.convert 23 3 (Go.Operand.tmp 135), type := 3, pos := "law.go:74", after := #[{ on := 8, ground := Go.Ground.data }], guard := none }) (v := ?v7_2) rfl (by kernel_rfl) (by kernel_rfl) (by kernel_rfl) (fun _ _ _ h => h) (Or.inl ⟨by rfl, ?y7_2⟩) (by assumption) ?z7_2
              case y7_2 => (intro w hSw; (try dsimp only at hSw); go_simp) <;> with_reducible rfl
              try simp only [Act.put, List.setIfInBounds_toArray, List.set_cons_zero, List.set_cons_succ]
              refine wpAnyH_take (i := 10) (oi := { dst := some 137, op := Go.Op.move (Go.Operand.tmp 4), type := 23, pos := "law.go:74", after := #[], guard := none }) (v := ?v8_2) rfl (by kernel_rfl) (by kernel_rfl) (by kernel_rfl) (fun _ _ _ h => h) (Or.inl ⟨by rfl, ?y8_2⟩) (by assumption) ?z8_2
              case y8_2 => (intro w hSw; (try dsimp only at hSw); go_simp) <;> with_reducible rfl
              try simp only [Act.put, List.setIfInBounds_toArray, List.set_cons_zero, List.set_cons_succ]
              refine wpAnyH_take (i := 11) (oi := { dst := some 138, op := Go.Op.binOp Go.BinOp.and 23 (Go.Operand.tmp 137) (Go.Operand.const (Go.Value.int Go.IntKind.u16 16383)) 23, type := 23, pos := "law.go:74", after := #[{ on := 10, ground := Go.Ground.data }], guard := none }) (v := ?v9_2) rfl (by kernel_rfl) (by kernel_rfl) (by kernel_rfl) (fun _ _ _ h => h) (Or.inl ⟨by rfl, ?y9_2⟩) (by assumption) ?z9_2
              case y9_2 => (intro w hSw; (try dsimp only at hSw); go_simp) <;> with_reducible rfl
              try simp only [Act.put, List.setIfInBounds_toArray, List.set_cons_zero, List.set_cons_succ]
              refine wpAnyH_take (i := 12) (oi := { dst := some 139, op := Go.Op.convert 23 3 (Go.Operand.tmp 138), type := 3, pos := "law.go:74", after := #[{ on := 11, ground := Go.Ground.data }], guard := none }) (v := ?v10_2) rfl (by kernel_rfl) (by kernel_rfl) (by kernel_rfl) (fun _ _ _ h => h) (Or.inl ⟨by rfl, ?y10_2⟩) (by assumption) ?z10_2
              case y10_2 => (intro w hSw; (try dsimp only at hSw); go_simp) <;> with_reducible rfl
              try simp only [Act.put, List.setIfInBounds_toArray, List.set_cons_zero, List.set_cons_succ]
              refine wpAnyH_take (i := 13) (oi := { dst := some 140, op := Go.Op.binOp Go.BinOp.sub 3 (Go.Operand.tmp 136) (Go.Operand.tmp 139) 3, type := 3, pos := "law.go:74", after := #[{ on := 9, ground := Go.Ground.data }, { on := 12, ground := Go.Ground.data }], guard := none }) (v := ?v11_2) rfl (by kernel_rfl) (by kernel_rfl) (by kernel_rfl) (fun _ _ _ h => h) (Or.inl ⟨by rfl, ?y11_2⟩) (by assumption) ?z11_2
              case y11_2 => (intro w hSw; (try dsimp only at hSw); go_simp) <;> with_reducible rfl
              try simp only [Act.put, List.setIfInBounds_toArray, List.set_cons_zero, List.set_cons_succ]
              refine wpAnyH_ready (rs := [2]) (by kernel_rfl) (by simp) ?_
              refine (AllReadyH.cons (o := { dst := some 129, op := Go.Op.call { callee := Go.Callee.value (Go.Operand.func 21), args := #[Go.Operand.tmp 127, Go.Operand.tmp 128], argTypes := #[29, 23] }, type := 3, pos := "law.go:74", after := #[{ on := 0, ground := Go.Ground.data }, { on := 1, ground := Go.Ground.data }], guard := none }) rfl (fun K hK => ?_) AllReadyH.nil)
              · skip
                go_simp
                with_reducible refine (RN.out _).mono ?_
                rintro e u7 ⟨rfl, hb⟩
                have TB7 := Lib.hid (via TB6.out hb)
                have TM7 := Lib.hid (TM6.out.below hb)
                have TP7 := Lib.hid (TP6.out.below hb)
                clear hb
                refine hK.out _ _ ?s12_2 (fun hNew => ?r12_2)
                case s12_2 => exact ⟨TM7.out.2.1, trivial⟩
                clear hK K hHeld
                have hHeld := hNew
                clear hNew
                refine wpAnyH_ready (rs := [5]) (by kernel_rfl) (by simp) ?_
                refine (AllReadyH.cons (o := { dst := some 132, op := Go.Op.call { callee := Go.Callee.value (Go.Operand.func 21), args := #[Go.Operand.tmp 130, Go.Operand.tmp 131], argTypes := #[29, 23] }, type := 3, pos := "law.go:74", after := #[{ on := 3, ground := Go.Ground.data }, { on := 4, ground := Go.Ground.data }, { on := 2, ground := Go.Ground.chain }], guard := none }) rfl (fun K hK => ?_) AllReadyH.nil)
                · skip
                  go_simp
                  with_reducible refine (RA.out _).mono ?_
                  rintro e u8 ⟨rfl, hb⟩
                  have TB8 := Lib.hid (via TB7.out hb)
                  have TM8 := Lib.hid (TM7.out.below hb)
                  have TP8 := Lib.hid (TP7.out.below hb)
                  clear hb
                  refine hK.out _ _ ?s13_2 (fun hNew => ?r13_2)
                  case s13_2 => exact ⟨TM8.out.2.1, trivial⟩
                  clear hK K hHeld
                  have hHeld := hNew
                  clear hNew
                  refine wpAnyH_take (i := 6) (oi := { dst := some 133, op := Go.Op.binOp Go.BinOp.sub 3 (Go.Operand.tmp 129) (Go.Operand.tmp 132) 3, type := 3, pos := "law.go:74", after := #[{ on := 2, ground := Go.Ground.data }, { on := 5, ground := Go.Ground.data }], guard := none }) (v := ?v14_2) rfl (by kernel_rfl) (by kernel_rfl) (by kernel_rfl) (fun _ _ _ h => h) (Or.inl ⟨by rfl, ?y14_2⟩) (by assumption) ?z14_2
                  case y14_2 => (intro w hSw; (try dsimp only at hSw); go_simp) <;> with_reducible rfl
                  try simp only [Act.put, List.setIfInBounds_toArray, List.set_cons_zero, List.set_cons_succ]
                  refine wpAnyH_take (i := 14) (oi := { dst := some 141, op := Go.Op.binOp Go.BinOp.neq 3 (Go.Operand.tmp 133) (Go.Operand.tmp 140) 3, type := 4, pos := "law.go:74", after := #[{ on := 6, ground := Go.Ground.data }, { on := 13, ground := Go.Ground.data }], guard := none }) (v := ?v15_2) rfl (by kernel_rfl) (by kernel_rfl) (by kernel_rfl) (fun _ _ _ h => h) (Or.inl ⟨by rfl, ?y15_2⟩) (by assumption) ?z15_2
                  case y15_2 => (intro w hSw; (try dsimp only at hSw); go_simp) <;> with_reducible rfl
                  try simp only [Act.put, List.setIfInBounds_toArray, List.set_cons_zero, List.set_cons_succ]
                  refine wpAnyH_done (by kernel_rfl) ?_ _
                  clear hHeld
                  go_wp2
                  go_roundg (gk - 1)
                  exact ⟨t + 1, m', by omega, by have := TG.out; omega, by simp, OK'.out, MN'.out, MR'.out, TB8.out, TM8.out, TP8.out⟩
                  case measure => have := TG.out; omega
            · subst f1
              subst f2
              subst f3
              go_upto_region 15 with (fail)
              have TB6 := Lib.hid TB5.out.drew
              have TM6 := Lib.hid TM5.out.drew
              have TP6 := Lib.hid TP5.out.drew
              clear hcp
              refine wp_region_held_drew (S := (fun w' => (∀ o, w'.cell? ⟨h, o, none⟩ = #[.int .i64 m'.k, .int .i64 m'.n, .int .i64 m'.r, .bool m'.on, .bool m'.mo, .int .i64 m'.lo, .int .i64 m'.hi, .int .u8 m'.la][o]?) ∧ True)) (by kernel_rfl) ⟨TM6.out.2.1, trivial⟩ (fun hHeld => ?_)
              generalize World.drew u5 = u6 at hHeld TB6 TM6 TP6 ⊢
              refine wpAnyH_take (i := 0) (oi := { dst := some 127, op := Go.Op.load 29 (Go.Operand.tmp 14), type := 29, pos := "law.go:74", after := #[], guard := none }) (v := ?v1_3) rfl (by kernel_rfl) (by kernel_rfl) (by kernel_rfl) (fun _ _ _ h => h) (Or.inl ⟨by rfl, ?y1_3⟩) (by assumption) ?z1_3
              case y1_3 => (intro w hSw; (try dsimp only at hSw); go_simp) <;> with_reducible rfl
              try simp only [Act.put, List.setIfInBounds_toArray, List.set_cons_zero, List.set_cons_succ]
              refine wpAnyH_take (i := 1) (oi := { dst := some 128, op := Go.Op.move (Go.Operand.tmp 21), type := 23, pos := "law.go:74", after := #[], guard := none }) (v := ?v2_3) rfl (by kernel_rfl) (by kernel_rfl) (by kernel_rfl) (fun _ _ _ h => h) (Or.inl ⟨by rfl, ?y2_3⟩) (by assumption) ?z2_3
              case y2_3 => (intro w hSw; (try dsimp only at hSw); go_simp) <;> with_reducible rfl
              try simp only [Act.put, List.setIfInBounds_toArray, List.set_cons_zero, List.set_cons_succ]
              refine wpAnyH_take (i := 3) (oi := { dst := some 130, op := Go.Op.load 29 (Go.Operand.tmp 14), type := 29, pos := "law.go:74", after := #[], guard := none }) (v := ?v3_3) rfl (by kernel_rfl) (by kernel_rfl) (by kernel_rfl) (fun _ _ _ h => h) (Or.inl ⟨by rfl, ?y3_3⟩) (by assumption) ?z3_3
              case y3_3 => (intro w hSw; (try dsimp only at hSw); go_simp) <;> with_reducible rfl
              try simp only [Act.put, List.setIfInBounds_toArray, List.set_cons_zero, List.set_cons_succ]
              refine wpAnyH_take (i := 4) (oi := { dst := some 131, op := Go.Op.move (Go.Operand.tmp 4), type := 23, pos := "law.go:74", after := #[], guard := none }) (v := ?v4_3) rfl (by kernel_rfl) (by kernel_rfl) (by kernel_rfl) (fun _ _ _ h => h) (Or.inl ⟨by rfl, ?y4_3⟩) (by assumption) ?z4_3
              case y4_3 => (intro w hSw; (try dsimp only at hSw); go_simp) <;> with_reducible rfl
              try simp only [Act.put, List.setIfInBounds_toArray, List.set_cons_zero, List.set_cons_succ]
              refine wpAnyH_take (i := 7) (oi := { dst := some 134, op := Go.Op.move (Go.Operand.tmp 21), type := 23, pos := "law.go:74", after := #[], guard := none }) (v := ?v5_3) rfl (by kernel_rfl) (by kernel_rfl) (by kernel_rfl) (fun _ _ _ h => h) (Or.inl ⟨by rfl, ?y5_3⟩) (by assumption) ?z5_3
              case y5_3 => (intro w hSw; (try dsimp only at hSw); go_simp) <;> with_reducible rfl
              try simp only [Act.put, List.setIfInBounds_toArray, List.set_cons_zero, List.set_cons_succ]
              refine wpAnyH_take (i := 8) (oi := { dst := some 135, op := Go.Op.binOp Go.BinOp.and 23 (Go.Operand.tmp 134) (Go.Operand.const (Go.Value.int Go.IntKind.u16 16383)) 23, type := 23, pos := "law.go:74", after := #[{ on := 7, ground := Go.Ground.data }], guard := none }) (v := ?v6_3) rfl (by kernel_rfl) (by kernel_rfl) (by kernel_rfl) (fun _ _ _ h => h) (Or.inl ⟨by rfl, ?y6_3⟩) (by assumption) ?z6_3
              case y6_3 => (intro w hSw; (try dsimp only at hSw); go_simp) <;> with_reducible rfl
              try simp only [Act.put, List.setIfInBounds_toArray, List.set_cons_zero, List.set_cons_succ]
              refine wpAnyH_take (i := 9) (oi := { dst := some 136, op := Go.Op.convert 23 3 (Go.Operand.tmp 135), type := 3, pos := "law.go:74", after := #[{ on := 8, ground := Go.Ground.data }], guard := none }) (v := ?v7_3) rfl (by kernel_rfl) (by kernel_rfl) (by kernel_rfl) (fun _ _ _ h => h) (Or.inl ⟨by rfl, ?y7_3⟩) (by assumption) ?z7_3
              case y7_3 => (intro w hSw; (try dsimp only at hSw); go_simp) <;> with_reducible rfl
              try simp only [Act.put, List.setIfInBounds_toArray, List.set_cons_zero, List.set_cons_succ]
              refine wpAnyH_take (i := 10) (oi := { dst := some 137, op := Go.Op.move (Go.Operand.tmp 4), type := 23, pos := "law.go:74", after := #[], guard := none }) (v := ?v8_3) rfl (by kernel_rfl) (by kernel_rfl) (by kernel_rfl) (fun _ _ _ h => h) (Or.inl ⟨by rfl, ?y8_3⟩) (by assumption) ?z8_3
              case y8_3 => (intro w hSw; (try dsimp only at hSw); go_simp) <;> with_reducible rfl
              try simp only [Act.put, List.setIfInBounds_toArray, List.set_cons_zero, List.set_cons_succ]
              refine wpAnyH_take (i := 11) (oi := { dst := some 138, op := Go.Op.binOp Go.BinOp.and 23 (Go.Operand.tmp 137) (Go.Operand.const (Go.Value.int Go.IntKind.u16 16383)) 23, type := 23, pos := "law.go:74", after := #[{ on := 10, ground := Go.Ground.data }], guard := none }) (v := ?v9_3) rfl (by kernel_rfl) (by kernel_rfl) (by kernel_rfl) (fun _ _ _ h => h) (Or.inl ⟨by rfl, ?y9_3⟩) (by assumption) ?z9_3
              case y9_3 => (intro w hSw; (try dsimp only at hSw); go_simp) <;> with_reducible rfl
              try simp only [Act.put, List.setIfInBounds_toArray, List.set_cons_zero, List.set_cons_succ]
              refine wpAnyH_take (i := 12) (oi := { dst := some 139, op := Go.Op.convert 23 3 (Go.Operand.tmp 138), type := 3, pos := "law.go:74", after := #[{ on := 11, ground := Go.Ground.data }], guard := none }) (v := ?v10_3) rfl (by kernel_rfl) (by kernel_rfl) (by kernel_rfl) (fun _ _ _ h => h) (Or.inl ⟨by rfl, ?y10_3⟩) (by assumption) ?z10_3
              case y10_3 => (intro w hSw; (try dsimp only at hSw); go_simp) <;> with_reducible rfl
              try simp only [Act.put, List.setIfInBounds_toArray, List.set_cons_zero, List.set_cons_succ]
              refine wpAnyH_take (i := 13) (oi := { dst := some 140, op := Go.Op.binOp Go.BinOp.sub 3 (Go.Operand.tmp 136) (Go.Operand.tmp 139) 3, type := 3, pos := "law.go:74", after := #[{ on := 9, ground := Go.Ground.data }, { on := 12, ground := Go.Ground.data }], guard := none }) (v := ?v11_3) rfl (by kernel_rfl) (by kernel_rfl) (by kernel_rfl) (fun _ _ _ h => h) (Or.inl ⟨by rfl, ?y11_3⟩) (by assumption) ?z11_3
              case y11_3 => (intro w hSw; (try dsimp only at hSw); go_simp) <;> with_reducible rfl
              try simp only [Act.put, List.setIfInBounds_toArray, List.set_cons_zero, List.set_cons_succ]
              refine wpAnyH_ready (rs := [2]) (by kernel_rfl) (by simp) ?_
              refine (AllReadyH.cons (o := { dst := some 129, op := Go.Op.call { callee := Go.Callee.value (Go.Operand.func 21), args := #[Go.Operand.tmp 127, Go.Operand.tmp 128], argTypes := #[29, 23] }, type := 3, pos := "law.go:74", after := #[{ on := 0, ground := Go.Ground.data }, { on := 1, ground := Go.Ground.data }], guard := none }) rfl (fun K hK => ?_) AllReadyH.nil)
              · skip
                go_simp
                with_reducible refine (RN.out _).mono ?_
                rintro e u7 ⟨rfl, hb⟩
                have TB7 := Lib.hid (via TB6.out hb)
                have TM7 := Lib.hid (TM6.out.below hb)
                have TP7 := Lib.hid (TP6.out.below hb)
                clear hb
                refine hK.out _ _ ?s12_3 (fun hNew => ?r12_3)
                case s12_3 => exact ⟨TM7.out.2.1, trivial⟩
                clear hK K hHeld
                have hHeld := hNew
                clear hNew
                refine wpAnyH_ready (rs := [5]) (by kernel_rfl) (by simp) ?_
                refine (AllReadyH.cons (o := { dst := some 132, op := Go.Op.call { callee := Go.Callee.value (Go.Operand.func 21), args := #[Go.Operand.tmp 130, Go.Operand.tmp 131], argTypes := #[29, 23] }, type := 3, pos := "law.go:74", after := #[{ on := 3, ground := Go.Ground.data }, { on := 4, ground := Go.Ground.data }, { on := 2, ground := Go.Ground.chain }], guard := none }) rfl (fun K hK => ?_) AllReadyH.nil)
                · skip
                  go_simp
                  with_reducible refine (RA.out _).mono ?_
                  rintro e u8 ⟨rfl, hb⟩
                  have TB8 := Lib.hid (via TB7.out hb)
                  have TM8 := Lib.hid (TM7.out.below hb)
                  have TP8 := Lib.hid (TP7.out.below hb)
                  clear hb
                  refine hK.out _ _ ?s13_3 (fun hNew => ?r13_3)
                  case s13_3 => exact ⟨TM8.out.2.1, trivial⟩
                  clear hK K hHeld
                  have hHeld := hNew
                  clear hNew
                  refine wpAnyH_take (i := 6) (oi := { dst := some 133, op := Go.Op.binOp Go.BinOp.sub 3 (Go.Operand.tmp 129) (Go.Operand.tmp 132) 3, type := 3, pos := "law.go:74", after := #[{ on := 2, ground := Go.Ground.data }, { on := 5, ground := Go.Ground.data }], guard := none }) (v := ?v14_3) rfl (by kernel_rfl) (by kernel_rfl) (by kernel_rfl) (fun _ _ _ h => h) (Or.inl ⟨by rfl, ?y14_3⟩) (by assumption) ?z14_3
                  case y14_3 => (intro w hSw; (try dsimp only at hSw); go_simp) <;> with_reducible rfl
                  try simp only [Act.put, List.setIfInBounds_toArray, List.set_cons_zero, List.set_cons_succ]
                  refine wpAnyH_take (i := 14) (oi := { dst := some 141, op := Go.Op.binOp Go.BinOp.neq 3 (Go.Operand.tmp 133) (Go.Operand.tmp 140) 3, type := 4, pos := "law.go:74", after := #[{ on := 6, ground := Go.Ground.data }, { on := 13, ground := Go.Ground.data }], guard := none }) (v := ?v15_3) rfl (by kernel_rfl) (by kernel_rfl) (by kernel_rfl) (fun _ _ _ h => h) (Or.inl ⟨by rfl, ?y15_3⟩) (by assumption) ?z15_3
                  case y15_3 => (intro w hSw; (try dsimp only at hSw); go_simp) <;> with_reducible rfl
                  try simp only [Act.put, List.setIfInBounds_toArray, List.set_cons_zero, List.set_cons_succ]
                  refine wpAnyH_done (by kernel_rfl) ?_ _
                  clear hHeld
                  go_wp2
                  go_roundg (gk - 1)
                  exact ⟨t + 1, m', by omega, by have := TG.out; omega, by simp, OK'.out, MN'.out, MR'.out, TB8.out, TM8.out, TP8.out⟩
                  case measure => have := TG.out; omega
    · have et : t = n := by omega
      subst et
      go_wp2
      go_ret
      exact ⟨rfl, TB.out⟩
theorem there_walk (k b r : Nat) (v : Value) (at_ by_ : Int) (hk : k < 256) (hb : b < 256) (hr : r < 256) (ha0 : 0 ≤ at_) (haI : at_ < 65536) (hb0 : 0 ≤ by_) (hbI : by_ < 65536) (w : World) (h : PkIn w v) : Calls Try.prog 4 #[.int .u8 k, .int .u8 b, .int .u8 r, v, .int .u16 at_, .int .u16 by_] w fun e w' => e = .returned (.bool true) ∧ Below w.heap.size w w' := by
  obtain ⟨a, n, c, rfl, hm, f, g, hf, hg, hin⟩ := h
  by_cases h0 : 100 < n
  · exact there_long k b r at_ by_ a n c h0 w
  · exact there_some k b r at_ by_ hk hb hr ha0 haI hb0 hbI a n c h0 f g hf hg w hin
end Go.Proofs.Ytafmmffgenolaaa
