/-
  header.Parse: for every world in which the bytes and the two tables lie as told; its condition: fewer than 2^31 bytes.
-/
import Derived.Test.YtifhajdcfjiaiaaDoorTit
import Derived.Test.YtifhajdcfjiaiaaDoorMap
import Derived.Deep.Cut
import Derived.StillTailTactics
namespace Go.Proofs.YtifhajdcfjiaiaaDoor
open Go.ChangeShapes Go.WideShapes Go.ChangeAt Go.RowKit
set_option linter.unusedVariables false
set_option maxRecDepth 100000
structure Glob (w : World) : Prop where
  bk : ∀ i : Nat, i < 9 → w.cell? ⟨0, i, none⟩ = some (.int .i64 (bankV i))
  rm : ∀ i : Nat, i < 6 → w.cell? ⟨1, i, none⟩ = some (.int .i64 (ramT i))
  lt : 1 < w.heap.size
theorem Glob.below {w w' : World} (h : Glob w) (hb : Below w.heap.size w w') : Glob w' :=
  ⟨fun i hi => (hb.cell (p := ⟨0, i, none⟩) (by have := h.lt; show 0 < _; omega)).trans (h.bk i hi), fun i hi => (hb.cell (p := ⟨1, i, none⟩) (by have := h.lt; show 1 < _; omega)).trans (h.rm i hi), Nat.lt_of_lt_of_le h.lt hb.size⟩
def PE (h : HV) (x : Int) (w : World) (e : Ending) (w' : World) : Prop := e = .returned (.tuple #[.agg h.cells, .int .i64 x]) ∧ Below w.heap.size w w'
theorem Has.put7 {w : World} {b : Nat} {a0 a1 a2 a3 a4 a5 a6 : Value} (h : Has w b #[a0, a1, a2, a3, a4, a5, a6]) (v0 v1 v2 v3 v4 v5 v6 : Value) : Has (World.setCell (World.setCell (World.setCell (World.setCell (World.setCell (World.setCell (World.setCell w ⟨b, 0, none⟩ (v0)) ⟨b, 1, none⟩ (v1)) ⟨b, 2, none⟩ (v2)) ⟨b, 3, none⟩ (v3)) ⟨b, 4, none⟩ (v4)) ⟨b, 5, none⟩ (v5)) ⟨b, 6, none⟩ (v6)) b #[v0, v1, v2, v3, v4, v5, v6] := by
  have := ((((((h.set 0 v0 (by simp)).set 1 v1 (by simp)).set 2 v2 (by simp)).set 3 v3 (by simp)).set 4 v4 (by simp)).set 5 v5 (by simp)).set 6 v6 (by simp)
  simpa using this
theorem Has.fput7 {w : World} {r b : Nat} {A : Array Value} (h : Has w r A) (hn : r ≠ b) (v0 v1 v2 v3 v4 v5 v6 : Value) : Has (World.setCell (World.setCell (World.setCell (World.setCell (World.setCell (World.setCell (World.setCell w ⟨b, 0, none⟩ (v0)) ⟨b, 1, none⟩ (v1)) ⟨b, 2, none⟩ (v2)) ⟨b, 3, none⟩ (v3)) ⟨b, 4, none⟩ (v4)) ⟨b, 5, none⟩ (v5)) ⟨b, 6, none⟩ (v6)) r A :=
  ((((((h.far ⟨b, 0, none⟩ v0 (fun e => hn e.symm)).far ⟨b, 1, none⟩ v1 (fun e => hn e.symm)).far ⟨b, 2, none⟩ v2 (fun e => hn e.symm)).far ⟨b, 3, none⟩ v3 (fun e => hn e.symm)).far ⟨b, 4, none⟩ v4 (fun e => hn e.symm)).far ⟨b, 5, none⟩ v5 (fun e => hn e.symm)).far ⟨b, 6, none⟩ v6 (fun e => hn e.symm)
theorem bput7 {B : Nat} {w0 w : World} {b : Nat} (h : Below B w0 w) (hb : B ≤ b) (v0 v1 v2 v3 v4 v5 v6 : Value) : Below B w0 (World.setCell (World.setCell (World.setCell (World.setCell (World.setCell (World.setCell (World.setCell w ⟨b, 0, none⟩ (v0)) ⟨b, 1, none⟩ (v1)) ⟨b, 2, none⟩ (v2)) ⟨b, 3, none⟩ (v3)) ⟨b, 4, none⟩ (v4)) ⟨b, 5, none⟩ (v5)) ⟨b, 6, none⟩ (v6)) :=
  ((((((h.setCell (p := ⟨b, 0, none⟩) hb v0).setCell (p := ⟨b, 1, none⟩) hb v1).setCell (p := ⟨b, 2, none⟩) hb v2).setCell (p := ⟨b, 3, none⟩) hb v3).setCell (p := ⟨b, 4, none⟩) hb v4).setCell (p := ⟨b, 5, none⟩) hb v5).setCell (p := ⟨b, 6, none⟩) hb v6
theorem look_run' (w : World) (b : Nat) (x : Int) (m : HV) (m0 : Bool) (hm : mapH x = m ∧ mapB x = m0) (h : MapAt w b mapL) (h0 : 0 ≤ x) (h1 : x < 256) : (Instr.lookup 49 (.map (some b)) (.int .u8 x) true).run Tryd.prog w = .ok (.tuple #[.agg #[.string m.t, .int .i64 m.k, .bool m.c, .bool m.b, .int .i64 m.n, .int .i64 m.r, .bool m.w], .bool m0]) w := by
  rw [look_run w b x h h0 h1, hm.1, hm.2]; rfl
theorem perr_of (n : Nat) (f : Nat → Int) (h0 : 336 ≤ n) (hs : f 333 = chk f 25) : perr n f = if kindV (f 327) < 0 then 5 else if 8 < f 328 ∨ 5 < f 329 then 7 else if (n : Int) ≠ bankV (f 328) * 16384 then 6 else 0 := by
  unfold perr
  rw [if_neg (by omega), if_neg (by rw [hs]; simp)]
theorem par_kind (n : Nat) (f : Nat → Int) (hp : perr n f = if kindV (f 327) < 0 then 5 else if 8 < f 328 ∨ 5 < f 329 then 7 else if (n : Int) ≠ bankV (f 328) * 16384 then 6 else 0) (hk : mapB (f 327) = false) : perr n f = 5 ∧ parV n f = noH := by
  have e : perr n f = 5 := by rw [hp, if_pos (by unfold mapB at hk; simpa using hk)]
  exact ⟨e, by unfold parV; rw [if_neg (by rw [e]; decide)]⟩
theorem or16 (h l : Int) (h1 : 0 ≤ h) (h2 : h < 256) (h3 : 0 ≤ l) (h4 : l < 256) : bits .or .u16 (h * 256) l = h * 256 + l := by
  rw [u16_or _ _ (by omega) (by omega) (by omega) (by omega)]
  obtain ⟨m, rfl⟩ := Int.eq_ofNat_of_zero_le h1
  obtain ⟨k, rfl⟩ := Int.eq_ofNat_of_zero_le h3
  have e1 : ((m : Int) * 256).toNat = 2 ^ 8 * m := by omega
  have e2 : (k : Int).toNat = k := rfl
  rw [e1, e2, ← Nat.two_pow_add_eq_or_of_lt (by omega)]
  omega

theorem head_of (n : Nat) (f : Nat → Int) (x : Int) (m : HV) (i j : Nat) (bk rv : Int) (ts : ByteArray) (mk yy sv : Int) (hx : f 327 = x) (hm : mapH x = m) (hb : mapB x = true) (hi : f 328 = i) (hj : f 329 = j) (hbk : bankV i = bk) (hrv : ramV mk j = rv) (ht : titS f (zl f 308 15) = ts) (hk : m.k = mk) (hy : f 334 * 256 + f 335 = yy) (hs : sumV n f = sv) : headV n f = ⟨ts, mk, m.c, m.b, bk, rv, yy == sv⟩ := by
  have e : m = hdr (kindV x) (clockV x) (battV x) := by rw [← hm]; unfold mapH; unfold mapB at hb; rw [if_pos (by simpa using hb)]
  subst e
  have e2 : kindV x = mk := hk
  unfold headV
  rw [hx, hi, hj, ht, hbk, e2, hrv, hy, hs]
  rfl
theorem or_word (h l : Int) (h1 : 0 ≤ h) (h2 : h < 256) (h3 : 0 ≤ l) (h4 : l < 256) : bits .or .u16 (IntKind.u16.wrap (IntKind.u16.wrap h * 256)) (IntKind.u16.wrap l) = h * 256 + l := by
  have e1 : IntKind.u16.wrap h = h := by show h % 65536 = h; omega
  have e2 : IntKind.u16.wrap l = l := by show l % 65536 = l; omega
  have e3 : IntKind.u16.wrap (h * 256) = h * 256 := by show h * 256 % 65536 = h * 256; omega
  rw [e1, e2, e3]
  exact or16 h l h1 h2 h3 h4
theorem zl_shift (f : Nat → Int) (a : Nat) : ∀ k i, zl (fun j => f (a + j)) i k = zl f (a + i) k
  | 0, _ => rfl
  | k + 1, i => by unfold zl; rw [zl_shift f a k (i + 1), Nat.add_assoc]
theorem tit_eq (f : Nat → Int) : titS f (zl f 308 15) = ⟨(titB (fun j => f (308 + j)) (zl (fun j => f (308 + j)) 0 15)).toArray⟩ := by
  rw [zl_shift f 308 15 0]; rfl
theorem par_range (n : Nat) (f : Nat → Int) (hp : perr n f = if kindV (f 327) < 0 then 5 else if 8 < f 328 ∨ 5 < f 329 then 7 else if (n : Int) ≠ bankV (f 328) * 16384 then 6 else 0) (hk : mapB (f 327) = true) (hr : 8 < f 328 ∨ 5 < f 329) : perr n f = 7 ∧ parV n f = noH := by
  have e : perr n f = 7 := by rw [hp, if_neg (by unfold mapB at hk; simp at hk; omega), if_pos hr]
  exact ⟨e, by unfold parV; rw [if_neg (by rw [e]; decide)]⟩
theorem par_size (n : Nat) (f : Nat → Int) (hp : perr n f = if kindV (f 327) < 0 then 5 else if 8 < f 328 ∨ 5 < f 329 then 7 else if (n : Int) ≠ bankV (f 328) * 16384 then 6 else 0) (hk : mapB (f 327) = true) (hr : ¬ (8 < f 328 ∨ 5 < f 329)) (hs : (n : Int) ≠ bankV (f 328) * 16384) : perr n f = 6 ∧ parV n f = noH := by
  have e : perr n f = 6 := by rw [hp, if_neg (by unfold mapB at hk; simp at hk; omega), if_neg hr, if_pos hs]
  exact ⟨e, by unfold parV; rw [if_neg (by rw [e]; decide)]⟩
theorem par_ok (n : Nat) (f : Nat → Int) (hp : perr n f = if kindV (f 327) < 0 then 5 else if 8 < f 328 ∨ 5 < f 329 then 7 else if (n : Int) ≠ bankV (f 328) * 16384 then 6 else 0) (hk : mapB (f 327) = true) (hr : ¬ (8 < f 328 ∨ 5 < f 329)) (hs : (n : Int) = bankV (f 328) * 16384) : perr n f = 0 ∧ parV n f = headV n f := by
  have e : perr n f = 0 := by rw [hp, if_neg (by unfold mapB at hk; simp at hk; omega), if_neg hr, if_neg (by rw [hs]; simp)]
  exact ⟨e, by unfold parV; rw [if_pos e]⟩
theorem bank_bd (i : Nat) (h : i < 9) : 0 < bankV i ∧ bankV i ≤ 512 := by
  have : i = 0 ∨ i = 1 ∨ i = 2 ∨ i = 3 ∨ i = 4 ∨ i = 5 ∨ i = 6 ∨ i = 7 ∨ i = 8 := by omega
  rcases this with rfl | rfl | rfl | rfl | rfl | rfl | rfl | rfl | rfl <;> decide
set_option maxHeartbeats 2000000 in
theorem parse_short (a : Option Addr) (n c : Nat) (w : World) (hn : n < 336) : Calls Tryd.prog 11 #[.slice a n c] w (PE noH 2 w) := by
  go_enter Tryd.func11, Tryd.ntmps11
  go_wp2
  refine bodyPost_ret (v := .tuple #[.agg noH.cells, .int .i64 2]) (by simp [results, Tryd.results11, go_sem, noH, HV.cells]; rfl) rfl ⟨rfl, ?_⟩
  exact own1 _ _
set_option maxHeartbeats 4000000 in
theorem parse_sum (b o n c : Nat) (f : Nat → Int) (w : World) (hl : b < w.heap.size) (h0 : 336 ≤ n) (hn : n < 2147483648) (hc : n ≤ c) (h : Rd w b o n f) (ok : okB f) (hs : f 333 ≠ chk f 25) : Calls Tryd.prog 11 #[.slice (some ⟨b, o, none⟩) n c] w (PE noH 4 w) := by
  have B0 := Lib.hid (own1 w (.cells #[.string { data := #[] }, .int .i64 0, .bool false, .bool false, .int .i64 0, .int .i64 0, .bool false] 27))
  have R0 := Lib.hid (Has.new w #[.string { data := #[] }, .int .i64 0, .bool false, .bool false, .int .i64 0, .int .i64 0, .bool false] 27)
  have OK := Lib.hid ok
  have H := Lib.hid h
  have HL := Lib.hid hl
  have N0 := Lib.hid h0
  have N1 := Lib.hid hn
  clear h ok hl
  go_enter Tryd.func11, Tryd.ntmps11
  go_wp2
  generalize w.alloc (.cells #[.string { data := #[] }, .int .i64 0, .bool false, .bool false, .int .i64 0, .int .i64 0, .bool false] 27) = w0 at B0 R0 ⊢
  generalize hR : w.heap.size = R at R0 ⊢
  have LR := Lib.hid (show w.heap.size ≤ R by omega)
  clear hR
  have H1 := Lib.hid (fun q : Nat => flip (check_l b o n c f (w0.drewN q) h0 hn hc ((H.out.below HL.out B0.out).drewN q) OK.out))
  have hcl := (H.out.below HL.out B0.out) 333 (by omega)
  have hne : (f 333 != chk f 25) = true := by simpa using hs
  clear hs
  generalize f 333 = x333 at hcl hne
  generalize chk f 25 = xchk at H1 hne
  go_quiet ((go_at_call 13; with_reducible exact Calls.quiet_of_same (H1.out _)))
  clear H1 hcl
  have B0' := Lib.hid (via B0.out (bdrewN w0 nq))
  have R0' := Lib.hid (R0.out.below (bdrewN w0 nq))
  generalize w0.drewN nq = w1 at B0' R0' ⊢
  clear B0 R0
  have hfz := R0'.out.2.2
  have hcc := R0'.out.2.1
  go_wp2
  refine bodyPost_ret (v := .tuple #[.agg noH.cells, .int .i64 4]) (by simp [results, Tryd.results11, go_sem, noH, HV.cells, hcc]; rfl) rfl ⟨rfl, ?_⟩
  exact bput7 B0'.out LR.out _ _ _ _ _ _ _
set_option maxHeartbeats 4000000 in
theorem parse_rest (b o n c : Nat) (f : Nat → Int) (w : World) (hl : b < w.heap.size) (h0 : 336 ≤ n) (hn : n < 2147483648) (hc : n ≤ c) (h : Rd w b o n f) (ok : okB f) (G : Glob w) (hs : f 333 = chk f 25) : Calls Tryd.prog 11 #[.slice (some ⟨b, o, none⟩) n c] w (PE (parV n f) (perr n f) w) := by
  have B0 := Lib.hid (own1 w (.cells #[.string { data := #[] }, .int .i64 0, .bool false, .bool false, .int .i64 0, .int .i64 0, .bool false] 27))
  have R0 := Lib.hid (Has.new w #[.string { data := #[] }, .int .i64 0, .bool false, .bool false, .int .i64 0, .int .i64 0, .bool false] 27)
  have OK := Lib.hid ok
  have H := Lib.hid h
  have HL := Lib.hid hl
  have N0 := Lib.hid h0
  have N1 := Lib.hid hn
  clear h ok hl
  go_enter Tryd.func11, Tryd.ntmps11
  go_wp2
  generalize w.alloc (.cells #[.string { data := #[] }, .int .i64 0, .bool false, .bool false, .int .i64 0, .int .i64 0, .bool false] 27) = w0 at B0 R0 ⊢
  generalize hR : w.heap.size = R at R0 ⊢
  have LR := Lib.hid (show w.heap.size ≤ R by omega)
  clear hR
  have H1 := Lib.hid (fun q : Nat => flip (check_l b o n c f (w0.drewN q) h0 hn hc ((H.out.below HL.out B0.out).drewN q) OK.out))
  have hcl := (H.out.below HL.out B0.out) 333 (by omega)
  have hne : (chk f 25 != chk f 25) = false := by simp
  have HS := Lib.hid hs
  have HSC := Lib.hid hs
  have GG := Lib.hid G
  clear G
  rw [hs] at hcl
  clear hs
  generalize chk f 25 = xchk at H1 hne hcl HS
  go_quiet ((go_at_call 13; with_reducible exact Calls.quiet_of_same (H1.out _)))
  clear H1 hcl
  have B0' := Lib.hid (via B0.out (bdrewN w0 nq))
  have R0' := Lib.hid (R0.out.below (bdrewN w0 nq))
  generalize w0.drewN nq = w1 at B0' R0' ⊢
  clear B0 R0
  go_upto_region 5 with (fail)
  have B0 := Lib.hid B0'.out.drew
  have R0 := Lib.hid R0'.out.drew
  clear B0' R0'
  obtain ⟨x, hx⟩ : ∃ x, f 327 = x := ⟨_, rfl⟩
  have x0 : 0 ≤ x := by rw [← hx]; exact (OK.out 327).1
  have x1 : x < 256 := by rw [← hx]; exact (OK.out 327).2
  obtain ⟨m, hm⟩ : ∃ m, mapH x = m := ⟨_, rfl⟩
  obtain ⟨m0, hm0⟩ : ∃ m, mapB x = m := ⟨_, rfl⟩
  have MX := Lib.hid (And.intro hm hm0)
  have H327 : ∀ W : World, W.cell? ⟨b, o + 327, none⟩ = some (.int .u8 (f 327)) → W.cell? ⟨b, o + 327, none⟩ = some (.int .u8 x) := fun W h => by rw [← hx]; exact h
  have HX := Lib.hid hx
  have HT := Lib.hid H327
  have MB := Lib.hid hm0
  have MH := Lib.hid hm
  clear hm hm0 hx H327
  have i327 : (327 : Int) < n := by omega
  refine wp_region_held_drew (S := (fun w' => (w'.cell? ⟨b, o + 327, none⟩ = some (.int .u8 x)) ∧ True)) (by kernel_rfl) ⟨HT.out _ ((H.out.below HL.out B0.out) 327 (by have := N0.out; omega)), trivial⟩ (fun hHeld => ?_)
  generalize World.drew w1 = u0 at hHeld B0 R0 ⊢
  refine wpAnyH_take (i := 1) (oi := { dst := some 21, op := Go.Op.move (Go.Operand.tmp 0), type := 24, pos := "header.go:56", after := #[], guard := none }) (v := ?v1) rfl (by kernel_rfl) (by kernel_rfl) (by kernel_rfl) (fun _ _ _ h => h) (Or.inl ⟨by rfl, ?y1⟩) (by assumption) ?z1
  case y1 => (intro w hSw; (try dsimp only at hSw); go_simp) <;> with_reducible rfl
  try simp only [Act.put, List.setIfInBounds_toArray, List.set_cons_zero, List.set_cons_succ]
  refine wpAnyH_take (i := 2) (oi := { dst := some 22, op := Go.Op.indexAddr 24 (Go.Operand.tmp 21) (Go.Operand.const (Go.Value.int Go.IntKind.i64 327)), type := 0, pos := "header.go:56", after := #[{ on := 1, ground := Go.Ground.data }], guard := none }) (v := ?v2) rfl (by kernel_rfl) (by kernel_rfl) (by kernel_rfl) (fun _ _ _ h => h) (Or.inl ⟨by rfl, ?y2⟩) (by assumption) ?z2
  case y2 => (intro w hSw; (try dsimp only at hSw); go_simp) <;> with_reducible rfl
  try simp only [Act.put, List.setIfInBounds_toArray, List.set_cons_zero, List.set_cons_succ]
  refine wpAnyH_take (i := 3) (oi := { dst := some 23, op := Go.Op.load 5 (Go.Operand.tmp 22), type := 5, pos := "header.go:56", after := #[{ on := 2, ground := Go.Ground.data }], guard := none }) (v := ?v3) rfl (by kernel_rfl) (by kernel_rfl) (by kernel_rfl) (fun _ _ _ h => h) (Or.inl ⟨by rfl, ?y3⟩) (by assumption) ?z3
  case y3 => (intro w hSw; (try dsimp only at hSw); go_simp) <;> with_reducible rfl
  try simp only [Act.put, List.setIfInBounds_toArray, List.set_cons_zero, List.set_cons_succ]
  refine wpAnyH_ready (rs := [0, 8]) (by kernel_rfl) (by simp) ?_
  refine (AllReadyH.cons (o := { dst := some 20, op := Go.Op.call { callee := Go.Callee.value (Go.Operand.func 19), args := #[], argTypes := #[] }, type := 49, pos := "header.go:56", after := #[], guard := none }) rfl (fun K hK => ?_) (AllReadyH.cons (o := { dst := some 4, op := Go.Op.alloc 27, type := 0, pos := "header.go:56", after := #[], guard := none }) rfl (fun K hK => ?_) AllReadyH.nil))
  · skip
    go_simp
    go_wp2_with (go_at_call 19; (with_reducible refine (mappers_c u0).mono ?_); rintro e u1 ⟨rfl, hM, hb⟩)
    have B1 := Lib.hid (via B0.out hb)
    have R1 := Lib.hid (R0.out.below hb)
    have M1 := Lib.hid hM
    refine hK.out _ _ ?s4 (fun hNew => ?r4)
    case s4 => exact ⟨HT.out _ ((H.out.below HL.out B1.out) 327 (by have := N0.out; omega)), trivial⟩
    clear hK K hHeld
    have hHeld := hNew
    clear hNew
    generalize u0.heap.size = mb at M1 ⊢
    clear hM hb
    refine wpAnyH_ready (rs := [4, 8]) (by kernel_rfl) (by simp) ?_
    refine (AllReadyH.cons (o := { dst := some 24, op := Go.Op.lookup 49 (Go.Operand.tmp 20) (Go.Operand.tmp 23) true, type := 48, pos := "header.go:56", after := #[{ on := 0, ground := Go.Ground.data }, { on := 3, ground := Go.Ground.data }], guard := none }) rfl (fun K hK => ?_) (AllReadyH.cons (o := { dst := some 4, op := Go.Op.alloc 27, type := 0, pos := "header.go:56", after := #[], guard := none }) rfl (fun K hK => ?_) AllReadyH.nil))
    · skip
      have hlk := look_run' u1 mb x m m0 MX.out M1.out x0 x1
      go_simp
      refine hK.out _ _ ?s5 (fun hNew => ?r5)
      case s5 => exact hHeld
      clear hK K hHeld hlk
      have hHeld := hNew
      clear hNew
      try simp only [Act.put, List.setIfInBounds_toArray, List.set_cons_zero, List.set_cons_succ]
      obtain ⟨u2, hu⟩ : ∃ q_, q_ = u1 := ⟨_, rfl⟩
      rw [← hu] at hHeld B1 R1 M1 ⊢
      clear hu
      have B2 := B1
      have R2 := R1
      have M2 := M1
      refine wpAnyH_take (i := 5) (oi := { dst := some 19, op := Go.Op.move (Go.Operand.tmp 24), type := 48, pos := "header.go:56", after := #[{ on := 4, ground := Go.Ground.data }], guard := none }) (v := ?v6) rfl (by kernel_rfl) (by kernel_rfl) (by kernel_rfl) (fun _ _ _ h => h) (Or.inl ⟨by rfl, ?y6⟩) (by assumption) ?z6
      case y6 => (intro w hSw; (try dsimp only at hSw); go_simp) <;> with_reducible rfl
      try simp only [Act.put, List.setIfInBounds_toArray, List.set_cons_zero, List.set_cons_succ]
      refine wpAnyH_take (i := 6) (oi := { dst := some 25, op := Go.Op.extract (Go.Operand.tmp 19) 0, type := 27, pos := "header.go:56", after := #[{ on := 5, ground := Go.Ground.data }], guard := none }) (v := ?v7) rfl (by kernel_rfl) (by kernel_rfl) (by kernel_rfl) (fun _ _ _ h => h) (Or.inl ⟨by rfl, ?y7⟩) (by assumption) ?z7
      case y7 => (intro w hSw; (try dsimp only at hSw); go_simp) <;> with_reducible rfl
      try simp only [Act.put, List.setIfInBounds_toArray, List.set_cons_zero, List.set_cons_succ]
      refine wpAnyH_take (i := 7) (oi := { dst := some 26, op := Go.Op.extract (Go.Operand.tmp 19) 1, type := 4, pos := "header.go:56", after := #[{ on := 5, ground := Go.Ground.data }, { on := 9, ground := Go.Ground.gcOnly Go.Departure.lateStores }], guard := none }) (v := ?v8) rfl (by kernel_rfl) (by kernel_rfl) (by kernel_rfl) (fun _ _ _ h => h) (Or.inl ⟨by rfl, ?y8⟩) (by assumption) ?z8
      case y8 => (intro w hSw; (try dsimp only at hSw); go_simp) <;> with_reducible rfl
      try simp only [Act.put, List.setIfInBounds_toArray, List.set_cons_zero, List.set_cons_succ]
      refine wpAnyH_ready (rs := [8]) (by kernel_rfl) (by simp) ?_
      refine (AllReadyH.cons (o := { dst := some 4, op := Go.Op.alloc 27, type := 0, pos := "header.go:56", after := #[], guard := none }) rfl (fun K hK => ?_) AllReadyH.nil)
      · skip
        go_simp
        have q := own1 u2 (.cells #[.string { data := #[] }, .int .i64 0, .bool false, .bool false, .int .i64 0, .int .i64 0, .bool false] 27)
        have B3 := Lib.hid (via B2.out q)
        have R3 := Lib.hid (R2.out.below q)
        have A3 := Lib.hid (Has.new u2 #[.string { data := #[] }, .int .i64 0, .bool false, .bool false, .int .i64 0, .int .i64 0, .bool false] 27)
        have NA := Lib.hid (show R ≠ u2.heap.size by have := R2.out.1; omega)
        have GA := Lib.hid (show w.heap.size ≤ u2.heap.size from B2.out.size)
        have M3 := Lib.hid (M2.out.below q)
        clear q
        refine hK.out _ _ ?s9 (fun hNew => ?r9)
        case s9 => exact ⟨HT.out _ ((H.out.below HL.out B3.out) 327 (by have := N0.out; omega)), trivial⟩
        clear hK K hHeld
        have hHeld := hNew
        clear hNew
        generalize (u2.alloc (.cells #[.string { data := #[] }, .int .i64 0, .bool false, .bool false, .int .i64 0, .int .i64 0, .bool false] 27)) = u3 at hHeld B3 R3 A3 M3 ⊢
        generalize u2.heap.size = hb at A3 NA GA ⊢
        refine wpAnyH_ready (rs := [9]) (by kernel_rfl) (by simp) ?_
        refine (AllReadyH.cons (o := { dst := none, op := Go.Op.store 27 (Go.Operand.tmp 4) (Go.Operand.tmp 25), type := 0, pos := "header.go:56", after := #[{ on := 8, ground := Go.Ground.data }, { on := 6, ground := Go.Ground.data }, { on := 0, ground := Go.Ground.chain }, { on := 0, ground := Go.Ground.phase }, { on := 1, ground := Go.Ground.phase }, { on := 2, ground := Go.Ground.phase }, { on := 3, ground := Go.Ground.phase }, { on := 4, ground := Go.Ground.phase }, { on := 5, ground := Go.Ground.phase }, { on := 6, ground := Go.Ground.phase }, { on := 7, ground := Go.Ground.textOnly Go.Departure.lateStores }, { on := 8, ground := Go.Ground.phase }], guard := none }) rfl (fun K hK => ?_) AllReadyH.nil)
        · skip
          have hfz := A3.out.2.2
          have hcl := A3.out.2.1
          go_simp
          clear hfz hcl
          have A4 := Lib.hid (A3.out.put7 (.string m.t) (.int .i64 m.k) (.bool m.c) (.bool m.b) (.int .i64 m.n) (.int .i64 m.r) (.bool m.w))
          have B4 := Lib.hid (bput7 B3.out GA.out (.string m.t) (.int .i64 m.k) (.bool m.c) (.bool m.b) (.int .i64 m.n) (.int .i64 m.r) (.bool m.w))
          have R4 := Lib.hid (R3.out.fput7 NA.out (.string m.t) (.int .i64 m.k) (.bool m.c) (.bool m.b) (.int .i64 m.n) (.int .i64 m.r) (.bool m.w))
          refine hK.out _ _ ?s10 (fun hNew => ?r10)
          case s10 => exact ⟨HT.out _ ((H.out.below HL.out B4.out) 327 (by have := N0.out; omega)), trivial⟩
          clear hK K hHeld
          have hHeld := hNew
          clear hNew
          generalize (World.setCell (World.setCell (World.setCell (World.setCell (World.setCell (World.setCell (World.setCell u3 ⟨hb, 0, none⟩ (.string m.t)) ⟨hb, 1, none⟩ (.int .i64 m.k)) ⟨hb, 2, none⟩ (.bool m.c)) ⟨hb, 3, none⟩ (.bool m.b)) ⟨hb, 4, none⟩ (.int .i64 m.n)) ⟨hb, 5, none⟩ (.int .i64 m.r)) ⟨hb, 6, none⟩ (.bool m.w)) = u4 at hHeld B4 R4 A4 ⊢
          refine wpAnyH_take (i := 10) (oi := { dst := some 5, op := Go.Op.assign (Go.Operand.tmp 26), type := 4, pos := "header.go:56", after := #[{ on := 7, ground := Go.Ground.data }, { on := 9, ground := Go.Ground.chain }, { on := 0, ground := Go.Ground.phase }, { on := 1, ground := Go.Ground.phase }, { on := 2, ground := Go.Ground.phase }, { on := 3, ground := Go.Ground.phase }, { on := 4, ground := Go.Ground.phase }, { on := 5, ground := Go.Ground.phase }, { on := 6, ground := Go.Ground.phase }, { on := 7, ground := Go.Ground.phase }, { on := 8, ground := Go.Ground.phase }, { on := 9, ground := Go.Ground.phase }], guard := none }) (v := ?v11) rfl (by kernel_rfl) (by kernel_rfl) (by kernel_rfl) (fun _ _ _ h => h) (Or.inl ⟨by rfl, ?y11⟩) (by assumption) ?z11
          case y11 => (intro w hSw; (try dsimp only at hSw); go_simp) <;> with_reducible rfl
          try simp only [Act.put, List.setIfInBounds_toArray, List.set_cons_zero, List.set_cons_succ]
          refine wpAnyH_done (by kernel_rfl) ?_ _
          have BB := B4
          have RR := R4
          have AA := A4
          generalize u4 = u at BB RR AA ⊢
          clear hHeld
          clear MX
          have PP := Lib.hid (perr_of n f h0 HSC.out)
          obtain ⟨i, hi⟩ : ∃ i : Nat, f 328 = i := ⟨(f 328).toNat, by have := (OK.out 328).1; omega⟩
          obtain ⟨j, hj⟩ : ∃ j : Nat, f 329 = j := ⟨(f 329).toNat, by have := (OK.out 329).1; omega⟩
          have i256 : i < 256 := by have := (OK.out 328).2; omega
          have j256 : j < 256 := by have := (OK.out 329).2; omega
          have HI := Lib.hid hi
          have HJ := Lib.hid hj
          clear hi hj
          cases m0 with
          | false =>
            have hfz := RR.out.2.2
            have hcc := RR.out.2.1
            go_wp2
            refine bodyPost_ret (v := .tuple #[.agg noH.cells, .int .i64 5]) (by simp [results, Tryd.results11, go_sem, noH, HV.cells, hcc]; rfl) rfl ⟨by rw [(par_kind n f PP.out (by rw [HX.out]; exact MB.out)).1, (par_kind n f PP.out (by rw [HX.out]; exact MB.out)).2], ?_⟩
            exact bput7 BB.out LR.out _ _ _ _ _ _ _
          | true =>
            have c8 := (H.out.below HL.out BB.out) 328 (by omega)
            have c9 := (H.out.below HL.out BB.out) 329 (by omega)
            rw [HI.out] at c8
            rw [HJ.out] at c9
            have i8 : (328 : Int) < n := by omega
            have i9 : (329 : Int) < n := by omega
            go_upto_region 8 with (fail)
            go_quiet (fail)
            have B1 := Lib.hid (via BB.out (bdrewN u nq))
            have R1 := Lib.hid (RR.out.below (bdrewN u nq))
            have A1 := Lib.hid (AA.out.below (bdrewN u nq))
            generalize u.drewN nq = u1 at B1 R1 A1 ⊢
            clear BB RR AA c8 c9
            by_cases hr : 9 ≤ i ∨ 6 ≤ j
            · have hfz := R1.out.2.2
              have hcc := R1.out.2.1
              have EE := Lib.hid (par_range n f PP.out (by rw [HX.out]; exact MB.out) (by rw [HI.out, HJ.out]; omega))
              by_cases h8 : 9 ≤ i
              · have h8I : (9 : Int) ≤ i := by omega
                clear hr
                go_wp2
                refine bodyPost_ret (v := .tuple #[.agg noH.cells, .int .i64 7]) (by simp [results, Tryd.results11, go_sem, noH, HV.cells, hcc]; rfl) rfl ⟨by rw [EE.out.1, EE.out.2], ?_⟩
                exact bput7 B1.out LR.out _ _ _ _ _ _ _
              · have h8I : ¬ (9 : Int) ≤ i := by omega
                have h9I : (6 : Int) ≤ j := by omega
                clear hr
                go_wp2
                refine bodyPost_ret (v := .tuple #[.agg noH.cells, .int .i64 7]) (by simp [results, Tryd.results11, go_sem, noH, HV.cells, hcc]; rfl) rfl ⟨by rw [EE.out.1, EE.out.2], ?_⟩
                exact bput7 B1.out LR.out _ _ _ _ _ _ _
            · have hi9 : i < 9 := by omega
              have hj6 : j < 6 := by omega
              have RG := Lib.hid (show ¬ (8 < f 328 ∨ 5 < f 329) by rw [HI.out, HJ.out]; omega)
              have g0 := (GG.out.below B1.out).bk i hi9
              have g1 := (GG.out.below B1.out).rm j hj6
              have bb := bank_bd i hi9
              obtain ⟨bk, hbk⟩ : ∃ q_, bankV i = q_ := ⟨_, rfl⟩
              obtain ⟨rm, hrm⟩ : ∃ q_, ramT j = q_ := ⟨_, rfl⟩
              rw [hbk] at g0 bb
              rw [hrm] at g1
              have BK := Lib.hid hbk
              have RM := Lib.hid hrm
              have h8I : ¬ (9 : Int) ≤ i := by omega
              have h9I : ¬ (6 : Int) ≤ j := by omega
              have h8J : (i : Int) < 9 := by omega
              have h9J : (j : Int) < 6 := by omega
              have iz : (0 : Int) ≤ i := by omega
              have jz : (0 : Int) ≤ j := by omega
              have hfz := A1.out.2.2
              have hcc := A1.out.2.1
              have g2 : (u1.setCell ⟨hb, 4, none⟩ (.int .i64 bk)).cell? ⟨1, j, none⟩ = some (.int .i64 rm) := by
                rw [World.cell?_setCell_other u1 _ _ _ (by intro h; injection h with h _; have := GA.out; have := GG.out.lt; omega)]
                exact g1
              clear hr hbk hrm
              go_upto_region 11 with (fail)
              go_region
              clear hfz hcc g0 g1 g2
              have A2 := Lib.hid (show Has ((u1.setCell ⟨hb, 4, none⟩ (.int .i64 bk)).setCell ⟨hb, 5, none⟩ (.int .i64 rm)).drew hb #[.string m.t, .int .i64 m.k, .bool m.c, .bool m.b, .int .i64 bk, .int .i64 rm, .bool m.w] by
                have := (((A1.out.set 4 (.int .i64 bk) (by simp)).set 5 (.int .i64 rm) (by simp))).drew
                simpa using this)
              have B2 := Lib.hid (show Below w.heap.size w ((u1.setCell ⟨hb, 4, none⟩ (.int .i64 bk)).setCell ⟨hb, 5, none⟩ (.int .i64 rm)).drew from ((B1.out.setCell (p := ⟨hb, 4, none⟩) GA.out _).setCell (p := ⟨hb, 5, none⟩) GA.out _).drew)
              have R2 := Lib.hid (show Has ((u1.setCell ⟨hb, 4, none⟩ (.int .i64 bk)).setCell ⟨hb, 5, none⟩ (.int .i64 rm)).drew R #[.string { data := #[] }, .int .i64 0, .bool false, .bool false, .int .i64 0, .int .i64 0, .bool false] from ((R1.out.far ⟨hb, 4, none⟩ _ (fun e => NA.out e.symm)).far ⟨hb, 5, none⟩ _ (fun e => NA.out e.symm)).drew)
              generalize ((u1.setCell ⟨hb, 4, none⟩ (.int .i64 bk)).setCell ⟨hb, 5, none⟩ (.int .i64 rm)).drew = u2 at A2 B2 R2 ⊢
              clear A1 B1 R1
              have hcc := A2.out.2.1
              have hfz := A2.out.2.2
              by_cases hs : (n : Int) = bk * 16384
              · have EE := Lib.hid (par_ok n f PP.out (by rw [HX.out]; exact MB.out) RG.out (by rw [HI.out, BK.out]; exact hs))
                have hsb : ((n : Int) != bk * 16384) = false := by simpa using hs
                have HSZ := Lib.hid hs
                clear hs
                obtain ⟨mk, hmk⟩ : ∃ q_, m.k = q_ := ⟨_, rfl⟩
                rw [hmk] at A2 hcc ⊢
                have MK := Lib.hid hmk
                clear hmk
                by_cases hk2 : mk = 2
                · subst hk2
                  go_upto_region 16 with (fail)
                  clear hcc hfz
                  have A3 := Lib.hid (show Has (u2.setCell ⟨hb, 5, none⟩ (.int .i64 512)) hb #[.string m.t, .int .i64 2, .bool m.c, .bool m.b, .int .i64 bk, .int .i64 512, .bool m.w] by
                    have := A2.out.set 5 (.int .i64 512) (by simp)
                    simpa using this)
                  have B3 := Lib.hid (B2.out.setCell (p := ⟨hb, 5, none⟩) GA.out (.int .i64 512))
                  have R3 := Lib.hid (R2.out.far ⟨hb, 5, none⟩ (.int .i64 512) (fun e => NA.out e.symm))
                  generalize u2.setCell ⟨hb, 5, none⟩ (.int .i64 512) = u3 at A3 B3 R3 ⊢
                  clear A2 B2 R2
                  have RV := Lib.hid (show ramV 2 j = 512 from rfl)
                  generalize (512 : Int) = rv at A3 RV
                  generalize (2 : Int) = mk at A3 RV MK ⊢
                  have TI := Lib.hid (tit_eq f)
                  obtain ⟨ts, hts⟩ : ∃ q_, (⟨(titB (fun j => f (308 + j)) (zl (fun j => f (308 + j)) 0 15)).toArray⟩ : ByteArray) = q_ := ⟨_, rfl⟩
                  have TC := Lib.hid (title_c b (o + 308) 15 (c - 308) (fun j => f (308 + j)) u3 (by omega) (by omega) (Nat.lt_of_lt_of_le HL.out B3.out.size) ((H.out.below HL.out B3.out).part 308 15 (by omega)) (fun j => OK.out _))
                  rw [hts] at TC TI
                  clear hts
                  go_wp2_with fail
                  with_reducible refine TC.out.mono ?_
                  rintro e u4 ⟨rfl, hb4⟩
                  have A4 := Lib.hid (A3.out.below hb4)
                  have B4 := Lib.hid (via B3.out hb4)
                  have R4 := Lib.hid (R3.out.below hb4)
                  clear hb4 A3 B3 R3 TC
                  have hcc := A4.out.2.1
                  have hfz := A4.out.2.2
                  go_upto_region 17 with (fail)
                  clear hcc hfz
                  have A5 := Lib.hid (show Has (u4.setCell ⟨hb, 0, none⟩ (.string ts)).drew hb #[.string ts, .int .i64 mk, .bool m.c, .bool m.b, .int .i64 bk, .int .i64 rv, .bool m.w] by
                    have := (A4.out.set 0 (.string ts) (by simp)).drew
                    simpa using this)
                  have B5 := Lib.hid (B4.out.setCell (p := ⟨hb, 0, none⟩) GA.out (.string ts)).drew
                  have R5 := Lib.hid (R4.out.far ⟨hb, 0, none⟩ (.string ts) (fun e => NA.out e.symm)).drew
                  clear A4 B4 R4
                  obtain ⟨y4, hy4⟩ : ∃ q_, f 334 = q_ := ⟨_, rfl⟩
                  obtain ⟨y5, hy5⟩ : ∃ q_, f 335 = q_ := ⟨_, rfl⟩
                  have y40 := (OK.out 334).1
                  have y41 := (OK.out 334).2
                  have y50 := (OK.out 335).1
                  have y51 := (OK.out 335).2
                  rw [hy4] at y40 y41
                  rw [hy5] at y50 y51
                  have Y4 := Lib.hid hy4
                  have Y5 := Lib.hid hy5
                  clear hy4 hy5
                  have C4 := Lib.hid (fun (W : World) (hB : Below w.heap.size w W) => show W.cell? ⟨b, o + 334, none⟩ = some (.int .u8 y4) by rw [← Y4.out]; exact (H.out.below HL.out hB) 334 (by omega))
                  have C5 := Lib.hid (fun (W : World) (hB : Below w.heap.size w W) => show W.cell? ⟨b, o + 335, none⟩ = some (.int .u8 y5) by rw [← Y5.out]; exact (H.out.below HL.out hB) 335 (by omega))
                  have i4 : (334 : Int) < n := by omega
                  have i5 : (335 : Int) < n := by omega
                  obtain ⟨sv, hsv⟩ : ∃ q_, sumV n f = q_ := ⟨_, rfl⟩
                  have SV := Lib.hid hsv
                  have SC := Lib.hid (fun (W : World) (hB : Below w.heap.size w W) => show Calls Tryd.prog 15 #[.slice (some ⟨b, o, none⟩) n c] W (fun e w' => e = .returned (.int .u16 sv) ∧ Below W.heap.size W w') by rw [← SV.out]; exact (sum_l b o n c f W N0.out N1.out hc (H.out.below HL.out hB) OK.out).mono (fun _ _ h => ⟨h.1, by obtain ⟨q, h2⟩ := h.2; rw [h2]; exact bdrewN _ _⟩))
                  have hor := or_word y4 y5 y40 y41 y50 y51
                  generalize hyy : y4 * 256 + y5 = yy at hor
                  have YY := Lib.hid hyy
                  clear hyy
                  clear hsv
                  refine wp_region_held_drew (S := (fun w' => (w'.cell? ⟨b, o + 334, none⟩ = some (.int .u8 y4)) ∧ (w'.cell? ⟨b, o + 335, none⟩ = some (.int .u8 y5)) ∧ True)) (by kernel_rfl) ⟨C4.out _ B5.out, C5.out _ B5.out, trivial⟩ (fun hHeld => ?_)
                  generalize World.drew (u4.setCell ⟨hb, 0, none⟩ (.string ts)) = v0 at hHeld A5 B5 R5 ⊢
                  refine wpAnyH_take (i := 0) (oi := { dst := some 68, op := Go.Op.move (Go.Operand.tmp 0), type := 24, pos := "header.go:72", after := #[], guard := none }) (v := ?v1027) rfl (by kernel_rfl) (by kernel_rfl) (by kernel_rfl) (fun _ _ _ h => h) (Or.inl ⟨by rfl, ?y1027⟩) (by assumption) ?z1027
                  case y1027 => (intro w hSw; (try dsimp only at hSw); go_simp) <;> with_reducible rfl
                  try simp only [Act.put, List.setIfInBounds_toArray, List.set_cons_zero, List.set_cons_succ]
                  refine wpAnyH_take (i := 1) (oi := { dst := some 69, op := Go.Op.indexAddr 24 (Go.Operand.tmp 68) (Go.Operand.const (Go.Value.int Go.IntKind.i64 334)), type := 0, pos := "header.go:72", after := #[{ on := 0, ground := Go.Ground.data }], guard := none }) (v := ?v1028) rfl (by kernel_rfl) (by kernel_rfl) (by kernel_rfl) (fun _ _ _ h => h) (Or.inl ⟨by rfl, ?y1028⟩) (by assumption) ?z1028
                  case y1028 => (intro w hSw; (try dsimp only at hSw); go_simp) <;> with_reducible rfl
                  try simp only [Act.put, List.setIfInBounds_toArray, List.set_cons_zero, List.set_cons_succ]
                  refine wpAnyH_take (i := 2) (oi := { dst := some 70, op := Go.Op.load 5 (Go.Operand.tmp 69), type := 5, pos := "header.go:72", after := #[{ on := 1, ground := Go.Ground.data }], guard := none }) (v := ?v1029) rfl (by kernel_rfl) (by kernel_rfl) (by kernel_rfl) (fun _ _ _ h => h) (Or.inl ⟨by rfl, ?y1029⟩) (by assumption) ?z1029
                  case y1029 => (intro w hSw; (try dsimp only at hSw); go_simp) <;> with_reducible rfl
                  try simp only [Act.put, List.setIfInBounds_toArray, List.set_cons_zero, List.set_cons_succ]
                  refine wpAnyH_take (i := 3) (oi := { dst := some 71, op := Go.Op.convert 5 35 (Go.Operand.tmp 70), type := 35, pos := "header.go:72", after := #[{ on := 2, ground := Go.Ground.data }], guard := none }) (v := ?v1030) rfl (by kernel_rfl) (by kernel_rfl) (by kernel_rfl) (fun _ _ _ h => h) (Or.inl ⟨by rfl, ?y1030⟩) (by assumption) ?z1030
                  case y1030 => (intro w hSw; (try dsimp only at hSw); go_simp) <;> with_reducible rfl
                  try simp only [Act.put, List.setIfInBounds_toArray, List.set_cons_zero, List.set_cons_succ]
                  refine wpAnyH_take (i := 4) (oi := { dst := some 72, op := Go.Op.binOp Go.BinOp.shl 35 (Go.Operand.tmp 71) (Go.Operand.const (Go.Value.int Go.IntKind.u64 8)) 43, type := 35, pos := "header.go:72", after := #[{ on := 3, ground := Go.Ground.data }], guard := none }) (v := ?v1031) rfl (by kernel_rfl) (by kernel_rfl) (by kernel_rfl) (fun _ _ _ h => h) (Or.inl ⟨by rfl, ?y1031⟩) (by assumption) ?z1031
                  case y1031 => (intro w hSw; (try dsimp only at hSw); go_simp) <;> with_reducible rfl
                  try simp only [Act.put, List.setIfInBounds_toArray, List.set_cons_zero, List.set_cons_succ]
                  refine wpAnyH_take (i := 5) (oi := { dst := some 73, op := Go.Op.move (Go.Operand.tmp 0), type := 24, pos := "header.go:72", after := #[], guard := none }) (v := ?v1032) rfl (by kernel_rfl) (by kernel_rfl) (by kernel_rfl) (fun _ _ _ h => h) (Or.inl ⟨by rfl, ?y1032⟩) (by assumption) ?z1032
                  case y1032 => (intro w hSw; (try dsimp only at hSw); go_simp) <;> with_reducible rfl
                  try simp only [Act.put, List.setIfInBounds_toArray, List.set_cons_zero, List.set_cons_succ]
                  refine wpAnyH_take (i := 6) (oi := { dst := some 74, op := Go.Op.indexAddr 24 (Go.Operand.tmp 73) (Go.Operand.const (Go.Value.int Go.IntKind.i64 335)), type := 0, pos := "header.go:72", after := #[{ on := 5, ground := Go.Ground.data }], guard := none }) (v := ?v1033) rfl (by kernel_rfl) (by kernel_rfl) (by kernel_rfl) (fun _ _ _ h => h) (Or.inl ⟨by rfl, ?y1033⟩) (by assumption) ?z1033
                  case y1033 => (intro w hSw; (try dsimp only at hSw); go_simp) <;> with_reducible rfl
                  try simp only [Act.put, List.setIfInBounds_toArray, List.set_cons_zero, List.set_cons_succ]
                  refine wpAnyH_take (i := 7) (oi := { dst := some 75, op := Go.Op.load 5 (Go.Operand.tmp 74), type := 5, pos := "header.go:72", after := #[{ on := 6, ground := Go.Ground.data }], guard := none }) (v := ?v1034) rfl (by kernel_rfl) (by kernel_rfl) (by kernel_rfl) (fun _ _ _ h => h) (Or.inl ⟨by rfl, ?y1034⟩) (by assumption) ?z1034
                  case y1034 => (intro w hSw; (try dsimp only at hSw); go_simp) <;> with_reducible rfl
                  try simp only [Act.put, List.setIfInBounds_toArray, List.set_cons_zero, List.set_cons_succ]
                  refine wpAnyH_take (i := 8) (oi := { dst := some 76, op := Go.Op.convert 5 35 (Go.Operand.tmp 75), type := 35, pos := "header.go:72", after := #[{ on := 7, ground := Go.Ground.data }], guard := none }) (v := ?v1035) rfl (by kernel_rfl) (by kernel_rfl) (by kernel_rfl) (fun _ _ _ h => h) (Or.inl ⟨by rfl, ?y1035⟩) (by assumption) ?z1035
                  case y1035 => (intro w hSw; (try dsimp only at hSw); go_simp) <;> with_reducible rfl
                  try simp only [Act.put, List.setIfInBounds_toArray, List.set_cons_zero, List.set_cons_succ]
                  refine wpAnyH_take (i := 9) (oi := { dst := some 77, op := Go.Op.binOp Go.BinOp.or 35 (Go.Operand.tmp 72) (Go.Operand.tmp 76) 35, type := 35, pos := "header.go:72", after := #[{ on := 4, ground := Go.Ground.data }, { on := 8, ground := Go.Ground.data }], guard := none }) (v := ?v1036) rfl (by kernel_rfl) (by kernel_rfl) (by kernel_rfl) (fun _ _ _ h => h) (Or.inl ⟨by rfl, ?y1036⟩) (by assumption) ?z1036
                  case y1036 => (intro w hSw; (try dsimp only at hSw); go_simp) <;> with_reducible rfl
                  try simp only [Act.put, List.setIfInBounds_toArray, List.set_cons_zero, List.set_cons_succ]
                  refine wpAnyH_take (i := 10) (oi := { dst := some 78, op := Go.Op.move (Go.Operand.tmp 0), type := 24, pos := "header.go:72", after := #[], guard := none }) (v := ?v1037) rfl (by kernel_rfl) (by kernel_rfl) (by kernel_rfl) (fun _ _ _ h => h) (Or.inl ⟨by rfl, ?y1037⟩) (by assumption) ?z1037
                  case y1037 => (intro w hSw; (try dsimp only at hSw); go_simp) <;> with_reducible rfl
                  try simp only [Act.put, List.setIfInBounds_toArray, List.set_cons_zero, List.set_cons_succ]
                  refine wpAnyH_ready (rs := [11]) (by kernel_rfl) (by simp) ?_
                  refine (AllReadyH.cons (o := { dst := some 79, op := Go.Op.call { callee := Go.Callee.value (Go.Operand.func 15), args := #[Go.Operand.tmp 78], argTypes := #[24] }, type := 35, pos := "header.go:72", after := #[{ on := 10, ground := Go.Ground.data }], guard := none }) rfl (fun K hK => ?_) AllReadyH.nil)
                  · skip
                    go_simp
                    go_wp2_with (go_at_call 15; (with_reducible refine (SC.out v0 B5.out).mono ?_); rintro e v1 ⟨rfl, hb6⟩)
                    have A6 := Lib.hid (A5.out.below hb6)
                    have B6 := Lib.hid (via B5.out hb6)
                    have R6 := Lib.hid (R5.out.below hb6)
                    clear hb6
                    refine hK.out _ _ ?s1038 (fun hNew => ?r1038)
                    case s1038 => exact ⟨C4.out _ B6.out, C5.out _ B6.out, trivial⟩
                    clear hK K hHeld
                    have hHeld := hNew
                    clear hNew
                    refine wpAnyH_take (i := 12) (oi := { dst := some 80, op := Go.Op.binOp Go.BinOp.eql 35 (Go.Operand.tmp 77) (Go.Operand.tmp 79) 35, type := 4, pos := "header.go:72", after := #[{ on := 9, ground := Go.Ground.data }, { on := 11, ground := Go.Ground.data }], guard := none }) (v := ?v1039) rfl (by kernel_rfl) (by kernel_rfl) (by kernel_rfl) (fun _ _ _ h => h) (Or.inl ⟨by rfl, ?y1039⟩) (by assumption) ?z1039
                    case y1039 => (intro w hSw; (try dsimp only at hSw); go_simp) <;> with_reducible rfl
                    try simp only [Act.put, List.setIfInBounds_toArray, List.set_cons_zero, List.set_cons_succ]
                    refine wpAnyH_take (i := 13) (oi := { dst := some 81, op := Go.Op.fieldAddr 27 (Go.Operand.tmp 4) 6, type := 0, pos := "header.go:72", after := #[{ on := 0, ground := Go.Ground.phase }, { on := 1, ground := Go.Ground.phase }, { on := 2, ground := Go.Ground.phase }, { on := 3, ground := Go.Ground.phase }, { on := 4, ground := Go.Ground.phase }, { on := 5, ground := Go.Ground.phase }, { on := 6, ground := Go.Ground.phase }, { on := 7, ground := Go.Ground.phase }, { on := 8, ground := Go.Ground.phase }, { on := 9, ground := Go.Ground.phase }, { on := 10, ground := Go.Ground.phase }, { on := 11, ground := Go.Ground.phase }, { on := 12, ground := Go.Ground.phase }], guard := none }) (v := ?v1040) rfl (by kernel_rfl) (by kernel_rfl) (by kernel_rfl) (fun _ _ _ h => h) (Or.inl ⟨by rfl, ?y1040⟩) (by assumption) ?z1040
                    case y1040 => (intro w hSw; (try dsimp only at hSw); go_simp) <;> with_reducible rfl
                    try simp only [Act.put, List.setIfInBounds_toArray, List.set_cons_zero, List.set_cons_succ]
                    refine wpAnyH_ready (rs := [14]) (by kernel_rfl) (by simp) ?_
                    refine (AllReadyH.cons (o := { dst := none, op := Go.Op.store 4 (Go.Operand.tmp 81) (Go.Operand.tmp 80), type := 0, pos := "header.go:72", after := #[{ on := 13, ground := Go.Ground.data }, { on := 12, ground := Go.Ground.data }, { on := 11, ground := Go.Ground.chain }, { on := 0, ground := Go.Ground.phase }, { on := 1, ground := Go.Ground.phase }, { on := 2, ground := Go.Ground.phase }, { on := 3, ground := Go.Ground.phase }, { on := 4, ground := Go.Ground.phase }, { on := 5, ground := Go.Ground.phase }, { on := 6, ground := Go.Ground.phase }, { on := 7, ground := Go.Ground.phase }, { on := 8, ground := Go.Ground.phase }, { on := 9, ground := Go.Ground.phase }, { on := 10, ground := Go.Ground.phase }, { on := 11, ground := Go.Ground.phase }, { on := 12, ground := Go.Ground.phase }], guard := none }) rfl (fun K hK => ?_) AllReadyH.nil)
                    · skip
                      have hcc := A6.out.2.1
                      have hfz := A6.out.2.2
                      go_simp
                      clear hcc hfz
                      have A7 := Lib.hid (show Has (v1.setCell ⟨hb, 6, none⟩ (.bool (yy == sv))) hb #[.string ts, .int .i64 mk, .bool m.c, .bool m.b, .int .i64 bk, .int .i64 rv, .bool (yy == sv)] by
                        have := A6.out.set 6 (.bool (yy == sv)) (by simp)
                        simpa using this)
                      have B7 := Lib.hid (B6.out.setCell (p := ⟨hb, 6, none⟩) GA.out (.bool (yy == sv)))
                      have R7 := Lib.hid (R6.out.far ⟨hb, 6, none⟩ (.bool (yy == sv)) (fun e => NA.out e.symm))
                      refine hK.out _ _ ?s1041 (fun hNew => ?r1041)
                      case s1041 => exact ⟨C4.out _ B7.out, C5.out _ B7.out, trivial⟩
                      clear hK K hHeld
                      generalize v1.setCell ⟨hb, 6, none⟩ (.bool (yy == sv)) = v2 at A7 B7 R7 ⊢
                      clear hNew
                      refine wpAnyH_done (by kernel_rfl) ?_ _
                      have hcc := A7.out.2.1
                      have hfz := A7.out.2.2
                      have hrc := R7.out.2.1
                      have hrf := R7.out.2.2
                      have nhb : ¬ hb = R := fun e => NA.out e.symm
                      have nRh : ¬ R = hb := NA.out
                      go_wp2
                      refine bodyPost_ret (v := .tuple #[.agg #[.string ts, .int .i64 mk, .bool m.c, .bool m.b, .int .i64 bk, .int .i64 rv, .bool (yy == sv)], .int .i64 0]) (by simp [results, Tryd.results11, go_sem, hrc]) rfl ⟨?_, bput7 B7.out LR.out _ _ _ _ _ _ _⟩
                      rw [EE.out.1, EE.out.2, head_of n f x m i j bk rv ts mk yy sv HX.out MH.out MB.out HI.out HJ.out BK.out RV.out TI.out MK.out (by rw [Y4.out, Y5.out]; exact YY.out) SV.out]
                      rfl
                · have hk3 : (mk == 2) = false := by simpa using hk2
                  go_upto_region 16 with (fail)
                  have RV := Lib.hid (show ramV mk j = rm by unfold ramV; rw [if_neg hk2]; exact RM.out)
                  generalize rm = rv at A2 RV
                  have A3 := A2
                  have B3 := B2
                  have R3 := R2
                  generalize u2 = u3 at A3 B3 R3 ⊢
                  clear A2 B2 R2 hk2 hk3 hcc hfz
                  have TI := Lib.hid (tit_eq f)
                  obtain ⟨ts, hts⟩ : ∃ q_, (⟨(titB (fun j => f (308 + j)) (zl (fun j => f (308 + j)) 0 15)).toArray⟩ : ByteArray) = q_ := ⟨_, rfl⟩
                  have TC := Lib.hid (title_c b (o + 308) 15 (c - 308) (fun j => f (308 + j)) u3 (by omega) (by omega) (Nat.lt_of_lt_of_le HL.out B3.out.size) ((H.out.below HL.out B3.out).part 308 15 (by omega)) (fun j => OK.out _))
                  rw [hts] at TC TI
                  clear hts
                  go_wp2_with fail
                  with_reducible refine TC.out.mono ?_
                  rintro e u4 ⟨rfl, hb4⟩
                  have A4 := Lib.hid (A3.out.below hb4)
                  have B4 := Lib.hid (via B3.out hb4)
                  have R4 := Lib.hid (R3.out.below hb4)
                  clear hb4 A3 B3 R3 TC
                  have hcc := A4.out.2.1
                  have hfz := A4.out.2.2
                  go_upto_region 17 with (fail)
                  clear hcc hfz
                  have A5 := Lib.hid (show Has (u4.setCell ⟨hb, 0, none⟩ (.string ts)).drew hb #[.string ts, .int .i64 mk, .bool m.c, .bool m.b, .int .i64 bk, .int .i64 rv, .bool m.w] by
                    have := (A4.out.set 0 (.string ts) (by simp)).drew
                    simpa using this)
                  have B5 := Lib.hid (B4.out.setCell (p := ⟨hb, 0, none⟩) GA.out (.string ts)).drew
                  have R5 := Lib.hid (R4.out.far ⟨hb, 0, none⟩ (.string ts) (fun e => NA.out e.symm)).drew
                  clear A4 B4 R4
                  obtain ⟨y4, hy4⟩ : ∃ q_, f 334 = q_ := ⟨_, rfl⟩
                  obtain ⟨y5, hy5⟩ : ∃ q_, f 335 = q_ := ⟨_, rfl⟩
                  have y40 := (OK.out 334).1
                  have y41 := (OK.out 334).2
                  have y50 := (OK.out 335).1
                  have y51 := (OK.out 335).2
                  rw [hy4] at y40 y41
                  rw [hy5] at y50 y51
                  have Y4 := Lib.hid hy4
                  have Y5 := Lib.hid hy5
                  clear hy4 hy5
                  have C4 := Lib.hid (fun (W : World) (hB : Below w.heap.size w W) => show W.cell? ⟨b, o + 334, none⟩ = some (.int .u8 y4) by rw [← Y4.out]; exact (H.out.below HL.out hB) 334 (by omega))
                  have C5 := Lib.hid (fun (W : World) (hB : Below w.heap.size w W) => show W.cell? ⟨b, o + 335, none⟩ = some (.int .u8 y5) by rw [← Y5.out]; exact (H.out.below HL.out hB) 335 (by omega))
                  have i4 : (334 : Int) < n := by omega
                  have i5 : (335 : Int) < n := by omega
                  obtain ⟨sv, hsv⟩ : ∃ q_, sumV n f = q_ := ⟨_, rfl⟩
                  have SV := Lib.hid hsv
                  have SC := Lib.hid (fun (W : World) (hB : Below w.heap.size w W) => show Calls Tryd.prog 15 #[.slice (some ⟨b, o, none⟩) n c] W (fun e w' => e = .returned (.int .u16 sv) ∧ Below W.heap.size W w') by rw [← SV.out]; exact (sum_l b o n c f W N0.out N1.out hc (H.out.below HL.out hB) OK.out).mono (fun _ _ h => ⟨h.1, by obtain ⟨q, h2⟩ := h.2; rw [h2]; exact bdrewN _ _⟩))
                  have hor := or_word y4 y5 y40 y41 y50 y51
                  generalize hyy : y4 * 256 + y5 = yy at hor
                  have YY := Lib.hid hyy
                  clear hyy
                  clear hsv
                  refine wp_region_held_drew (S := (fun w' => (w'.cell? ⟨b, o + 334, none⟩ = some (.int .u8 y4)) ∧ (w'.cell? ⟨b, o + 335, none⟩ = some (.int .u8 y5)) ∧ True)) (by kernel_rfl) ⟨C4.out _ B5.out, C5.out _ B5.out, trivial⟩ (fun hHeld => ?_)
                  generalize World.drew (u4.setCell ⟨hb, 0, none⟩ (.string ts)) = v0 at hHeld A5 B5 R5 ⊢
                  refine wpAnyH_take (i := 0) (oi := { dst := some 68, op := Go.Op.move (Go.Operand.tmp 0), type := 24, pos := "header.go:72", after := #[], guard := none }) (v := ?v1042) rfl (by kernel_rfl) (by kernel_rfl) (by kernel_rfl) (fun _ _ _ h => h) (Or.inl ⟨by rfl, ?y1042⟩) (by assumption) ?z1042
                  case y1042 => (intro w hSw; (try dsimp only at hSw); go_simp) <;> with_reducible rfl
                  try simp only [Act.put, List.setIfInBounds_toArray, List.set_cons_zero, List.set_cons_succ]
                  refine wpAnyH_take (i := 1) (oi := { dst := some 69, op := Go.Op.indexAddr 24 (Go.Operand.tmp 68) (Go.Operand.const (Go.Value.int Go.IntKind.i64 334)), type := 0, pos := "header.go:72", after := #[{ on := 0, ground := Go.Ground.data }], guard := none }) (v := ?v1043) rfl (by kernel_rfl) (by kernel_rfl) (by kernel_rfl) (fun _ _ _ h => h) (Or.inl ⟨by rfl, ?y1043⟩) (by assumption) ?z1043
                  case y1043 => (intro w hSw; (try dsimp only at hSw); go_simp) <;> with_reducible rfl
                  try simp only [Act.put, List.setIfInBounds_toArray, List.set_cons_zero, List.set_cons_succ]
                  refine wpAnyH_take (i := 2) (oi := { dst := some 70, op := Go.Op.load 5 (Go.Operand.tmp 69), type := 5, pos := "header.go:72", after := #[{ on := 1, ground := Go.Ground.data }], guard := none }) (v := ?v1044) rfl (by kernel_rfl) (by kernel_rfl) (by kernel_rfl) (fun _ _ _ h => h) (Or.inl ⟨by rfl, ?y1044⟩) (by assumption) ?z1044
                  case y1044 => (intro w hSw; (try dsimp only at hSw); go_simp) <;> with_reducible rfl
                  try simp only [Act.put, List.setIfInBounds_toArray, List.set_cons_zero, List.set_cons_succ]
                  refine wpAnyH_take (i := 3) (oi := { dst := some 71, op := Go.Op.convert 5 35 (Go.Operand.tmp 70), type := 35, pos := "header.go:72", after := #[{ on := 2, ground := Go.Ground.data }], guard := none }) (v := ?v1045) rfl (by kernel_rfl) (by kernel_rfl) (by kernel_rfl) (fun _ _ _ h => h) (Or.inl ⟨by rfl, ?y1045⟩) (by assumption) ?z1045
                  case y1045 => (intro w hSw; (try dsimp only at hSw); go_simp) <;> with_reducible rfl
                  try simp only [Act.put, List.setIfInBounds_toArray, List.set_cons_zero, List.set_cons_succ]
                  refine wpAnyH_take (i := 4) (oi := { dst := some 72, op := Go.Op.binOp Go.BinOp.shl 35 (Go.Operand.tmp 71) (Go.Operand.const (Go.Value.int Go.IntKind.u64 8)) 43, type := 35, pos := "header.go:72", after := #[{ on := 3, ground := Go.Ground.data }], guard := none }) (v := ?v1046) rfl (by kernel_rfl) (by kernel_rfl) (by kernel_rfl) (fun _ _ _ h => h) (Or.inl ⟨by rfl, ?y1046⟩) (by assumption) ?z1046
                  case y1046 => (intro w hSw; (try dsimp only at hSw); go_simp) <;> with_reducible rfl
                  try simp only [Act.put, List.setIfInBounds_toArray, List.set_cons_zero, List.set_cons_succ]
                  refine wpAnyH_take (i := 5) (oi := { dst := some 73, op := Go.Op.move (Go.Operand.tmp 0), type := 24, pos := "header.go:72", after := #[], guard := none }) (v := ?v1047) rfl (by kernel_rfl) (by kernel_rfl) (by kernel_rfl) (fun _ _ _ h => h) (Or.inl ⟨by rfl, ?y1047⟩) (by assumption) ?z1047
                  case y1047 => (intro w hSw; (try dsimp only at hSw); go_simp) <;> with_reducible rfl
                  try simp only [Act.put, List.setIfInBounds_toArray, List.set_cons_zero, List.set_cons_succ]
                  refine wpAnyH_take (i := 6) (oi := { dst := some 74, op := Go.Op.indexAddr 24 (Go.Operand.tmp 73) (Go.Operand.const (Go.Value.int Go.IntKind.i64 335)), type := 0, pos := "header.go:72", after := #[{ on := 5, ground := Go.Ground.data }], guard := none }) (v := ?v1048) rfl (by kernel_rfl) (by kernel_rfl) (by kernel_rfl) (fun _ _ _ h => h) (Or.inl ⟨by rfl, ?y1048⟩) (by assumption) ?z1048
                  case y1048 => (intro w hSw; (try dsimp only at hSw); go_simp) <;> with_reducible rfl
                  try simp only [Act.put, List.setIfInBounds_toArray, List.set_cons_zero, List.set_cons_succ]
                  refine wpAnyH_take (i := 7) (oi := { dst := some 75, op := Go.Op.load 5 (Go.Operand.tmp 74), type := 5, pos := "header.go:72", after := #[{ on := 6, ground := Go.Ground.data }], guard := none }) (v := ?v1049) rfl (by kernel_rfl) (by kernel_rfl) (by kernel_rfl) (fun _ _ _ h => h) (Or.inl ⟨by rfl, ?y1049⟩) (by assumption) ?z1049
                  case y1049 => (intro w hSw; (try dsimp only at hSw); go_simp) <;> with_reducible rfl
                  try simp only [Act.put, List.setIfInBounds_toArray, List.set_cons_zero, List.set_cons_succ]
                  refine wpAnyH_take (i := 8) (oi := { dst := some 76, op := Go.Op.convert 5 35 (Go.Operand.tmp 75), type := 35, pos := "header.go:72", after := #[{ on := 7, ground := Go.Ground.data }], guard := none }) (v := ?v1050) rfl (by kernel_rfl) (by kernel_rfl) (by kernel_rfl) (fun _ _ _ h => h) (Or.inl ⟨by rfl, ?y1050⟩) (by assumption) ?z1050
                  case y1050 => (intro w hSw; (try dsimp only at hSw); go_simp) <;> with_reducible rfl
                  try simp only [Act.put, List.setIfInBounds_toArray, List.set_cons_zero, List.set_cons_succ]
                  refine wpAnyH_take (i := 9) (oi := { dst := some 77, op := Go.Op.binOp Go.BinOp.or 35 (Go.Operand.tmp 72) (Go.Operand.tmp 76) 35, type := 35, pos := "header.go:72", after := #[{ on := 4, ground := Go.Ground.data }, { on := 8, ground := Go.Ground.data }], guard := none }) (v := ?v1051) rfl (by kernel_rfl) (by kernel_rfl) (by kernel_rfl) (fun _ _ _ h => h) (Or.inl ⟨by rfl, ?y1051⟩) (by assumption) ?z1051
                  case y1051 => (intro w hSw; (try dsimp only at hSw); go_simp) <;> with_reducible rfl
                  try simp only [Act.put, List.setIfInBounds_toArray, List.set_cons_zero, List.set_cons_succ]
                  refine wpAnyH_take (i := 10) (oi := { dst := some 78, op := Go.Op.move (Go.Operand.tmp 0), type := 24, pos := "header.go:72", after := #[], guard := none }) (v := ?v1052) rfl (by kernel_rfl) (by kernel_rfl) (by kernel_rfl) (fun _ _ _ h => h) (Or.inl ⟨by rfl, ?y1052⟩) (by assumption) ?z1052
                  case y1052 => (intro w hSw; (try dsimp only at hSw); go_simp) <;> with_reducible rfl
                  try simp only [Act.put, List.setIfInBounds_toArray, List.set_cons_zero, List.set_cons_succ]
                  refine wpAnyH_ready (rs := [11]) (by kernel_rfl) (by simp) ?_
                  refine (AllReadyH.cons (o := { dst := some 79, op := Go.Op.call { callee := Go.Callee.value (Go.Operand.func 15), args := #[Go.Operand.tmp 78], argTypes := #[24] }, type := 35, pos := "header.go:72", after := #[{ on := 10, ground := Go.Ground.data }], guard := none }) rfl (fun K hK => ?_) AllReadyH.nil)
                  · skip
                    go_simp
                    go_wp2_with (go_at_call 15; (with_reducible refine (SC.out v0 B5.out).mono ?_); rintro e v1 ⟨rfl, hb6⟩)
                    have A6 := Lib.hid (A5.out.below hb6)
                    have B6 := Lib.hid (via B5.out hb6)
                    have R6 := Lib.hid (R5.out.below hb6)
                    clear hb6
                    refine hK.out _ _ ?s1053 (fun hNew => ?r1053)
                    case s1053 => exact ⟨C4.out _ B6.out, C5.out _ B6.out, trivial⟩
                    clear hK K hHeld
                    have hHeld := hNew
                    clear hNew
                    refine wpAnyH_take (i := 12) (oi := { dst := some 80, op := Go.Op.binOp Go.BinOp.eql 35 (Go.Operand.tmp 77) (Go.Operand.tmp 79) 35, type := 4, pos := "header.go:72", after := #[{ on := 9, ground := Go.Ground.data }, { on := 11, ground := Go.Ground.data }], guard := none }) (v := ?v1054) rfl (by kernel_rfl) (by kernel_rfl) (by kernel_rfl) (fun _ _ _ h => h) (Or.inl ⟨by rfl, ?y1054⟩) (by assumption) ?z1054
                    case y1054 => (intro w hSw; (try dsimp only at hSw); go_simp) <;> with_reducible rfl
                    try simp only [Act.put, List.setIfInBounds_toArray, List.set_cons_zero, List.set_cons_succ]
                    refine wpAnyH_take (i := 13) (oi := { dst := some 81, op := Go.Op.fieldAddr 27 (Go.Operand.tmp 4) 6, type := 0, pos := "header.go:72", after := #[{ on := 0, ground := Go.Ground.phase }, { on := 1, ground := Go.Ground.phase }, { on := 2, ground := Go.Ground.phase }, { on := 3, ground := Go.Ground.phase }, { on := 4, ground := Go.Ground.phase }, { on := 5, ground := Go.Ground.phase }, { on := 6, ground := Go.Ground.phase }, { on := 7, ground := Go.Ground.phase }, { on := 8, ground := Go.Ground.phase }, { on := 9, ground := Go.Ground.phase }, { on := 10, ground := Go.Ground.phase }, { on := 11, ground := Go.Ground.phase }, { on := 12, ground := Go.Ground.phase }], guard := none }) (v := ?v1055) rfl (by kernel_rfl) (by kernel_rfl) (by kernel_rfl) (fun _ _ _ h => h) (Or.inl ⟨by rfl, ?y1055⟩) (by assumption) ?z1055
                    case y1055 => (intro w hSw; (try dsimp only at hSw); go_simp) <;> with_reducible rfl
                    try simp only [Act.put, List.setIfInBounds_toArray, List.set_cons_zero, List.set_cons_succ]
                    refine wpAnyH_ready (rs := [14]) (by kernel_rfl) (by simp) ?_
                    refine (AllReadyH.cons (o := { dst := none, op := Go.Op.store 4 (Go.Operand.tmp 81) (Go.Operand.tmp 80), type := 0, pos := "header.go:72", after := #[{ on := 13, ground := Go.Ground.data }, { on := 12, ground := Go.Ground.data }, { on := 11, ground := Go.Ground.chain }, { on := 0, ground := Go.Ground.phase }, { on := 1, ground := Go.Ground.phase }, { on := 2, ground := Go.Ground.phase }, { on := 3, ground := Go.Ground.phase }, { on := 4, ground := Go.Ground.phase }, { on := 5, ground := Go.Ground.phase }, { on := 6, ground := Go.Ground.phase }, { on := 7, ground := Go.Ground.phase }, { on := 8, ground := Go.Ground.phase }, { on := 9, ground := Go.Ground.phase }, { on := 10, ground := Go.Ground.phase }, { on := 11, ground := Go.Ground.phase }, { on := 12, ground := Go.Ground.phase }], guard := none }) rfl (fun K hK => ?_) AllReadyH.nil)
                    · skip
                      have hcc := A6.out.2.1
                      have hfz := A6.out.2.2
                      go_simp
                      clear hcc hfz
                      have A7 := Lib.hid (show Has (v1.setCell ⟨hb, 6, none⟩ (.bool (yy == sv))) hb #[.string ts, .int .i64 mk, .bool m.c, .bool m.b, .int .i64 bk, .int .i64 rv, .bool (yy == sv)] by
                        have := A6.out.set 6 (.bool (yy == sv)) (by simp)
                        simpa using this)
                      have B7 := Lib.hid (B6.out.setCell (p := ⟨hb, 6, none⟩) GA.out (.bool (yy == sv)))
                      have R7 := Lib.hid (R6.out.far ⟨hb, 6, none⟩ (.bool (yy == sv)) (fun e => NA.out e.symm))
                      refine hK.out _ _ ?s1056 (fun hNew => ?r1056)
                      case s1056 => exact ⟨C4.out _ B7.out, C5.out _ B7.out, trivial⟩
                      clear hK K hHeld
                      generalize v1.setCell ⟨hb, 6, none⟩ (.bool (yy == sv)) = v2 at A7 B7 R7 ⊢
                      clear hNew
                      refine wpAnyH_done (by kernel_rfl) ?_ _
                      have hcc := A7.out.2.1
                      have hfz := A7.out.2.2
                      have hrc := R7.out.2.1
                      have hrf := R7.out.2.2
                      have nhb : ¬ hb = R := fun e => NA.out e.symm
                      have nRh : ¬ R = hb := NA.out
                      go_wp2
                      refine bodyPost_ret (v := .tuple #[.agg #[.string ts, .int .i64 mk, .bool m.c, .bool m.b, .int .i64 bk, .int .i64 rv, .bool (yy == sv)], .int .i64 0]) (by simp [results, Tryd.results11, go_sem, hrc]) rfl ⟨?_, bput7 B7.out LR.out _ _ _ _ _ _ _⟩
                      rw [EE.out.1, EE.out.2, head_of n f x m i j bk rv ts mk yy sv HX.out MH.out MB.out HI.out HJ.out BK.out RV.out TI.out MK.out (by rw [Y4.out, Y5.out]; exact YY.out) SV.out]
                      rfl
              · have EE := Lib.hid (par_size n f PP.out (by rw [HX.out]; exact MB.out) RG.out (by rw [HI.out, BK.out]; exact hs))
                have hsb : ((n : Int) != bk * 16384) = true := by simpa using hs
                have hrc := R2.out.2.1
                have hrf := R2.out.2.2
                clear hs
                go_wp2
                refine bodyPost_ret (v := .tuple #[.agg noH.cells, .int .i64 6]) (by simp [results, Tryd.results11, go_sem, noH, HV.cells, hrc]; rfl) rfl ⟨by rw [EE.out.1, EE.out.2], ?_⟩
                exact bput7 B2.out LR.out _ _ _ _ _ _ _
    · skip
      go_simp
      have q := own1 u1 (.cells #[.string { data := #[] }, .int .i64 0, .bool false, .bool false, .int .i64 0, .int .i64 0, .bool false] 27)
      have B2 := Lib.hid (via B1.out q)
      have R2 := Lib.hid (R1.out.below q)
      have A2 := Lib.hid (Has.new u1 #[.string { data := #[] }, .int .i64 0, .bool false, .bool false, .int .i64 0, .int .i64 0, .bool false] 27)
      have NA := Lib.hid (show R ≠ u1.heap.size by have := R1.out.1; omega)
      have GA := Lib.hid (show w.heap.size ≤ u1.heap.size from B1.out.size)
      have M2 := Lib.hid (M1.out.below q)
      clear q
      refine hK.out _ _ ?s12 (fun hNew => ?r12)
      case s12 => exact ⟨HT.out _ ((H.out.below HL.out B2.out) 327 (by have := N0.out; omega)), trivial⟩
      clear hK K hHeld
      have hHeld := hNew
      clear hNew
      generalize (u1.alloc (.cells #[.string { data := #[] }, .int .i64 0, .bool false, .bool false, .int .i64 0, .int .i64 0, .bool false] 27)) = u2 at hHeld B2 R2 A2 M2 ⊢
      generalize u1.heap.size = hb at A2 NA GA ⊢
      refine wpAnyH_ready (rs := [4]) (by kernel_rfl) (by simp) ?_
      refine (AllReadyH.cons (o := { dst := some 24, op := Go.Op.lookup 49 (Go.Operand.tmp 20) (Go.Operand.tmp 23) true, type := 48, pos := "header.go:56", after := #[{ on := 0, ground := Go.Ground.data }, { on := 3, ground := Go.Ground.data }], guard := none }) rfl (fun K hK => ?_) AllReadyH.nil)
      · skip
        have hlk := look_run' u2 mb x m m0 MX.out M2.out x0 x1
        go_simp
        refine hK.out _ _ ?s13 (fun hNew => ?r13)
        case s13 => exact hHeld
        clear hK K hHeld hlk
        have hHeld := hNew
        clear hNew
        try simp only [Act.put, List.setIfInBounds_toArray, List.set_cons_zero, List.set_cons_succ]
        obtain ⟨u3, hu⟩ : ∃ q_, q_ = u2 := ⟨_, rfl⟩
        rw [← hu] at hHeld B2 R2 M2 A2 ⊢
        clear hu
        have B3 := B2
        have R3 := R2
        have M3 := M2
        have A3 := A2
        refine wpAnyH_take (i := 5) (oi := { dst := some 19, op := Go.Op.move (Go.Operand.tmp 24), type := 48, pos := "header.go:56", after := #[{ on := 4, ground := Go.Ground.data }], guard := none }) (v := ?v14) rfl (by kernel_rfl) (by kernel_rfl) (by kernel_rfl) (fun _ _ _ h => h) (Or.inl ⟨by rfl, ?y14⟩) (by assumption) ?z14
        case y14 => (intro w hSw; (try dsimp only at hSw); go_simp) <;> with_reducible rfl
        try simp only [Act.put, List.setIfInBounds_toArray, List.set_cons_zero, List.set_cons_succ]
        refine wpAnyH_take (i := 6) (oi := { dst := some 25, op := Go.Op.extract (Go.Operand.tmp 19) 0, type := 27, pos := "header.go:56", after := #[{ on := 5, ground := Go.Ground.data }], guard := none }) (v := ?v15) rfl (by kernel_rfl) (by kernel_rfl) (by kernel_rfl) (fun _ _ _ h => h) (Or.inl ⟨by rfl, ?y15⟩) (by assumption) ?z15
        case y15 => (intro w hSw; (try dsimp only at hSw); go_simp) <;> with_reducible rfl
        try simp only [Act.put, List.setIfInBounds_toArray, List.set_cons_zero, List.set_cons_succ]
        refine wpAnyH_take (i := 7) (oi := { dst := some 26, op := Go.Op.extract (Go.Operand.tmp 19) 1, type := 4, pos := "header.go:56", after := #[{ on := 5, ground := Go.Ground.data }, { on := 9, ground := Go.Ground.gcOnly Go.Departure.lateStores }], guard := none }) (v := ?v16) rfl (by kernel_rfl) (by kernel_rfl) (by kernel_rfl) (fun _ _ _ h => h) (Or.inl ⟨by rfl, ?y16⟩) (by assumption) ?z16
        case y16 => (intro w hSw; (try dsimp only at hSw); go_simp) <;> with_reducible rfl
        try simp only [Act.put, List.setIfInBounds_toArray, List.set_cons_zero, List.set_cons_succ]
        refine wpAnyH_ready (rs := [9]) (by kernel_rfl) (by simp) ?_
        refine (AllReadyH.cons (o := { dst := none, op := Go.Op.store 27 (Go.Operand.tmp 4) (Go.Operand.tmp 25), type := 0, pos := "header.go:56", after := #[{ on := 8, ground := Go.Ground.data }, { on := 6, ground := Go.Ground.data }, { on := 0, ground := Go.Ground.chain }, { on := 0, ground := Go.Ground.phase }, { on := 1, ground := Go.Ground.phase }, { on := 2, ground := Go.Ground.phase }, { on := 3, ground := Go.Ground.phase }, { on := 4, ground := Go.Ground.phase }, { on := 5, ground := Go.Ground.phase }, { on := 6, ground := Go.Ground.phase }, { on := 7, ground := Go.Ground.textOnly Go.Departure.lateStores }, { on := 8, ground := Go.Ground.phase }], guard := none }) rfl (fun K hK => ?_) AllReadyH.nil)
        · skip
          have hfz := A3.out.2.2
          have hcl := A3.out.2.1
          go_simp
          clear hfz hcl
          have A4 := Lib.hid (A3.out.put7 (.string m.t) (.int .i64 m.k) (.bool m.c) (.bool m.b) (.int .i64 m.n) (.int .i64 m.r) (.bool m.w))
          have B4 := Lib.hid (bput7 B3.out GA.out (.string m.t) (.int .i64 m.k) (.bool m.c) (.bool m.b) (.int .i64 m.n) (.int .i64 m.r) (.bool m.w))
          have R4 := Lib.hid (R3.out.fput7 NA.out (.string m.t) (.int .i64 m.k) (.bool m.c) (.bool m.b) (.int .i64 m.n) (.int .i64 m.r) (.bool m.w))
          refine hK.out _ _ ?s17 (fun hNew => ?r17)
          case s17 => exact ⟨HT.out _ ((H.out.below HL.out B4.out) 327 (by have := N0.out; omega)), trivial⟩
          clear hK K hHeld
          have hHeld := hNew
          clear hNew
          generalize (World.setCell (World.setCell (World.setCell (World.setCell (World.setCell (World.setCell (World.setCell u3 ⟨hb, 0, none⟩ (.string m.t)) ⟨hb, 1, none⟩ (.int .i64 m.k)) ⟨hb, 2, none⟩ (.bool m.c)) ⟨hb, 3, none⟩ (.bool m.b)) ⟨hb, 4, none⟩ (.int .i64 m.n)) ⟨hb, 5, none⟩ (.int .i64 m.r)) ⟨hb, 6, none⟩ (.bool m.w)) = u4 at hHeld B4 R4 A4 ⊢
          refine wpAnyH_take (i := 10) (oi := { dst := some 5, op := Go.Op.assign (Go.Operand.tmp 26), type := 4, pos := "header.go:56", after := #[{ on := 7, ground := Go.Ground.data }, { on := 9, ground := Go.Ground.chain }, { on := 0, ground := Go.Ground.phase }, { on := 1, ground := Go.Ground.phase }, { on := 2, ground := Go.Ground.phase }, { on := 3, ground := Go.Ground.phase }, { on := 4, ground := Go.Ground.phase }, { on := 5, ground := Go.Ground.phase }, { on := 6, ground := Go.Ground.phase }, { on := 7, ground := Go.Ground.phase }, { on := 8, ground := Go.Ground.phase }, { on := 9, ground := Go.Ground.phase }], guard := none }) (v := ?v18) rfl (by kernel_rfl) (by kernel_rfl) (by kernel_rfl) (fun _ _ _ h => h) (Or.inl ⟨by rfl, ?y18⟩) (by assumption) ?z18
          case y18 => (intro w hSw; (try dsimp only at hSw); go_simp) <;> with_reducible rfl
          try simp only [Act.put, List.setIfInBounds_toArray, List.set_cons_zero, List.set_cons_succ]
          refine wpAnyH_done (by kernel_rfl) ?_ _
          have BB := B4
          have RR := R4
          have AA := A4
          generalize u4 = u at BB RR AA ⊢
          clear hHeld
          clear MX
          have PP := Lib.hid (perr_of n f h0 HSC.out)
          obtain ⟨i, hi⟩ : ∃ i : Nat, f 328 = i := ⟨(f 328).toNat, by have := (OK.out 328).1; omega⟩
          obtain ⟨j, hj⟩ : ∃ j : Nat, f 329 = j := ⟨(f 329).toNat, by have := (OK.out 329).1; omega⟩
          have i256 : i < 256 := by have := (OK.out 328).2; omega
          have j256 : j < 256 := by have := (OK.out 329).2; omega
          have HI := Lib.hid hi
          have HJ := Lib.hid hj
          clear hi hj
          cases m0 with
          | false =>
            have hfz := RR.out.2.2
            have hcc := RR.out.2.1
            go_wp2
            refine bodyPost_ret (v := .tuple #[.agg noH.cells, .int .i64 5]) (by simp [results, Tryd.results11, go_sem, noH, HV.cells, hcc]; rfl) rfl ⟨by rw [(par_kind n f PP.out (by rw [HX.out]; exact MB.out)).1, (par_kind n f PP.out (by rw [HX.out]; exact MB.out)).2], ?_⟩
            exact bput7 BB.out LR.out _ _ _ _ _ _ _
          | true =>
            have c8 := (H.out.below HL.out BB.out) 328 (by omega)
            have c9 := (H.out.below HL.out BB.out) 329 (by omega)
            rw [HI.out] at c8
            rw [HJ.out] at c9
            have i8 : (328 : Int) < n := by omega
            have i9 : (329 : Int) < n := by omega
            go_upto_region 8 with (fail)
            go_quiet (fail)
            have B1 := Lib.hid (via BB.out (bdrewN u nq))
            have R1 := Lib.hid (RR.out.below (bdrewN u nq))
            have A1 := Lib.hid (AA.out.below (bdrewN u nq))
            generalize u.drewN nq = u1 at B1 R1 A1 ⊢
            clear BB RR AA c8 c9
            by_cases hr : 9 ≤ i ∨ 6 ≤ j
            · have hfz := R1.out.2.2
              have hcc := R1.out.2.1
              have EE := Lib.hid (par_range n f PP.out (by rw [HX.out]; exact MB.out) (by rw [HI.out, HJ.out]; omega))
              by_cases h8 : 9 ≤ i
              · have h8I : (9 : Int) ≤ i := by omega
                clear hr
                go_wp2
                refine bodyPost_ret (v := .tuple #[.agg noH.cells, .int .i64 7]) (by simp [results, Tryd.results11, go_sem, noH, HV.cells, hcc]; rfl) rfl ⟨by rw [EE.out.1, EE.out.2], ?_⟩
                exact bput7 B1.out LR.out _ _ _ _ _ _ _
              · have h8I : ¬ (9 : Int) ≤ i := by omega
                have h9I : (6 : Int) ≤ j := by omega
                clear hr
                go_wp2
                refine bodyPost_ret (v := .tuple #[.agg noH.cells, .int .i64 7]) (by simp [results, Tryd.results11, go_sem, noH, HV.cells, hcc]; rfl) rfl ⟨by rw [EE.out.1, EE.out.2], ?_⟩
                exact bput7 B1.out LR.out _ _ _ _ _ _ _
            · have hi9 : i < 9 := by omega
              have hj6 : j < 6 := by omega
              have RG := Lib.hid (show ¬ (8 < f 328 ∨ 5 < f 329) by rw [HI.out, HJ.out]; omega)
              have g0 := (GG.out.below B1.out).bk i hi9
              have g1 := (GG.out.below B1.out).rm j hj6
              have bb := bank_bd i hi9
              obtain ⟨bk, hbk⟩ : ∃ q_, bankV i = q_ := ⟨_, rfl⟩
              obtain ⟨rm, hrm⟩ : ∃ q_, ramT j = q_ := ⟨_, rfl⟩
              rw [hbk] at g0 bb
              rw [hrm] at g1
              have BK := Lib.hid hbk
              have RM := Lib.hid hrm
              have h8I : ¬ (9 : Int) ≤ i := by omega
              have h9I : ¬ (6 : Int) ≤ j := by omega
              have h8J : (i : Int) < 9 := by omega
              have h9J : (j : Int) < 6 := by omega
              have iz : (0 : Int) ≤ i := by omega
              have jz : (0 : Int) ≤ j := by omega
              have hfz := A1.out.2.2
              have hcc := A1.out.2.1
              have g2 : (u1.setCell ⟨hb, 4, none⟩ (.int .i64 bk)).cell? ⟨1, j, none⟩ = some (.int .i64 rm) := by
                rw [World.cell?_setCell_other u1 _ _ _ (by intro h; injection h with h _; have := GA.out; have := GG.out.lt; omega)]
                exact g1
              clear hr hbk hrm
              go_upto_region 11 with (fail)
              go_region
              clear hfz hcc g0 g1 g2
              have A2 := Lib.hid (show Has ((u1.setCell ⟨hb, 4, none⟩ (.int .i64 bk)).setCell ⟨hb, 5, none⟩ (.int .i64 rm)).drew hb #[.string m.t, .int .i64 m.k, .bool m.c, .bool m.b, .int .i64 bk, .int .i64 rm, .bool m.w] by
                have := (((A1.out.set 4 (.int .i64 bk) (by simp)).set 5 (.int .i64 rm) (by simp))).drew
                simpa using this)
              have B2 := Lib.hid (show Below w.heap.size w ((u1.setCell ⟨hb, 4, none⟩ (.int .i64 bk)).setCell ⟨hb, 5, none⟩ (.int .i64 rm)).drew from ((B1.out.setCell (p := ⟨hb, 4, none⟩) GA.out _).setCell (p := ⟨hb, 5, none⟩) GA.out _).drew)
              have R2 := Lib.hid (show Has ((u1.setCell ⟨hb, 4, none⟩ (.int .i64 bk)).setCell ⟨hb, 5, none⟩ (.int .i64 rm)).drew R #[.string { data := #[] }, .int .i64 0, .bool false, .bool false, .int .i64 0, .int .i64 0, .bool false] from ((R1.out.far ⟨hb, 4, none⟩ _ (fun e => NA.out e.symm)).far ⟨hb, 5, none⟩ _ (fun e => NA.out e.symm)).drew)
              generalize ((u1.setCell ⟨hb, 4, none⟩ (.int .i64 bk)).setCell ⟨hb, 5, none⟩ (.int .i64 rm)).drew = u2 at A2 B2 R2 ⊢
              clear A1 B1 R1
              have hcc := A2.out.2.1
              have hfz := A2.out.2.2
              by_cases hs : (n : Int) = bk * 16384
              · have EE := Lib.hid (par_ok n f PP.out (by rw [HX.out]; exact MB.out) RG.out (by rw [HI.out, BK.out]; exact hs))
                have hsb : ((n : Int) != bk * 16384) = false := by simpa using hs
                have HSZ := Lib.hid hs
                clear hs
                obtain ⟨mk, hmk⟩ : ∃ q_, m.k = q_ := ⟨_, rfl⟩
                rw [hmk] at A2 hcc ⊢
                have MK := Lib.hid hmk
                clear hmk
                by_cases hk2 : mk = 2
                · subst hk2
                  go_upto_region 16 with (fail)
                  clear hcc hfz
                  have A3 := Lib.hid (show Has (u2.setCell ⟨hb, 5, none⟩ (.int .i64 512)) hb #[.string m.t, .int .i64 2, .bool m.c, .bool m.b, .int .i64 bk, .int .i64 512, .bool m.w] by
                    have := A2.out.set 5 (.int .i64 512) (by simp)
                    simpa using this)
                  have B3 := Lib.hid (B2.out.setCell (p := ⟨hb, 5, none⟩) GA.out (.int .i64 512))
                  have R3 := Lib.hid (R2.out.far ⟨hb, 5, none⟩ (.int .i64 512) (fun e => NA.out e.symm))
                  generalize u2.setCell ⟨hb, 5, none⟩ (.int .i64 512) = u3 at A3 B3 R3 ⊢
                  clear A2 B2 R2
                  have RV := Lib.hid (show ramV 2 j = 512 from rfl)
                  generalize (512 : Int) = rv at A3 RV
                  generalize (2 : Int) = mk at A3 RV MK ⊢
                  have TI := Lib.hid (tit_eq f)
                  obtain ⟨ts, hts⟩ : ∃ q_, (⟨(titB (fun j => f (308 + j)) (zl (fun j => f (308 + j)) 0 15)).toArray⟩ : ByteArray) = q_ := ⟨_, rfl⟩
                  have TC := Lib.hid (title_c b (o + 308) 15 (c - 308) (fun j => f (308 + j)) u3 (by omega) (by omega) (Nat.lt_of_lt_of_le HL.out B3.out.size) ((H.out.below HL.out B3.out).part 308 15 (by omega)) (fun j => OK.out _))
                  rw [hts] at TC TI
                  clear hts
                  go_wp2_with fail
                  with_reducible refine TC.out.mono ?_
                  rintro e u4 ⟨rfl, hb4⟩
                  have A4 := Lib.hid (A3.out.below hb4)
                  have B4 := Lib.hid (via B3.out hb4)
                  have R4 := Lib.hid (R3.out.below hb4)
                  clear hb4 A3 B3 R3 TC
                  have hcc := A4.out.2.1
                  have hfz := A4.out.2.2
                  go_upto_region 17 with (fail)
                  clear hcc hfz
                  have A5 := Lib.hid (show Has (u4.setCell ⟨hb, 0, none⟩ (.string ts)).drew hb #[.string ts, .int .i64 mk, .bool m.c, .bool m.b, .int .i64 bk, .int .i64 rv, .bool m.w] by
                    have := (A4.out.set 0 (.string ts) (by simp)).drew
                    simpa using this)
                  have B5 := Lib.hid (B4.out.setCell (p := ⟨hb, 0, none⟩) GA.out (.string ts)).drew
                  have R5 := Lib.hid (R4.out.far ⟨hb, 0, none⟩ (.string ts) (fun e => NA.out e.symm)).drew
                  clear A4 B4 R4
                  obtain ⟨y4, hy4⟩ : ∃ q_, f 334 = q_ := ⟨_, rfl⟩
                  obtain ⟨y5, hy5⟩ : ∃ q_, f 335 = q_ := ⟨_, rfl⟩
                  have y40 := (OK.out 334).1
                  have y41 := (OK.out 334).2
                  have y50 := (OK.out 335).1
                  have y51 := (OK.out 335).2
                  rw [hy4] at y40 y41
                  rw [hy5] at y50 y51
                  have Y4 := Lib.hid hy4
                  have Y5 := Lib.hid hy5
                  clear hy4 hy5
                  have C4 := Lib.hid (fun (W : World) (hB : Below w.heap.size w W) => show W.cell? ⟨b, o + 334, none⟩ = some (.int .u8 y4) by rw [← Y4.out]; exact (H.out.below HL.out hB) 334 (by omega))
                  have C5 := Lib.hid (fun (W : World) (hB : Below w.heap.size w W) => show W.cell? ⟨b, o + 335, none⟩ = some (.int .u8 y5) by rw [← Y5.out]; exact (H.out.below HL.out hB) 335 (by omega))
                  have i4 : (334 : Int) < n := by omega
                  have i5 : (335 : Int) < n := by omega
                  obtain ⟨sv, hsv⟩ : ∃ q_, sumV n f = q_ := ⟨_, rfl⟩
                  have SV := Lib.hid hsv
                  have SC := Lib.hid (fun (W : World) (hB : Below w.heap.size w W) => show Calls Tryd.prog 15 #[.slice (some ⟨b, o, none⟩) n c] W (fun e w' => e = .returned (.int .u16 sv) ∧ Below W.heap.size W w') by rw [← SV.out]; exact (sum_l b o n c f W N0.out N1.out hc (H.out.below HL.out hB) OK.out).mono (fun _ _ h => ⟨h.1, by obtain ⟨q, h2⟩ := h.2; rw [h2]; exact bdrewN _ _⟩))
                  have hor := or_word y4 y5 y40 y41 y50 y51
                  generalize hyy : y4 * 256 + y5 = yy at hor
                  have YY := Lib.hid hyy
                  clear hyy
                  clear hsv
                  refine wp_region_held_drew (S := (fun w' => (w'.cell? ⟨b, o + 334, none⟩ = some (.int .u8 y4)) ∧ (w'.cell? ⟨b, o + 335, none⟩ = some (.int .u8 y5)) ∧ True)) (by kernel_rfl) ⟨C4.out _ B5.out, C5.out _ B5.out, trivial⟩ (fun hHeld => ?_)
                  generalize World.drew (u4.setCell ⟨hb, 0, none⟩ (.string ts)) = v0 at hHeld A5 B5 R5 ⊢
                  refine wpAnyH_take (i := 0) (oi := { dst := some 68, op := Go.Op.move (Go.Operand.tmp 0), type := 24, pos := "header.go:72", after := #[], guard := none }) (v := ?v2027) rfl (by kernel_rfl) (by kernel_rfl) (by kernel_rfl) (fun _ _ _ h => h) (Or.inl ⟨by rfl, ?y2027⟩) (by assumption) ?z2027
                  case y2027 => (intro w hSw; (try dsimp only at hSw); go_simp) <;> with_reducible rfl
                  try simp only [Act.put, List.setIfInBounds_toArray, List.set_cons_zero, List.set_cons_succ]
                  refine wpAnyH_take (i := 1) (oi := { dst := some 69, op := Go.Op.indexAddr 24 (Go.Operand.tmp 68) (Go.Operand.const (Go.Value.int Go.IntKind.i64 334)), type := 0, pos := "header.go:72", after := #[{ on := 0, ground := Go.Ground.data }], guard := none }) (v := ?v2028) rfl (by kernel_rfl) (by kernel_rfl) (by kernel_rfl) (fun _ _ _ h => h) (Or.inl ⟨by rfl, ?y2028⟩) (by assumption) ?z2028
                  case y2028 => (intro w hSw; (try dsimp only at hSw); go_simp) <;> with_reducible rfl
                  try simp only [Act.put, List.setIfInBounds_toArray, List.set_cons_zero, List.set_cons_succ]
                  refine wpAnyH_take (i := 2) (oi := { dst := some 70, op := Go.Op.load 5 (Go.Operand.tmp 69), type := 5, pos := "header.go:72", after := #[{ on := 1, ground := Go.Ground.data }], guard := none }) (v := ?v2029) rfl (by kernel_rfl) (by kernel_rfl) (by kernel_rfl) (fun _ _ _ h => h) (Or.inl ⟨by rfl, ?y2029⟩) (by assumption) ?z2029
                  case y2029 => (intro w hSw; (try dsimp only at hSw); go_simp) <;> with_reducible rfl
                  try simp only [Act.put, List.setIfInBounds_toArray, List.set_cons_zero, List.set_cons_succ]
                  refine wpAnyH_take (i := 3) (oi := { dst := some 71, op := Go.Op.convert 5 35 (Go.Operand.tmp 70), type := 35, pos := "header.go:72", after := #[{ on := 2, ground := Go.Ground.data }], guard := none }) (v := ?v2030) rfl (by kernel_rfl) (by kernel_rfl) (by kernel_rfl) (fun _ _ _ h => h) (Or.inl ⟨by rfl, ?y2030⟩) (by assumption) ?z2030
                  case y2030 => (intro w hSw; (try dsimp only at hSw); go_simp) <;> with_reducible rfl
                  try simp only [Act.put, List.setIfInBounds_toArray, List.set_cons_zero, List.set_cons_succ]
                  refine wpAnyH_take (i := 4) (oi := { dst := some 72, op := Go.Op.binOp Go.BinOp.shl 35 (Go.Operand.tmp 71) (Go.Operand.const (Go.Value.int Go.IntKind.u64 8)) 43, type := 35, pos := "header.go:72", after := #[{ on := 3, ground := Go.Ground.data }], guard := none }) (v := ?v2031) rfl (by kernel_rfl) (by kernel_rfl) (by kernel_rfl) (fun _ _ _ h => h) (Or.inl ⟨by rfl, ?y2031⟩) (by assumption) ?z2031
                  case y2031 => (intro w hSw; (try dsimp only at hSw); go_simp) <;> with_reducible rfl
                  try simp only [Act.put, List.setIfInBounds_toArray, List.set_cons_zero, List.set_cons_succ]
                  refine wpAnyH_take (i := 5) (oi := { dst := some 73, op := Go.Op.move (Go.Operand.tmp 0), type := 24, pos := "header.go:72", after := #[], guard := none }) (v := ?v2032) rfl (by kernel_rfl) (by kernel_rfl) (by kernel_rfl) (fun _ _ _ h => h) (Or.inl ⟨by rfl, ?y2032⟩) (by assumption) ?z2032
                  case y2032 => (intro w hSw; (try dsimp only at hSw); go_simp) <;> with_reducible rfl
                  try simp only [Act.put, List.setIfInBounds_toArray, List.set_cons_zero, List.set_cons_succ]
                  refine wpAnyH_take (i := 6) (oi := { dst := some 74, op := Go.Op.indexAddr 24 (Go.Operand.tmp 73) (Go.Operand.const (Go.Value.int Go.IntKind.i64 335)), type := 0, pos := "header.go:72", after := #[{ on := 5, ground := Go.Ground.data }], guard := none }) (v := ?v2033) rfl (by kernel_rfl) (by kernel_rfl) (by kernel_rfl) (fun _ _ _ h => h) (Or.inl ⟨by rfl, ?y2033⟩) (by assumption) ?z2033
                  case y2033 => (intro w hSw; (try dsimp only at hSw); go_simp) <;> with_reducible rfl
                  try simp only [Act.put, List.setIfInBounds_toArray, List.set_cons_zero, List.set_cons_succ]
                  refine wpAnyH_take (i := 7) (oi := { dst := some 75, op := Go.Op.load 5 (Go.Operand.tmp 74), type := 5, pos := "header.go:72", after := #[{ on := 6, ground := Go.Ground.data }], guard := none }) (v := ?v2034) rfl (by kernel_rfl) (by kernel_rfl) (by kernel_rfl) (fun _ _ _ h => h) (Or.inl ⟨by rfl, ?y2034⟩) (by assumption) ?z2034
                  case y2034 => (intro w hSw; (try dsimp only at hSw); go_simp) <;> with_reducible rfl
                  try simp only [Act.put, List.setIfInBounds_toArray, List.set_cons_zero, List.set_cons_succ]
                  refine wpAnyH_take (i := 8) (oi := { dst := some 76, op := Go.Op.convert 5 35 (Go.Operand.tmp 75), type := 35, pos := "header.go:72", after := #[{ on := 7, ground := Go.Ground.data }], guard := none }) (v := ?v2035) rfl (by kernel_rfl) (by kernel_rfl) (by kernel_rfl) (fun _ _ _ h => h) (Or.inl ⟨by rfl, ?y2035⟩) (by assumption) ?z2035
                  case y2035 => (intro w hSw; (try dsimp only at hSw); go_simp) <;> with_reducible rfl
                  try simp only [Act.put, List.setIfInBounds_toArray, List.set_cons_zero, List.set_cons_succ]
                  refine wpAnyH_take (i := 9) (oi := { dst := some 77, op := Go.Op.binOp Go.BinOp.or 35 (Go.Operand.tmp 72) (Go.Operand.tmp 76) 35, type := 35, pos := "header.go:72", after := #[{ on := 4, ground := Go.Ground.data }, { on := 8, ground := Go.Ground.data }], guard := none }) (v := ?v2036) rfl (by kernel_rfl) (by kernel_rfl) (by kernel_rfl) (fun _ _ _ h => h) (Or.inl ⟨by rfl, ?y2036⟩) (by assumption) ?z2036
                  case y2036 => (intro w hSw; (try dsimp only at hSw); go_simp) <;> with_reducible rfl
                  try simp only [Act.put, List.setIfInBounds_toArray, List.set_cons_zero, List.set_cons_succ]
                  refine wpAnyH_take (i := 10) (oi := { dst := some 78, op := Go.Op.move (Go.Operand.tmp 0), type := 24, pos := "header.go:72", after := #[], guard := none }) (v := ?v2037) rfl (by kernel_rfl) (by kernel_rfl) (by kernel_rfl) (fun _ _ _ h => h) (Or.inl ⟨by rfl, ?y2037⟩) (by assumption) ?z2037
                  case y2037 => (intro w hSw; (try dsimp only at hSw); go_simp) <;> with_reducible rfl
                  try simp only [Act.put, List.setIfInBounds_toArray, List.set_cons_zero, List.set_cons_succ]
                  refine wpAnyH_ready (rs := [11]) (by kernel_rfl) (by simp) ?_
                  refine (AllReadyH.cons (o := { dst := some 79, op := Go.Op.call { callee := Go.Callee.value (Go.Operand.func 15), args := #[Go.Operand.tmp 78], argTypes := #[24] }, type := 35, pos := "header.go:72", after := #[{ on := 10, ground := Go.Ground.data }], guard := none }) rfl (fun K hK => ?_) AllReadyH.nil)
                  · skip
                    go_simp
                    go_wp2_with (go_at_call 15; (with_reducible refine (SC.out v0 B5.out).mono ?_); rintro e v1 ⟨rfl, hb6⟩)
                    have A6 := Lib.hid (A5.out.below hb6)
                    have B6 := Lib.hid (via B5.out hb6)
                    have R6 := Lib.hid (R5.out.below hb6)
                    clear hb6
                    refine hK.out _ _ ?s2038 (fun hNew => ?r2038)
                    case s2038 => exact ⟨C4.out _ B6.out, C5.out _ B6.out, trivial⟩
                    clear hK K hHeld
                    have hHeld := hNew
                    clear hNew
                    refine wpAnyH_take (i := 12) (oi := { dst := some 80, op := Go.Op.binOp Go.BinOp.eql 35 (Go.Operand.tmp 77) (Go.Operand.tmp 79) 35, type := 4, pos := "header.go:72", after := #[{ on := 9, ground := Go.Ground.data }, { on := 11, ground := Go.Ground.data }], guard := none }) (v := ?v2039) rfl (by kernel_rfl) (by kernel_rfl) (by kernel_rfl) (fun _ _ _ h => h) (Or.inl ⟨by rfl, ?y2039⟩) (by assumption) ?z2039
                    case y2039 => (intro w hSw; (try dsimp only at hSw); go_simp) <;> with_reducible rfl
                    try simp only [Act.put, List.setIfInBounds_toArray, List.set_cons_zero, List.set_cons_succ]
                    refine wpAnyH_take (i := 13) (oi := { dst := some 81, op := Go.Op.fieldAddr 27 (Go.Operand.tmp 4) 6, type := 0, pos := "header.go:72", after := #[{ on := 0, ground := Go.Ground.phase }, { on := 1, ground := Go.Ground.phase }, { on := 2, ground := Go.Ground.phase }, { on := 3, ground := Go.Ground.phase }, { on := 4, ground := Go.Ground.phase }, { on := 5, ground := Go.Ground.phase }, { on := 6, ground := Go.Ground.phase }, { on := 7, ground := Go.Ground.phase }, { on := 8, ground := Go.Ground.phase }, { on := 9, ground := Go.Ground.phase }, { on := 10, ground := Go.Ground.phase }, { on := 11, ground := Go.Ground.phase }, { on := 12, ground := Go.Ground.phase }], guard := none }) (v := ?v2040) rfl (by kernel_rfl) (by kernel_rfl) (by kernel_rfl) (fun _ _ _ h => h) (Or.inl ⟨by rfl, ?y2040⟩) (by assumption) ?z2040
                    case y2040 => (intro w hSw; (try dsimp only at hSw); go_simp) <;> with_reducible rfl
                    try simp only [Act.put, List.setIfInBounds_toArray, List.set_cons_zero, List.set_cons_succ]
                    refine wpAnyH_ready (rs := [14]) (by kernel_rfl) (by simp) ?_
                    refine (AllReadyH.cons (o := { dst := none, op := Go.Op.store 4 (Go.Operand.tmp 81) (Go.Operand.tmp 80), type := 0, pos := "header.go:72", after := #[{ on := 13, ground := Go.Ground.data }, { on := 12, ground := Go.Ground.data }, { on := 11, ground := Go.Ground.chain }, { on := 0, ground := Go.Ground.phase }, { on := 1, ground := Go.Ground.phase }, { on := 2, ground := Go.Ground.phase }, { on := 3, ground := Go.Ground.phase }, { on := 4, ground := Go.Ground.phase }, { on := 5, ground := Go.Ground.phase }, { on := 6, ground := Go.Ground.phase }, { on := 7, ground := Go.Ground.phase }, { on := 8, ground := Go.Ground.phase }, { on := 9, ground := Go.Ground.phase }, { on := 10, ground := Go.Ground.phase }, { on := 11, ground := Go.Ground.phase }, { on := 12, ground := Go.Ground.phase }], guard := none }) rfl (fun K hK => ?_) AllReadyH.nil)
                    · skip
                      have hcc := A6.out.2.1
                      have hfz := A6.out.2.2
                      go_simp
                      clear hcc hfz
                      have A7 := Lib.hid (show Has (v1.setCell ⟨hb, 6, none⟩ (.bool (yy == sv))) hb #[.string ts, .int .i64 mk, .bool m.c, .bool m.b, .int .i64 bk, .int .i64 rv, .bool (yy == sv)] by
                        have := A6.out.set 6 (.bool (yy == sv)) (by simp)
                        simpa using this)
                      have B7 := Lib.hid (B6.out.setCell (p := ⟨hb, 6, none⟩) GA.out (.bool (yy == sv)))
                      have R7 := Lib.hid (R6.out.far ⟨hb, 6, none⟩ (.bool (yy == sv)) (fun e => NA.out e.symm))
                      refine hK.out _ _ ?s2041 (fun hNew => ?r2041)
                      case s2041 => exact ⟨C4.out _ B7.out, C5.out _ B7.out, trivial⟩
                      clear hK K hHeld
                      generalize v1.setCell ⟨hb, 6, none⟩ (.bool (yy == sv)) = v2 at A7 B7 R7 ⊢
                      clear hNew
                      refine wpAnyH_done (by kernel_rfl) ?_ _
                      have hcc := A7.out.2.1
                      have hfz := A7.out.2.2
                      have hrc := R7.out.2.1
                      have hrf := R7.out.2.2
                      have nhb : ¬ hb = R := fun e => NA.out e.symm
                      have nRh : ¬ R = hb := NA.out
                      go_wp2
                      refine bodyPost_ret (v := .tuple #[.agg #[.string ts, .int .i64 mk, .bool m.c, .bool m.b, .int .i64 bk, .int .i64 rv, .bool (yy == sv)], .int .i64 0]) (by simp [results, Tryd.results11, go_sem, hrc]) rfl ⟨?_, bput7 B7.out LR.out _ _ _ _ _ _ _⟩
                      rw [EE.out.1, EE.out.2, head_of n f x m i j bk rv ts mk yy sv HX.out MH.out MB.out HI.out HJ.out BK.out RV.out TI.out MK.out (by rw [Y4.out, Y5.out]; exact YY.out) SV.out]
                      rfl
                · have hk3 : (mk == 2) = false := by simpa using hk2
                  go_upto_region 16 with (fail)
                  have RV := Lib.hid (show ramV mk j = rm by unfold ramV; rw [if_neg hk2]; exact RM.out)
                  generalize rm = rv at A2 RV
                  have A3 := A2
                  have B3 := B2
                  have R3 := R2
                  generalize u2 = u3 at A3 B3 R3 ⊢
                  clear A2 B2 R2 hk2 hk3 hcc hfz
                  have TI := Lib.hid (tit_eq f)
                  obtain ⟨ts, hts⟩ : ∃ q_, (⟨(titB (fun j => f (308 + j)) (zl (fun j => f (308 + j)) 0 15)).toArray⟩ : ByteArray) = q_ := ⟨_, rfl⟩
                  have TC := Lib.hid (title_c b (o + 308) 15 (c - 308) (fun j => f (308 + j)) u3 (by omega) (by omega) (Nat.lt_of_lt_of_le HL.out B3.out.size) ((H.out.below HL.out B3.out).part 308 15 (by omega)) (fun j => OK.out _))
                  rw [hts] at TC TI
                  clear hts
                  go_wp2_with fail
                  with_reducible refine TC.out.mono ?_
                  rintro e u4 ⟨rfl, hb4⟩
                  have A4 := Lib.hid (A3.out.below hb4)
                  have B4 := Lib.hid (via B3.out hb4)
                  have R4 := Lib.hid (R3.out.below hb4)
                  clear hb4 A3 B3 R3 TC
                  have hcc := A4.out.2.1
                  have hfz := A4.out.2.2
                  go_upto_region 17 with (fail)
                  clear hcc hfz
                  have A5 := Lib.hid (show Has (u4.setCell ⟨hb, 0, none⟩ (.string ts)).drew hb #[.string ts, .int .i64 mk, .bool m.c, .bool m.b, .int .i64 bk, .int .i64 rv, .bool m.w] by
                    have := (A4.out.set 0 (.string ts) (by simp)).drew
                    simpa using this)
                  have B5 := Lib.hid (B4.out.setCell (p := ⟨hb, 0, none⟩) GA.out (.string ts)).drew
                  have R5 := Lib.hid (R4.out.far ⟨hb, 0, none⟩ (.string ts) (fun e => NA.out e.symm)).drew
                  clear A4 B4 R4
                  obtain ⟨y4, hy4⟩ : ∃ q_, f 334 = q_ := ⟨_, rfl⟩
                  obtain ⟨y5, hy5⟩ : ∃ q_, f 335 = q_ := ⟨_, rfl⟩
                  have y40 := (OK.out 334).1
                  have y41 := (OK.out 334).2
                  have y50 := (OK.out 335).1
                  have y51 := (OK.out 335).2
                  rw [hy4] at y40 y41
                  rw [hy5] at y50 y51
                  have Y4 := Lib.hid hy4
                  have Y5 := Lib.hid hy5
                  clear hy4 hy5
                  have C4 := Lib.hid (fun (W : World) (hB : Below w.heap.size w W) => show W.cell? ⟨b, o + 334, none⟩ = some (.int .u8 y4) by rw [← Y4.out]; exact (H.out.below HL.out hB) 334 (by omega))
                  have C5 := Lib.hid (fun (W : World) (hB : Below w.heap.size w W) => show W.cell? ⟨b, o + 335, none⟩ = some (.int .u8 y5) by rw [← Y5.out]; exact (H.out.below HL.out hB) 335 (by omega))
                  have i4 : (334 : Int) < n := by omega
                  have i5 : (335 : Int) < n := by omega
                  obtain ⟨sv, hsv⟩ : ∃ q_, sumV n f = q_ := ⟨_, rfl⟩
                  have SV := Lib.hid hsv
                  have SC := Lib.hid (fun (W : World) (hB : Below w.heap.size w W) => show Calls Tryd.prog 15 #[.slice (some ⟨b, o, none⟩) n c] W (fun e w' => e = .returned (.int .u16 sv) ∧ Below W.heap.size W w') by rw [← SV.out]; exact (sum_l b o n c f W N0.out N1.out hc (H.out.below HL.out hB) OK.out).mono (fun _ _ h => ⟨h.1, by obtain ⟨q, h2⟩ := h.2; rw [h2]; exact bdrewN _ _⟩))
                  have hor := or_word y4 y5 y40 y41 y50 y51
                  generalize hyy : y4 * 256 + y5 = yy at hor
                  have YY := Lib.hid hyy
                  clear hyy
                  clear hsv
                  refine wp_region_held_drew (S := (fun w' => (w'.cell? ⟨b, o + 334, none⟩ = some (.int .u8 y4)) ∧ (w'.cell? ⟨b, o + 335, none⟩ = some (.int .u8 y5)) ∧ True)) (by kernel_rfl) ⟨C4.out _ B5.out, C5.out _ B5.out, trivial⟩ (fun hHeld => ?_)
                  generalize World.drew (u4.setCell ⟨hb, 0, none⟩ (.string ts)) = v0 at hHeld A5 B5 R5 ⊢
                  refine wpAnyH_take (i := 0) (oi := { dst := some 68, op := Go.Op.move (Go.Operand.tmp 0), type := 24, pos := "header.go:72", after := #[], guard := none }) (v := ?v2042) rfl (by kernel_rfl) (by kernel_rfl) (by kernel_rfl) (fun _ _ _ h => h) (Or.inl ⟨by rfl, ?y2042⟩) (by assumption) ?z2042
                  case y2042 => (intro w hSw; (try dsimp only at hSw); go_simp) <;> with_reducible rfl
                  try simp only [Act.put, List.setIfInBounds_toArray, List.set_cons_zero, List.set_cons_succ]
                  refine wpAnyH_take (i := 1) (oi := { dst := some 69, op := Go.Op.indexAddr 24 (Go.Operand.tmp 68) (Go.Operand.const (Go.Value.int Go.IntKind.i64 334)), type := 0, pos := "header.go:72", after := #[{ on := 0, ground := Go.Ground.data }], guard := none }) (v := ?v2043) rfl (by kernel_rfl) (by kernel_rfl) (by kernel_rfl) (fun _ _ _ h => h) (Or.inl ⟨by rfl, ?y2043⟩) (by assumption) ?z2043
                  case y2043 => (intro w hSw; (try dsimp only at hSw); go_simp) <;> with_reducible rfl
                  try simp only [Act.put, List.setIfInBounds_toArray, List.set_cons_zero, List.set_cons_succ]
                  refine wpAnyH_take (i := 2) (oi := { dst := some 70, op := Go.Op.load 5 (Go.Operand.tmp 69), type := 5, pos := "header.go:72", after := #[{ on := 1, ground := Go.Ground.data }], guard := none }) (v := ?v2044) rfl (by kernel_rfl) (by kernel_rfl) (by kernel_rfl) (fun _ _ _ h => h) (Or.inl ⟨by rfl, ?y2044⟩) (by assumption) ?z2044
                  case y2044 => (intro w hSw; (try dsimp only at hSw); go_simp) <;> with_reducible rfl
                  try simp only [Act.put, List.setIfInBounds_toArray, List.set_cons_zero, List.set_cons_succ]
                  refine wpAnyH_take (i := 3) (oi := { dst := some 71, op := Go.Op.convert 5 35 (Go.Operand.tmp 70), type := 35, pos := "header.go:72", after := #[{ on := 2, ground := Go.Ground.data }], guard := none }) (v := ?v2045) rfl (by kernel_rfl) (by kernel_rfl) (by kernel_rfl) (fun _ _ _ h => h) (Or.inl ⟨by rfl, ?y2045⟩) (by assumption) ?z2045
                  case y2045 => (intro w hSw; (try dsimp only at hSw); go_simp) <;> with_reducible rfl
                  try simp only [Act.put, List.setIfInBounds_toArray, List.set_cons_zero, List.set_cons_succ]
                  refine wpAnyH_take (i := 4) (oi := { dst := some 72, op := Go.Op.binOp Go.BinOp.shl 35 (Go.Operand.tmp 71) (Go.Operand.const (Go.Value.int Go.IntKind.u64 8)) 43, type := 35, pos := "header.go:72", after := #[{ on := 3, ground := Go.Ground.data }], guard := none }) (v := ?v2046) rfl (by kernel_rfl) (by kernel_rfl) (by kernel_rfl) (fun _ _ _ h => h) (Or.inl ⟨by rfl, ?y2046⟩) (by assumption) ?z2046
                  case y2046 => (intro w hSw; (try dsimp only at hSw); go_simp) <;> with_reducible rfl
                  try simp only [Act.put, List.setIfInBounds_toArray, List.set_cons_zero, List.set_cons_succ]
                  refine wpAnyH_take (i := 5) (oi := { dst := some 73, op := Go.Op.move (Go.Operand.tmp 0), type := 24, pos := "header.go:72", after := #[], guard := none }) (v := ?v2047) rfl (by kernel_rfl) (by kernel_rfl) (by kernel_rfl) (fun _ _ _ h => h) (Or.inl ⟨by rfl, ?y2047⟩) (by assumption) ?z2047
                  case y2047 => (intro w hSw; (try dsimp only at hSw); go_simp) <;> with_reducible rfl
                  try simp only [Act.put, List.setIfInBounds_toArray, List.set_cons_zero, List.set_cons_succ]
                  refine wpAnyH_take (i := 6) (oi := { dst := some 74, op := Go.Op.indexAddr 24 (Go.Operand.tmp 73) (Go.Operand.const (Go.Value.int Go.IntKind.i64 335)), type := 0, pos := "header.go:72", after := #[{ on := 5, ground := Go.Ground.data }], guard := none }) (v := ?v2048) rfl (by kernel_rfl) (by kernel_rfl) (by kernel_rfl) (fun _ _ _ h => h) (Or.inl ⟨by rfl, ?y2048⟩) (by assumption) ?z2048
                  case y2048 => (intro w hSw; (try dsimp only at hSw); go_simp) <;> with_reducible rfl
                  try simp only [Act.put, List.setIfInBounds_toArray, List.set_cons_zero, List.set_cons_succ]
                  refine wpAnyH_take (i := 7) (oi := { dst := some 75, op := Go.Op.load 5 (Go.Operand.tmp 74), type := 5, pos := "header.go:72", after := #[{ on := 6, ground := Go.Ground.data }], guard := none }) (v := ?v2049) rfl (by kernel_rfl) (by kernel_rfl) (by kernel_rfl) (fun _ _ _ h => h) (Or.inl ⟨by rfl, ?y2049⟩) (by assumption) ?z2049
                  case y2049 => (intro w hSw; (try dsimp only at hSw); go_simp) <;> with_reducible rfl
                  try simp only [Act.put, List.setIfInBounds_toArray, List.set_cons_zero, List.set_cons_succ]
                  refine wpAnyH_take (i := 8) (oi := { dst := some 76, op := Go.Op.convert 5 35 (Go.Operand.tmp 75), type := 35, pos := "header.go:72", after := #[{ on := 7, ground := Go.Ground.data }], guard := none }) (v := ?v2050) rfl (by kernel_rfl) (by kernel_rfl) (by kernel_rfl) (fun _ _ _ h => h) (Or.inl ⟨by rfl, ?y2050⟩) (by assumption) ?z2050
                  case y2050 => (intro w hSw; (try dsimp only at hSw); go_simp) <;> with_reducible rfl
                  try simp only [Act.put, List.setIfInBounds_toArray, List.set_cons_zero, List.set_cons_succ]
                  refine wpAnyH_take (i := 9) (oi := { dst := some 77, op := Go.Op.binOp Go.BinOp.or 35 (Go.Operand.tmp 72) (Go.Operand.tmp 76) 35, type := 35, pos := "header.go:72", after := #[{ on := 4, ground := Go.Ground.data }, { on := 8, ground := Go.Ground.data }], guard := none }) (v := ?v2051) rfl (by kernel_rfl) (by kernel_rfl) (by kernel_rfl) (fun _ _ _ h => h) (Or.inl ⟨by rfl, ?y2051⟩) (by assumption) ?z2051
                  case y2051 => (intro w hSw; (try dsimp only at hSw); go_simp) <;> with_reducible rfl
                  try simp only [Act.put, List.setIfInBounds_toArray, List.set_cons_zero, List.set_cons_succ]
                  refine wpAnyH_take (i := 10) (oi := { dst := some 78, op := Go.Op.move (Go.Operand.tmp 0), type := 24, pos := "header.go:72", after := #[], guard := none }) (v := ?v2052) rfl (by kernel_rfl) (by kernel_rfl) (by kernel_rfl) (fun _ _ _ h => h) (Or.inl ⟨by rfl, ?y2052⟩) (by assumption) ?z2052
                  case y2052 => (intro w hSw; (try dsimp only at hSw); go_simp) <;> with_reducible rfl
                  try simp only [Act.put, List.setIfInBounds_toArray, List.set_cons_zero, List.set_cons_succ]
                  refine wpAnyH_ready (rs := [11]) (by kernel_rfl) (by simp) ?_
                  refine (AllReadyH.cons (o := { dst := some 79, op := Go.Op.call { callee := Go.Callee.value (Go.Operand.func 15), args := #[Go.Operand.tmp 78], argTypes := #[24] }, type := 35, pos := "header.go:72", after := #[{ on := 10, ground := Go.Ground.data }], guard := none }) rfl (fun K hK => ?_) AllReadyH.nil)
                  · skip
                    go_simp
                    go_wp2_with (go_at_call 15; (with_reducible refine (SC.out v0 B5.out).mono ?_); rintro e v1 ⟨rfl, hb6⟩)
                    have A6 := Lib.hid (A5.out.below hb6)
                    have B6 := Lib.hid (via B5.out hb6)
                    have R6 := Lib.hid (R5.out.below hb6)
                    clear hb6
                    refine hK.out _ _ ?s2053 (fun hNew => ?r2053)
                    case s2053 => exact ⟨C4.out _ B6.out, C5.out _ B6.out, trivial⟩
                    clear hK K hHeld
                    have hHeld := hNew
                    clear hNew
                    refine wpAnyH_take (i := 12) (oi := { dst := some 80, op := Go.Op.binOp Go.BinOp.eql 35 (Go.Operand.tmp 77) (Go.Operand.tmp 79) 35, type := 4, pos := "header.go:72", after := #[{ on := 9, ground := Go.Ground.data }, { on := 11, ground := Go.Ground.data }], guard := none }) (v := ?v2054) rfl (by kernel_rfl) (by kernel_rfl) (by kernel_rfl) (fun _ _ _ h => h) (Or.inl ⟨by rfl, ?y2054⟩) (by assumption) ?z2054
                    case y2054 => (intro w hSw; (try dsimp only at hSw); go_simp) <;> with_reducible rfl
                    try simp only [Act.put, List.setIfInBounds_toArray, List.set_cons_zero, List.set_cons_succ]
                    refine wpAnyH_take (i := 13) (oi := { dst := some 81, op := Go.Op.fieldAddr 27 (Go.Operand.tmp 4) 6, type := 0, pos := "header.go:72", after := #[{ on := 0, ground := Go.Ground.phase }, { on := 1, ground := Go.Ground.phase }, { on := 2, ground := Go.Ground.phase }, { on := 3, ground := Go.Ground.phase }, { on := 4, ground := Go.Ground.phase }, { on := 5, ground := Go.Ground.phase }, { on := 6, ground := Go.Ground.phase }, { on := 7, ground := Go.Ground.phase }, { on := 8, ground := Go.Ground.phase }, { on := 9, ground := Go.Ground.phase }, { on := 10, ground := Go.Ground.phase }, { on := 11, ground := Go.Ground.phase }, { on := 12, ground := Go.Ground.phase }], guard := none }) (v := ?v2055) rfl (by kernel_rfl) (by kernel_rfl) (by kernel_rfl) (fun _ _ _ h => h) (Or.inl ⟨by rfl, ?y2055⟩) (by assumption) ?z2055
                    case y2055 => (intro w hSw; (try dsimp only at hSw); go_simp) <;> with_reducible rfl
                    try simp only [Act.put, List.setIfInBounds_toArray, List.set_cons_zero, List.set_cons_succ]
                    refine wpAnyH_ready (rs := [14]) (by kernel_rfl) (by simp) ?_
                    refine (AllReadyH.cons (o := { dst := none, op := Go.Op.store 4 (Go.Operand.tmp 81) (Go.Operand.tmp 80), type := 0, pos := "header.go:72", after := #[{ on := 13, ground := Go.Ground.data }, { on := 12, ground := Go.Ground.data }, { on := 11, ground := Go.Ground.chain }, { on := 0, ground := Go.Ground.phase }, { on := 1, ground := Go.Ground.phase }, { on := 2, ground := Go.Ground.phase }, { on := 3, ground := Go.Ground.phase }, { on := 4, ground := Go.Ground.phase }, { on := 5, ground := Go.Ground.phase }, { on := 6, ground := Go.Ground.phase }, { on := 7, ground := Go.Ground.phase }, { on := 8, ground := Go.Ground.phase }, { on := 9, ground := Go.Ground.phase }, { on := 10, ground := Go.Ground.phase }, { on := 11, ground := Go.Ground.phase }, { on := 12, ground := Go.Ground.phase }], guard := none }) rfl (fun K hK => ?_) AllReadyH.nil)
                    · skip
                      have hcc := A6.out.2.1
                      have hfz := A6.out.2.2
                      go_simp
                      clear hcc hfz
                      have A7 := Lib.hid (show Has (v1.setCell ⟨hb, 6, none⟩ (.bool (yy == sv))) hb #[.string ts, .int .i64 mk, .bool m.c, .bool m.b, .int .i64 bk, .int .i64 rv, .bool (yy == sv)] by
                        have := A6.out.set 6 (.bool (yy == sv)) (by simp)
                        simpa using this)
                      have B7 := Lib.hid (B6.out.setCell (p := ⟨hb, 6, none⟩) GA.out (.bool (yy == sv)))
                      have R7 := Lib.hid (R6.out.far ⟨hb, 6, none⟩ (.bool (yy == sv)) (fun e => NA.out e.symm))
                      refine hK.out _ _ ?s2056 (fun hNew => ?r2056)
                      case s2056 => exact ⟨C4.out _ B7.out, C5.out _ B7.out, trivial⟩
                      clear hK K hHeld
                      generalize v1.setCell ⟨hb, 6, none⟩ (.bool (yy == sv)) = v2 at A7 B7 R7 ⊢
                      clear hNew
                      refine wpAnyH_done (by kernel_rfl) ?_ _
                      have hcc := A7.out.2.1
                      have hfz := A7.out.2.2
                      have hrc := R7.out.2.1
                      have hrf := R7.out.2.2
                      have nhb : ¬ hb = R := fun e => NA.out e.symm
                      have nRh : ¬ R = hb := NA.out
                      go_wp2
                      refine bodyPost_ret (v := .tuple #[.agg #[.string ts, .int .i64 mk, .bool m.c, .bool m.b, .int .i64 bk, .int .i64 rv, .bool (yy == sv)], .int .i64 0]) (by simp [results, Tryd.results11, go_sem, hrc]) rfl ⟨?_, bput7 B7.out LR.out _ _ _ _ _ _ _⟩
                      rw [EE.out.1, EE.out.2, head_of n f x m i j bk rv ts mk yy sv HX.out MH.out MB.out HI.out HJ.out BK.out RV.out TI.out MK.out (by rw [Y4.out, Y5.out]; exact YY.out) SV.out]
                      rfl
              · have EE := Lib.hid (par_size n f PP.out (by rw [HX.out]; exact MB.out) RG.out (by rw [HI.out, BK.out]; exact hs))
                have hsb : ((n : Int) != bk * 16384) = true := by simpa using hs
                have hrc := R2.out.2.1
                have hrf := R2.out.2.2
                clear hs
                go_wp2
                refine bodyPost_ret (v := .tuple #[.agg noH.cells, .int .i64 6]) (by simp [results, Tryd.results11, go_sem, noH, HV.cells, hrc]; rfl) rfl ⟨by rw [EE.out.1, EE.out.2], ?_⟩
                exact bput7 B2.out LR.out _ _ _ _ _ _ _
  · skip
    go_simp
    have q := own1 u0 (.cells #[.string { data := #[] }, .int .i64 0, .bool false, .bool false, .int .i64 0, .int .i64 0, .bool false] 27)
    have B1 := Lib.hid (via B0.out q)
    have R1 := Lib.hid (R0.out.below q)
    have A1 := Lib.hid (Has.new u0 #[.string { data := #[] }, .int .i64 0, .bool false, .bool false, .int .i64 0, .int .i64 0, .bool false] 27)
    have NA := Lib.hid (show R ≠ u0.heap.size by have := R0.out.1; omega)
    have GA := Lib.hid (show w.heap.size ≤ u0.heap.size from B0.out.size)
    clear q
    refine hK.out _ _ ?s19 (fun hNew => ?r19)
    case s19 => exact ⟨HT.out _ ((H.out.below HL.out B1.out) 327 (by have := N0.out; omega)), trivial⟩
    clear hK K hHeld
    have hHeld := hNew
    clear hNew
    generalize (u0.alloc (.cells #[.string { data := #[] }, .int .i64 0, .bool false, .bool false, .int .i64 0, .int .i64 0, .bool false] 27)) = u1 at hHeld B1 R1 A1 ⊢
    generalize u0.heap.size = hb at A1 NA GA ⊢
    refine wpAnyH_ready (rs := [0]) (by kernel_rfl) (by simp) ?_
    refine (AllReadyH.cons (o := { dst := some 20, op := Go.Op.call { callee := Go.Callee.value (Go.Operand.func 19), args := #[], argTypes := #[] }, type := 49, pos := "header.go:56", after := #[], guard := none }) rfl (fun K hK => ?_) AllReadyH.nil)
    · skip
      go_simp
      go_wp2_with (go_at_call 19; (with_reducible refine (mappers_c u1).mono ?_); rintro e u2 ⟨rfl, hM, hb⟩)
      have B2 := Lib.hid (via B1.out hb)
      have R2 := Lib.hid (R1.out.below hb)
      have A2 := Lib.hid (A1.out.below hb)
      have M2 := Lib.hid hM
      refine hK.out _ _ ?s20 (fun hNew => ?r20)
      case s20 => exact ⟨HT.out _ ((H.out.below HL.out B2.out) 327 (by have := N0.out; omega)), trivial⟩
      clear hK K hHeld
      have hHeld := hNew
      clear hNew
      generalize u1.heap.size = mb at M2 ⊢
      clear hM hb
      refine wpAnyH_ready (rs := [4]) (by kernel_rfl) (by simp) ?_
      refine (AllReadyH.cons (o := { dst := some 24, op := Go.Op.lookup 49 (Go.Operand.tmp 20) (Go.Operand.tmp 23) true, type := 48, pos := "header.go:56", after := #[{ on := 0, ground := Go.Ground.data }, { on := 3, ground := Go.Ground.data }], guard := none }) rfl (fun K hK => ?_) AllReadyH.nil)
      · skip
        have hlk := look_run' u2 mb x m m0 MX.out M2.out x0 x1
        go_simp
        refine hK.out _ _ ?s21 (fun hNew => ?r21)
        case s21 => exact hHeld
        clear hK K hHeld hlk
        have hHeld := hNew
        clear hNew
        try simp only [Act.put, List.setIfInBounds_toArray, List.set_cons_zero, List.set_cons_succ]
        obtain ⟨u3, hu⟩ : ∃ q_, q_ = u2 := ⟨_, rfl⟩
        rw [← hu] at hHeld B2 R2 M2 A2 ⊢
        clear hu
        have B3 := B2
        have R3 := R2
        have M3 := M2
        have A3 := A2
        refine wpAnyH_take (i := 5) (oi := { dst := some 19, op := Go.Op.move (Go.Operand.tmp 24), type := 48, pos := "header.go:56", after := #[{ on := 4, ground := Go.Ground.data }], guard := none }) (v := ?v22) rfl (by kernel_rfl) (by kernel_rfl) (by kernel_rfl) (fun _ _ _ h => h) (Or.inl ⟨by rfl, ?y22⟩) (by assumption) ?z22
        case y22 => (intro w hSw; (try dsimp only at hSw); go_simp) <;> with_reducible rfl
        try simp only [Act.put, List.setIfInBounds_toArray, List.set_cons_zero, List.set_cons_succ]
        refine wpAnyH_take (i := 6) (oi := { dst := some 25, op := Go.Op.extract (Go.Operand.tmp 19) 0, type := 27, pos := "header.go:56", after := #[{ on := 5, ground := Go.Ground.data }], guard := none }) (v := ?v23) rfl (by kernel_rfl) (by kernel_rfl) (by kernel_rfl) (fun _ _ _ h => h) (Or.inl ⟨by rfl, ?y23⟩) (by assumption) ?z23
        case y23 => (intro w hSw; (try dsimp only at hSw); go_simp) <;> with_reducible rfl
        try simp only [Act.put, List.setIfInBounds_toArray, List.set_cons_zero, List.set_cons_succ]
        refine wpAnyH_take (i := 7) (oi := { dst := some 26, op := Go.Op.extract (Go.Operand.tmp 19) 1, type := 4, pos := "header.go:56", after := #[{ on := 5, ground := Go.Ground.data }, { on := 9, ground := Go.Ground.gcOnly Go.Departure.lateStores }], guard := none }) (v := ?v24) rfl (by kernel_rfl) (by kernel_rfl) (by kernel_rfl) (fun _ _ _ h => h) (Or.inl ⟨by rfl, ?y24⟩) (by assumption) ?z24
        case y24 => (intro w hSw; (try dsimp only at hSw); go_simp) <;> with_reducible rfl
        try simp only [Act.put, List.setIfInBounds_toArray, List.set_cons_zero, List.set_cons_succ]
        refine wpAnyH_ready (rs := [9]) (by kernel_rfl) (by simp) ?_
        refine (AllReadyH.cons (o := { dst := none, op := Go.Op.store 27 (Go.Operand.tmp 4) (Go.Operand.tmp 25), type := 0, pos := "header.go:56", after := #[{ on := 8, ground := Go.Ground.data }, { on := 6, ground := Go.Ground.data }, { on := 0, ground := Go.Ground.chain }, { on := 0, ground := Go.Ground.phase }, { on := 1, ground := Go.Ground.phase }, { on := 2, ground := Go.Ground.phase }, { on := 3, ground := Go.Ground.phase }, { on := 4, ground := Go.Ground.phase }, { on := 5, ground := Go.Ground.phase }, { on := 6, ground := Go.Ground.phase }, { on := 7, ground := Go.Ground.textOnly Go.Departure.lateStores }, { on := 8, ground := Go.Ground.phase }], guard := none }) rfl (fun K hK => ?_) AllReadyH.nil)
        · skip
          have hfz := A3.out.2.2
          have hcl := A3.out.2.1
          go_simp
          clear hfz hcl
          have A4 := Lib.hid (A3.out.put7 (.string m.t) (.int .i64 m.k) (.bool m.c) (.bool m.b) (.int .i64 m.n) (.int .i64 m.r) (.bool m.w))
          have B4 := Lib.hid (bput7 B3.out GA.out (.string m.t) (.int .i64 m.k) (.bool m.c) (.bool m.b) (.int .i64 m.n) (.int .i64 m.r) (.bool m.w))
          have R4 := Lib.hid (R3.out.fput7 NA.out (.string m.t) (.int .i64 m.k) (.bool m.c) (.bool m.b) (.int .i64 m.n) (.int .i64 m.r) (.bool m.w))
          refine hK.out _ _ ?s25 (fun hNew => ?r25)
          case s25 => exact ⟨HT.out _ ((H.out.below HL.out B4.out) 327 (by have := N0.out; omega)), trivial⟩
          clear hK K hHeld
          have hHeld := hNew
          clear hNew
          generalize (World.setCell (World.setCell (World.setCell (World.setCell (World.setCell (World.setCell (World.setCell u3 ⟨hb, 0, none⟩ (.string m.t)) ⟨hb, 1, none⟩ (.int .i64 m.k)) ⟨hb, 2, none⟩ (.bool m.c)) ⟨hb, 3, none⟩ (.bool m.b)) ⟨hb, 4, none⟩ (.int .i64 m.n)) ⟨hb, 5, none⟩ (.int .i64 m.r)) ⟨hb, 6, none⟩ (.bool m.w)) = u4 at hHeld B4 R4 A4 ⊢
          refine wpAnyH_take (i := 10) (oi := { dst := some 5, op := Go.Op.assign (Go.Operand.tmp 26), type := 4, pos := "header.go:56", after := #[{ on := 7, ground := Go.Ground.data }, { on := 9, ground := Go.Ground.chain }, { on := 0, ground := Go.Ground.phase }, { on := 1, ground := Go.Ground.phase }, { on := 2, ground := Go.Ground.phase }, { on := 3, ground := Go.Ground.phase }, { on := 4, ground := Go.Ground.phase }, { on := 5, ground := Go.Ground.phase }, { on := 6, ground := Go.Ground.phase }, { on := 7, ground := Go.Ground.phase }, { on := 8, ground := Go.Ground.phase }, { on := 9, ground := Go.Ground.phase }], guard := none }) (v := ?v26) rfl (by kernel_rfl) (by kernel_rfl) (by kernel_rfl) (fun _ _ _ h => h) (Or.inl ⟨by rfl, ?y26⟩) (by assumption) ?z26
          case y26 => (intro w hSw; (try dsimp only at hSw); go_simp) <;> with_reducible rfl
          try simp only [Act.put, List.setIfInBounds_toArray, List.set_cons_zero, List.set_cons_succ]
          refine wpAnyH_done (by kernel_rfl) ?_ _
          have BB := B4
          have RR := R4
          have AA := A4
          generalize u4 = u at BB RR AA ⊢
          clear hHeld
          clear MX
          have PP := Lib.hid (perr_of n f h0 HSC.out)
          obtain ⟨i, hi⟩ : ∃ i : Nat, f 328 = i := ⟨(f 328).toNat, by have := (OK.out 328).1; omega⟩
          obtain ⟨j, hj⟩ : ∃ j : Nat, f 329 = j := ⟨(f 329).toNat, by have := (OK.out 329).1; omega⟩
          have i256 : i < 256 := by have := (OK.out 328).2; omega
          have j256 : j < 256 := by have := (OK.out 329).2; omega
          have HI := Lib.hid hi
          have HJ := Lib.hid hj
          clear hi hj
          cases m0 with
          | false =>
            have hfz := RR.out.2.2
            have hcc := RR.out.2.1
            go_wp2
            refine bodyPost_ret (v := .tuple #[.agg noH.cells, .int .i64 5]) (by simp [results, Tryd.results11, go_sem, noH, HV.cells, hcc]; rfl) rfl ⟨by rw [(par_kind n f PP.out (by rw [HX.out]; exact MB.out)).1, (par_kind n f PP.out (by rw [HX.out]; exact MB.out)).2], ?_⟩
            exact bput7 BB.out LR.out _ _ _ _ _ _ _
          | true =>
            have c8 := (H.out.below HL.out BB.out) 328 (by omega)
            have c9 := (H.out.below HL.out BB.out) 329 (by omega)
            rw [HI.out] at c8
            rw [HJ.out] at c9
            have i8 : (328 : Int) < n := by omega
            have i9 : (329 : Int) < n := by omega
            go_upto_region 8 with (fail)
            go_quiet (fail)
            have B1 := Lib.hid (via BB.out (bdrewN u nq))
            have R1 := Lib.hid (RR.out.below (bdrewN u nq))
            have A1 := Lib.hid (AA.out.below (bdrewN u nq))
            generalize u.drewN nq = u1 at B1 R1 A1 ⊢
            clear BB RR AA c8 c9
            by_cases hr : 9 ≤ i ∨ 6 ≤ j
            · have hfz := R1.out.2.2
              have hcc := R1.out.2.1
              have EE := Lib.hid (par_range n f PP.out (by rw [HX.out]; exact MB.out) (by rw [HI.out, HJ.out]; omega))
              by_cases h8 : 9 ≤ i
              · have h8I : (9 : Int) ≤ i := by omega
                clear hr
                go_wp2
                refine bodyPost_ret (v := .tuple #[.agg noH.cells, .int .i64 7]) (by simp [results, Tryd.results11, go_sem, noH, HV.cells, hcc]; rfl) rfl ⟨by rw [EE.out.1, EE.out.2], ?_⟩
                exact bput7 B1.out LR.out _ _ _ _ _ _ _
              · have h8I : ¬ (9 : Int) ≤ i := by omega
                have h9I : (6 : Int) ≤ j := by omega
                clear hr
                go_wp2
                refine bodyPost_ret (v := .tuple #[.agg noH.cells, .int .i64 7]) (by simp [results, Tryd.results11, go_sem, noH, HV.cells, hcc]; rfl) rfl ⟨by rw [EE.out.1, EE.out.2], ?_⟩
                exact bput7 B1.out LR.out _ _ _ _ _ _ _
            · have hi9 : i < 9 := by omega
              have hj6 : j < 6 := by omega
              have RG := Lib.hid (show ¬ (8 < f 328 ∨ 5 < f 329) by rw [HI.out, HJ.out]; omega)
              have g0 := (GG.out.below B1.out).bk i hi9
              have g1 := (GG.out.below B1.out).rm j hj6
              have bb := bank_bd i hi9
              obtain ⟨bk, hbk⟩ : ∃ q_, bankV i = q_ := ⟨_, rfl⟩
              obtain ⟨rm, hrm⟩ : ∃ q_, ramT j = q_ := ⟨_, rfl⟩
              rw [hbk] at g0 bb
              rw [hrm] at g1
              have BK := Lib.hid hbk
              have RM := Lib.hid hrm
              have h8I : ¬ (9 : Int) ≤ i := by omega
              have h9I : ¬ (6 : Int) ≤ j := by omega
              have h8J : (i : Int) < 9 := by omega
              have h9J : (j : Int) < 6 := by omega
              have iz : (0 : Int) ≤ i := by omega
              have jz : (0 : Int) ≤ j := by omega
              have hfz := A1.out.2.2
              have hcc := A1.out.2.1
              have g2 : (u1.setCell ⟨hb, 4, none⟩ (.int .i64 bk)).cell? ⟨1, j, none⟩ = some (.int .i64 rm) := by
                rw [World.cell?_setCell_other u1 _ _ _ (by intro h; injection h with h _; have := GA.out; have := GG.out.lt; omega)]
                exact g1
              clear hr hbk hrm
              go_upto_region 11 with (fail)
              go_region
              clear hfz hcc g0 g1 g2
              have A2 := Lib.hid (show Has ((u1.setCell ⟨hb, 4, none⟩ (.int .i64 bk)).setCell ⟨hb, 5, none⟩ (.int .i64 rm)).drew hb #[.string m.t, .int .i64 m.k, .bool m.c, .bool m.b, .int .i64 bk, .int .i64 rm, .bool m.w] by
                have := (((A1.out.set 4 (.int .i64 bk) (by simp)).set 5 (.int .i64 rm) (by simp))).drew
                simpa using this)
              have B2 := Lib.hid (show Below w.heap.size w ((u1.setCell ⟨hb, 4, none⟩ (.int .i64 bk)).setCell ⟨hb, 5, none⟩ (.int .i64 rm)).drew from ((B1.out.setCell (p := ⟨hb, 4, none⟩) GA.out _).setCell (p := ⟨hb, 5, none⟩) GA.out _).drew)
              have R2 := Lib.hid (show Has ((u1.setCell ⟨hb, 4, none⟩ (.int .i64 bk)).setCell ⟨hb, 5, none⟩ (.int .i64 rm)).drew R #[.string { data := #[] }, .int .i64 0, .bool false, .bool false, .int .i64 0, .int .i64 0, .bool false] from ((R1.out.far ⟨hb, 4, none⟩ _ (fun e => NA.out e.symm)).far ⟨hb, 5, none⟩ _ (fun e => NA.out e.symm)).drew)
              generalize ((u1.setCell ⟨hb, 4, none⟩ (.int .i64 bk)).setCell ⟨hb, 5, none⟩ (.int .i64 rm)).drew = u2 at A2 B2 R2 ⊢
              clear A1 B1 R1
              have hcc := A2.out.2.1
              have hfz := A2.out.2.2
              by_cases hs : (n : Int) = bk * 16384
              · have EE := Lib.hid (par_ok n f PP.out (by rw [HX.out]; exact MB.out) RG.out (by rw [HI.out, BK.out]; exact hs))
                have hsb : ((n : Int) != bk * 16384) = false := by simpa using hs
                have HSZ := Lib.hid hs
                clear hs
                obtain ⟨mk, hmk⟩ : ∃ q_, m.k = q_ := ⟨_, rfl⟩
                rw [hmk] at A2 hcc ⊢
                have MK := Lib.hid hmk
                clear hmk
                by_cases hk2 : mk = 2
                · subst hk2
                  go_upto_region 16 with (fail)
                  clear hcc hfz
                  have A3 := Lib.hid (show Has (u2.setCell ⟨hb, 5, none⟩ (.int .i64 512)) hb #[.string m.t, .int .i64 2, .bool m.c, .bool m.b, .int .i64 bk, .int .i64 512, .bool m.w] by
                    have := A2.out.set 5 (.int .i64 512) (by simp)
                    simpa using this)
                  have B3 := Lib.hid (B2.out.setCell (p := ⟨hb, 5, none⟩) GA.out (.int .i64 512))
                  have R3 := Lib.hid (R2.out.far ⟨hb, 5, none⟩ (.int .i64 512) (fun e => NA.out e.symm))
                  generalize u2.setCell ⟨hb, 5, none⟩ (.int .i64 512) = u3 at A3 B3 R3 ⊢
                  clear A2 B2 R2
                  have RV := Lib.hid (show ramV 2 j = 512 from rfl)
                  generalize (512 : Int) = rv at A3 RV
                  generalize (2 : Int) = mk at A3 RV MK ⊢
                  have TI := Lib.hid (tit_eq f)
                  obtain ⟨ts, hts⟩ : ∃ q_, (⟨(titB (fun j => f (308 + j)) (zl (fun j => f (308 + j)) 0 15)).toArray⟩ : ByteArray) = q_ := ⟨_, rfl⟩
                  have TC := Lib.hid (title_c b (o + 308) 15 (c - 308) (fun j => f (308 + j)) u3 (by omega) (by omega) (Nat.lt_of_lt_of_le HL.out B3.out.size) ((H.out.below HL.out B3.out).part 308 15 (by omega)) (fun j => OK.out _))
                  rw [hts] at TC TI
                  clear hts
                  go_wp2_with fail
                  with_reducible refine TC.out.mono ?_
                  rintro e u4 ⟨rfl, hb4⟩
                  have A4 := Lib.hid (A3.out.below hb4)
                  have B4 := Lib.hid (via B3.out hb4)
                  have R4 := Lib.hid (R3.out.below hb4)
                  clear hb4 A3 B3 R3 TC
                  have hcc := A4.out.2.1
                  have hfz := A4.out.2.2
                  go_upto_region 17 with (fail)
                  clear hcc hfz
                  have A5 := Lib.hid (show Has (u4.setCell ⟨hb, 0, none⟩ (.string ts)).drew hb #[.string ts, .int .i64 mk, .bool m.c, .bool m.b, .int .i64 bk, .int .i64 rv, .bool m.w] by
                    have := (A4.out.set 0 (.string ts) (by simp)).drew
                    simpa using this)
                  have B5 := Lib.hid (B4.out.setCell (p := ⟨hb, 0, none⟩) GA.out (.string ts)).drew
                  have R5 := Lib.hid (R4.out.far ⟨hb, 0, none⟩ (.string ts) (fun e => NA.out e.symm)).drew
                  clear A4 B4 R4
                  obtain ⟨y4, hy4⟩ : ∃ q_, f 334 = q_ := ⟨_, rfl⟩
                  obtain ⟨y5, hy5⟩ : ∃ q_, f 335 = q_ := ⟨_, rfl⟩
                  have y40 := (OK.out 334).1
                  have y41 := (OK.out 334).2
                  have y50 := (OK.out 335).1
                  have y51 := (OK.out 335).2
                  rw [hy4] at y40 y41
                  rw [hy5] at y50 y51
                  have Y4 := Lib.hid hy4
                  have Y5 := Lib.hid hy5
                  clear hy4 hy5
                  have C4 := Lib.hid (fun (W : World) (hB : Below w.heap.size w W) => show W.cell? ⟨b, o + 334, none⟩ = some (.int .u8 y4) by rw [← Y4.out]; exact (H.out.below HL.out hB) 334 (by omega))
                  have C5 := Lib.hid (fun (W : World) (hB : Below w.heap.size w W) => show W.cell? ⟨b, o + 335, none⟩ = some (.int .u8 y5) by rw [← Y5.out]; exact (H.out.below HL.out hB) 335 (by omega))
                  have i4 : (334 : Int) < n := by omega
                  have i5 : (335 : Int) < n := by omega
                  obtain ⟨sv, hsv⟩ : ∃ q_, sumV n f = q_ := ⟨_, rfl⟩
                  have SV := Lib.hid hsv
                  have SC := Lib.hid (fun (W : World) (hB : Below w.heap.size w W) => show Calls Tryd.prog 15 #[.slice (some ⟨b, o, none⟩) n c] W (fun e w' => e = .returned (.int .u16 sv) ∧ Below W.heap.size W w') by rw [← SV.out]; exact (sum_l b o n c f W N0.out N1.out hc (H.out.below HL.out hB) OK.out).mono (fun _ _ h => ⟨h.1, by obtain ⟨q, h2⟩ := h.2; rw [h2]; exact bdrewN _ _⟩))
                  have hor := or_word y4 y5 y40 y41 y50 y51
                  generalize hyy : y4 * 256 + y5 = yy at hor
                  have YY := Lib.hid hyy
                  clear hyy
                  clear hsv
                  refine wp_region_held_drew (S := (fun w' => (w'.cell? ⟨b, o + 334, none⟩ = some (.int .u8 y4)) ∧ (w'.cell? ⟨b, o + 335, none⟩ = some (.int .u8 y5)) ∧ True)) (by kernel_rfl) ⟨C4.out _ B5.out, C5.out _ B5.out, trivial⟩ (fun hHeld => ?_)
                  generalize World.drew (u4.setCell ⟨hb, 0, none⟩ (.string ts)) = v0 at hHeld A5 B5 R5 ⊢
                  refine wpAnyH_take (i := 0) (oi := { dst := some 68, op := Go.Op.move (Go.Operand.tmp 0), type := 24, pos := "header.go:72", after := #[], guard := none }) (v := ?v3027) rfl (by kernel_rfl) (by kernel_rfl) (by kernel_rfl) (fun _ _ _ h => h) (Or.inl ⟨by rfl, ?y3027⟩) (by assumption) ?z3027
                  case y3027 => (intro w hSw; (try dsimp only at hSw); go_simp) <;> with_reducible rfl
                  try simp only [Act.put, List.setIfInBounds_toArray, List.set_cons_zero, List.set_cons_succ]
                  refine wpAnyH_take (i := 1) (oi := { dst := some 69, op := Go.Op.indexAddr 24 (Go.Operand.tmp 68) (Go.Operand.const (Go.Value.int Go.IntKind.i64 334)), type := 0, pos := "header.go:72", after := #[{ on := 0, ground := Go.Ground.data }], guard := none }) (v := ?v3028) rfl (by kernel_rfl) (by kernel_rfl) (by kernel_rfl) (fun _ _ _ h => h) (Or.inl ⟨by rfl, ?y3028⟩) (by assumption) ?z3028
                  case y3028 => (intro w hSw; (try dsimp only at hSw); go_simp) <;> with_reducible rfl
                  try simp only [Act.put, List.setIfInBounds_toArray, List.set_cons_zero, List.set_cons_succ]
                  refine wpAnyH_take (i := 2) (oi := { dst := some 70, op := Go.Op.load 5 (Go.Operand.tmp 69), type := 5, pos := "header.go:72", after := #[{ on := 1, ground := Go.Ground.data }], guard := none }) (v := ?v3029) rfl (by kernel_rfl) (by kernel_rfl) (by kernel_rfl) (fun _ _ _ h => h) (Or.inl ⟨by rfl, ?y3029⟩) (by assumption) ?z3029
                  case y3029 => (intro w hSw; (try dsimp only at hSw); go_simp) <;> with_reducible rfl
                  try simp only [Act.put, List.setIfInBounds_toArray, List.set_cons_zero, List.set_cons_succ]
                  refine wpAnyH_take (i := 3) (oi := { dst := some 71, op := Go.Op.convert 5 35 (Go.Operand.tmp 70), type := 35, pos := "header.go:72", after := #[{ on := 2, ground := Go.Ground.data }], guard := none }) (v := ?v3030) rfl (by kernel_rfl) (by kernel_rfl) (by kernel_rfl) (fun _ _ _ h => h) (Or.inl ⟨by rfl, ?y3030⟩) (by assumption) ?z3030
                  case y3030 => (intro w hSw; (try dsimp only at hSw); go_simp) <;> with_reducible rfl
                  try simp only [Act.put, List.setIfInBounds_toArray, List.set_cons_zero, List.set_cons_succ]
                  refine wpAnyH_take (i := 4) (oi := { dst := some 72, op := Go.Op.binOp Go.BinOp.shl 35 (Go.Operand.tmp 71) (Go.Operand.const (Go.Value.int Go.IntKind.u64 8)) 43, type := 35, pos := "header.go:72", after := #[{ on := 3, ground := Go.Ground.data }], guard := none }) (v := ?v3031) rfl (by kernel_rfl) (by kernel_rfl) (by kernel_rfl) (fun _ _ _ h => h) (Or.inl ⟨by rfl, ?y3031⟩) (by assumption) ?z3031
                  case y3031 => (intro w hSw; (try dsimp only at hSw); go_simp) <;> with_reducible rfl
                  try simp only [Act.put, List.setIfInBounds_toArray, List.set_cons_zero, List.set_cons_succ]
                  refine wpAnyH_take (i := 5) (oi := { dst := some 73, op := Go.Op.move (Go.Operand.tmp 0), type := 24, pos := "header.go:72", after := #[], guard := none }) (v := ?v3032) rfl (by kernel_rfl) (by kernel_rfl) (by kernel_rfl) (fun _ _ _ h => h) (Or.inl ⟨by rfl, ?y3032⟩) (by assumption) ?z3032
                  case y3032 => (intro w hSw; (try dsimp only at hSw); go_simp) <;> with_reducible rfl
                  try simp only [Act.put, List.setIfInBounds_toArray, List.set_cons_zero, List.set_cons_succ]
                  refine wpAnyH_take (i := 6) (oi := { dst := some 74, op := Go.Op.indexAddr 24 (Go.Operand.tmp 73) (Go.Operand.const (Go.Value.int Go.IntKind.i64 335)), type := 0, pos := "header.go:72", after := #[{ on := 5, ground := Go.Ground.data }], guard := none }) (v := ?v3033) rfl (by kernel_rfl) (by kernel_rfl) (by kernel_rfl) (fun _ _ _ h => h) (Or.inl ⟨by rfl, ?y3033⟩) (by assumption) ?z3033
                  case y3033 => (intro w hSw; (try dsimp only at hSw); go_simp) <;> with_reducible rfl
                  try simp only [Act.put, List.setIfInBounds_toArray, List.set_cons_zero, List.set_cons_succ]
                  refine wpAnyH_take (i := 7) (oi := { dst := some 75, op := Go.Op.load 5 (Go.Operand.tmp 74), type := 5, pos := "header.go:72", after := #[{ on := 6, ground := Go.Ground.data }], guard := none }) (v := ?v3034) rfl (by kernel_rfl) (by kernel_rfl) (by kernel_rfl) (fun _ _ _ h => h) (Or.inl ⟨by rfl, ?y3034⟩) (by assumption) ?z3034
                  case y3034 => (intro w hSw; (try dsimp only at hSw); go_simp) <;> with_reducible rfl
                  try simp only [Act.put, List.setIfInBounds_toArray, List.set_cons_zero, List.set_cons_succ]
                  refine wpAnyH_take (i := 8) (oi := { dst := some 76, op := Go.Op.convert 5 35 (Go.Operand.tmp 75), type := 35, pos := "header.go:72", after := #[{ on := 7, ground := Go.Ground.data }], guard := none }) (v := ?v3035) rfl (by kernel_rfl) (by kernel_rfl) (by kernel_rfl) (fun _ _ _ h => h) (Or.inl ⟨by rfl, ?y3035⟩) (by assumption) ?z3035
                  case y3035 => (intro w hSw; (try dsimp only at hSw); go_simp) <;> with_reducible rfl
                  try simp only [Act.put, List.setIfInBounds_toArray, List.set_cons_zero, List.set_cons_succ]
                  refine wpAnyH_take (i := 9) (oi := { dst := some 77, op := Go.Op.binOp Go.BinOp.or 35 (Go.Operand.tmp 72) (Go.Operand.tmp 76) 35, type := 35, pos := "header.go:72", after := #[{ on := 4, ground := Go.Ground.data }, { on := 8, ground := Go.Ground.data }], guard := none }) (v := ?v3036) rfl (by kernel_rfl) (by kernel_rfl) (by kernel_rfl) (fun _ _ _ h => h) (Or.inl ⟨by rfl, ?y3036⟩) (by assumption) ?z3036
                  case y3036 => (intro w hSw; (try dsimp only at hSw); go_simp) <;> with_reducible rfl
                  try simp only [Act.put, List.setIfInBounds_toArray, List.set_cons_zero, List.set_cons_succ]
                  refine wpAnyH_take (i := 10) (oi := { dst := some 78, op := Go.Op.move (Go.Operand.tmp 0), type := 24, pos := "header.go:72", after := #[], guard := none }) (v := ?v3037) rfl (by kernel_rfl) (by kernel_rfl) (by kernel_rfl) (fun _ _ _ h => h) (Or.inl ⟨by rfl, ?y3037⟩) (by assumption) ?z3037
                  case y3037 => (intro w hSw; (try dsimp only at hSw); go_simp) <;> with_reducible rfl
                  try simp only [Act.put, List.setIfInBounds_toArray, List.set_cons_zero, List.set_cons_succ]
                  refine wpAnyH_ready (rs := [11]) (by kernel_rfl) (by simp) ?_
                  refine (AllReadyH.cons (o := { dst := some 79, op := Go.Op.call { callee := Go.Callee.value (Go.Operand.func 15), args := #[Go.Operand.tmp 78], argTypes := #[24] }, type := 35, pos := "header.go:72", after := #[{ on := 10, ground := Go.Ground.data }], guard := none }) rfl (fun K hK => ?_) AllReadyH.nil)
                  · skip
                    go_simp
                    go_wp2_with (go_at_call 15; (with_reducible refine (SC.out v0 B5.out).mono ?_); rintro e v1 ⟨rfl, hb6⟩)
                    have A6 := Lib.hid (A5.out.below hb6)
                    have B6 := Lib.hid (via B5.out hb6)
                    have R6 := Lib.hid (R5.out.below hb6)
                    clear hb6
                    refine hK.out _ _ ?s3038 (fun hNew => ?r3038)
                    case s3038 => exact ⟨C4.out _ B6.out, C5.out _ B6.out, trivial⟩
                    clear hK K hHeld
                    have hHeld := hNew
                    clear hNew
                    refine wpAnyH_take (i := 12) (oi := { dst := some 80, op := Go.Op.binOp Go.BinOp.eql 35 (Go.Operand.tmp 77) (Go.Operand.tmp 79) 35, type := 4, pos := "header.go:72", after := #[{ on := 9, ground := Go.Ground.data }, { on := 11, ground := Go.Ground.data }], guard := none }) (v := ?v3039) rfl (by kernel_rfl) (by kernel_rfl) (by kernel_rfl) (fun _ _ _ h => h) (Or.inl ⟨by rfl, ?y3039⟩) (by assumption) ?z3039
                    case y3039 => (intro w hSw; (try dsimp only at hSw); go_simp) <;> with_reducible rfl
                    try simp only [Act.put, List.setIfInBounds_toArray, List.set_cons_zero, List.set_cons_succ]
                    refine wpAnyH_take (i := 13) (oi := { dst := some 81, op := Go.Op.fieldAddr 27 (Go.Operand.tmp 4) 6, type := 0, pos := "header.go:72", after := #[{ on := 0, ground := Go.Ground.phase }, { on := 1, ground := Go.Ground.phase }, { on := 2, ground := Go.Ground.phase }, { on := 3, ground := Go.Ground.phase }, { on := 4, ground := Go.Ground.phase }, { on := 5, ground := Go.Ground.phase }, { on := 6, ground := Go.Ground.phase }, { on := 7, ground := Go.Ground.phase }, { on := 8, ground := Go.Ground.phase }, { on := 9, ground := Go.Ground.phase }, { on := 10, ground := Go.Ground.phase }, { on := 11, ground := Go.Ground.phase }, { on := 12, ground := Go.Ground.phase }], guard := none }) (v := ?v3040) rfl (by kernel_rfl) (by kernel_rfl) (by kernel_rfl) (fun _ _ _ h => h) (Or.inl ⟨by rfl, ?y3040⟩) (by assumption) ?z3040
                    case y3040 => (intro w hSw; (try dsimp only at hSw); go_simp) <;> with_reducible rfl
                    try simp only [Act.put, List.setIfInBounds_toArray, List.set_cons_zero, List.set_cons_succ]
                    refine wpAnyH_ready (rs := [14]) (by kernel_rfl) (by simp) ?_
                    refine (AllReadyH.cons (o := { dst := none, op := Go.Op.store 4 (Go.Operand.tmp 81) (Go.Operand.tmp 80), type := 0, pos := "header.go:72", after := #[{ on := 13, ground := Go.Ground.data }, { on := 12, ground := Go.Ground.data }, { on := 11, ground := Go.Ground.chain }, { on := 0, ground := Go.Ground.phase }, { on := 1, ground := Go.Ground.phase }, { on := 2, ground := Go.Ground.phase }, { on := 3, ground := Go.Ground.phase }, { on := 4, ground := Go.Ground.phase }, { on := 5, ground := Go.Ground.phase }, { on := 6, ground := Go.Ground.phase }, { on := 7, ground := Go.Ground.phase }, { on := 8, ground := Go.Ground.phase }, { on := 9, ground := Go.Ground.phase }, { on := 10, ground := Go.Ground.phase }, { on := 11, ground := Go.Ground.phase }, { on := 12, ground := Go.Ground.phase }], guard := none }) rfl (fun K hK => ?_) AllReadyH.nil)
                    · skip
                      have hcc := A6.out.2.1
                      have hfz := A6.out.2.2
                      go_simp
                      clear hcc hfz
                      have A7 := Lib.hid (show Has (v1.setCell ⟨hb, 6, none⟩ (.bool (yy == sv))) hb #[.string ts, .int .i64 mk, .bool m.c, .bool m.b, .int .i64 bk, .int .i64 rv, .bool (yy == sv)] by
                        have := A6.out.set 6 (.bool (yy == sv)) (by simp)
                        simpa using this)
                      have B7 := Lib.hid (B6.out.setCell (p := ⟨hb, 6, none⟩) GA.out (.bool (yy == sv)))
                      have R7 := Lib.hid (R6.out.far ⟨hb, 6, none⟩ (.bool (yy == sv)) (fun e => NA.out e.symm))
                      refine hK.out _ _ ?s3041 (fun hNew => ?r3041)
                      case s3041 => exact ⟨C4.out _ B7.out, C5.out _ B7.out, trivial⟩
                      clear hK K hHeld
                      generalize v1.setCell ⟨hb, 6, none⟩ (.bool (yy == sv)) = v2 at A7 B7 R7 ⊢
                      clear hNew
                      refine wpAnyH_done (by kernel_rfl) ?_ _
                      have hcc := A7.out.2.1
                      have hfz := A7.out.2.2
                      have hrc := R7.out.2.1
                      have hrf := R7.out.2.2
                      have nhb : ¬ hb = R := fun e => NA.out e.symm
                      have nRh : ¬ R = hb := NA.out
                      go_wp2
                      refine bodyPost_ret (v := .tuple #[.agg #[.string ts, .int .i64 mk, .bool m.c, .bool m.b, .int .i64 bk, .int .i64 rv, .bool (yy == sv)], .int .i64 0]) (by simp [results, Tryd.results11, go_sem, hrc]) rfl ⟨?_, bput7 B7.out LR.out _ _ _ _ _ _ _⟩
                      rw [EE.out.1, EE.out.2, head_of n f x m i j bk rv ts mk yy sv HX.out MH.out MB.out HI.out HJ.out BK.out RV.out TI.out MK.out (by rw [Y4.out, Y5.out]; exact YY.out) SV.out]
                      rfl
                · have hk3 : (mk == 2) = false := by simpa using hk2
                  go_upto_region 16 with (fail)
                  have RV := Lib.hid (show ramV mk j = rm by unfold ramV; rw [if_neg hk2]; exact RM.out)
                  generalize rm = rv at A2 RV
                  have A3 := A2
                  have B3 := B2
                  have R3 := R2
                  generalize u2 = u3 at A3 B3 R3 ⊢
                  clear A2 B2 R2 hk2 hk3 hcc hfz
                  have TI := Lib.hid (tit_eq f)
                  obtain ⟨ts, hts⟩ : ∃ q_, (⟨(titB (fun j => f (308 + j)) (zl (fun j => f (308 + j)) 0 15)).toArray⟩ : ByteArray) = q_ := ⟨_, rfl⟩
                  have TC := Lib.hid (title_c b (o + 308) 15 (c - 308) (fun j => f (308 + j)) u3 (by omega) (by omega) (Nat.lt_of_lt_of_le HL.out B3.out.size) ((H.out.below HL.out B3.out).part 308 15 (by omega)) (fun j => OK.out _))
                  rw [hts] at TC TI
                  clear hts
                  go_wp2_with fail
                  with_reducible refine TC.out.mono ?_
                  rintro e u4 ⟨rfl, hb4⟩
                  have A4 := Lib.hid (A3.out.below hb4)
                  have B4 := Lib.hid (via B3.out hb4)
                  have R4 := Lib.hid (R3.out.below hb4)
                  clear hb4 A3 B3 R3 TC
                  have hcc := A4.out.2.1
                  have hfz := A4.out.2.2
                  go_upto_region 17 with (fail)
                  clear hcc hfz
                  have A5 := Lib.hid (show Has (u4.setCell ⟨hb, 0, none⟩ (.string ts)).drew hb #[.string ts, .int .i64 mk, .bool m.c, .bool m.b, .int .i64 bk, .int .i64 rv, .bool m.w] by
                    have := (A4.out.set 0 (.string ts) (by simp)).drew
                    simpa using this)
                  have B5 := Lib.hid (B4.out.setCell (p := ⟨hb, 0, none⟩) GA.out (.string ts)).drew
                  have R5 := Lib.hid (R4.out.far ⟨hb, 0, none⟩ (.string ts) (fun e => NA.out e.symm)).drew
                  clear A4 B4 R4
                  obtain ⟨y4, hy4⟩ : ∃ q_, f 334 = q_ := ⟨_, rfl⟩
                  obtain ⟨y5, hy5⟩ : ∃ q_, f 335 = q_ := ⟨_, rfl⟩
                  have y40 := (OK.out 334).1
                  have y41 := (OK.out 334).2
                  have y50 := (OK.out 335).1
                  have y51 := (OK.out 335).2
                  rw [hy4] at y40 y41
                  rw [hy5] at y50 y51
                  have Y4 := Lib.hid hy4
                  have Y5 := Lib.hid hy5
                  clear hy4 hy5
                  have C4 := Lib.hid (fun (W : World) (hB : Below w.heap.size w W) => show W.cell? ⟨b, o + 334, none⟩ = some (.int .u8 y4) by rw [← Y4.out]; exact (H.out.below HL.out hB) 334 (by omega))
                  have C5 := Lib.hid (fun (W : World) (hB : Below w.heap.size w W) => show W.cell? ⟨b, o + 335, none⟩ = some (.int .u8 y5) by rw [← Y5.out]; exact (H.out.below HL.out hB) 335 (by omega))
                  have i4 : (334 : Int) < n := by omega
                  have i5 : (335 : Int) < n := by omega
                  obtain ⟨sv, hsv⟩ : ∃ q_, sumV n f = q_ := ⟨_, rfl⟩
                  have SV := Lib.hid hsv
                  have SC := Lib.hid (fun (W : World) (hB : Below w.heap.size w W) => show Calls Tryd.prog 15 #[.slice (some ⟨b, o, none⟩) n c] W (fun e w' => e = .returned (.int .u16 sv) ∧ Below W.heap.size W w') by rw [← SV.out]; exact (sum_l b o n c f W N0.out N1.out hc (H.out.below HL.out hB) OK.out).mono (fun _ _ h => ⟨h.1, by obtain ⟨q, h2⟩ := h.2; rw [h2]; exact bdrewN _ _⟩))
                  have hor := or_word y4 y5 y40 y41 y50 y51
                  generalize hyy : y4 * 256 + y5 = yy at hor
                  have YY := Lib.hid hyy
                  clear hyy
                  clear hsv
                  refine wp_region_held_drew (S := (fun w' => (w'.cell? ⟨b, o + 334, none⟩ = some (.int .u8 y4)) ∧ (w'.cell? ⟨b, o + 335, none⟩ = some (.int .u8 y5)) ∧ True)) (by kernel_rfl) ⟨C4.out _ B5.out, C5.out _ B5.out, trivial⟩ (fun hHeld => ?_)
                  generalize World.drew (u4.setCell ⟨hb, 0, none⟩ (.string ts)) = v0 at hHeld A5 B5 R5 ⊢
                  refine wpAnyH_take (i := 0) (oi := { dst := some 68, op := Go.Op.move (Go.Operand.tmp 0), type := 24, pos := "header.go:72", after := #[], guard := none }) (v := ?v3042) rfl (by kernel_rfl) (by kernel_rfl) (by kernel_rfl) (fun _ _ _ h => h) (Or.inl ⟨by rfl, ?y3042⟩) (by assumption) ?z3042
                  case y3042 => (intro w hSw; (try dsimp only at hSw); go_simp) <;> with_reducible rfl
                  try simp only [Act.put, List.setIfInBounds_toArray, List.set_cons_zero, List.set_cons_succ]
                  refine wpAnyH_take (i := 1) (oi := { dst := some 69, op := Go.Op.indexAddr 24 (Go.Operand.tmp 68) (Go.Operand.const (Go.Value.int Go.IntKind.i64 334)), type := 0, pos := "header.go:72", after := #[{ on := 0, ground := Go.Ground.data }], guard := none }) (v := ?v3043) rfl (by kernel_rfl) (by kernel_rfl) (by kernel_rfl) (fun _ _ _ h => h) (Or.inl ⟨by rfl, ?y3043⟩) (by assumption) ?z3043
                  case y3043 => (intro w hSw; (try dsimp only at hSw); go_simp) <;> with_reducible rfl
                  try simp only [Act.put, List.setIfInBounds_toArray, List.set_cons_zero, List.set_cons_succ]
                  refine wpAnyH_take (i := 2) (oi := { dst := some 70, op := Go.Op.load 5 (Go.Operand.tmp 69), type := 5, pos := "header.go:72", after := #[{ on := 1, ground := Go.Ground.data }], guard := none }) (v := ?v3044) rfl (by kernel_rfl) (by kernel_rfl) (by kernel_rfl) (fun _ _ _ h => h) (Or.inl ⟨by rfl, ?y3044⟩) (by assumption) ?z3044
                  case y3044 => (intro w hSw; (try dsimp only at hSw); go_simp) <;> with_reducible rfl
                  try simp only [Act.put, List.setIfInBounds_toArray, List.set_cons_zero, List.set_cons_succ]
                  refine wpAnyH_take (i := 3) (oi := { dst := some 71, op := Go.Op.convert 5 35 (Go.Operand.tmp 70), type := 35, pos := "header.go:72", after := #[{ on := 2, ground := Go.Ground.data }], guard := none }) (v := ?v3045) rfl (by kernel_rfl) (by kernel_rfl) (by kernel_rfl) (fun _ _ _ h => h) (Or.inl ⟨by rfl, ?y3045⟩) (by assumption) ?z3045
                  case y3045 => (intro w hSw; (try dsimp only at hSw); go_simp) <;> with_reducible rfl
                  try simp only [Act.put, List.setIfInBounds_toArray, List.set_cons_zero, List.set_cons_succ]
                  refine wpAnyH_take (i := 4) (oi := { dst := some 72, op := Go.Op.binOp Go.BinOp.shl 35 (Go.Operand.tmp 71) (Go.Operand.const (Go.Value.int Go.IntKind.u64 8)) 43, type := 35, pos := "header.go:72", after := #[{ on := 3, ground := Go.Ground.data }], guard := none }) (v := ?v3046) rfl (by kernel_rfl) (by kernel_rfl) (by kernel_rfl) (fun _ _ _ h => h) (Or.inl ⟨by rfl, ?y3046⟩) (by assumption) ?z3046
                  case y3046 => (intro w hSw; (try dsimp only at hSw); go_simp) <;> with_reducible rfl
                  try simp only [Act.put, List.setIfInBounds_toArray, List.set_cons_zero, List.set_cons_succ]
                  refine wpAnyH_take (i := 5) (oi := { dst := some 73, op := Go.Op.move (Go.Operand.tmp 0), type := 24, pos := "header.go:72", after := #[], guard := none }) (v := ?v3047) rfl (by kernel_rfl) (by kernel_rfl) (by kernel_rfl) (fun _ _ _ h => h) (Or.inl ⟨by rfl, ?y3047⟩) (by assumption) ?z3047
                  case y3047 => (intro w hSw; (try dsimp only at hSw); go_simp) <;> with_reducible rfl
                  try simp only [Act.put, List.setIfInBounds_toArray, List.set_cons_zero, List.set_cons_succ]
                  refine wpAnyH_take (i := 6) (oi := { dst := some 74, op := Go.Op.indexAddr 24 (Go.Operand.tmp 73) (Go.Operand.const (Go.Value.int Go.IntKind.i64 335)), type := 0, pos := "header.go:72", after := #[{ on := 5, ground := Go.Ground.data }], guard := none }) (v := ?v3048) rfl (by kernel_rfl) (by kernel_rfl) (by kernel_rfl) (fun _ _ _ h => h) (Or.inl ⟨by rfl, ?y3048⟩) (by assumption) ?z3048
                  case y3048 => (intro w hSw; (try dsimp only at hSw); go_simp) <;> with_reducible rfl
                  try simp only [Act.put, List.setIfInBounds_toArray, List.set_cons_zero, List.set_cons_succ]
                  refine wpAnyH_take (i := 7) (oi := { dst := some 75, op := Go.Op.load 5 (Go.Operand.tmp 74), type := 5, pos := "header.go:72", after := #[{ on := 6, ground := Go.Ground.data }], guard := none }) (v := ?v3049) rfl (by kernel_rfl) (by kernel_rfl) (by kernel_rfl) (fun _ _ _ h => h) (Or.inl ⟨by rfl, ?y3049⟩) (by assumption) ?z3049
                  case y3049 => (intro w hSw; (try dsimp only at hSw); go_simp) <;> with_reducible rfl
                  try simp only [Act.put, List.setIfInBounds_toArray, List.set_cons_zero, List.set_cons_succ]
                  refine wpAnyH_take (i := 8) (oi := { dst := some 76, op := Go.Op.convert 5 35 (Go.Operand.tmp 75), type := 35, pos := "header.go:72", after := #[{ on := 7, ground := Go.Ground.data }], guard := none }) (v := ?v3050) rfl (by kernel_rfl) (by kernel_rfl) (by kernel_rfl) (fun _ _ _ h => h) (Or.inl ⟨by rfl, ?y3050⟩) (by assumption) ?z3050
                  case y3050 => (intro w hSw; (try dsimp only at hSw); go_simp) <;> with_reducible rfl
                  try simp only [Act.put, List.setIfInBounds_toArray, List.set_cons_zero, List.set_cons_succ]
                  refine wpAnyH_take (i := 9) (oi := { dst := some 77, op := Go.Op.binOp Go.BinOp.or 35 (Go.Operand.tmp 72) (Go.Operand.tmp 76) 35, type := 35, pos := "header.go:72", after := #[{ on := 4, ground := Go.Ground.data }, { on := 8, ground := Go.Ground.data }], guard := none }) (v := ?v3051) rfl (by kernel_rfl) (by kernel_rfl) (by kernel_rfl) (fun _ _ _ h => h) (Or.inl ⟨by rfl, ?y3051⟩) (by assumption) ?z3051
                  case y3051 => (intro w hSw; (try dsimp only at hSw); go_simp) <;> with_reducible rfl
                  try simp only [Act.put, List.setIfInBounds_toArray, List.set_cons_zero, List.set_cons_succ]
                  refine wpAnyH_take (i := 10) (oi := { dst := some 78, op := Go.Op.move (Go.Operand.tmp 0), type := 24, pos := "header.go:72", after := #[], guard := none }) (v := ?v3052) rfl (by kernel_rfl) (by kernel_rfl) (by kernel_rfl) (fun _ _ _ h => h) (Or.inl ⟨by rfl, ?y3052⟩) (by assumption) ?z3052
                  case y3052 => (intro w hSw; (try dsimp only at hSw); go_simp) <;> with_reducible rfl
                  try simp only [Act.put, List.setIfInBounds_toArray, List.set_cons_zero, List.set_cons_succ]
                  refine wpAnyH_ready (rs := [11]) (by kernel_rfl) (by simp) ?_
                  refine (AllReadyH.cons (o := { dst := some 79, op := Go.Op.call { callee := Go.Callee.value (Go.Operand.func 15), args := #[Go.Operand.tmp 78], argTypes := #[24] }, type := 35, pos := "header.go:72", after := #[{ on := 10, ground := Go.Ground.data }], guard := none }) rfl (fun K hK => ?_) AllReadyH.nil)
                  · skip
                    go_simp
                    go_wp2_with (go_at_call 15; (with_reducible refine (SC.out v0 B5.out).mono ?_); rintro e v1 ⟨rfl, hb6⟩)
                    have A6 := Lib.hid (A5.out.below hb6)
                    have B6 := Lib.hid (via B5.out hb6)
                    have R6 := Lib.hid (R5.out.below hb6)
                    clear hb6
                    refine hK.out _ _ ?s3053 (fun hNew => ?r3053)
                    case s3053 => exact ⟨C4.out _ B6.out, C5.out _ B6.out, trivial⟩
                    clear hK K hHeld
                    have hHeld := hNew
                    clear hNew
                    refine wpAnyH_take (i := 12) (oi := { dst := some 80, op := Go.Op.binOp Go.BinOp.eql 35 (Go.Operand.tmp 77) (Go.Operand.tmp 79) 35, type := 4, pos := "header.go:72", after := #[{ on := 9, ground := Go.Ground.data }, { on := 11, ground := Go.Ground.data }], guard := none }) (v := ?v3054) rfl (by kernel_rfl) (by kernel_rfl) (by kernel_rfl) (fun _ _ _ h => h) (Or.inl ⟨by rfl, ?y3054⟩) (by assumption) ?z3054
                    case y3054 => (intro w hSw; (try dsimp only at hSw); go_simp) <;> with_reducible rfl
                    try simp only [Act.put, List.setIfInBounds_toArray, List.set_cons_zero, List.set_cons_succ]
                    refine wpAnyH_take (i := 13) (oi := { dst := some 81, op := Go.Op.fieldAddr 27 (Go.Operand.tmp 4) 6, type := 0, pos := "header.go:72", after := #[{ on := 0, ground := Go.Ground.phase }, { on := 1, ground := Go.Ground.phase }, { on := 2, ground := Go.Ground.phase }, { on := 3, ground := Go.Ground.phase }, { on := 4, ground := Go.Ground.phase }, { on := 5, ground := Go.Ground.phase }, { on := 6, ground := Go.Ground.phase }, { on := 7, ground := Go.Ground.phase }, { on := 8, ground := Go.Ground.phase }, { on := 9, ground := Go.Ground.phase }, { on := 10, ground := Go.Ground.phase }, { on := 11, ground := Go.Ground.phase }, { on := 12, ground := Go.Ground.phase }], guard := none }) (v := ?v3055) rfl (by kernel_rfl) (by kernel_rfl) (by kernel_rfl) (fun _ _ _ h => h) (Or.inl ⟨by rfl, ?y3055⟩) (by assumption) ?z3055
                    case y3055 => (intro w hSw; (try dsimp only at hSw); go_simp) <;> with_reducible rfl
                    try simp only [Act.put, List.setIfInBounds_toArray, List.set_cons_zero, List.set_cons_succ]
                    refine wpAnyH_ready (rs := [14]) (by kernel_rfl) (by simp) ?_
                    refine (AllReadyH.cons (o := { dst := none, op := Go.Op.store 4 (Go.Operand.tmp 81) (Go.Operand.tmp 80), type := 0, pos := "header.go:72", after := #[{ on := 13, ground := Go.Ground.data }, { on := 12, ground := Go.Ground.data }, { on := 11, ground := Go.Ground.chain }, { on := 0, ground := Go.Ground.phase }, { on := 1, ground := Go.Ground.phase }, { on := 2, ground := Go.Ground.phase }, { on := 3, ground := Go.Ground.phase }, { on := 4, ground := Go.Ground.phase }, { on := 5, ground := Go.Ground.phase }, { on := 6, ground := Go.Ground.phase }, { on := 7, ground := Go.Ground.phase }, { on := 8, ground := Go.Ground.phase }, { on := 9, ground := Go.Ground.phase }, { on := 10, ground := Go.Ground.phase }, { on := 11, ground := Go.Ground.phase }, { on := 12, ground := Go.Ground.phase }], guard := none }) rfl (fun K hK => ?_) AllReadyH.nil)
                    · skip
                      have hcc := A6.out.2.1
                      have hfz := A6.out.2.2
                      go_simp
                      clear hcc hfz
                      have A7 := Lib.hid (show Has (v1.setCell ⟨hb, 6, none⟩ (.bool (yy == sv))) hb #[.string ts, .int .i64 mk, .bool m.c, .bool m.b, .int .i64 bk, .int .i64 rv, .bool (yy == sv)] by
                        have := A6.out.set 6 (.bool (yy == sv)) (by simp)
                        simpa using this)
                      have B7 := Lib.hid (B6.out.setCell (p := ⟨hb, 6, none⟩) GA.out (.bool (yy == sv)))
                      have R7 := Lib.hid (R6.out.far ⟨hb, 6, none⟩ (.bool (yy == sv)) (fun e => NA.out e.symm))
                      refine hK.out _ _ ?s3056 (fun hNew => ?r3056)
                      case s3056 => exact ⟨C4.out _ B7.out, C5.out _ B7.out, trivial⟩
                      clear hK K hHeld
                      generalize v1.setCell ⟨hb, 6, none⟩ (.bool (yy == sv)) = v2 at A7 B7 R7 ⊢
                      clear hNew
                      refine wpAnyH_done (by kernel_rfl) ?_ _
                      have hcc := A7.out.2.1
                      have hfz := A7.out.2.2
                      have hrc := R7.out.2.1
                      have hrf := R7.out.2.2
                      have nhb : ¬ hb = R := fun e => NA.out e.symm
                      have nRh : ¬ R = hb := NA.out
                      go_wp2
                      refine bodyPost_ret (v := .tuple #[.agg #[.string ts, .int .i64 mk, .bool m.c, .bool m.b, .int .i64 bk, .int .i64 rv, .bool (yy == sv)], .int .i64 0]) (by simp [results, Tryd.results11, go_sem, hrc]) rfl ⟨?_, bput7 B7.out LR.out _ _ _ _ _ _ _⟩
                      rw [EE.out.1, EE.out.2, head_of n f x m i j bk rv ts mk yy sv HX.out MH.out MB.out HI.out HJ.out BK.out RV.out TI.out MK.out (by rw [Y4.out, Y5.out]; exact YY.out) SV.out]
                      rfl
              · have EE := Lib.hid (par_size n f PP.out (by rw [HX.out]; exact MB.out) RG.out (by rw [HI.out, BK.out]; exact hs))
                have hsb : ((n : Int) != bk * 16384) = true := by simpa using hs
                have hrc := R2.out.2.1
                have hrf := R2.out.2.2
                clear hs
                go_wp2
                refine bodyPost_ret (v := .tuple #[.agg noH.cells, .int .i64 6]) (by simp [results, Tryd.results11, go_sem, noH, HV.cells, hrc]; rfl) rfl ⟨by rw [EE.out.1, EE.out.2], ?_⟩
                exact bput7 B2.out LR.out _ _ _ _ _ _ _
end Go.Proofs.YtifhajdcfjiaiaaDoor
