/-
  The document's own Parse: for every world in which the bytes lie as told; its condition: fewer than 2^31 bytes.
-/
import Derived.Test.YtifhajdcfjiaiaaDoorPar
import Derived.Test.YtifhajdcfjiaiaaDoorMade
import Derived.Deep.DeepCutAuto
import Derived.Deep.CutBlock
import Derived.IntWalk
namespace Go.Proofs.YtifhajdcfjiaiaaDoor
open Go.ChangeShapes Go.WideShapes Go.ChangeAt Go.RowKit
set_option linter.unusedVariables false
set_option maxRecDepth 100000
def zA : Array Value := #[.string { data := #[] }, .int .i64 0, .bool false, .bool false, .int .i64 0, .int .i64 0, .bool false]
/-- Nothing that was there has changed; the block R bears no header, the block h the header A. -/
structure Sx (w wx : World) (R h : Nat) (A : Array Value) : Prop where
  bl : Below w.heap.size w wx
  r : Has wx R zA
  h : Has wx h A
theorem Sx.to {w wx wy : World} {R h : Nat} {A : Array Value} (s : Sx w wx R h A) (hb : Below wx.heap.size wx wy) : Sx w wy R h A := ⟨via s.bl hb, s.r.below hb, s.h.below hb⟩
theorem Sx.set {w wx : World} {R h : Nat} {a0 a1 a2 a3 a4 a5 a6 : Value} (s : Sx w wx R h #[a0, a1, a2, a3, a4, a5, a6]) (hl : w.heap.size ≤ h) (hn : R ≠ h) (k : Nat) (hk : k < 7) (v : Value) : Sx w (wx.setCell ⟨h, k, none⟩ v) R h (#[a0, a1, a2, a3, a4, a5, a6].setIfInBounds k v) :=
  ⟨s.bl.setCell (p := ⟨h, k, none⟩) hl v, s.r.far ⟨h, k, none⟩ v (fun e => hn e.symm), s.h.set k v hk⟩
theorem mul_word (h l : Int) (h1 : 0 ≤ h) (h2 : h < 256) (h3 : 0 ≤ l) (h4 : l < 256) : IntKind.i64.wrap (IntKind.i64.wrap (IntKind.i64.wrap h * 256) + IntKind.i64.wrap l) = h * 256 + l := by
  have e1 : IntKind.i64.wrap h = h := IntWalk.i64_in _ (by omega)
  have e2 : IntKind.i64.wrap l = l := IntWalk.i64_in _ (by omega)
  have e3 : IntKind.i64.wrap (h * 256) = h * 256 := IntWalk.i64_in _ (by omega)
  rw [e1, e2, e3]
  exact IntWalk.i64_in _ (by omega)
theorem wrap_word (s : Int) (h1 : 0 ≤ s) (h2 : s < 65536) : IntKind.i64.wrap s = s := IntWalk.i64_in _ (by omega)
theorem titS_succ (f : Nat → Int) (k : Nat) : titS f (k + 1) = titS f k ++ ⟨#[byteOf (shown (f (308 + k)))]⟩ := by
  apply ByteArray.ext
  rw [ByteArray.data_append]
  show (titL f (k + 1)).toArray = (titL f k).toArray ++ #[byteOf (shown (f (308 + k)))]
  rw [titL_succ]
  simp
theorem titS_size (f : Nat → Int) (k : Nat) : (titS f k).size = k := by
  show (titL f k).toArray.size = k
  simp [titL]
theorem conv1 (d : Int) (h0 : 0 ≤ d) (h1 : d < 256) (w : World) (c : Nat) (h : w.cell? ⟨c, 0, none⟩ = some (.int .u8 d)) : (convert 24 9 (.slice (some ⟨c, 0, none⟩) 1 1)).run Tryd.prog w = .ok (.string ⟨#[byteOf d]⟩) w := by
  have hadd : (⟨c, 0, none⟩ : Addr).add 0 = ⟨c, 0, none⟩ := by unfold Addr.add; split <;> simp_all
  exact run_convert_bytes_back (P := Tryd.prog) w 24 9 5 ⟨c, 0, none⟩ 1 [byteOf d] Tryd.underlying24 Tryd.underlying5 Tryd.underlying9 (fun j hj => by
    obtain rfl : j = 0 := by simpa using hj
    rw [hadd, h]
    show _ = some (Value.int .u8 ((byteOf d).toNat : Int))
    rw [byteOf_nat d h0 h1])
theorem bank_two (q : Nat) : bankV (q + 1 : Nat) = bankV q * 2 := by
  unfold bankV
  have e1 : ((q + 1 : Nat) : Int).toNat = q + 1 := rfl
  have e2 : ((q : Nat) : Int).toNat = q := rfl
  rw [e1, e2, Int.pow_succ]
theorem kindV_bd (x : Int) : -1 ≤ kindV x ∧ kindV x ≤ 5 := by
  unfold kindV
  split; omega
  split; omega
  split; omega
  split; omega
  split <;> omega
set_option maxHeartbeats 2000000 in
theorem rparse_short (a : Option Addr) (n c : Nat) (w : World) (hn : n < 336) : Calls Tryd.prog 12 #[.slice a n c] w (PE noH 2 w) := by
  go_enter Tryd.func12, Tryd.ntmps12
  go_wp2
  refine bodyPost_ret (v := .tuple #[.agg noH.cells, .int .i64 2]) (by simp [results, Tryd.results12, go_sem, noH, HV.cells]; rfl) rfl ⟨rfl, ?_⟩
  exact own1 _ _
set_option maxHeartbeats 4000000 in
theorem rparse_sum (b o n c : Nat) (f : Nat → Int) (w : World) (hl : b < w.heap.size) (h0 : 336 ≤ n) (hn : n < 2147483648) (hc : n ≤ c) (h : Rd w b o n f) (ok : okB f) (hs : f 333 ≠ chk f 25) : Calls Tryd.prog 12 #[.slice (some ⟨b, o, none⟩) n c] w (PE noH 4 w) := by
  have B0 := Lib.hid (own1 w (.cells #[.string { data := #[] }, .int .i64 0, .bool false, .bool false, .int .i64 0, .int .i64 0, .bool false] 31))
  have R0 := Lib.hid (Has.new w #[.string { data := #[] }, .int .i64 0, .bool false, .bool false, .int .i64 0, .int .i64 0, .bool false] 31)
  have OK := Lib.hid ok
  have H := Lib.hid h
  have HL := Lib.hid hl
  have N0 := Lib.hid h0
  have N1 := Lib.hid hn
  clear h ok hl
  go_enter Tryd.func12, Tryd.ntmps12
  go_wp2
  generalize w.alloc (.cells #[.string { data := #[] }, .int .i64 0, .bool false, .bool false, .int .i64 0, .int .i64 0, .bool false] 31) = w0 at B0 R0 ⊢
  generalize hR : w.heap.size = R at R0 ⊢
  have LR := Lib.hid (show w.heap.size ≤ R by omega)
  clear hR
  have H1 := Lib.hid (fun q : Nat => flip (rcheck_l b o n c f (w0.drewN q) h0 hn hc ((H.out.below HL.out B0.out).drewN q) OK.out))
  have hcl := (H.out.below HL.out B0.out) 333 (by omega)
  have hne : (f 333 != chk f 25) = true := by simpa using hs
  clear hs
  generalize f 333 = x333 at hcl hne
  generalize chk f 25 = xchk at H1 hne
  go_quiet ((go_at_call 14; with_reducible exact Calls.quiet_of_same (H1.out _)))
  clear H1 hcl
  have B0' := Lib.hid (via B0.out (bdrewN w0 nq))
  have R0' := Lib.hid (R0.out.below (bdrewN w0 nq))
  generalize w0.drewN nq = w1 at B0' R0' ⊢
  clear B0 R0
  have hfz := R0'.out.2.2
  have hcc := R0'.out.2.1
  go_wp2
  refine bodyPost_ret (v := .tuple #[.agg noH.cells, .int .i64 4]) (by simp [results, Tryd.results12, go_sem, noH, HV.cells, hcc]; rfl) rfl ⟨rfl, ?_⟩
  exact bput7 B0'.out LR.out _ _ _ _ _ _ _
set_option maxHeartbeats 4000000 in
theorem rparse_rest (b o n c : Nat) (f : Nat → Int) (w : World) (hl : b < w.heap.size) (h0 : 336 ≤ n) (hn : n < 2147483648) (hc : n ≤ c) (h : Rd w b o n f) (ok : okB f) (hs : f 333 = chk f 25) : Calls Tryd.prog 12 #[.slice (some ⟨b, o, none⟩) n c] w (PE (parV n f) (perr n f) w) := by
  have B0 := Lib.hid (own1 w (.cells #[.string { data := #[] }, .int .i64 0, .bool false, .bool false, .int .i64 0, .int .i64 0, .bool false] 31))
  have R0 := Lib.hid (Has.new w #[.string { data := #[] }, .int .i64 0, .bool false, .bool false, .int .i64 0, .int .i64 0, .bool false] 31)
  have OK := Lib.hid ok
  have H := Lib.hid h
  have HL := Lib.hid hl
  have N0 := Lib.hid h0
  have N1 := Lib.hid hn
  clear h ok hl
  go_enter Tryd.func12, Tryd.ntmps12
  go_wp2
  generalize w.alloc (.cells #[.string { data := #[] }, .int .i64 0, .bool false, .bool false, .int .i64 0, .int .i64 0, .bool false] 31) = w0 at B0 R0 ⊢
  generalize hR : w.heap.size = R at R0 ⊢
  have LR := Lib.hid (show w.heap.size ≤ R by omega)
  clear hR
  have H1 := Lib.hid (fun q : Nat => flip (rcheck_l b o n c f (w0.drewN q) h0 hn hc ((H.out.below HL.out B0.out).drewN q) OK.out))
  have hcl := (H.out.below HL.out B0.out) 333 (by omega)
  have hne : (chk f 25 != chk f 25) = false := by simp
  have HS := Lib.hid hs
  rw [hs] at hcl
  clear hs
  generalize chk f 25 = xchk at H1 hne hcl
  go_quiet ((go_at_call 14; with_reducible exact Calls.quiet_of_same (H1.out _)))
  clear H1 hcl
  have B0' := Lib.hid (via B0.out (bdrewN w0 nq))
  have R0' := Lib.hid (R0.out.below (bdrewN w0 nq))
  generalize w0.drewN nq = w1 at B0' R0' ⊢
  clear B0 R0
  obtain ⟨x, hx⟩ : ∃ x, f 327 = x := ⟨_, rfl⟩
  have x0 : 0 ≤ x := by rw [← hx]; exact (OK.out 327).1
  have x1 : x < 256 := by rw [← hx]; exact (OK.out 327).2
  have c7 := (H.out.below HL.out B0'.out) 327 (by omega)
  rw [hx] at c7
  have HX := Lib.hid hx
  clear hx
  have i7 : (327 : Int) < n := by omega
  have i8 : (328 : Int) < n := by omega
  have i9 : (329 : Int) < n := by omega
  have kb := kindV_bd x
  have KC := Lib.hid (kind_c x)
  generalize hkv : kindV x = kv at kb KC
  have KV := Lib.hid hkv
  clear hkv
  have PP := Lib.hid (perr_of n f h0 HS.out)
  obtain ⟨i, hi⟩ : ∃ i : Nat, f 328 = i := ⟨(f 328).toNat, by have := (OK.out 328).1; omega⟩
  obtain ⟨j, hj⟩ : ∃ j : Nat, f 329 = j := ⟨(f 329).toNat, by have := (OK.out 329).1; omega⟩
  have i256 : i < 256 := by have := (OK.out 328).2; omega
  have j256 : j < 256 := by have := (OK.out 329).2; omega
  have C8 := Lib.hid (fun (W : World) (hB : Below w.heap.size w W) => show W.cell? ⟨b, o + 328, none⟩ = some (.int .u8 i) by rw [← hi]; exact (H.out.below HL.out hB) 328 (by omega))
  have C9 := Lib.hid (fun (W : World) (hB : Below w.heap.size w W) => show W.cell? ⟨b, o + 329, none⟩ = some (.int .u8 j) by rw [← hj]; exact (H.out.below HL.out hB) 329 (by omega))
  have HI := Lib.hid hi
  have HJ := Lib.hid hj
  clear hi hj
  go_upto_region 7 with (go_at_call 18; (with_reducible refine (KC.out _).mono ?_); rintro e w' ⟨rfl, rfl⟩)
  have S0 := Lib.hid (show Sx w (w1.alloc (.cells #[.string { data := #[] }, .int .i64 kv, .bool false, .bool false, .int .i64 0, .int .i64 0, .bool false] 31)) R w1.heap.size #[.string { data := #[] }, .int .i64 kv, .bool false, .bool false, .int .i64 0, .int .i64 0, .bool false] from ⟨via B0'.out (own1 _ _), R0'.out.alloc _, Has.new _ _ _⟩)
  have NA := Lib.hid (show R ≠ w1.heap.size by have := R0'.out.1; omega)
  have GA := Lib.hid (show w.heap.size ≤ w1.heap.size from B0'.out.size)
  generalize w1.alloc (.cells #[.string { data := #[] }, .int .i64 kv, .bool false, .bool false, .int .i64 0, .int .i64 0, .bool false] 31) = v0 at S0 ⊢
  generalize w1.heap.size = hb at S0 NA GA ⊢
  clear B0' R0' c7 KC
  have ZR := Lib.hid (fun (W : World) (A : Array Value) (h : Sx w W R hb A) => show (∀ o, W.cell? ⟨R, o, none⟩ = #[.string { data := #[] }, .int .i64 0, .bool false, .bool false, .int .i64 0, .int .i64 0, .bool false][o]?) from h.r.2.1)
  by_cases hk : kv < 0
  · have hrc := ZR.out v0 _ S0.out
    have hrf := S0.out.r.2.2
    have hcc := S0.out.h.2.1
    have EE := Lib.hid (par_kind n f PP.out (by unfold mapB; rw [HX.out, KV.out]; simpa using hk))
    go_wp2
    refine bodyPost_ret (v := .tuple #[.agg noH.cells, .int .i64 5]) (by simp [results, Tryd.results12, go_sem, noH, HV.cells, hrc]; rfl) rfl ⟨by rw [EE.out.1, EE.out.2], ?_⟩
    exact bput7 S0.out.bl LR.out _ _ _ _ _ _ _
  have MB := Lib.hid (show mapB (f 327) = true by unfold mapB; rw [HX.out, KV.out]; simp; omega)
  have hk0 : 0 ≤ kv := by omega
  by_cases hr : 8 < i ∨ 5 < j
  · have hrc := ZR.out v0 _ S0.out
    have hrf := S0.out.r.2.2
    have hcc := S0.out.h.2.1
    have c8 := C8.out v0 S0.out.bl
    have c9 := C9.out v0 S0.out.bl
    have EE := Lib.hid (par_range n f PP.out MB.out (by rw [HI.out, HJ.out]; omega))
    by_cases h8 : 8 < i
    · have h8I : (8 : Int) < i := by omega
      clear hr
      go_wp2
      refine bodyPost_ret (v := .tuple #[.agg noH.cells, .int .i64 7]) (by simp [results, Tryd.results12, go_sem, noH, HV.cells, hrc]; rfl) rfl ⟨by rw [EE.out.1, EE.out.2], ?_⟩
      exact bput7 S0.out.bl LR.out _ _ _ _ _ _ _
    · have h8I : ¬ (8 : Int) < i := by omega
      have h9I : (5 : Int) < j := by omega
      clear hr
      go_wp2
      refine bodyPost_ret (v := .tuple #[.agg noH.cells, .int .i64 7]) (by simp [results, Tryd.results12, go_sem, noH, HV.cells, hrc]; rfl) rfl ⟨by rw [EE.out.1, EE.out.2], ?_⟩
      exact bput7 S0.out.bl LR.out _ _ _ _ _ _ _
  have hi9 : i < 9 := by omega
  have hj6 : j < 6 := by omega
  have RG := Lib.hid (show ¬ (8 < f 328 ∨ 5 < f 329) by rw [HI.out, HJ.out]; omega)
  have h8I : ¬ (8 : Int) < i := by omega
  have h9I : ¬ (5 : Int) < j := by omega
  clear hr
  have hcc := S0.out.h.2.1
  have hfz := S0.out.h.2.2
  have c8 := C8.out v0 S0.out.bl
  have c9 := C9.out v0 S0.out.bl
  go_upto_region 12 with (fail)
  clear hcc hfz c8 c9
  have S1 := Lib.hid (show Sx w (v0.setCell ⟨hb, 4, none⟩ (.int .i64 2)) R hb #[.string { data := #[] }, .int .i64 kv, .bool false, .bool false, .int .i64 (bankV (0 : Nat)), .int .i64 0, .bool false] from S0.out.set GA.out NA.out 4 (by decide) _)
  generalize v0.setCell ⟨hb, 4, none⟩ (.int .i64 2) = v1 at S1 ⊢
  clear S0
  go_wp2
  go_loopg [6] i (fun g t wr => ∃ q : Nat, q ≤ i ∧ g + q = i ∧ t = .int .i64 q ∧ Sx w wr R hb #[.string { data := #[] }, .int .i64 kv, .bool false, .bool false, .int .i64 (bankV q), .int .i64 0, .bool false])
  case atStart => exact ⟨0, by omega, by omega, rfl, S1.out⟩
  case round =>
    obtain ⟨q, hq, hg, rfl, hS⟩ := hrel
    have GG := Lib.hid hg
    have SS := Lib.hid hS
    clear hg hS S1
    have hcc := SS.out.h.2.1
    have hfz := SS.out.h.2.2
    have c8 := C8.out wr SS.out.bl
    have bb := bank_bd q (by omega)
    by_cases hlt : q < i
    · have hI : (q : Int) < i := by omega
      have b2 := Lib.hid (show bankV (q + 1 : Nat) = bankV q * 2 from bank_two q)
      have NX := Lib.hid (show Sx w (wr.setCell ⟨hb, 4, none⟩ (.int .i64 (bankV q * 2))) R hb #[.string { data := #[] }, .int .i64 kv, .bool false, .bool false, .int .i64 (bankV (q + 1 : Nat)), .int .i64 0, .bool false] by rw [b2.out]; exact SS.out.set GA.out NA.out 4 (by decide) _)
      generalize bankV q = bq at bb hcc NX ⊢
      go_wp2
      go_roundg (gk - 1)
      exact ⟨q + 1, by omega, by have := GG.out; omega, by simp, NX.out⟩
      case measure => have := GG.out; omega
    · have eq : q = i := by omega
      subst eq
      have S2 := SS
      clear SS
      obtain ⟨bk, hbk⟩ : ∃ q_, bankV q = q_ := ⟨_, rfl⟩
      rw [hbk] at bb hcc S2
      have BK := Lib.hid hbk
      clear hbk
      by_cases hs : (n : Int) = bk * 16384
      · have EE := Lib.hid (par_ok n f PP.out MB.out RG.out (by rw [HI.out, BK.out]; exact hs))
        have hsb : ((n : Int) != bk * 16384) = false := by simpa using hs
        have c9 := C9.out wr S2.out.bl
        clear hs
        have RT := Lib.hid (show ramT j = ramT j from rfl)
        go_upto_block 2 with (fail)
        clear RT
        go_cut [5] (fun s5 wx => s5 = .pointer (some ⟨hb, 0, none⟩) ∧ Sx w wx R hb #[.string { data := #[] }, .int .i64 kv, .bool false, .bool false, .int .i64 bk, .int .i64 (ramT j), .bool false])
        case first =>
          have hjj : j = 0 ∨ j = 1 ∨ j = 2 ∨ j = 3 ∨ j = 4 ∨ j = 5 := by omega
          clear C8 C9 HJ c9
          rcases hjj with rfl | rfl | rfl | rfl | rfl | rfl
          · go_wp2
            go_meet
            exact ⟨rfl, S2.out⟩
          · go_wp2
            go_meet
            exact ⟨rfl, S2.out.set GA.out NA.out 5 (by decide) _⟩
          · go_wp2
            go_meet
            exact ⟨rfl, S2.out.set GA.out NA.out 5 (by decide) _⟩
          · go_wp2
            go_meet
            exact ⟨rfl, S2.out.set GA.out NA.out 5 (by decide) _⟩
          · go_wp2
            go_meet
            exact ⟨rfl, S2.out.set GA.out NA.out 5 (by decide) _⟩
          · go_wp2
            go_meet
            exact ⟨rfl, S2.out.set GA.out NA.out 5 (by decide) _⟩
        case rest =>
          obtain ⟨rfl, hS3⟩ := hcut
          have S3 := Lib.hid hS3
          clear hS3 hcc hfz c8 c9 S2
          have RV := Lib.hid (show ramV kv j = if kv = 2 then 512 else ramT j from rfl)
          obtain ⟨rv, hrv⟩ : ∃ q_, ramV kv j = q_ := ⟨_, rfl⟩
          have hcc := S3.out.h.2.1
          have hfz := S3.out.h.2.2
          generalize ramT j = rt at RV S3 hcc
          rw [hrv] at RV
          have HRV := Lib.hid hrv
          clear hrv
          go_upto_if 81 with (fail)
          go_cut [5] (fun s5 wx => s5 = .pointer (some ⟨hb, 0, none⟩) ∧ Sx w wx R hb #[.string { data := #[] }, .int .i64 kv, .bool false, .bool false, .int .i64 bk, .int .i64 rv, .bool false])
          case first =>
            by_cases hk2 : kv = 2
            · have e := RV.out
              rw [if_pos hk2] at e
              subst e
              subst hk2
              go_wp2
              go_meet
              exact ⟨rfl, S3.out.set GA.out NA.out 5 (by decide) _⟩
            · have e := RV.out
              rw [if_neg hk2] at e
              subst e
              have hk3 : (kv == 2) = false := by simpa using hk2
              go_wp2
              go_meet
              exact ⟨rfl, S3.out⟩
          case rest =>
            obtain ⟨rfl, hS4⟩ := hcut
            have S4 := Lib.hid hS4
            clear hS4 hcc hfz S3 RV
            have hcc := S4.out.h.2.1
            have hfz := S4.out.h.2.2
            go_upto_region 31 with (fail)
            go_cut [5] (fun s5 wx => s5 = .pointer (some ⟨hb, 0, none⟩) ∧ Sx w wx R hb #[.string { data := #[] }, .int .i64 kv, .bool (clockV x), .bool false, .int .i64 bk, .int .i64 rv, .bool false])
            case first =>
              by_cases e15 : x = 15
              · subst e15
                go_wp2
                go_meet
                exact ⟨rfl, S4.out.set GA.out NA.out 2 (by decide) _⟩
              · have b15 : (x == 15) = false := by simpa using e15
                by_cases e16 : x = 16
                · subst e16
                  go_wp2
                  go_meet
                  exact ⟨rfl, S4.out.set GA.out NA.out 2 (by decide) _⟩
                · have b16 : (x == 16) = false := by simpa using e16
                  have EC := Lib.hid (show clockV x = false by unfold clockV; rw [b15, b16]; rfl)
                  go_wp2
                  go_meet
                  rw [EC.out]
                  exact ⟨rfl, S4.out.set GA.out NA.out 2 (by decide) _⟩
            case rest =>
              obtain ⟨rfl, hS5⟩ := hcut
              have S5 := Lib.hid hS5
              clear hS5 hcc hfz S4
              have hcc := S5.out.h.2.1
              have hfz := S5.out.h.2.2
              obtain ⟨cv, hcv⟩ : ∃ q_, clockV x = q_ := ⟨_, rfl⟩
              rw [hcv] at S5 hcc
              have CV := Lib.hid hcv
              clear hcv
              go_upto_region 32 with (fail)
              go_cut [5] (fun s5 wx => s5 = .pointer (some ⟨hb, 0, none⟩) ∧ Sx w wx R hb #[.string { data := #[] }, .int .i64 kv, .bool cv, .bool (battV x), .int .i64 bk, .int .i64 rv, .bool false])
              case first =>
                by_cases e3 : x = 3
                · subst e3
                  clear CV HX KV
                  go_wp2
                  go_meet
                  exact ⟨rfl, S5.out.set GA.out NA.out 3 (by decide) _⟩
                have b3 : (x == 3) = false := by simpa using e3
                by_cases e6 : x = 6
                · subst e6
                  clear CV HX KV
                  go_wp2
                  go_meet
                  exact ⟨rfl, S5.out.set GA.out NA.out 3 (by decide) _⟩
                have b6 : (x == 6) = false := by simpa using e6
                by_cases e9 : x = 9
                · subst e9
                  clear CV HX KV
                  go_wp2
                  go_meet
                  exact ⟨rfl, S5.out.set GA.out NA.out 3 (by decide) _⟩
                have b9 : (x == 9) = false := by simpa using e9
                by_cases e15 : x = 15
                · subst e15
                  clear CV HX KV
                  go_wp2
                  go_meet
                  exact ⟨rfl, S5.out.set GA.out NA.out 3 (by decide) _⟩
                have b15 : (x == 15) = false := by simpa using e15
                by_cases e16 : x = 16
                · subst e16
                  clear CV HX KV
                  go_wp2
                  go_meet
                  exact ⟨rfl, S5.out.set GA.out NA.out 3 (by decide) _⟩
                have b16 : (x == 16) = false := by simpa using e16
                by_cases e19 : x = 19
                · subst e19
                  clear CV HX KV
                  go_wp2
                  go_meet
                  exact ⟨rfl, S5.out.set GA.out NA.out 3 (by decide) _⟩
                have b19 : (x == 19) = false := by simpa using e19
                by_cases e27 : x = 27
                · subst e27
                  clear CV HX KV
                  go_wp2
                  go_meet
                  exact ⟨rfl, S5.out.set GA.out NA.out 3 (by decide) _⟩
                have b27 : (x == 27) = false := by simpa using e27
                by_cases e30 : x = 30
                · subst e30
                  clear CV HX KV
                  go_wp2
                  go_meet
                  exact ⟨rfl, S5.out.set GA.out NA.out 3 (by decide) _⟩
                have b30 : (x == 30) = false := by simpa using e30
                have EC := Lib.hid (show battV x = false by unfold battV; rw [b3, b6, b9, b15, b16, b19, b27, b30]; rfl)
                go_wp2
                go_meet
                rw [EC.out]
                exact ⟨rfl, S5.out.set GA.out NA.out 3 (by decide) _⟩
              case rest =>
                obtain ⟨rfl, hS6⟩ := hcut
                have S6 := Lib.hid hS6
                clear hS6 hcc hfz S5
                obtain ⟨bv, hbv⟩ : ∃ q_, battV x = q_ := ⟨_, rfl⟩
                rw [hbv] at S6
                have BV := Lib.hid hbv
                clear hbv
                have ZL := zl_le f 15 308
                have ZN := Lib.hid (zl_nz f 15 308)
                have ZZ := Lib.hid (zl_z f 15 308)
                generalize hz : zl f 308 15 = z at ZL ZN ZZ
                have HZ := Lib.hid hz
                clear hz
                have T0 := Lib.hid (show titS f 0 = { data := #[] } from rfl)
                go_upto_region 33 with (fail)
                go_wp2
                go_loopg [7] z (fun g s7 wr => ∃ k : Nat, k ≤ z ∧ g + k = z ∧ s7 = .int .i64 (308 + k : Nat) ∧ Sx w wr R hb #[.string (titS f k), .int .i64 kv, .bool cv, .bool bv, .int .i64 bk, .int .i64 rv, .bool false])
                case atStart => exact ⟨0, by omega, by omega, rfl, by rw [T0.out]; exact S6.out⟩
                case round =>
                  obtain ⟨k, hk, hg, rfl, hS⟩ := hrel
                  have G7 := Lib.hid hg
                  have S7 := Lib.hid hS
                  clear hg hS S6
                  obtain ⟨p, hp⟩ : ∃ p, 308 + k = p := ⟨_, rfl⟩
                  rw [hp]
                  have p0 : 308 ≤ p := by omega
                  have p1 : p ≤ 323 := by omega
                  have hcc := S7.out.h.2.1
                  have hfz := S7.out.h.2.2
                  have cp := (H.out.below HL.out S7.out.bl) p (by omega)
                  have fb := OK.out p
                  have hpn : (p : Int) < n := by omega
                  have HP := Lib.hid hp
                  by_cases hlt : k < z
                  · have hp2 : (p : Int) ≤ 322 := by omega
                    have hnz : f p ≠ 0 := by have := ZN.out k hlt; rwa [hp] at this
                    have SU := Lib.hid (show titS f (k + 1) = titS f k ++ ⟨#[byteOf (shown (f p))]⟩ by rw [← hp]; exact titS_succ f k)
                    have hsz := titS_size f k
                    obtain ⟨ts, hts⟩ : ∃ q_, titS f k = q_ := ⟨_, rfl⟩
                    rw [hts] at hcc S7 SU hsz
                    have sb := shown_bd (f p) fb.1 fb.2
                    obtain ⟨d, hd⟩ : ∃ q_, shown (f p) = q_ := ⟨_, rfl⟩
                    rw [hd] at SU sb
                    have hcv := conv1 d sb.1 sb.2 (wr.alloc (.cells #[.int .u8 d] 5)) wr.heap.size (by simp)
                    have S8 := Lib.hid (show Sx w ((wr.setCell ⟨hb, 0, none⟩ (.string (ts ++ ⟨#[byteOf d]⟩))).alloc (.cells #[.int .u8 d] 5)) R hb #[.string (titS f (k + 1)), .int .i64 kv, .bool cv, .bool bv, .int .i64 bk, .int .i64 rv, .bool false] by
                      rw [SU.out]; exact Sx.to (S7.out.set GA.out NA.out 0 (by decide) _) (own1 _ _))
                    have hln : hb < wr.heap.size := S7.out.h.1
                    generalize f p = fp at cp hnz fb hd
                    have hnz' : (fp != 0) = true := by simpa using hnz
                    have HD := Lib.hid hd
                    clear hts hd hp hnz SU
                    by_cases q1 : fp < 32
                    · have e : d = 63 := by rw [← HD.out]; exact if_pos (Or.inl q1)
                      subst e
                      go_wp2
                      go_roundg (gk - 1)
                      exact ⟨k + 1, by omega, by have := G7.out; omega, by have := HP.out; simp; omega, S8.out⟩
                      case measure => have := G7.out; omega
                    · by_cases q2 : 126 < fp
                      · have e : d = 63 := by rw [← HD.out]; exact if_pos (Or.inr q2)
                        subst e
                        go_wp2
                        go_roundg (gk - 1)
                        exact ⟨k + 1, by omega, by have := G7.out; omega, by have := HP.out; simp; omega, S8.out⟩
                        case measure => have := G7.out; omega
                      · have e : fp = d := by rw [← HD.out]; exact (if_neg (by omega)).symm
                        subst e
                        go_wp2
                        go_roundg (gk - 1)
                        exact ⟨k + 1, by omega, by have := G7.out; omega, by have := HP.out; simp; omega, S8.out⟩
                        case measure => have := G7.out; omega
                  · have ek : k = z := by omega
                    subst ek
                    have TI := Lib.hid (show titS f (zl f 308 15) = titS f k by rw [HZ.out])
                    obtain ⟨ts, hts⟩ : ∃ q_, titS f k = q_ := ⟨_, rfl⟩
                    rw [hts] at hcc S7 TI
                    clear hts
                    have hstop : ¬ (p : Int) ≤ 322 ∨ ((p : Int) ≤ 322 ∧ f p = 0) := by
                      by_cases hp2 : p ≤ 322
                      · right; exact ⟨by omega, by have := ZZ.out (by omega); rwa [hp] at this⟩
                      · left; omega
                    generalize f p = fp at cp hstop fb
                    clear hp
                    obtain ⟨y4, hy4⟩ : ∃ q_, f 334 = q_ := ⟨_, rfl⟩
                    obtain ⟨y5, hy5⟩ : ∃ q_, f 335 = q_ := ⟨_, rfl⟩
                    have y40 := (OK.out 334).1
                    have y41 := (OK.out 334).2
                    have y50 := (OK.out 335).1
                    have y51 := (OK.out 335).2
                    rw [hy4] at y40 y41
                    rw [hy5] at y50 y51
                    have Y4 := Lib.hid hy4
                    have Y5 := Lib.hid hy5
                    clear hy4 hy5
                    have C4 := Lib.hid (fun (W : World) (hB : Below w.heap.size w W) => show W.cell? ⟨b, o + 334, none⟩ = some (.int .u8 y4) by rw [← Y4.out]; exact (H.out.below HL.out hB) 334 (by omega))
                    have C5 := Lib.hid (fun (W : World) (hB : Below w.heap.size w W) => show W.cell? ⟨b, o + 335, none⟩ = some (.int .u8 y5) by rw [← Y5.out]; exact (H.out.below HL.out hB) 335 (by omega))
                    have i4 : (334 : Int) < n := by omega
                    have i5 : (335 : Int) < n := by omega
                    have svb := sumV_bd n f
                    obtain ⟨sv, hsv⟩ : ∃ q_, sumV n f = q_ := ⟨_, rfl⟩
                    rw [hsv] at svb
                    have SV := Lib.hid hsv
                    have SC := Lib.hid (fun (W : World) (hB : Below w.heap.size w W) => show Calls Tryd.prog 16 #[.slice (some ⟨b, o, none⟩) n c] W (fun e w' => e = .returned (.int .u16 sv) ∧ W = w') by rw [← SV.out]; exact rsum_l b o n c f W N0.out N1.out hc (H.out.below HL.out hB) OK.out)
                    clear hsv
                    have S9 := Lib.hid (S7.out.to (Below.refl _ _).drew)
                    have hor := mul_word y4 y5 y40 y41 y50 y51
                    have hos := wrap_word sv svb.1 svb.2
                    generalize hyy : y4 * 256 + y5 = yy at hor
                    have YY := Lib.hid hyy
                    clear hyy
                    have HEAD := Lib.hid (show headV n f = ⟨ts, kv, cv, bv, bk, rv, yy == sv⟩ by
                      unfold headV
                      rw [HX.out, HI.out, HJ.out, TI.out, BK.out, KV.out, HRV.out, CV.out, BV.out, Y4.out, Y5.out, YY.out, SV.out]
                      rfl)
                    rcases hstop with hstop | ⟨hst1, hst2⟩
                    · go_upto_region 40 with (fail)
                      refine wp_region_held_drew (S := (fun w' => (w'.cell? ⟨b, o + 334, none⟩ = some (.int .u8 y4)) ∧ (w'.cell? ⟨b, o + 335, none⟩ = some (.int .u8 y5)) ∧ True)) (by kernel_rfl) ⟨C4.out _ S9.out.bl, C5.out _ S9.out.bl, trivial⟩ (fun hHeld => ?_)
                      generalize World.drew wr = v0 at hHeld S9 ⊢
                      refine wpAnyH_take (i := 0) (oi := { dst := some 149, op := Go.Op.move (Go.Operand.tmp 0), type := 24, pos := "ref.go:103", after := #[], guard := none }) (v := ?v27) rfl (by kernel_rfl) (by kernel_rfl) (by kernel_rfl) (fun _ _ _ h => h) (Or.inl ⟨by rfl, ?y27⟩) (by assumption) ?z27
                      case y27 => (intro w hSw; (try dsimp only at hSw); go_simp) <;> with_reducible rfl
                      try simp only [Act.put, List.setIfInBounds_toArray, List.set_cons_zero, List.set_cons_succ]
                      refine wpAnyH_take (i := 1) (oi := { dst := some 150, op := Go.Op.indexAddr 24 (Go.Operand.tmp 149) (Go.Operand.const (Go.Value.int Go.IntKind.i64 334)), type := 0, pos := "ref.go:103", after := #[{ on := 0, ground := Go.Ground.data }], guard := none }) (v := ?v28) rfl (by kernel_rfl) (by kernel_rfl) (by kernel_rfl) (fun _ _ _ h => h) (Or.inl ⟨by rfl, ?y28⟩) (by assumption) ?z28
                      case y28 => (intro w hSw; (try dsimp only at hSw); go_simp) <;> with_reducible rfl
                      try simp only [Act.put, List.setIfInBounds_toArray, List.set_cons_zero, List.set_cons_succ]
                      refine wpAnyH_take (i := 2) (oi := { dst := some 151, op := Go.Op.load 5 (Go.Operand.tmp 150), type := 5, pos := "ref.go:103", after := #[{ on := 1, ground := Go.Ground.data }], guard := none }) (v := ?v29) rfl (by kernel_rfl) (by kernel_rfl) (by kernel_rfl) (fun _ _ _ h => h) (Or.inl ⟨by rfl, ?y29⟩) (by assumption) ?z29
                      case y29 => (intro w hSw; (try dsimp only at hSw); go_simp) <;> with_reducible rfl
                      try simp only [Act.put, List.setIfInBounds_toArray, List.set_cons_zero, List.set_cons_succ]
                      refine wpAnyH_take (i := 3) (oi := { dst := some 152, op := Go.Op.convert 5 3 (Go.Operand.tmp 151), type := 3, pos := "ref.go:103", after := #[{ on := 2, ground := Go.Ground.data }], guard := none }) (v := ?v30) rfl (by kernel_rfl) (by kernel_rfl) (by kernel_rfl) (fun _ _ _ h => h) (Or.inl ⟨by rfl, ?y30⟩) (by assumption) ?z30
                      case y30 => (intro w hSw; (try dsimp only at hSw); go_simp) <;> with_reducible rfl
                      try simp only [Act.put, List.setIfInBounds_toArray, List.set_cons_zero, List.set_cons_succ]
                      refine wpAnyH_take (i := 4) (oi := { dst := some 153, op := Go.Op.binOp Go.BinOp.mul 3 (Go.Operand.tmp 152) (Go.Operand.const (Go.Value.int Go.IntKind.i64 256)) 3, type := 3, pos := "ref.go:103", after := #[{ on := 3, ground := Go.Ground.data }], guard := none }) (v := ?v31) rfl (by kernel_rfl) (by kernel_rfl) (by kernel_rfl) (fun _ _ _ h => h) (Or.inl ⟨by rfl, ?y31⟩) (by assumption) ?z31
                      case y31 => (intro w hSw; (try dsimp only at hSw); go_simp) <;> with_reducible rfl
                      try simp only [Act.put, List.setIfInBounds_toArray, List.set_cons_zero, List.set_cons_succ]
                      refine wpAnyH_take (i := 5) (oi := { dst := some 154, op := Go.Op.move (Go.Operand.tmp 0), type := 24, pos := "ref.go:103", after := #[], guard := none }) (v := ?v32) rfl (by kernel_rfl) (by kernel_rfl) (by kernel_rfl) (fun _ _ _ h => h) (Or.inl ⟨by rfl, ?y32⟩) (by assumption) ?z32
                      case y32 => (intro w hSw; (try dsimp only at hSw); go_simp) <;> with_reducible rfl
                      try simp only [Act.put, List.setIfInBounds_toArray, List.set_cons_zero, List.set_cons_succ]
                      refine wpAnyH_take (i := 6) (oi := { dst := some 155, op := Go.Op.indexAddr 24 (Go.Operand.tmp 154) (Go.Operand.const (Go.Value.int Go.IntKind.i64 335)), type := 0, pos := "ref.go:103", after := #[{ on := 5, ground := Go.Ground.data }], guard := none }) (v := ?v33) rfl (by kernel_rfl) (by kernel_rfl) (by kernel_rfl) (fun _ _ _ h => h) (Or.inl ⟨by rfl, ?y33⟩) (by assumption) ?z33
                      case y33 => (intro w hSw; (try dsimp only at hSw); go_simp) <;> with_reducible rfl
                      try simp only [Act.put, List.setIfInBounds_toArray, List.set_cons_zero, List.set_cons_succ]
                      refine wpAnyH_take (i := 7) (oi := { dst := some 156, op := Go.Op.load 5 (Go.Operand.tmp 155), type := 5, pos := "ref.go:103", after := #[{ on := 6, ground := Go.Ground.data }], guard := none }) (v := ?v34) rfl (by kernel_rfl) (by kernel_rfl) (by kernel_rfl) (fun _ _ _ h => h) (Or.inl ⟨by rfl, ?y34⟩) (by assumption) ?z34
                      case y34 => (intro w hSw; (try dsimp only at hSw); go_simp) <;> with_reducible rfl
                      try simp only [Act.put, List.setIfInBounds_toArray, List.set_cons_zero, List.set_cons_succ]
                      refine wpAnyH_take (i := 8) (oi := { dst := some 157, op := Go.Op.convert 5 3 (Go.Operand.tmp 156), type := 3, pos := "ref.go:103", after := #[{ on := 7, ground := Go.Ground.data }], guard := none }) (v := ?v35) rfl (by kernel_rfl) (by kernel_rfl) (by kernel_rfl) (fun _ _ _ h => h) (Or.inl ⟨by rfl, ?y35⟩) (by assumption) ?z35
                      case y35 => (intro w hSw; (try dsimp only at hSw); go_simp) <;> with_reducible rfl
                      try simp only [Act.put, List.setIfInBounds_toArray, List.set_cons_zero, List.set_cons_succ]
                      refine wpAnyH_take (i := 9) (oi := { dst := some 158, op := Go.Op.binOp Go.BinOp.add 3 (Go.Operand.tmp 153) (Go.Operand.tmp 157) 3, type := 3, pos := "ref.go:103", after := #[{ on := 4, ground := Go.Ground.data }, { on := 8, ground := Go.Ground.data }], guard := none }) (v := ?v36) rfl (by kernel_rfl) (by kernel_rfl) (by kernel_rfl) (fun _ _ _ h => h) (Or.inl ⟨by rfl, ?y36⟩) (by assumption) ?z36
                      case y36 => (intro w hSw; (try dsimp only at hSw); go_simp) <;> with_reducible rfl
                      try simp only [Act.put, List.setIfInBounds_toArray, List.set_cons_zero, List.set_cons_succ]
                      refine wpAnyH_take (i := 10) (oi := { dst := some 159, op := Go.Op.move (Go.Operand.tmp 0), type := 24, pos := "ref.go:103", after := #[], guard := none }) (v := ?v37) rfl (by kernel_rfl) (by kernel_rfl) (by kernel_rfl) (fun _ _ _ h => h) (Or.inl ⟨by rfl, ?y37⟩) (by assumption) ?z37
                      case y37 => (intro w hSw; (try dsimp only at hSw); go_simp) <;> with_reducible rfl
                      try simp only [Act.put, List.setIfInBounds_toArray, List.set_cons_zero, List.set_cons_succ]
                      refine wpAnyH_ready (rs := [11]) (by kernel_rfl) (by simp) ?_
                      refine (AllReadyH.cons (o := { dst := some 160, op := Go.Op.call { callee := Go.Callee.value (Go.Operand.func 16), args := #[Go.Operand.tmp 159], argTypes := #[24] }, type := 35, pos := "ref.go:103", after := #[{ on := 10, ground := Go.Ground.data }], guard := none }) rfl (fun K hK => ?_) AllReadyH.nil)
                      · skip
                        go_simp
                        go_wp2_with (go_at_call 16; (with_reducible refine (SC.out v0 S9.out.bl).mono ?_); rintro e v1 ⟨rfl, rfl⟩)
                        refine hK.out _ _ ?s38 (fun hNew => ?r38)
                        case s38 => exact ⟨C4.out _ S9.out.bl, C5.out _ S9.out.bl, trivial⟩
                        clear hK K hHeld
                        have hHeld := hNew
                        clear hNew
                        refine wpAnyH_take (i := 12) (oi := { dst := some 161, op := Go.Op.convert 35 3 (Go.Operand.tmp 160), type := 3, pos := "ref.go:103", after := #[{ on := 11, ground := Go.Ground.data }], guard := none }) (v := ?v39) rfl (by kernel_rfl) (by kernel_rfl) (by kernel_rfl) (fun _ _ _ h => h) (Or.inl ⟨by rfl, ?y39⟩) (by assumption) ?z39
                        case y39 => (intro w hSw; (try dsimp only at hSw); go_simp) <;> with_reducible rfl
                        try simp only [Act.put, List.setIfInBounds_toArray, List.set_cons_zero, List.set_cons_succ]
                        refine wpAnyH_take (i := 13) (oi := { dst := some 162, op := Go.Op.binOp Go.BinOp.eql 3 (Go.Operand.tmp 158) (Go.Operand.tmp 161) 3, type := 4, pos := "ref.go:103", after := #[{ on := 9, ground := Go.Ground.data }, { on := 12, ground := Go.Ground.data }], guard := none }) (v := ?v40) rfl (by kernel_rfl) (by kernel_rfl) (by kernel_rfl) (fun _ _ _ h => h) (Or.inl ⟨by rfl, ?y40⟩) (by assumption) ?z40
                        case y40 => (intro w hSw; (try dsimp only at hSw); go_simp) <;> with_reducible rfl
                        try simp only [Act.put, List.setIfInBounds_toArray, List.set_cons_zero, List.set_cons_succ]
                        refine wpAnyH_take (i := 14) (oi := { dst := some 163, op := Go.Op.fieldAddr 31 (Go.Operand.tmp 5) 6, type := 0, pos := "ref.go:103", after := #[{ on := 0, ground := Go.Ground.phase }, { on := 1, ground := Go.Ground.phase }, { on := 2, ground := Go.Ground.phase }, { on := 3, ground := Go.Ground.phase }, { on := 4, ground := Go.Ground.phase }, { on := 5, ground := Go.Ground.phase }, { on := 6, ground := Go.Ground.phase }, { on := 7, ground := Go.Ground.phase }, { on := 8, ground := Go.Ground.phase }, { on := 9, ground := Go.Ground.phase }, { on := 10, ground := Go.Ground.phase }, { on := 11, ground := Go.Ground.phase }, { on := 12, ground := Go.Ground.phase }, { on := 13, ground := Go.Ground.phase }], guard := none }) (v := ?v41) rfl (by kernel_rfl) (by kernel_rfl) (by kernel_rfl) (fun _ _ _ h => h) (Or.inl ⟨by rfl, ?y41⟩) (by assumption) ?z41
                        case y41 => (intro w hSw; (try dsimp only at hSw); go_simp) <;> with_reducible rfl
                        try simp only [Act.put, List.setIfInBounds_toArray, List.set_cons_zero, List.set_cons_succ]
                        refine wpAnyH_ready (rs := [15]) (by kernel_rfl) (by simp) ?_
                        refine (AllReadyH.cons (o := { dst := none, op := Go.Op.store 4 (Go.Operand.tmp 163) (Go.Operand.tmp 162), type := 0, pos := "ref.go:103", after := #[{ on := 14, ground := Go.Ground.data }, { on := 13, ground := Go.Ground.data }, { on := 11, ground := Go.Ground.chain }, { on := 0, ground := Go.Ground.phase }, { on := 1, ground := Go.Ground.phase }, { on := 2, ground := Go.Ground.phase }, { on := 3, ground := Go.Ground.phase }, { on := 4, ground := Go.Ground.phase }, { on := 5, ground := Go.Ground.phase }, { on := 6, ground := Go.Ground.phase }, { on := 7, ground := Go.Ground.phase }, { on := 8, ground := Go.Ground.phase }, { on := 9, ground := Go.Ground.phase }, { on := 10, ground := Go.Ground.phase }, { on := 11, ground := Go.Ground.phase }, { on := 12, ground := Go.Ground.phase }, { on := 13, ground := Go.Ground.phase }], guard := none }) rfl (fun K hK => ?_) AllReadyH.nil)
                        · skip
                          have hcc := S9.out.h.2.1
                          have hfz := S9.out.h.2.2
                          go_simp
                          have S10 := Lib.hid (show Sx w (v0.setCell ⟨hb, 6, none⟩ (.bool (yy == sv))) R hb #[.string ts, .int .i64 kv, .bool cv, .bool bv, .int .i64 bk, .int .i64 rv, .bool (yy == sv)] from S9.out.set GA.out NA.out 6 (by decide) _)
                          refine hK.out _ _ ?s42 (fun hNew => ?r42)
                          case s42 => exact ⟨C4.out _ S10.out.bl, C5.out _ S10.out.bl, trivial⟩
                          clear hK K hHeld hcc hfz
                          generalize v0.setCell ⟨hb, 6, none⟩ (.bool (yy == sv)) = v2 at S10 ⊢
                          clear hNew
                          refine wpAnyH_done (by kernel_rfl) ?_ _
                          have hcc := S10.out.h.2.1
                          have hfz := S10.out.h.2.2
                          have hrc := ZR.out v2 _ S10.out
                          have hrf := S10.out.r.2.2
                          have nhb : ¬ hb = R := fun e => NA.out e.symm
                          have nRh : ¬ R = hb := NA.out
                          go_wp2
                          refine bodyPost_ret (v := .tuple #[.agg #[.string ts, .int .i64 kv, .bool cv, .bool bv, .int .i64 bk, .int .i64 rv, .bool (yy == sv)], .int .i64 0]) (by simp [results, Tryd.results12, go_sem, hrc]) rfl ⟨?_, bput7 S10.out.bl LR.out _ _ _ _ _ _ _⟩
                          rw [EE.out.1, EE.out.2, HEAD.out]
                          rfl
                    · subst hst2
                      go_upto_region 40 with (fail)
                      refine wp_region_held_drew (S := (fun w' => (w'.cell? ⟨b, o + 334, none⟩ = some (.int .u8 y4)) ∧ (w'.cell? ⟨b, o + 335, none⟩ = some (.int .u8 y5)) ∧ True)) (by kernel_rfl) ⟨C4.out _ S9.out.bl, C5.out _ S9.out.bl, trivial⟩ (fun hHeld => ?_)
                      generalize World.drew wr = v0 at hHeld S9 ⊢
                      refine wpAnyH_take (i := 0) (oi := { dst := some 149, op := Go.Op.move (Go.Operand.tmp 0), type := 24, pos := "ref.go:103", after := #[], guard := none }) (v := ?v43) rfl (by kernel_rfl) (by kernel_rfl) (by kernel_rfl) (fun _ _ _ h => h) (Or.inl ⟨by rfl, ?y43⟩) (by assumption) ?z43
                      case y43 => (intro w hSw; (try dsimp only at hSw); go_simp) <;> with_reducible rfl
                      try simp only [Act.put, List.setIfInBounds_toArray, List.set_cons_zero, List.set_cons_succ]
                      refine wpAnyH_take (i := 1) (oi := { dst := some 150, op := Go.Op.indexAddr 24 (Go.Operand.tmp 149) (Go.Operand.const (Go.Value.int Go.IntKind.i64 334)), type := 0, pos := "ref.go:103", after := #[{ on := 0, ground := Go.Ground.data }], guard := none }) (v := ?v44) rfl (by kernel_rfl) (by kernel_rfl) (by kernel_rfl) (fun _ _ _ h => h) (Or.inl ⟨by rfl, ?y44⟩) (by assumption) ?z44
                      case y44 => (intro w hSw; (try dsimp only at hSw); go_simp) <;> with_reducible rfl
                      try simp only [Act.put, List.setIfInBounds_toArray, List.set_cons_zero, List.set_cons_succ]
                      refine wpAnyH_take (i := 2) (oi := { dst := some 151, op := Go.Op.load 5 (Go.Operand.tmp 150), type := 5, pos := "ref.go:103", after := #[{ on := 1, ground := Go.Ground.data }], guard := none }) (v := ?v45) rfl (by kernel_rfl) (by kernel_rfl) (by kernel_rfl) (fun _ _ _ h => h) (Or.inl ⟨by rfl, ?y45⟩) (by assumption) ?z45
                      case y45 => (intro w hSw; (try dsimp only at hSw); go_simp) <;> with_reducible rfl
                      try simp only [Act.put, List.setIfInBounds_toArray, List.set_cons_zero, List.set_cons_succ]
                      refine wpAnyH_take (i := 3) (oi := { dst := some 152, op := Go.Op.convert 5 3 (Go.Operand.tmp 151), type := 3, pos := "ref.go:103", after := #[{ on := 2, ground := Go.Ground.data }], guard := none }) (v := ?v46) rfl (by kernel_rfl) (by kernel_rfl) (by kernel_rfl) (fun _ _ _ h => h) (Or.inl ⟨by rfl, ?y46⟩) (by assumption) ?z46
                      case y46 => (intro w hSw; (try dsimp only at hSw); go_simp) <;> with_reducible rfl
                      try simp only [Act.put, List.setIfInBounds_toArray, List.set_cons_zero, List.set_cons_succ]
                      refine wpAnyH_take (i := 4) (oi := { dst := some 153, op := Go.Op.binOp Go.BinOp.mul 3 (Go.Operand.tmp 152) (Go.Operand.const (Go.Value.int Go.IntKind.i64 256)) 3, type := 3, pos := "ref.go:103", after := #[{ on := 3, ground := Go.Ground.data }], guard := none }) (v := ?v47) rfl (by kernel_rfl) (by kernel_rfl) (by kernel_rfl) (fun _ _ _ h => h) (Or.inl ⟨by rfl, ?y47⟩) (by assumption) ?z47
                      case y47 => (intro w hSw; (try dsimp only at hSw); go_simp) <;> with_reducible rfl
                      try simp only [Act.put, List.setIfInBounds_toArray, List.set_cons_zero, List.set_cons_succ]
                      refine wpAnyH_take (i := 5) (oi := { dst := some 154, op := Go.Op.move (Go.Operand.tmp 0), type := 24, pos := "ref.go:103", after := #[], guard := none }) (v := ?v48) rfl (by kernel_rfl) (by kernel_rfl) (by kernel_rfl) (fun _ _ _ h => h) (Or.inl ⟨by rfl, ?y48⟩) (by assumption) ?z48
                      case y48 => (intro w hSw; (try dsimp only at hSw); go_simp) <;> with_reducible rfl
                      try simp only [Act.put, List.setIfInBounds_toArray, List.set_cons_zero, List.set_cons_succ]
                      refine wpAnyH_take (i := 6) (oi := { dst := some 155, op := Go.Op.indexAddr 24 (Go.Operand.tmp 154) (Go.Operand.const (Go.Value.int Go.IntKind.i64 335)), type := 0, pos := "ref.go:103", after := #[{ on := 5, ground := Go.Ground.data }], guard := none }) (v := ?v49) rfl (by kernel_rfl) (by kernel_rfl) (by kernel_rfl) (fun _ _ _ h => h) (Or.inl ⟨by rfl, ?y49⟩) (by assumption) ?z49
                      case y49 => (intro w hSw; (try dsimp only at hSw); go_simp) <;> with_reducible rfl
                      try simp only [Act.put, List.setIfInBounds_toArray, List.set_cons_zero, List.set_cons_succ]
                      refine wpAnyH_take (i := 7) (oi := { dst := some 156, op := Go.Op.load 5 (Go.Operand.tmp 155), type := 5, pos := "ref.go:103", after := #[{ on := 6, ground := Go.Ground.data }], guard := none }) (v := ?v50) rfl (by kernel_rfl) (by kernel_rfl) (by kernel_rfl) (fun _ _ _ h => h) (Or.inl ⟨by rfl, ?y50⟩) (by assumption) ?z50
                      case y50 => (intro w hSw; (try dsimp only at hSw); go_simp) <;> with_reducible rfl
                      try simp only [Act.put, List.setIfInBounds_toArray, List.set_cons_zero, List.set_cons_succ]
                      refine wpAnyH_take (i := 8) (oi := { dst := some 157, op := Go.Op.convert 5 3 (Go.Operand.tmp 156), type := 3, pos := "ref.go:103", after := #[{ on := 7, ground := Go.Ground.data }], guard := none }) (v := ?v51) rfl (by kernel_rfl) (by kernel_rfl) (by kernel_rfl) (fun _ _ _ h => h) (Or.inl ⟨by rfl, ?y51⟩) (by assumption) ?z51
                      case y51 => (intro w hSw; (try dsimp only at hSw); go_simp) <;> with_reducible rfl
                      try simp only [Act.put, List.setIfInBounds_toArray, List.set_cons_zero, List.set_cons_succ]
                      refine wpAnyH_take (i := 9) (oi := { dst := some 158, op := Go.Op.binOp Go.BinOp.add 3 (Go.Operand.tmp 153) (Go.Operand.tmp 157) 3, type := 3, pos := "ref.go:103", after := #[{ on := 4, ground := Go.Ground.data }, { on := 8, ground := Go.Ground.data }], guard := none }) (v := ?v52) rfl (by kernel_rfl) (by kernel_rfl) (by kernel_rfl) (fun _ _ _ h => h) (Or.inl ⟨by rfl, ?y52⟩) (by assumption) ?z52
                      case y52 => (intro w hSw; (try dsimp only at hSw); go_simp) <;> with_reducible rfl
                      try simp only [Act.put, List.setIfInBounds_toArray, List.set_cons_zero, List.set_cons_succ]
                      refine wpAnyH_take (i := 10) (oi := { dst := some 159, op := Go.Op.move (Go.Operand.tmp 0), type := 24, pos := "ref.go:103", after := #[], guard := none }) (v := ?v53) rfl (by kernel_rfl) (by kernel_rfl) (by kernel_rfl) (fun _ _ _ h => h) (Or.inl ⟨by rfl, ?y53⟩) (by assumption) ?z53
                      case y53 => (intro w hSw; (try dsimp only at hSw); go_simp) <;> with_reducible rfl
                      try simp only [Act.put, List.setIfInBounds_toArray, List.set_cons_zero, List.set_cons_succ]
                      refine wpAnyH_ready (rs := [11]) (by kernel_rfl) (by simp) ?_
                      refine (AllReadyH.cons (o := { dst := some 160, op := Go.Op.call { callee := Go.Callee.value (Go.Operand.func 16), args := #[Go.Operand.tmp 159], argTypes := #[24] }, type := 35, pos := "ref.go:103", after := #[{ on := 10, ground := Go.Ground.data }], guard := none }) rfl (fun K hK => ?_) AllReadyH.nil)
                      · skip
                        go_simp
                        go_wp2_with (go_at_call 16; (with_reducible refine (SC.out v0 S9.out.bl).mono ?_); rintro e v1 ⟨rfl, rfl⟩)
                        refine hK.out _ _ ?s54 (fun hNew => ?r54)
                        case s54 => exact ⟨C4.out _ S9.out.bl, C5.out _ S9.out.bl, trivial⟩
                        clear hK K hHeld
                        have hHeld := hNew
                        clear hNew
                        refine wpAnyH_take (i := 12) (oi := { dst := some 161, op := Go.Op.convert 35 3 (Go.Operand.tmp 160), type := 3, pos := "ref.go:103", after := #[{ on := 11, ground := Go.Ground.data }], guard := none }) (v := ?v55) rfl (by kernel_rfl) (by kernel_rfl) (by kernel_rfl) (fun _ _ _ h => h) (Or.inl ⟨by rfl, ?y55⟩) (by assumption) ?z55
                        case y55 => (intro w hSw; (try dsimp only at hSw); go_simp) <;> with_reducible rfl
                        try simp only [Act.put, List.setIfInBounds_toArray, List.set_cons_zero, List.set_cons_succ]
                        refine wpAnyH_take (i := 13) (oi := { dst := some 162, op := Go.Op.binOp Go.BinOp.eql 3 (Go.Operand.tmp 158) (Go.Operand.tmp 161) 3, type := 4, pos := "ref.go:103", after := #[{ on := 9, ground := Go.Ground.data }, { on := 12, ground := Go.Ground.data }], guard := none }) (v := ?v56) rfl (by kernel_rfl) (by kernel_rfl) (by kernel_rfl) (fun _ _ _ h => h) (Or.inl ⟨by rfl, ?y56⟩) (by assumption) ?z56
                        case y56 => (intro w hSw; (try dsimp only at hSw); go_simp) <;> with_reducible rfl
                        try simp only [Act.put, List.setIfInBounds_toArray, List.set_cons_zero, List.set_cons_succ]
                        refine wpAnyH_take (i := 14) (oi := { dst := some 163, op := Go.Op.fieldAddr 31 (Go.Operand.tmp 5) 6, type := 0, pos := "ref.go:103", after := #[{ on := 0, ground := Go.Ground.phase }, { on := 1, ground := Go.Ground.phase }, { on := 2, ground := Go.Ground.phase }, { on := 3, ground := Go.Ground.phase }, { on := 4, ground := Go.Ground.phase }, { on := 5, ground := Go.Ground.phase }, { on := 6, ground := Go.Ground.phase }, { on := 7, ground := Go.Ground.phase }, { on := 8, ground := Go.Ground.phase }, { on := 9, ground := Go.Ground.phase }, { on := 10, ground := Go.Ground.phase }, { on := 11, ground := Go.Ground.phase }, { on := 12, ground := Go.Ground.phase }, { on := 13, ground := Go.Ground.phase }], guard := none }) (v := ?v57) rfl (by kernel_rfl) (by kernel_rfl) (by kernel_rfl) (fun _ _ _ h => h) (Or.inl ⟨by rfl, ?y57⟩) (by assumption) ?z57
                        case y57 => (intro w hSw; (try dsimp only at hSw); go_simp) <;> with_reducible rfl
                        try simp only [Act.put, List.setIfInBounds_toArray, List.set_cons_zero, List.set_cons_succ]
                        refine wpAnyH_ready (rs := [15]) (by kernel_rfl) (by simp) ?_
                        refine (AllReadyH.cons (o := { dst := none, op := Go.Op.store 4 (Go.Operand.tmp 163) (Go.Operand.tmp 162), type := 0, pos := "ref.go:103", after := #[{ on := 14, ground := Go.Ground.data }, { on := 13, ground := Go.Ground.data }, { on := 11, ground := Go.Ground.chain }, { on := 0, ground := Go.Ground.phase }, { on := 1, ground := Go.Ground.phase }, { on := 2, ground := Go.Ground.phase }, { on := 3, ground := Go.Ground.phase }, { on := 4, ground := Go.Ground.phase }, { on := 5, ground := Go.Ground.phase }, { on := 6, ground := Go.Ground.phase }, { on := 7, ground := Go.Ground.phase }, { on := 8, ground := Go.Ground.phase }, { on := 9, ground := Go.Ground.phase }, { on := 10, ground := Go.Ground.phase }, { on := 11, ground := Go.Ground.phase }, { on := 12, ground := Go.Ground.phase }, { on := 13, ground := Go.Ground.phase }], guard := none }) rfl (fun K hK => ?_) AllReadyH.nil)
                        · skip
                          have hcc := S9.out.h.2.1
                          have hfz := S9.out.h.2.2
                          go_simp
                          have S10 := Lib.hid (show Sx w (v0.setCell ⟨hb, 6, none⟩ (.bool (yy == sv))) R hb #[.string ts, .int .i64 kv, .bool cv, .bool bv, .int .i64 bk, .int .i64 rv, .bool (yy == sv)] from S9.out.set GA.out NA.out 6 (by decide) _)
                          refine hK.out _ _ ?s58 (fun hNew => ?r58)
                          case s58 => exact ⟨C4.out _ S10.out.bl, C5.out _ S10.out.bl, trivial⟩
                          clear hK K hHeld hcc hfz
                          generalize v0.setCell ⟨hb, 6, none⟩ (.bool (yy == sv)) = v2 at S10 ⊢
                          clear hNew
                          refine wpAnyH_done (by kernel_rfl) ?_ _
                          have hcc := S10.out.h.2.1
                          have hfz := S10.out.h.2.2
                          have hrc := ZR.out v2 _ S10.out
                          have hrf := S10.out.r.2.2
                          have nhb : ¬ hb = R := fun e => NA.out e.symm
                          have nRh : ¬ R = hb := NA.out
                          go_wp2
                          refine bodyPost_ret (v := .tuple #[.agg #[.string ts, .int .i64 kv, .bool cv, .bool bv, .int .i64 bk, .int .i64 rv, .bool (yy == sv)], .int .i64 0]) (by simp [results, Tryd.results12, go_sem, hrc]) rfl ⟨?_, bput7 S10.out.bl LR.out _ _ _ _ _ _ _⟩
                          rw [EE.out.1, EE.out.2, HEAD.out]
                          rfl
      · have EE := Lib.hid (par_size n f PP.out MB.out RG.out (by rw [HI.out, BK.out]; exact hs))
        have hsb : ((n : Int) != bk * 16384) = true := by simpa using hs
        have hrc := ZR.out wr _ S2.out
        have hrf := S2.out.r.2.2
        clear hs
        go_wp2
        refine bodyPost_ret (v := .tuple #[.agg noH.cells, .int .i64 6]) (by simp [results, Tryd.results12, go_sem, noH, HV.cells, hrc]; rfl) rfl ⟨by rw [EE.out.1, EE.out.2], ?_⟩
        exact bput7 S2.out.bl LR.out _ _ _ _ _ _ _
end Go.Proofs.YtifhajdcfjiaiaaDoor
