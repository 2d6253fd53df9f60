/-
  The law's own cart: a cartridge, of which some bytes are others, cut, or longer: for every world in which the pairs lie as told; no other condition.
-/
import Derived.Test.YtifhajdcfjiaiaaDoorOpn
import Derived.Lib.AppendZeros
import Derived.Deep.Slices
import Derived.IntWalk
namespace Go.Proofs.YtifhajdcfjiaiaaDoor
open Go.ChangeShapes Go.WideShapes Go.ChangeAt Go.RowKit Go.Deep
set_option linter.unusedVariables false
set_option linter.unusedSimpArgs false
set_option maxRecDepth 100000
theorem cells47 : Tryd.prog.cellsOf 47 = 2 := by kernel_rfl
/-- v is a slice of pairs of bytes that lies in memory. -/
def PaIn (W : World) (v : Value) : Prop := ∃ (a : Option Addr) (n c : Nat), v = .slice a n c ∧ n ≤ 9223372036854775807 ∧ ∃ f g : Nat → Int, okB f ∧ okB g ∧ (0 < n → ∃ b o, a = some ⟨b, o, none⟩ ∧ b < W.heap.size ∧ ∀ j, j < n → W.cell? ⟨b, o + j * 2, none⟩ = some (.int .u8 (f j)) ∧ W.cell? ⟨b, o + j * 2 + 1, none⟩ = some (.int .u8 (g j)))
theorem open_pairs {H : Type} {enc : TypeId × Value → H} {W : World} {base : Nat} {v : Value} {d : DataW H} {p : List MemPlace}
    (hv : Value.okWide Tryd.prog W .any base 22 v) (h : DataW.Trod enc Tryd.prog W 0 (fun _ => true) true 22 v d p) : PaIn W v := by
  obtain ⟨a0, len, cap, rfl⟩ := okWide_slice Tryd.underlying22 hv
  obtain ⟨fuel, hf⟩ := h
  rcases open_slice Tryd.underlying22 hf with ⟨hcs, _⟩ | ⟨a, len', cap', m, n, D, Pl, hcs, _, hl, hm, hmm, _, hi⟩
  · simp [Value.cells] at hcs
    obtain ⟨rfl, rfl, rfl⟩ := hcs
    exact ⟨none, 0, 0, rfl, by omega, zf, zf, zf_ok, zf_ok, fun h => absurd h (by omega)⟩
  · simp [Value.cells] at hcs
    obtain ⟨rfl, rfl, rfl⟩ := hcs
    simp at hmm
    unfold maxLen at hm
    rw [cells47] at hi
    have key : ∀ i, i < len → ∃ x y : Int, (0 ≤ x ∧ x < 256) ∧ (0 ≤ y ∧ y < 256) ∧ W.cell? ((a.add (i * 2)).add 0) = some (.int .u8 x) ∧ W.cell? ((a.add (i * 2)).add 1) = some (.int .u8 y) := by
      intro i hlt
      obtain ⟨cs, hc, ht⟩ := hi i (by omega)
      obtain ⟨_, hcl, hat⟩ := World.cells?_some hc
      obtain ⟨xs, m1, _, _, _, hlen, hel⟩ := DataW.trod_array Tryd.underlying47 ht
      have h0 := hel 0 (by decide)
      have h1 := hel 1 (by decide)
      rw [cells5] at h0 h1
      match cs, hcl with
      | [c0, c1], _ =>
        simp at h0 h1
        have e0 : xs[0]? = some (xs[0]'(by omega)) := List.getElem?_eq_getElem (by omega)
        have e1 : xs[1]? = some (xs[1]'(by omega)) := List.getElem?_eq_getElem (by omega)
        rw [e0] at h0
        rw [e1] at h1
        obtain ⟨x, q0, _, w0⟩ := DataW.trod_int Tryd.underlying5 h0
        obtain ⟨y, q1, _, w1⟩ := DataW.trod_int Tryd.underlying5 h1
        have r0 : c0 = .int .u8 x := by simpa using q0
        have r1 : c1 = .int .u8 y := by simpa using q1
        refine ⟨x, y, u8_bd w0, u8_bd w1, ?_, ?_⟩
        · rw [hat 0 (by decide)]; simp [r0]
        · rw [hat 1 (by decide)]; simp [r1]
    by_cases h0 : 0 < len
    · obtain ⟨b, off, spot⟩ := a
      obtain ⟨x, y, _, _, hx, _⟩ := key 0 h0
      have hspot : spot = none := by simpa [Addr.add] using World.cell?_spot hx
      subst hspot
      have ad : ∀ i k, ((⟨b, off, none⟩ : Addr).add i).add k = ⟨b, off + i + k, none⟩ := fun i k => by rw [Go.WideShapes.add_plain, Go.WideShapes.add_plain]
      have key2 : ∀ i : Nat, ∃ p : Int × Int, (0 ≤ p.1 ∧ p.1 < 256) ∧ (0 ≤ p.2 ∧ p.2 < 256) ∧ (i < len → W.cell? ⟨b, off + i * 2, none⟩ = some (.int .u8 p.1) ∧ W.cell? ⟨b, off + i * 2 + 1, none⟩ = some (.int .u8 p.2)) := by
        intro i
        by_cases hlt : i < len
        · obtain ⟨x, y, hx, hy, cx, cy⟩ := key i hlt
          rw [ad] at cx cy
          exact ⟨(x, y), hx, hy, fun _ => ⟨cx, cy⟩⟩
        · exact ⟨(0, 0), by decide, by decide, fun h => absurd h hlt⟩
      obtain ⟨F, hF⟩ := Classical.axiomOfChoice key2
      rw [ad] at hx
      exact ⟨some ⟨b, off, none⟩, len, cap, rfl, by omega, fun i => (F i).1, fun i => (F i).2, fun i => (hF i).1, fun i => (hF i).2.1, fun _ => ⟨b, off, rfl, World.block_lt_of_cell? W _ hx, fun j hj => (hF j).2.2 hj⟩⟩
    · have e : len = 0 := by omega
      subst e
      exact ⟨some a, 0, cap, rfl, by omega, zf, zf, zf_ok, zf_ok, fun h => absurd h (by omega)⟩
theorem app_run (w : World) (g n m : Nat) (f : Nat → Int) (h : Own w g n f) (m0 : 0 < m) (m1 : m < 100) (hn : n ≤ 8388608) :
    (Builtin.append_ #[24, 3] 24 #[.slice (some ⟨g, 0, none⟩) n n, .int .i64 m]).run Tryd.prog w =
      .ok (.slice (some ⟨w.heap.size, 0, none⟩) (n + m) (grownCap w (n + m) n 5)) (w.drew.alloc (.cells (((lst f n).map (Value.int .u8)).toArray ++ Builtin.zeroCells (Value.int .u8 0).cells m ++ Builtin.zeroCells (Value.int .u8 0).cells (grownCap w (n + m) n 5 - (n + m))) 5)) := by
  obtain ⟨i0, hi, hz0, hz1, hz2⟩ := info_parts infoB
  have hf := run_firstCells_some (P := Tryd.prog) w.drew 1 n ⟨g, 0, none⟩ n n ((lst f n).map (Value.int .u8)) (by simp [lst_len]) (fun j v hv => by
    have hj : j < n := by have := (List.getElem?_eq_some_iff.1 hv).1; simpa [lst_len] using this
    have e2 : (⟨g, 0, none⟩ : Addr).add j = ⟨g, j, none⟩ := by rw [Go.WideShapes.add_plain, Nat.zero_add]
    rw [e2, h.drew.mem j hj, ← hv]
    simp [lst, hj])
  have hm : m ≠ 0 := by omega
  have hw : IntKind.i64.wrap (m : Int) = m := by rw [IntKind.wrap_i64]; omega
  have hneg : ¬ ((m : Int) < 0) := by omega
  have h48i : ¬ (281474976710656 < (m : Int)) := by omega
  have hroom : ¬ (n + m ≤ n) := by omega
  have h63 : ¬ (9223372036854775807 < (n : Int) + m) := by omega
  have h48 : ¬ (281474976710656 < Builtin.nextslicecap (n + m) n) := by have := nextslicecap_le (need := n + m) (old := n) (by omega); omega
  simp [Builtin.append_, run_underlying Tryd.underlying24, run_underlying Tryd.underlying3, sizeOf, typeInfo, zeroValue, hi, hz0, hz1, hz2, asInt, asIntOf, hw, hm, hneg, hroom, h63, h48, h48i, Question.forced, hf, newRow, grownCap]
theorem zero_get (m j : Nat) (h : j < m) : (Builtin.zeroCells (Value.int .u8 0).cells m)[j]? = some (.int .u8 0) := by
  unfold Builtin.zeroCells
  have e : (Value.int .u8 0).cells.size = 1 := rfl
  rw [e, Array.getElem?_map, Nat.mul_one, Array.getElem?_range, if_pos h]
  show some ((Value.int .u8 0).cells[j % 1]!) = _
  rw [Nat.mod_one]
  rfl
/-- f, and 0 behind the first n bytes. -/
def more (f : Nat → Int) (n : Nat) : Nat → Int := fun j => if j < n then f j else 0
theorem more_ok {f : Nat → Int} (h : okB f) (n : Nat) : okB (more f n) := fun j => by
  unfold more; split
  · exact h j
  · decide
theorem app_by (w : World) (g n m : Nat) (f : Nat → Int) (ok : okB f) (m1 : m < 100) (n0 : 336 ≤ n) (hn : n ≤ 8388608) (c : Nat) (hc : n + m ≤ c) (Z : Array Value) :
    By (w.drew.alloc (.cells (((lst f n).map (Value.int .u8)).toArray ++ Builtin.zeroCells (Value.int .u8 0).cells m ++ Z) 5)) (.slice (some ⟨w.heap.size, 0, none⟩) (n + m) c) (n + m) (more f n) := by
  have h := Has.new w.drew (((lst f n).map (Value.int .u8)).toArray ++ Builtin.zeroCells (Value.int .u8 0).cells m ++ Z) 5
  have e : w.drew.heap.size = w.heap.size := rfl
  rw [e] at h
  refine ⟨by omega, more_ok ok n, Or.inr ⟨by omega, w.heap.size, 0, c, rfl, hc, h.1, fun j hj => ?_⟩⟩
  rw [Nat.zero_add, h.2.1 j]
  have s1 : ((lst f n).map (Value.int .u8)).toArray.size = n := by simp [lst_len]
  have s2 : (Builtin.zeroCells (Value.int .u8 0).cells m).size = m := by rw [size_zeroCells]; show m * 1 = m; omega
  rw [Array.getElem?_append_left (by rw [Array.size_append, s1, s2]; exact hj)]
  unfold more
  by_cases hl : j < n
  · rw [if_pos hl, Array.getElem?_append_left (by rw [s1]; exact hl)]
    simp [lst, hl]
  · rw [if_neg hl, Array.getElem?_append_right (by rw [s1]; omega), s1, zero_get m (j - n) (by omega)]
theorem Own.byL {w : World} {g n : Nat} {f : Nat → Int} (h : Own w g n f) (ok : okB f) (hn : n ≤ 8388608) (L : Nat) (hL : L ≤ n) : By w (.slice (some ⟨g, 0, none⟩) L n) L f := by
  refine ⟨by omega, ok, ?_⟩
  rcases Nat.lt_or_ge L 336 with h0 | h0
  · exact Or.inl ⟨h0, _, _, rfl⟩
  · exact Or.inr ⟨h0, g, 0, n, rfl, hL, h.lt, fun j hj => h.rd j (by omega)⟩
def CartE (w : World) (e : Ending) (w' : World) : Prop := ∃ a n c f, e = .returned (.slice a n c) ∧ By w' (.slice a n c) n f ∧ Below w.heap.size w w'
set_option maxHeartbeats 4000000 in
theorem cart_c (k bn r : Nat) (hk : k < 256) (hb : bn < 256) (hr : r < 256) (a : Option Addr) (m c : Nat) (h0 : ¬ 30 < m) (p g' : Nat → Int) (hp : okB p) (hg' : okB g') (ck : Bool) (ct : Int) (c0 : -9223372036854775808 ≤ ct) (c1 : ct ≤ 9223372036854775807) (w : World)
    (hin : 0 < m → ∃ b o, a = some ⟨b, o, none⟩ ∧ b < w.heap.size ∧ ∀ j, j < m → w.cell? ⟨b, o + j * 2, none⟩ = some (.int .u8 (p j)) ∧ w.cell? ⟨b, o + j * 2 + 1, none⟩ = some (.int .u8 (g' j))) :
    Calls Tryd.prog 10 #[.int .u8 k, .int .u8 bn, .int .u8 r, .slice a m c, .bool ck, .int .i64 ct] w (CartE w) := by
  have HIN := Lib.hid hin
  have HP := Lib.hid hp
  have HG := Lib.hid hg'
  have HC0 := Lib.hid c0
  have HC1 := Lib.hid c1
  clear hin hp hg' c0 c1
  obtain ⟨q, hq⟩ : ∃ q, bn % 4 = q := ⟨_, rfl⟩
  have hq1 : (bn : Int) % 4 = q := by omega
  have hq2 : (bn : Int).tmod 4 = q := by rw [Int.tmod_eq_emod_of_nonneg (by omega)]; exact hq1
  have hqi : (q : Int) < 256 := by omega
  have q3 : q ≤ 3 := by omega
  have HQ := Lib.hid (show q % 9 = q by omega)
  have hbI : (bn : Int) < 256 := by omega
  clear hq
  have MC := made_c k r q none 0 0 zf w (by omega) (by omega) (by omega) (by omega) zf_ok (fun h => absurd h (by omega))
  rw [HQ.out] at MC
  have MH := Lib.hid MC
  clear MC
  go_enter Tryd.func10, Tryd.ntmps10
  go_wp2_with fail
  with_reducible refine MH.out.mono ?_
  rintro e w2 ⟨rfl, O2, b2⟩
  have B2 := Lib.hid b2
  have MO := Lib.hid (made_ok (p := zf) (b := (q : Int)) (min 0 15000) (show 0 ≤ (k : Int) ∧ (k : Int) < 256 by omega) (by omega) (show 0 ≤ (r : Int) ∧ (r : Int) < 256 by omega) zf_ok)
  have n0 := szN_ge q
  have n1 := szN_le q (by omega)
  generalize szN q = n at O2 n0 n1 ⊢
  generalize made (k : Int) q r zf (min 0 15000) = f at O2 MO
  have OH := Lib.hid O2
  have LG := Lib.hid (Nat.le_refl w.heap.size)
  generalize hgg : w.heap.size = g at OH ⊢
  have LG := Lib.hid (show w.heap.size ≤ g by omega)
  clear O2 b2 MH hgg
  go_wp2
  go_loopg [22] m (fun gh i wr => ∃ (t : Nat) (f' : Nat → Int), t ≤ m ∧ gh + t = m ∧ i = .int .i64 t ∧ Below w.heap.size w wr ∧ Own wr g n f' ∧ okB f')
  case atStart => exact ⟨0, f, by omega, by omega, rfl, B2.out, OH.out, MO.out⟩
  case round =>
    obtain ⟨t, f', ht, hgt, rfl, hB, hO, hok⟩ := hrel
    have TG := Lib.hid hgt
    have TB := Lib.hid hB
    have TO := Lib.hid hO
    have TK := Lib.hid hok
    clear hgt hB hO hok B2 OH
    by_cases hlt : t < m
    · have l1 : (t : Int) < m := by omega
      have l0 : (0 : Int) ≤ t := by omega
      obtain ⟨pb, po, rfl, hpb, hcells⟩ := HIN.out (by omega)
      have cx : wr.cell? ⟨pb, po + t * 2, none⟩ = some (.int .u8 (p t)) := (TB.out.cell (p := ⟨pb, po + t * 2, none⟩) hpb).trans (hcells t hlt).1
      have cy : wr.cell? ⟨pb, po + t * 2 + 1, none⟩ = some (.int .u8 (g' t)) := (TB.out.cell (p := ⟨pb, po + t * 2 + 1, none⟩) hpb).trans (hcells t hlt).2
      have xb := HP.out t
      have yb := HG.out t
      obtain ⟨s, hs⟩ : ∃ s : Nat, (p t).toNat % 28 = s := ⟨_, rfl⟩
      have hs1 : (p t) % 28 = s := by omega
      have hs2 : (p t).tmod 28 = s := by rw [Int.tmod_eq_emod_of_nonneg xb.1]; exact hs1
      have s28 : s < 28 := by omega
      generalize p t = x at cx xb hs1 hs2
      generalize g' t = y at cy yb
      have c1 := TO.out.mem (308 + s) (by omega)
      have f1 := TO.out.free (308 + s)
      have NO := Lib.hid (TO.out.set (308 + s) (by omega) y)
      have NB := Lib.hid (TB.out.setCell (p := ⟨g, 308 + s, none⟩) LG.out (.int .u8 y))
      have NK := Lib.hid (TK.out.upd (308 + s) y yb.1 yb.2)
      clear hs hcells
      have hI2 : (308 : Int) + s < n := by omega
      have hI3 : (0 : Int) ≤ 308 + s := by omega
      have hT : ((308 : Int) + s).toNat = 308 + s := by omega
      have hW : IntKind.i64.wrap ((308 : Int) + s) = 308 + s := IntWalk.i64_in _ (by omega)
      have hW2 : IntKind.i64.wrap (s : Int) = s := IntWalk.i64_in _ (by omega)
      have hW3 : IntKind.i64.wrap x = x := IntWalk.i64_in _ (by omega)
      go_upto_region 5 with (fail)
      go_region
      have NO2 := Lib.hid NO.out.drew
      have NB2 := Lib.hid NB.out.drew
      generalize (wr.setCell ⟨g, 308 + s, none⟩ (.int .u8 y)).drew = wn at NO2 NB2 ⊢
      clear cx cy c1 f1 NO NB hW hW2 hW3 hT
      go_wp2
      go_roundg (gk - 1)
      exact ⟨t + 1, _, by omega, by have := TG.out; omega, by simp, NB2.out, NO2.out, NK.out⟩
      case measure => have := TG.out; omega
    · have et : t = m := by omega
      subst et
      cases ck with
      | false =>
        have OZ := TO
        have BZ := TB
        have KZ := TK
        go_upto_region 9 with (fail)
        generalize wr = wz at OZ BZ ⊢
        generalize f' = fz at OZ KZ
        clear TO TB TK
        have hn3 : (0 : Int) ≤ n := by omega
        by_cases hA : ct < 0
        · by_cases hA2 : -100 < ct
          · obtain ⟨u, hu⟩ : ∃ u : Nat, ct = -(u : Int) := ⟨(-ct).toNat, by omega⟩
            subst hu
            have u0 : 0 < u := by omega
            have u1 : u < 100 := by omega
            have AR := Lib.hid (app_run wz g n u fz OZ.out u0 u1 n1)
            have AB := Lib.hid (app_by wz g n u fz KZ.out u1 (by omega) n1 (grownCap wz (n + u) n 5) (grownCap_ge _ _ _ _) (Builtin.zeroCells (Value.int .u8 0).cells (grownCap wz (n + u) n 5 - (n + u))))
            have AL := Lib.hid (show Below w.heap.size w (wz.drew.alloc (.cells (((lst fz n).map (Value.int .u8)).toArray ++ Builtin.zeroCells (Value.int .u8 0).cells u ++ Builtin.zeroCells (Value.int .u8 0).cells (grownCap wz (n + u) n 5 - (n + u))) 5)) from via BZ.out (via (Below.refl _ _).drew (own1 wz.drew _)))
            generalize grownCap wz (n + u) n 5 = gc at AR AB AL
            generalize wz.drew.alloc (.cells (((lst fz n).map (Value.int .u8)).toArray ++ Builtin.zeroCells (Value.int .u8 0).cells u ++ Builtin.zeroCells (Value.int .u8 0).cells (gc - (n + u))) 5) = wy at AR AB AL
            go_wp2_with (at_builtin; refine Lib.wpList_append_run _ rfl _ _ 24 3 rfl (.slice (some ⟨g, 0, none⟩) n n) (.int .i64 (u : Int)) rfl rfl _ _ AR.out ?_)
            go_wp2
            go_ret
            exact ⟨_, _, _, _, rfl, AB.out, AL.out⟩
          · have hA3 : ct ≤ -100 := by omega
            have hA4 : ¬ -100 < ct := by omega
            go_wp2
            go_ret
            exact ⟨_, _, _, fz, rfl, OZ.out.byL KZ.out n1 _ (by omega), BZ.out⟩
        · go_wp2
          go_ret
          exact ⟨_, _, _, fz, rfl, OZ.out.byL KZ.out n1 _ (by omega), BZ.out⟩
      | true =>
        have RC := Lib.hid (rcheck_c (TO.out.by TK.out (by omega)))
        have cb := chkV_bd n f'
        have c3 := TO.out.mem 333 (by omega)
        have f3 := TO.out.free 333
        have i3 : (333 : Int) < n := by omega
        have OZ := Lib.hid (TO.out.set 333 (by omega) (chkV n f'))
        have BZ := Lib.hid (TB.out.setCell (p := ⟨g, 333, none⟩) LG.out (.int .u8 (chkV n f')))
        have KZ := Lib.hid (TK.out.upd 333 (chkV n f') cb.1 cb.2)
        generalize upd f' 333 (chkV n f') = fz at OZ KZ
        generalize chkV n f' = cv at OZ BZ RC
        go_wp2_with fail
        with_reducible refine RC.out.mono ?_
        rintro e w5 ⟨rfl, rfl⟩
        go_upto_region 9 with (fail)
        generalize wr.setCell ⟨g, 333, none⟩ (.int .u8 cv) = wz at OZ BZ ⊢
        clear TO TB TK c3 f3 RC
        have hn3 : (0 : Int) ≤ n := by omega
        by_cases hA : ct < 0
        · by_cases hA2 : -100 < ct
          · obtain ⟨u, hu⟩ : ∃ u : Nat, ct = -(u : Int) := ⟨(-ct).toNat, by omega⟩
            subst hu
            have u0 : 0 < u := by omega
            have u1 : u < 100 := by omega
            have AR := Lib.hid (app_run wz g n u fz OZ.out u0 u1 n1)
            have AB := Lib.hid (app_by wz g n u fz KZ.out u1 (by omega) n1 (grownCap wz (n + u) n 5) (grownCap_ge _ _ _ _) (Builtin.zeroCells (Value.int .u8 0).cells (grownCap wz (n + u) n 5 - (n + u))))
            have AL := Lib.hid (show Below w.heap.size w (wz.drew.alloc (.cells (((lst fz n).map (Value.int .u8)).toArray ++ Builtin.zeroCells (Value.int .u8 0).cells u ++ Builtin.zeroCells (Value.int .u8 0).cells (grownCap wz (n + u) n 5 - (n + u))) 5)) from via BZ.out (via (Below.refl _ _).drew (own1 wz.drew _)))
            generalize grownCap wz (n + u) n 5 = gc at AR AB AL
            generalize wz.drew.alloc (.cells (((lst fz n).map (Value.int .u8)).toArray ++ Builtin.zeroCells (Value.int .u8 0).cells u ++ Builtin.zeroCells (Value.int .u8 0).cells (gc - (n + u))) 5) = wy at AR AB AL
            go_wp2_with (at_builtin; refine Lib.wpList_append_run _ rfl _ _ 24 3 rfl (.slice (some ⟨g, 0, none⟩) n n) (.int .i64 (u : Int)) rfl rfl _ _ AR.out ?_)
            go_wp2
            go_ret
            exact ⟨_, _, _, _, rfl, AB.out, AL.out⟩
          · have hA3 : ct ≤ -100 := by omega
            have hA4 : ¬ -100 < ct := by omega
            go_wp2
            go_ret
            exact ⟨_, _, _, fz, rfl, OZ.out.byL KZ.out n1 _ (by omega), BZ.out⟩
        · go_wp2
          go_ret
          exact ⟨_, _, _, fz, rfl, OZ.out.byL KZ.out n1 _ (by omega), BZ.out⟩
end Go.Proofs.YtifhajdcfjiaiaaDoor
