/-
  A header's title: bytes.Cut at a byte 0, bytes.Clone, and the bytes that are shown: for every world in which 15 bytes lie as told; no other condition.
-/
import Derived.Test.YtifhajdcfjiaiaaDoorSum
import Derived.Lib.BytesEntry
import Derived.OwnWalk
import Derived.Deep.LoopGhost
import Derived.Laws.AppendOwn
import Derived.Laws.IdiomStrings
import Derived.Lib.Walk
import Derived.Laws.OwnMore
import Derived.Lib.SliceRun
namespace Go.Proofs.YtifhajdcfjiaiaaDoor
open Go.ChangeShapes Go.WideShapes Go.ChangeAt Go.RowKit
set_option linter.unusedVariables false
set_option maxRecDepth 100000
/-- The bytes f from 0 on as a list. -/
def lst (f : Nat → Int) (n : Nat) : List Int := (List.range n).map f
theorem lst_len (f : Nat → Int) (n : Nat) : (lst f n).length = n := by simp [lst]
theorem lst_get (f : Nat → Int) (n i : Nat) (h : i < n) : (lst f n).getD i 0 = f i := by simp [lst, h]
/-- Where the first 0 stands, or -1. -/
def cutI (f : Nat → Int) (n : Nat) : Int := if zl f 0 n < n then zl f 0 n else -1
theorem byteOf_z (x : Int) (h0 : 0 ≤ x) (h1 : x < 256) : (UInt8.ofNat x.toNat == 0) = decide (x = 0) := by
  have := byte_all (P := fun x => (UInt8.ofNat x.toNat == 0) = decide (x = 0)) (by decide +kernel) x h0 h1
  exact this
theorem idx_go (f : Nat → Int) (ok : okB f) : ∀ (n i : Nat), Lib.indexByte (Lib.bytesOf ((List.range' i n).map f)) 0 = if zl f i n < n then (zl f i n : Int) else -1
  | 0, i => by simp [Lib.bytesOf, Lib.indexByte, zl]
  | n + 1, i => by
    have ih := idx_go f ok n (i + 1)
    have hz := zl_le f n (i + 1)
    have eb := byteOf_z (f i) (ok i).1 (ok i).2
    have e1 : Lib.indexByte (Lib.bytesOf ((List.range' i (n + 1)).map f)) 0 = if (UInt8.ofNat (f i).toNat == 0) = true then 0 else if (Lib.indexByte (Lib.bytesOf ((List.range' (i + 1) n).map f)) 0 == -1) = true then -1 else Lib.indexByte (Lib.bytesOf ((List.range' (i + 1) n).map f)) 0 + 1 := rfl
    rw [e1, ih, eb]
    rw [show zl f i (n + 1) = if f i = 0 then 0 else zl f (i + 1) n + 1 from rfl]
    generalize zl f (i + 1) n = z at hz ⊢
    by_cases e : f i = 0
    · simp [e]
    · rw [if_neg e]
      by_cases h : z < n
      · have h2 : z + 1 < n + 1 := by omega
        have h3 : ((z : Int) == -1) = false := by simp
        simp [e, h, h3]
      · have h2 : ¬ z + 1 < n + 1 := by omega
        simp [e, h]
theorem idx_lst (f : Nat → Int) (ok : okB f) (n : Nat) : Lib.indexByte (Lib.bytesOf (lst f n)) 0 = cutI f n := by
  unfold lst cutI
  rw [List.range_eq_range']
  exact idx_go f ok n 0
theorem ext30 (args : Array Value) (w : World) : (callFunc 30 args).run Tryd.prog w = ((Extern.BytealgIndexByte.indexByte args).run Tryd.prog w).andThen (fun v w' => .ok (.value v) w') := by
  rw [run_callFunc_extern Tryd.func30 (by kernel_rfl) (by kernel_rfl) (by kernel_rfl) (e := Extern.BytealgIndexByte.indexByte) (by kernel_rfl)]
set_option maxHeartbeats 1000000 in
theorem ixb_c (b o n c : Nat) (f : Nat → Int) (w : World) (h : Rd w b o n f) (ok : okB f) : Calls Tryd.prog 25 #[.slice (some ⟨b, o, none⟩) n c, .int .u8 0] w fun e w' => e = .returned (.int .i64 (cutI f n)) ∧ w = w' := by
  have H := Lib.run_indexByteSlice (P := Tryd.prog) w b o n c (lst f n) (lst_len f n) (fun i hi => by rw [lst_get f n i hi]; exact h i hi) 0
  have E := idx_lst f ok n
  change Lib.indexByte (Lib.bytesOf (lst f n)) (Int.toNat 0).toUInt8 = _ at E
  rw [E] at H
  have HH := Lib.hid H
  clear h ok H E
  go_enter Tryd.func25, Tryd.ntmps25
  go_wp2
  rw [run_callFunc_extern Tryd.func30 (by kernel_rfl) (by kernel_rfl) (by kernel_rfl) (e := Extern.BytealgIndexByte.indexByte) (by kernel_rfl), HH.out]
  simp only [Result.andThen]
  rw [Oper.upon_value]
  go_wp2
  go_ret
  exact ⟨rfl, rfl⟩
set_option maxHeartbeats 1000000 in
theorem ix_c (b o n c s : Nat) (f : Nat → Int) (w : World) (h : Rd w b o n f) (ok : okB f) (hs : w.cell? ⟨s, 0, none⟩ = some (.int .u8 0)) : Calls Tryd.prog 24 #[.slice (some ⟨b, o, none⟩) n c, .slice (some ⟨s, 0, none⟩) 1 1] w fun e w' => e = .returned (.int .i64 (cutI f n)) ∧ w = w' := by
  have H := Lib.hid (ixb_c b o n c f w h ok)
  clear h ok
  go_enter Tryd.func24, Tryd.ntmps24
  go_wp2_with (go_at_call 25; (with_reducible refine H.out.mono ?_); rintro e w' ⟨rfl, rfl⟩)
  go_ret
  exact ⟨rfl, rfl⟩
def CutE (b o z c : Nat) (w : World) (e : Ending) (w' : World) : Prop := ∃ r t, e = .returned (.tuple #[.slice (some ⟨b, o, none⟩) z c, r, .bool t]) ∧ ∃ q, w' = w.drewN q
set_option maxHeartbeats 1000000 in
theorem cut_c (b o n c s : Nat) (f : Nat → Int) (w : World) (hn : n < 1000) (hc : n ≤ c) (h : Rd w b o n f) (ok : okB f) (hs : w.cell? ⟨s, 0, none⟩ = some (.int .u8 0)) : Calls Tryd.prog 22 #[.slice (some ⟨b, o, none⟩) n c, .slice (some ⟨s, 0, none⟩) 1 1] w (CutE b o (zl f 0 n) c w) := by
  have H := ix_c b o n c s f w h ok hs
  have hz := zl_le f n 0
  unfold cutI at H
  generalize zl f 0 n = z at H hz ⊢
  clear h ok
  by_cases e : z < n
  · rw [if_pos e] at H
    have HH := Lib.hid H
    clear H
    go_enter Tryd.func22, Tryd.ntmps22
    go_wp2_with (go_at_call 24; (with_reducible refine HH.out.mono ?_); rintro e w' ⟨rfl, rfl⟩)
    by_cases hcc : c = z + 1
    · have hci : ((c : Int) = z + 1) := by omega
      subst hcc
      go_region
      all_goals
        go_wp2
        go_ret3
        exact ⟨_, _, rfl, 1, rfl⟩
    · have hci : ¬ ((c : Int) = z + 1) := by omega
      go_region
      all_goals
        go_wp2
        go_ret3
        exact ⟨_, _, rfl, 1, rfl⟩
  · rw [if_neg e] at H
    have hzn : z = n := by omega
    subst hzn
    have HH := Lib.hid H
    clear H
    go_enter Tryd.func22, Tryd.ntmps22
    go_wp2_with (go_at_call 24; (with_reducible refine HH.out.mono ?_); rintro e w' ⟨rfl, rfl⟩)
    go_ret3
    exact ⟨_, _, rfl, 0, rfl⟩
/-- The block g bears n bytes f, which may be written. -/
structure Own (w : World) (g n : Nat) (f : Nat → Int) : Prop where
  lt : g < w.heap.size
  mem : ∀ j, j < n → w.cell? ⟨g, j, none⟩ = some (.int .u8 (f j))
  free : ∀ j, w.frozen? ⟨g, j, none⟩ = false
theorem Own.rd {w : World} {g n : Nat} {f : Nat → Int} (h : Own w g n f) : Rd w g 0 n f := fun j hj => by rw [Nat.zero_add]; exact h.mem j hj
theorem Own.below {w w' : World} {g n : Nat} {f : Nat → Int} (h : Own w g n f) (hb : Below w.heap.size w w') : Own w' g n f :=
  ⟨Nat.lt_of_lt_of_le h.lt hb.size, fun j hj => (hb.cell (p := ⟨g, j, none⟩) h.lt).trans (h.mem j hj), fun j => (hb.frozen (p := ⟨g, j, none⟩) h.lt).trans (h.free j)⟩
theorem Own.drew {w : World} {g n : Nat} {f : Nat → Int} (h : Own w g n f) : Own w.drew g n f := h.below (Below.refl _ _).drew
theorem Own.congr {w : World} {g n : Nat} {f f' : Nat → Int} (h : Own w g n f) (e : ∀ j, j < n → f j = f' j) : Own w g n f' := ⟨h.lt, fun j hj => by rw [h.mem j hj, e j hj], h.free⟩
theorem Own.set {w : World} {g n : Nat} {f : Nat → Int} (h : Own w g n f) (k : Nat) (hk : k < n) (x : Int) : Own (w.setCell ⟨g, k, none⟩ (.int .u8 x)) g n (upd f k x) := by
  refine ⟨by simpa using h.lt, fun j hj => ?_, fun j => by simpa [go_sem] using h.free j⟩
  unfold upd
  by_cases e : j = k
  · subst e
    rw [if_pos rfl]
    exact World.cell?_setCell_same w _ _ (h.mem j hj)
  · rw [if_neg e, World.cell?_setCell_other w _ _ _ (by intro h; injection h with _ h; exact e h.symm)]
    exact h.mem j hj
theorem infoB : (Tryd.prog.info? 5).map (fun i => (i.zero, i.size, i.bytes)) = some (some (.int .u8 0), 1, 1) := by kernel_rfl
def CloneE (n : Nat) (f : Nat → Int) (w : World) (e : Ending) (w' : World) : Prop := ∃ g cap, e = .returned (.slice (some ⟨g, 0, none⟩) n cap) ∧ w.heap.size ≤ g ∧ Own w' g n f ∧ Below w.heap.size w w'
set_option maxHeartbeats 2000000 in
theorem clone_c (b o n c : Nat) (f : Nat → Int) (w : World) (hn : n < 1000) (h : Rd w b o n f) : Calls Tryd.prog 23 #[.slice (some ⟨b, o, none⟩) n c] w (CloneE n f w) := by
  obtain ⟨i0, hi, hz0, hz1, hz2⟩ := info_parts infoB
  have q22 : ∀ (w : World) (a : Option Addr) (n c n' c' : Nat), (binOp .eql 24 (.slice a n c) (.slice none n' c')).run Tryd.prog w = .ok (.bool a.isNone) w := fun w a n c n' c' => Lib.run_eql_slice_nil w _ _ a n c n' c' Tryd.underlying24
  have A := Lib.hid h
  clear h
  go_enter Tryd.func23, Tryd.ntmps23
  go_wp2_with (at_builtin; refine wpList_append_own _ rfl _ _ 24 rfl w.heap.size 5 i0 (.int .u8 0) 1 1 Tryd.underlying24 hi hz0 hz1 hz2 rfl (by decide) _ _ _ rfl (World.ownsRow_made w #[] 0 (Nat.le_refl _) (Nat.zero_le _) rfl) ⟨b, o, none⟩ n c ((lst f n).map (Value.int .u8)) rfl ?qc1 ?qc2 ?qc3 ?qc4 ?qc5 ?qc6 ?_)
  case qc1 => simp [lst_len]
  case qc2 =>
    intro j u hj
    have hjn : j < n := by
      have := (List.getElem?_eq_some_iff.1 hj).1
      simp [lst_len] at this
      exact this
    refine Lib.cell?_alloc_some _ ?_
    have e : ((lst f n).map (Value.int .u8))[j]? = some (Value.int .u8 (f j)) := by simp [lst, hjn]
    rw [e] at hj
    rw [← hj]
    have e2 : (⟨b, o, none⟩ : Addr).add j = ⟨b, o + j, none⟩ := by simp [Addr.add]
    rw [e2]
    exact A.out j hjn
  case qc3 => intro u hu; obtain ⟨x, _, rfl⟩ := List.mem_map.1 hu; rfl
  case qc4 => unfold maxLen; omega
  case qc5 => omega
  case qc6 => simp
  intro v' w1 hown hgrow hnil
  have HO := Lib.hid hown
  have HG := Lib.hid hgrow
  have HN := Lib.hid hnil
  clear hown hgrow hnil q22
  go_wp2
  go_ret
  have hB : Below w.heap.size w w1 := ((Below.refl _ w).alloc (Nat.le_refl _) _).grown HG.out (by simp) (by intro k hk; simp [Value.ownBlock] at hk; omega)
  rcases HO.out.2 with ⟨e, e'⟩ | ⟨g, cap, cur, e, hg, _⟩
  · exact absurd e HN.out
  · have h1 := HO.out
    rw [e] at h1
    have hlt := (h1.lt g rfl).2
    refine ⟨g, cap, by rw [← e]; rfl, hg, ⟨hlt, fun j hj => ?_, fun j => h1.frozenAt j⟩, hB⟩
    rw [h1.cellAt j (by omega)]
    simp [lst, hj]
theorem bdrewN (w : World) (q : Nat) : Below w.heap.size w (w.drewN q) := ⟨rfl, rfl, rfl, Nat.le_refl _, fun _ _ => rfl⟩
theorem Rd.short {w : World} {b o n m : Nat} {f : Nat → Int} (h : Rd w b o n f) (hm : m ≤ n) : Rd w b o m f := fun j hj => h j (by omega)
def titB (f : Nat → Int) (k : Nat) : List UInt8 := (List.range k).map (fun j => byteOf (shown (f j)))
theorem titB_len (f : Nat → Int) (k : Nat) : (titB f k).length = k := by simp [titB]
theorem shown_bd (x : Int) (h0 : 0 ≤ x) (h1 : x < 256) : 0 ≤ shown x ∧ shown x < 256 := by unfold shown; split <;> omega
theorem byteOf_nat (x : Int) (h0 : 0 ≤ x) (h1 : x < 256) : ((byteOf x).toNat : Int) = x := by
  have := byte_all (P := fun x => ((byteOf x).toNat : Int) = x) (by decide +kernel) x h0 h1
  exact this
/-- The first k of n bytes are shown. -/
def half (f : Nat → Int) (k : Nat) : Nat → Int := fun j => if j < k then shown (f j) else f j
theorem half_ok {f : Nat → Int} (h : okB f) (k : Nat) : okB (half f k) := fun j => by
  unfold half; split
  · exact shown_bd _ (h j).1 (h j).2
  · exact h j
theorem half_next (f : Nat → Int) (k : Nat) : upd (half f k) k (shown (f k)) = half f (k + 1) := by
  funext j
  unfold upd half
  by_cases e : j = k
  · subst e; simp
  · by_cases h : j < k
    · rw [if_neg e, if_pos h, if_pos (by omega)]
    · rw [if_neg e, if_neg h, if_neg (by omega)]
theorem half_skip (f : Nat → Int) (k : Nat) (h : shown (f k) = f k) : half f k = half f (k + 1) := by
  rw [← half_next]
  funext j
  unfold upd
  by_cases e : j = k
  · subst e; simp [half, h]
  · rw [if_neg e]
theorem conv_t (g cap n : Nat) (f : Nat → Int) (ok : okB f) (w : World) (h : Own w g n (half f n)) : (convert 24 9 (.slice (some ⟨g, 0, none⟩) n cap)).run Tryd.prog w = .ok (.string ⟨(titB f n).toArray⟩) w := by
  have := run_convert_bytes_back (P := Tryd.prog) w 24 9 5 ⟨g, 0, none⟩ cap (titB f n) Tryd.underlying24 Tryd.underlying5 Tryd.underlying9 (fun j hj => by
    have hj' : j < n := by rw [titB_len] at hj; exact hj
    have e2 : (⟨g, 0, none⟩ : Addr).add j = ⟨g, j, none⟩ := by simp [Addr.add]; intro h; exact h.symm
    rw [e2, h.mem j hj']
    have e3 : (titB f n)[j] = byteOf (shown (f j)) := by simp [titB]
    have b := shown_bd _ (ok j).1 (ok j).2
    rw [e3, byteOf_nat _ b.1 b.2]
    unfold half
    rw [if_pos hj'])
  rw [titB_len] at this
  exact this
set_option maxHeartbeats 2000000 in
theorem title_c (b o n c : Nat) (f : Nat → Int) (w : World) (hn : n < 1000) (hc : n ≤ c) (hl : b < w.heap.size) (h : Rd w b o n f) (ok : okB f) :
    Calls Tryd.prog 20 #[.slice (some ⟨b, o, none⟩) n c] w fun e w' => e = .returned (.string ⟨(titB f (zl f 0 n)).toArray⟩) ∧ Below w.heap.size w w' := by
  have H := Lib.hid h
  have OK := Lib.hid ok
  have HL := Lib.hid hl
  have hz := zl_le f n 0
  have B0 := Lib.hid (own1 w (.cells #[.int .u8 0] 5))
  have C0 := Lib.hid (show (w.alloc (.cells #[.int .u8 0] 5)).cell? ⟨w.heap.size, 0, none⟩ = some (.int .u8 0) from (Has.new w #[.int .u8 0] 5).2.1 0)
  have CC := Lib.hid (cut_c b o n c w.heap.size f (w.alloc (.cells #[.int .u8 0] 5)) hn hc (h.below hl B0.out) ok C0.out)
  generalize hzz : zl f 0 n = z at hz CC ⊢
  clear h ok hl hzz
  go_enter Tryd.func20, Tryd.ntmps20
  go_wp2_with (go_at_call 22; (with_reducible refine CC.out.mono ?_); rintro e w' ⟨r, t, rfl, q, rfl⟩)
  have B1 := Lib.hid (show Below w.heap.size w ((w.alloc (.cells #[.int .u8 0] 5)).drewN q) from via B0.out (bdrewN _ q))
  generalize (w.alloc (.cells #[.int .u8 0] 5)).drewN q = w1 at B1 ⊢
  clear B0 C0 CC
  with_reducible refine (clone_c b o z c f w1 (by omega) ((H.out.below HL.out B1.out).short hz)).mono ?_
  rintro e w2 ⟨g, cap, rfl, hg, O0, hb⟩
  have B2 := Lib.hid (via B1.out hb)
  have OW := Lib.hid O0
  have GL := Lib.hid (Nat.le_trans B1.out.size hg)
  clear hb O0 hg B1
  go_wp2
  go_loopg [20] z (fun g' i wr => ∃ k : Nat, k ≤ z ∧ g' + k = z ∧ i = .int .i64 k ∧ Below w.heap.size w wr ∧ Own wr g z (half f k))
  case atStart => exact ⟨0, by omega, by omega, rfl, B2.out, OW.out.congr (fun j _ => by simp [half])⟩
  case round =>
    obtain ⟨k, hk, hgk, rfl, hB, hO⟩ := hrel
    have GG := Lib.hid hgk
    have BB := Lib.hid hB
    have OO := Lib.hid hO
    clear hgk hB hO B2 OW
    by_cases hlt : k < z
    · have h0 : (0 : Int) ≤ k := by omega
      have h1 : (k : Int) < z := by omega
      have hm := OO.out.mem k hlt
      have hff := OO.out.free k
      have e : half f k k = f k := by simp [half]
      rw [e] at hm
      have fb := OK.out k
      have HS := Lib.hid (half_skip f k)
      have HX := Lib.hid (half_next f k)
      by_cases hx : f k < 32 ∨ 126 < f k
      · have SH := Lib.hid (show shown (f k) = 63 from if_pos hx)
        have ON := OO.out.set k hlt 63
        rw [← SH.out, HX.out, SH.out] at ON
        have BN := Lib.hid (BB.out.setCell (p := ⟨g, k, none⟩) GL.out (.int .u8 63))
        have ONH := Lib.hid ON
        clear ON e
        rcases hx with hx | hx
        · go_wp2
          go_roundg (gk - 1)
          exact ⟨k + 1, by omega, by have := GG.out; omega, by simp, BN.out, ONH.out⟩
          case measure => have := GG.out; omega
        · have hx0 : ¬ f k < 32 := by omega
          go_wp2
          go_roundg (gk - 1)
          exact ⟨k + 1, by omega, by have := GG.out; omega, by simp, BN.out, ONH.out⟩
          case measure => have := GG.out; omega
      · have hx0 : ¬ f k < 32 := by omega
        have hx1 : ¬ 126 < f k := by omega
        have OS := Lib.hid (HS.out (if_neg hx) ▸ OO.out)
        clear hx e
        go_wp2
        go_roundg (gk - 1)
        exact ⟨k + 1, by omega, by have := GG.out; omega, by simp, BB.out, OS.out⟩
        case measure => have := GG.out; omega
    · have e : k = z := by omega
      subst e
      have hcv := conv_t g cap k f OK.out wr OO.out
      go_wp2
      go_ret
      exact ⟨rfl, BB.out⟩
end Go.Proofs.YtifhajdcfjiaiaaDoor
