/-
  The program's closure is called: for every timer; no condition but that each number fits, and that the table lies as it is laid.
-/
import Derived.Test.YtjjmnjkmfkcdoaaDoorCm
import Derived.Deep.Cut
namespace Go.Proofs.YtjjmnjkmfkcdoaaDoor
open Go.ChangeShapes Go.WideShapes Go.ChangeAt Go.RowKit
set_option linter.unusedVariables false
set_option linter.unusedSimpArgs false
set_option maxRecDepth 100000
theorem Tab.g {n : Nat} {w : World} (h : Tab n w) : Glob w := h.2
def Fell (n_ : Nat) (W0 w : World) (pb : Nat) (A : Array Value) (q_ : Ending) (w' : World) : Prop := q_ = .returned (.tuple #[]) ∧ Has w' pb A ∧ Below n_ W0 w' ∧ ∀ r B, r ≠ pb → Has w r B → Has w' r B
set_option maxHeartbeats 2000000 in
theorem clo_0 (c a m k : Int) (o : Bool) (bb qb pb : Nat) (n_ : Nat) (W0 w : World) (hn : n_ ≤ W0.heap.size) (hT : Tab n_ W0) (hB : Below n_ W0 w) (hpb : n_ ≤ pb) (hne : bb ≠ pb) (hne2 : qb ≠ pb) (hP : Has w pb #[.int .u16 c, .int .u8 a, .int .u8 m, .int .u8 k, .bool o]) (hK : Clo w bb qb pb false) : Calls Tryd.prog 20 #[.pointer (some ⟨bb, 0, none⟩), .pointer (some ⟨qb, 0, none⟩)] w (Fell n_ W0 w pb #[.int .u16 c, .int .u8 a, .int .u8 m, .int .u8 k, .bool o]) := by
  have P0 := Lib.hid hP
  have S0 := Lib.hid hK.1
  have Q0 := Lib.hid hK.2
  have B0 := Lib.hid hB
  have HN := Lib.hid hn
  have TT := Lib.hid hT
  have LP := Lib.hid hpb
  have N1 := Lib.hid hne
  have N2 := Lib.hid hne2
  have O0 : RowKit.Hid (∀ r B, r ≠ pb → Has w r B → Has w r B) := Lib.hid (fun _ _ _ h => h)
  clear hn hT hB hpb hne hne2 hP hK
  obtain ⟨hc, hf⟩ := S0.out.out
  go_enter Tryd.func20, Tryd.ntmps20
  go_wp2
  exact bodyPost_ret (v := .tuple #[]) (by simp [results, Tryd.results20, go_sem]) rfl ⟨rfl, P0.out, B0.out, O0.out⟩
set_option maxHeartbeats 2000000 in
theorem clo_1 (c a m k : Int) (o : Bool) (bb qb pb : Nat) (n_ : Nat) (W0 w : World) (hn : n_ ≤ W0.heap.size) (hT : Tab n_ W0) (hB : Below n_ W0 w) (hpb : n_ ≤ pb) (hne : bb ≠ pb) (hne2 : qb ≠ pb) (hP : Has w pb #[.int .u16 c, .int .u8 a, .int .u8 m, .int .u8 k, .bool o]) (hK : Clo w bb qb pb true) (C1 : ∀ W, Has W pb #[.int .u16 c, .int .u8 a, .int .u8 m, .int .u8 k, .bool o] → Glob W → Calls Tryd.prog 19 #[.pointer (some ⟨pb, 0, none⟩)] W fun q_ w' => q_ = .returned (.bool true) ∧ Below W.heap.size W w') : Calls Tryd.prog 20 #[.pointer (some ⟨bb, 0, none⟩), .pointer (some ⟨qb, 0, none⟩)] w (Fell n_ W0 w pb #[.int .u16 c, .int .u8 a, .int .u8 m, .int .u8 k, .bool o]) := by
  have P0 := Lib.hid hP
  have S0 := Lib.hid hK.1
  have Q0 := Lib.hid hK.2
  have B0 := Lib.hid hB
  have HN := Lib.hid hn
  have TT := Lib.hid hT
  have LP := Lib.hid hpb
  have N1 := Lib.hid hne
  have N2 := Lib.hid hne2
  have O0 : RowKit.Hid (∀ r B, r ≠ pb → Has w r B → Has w r B) := Lib.hid (fun _ _ _ h => h)
  clear hn hT hB hpb hne hne2 hP hK
  have C1' := Lib.hid C1
  clear C1
  obtain ⟨hc, hf⟩ := S0.out.out
  obtain ⟨hq, hqf⟩ := Q0.out.out
  go_enter Tryd.func20, Tryd.ntmps20
  go_wp2_with fail
  with_reducible refine (C1'.out _ P0.out (TT.out.next B0.out).g).mono ?_
  rintro q_ w1 ⟨rfl, hb⟩
  clear hc hf hq hqf
  have B1 := Lib.hid (vian HN.out B0.out hb)
  have P1 := Lib.hid (P0.out.below hb)
  have Q1 := Lib.hid (Q0.out.below hb)
  have O1 : RowKit.Hid (∀ r B, r ≠ pb → Has w r B → Has w1 r B) := Lib.hid (fun r B hr h => (O0.out r B hr h).below hb)
  clear hb B0 P0 Q0 S0 O0
  go_wp2
  exact bodyPost_ret (v := .tuple #[]) (by simp [results, Tryd.results20, go_sem]) rfl ⟨rfl, P1.out, B1.out, O1.out⟩
set_option maxHeartbeats 2000000 in
theorem clo_2 (c a m k : Int) (o : Bool) (u : Int) (ha0 : 0 ≤ a) (ha1 : a < 256) (hu : (a + 1) % 256 = u) (g : ¬ u = 0) (bb qb pb : Nat) (n_ : Nat) (W0 w : World) (hn : n_ ≤ W0.heap.size) (hT : Tab n_ W0) (hB : Below n_ W0 w) (hpb : n_ ≤ pb) (hne : bb ≠ pb) (hne2 : qb ≠ pb) (hP : Has w pb #[.int .u16 c, .int .u8 a, .int .u8 m, .int .u8 k, .bool o]) (hK : Clo w bb qb pb true) (C1 : ∀ W, Has W pb #[.int .u16 c, .int .u8 a, .int .u8 m, .int .u8 k, .bool o] → Glob W → Calls Tryd.prog 19 #[.pointer (some ⟨pb, 0, none⟩)] W fun q_ w' => q_ = .returned (.bool false) ∧ Below W.heap.size W w') : Calls Tryd.prog 20 #[.pointer (some ⟨bb, 0, none⟩), .pointer (some ⟨qb, 0, none⟩)] w (Fell n_ W0 w pb #[.int .u16 c, .int .u8 u, .int .u8 m, .int .u8 k, .bool o]) := by
  have P0 := Lib.hid hP
  have S0 := Lib.hid hK.1
  have Q0 := Lib.hid hK.2
  have B0 := Lib.hid hB
  have HN := Lib.hid hn
  have TT := Lib.hid hT
  have LP := Lib.hid hpb
  have N1 := Lib.hid hne
  have N2 := Lib.hid hne2
  have O0 : RowKit.Hid (∀ r B, r ≠ pb → Has w r B → Has w r B) := Lib.hid (fun _ _ _ h => h)
  clear hn hT hB hpb hne hne2 hP hK
  have w1 : IntKind.u8.wrap (a + 1) = u := by rw [← hu]; rfl
  have u1 : 0 ≤ u := by omega
  have u2 : u < 256 := by omega
  have C1' := Lib.hid C1
  clear C1
  obtain ⟨hc, hf⟩ := S0.out.out
  obtain ⟨hq, hqf⟩ := Q0.out.out
  go_enter Tryd.func20, Tryd.ntmps20
  go_wp2_with fail
  with_reducible refine (C1'.out _ P0.out (TT.out.next B0.out).g).mono ?_
  rintro q_ w1 ⟨rfl, hb⟩
  clear hc hf hq hqf
  have B1 := Lib.hid (vian HN.out B0.out hb)
  have P1 := Lib.hid (P0.out.below hb)
  have Q1 := Lib.hid (Q0.out.below hb)
  have O1 : RowKit.Hid (∀ r B, r ≠ pb → Has w r B → Has w1 r B) := Lib.hid (fun r B hr h => (O0.out r B hr h).below hb)
  clear hb B0 P0 Q0 S0 O0
  have P2 := Lib.hid (show Has (w1.setCell ⟨pb, 1, none⟩ (.int .u8 u)) pb #[.int .u16 c, .int .u8 u, .int .u8 m, .int .u8 k, .bool o] by simpa using P1.out.set 1 (.int .u8 u) (by simp))
  have Q2 := Lib.hid (Q1.out.far ⟨pb, 1, none⟩ (.int .u8 u) (fun e => N2.out e.symm))
  have B2 := Lib.hid (store1 B1.out LP.out 1 (.int .u8 u))
  have O2 : RowKit.Hid (∀ r B, r ≠ pb → Has w r B → Has (w1.setCell ⟨pb, 1, none⟩ (.int .u8 u)) r B) := Lib.hid (fun r B hr h => (O1.out r B hr h).far ⟨pb, 1, none⟩ (.int .u8 u) (fun e => hr e.symm))
  obtain ⟨hq, hqf⟩ := Q1.out.out
  obtain ⟨hp, hpf⟩ := P1.out.out
  go_upto_region 2 with (fail)
  generalize w1.setCell ⟨pb, 1, none⟩ (.int .u8 u) = w2 at P2 Q2 B2 O2 ⊢
  clear P1 Q1 B1 O1
  clear hq hqf hp hpf
  obtain ⟨hq, hqf⟩ := Q2.out.out
  obtain ⟨hp, hpf⟩ := P2.out.out
  go_wp2
  exact bodyPost_ret (v := .tuple #[]) (by simp [results, Tryd.results20, go_sem]) rfl ⟨rfl, P2.out, B2.out, O2.out⟩
set_option maxHeartbeats 2000000 in
theorem clo_3 (c a m k : Int) (o : Bool) (ha0 : 0 ≤ a) (ha1 : a < 256) (hu : (a + 1) % 256 = 0) (bb qb pb : Nat) (n_ : Nat) (W0 w : World) (hn : n_ ≤ W0.heap.size) (hT : Tab n_ W0) (hB : Below n_ W0 w) (hpb : n_ ≤ pb) (hne : bb ≠ pb) (hne2 : qb ≠ pb) (hP : Has w pb #[.int .u16 c, .int .u8 a, .int .u8 m, .int .u8 k, .bool o]) (hK : Clo w bb qb pb true) (C1 : ∀ W, Has W pb #[.int .u16 c, .int .u8 a, .int .u8 m, .int .u8 k, .bool o] → Glob W → Calls Tryd.prog 19 #[.pointer (some ⟨pb, 0, none⟩)] W fun q_ w' => q_ = .returned (.bool false) ∧ Below W.heap.size W w') : Calls Tryd.prog 20 #[.pointer (some ⟨bb, 0, none⟩), .pointer (some ⟨qb, 0, none⟩)] w (Fell n_ W0 w pb #[.int .u16 c, .int .u8 0, .int .u8 m, .int .u8 k, .bool true]) := by
  have P0 := Lib.hid hP
  have S0 := Lib.hid hK.1
  have Q0 := Lib.hid hK.2
  have B0 := Lib.hid hB
  have HN := Lib.hid hn
  have TT := Lib.hid hT
  have LP := Lib.hid hpb
  have N1 := Lib.hid hne
  have N2 := Lib.hid hne2
  have O0 : RowKit.Hid (∀ r B, r ≠ pb → Has w r B → Has w r B) := Lib.hid (fun _ _ _ h => h)
  clear hn hT hB hpb hne hne2 hP hK
  have w1 : IntKind.u8.wrap (a + 1) = 0 := by rw [← hu]; rfl
  have C1' := Lib.hid C1
  clear C1
  obtain ⟨hc, hf⟩ := S0.out.out
  obtain ⟨hq, hqf⟩ := Q0.out.out
  go_enter Tryd.func20, Tryd.ntmps20
  go_wp2_with fail
  with_reducible refine (C1'.out _ P0.out (TT.out.next B0.out).g).mono ?_
  rintro q_ w1 ⟨rfl, hb⟩
  clear hc hf hq hqf
  have B1 := Lib.hid (vian HN.out B0.out hb)
  have P1 := Lib.hid (P0.out.below hb)
  have Q1 := Lib.hid (Q0.out.below hb)
  have O1 : RowKit.Hid (∀ r B, r ≠ pb → Has w r B → Has w1 r B) := Lib.hid (fun r B hr h => (O0.out r B hr h).below hb)
  clear hb B0 P0 Q0 S0 O0
  have P2 := Lib.hid (show Has (w1.setCell ⟨pb, 1, none⟩ (.int .u8 0)) pb #[.int .u16 c, .int .u8 0, .int .u8 m, .int .u8 k, .bool o] by simpa using P1.out.set 1 (.int .u8 0) (by simp))
  have Q2 := Lib.hid (Q1.out.far ⟨pb, 1, none⟩ (.int .u8 0) (fun e => N2.out e.symm))
  have B2 := Lib.hid (store1 B1.out LP.out 1 (.int .u8 0))
  have O2 : RowKit.Hid (∀ r B, r ≠ pb → Has w r B → Has (w1.setCell ⟨pb, 1, none⟩ (.int .u8 0)) r B) := Lib.hid (fun r B hr h => (O1.out r B hr h).far ⟨pb, 1, none⟩ (.int .u8 0) (fun e => hr e.symm))
  obtain ⟨hq, hqf⟩ := Q1.out.out
  obtain ⟨hp, hpf⟩ := P1.out.out
  go_upto_region 2 with (fail)
  generalize w1.setCell ⟨pb, 1, none⟩ (.int .u8 0) = w2 at P2 Q2 B2 O2 ⊢
  clear P1 Q1 B1 O1
  clear hq hqf hp hpf
  have P3 := Lib.hid (show Has (w2.setCell ⟨pb, 4, none⟩ (.bool true)) pb #[.int .u16 c, .int .u8 0, .int .u8 m, .int .u8 k, .bool true] by simpa using P2.out.set 4 (.bool true) (by simp))
  have Q3 := Lib.hid (Q2.out.far ⟨pb, 4, none⟩ (.bool true) (fun e => N2.out e.symm))
  have B3 := Lib.hid (store1 B2.out LP.out 4 (.bool true))
  have O3 : RowKit.Hid (∀ r B, r ≠ pb → Has w r B → Has (w2.setCell ⟨pb, 4, none⟩ (.bool true)) r B) := Lib.hid (fun r B hr h => (O2.out r B hr h).far ⟨pb, 4, none⟩ (.bool true) (fun e => hr e.symm))
  obtain ⟨hq, hqf⟩ := Q2.out.out
  obtain ⟨hp, hpf⟩ := P2.out.out
  go_wp2
  exact bodyPost_ret (v := .tuple #[]) (by simp [results, Tryd.results20, go_sem]) rfl ⟨rfl, P3.out, B3.out, O3.out⟩
theorem clo_c (v R : TV) (s : Bool) (hv : v.ok) (hR : fallV s v = R) (bb qb pb : Nat) (n_ : Nat) (W0 w : World) (hn : n_ ≤ W0.heap.size) (hT : Tab n_ W0) (hB : Below n_ W0 w) (hpb : n_ ≤ pb) (hne : bb ≠ pb) (hne2 : qb ≠ pb) (hP : Has w pb #[.int .u16 v.c, .int .u8 v.a, .int .u8 v.m, .int .u8 v.k, .bool v.o]) (hK : Clo w bb qb pb s) : Calls Tryd.prog 20 #[.pointer (some ⟨bb, 0, none⟩), .pointer (some ⟨qb, 0, none⟩)] w (Fell n_ W0 w pb #[.int .u16 R.c, .int .u8 R.a, .int .u8 R.m, .int .u8 R.k, .bool R.o]) := by
  obtain ⟨c, a, m, k, o⟩ := v
  obtain ⟨⟨h1, h2⟩, ⟨h3, h4⟩, _, h7, h8⟩ := hv
  dsimp only at h1 h2 h3 h4 h7 h8 hP ⊢
  cases s with
  | false =>
    rw [fall_not false _ (Or.inl rfl)] at hR
    subst hR
    exact clo_0 c a m k o bb qb pb n_ W0 w hn hT hB hpb hne hne2 hP hK
  | true =>
    rcases Bool.eq_false_or_eq_true (sigV c k) with g | g
    · rw [fall_not true _ (Or.inr g)] at hR
      subst hR
      exact clo_1 c a m k o bb qb pb n_ W0 w hn hT hB hpb hne hne2 hP hK (fun W h1' h2' => sg_c c a m k o pb true h1 h2 h7 h8 g W h1' h2')
    · rw [fall_yes _ g] at hR
      subst hR
      dsimp only
      by_cases g2 : (a + 1) % 256 = 0
      · rw [if_pos g2, g2]
        exact clo_3 c a m k o h3 h4 g2 bb qb pb n_ W0 w hn hT hB hpb hne hne2 hP hK (fun W h1' h2' => sg_c c a m k o pb false h1 h2 h7 h8 g W h1' h2')
      · rw [if_neg g2]
        exact clo_2 c a m k o _ h3 h4 rfl g2 bb qb pb n_ W0 w hn hT hB hpb hne hne2 hP hK (fun W h1' h2' => sg_c c a m k o pb false h1 h2 h7 h8 g W h1' h2')
end Go.Proofs.YtjjmnjkmfkcdoaaDoor
