/-
  The walk through ClockParts: for every world in which the calls and the numbers lie as told; no other condition.
-/
import Derived.Test.YtkpjoongbckhcaaOpn
import Derived.Deep.Cut
import Derived.Deep.LoopGhost
import Derived.Laws.StructEq
import Derived.Laws.Tables
import Derived.Laws.Cover2
namespace Go.Proofs.Ytkpjoongbckhcaa
open Go.ChangeShapes Go.WideShapes Go.ChangeAt Go.RowKit
set_option linter.unusedVariables false
set_option linter.unusedSimpArgs false
set_option maxRecDepth 100000
theorem tick_sub {c : CV} (h : c.sub < 1048576) (n : Int) : (tickV c n).sub < 1048576 := do_sub h 1 n 0
theorem tick_add (c : CV) (hc : c.ok) (s n : Int) (hs : 0 ≤ s) (hn : 0 ≤ n) (hsn : s + n ≤ 1073741824) : tickV (tickV c s) n = tickV c (s + n) := by
  by_cases s0 : s < 1
  · have e : tickV c s = c := by unfold tickV; split <;> first | rfl | rw [if_pos s0]
    rw [e, show s + n = n by omega]
  by_cases n0 : n < 1
  · have e : ∀ d : CV, tickV d n = d := fun d => by unfold tickV; split <;> first | rfl | rw [if_pos n0]
    rw [e, show s + n = s by omega]
  cases hh : c.halt
  · have c1 : capV s = s := by unfold capV; rw [if_neg (by omega)]
    have c2 : capV n = n := by unfold capV; rw [if_neg (by omega)]
    have c3 : capV (s + n) = s + n := by unfold capV; rw [if_neg (by omega)]
    have h5 := hc.2.2.2.2
    have k1 : (((c.sub + s) / 1048576).toNat : Int) = (c.sub + capV s) / 1048576 := by rw [c1]; exact Int.toNat_of_nonneg (by omega)
    have k2 : ((((c.sub + s) % 1048576 + n) / 1048576).toNat : Int) = ((c.sub + s) % 1048576 + n) / 1048576 := Int.toNat_of_nonneg (by omega)
    have t1 := tick_it c hc s hh (by omega) _ k1
    have ok1 : (tickV c s).ok := tick_ok hc s
    have h1 : (tickV c s).halt = false := by rw [tickV, if_neg (by rw [hh]; simp), if_neg s0]; exact hh
    have t2 := tick_it (tickV c s) ok1 n h1 (by omega) (((c.sub + s) % 1048576 + n) / 1048576).toNat (by rw [t1, c2, c1]; exact k2)
    have t3 := tick_it c hc (s + n) hh (by omega) (((c.sub + s) / 1048576).toNat + (((c.sub + s) % 1048576 + n) / 1048576).toNat) (by rw [c3]; rw [c1] at k1; omega)
    rw [t2, t3, t1, c1, c2, c3]
    dsimp only
    rw [itV_sub, itV_add, show ((c.sub + s) % 1048576 + n) % 1048576 = (c.sub + (s + n)) % 1048576 by omega]
  · have e : ∀ d : CV, d.halt = true → ∀ n, tickV d n = d := fun d h n => by unfold tickV; rw [if_pos h]
    rw [e c hh s, e c hh n, e c hh (s + n)]
set_option maxHeartbeats 2000000 in
theorem parts_l1 (a2 : Option Addr) (n2 c2 : Nat) (a : Option Addr) (n c : Nat) (h0 : 60 < n) (w : World) : Calls Try.prog 5 #[.slice a n c, .slice a2 n2 c2] w fun q_ w' => q_ = .returned (.bool true) ∧ Below w.heap.size w w' := by
  suffices hall : ∀ (n_ : Nat) (W0 : World), n_ ≤ W0.heap.size → Below n_ W0 w → Calls Try.prog 5 #[.slice a n c, .slice a2 n2 c2] w fun q_ w' => q_ = .returned (.bool true) ∧ Below n_ W0 w' from hall _ _ (Nat.le_refl _) (Below.refl _ _)
  intro n_ W0 hn hB
  have HN := Lib.hid hn
  have BB := Lib.hid hB
  clear hn hB
  have AW := Lib.hid awake_c
  have h0I : (60 : Int) < n := by omega
  have hnot : ∀ (x : Bool) (w : World), (Op.unary .not (.bool x)).run Try.prog w = .ok (.bool (!x)) w := fun _ _ => rfl
  go_enter Try.func5, Try.ntmps5
  go_wp2_with fail
  with_reducible refine (AW.out _).mono ?_
  rintro q_ w1 ⟨rfl, hb⟩
  have B1 := Lib.hid (vian HN.out BB.out hb)
  clear hb
  go_wp2_with fail
  with_reducible refine (AW.out _).mono ?_
  rintro q_ w2 ⟨rfl, hb⟩
  have B2 := Lib.hid (vian HN.out B1.out hb)
  clear hb
  go_wp2
  go_ret
  exact ⟨rfl, B2.out⟩
set_option maxHeartbeats 2000000 in
theorem parts_l2 (a2 : Option Addr) (n2 c2 : Nat) (h1 : 20 < n2) (a : Option Addr) (n c : Nat) (h0 : ¬ 60 < n) (w : World) : Calls Try.prog 5 #[.slice a n c, .slice a2 n2 c2] w fun q_ w' => q_ = .returned (.bool true) ∧ Below w.heap.size w w' := by
  suffices hall : ∀ (n_ : Nat) (W0 : World), n_ ≤ W0.heap.size → Below n_ W0 w → Calls Try.prog 5 #[.slice a n c, .slice a2 n2 c2] w fun q_ w' => q_ = .returned (.bool true) ∧ Below n_ W0 w' from hall _ _ (Nat.le_refl _) (Below.refl _ _)
  intro n_ W0 hn hB
  have HN := Lib.hid hn
  have BB := Lib.hid hB
  clear hn hB
  have AW := Lib.hid awake_c
  have h0I : ¬ (60 : Int) < n := by omega
  have h1I : (20 : Int) < n2 := by omega
  have hnot : ∀ (x : Bool) (w : World), (Op.unary .not (.bool x)).run Try.prog w = .ok (.bool (!x)) w := fun _ _ => rfl
  go_enter Try.func5, Try.ntmps5
  go_wp2_with fail
  with_reducible refine (AW.out _).mono ?_
  rintro q_ w1 ⟨rfl, hb⟩
  have B1 := Lib.hid (vian HN.out BB.out hb)
  clear hb
  go_wp2_with fail
  with_reducible refine (AW.out _).mono ?_
  rintro q_ w2 ⟨rfl, hb⟩
  have B2 := Lib.hid (vian HN.out B1.out hb)
  clear hb
  go_wp2
  go_ret
  exact ⟨rfl, B2.out⟩
set_option maxHeartbeats 8000000 in
theorem parts_some (a2 : Option Addr) (n2 c2 : Nat) (h1 : ¬ 20 < n2) (f2 : Nat → Int) (hf2 : ∀ i, 0 ≤ f2 i ∧ f2 i < 4294967296) (a : Option Addr) (n c : Nat) (h0 : ¬ 60 < n) (f g h : Nat → Int) (hh : ∀ i, 0 ≤ h i ∧ h i < 256) (w : World) (hmem : (0 < n → ∃ qb qo, a = some ⟨qb, qo, none⟩ ∧ qb < w.heap.size ∧ ∀ j, j < n → w.cell? ⟨qb, qo + j * 3, none⟩ = some (.int .i64 (f j)) ∧ w.cell? ⟨qb, qo + j * 3 + 1, none⟩ = some (.int .i64 (g j)) ∧ w.cell? ⟨qb, qo + j * 3 + 2, none⟩ = some (.int .u8 (h j)))) (hmem2 : (0 < n2 → ∃ rb ro, a2 = some ⟨rb, ro, none⟩ ∧ rb < w.heap.size ∧ ∀ j, j < n2 → w.cell? ⟨rb, ro + j, none⟩ = some (.int .u32 (f2 j)))) : Calls Try.prog 5 #[.slice a n c, .slice a2 n2 c2] w fun q_ w' => q_ = .returned (.bool true) ∧ Below w.heap.size w w' := by
  suffices hall : ∀ (n_ : Nat) (W0 : World), n_ ≤ W0.heap.size → Below n_ W0 w → (0 < n → ∃ qb qo, a = some ⟨qb, qo, none⟩ ∧ qb < n_ ∧ ∀ j, j < n → W0.cell? ⟨qb, qo + j * 3, none⟩ = some (.int .i64 (f j)) ∧ W0.cell? ⟨qb, qo + j * 3 + 1, none⟩ = some (.int .i64 (g j)) ∧ W0.cell? ⟨qb, qo + j * 3 + 2, none⟩ = some (.int .u8 (h j))) → (0 < n2 → ∃ rb ro, a2 = some ⟨rb, ro, none⟩ ∧ rb < n_ ∧ ∀ j, j < n2 → W0.cell? ⟨rb, ro + j, none⟩ = some (.int .u32 (f2 j))) → Calls Try.prog 5 #[.slice a n c, .slice a2 n2 c2] w fun q_ w' => q_ = .returned (.bool true) ∧ Below n_ W0 w' from hall _ _ (Nat.le_refl _) (Below.refl _ _) hmem hmem2
  intro n_ W0 hn hB hI hI2
  have HN := Lib.hid hn
  have BB := Lib.hid hB
  have HIN := Lib.hid hI
  have HIN2 := Lib.hid hI2
  have HH := Lib.hid hh
  clear hn hB hI hmem hh hI2 hmem2
  have h0I : ¬ (60 : Int) < n := by omega
  have AW := Lib.hid awake_c
  have hnot : ∀ (x : Bool) (w : World), (Op.unary .not (.bool x)).run Try.prog w = .ok (.bool (!x)) w := fun _ _ => rfl
  have h1I : ¬ (20 : Int) < n2 := by omega
  have HF2 := Lib.hid hf2
  clear hf2
  go_enter Try.func5, Try.ntmps5
  go_wp2_with fail
  with_reducible refine (AW.out _).mono ?_
  rintro q_ w1 ⟨rfl, hb⟩
  have B1 := Lib.hid (vian HN.out BB.out hb)
  clear hb
  have Q_ := own1 w1 (.cells #[.int .u8 0, .int .u8 0, .int .u8 0, .int .i64 0, .int .i64 0, .bool false, .bool false, .int .u8 0, .int .u8 0, .int .u8 0, .int .u8 0, .int .u8 0] 26)
  have B2 := Lib.hid (vian HN.out B1.out Q_)
  have P2 := Lib.hid (Has.new w1 #[.int .u8 0, .int .u8 0, .int .u8 0, .int .i64 0, .int .i64 0, .bool false, .bool false, .int .u8 0, .int .u8 0, .int .u8 0, .int .u8 0, .int .u8 0] 26)
  have LP := Lib.hid (show n_ ≤ w1.heap.size from Nat.le_trans HN.out B1.out.size)
  clear Q_
  go_upto_region 4 with (fail)
  generalize w1.alloc (.cells #[.int .u8 0, .int .u8 0, .int .u8 0, .int .i64 0, .int .i64 0, .bool false, .bool false, .int .u8 0, .int .u8 0, .int .u8 0, .int .u8 0, .int .u8 0] 26) = w2 at B2 P2 ⊢
  generalize w1.heap.size = pb at P2 LP ⊢
  go_wp2
  go_loopg [27] n (fun g' i wr => ∃ (t : Nat) (m : CV), t ≤ n ∧ g' + t = n ∧ i = .int .i64 t ∧ (m.ok ∧ m.sub < 1048576) ∧ Below n_ W0 wr ∧ Has wr pb #[.int .u8 m.s, .int .u8 m.m, .int .u8 m.h, .int .i64 m.day, .int .i64 m.sub, .bool m.halt, .bool m.carry, .int .u8 m.a, .int .u8 m.b, .int .u8 m.c, .int .u8 m.d, .int .u8 m.e])
  case atStart => exact ⟨0, zeroV, by omega, by omega, rfl, ⟨zero_ok, by decide⟩, B2.out, P2.out⟩
  case round =>
    obtain ⟨t, m, ht, hg, rfl, hok, hB, hP⟩ := hrel
    have TG := Lib.hid hg
    have OK := Lib.hid hok
    have B0 := Lib.hid hB.drew
    have P0 := Lib.hid hP.drew
    have TB := Lib.hid hB
    have TP := Lib.hid hP
    clear hg hok hB hP B2 P2
    by_cases hlt : t < n
    · clear TB TP
      have l1 : (t : Int) < n := by omega
      have l0 : (0 : Int) ≤ t := by omega
      obtain ⟨qb, qo, rfl, hqb, hcells⟩ := HIN.out (by omega)
      have QQ := Lib.hid hqb
      have E0 := Lib.hid (hcells t hlt).1
      have E1 := Lib.hid (hcells t hlt).2.1
      have E2 := Lib.hid (hcells t hlt).2.2
      have xb := HH.out t
      generalize f t = kk at E0
      generalize g t = nn at E1
      generalize h t = xx at E2 xb
      clear hcells hqb
      obtain ⟨m', hm'⟩ : ∃ q_, doV m kk nn xx = q_ := ⟨_, rfl⟩
      have DC := Lib.hid (fun W => do_c m m' kk nn xx OK.out.1 xb.1 xb.2 hm' W)
      have OK' := Lib.hid (show m'.ok ∧ m'.sub < 1048576 from ⟨hm' ▸ do_ok OK.out.1 _ _ _ xb, hm' ▸ do_sub OK.out.2 _ _ _⟩)
      clear hm'
      go_upto_region 7 with (fail)
      refine wp_region_held_drew (S := (fun w' => (w'.cell? ⟨qb, qo + t * 3, none⟩ = some (.int .i64 kk)) ∧ (w'.cell? ⟨qb, qo + t * 3 + 1, none⟩ = some (.int .i64 nn)) ∧ (w'.cell? ⟨qb, qo + t * 3 + 2, none⟩ = some (.int .u8 xx)))) (by kernel_rfl) ⟨(B0.out.cell (p := ⟨qb, qo + t * 3, none⟩) QQ.out).trans E0.out, (B0.out.cell (p := ⟨qb, qo + t * 3 + 1, none⟩) QQ.out).trans E1.out, (B0.out.cell (p := ⟨qb, qo + t * 3 + 2, none⟩) QQ.out).trans E2.out⟩ (fun hHeld => ?_)
      generalize World.drew wr = u0 at hHeld B0 P0 ⊢
      refine wpAnyH_take (i := 1) (oi := { dst := some 31, op := Go.Op.move (Go.Operand.tmp 0), type := 22, pos := "law.go:80", after := #[], guard := none }) (v := ?v1) rfl (by kernel_rfl) (by kernel_rfl) (by kernel_rfl) (fun _ _ _ h => h) (Or.inl ⟨by rfl, ?y1⟩) (by assumption) ?z1
      case y1 => (intro w hSw; (try dsimp only at hSw); go_simp) <;> with_reducible rfl
      try simp only [Act.put, List.setIfInBounds_toArray, List.set_cons_zero, List.set_cons_succ]
      refine wpAnyH_take (i := 2) (oi := { dst := some 32, op := Go.Op.move (Go.Operand.tmp 6), type := 3, pos := "law.go:80", after := #[], guard := none }) (v := ?v2) rfl (by kernel_rfl) (by kernel_rfl) (by kernel_rfl) (fun _ _ _ h => h) (Or.inl ⟨by rfl, ?y2⟩) (by assumption) ?z2
      case y2 => (intro w hSw; (try dsimp only at hSw); go_simp) <;> with_reducible rfl
      try simp only [Act.put, List.setIfInBounds_toArray, List.set_cons_zero, List.set_cons_succ]
      refine wpAnyH_take (i := 3) (oi := { dst := some 33, op := Go.Op.indexAddr 22 (Go.Operand.tmp 31) (Go.Operand.tmp 32), type := 0, pos := "law.go:80", after := #[{ on := 1, ground := Go.Ground.data }, { on := 2, ground := Go.Ground.data }], guard := none }) (v := ?v3) rfl (by kernel_rfl) (by kernel_rfl) (by kernel_rfl) (fun _ _ _ h => h) (Or.inl ⟨by rfl, ?y3⟩) (by assumption) ?z3
      case y3 => (intro w hSw; (try dsimp only at hSw); go_simp) <;> with_reducible rfl
      try simp only [Act.put, List.setIfInBounds_toArray, List.set_cons_zero, List.set_cons_succ]
      refine wpAnyH_take (i := 4) (oi := { dst := some 34, op := Go.Op.load 30 (Go.Operand.tmp 33), type := 30, pos := "law.go:80", after := #[{ on := 3, ground := Go.Ground.data }], guard := none }) (v := ?v4) rfl (by kernel_rfl) (by kernel_rfl) (by kernel_rfl) (fun _ _ _ h => h) (Or.inl ⟨by rfl, ?y4⟩) (by assumption) ?z4
      case y4 => (intro w hSw; (try dsimp only at hSw); go_simp) <;> with_reducible rfl
      try simp only [Act.put, List.setIfInBounds_toArray, List.set_cons_zero, List.set_cons_succ]
      refine wpAnyH_ready (rs := [0]) (by kernel_rfl) (by simp) ?_
      refine (AllReadyH.cons (o := { dst := some 30, op := Go.Op.load 26 (Go.Operand.tmp 5), type := 26, pos := "law.go:80", after := #[], guard := none }) rfl (fun K hK => ?_) AllReadyH.nil)
      · skip
        obtain ⟨hc, hfz⟩ := P0.out.out
        go_simp
        clear hc hfz
        refine hK.out _ _ ?s5 (fun hNew => ?r5)
        case s5 => exact ⟨(B0.out.cell (p := ⟨qb, qo + t * 3, none⟩) QQ.out).trans E0.out, (B0.out.cell (p := ⟨qb, qo + t * 3 + 1, none⟩) QQ.out).trans E1.out, (B0.out.cell (p := ⟨qb, qo + t * 3 + 2, none⟩) QQ.out).trans E2.out⟩
        clear hK K hHeld
        have hHeld := hNew
        clear hNew
        refine wpAnyH_ready (rs := [5]) (by kernel_rfl) (by simp) ?_
        refine (AllReadyH.cons (o := { dst := some 35, op := Go.Op.call { callee := Go.Callee.value (Go.Operand.func 10), args := #[Go.Operand.tmp 30, Go.Operand.tmp 34], argTypes := #[26, 30] }, type := 26, pos := "law.go:80", after := #[{ on := 0, ground := Go.Ground.data }, { on := 4, ground := Go.Ground.data }], guard := none }) rfl (fun K hK => ?_) AllReadyH.nil)
        · skip
          go_simp
          with_reducible refine (DC.out _).mono ?_
          rintro q_ u1 ⟨rfl, hb⟩
          have B1 := Lib.hid (vian HN.out B0.out hb)
          have P1 := Lib.hid (P0.out.below hb)
          clear hb B0 P0
          refine hK.out _ _ ?s6 (fun hNew => ?r6)
          case s6 => exact ⟨(B1.out.cell (p := ⟨qb, qo + t * 3, none⟩) QQ.out).trans E0.out, (B1.out.cell (p := ⟨qb, qo + t * 3 + 1, none⟩) QQ.out).trans E1.out, (B1.out.cell (p := ⟨qb, qo + t * 3 + 2, none⟩) QQ.out).trans E2.out⟩
          clear hK K hHeld
          have hHeld := hNew
          clear hNew
          refine wpAnyH_ready (rs := [6]) (by kernel_rfl) (by simp) ?_
          refine (AllReadyH.cons (o := { dst := none, op := Go.Op.store 26 (Go.Operand.tmp 5) (Go.Operand.tmp 35), type := 0, pos := "law.go:80", after := #[{ on := 5, ground := Go.Ground.data }, { on := 5, ground := Go.Ground.chain }, { on := 0, ground := Go.Ground.phase }, { on := 1, ground := Go.Ground.phase }, { on := 2, ground := Go.Ground.phase }, { on := 3, ground := Go.Ground.phase }, { on := 4, ground := Go.Ground.phase }, { on := 5, ground := Go.Ground.phase }], guard := none }) rfl (fun K hK => ?_) AllReadyH.nil)
          · skip
            obtain ⟨hc, hfz⟩ := P1.out.out
            go_simp
            clear hc hfz
            have P2 := Lib.hid (P1.out.put12 (.int .u8 m'.s) (.int .u8 m'.m) (.int .u8 m'.h) (.int .i64 m'.day) (.int .i64 m'.sub) (.bool m'.halt) (.bool m'.carry) (.int .u8 m'.a) (.int .u8 m'.b) (.int .u8 m'.c) (.int .u8 m'.d) (.int .u8 m'.e))
            have B2 := Lib.hid (set12 B1.out pb LP.out (.int .u8 m'.s) (.int .u8 m'.m) (.int .u8 m'.h) (.int .i64 m'.day) (.int .i64 m'.sub) (.bool m'.halt) (.bool m'.carry) (.int .u8 m'.a) (.int .u8 m'.b) (.int .u8 m'.c) (.int .u8 m'.d) (.int .u8 m'.e))
            clear B1 P1
            refine hK.out _ _ ?s7 (fun hNew => ?r7)
            case s7 => exact ⟨(B2.out.cell (p := ⟨qb, qo + t * 3, none⟩) QQ.out).trans E0.out, (B2.out.cell (p := ⟨qb, qo + t * 3 + 1, none⟩) QQ.out).trans E1.out, (B2.out.cell (p := ⟨qb, qo + t * 3 + 2, none⟩) QQ.out).trans E2.out⟩
            clear hK K hHeld
            have hHeld := hNew
            clear hNew
            generalize (World.setCell (World.setCell (World.setCell (World.setCell (World.setCell (World.setCell (World.setCell (World.setCell (World.setCell (World.setCell (World.setCell (World.setCell u1 ⟨pb, 0, none⟩ (.int .u8 m'.s)) ⟨pb, 1, none⟩ (.int .u8 m'.m)) ⟨pb, 2, none⟩ (.int .u8 m'.h)) ⟨pb, 3, none⟩ (.int .i64 m'.day)) ⟨pb, 4, none⟩ (.int .i64 m'.sub)) ⟨pb, 5, none⟩ (.bool m'.halt)) ⟨pb, 6, none⟩ (.bool m'.carry)) ⟨pb, 7, none⟩ (.int .u8 m'.a)) ⟨pb, 8, none⟩ (.int .u8 m'.b)) ⟨pb, 9, none⟩ (.int .u8 m'.c)) ⟨pb, 10, none⟩ (.int .u8 m'.d)) ⟨pb, 11, none⟩ (.int .u8 m'.e)) = u2 at hHeld B2 P2 ⊢
            refine wpAnyH_done (by kernel_rfl) ?_ _
            clear hHeld
            go_wp2
            go_roundg (gk - 1)
            exact ⟨t + 1, m', by omega, by have := TG.out; omega, by simp, OK'.out, B2.out, P2.out⟩
            case measure => have := TG.out; omega
    · have et : t = n := by omega
      subst et
      clear B0 P0 TG HIN HH AW
      have hc := TP.out.2.1
      have Q_ := own1 wr (.cells #[.int .u8 m.s, .int .u8 m.m, .int .u8 m.h, .int .i64 m.day, .int .i64 m.sub, .bool m.halt, .bool m.carry, .int .u8 m.a, .int .u8 m.b, .int .u8 m.c, .int .u8 m.d, .int .u8 m.e] 26)
      have B3 := Lib.hid (vian HN.out TB.out Q_)
      have P3 := Lib.hid (TP.out.below Q_)
      have R3 := Lib.hid (Has.new wr #[.int .u8 m.s, .int .u8 m.m, .int .u8 m.h, .int .i64 m.day, .int .i64 m.sub, .bool m.halt, .bool m.carry, .int .u8 m.a, .int .u8 m.b, .int .u8 m.c, .int .u8 m.d, .int .u8 m.e] 26)
      have LR := Lib.hid (show n_ ≤ wr.heap.size from Nat.le_trans HN.out TB.out.size)
      have NE := Lib.hid (show pb ≠ wr.heap.size by have := TP.out.1; omega)
      clear Q_
      go_upto_region 10 with (fail)
      clear hc TB TP
      generalize wr.alloc (.cells #[.int .u8 m.s, .int .u8 m.m, .int .u8 m.h, .int .i64 m.day, .int .i64 m.sub, .bool m.halt, .bool m.carry, .int .u8 m.a, .int .u8 m.b, .int .u8 m.c, .int .u8 m.d, .int .u8 m.e] 26) = w3 at B3 P3 R3 ⊢
      generalize wr.heap.size = ab at R3 LR NE ⊢
      go_wp2
      go_loopg [8, 40] n2 (fun g' s8 i wz => ∃ (k : Nat) (sm : Int) (z : CV), k ≤ n2 ∧ g' + k = n2 ∧ i = .int .i64 k ∧ s8 = .int .i64 sm ∧ (0 ≤ sm ∧ sm ≤ 20971520 * k) ∧ z = tickV m sm ∧ Below n_ W0 wz ∧ Has wz pb #[.int .u8 m.s, .int .u8 m.m, .int .u8 m.h, .int .i64 m.day, .int .i64 m.sub, .bool m.halt, .bool m.carry, .int .u8 m.a, .int .u8 m.b, .int .u8 m.c, .int .u8 m.d, .int .u8 m.e] ∧ Has wz ab #[.int .u8 z.s, .int .u8 z.m, .int .u8 z.h, .int .i64 z.day, .int .i64 z.sub, .bool z.halt, .bool z.carry, .int .u8 z.a, .int .u8 z.b, .int .u8 z.c, .int .u8 z.d, .int .u8 z.e])
      case atStart => exact ⟨0, 0, m, by omega, by omega, rfl, rfl, by omega, by unfold tickV; split; rfl; rfl, B3.out, P3.out, R3.out⟩
      case round =>
        obtain ⟨k, sm, z, hk, hg, rfl, rfl, hsm, hz, hB, hP, hR⟩ := hrel
        have TG := Lib.hid hg
        have HZ := Lib.hid hz
        have TB := Lib.hid hB
        have TP := Lib.hid hP
        have TR := Lib.hid hR
        have s0 := hsm.1
        have s1 : sm ≤ 419430400 := by omega
        have SM := Lib.hid hsm
        clear hg hz hB hP hR hsm B3 P3 R3
        by_cases hlt : k < n2
        · have l1 : (k : Int) < n2 := by omega
          have l0 : (0 : Int) ≤ k := by omega
          obtain ⟨qb, qo, rfl, hqb, hcells⟩ := HIN2.out (by omega)
          have hq := (TB.out.cell (p := ⟨qb, qo + k, none⟩) hqb).trans (hcells k hlt)
          have pp0 := HF2.out k
          generalize f2 k = pp at hq pp0
          clear hcells
          have p0 := pp0.1
          have p1 := pp0.2
          obtain ⟨nn, hnn⟩ : ∃ q_, pp % 20971520 = q_ := ⟨_, rfl⟩
          have n0 : 0 ≤ nn ∧ nn < 20971520 := by omega
          obtain ⟨n0, n1⟩ := n0
          obtain ⟨sm', hsm'⟩ : ∃ q_, sm + nn = q_ := ⟨_, rfl⟩
          obtain ⟨z', hz'⟩ : ∃ q_, tickV z nn = q_ := ⟨_, rfl⟩
          have zok : z.ok := by rw [HZ.out]; exact tick_ok OK.out.1 _
          have TC := Lib.hid (fun W => tick_c z z' nn zok hz' W)
          have HZ' := Lib.hid (show z' = tickV m sm' by rw [← hz', HZ.out, ← hsm']; exact tick_add m OK.out.1 sm nn s0 n0 (by omega))
          have SM' := Lib.hid (show 0 ≤ sm' ∧ sm' ≤ 20971520 * ((k + 1 : Nat) : Int) by have := SM.out; omega)
          clear zok hz'
          have hc := TR.out.2.1
          go_wp2_with fail
          with_reducible refine (TC.out _).mono ?_
          rintro q_ w4 ⟨rfl, hb⟩
          have B4 := Lib.hid (vian HN.out TB.out hb)
          have P4 := Lib.hid (TP.out.below hb)
          have R4 := Lib.hid (TR.out.below hb)
          clear hb hc hq
          have R5 := Lib.hid (R4.out.put12 (.int .u8 z'.s) (.int .u8 z'.m) (.int .u8 z'.h) (.int .i64 z'.day) (.int .i64 z'.sub) (.bool z'.halt) (.bool z'.carry) (.int .u8 z'.a) (.int .u8 z'.b) (.int .u8 z'.c) (.int .u8 z'.d) (.int .u8 z'.e))
          have P5 := Lib.hid (P4.out.far12 NE.out (.int .u8 z'.s) (.int .u8 z'.m) (.int .u8 z'.h) (.int .i64 z'.day) (.int .i64 z'.sub) (.bool z'.halt) (.bool z'.carry) (.int .u8 z'.a) (.int .u8 z'.b) (.int .u8 z'.c) (.int .u8 z'.d) (.int .u8 z'.e))
          have B5 := Lib.hid (set12 B4.out ab LR.out (.int .u8 z'.s) (.int .u8 z'.m) (.int .u8 z'.h) (.int .i64 z'.day) (.int .i64 z'.sub) (.bool z'.halt) (.bool z'.carry) (.int .u8 z'.a) (.int .u8 z'.b) (.int .u8 z'.c) (.int .u8 z'.d) (.int .u8 z'.e))
          obtain ⟨hc, hf⟩ := R4.out.out
          go_wp2
          go_roundg (gk - 1)
          exact ⟨k + 1, sm', z', by omega, by have := TG.out; omega, by simp, rfl, SM'.out, HZ'.out, B5.out, P5.out, R5.out⟩
          case measure => have := TG.out; omega
        · have et : k = n2 := by omega
          subst et
          have TC := Lib.hid (fun W => tick_c m z sm OK.out.1 HZ.out.symm W)
          have zs : z.sub < 1048576 := by rw [HZ.out]; exact tick_sub OK.out.2 _
          have heq := eq_held z.a z.b z.c z.d z.e
          have B0 := Lib.hid TB.out.drew
          have P0 := Lib.hid TP.out.drew
          have R0 := Lib.hid TR.out.drew
          clear TB TP TR
          go_upto_region 18 with (fail)
          refine wp_region_held_drew (S := (fun w' => (∀ o, w'.cell? ⟨pb, o, none⟩ = #[.int .u8 m.s, .int .u8 m.m, .int .u8 m.h, .int .i64 m.day, .int .i64 m.sub, .bool m.halt, .bool m.carry, .int .u8 m.a, .int .u8 m.b, .int .u8 m.c, .int .u8 m.d, .int .u8 m.e][o]?) ∧ (∀ o, w'.cell? ⟨ab, o, none⟩ = #[.int .u8 z.s, .int .u8 z.m, .int .u8 z.h, .int .i64 z.day, .int .i64 z.sub, .bool z.halt, .bool z.carry, .int .u8 z.a, .int .u8 z.b, .int .u8 z.c, .int .u8 z.d, .int .u8 z.e][o]?))) (by kernel_rfl) ⟨P0.out.2.1, R0.out.2.1⟩ (fun hHeld => ?_)
          generalize World.drew wr = u0 at hHeld B0 P0 R0 ⊢
          refine wpAnyH_take (i := 0) (oi := { dst := some 56, op := Go.Op.load 26 (Go.Operand.tmp 7), type := 26, pos := "law.go:89", after := #[], guard := none }) (v := ?v8) rfl (by kernel_rfl) (by kernel_rfl) (by kernel_rfl) (fun _ _ _ h => h) (Or.inl ⟨by rfl, ?y8⟩) (by assumption) ?z8
          case y8 => (intro w hSw; (try dsimp only at hSw); go_simp) <;> with_reducible rfl
          try simp only [Act.put, List.setIfInBounds_toArray, List.set_cons_zero, List.set_cons_succ]
          refine wpAnyH_take (i := 1) (oi := { dst := some 57, op := Go.Op.load 26 (Go.Operand.tmp 5), type := 26, pos := "law.go:89", after := #[], guard := none }) (v := ?v9) rfl (by kernel_rfl) (by kernel_rfl) (by kernel_rfl) (fun _ _ _ h => h) (Or.inl ⟨by rfl, ?y9⟩) (by assumption) ?z9
          case y9 => (intro w hSw; (try dsimp only at hSw); go_simp) <;> with_reducible rfl
          try simp only [Act.put, List.setIfInBounds_toArray, List.set_cons_zero, List.set_cons_succ]
          refine wpAnyH_take (i := 2) (oi := { dst := some 58, op := Go.Op.move (Go.Operand.tmp 8), type := 3, pos := "law.go:89", after := #[], guard := none }) (v := ?v10) rfl (by kernel_rfl) (by kernel_rfl) (by kernel_rfl) (fun _ _ _ h => h) (Or.inl ⟨by rfl, ?y10⟩) (by assumption) ?z10
          case y10 => (intro w hSw; (try dsimp only at hSw); go_simp) <;> with_reducible rfl
          try simp only [Act.put, List.setIfInBounds_toArray, List.set_cons_zero, List.set_cons_succ]
          refine wpAnyH_ready (rs := [3]) (by kernel_rfl) (by simp) ?_
          refine (AllReadyH.cons (o := { dst := some 59, op := Go.Op.call { callee := Go.Callee.value (Go.Operand.func 14), args := #[Go.Operand.tmp 57, Go.Operand.tmp 58], argTypes := #[26, 3] }, type := 26, pos := "law.go:89", after := #[{ on := 1, ground := Go.Ground.data }, { on := 2, ground := Go.Ground.data }], guard := none }) rfl (fun K hK => ?_) AllReadyH.nil)
          · skip
            go_simp
            with_reducible refine (TC.out _).mono ?_
            rintro q_ u1 ⟨rfl, hb⟩
            have B1 := Lib.hid (vian HN.out B0.out hb)
            have P1 := Lib.hid (P0.out.below hb)
            have R1 := Lib.hid (R0.out.below hb)
            clear hb B0 P0 R0
            refine hK.out _ _ ?s11 (fun hNew => ?r11)
            case s11 => exact ⟨P1.out.2.1, R1.out.2.1⟩
            clear hK K hHeld
            have hHeld := hNew
            clear hNew
            refine wpAnyH_take (i := 4) (oi := { dst := some 60, op := Go.Op.binOp Go.BinOp.eql 26 (Go.Operand.tmp 56) (Go.Operand.tmp 59) 26, type := 4, pos := "law.go:89", after := #[{ on := 0, ground := Go.Ground.data }, { on := 3, ground := Go.Ground.data }], guard := none }) (v := ?v12) rfl (by kernel_rfl) (by kernel_rfl) (by kernel_rfl) (fun _ _ _ h => h) (Or.inl ⟨by rfl, ?y12⟩) (by assumption) ?z12
            case y12 => (intro w hSw; (try dsimp only at hSw); go_simp) <;> with_reducible rfl
            try simp only [Act.put, List.setIfInBounds_toArray, List.set_cons_zero, List.set_cons_succ]
            refine wpAnyH_take (i := 5) (oi := { dst := some 61, op := Go.Op.move (Go.Operand.tmp 60), type := 4, pos := "law.go:89", after := #[{ on := 4, ground := Go.Ground.data }, { on := 3, ground := Go.Ground.chain }], guard := none }) (v := ?v13) rfl (by kernel_rfl) (by kernel_rfl) (by kernel_rfl) (fun _ _ _ h => h) (Or.inl ⟨by rfl, ?y13⟩) (by assumption) ?z13
            case y13 => (intro w hSw; (try dsimp only at hSw); go_simp) <;> with_reducible rfl
            try simp only [Act.put, List.setIfInBounds_toArray, List.set_cons_zero, List.set_cons_succ]
            refine wpAnyH_take (i := 6) (oi := { dst := some 62, op := Go.Op.fieldAddr 26 (Go.Operand.tmp 7) 4, type := 0, pos := "law.go:89", after := #[{ on := 5, ground := Go.Ground.guard }], guard := some (5, true) }) (v := ?v14) rfl (by kernel_rfl) (by kernel_rfl) (by kernel_rfl) (fun _ _ _ h => h) (Or.inl ⟨by rfl, ?y14⟩) (by assumption) ?z14
            case y14 => (intro w hSw; (try dsimp only at hSw); go_simp) <;> with_reducible rfl
            try simp only [Act.put, List.setIfInBounds_toArray, List.set_cons_zero, List.set_cons_succ]
            refine wpAnyH_take (i := 7) (oi := { dst := some 63, op := Go.Op.load 3 (Go.Operand.tmp 62), type := 3, pos := "law.go:89", after := #[{ on := 6, ground := Go.Ground.data }, { on := 5, ground := Go.Ground.guard }], guard := some (5, true) }) (v := ?v15) rfl (by kernel_rfl) (by kernel_rfl) (by kernel_rfl) (fun _ _ _ h => h) (Or.inl ⟨by rfl, ?y15⟩) (by assumption) ?z15
            case y15 => (intro w hSw; (try dsimp only at hSw); go_simp) <;> with_reducible rfl
            try simp only [Act.put, List.setIfInBounds_toArray, List.set_cons_zero, List.set_cons_succ]
            refine wpAnyH_take (i := 8) (oi := { dst := some 64, op := Go.Op.binOp Go.BinOp.lss 3 (Go.Operand.tmp 63) (Go.Operand.const (Go.Value.int Go.IntKind.i64 1048576)) 3, type := 4, pos := "law.go:89", after := #[{ on := 7, ground := Go.Ground.data }, { on := 5, ground := Go.Ground.guard }], guard := some (5, true) }) (v := ?v16) rfl (by kernel_rfl) (by kernel_rfl) (by kernel_rfl) (fun _ _ _ h => h) (Or.inl ⟨by rfl, ?y16⟩) (by assumption) ?z16
            case y16 => (intro w hSw; (try dsimp only at hSw); go_simp) <;> with_reducible rfl
            try simp only [Act.put, List.setIfInBounds_toArray, List.set_cons_zero, List.set_cons_succ]
            refine wpAnyH_take (i := 9) (oi := { dst := some 65, op := Go.Op.pick (Go.Operand.tmp 61) (Go.Operand.tmp 64) (Go.Operand.const (Go.Value.bool false)), type := 4, pos := "law.go:89", after := #[{ on := 5, ground := Go.Ground.data }, { on := 8, ground := Go.Ground.data }], guard := none }) (v := ?v17) rfl (by kernel_rfl) (by kernel_rfl) (by kernel_rfl) (fun _ _ _ h => h) (Or.inl ⟨by rfl, ?y17⟩) (by assumption) ?z17
            case y17 => (intro w hSw; (try dsimp only at hSw); go_simp) <;> with_reducible rfl
            try simp only [Act.put, List.setIfInBounds_toArray, List.set_cons_zero, List.set_cons_succ]
            refine wpAnyH_take (i := 10) (oi := { dst := some 4, op := Go.Op.assign (Go.Operand.tmp 65), type := 4, pos := "law.go:89", after := #[{ on := 9, ground := Go.Ground.data }, { on := 5, ground := Go.Ground.chain }, { on := 0, ground := Go.Ground.phase }, { on := 1, ground := Go.Ground.phase }, { on := 2, ground := Go.Ground.phase }, { on := 3, ground := Go.Ground.phase }, { on := 4, ground := Go.Ground.phase }, { on := 5, ground := Go.Ground.phase }, { on := 6, ground := Go.Ground.phase }, { on := 7, ground := Go.Ground.phase }, { on := 8, ground := Go.Ground.phase }, { on := 9, ground := Go.Ground.phase }], guard := none }) (v := ?v18) rfl (by kernel_rfl) (by kernel_rfl) (by kernel_rfl) (fun _ _ _ h => h) (Or.inl ⟨by rfl, ?y18⟩) (by assumption) ?z18
            case y18 => (intro w hSw; (try dsimp only at hSw); go_simp) <;> with_reducible rfl
            try simp only [Act.put, List.setIfInBounds_toArray, List.set_cons_zero, List.set_cons_succ]
            refine wpAnyH_done (by kernel_rfl) ?_ _
            clear hHeld
            go_wp2
            go_ret
            exact ⟨rfl, B1.out⟩
theorem parts_walk (v v2 : Value) (w : World) (h : OpsIn w v) (h2 : NusIn w v2) : Calls Try.prog 5 #[v, v2] w fun e w' => e = .returned (.bool true) ∧ Below w.heap.size w w' := by
  obtain ⟨a, n, c, rfl, hm, f, g, h, hh, hi⟩ := h
  obtain ⟨a2, n2, c2, rfl, hm2, f2, hf2, hi2⟩ := h2
  by_cases h0 : 60 < n
  · exact parts_l1 a2 n2 c2 a n c h0 w
  by_cases h1 : 20 < n2
  · exact parts_l2 a2 n2 c2 h1 a n c h0 w
  · exact parts_some a2 n2 c2 h1 f2 hf2 a n c h0 f g h hh w hi hi2
end Go.Proofs.Ytkpjoongbckhcaa
