/-
  The walk through ClockStands: for every world in which the calls lie as told; no other condition.
-/
import Derived.Test.YtkpjoongbckhcaaOpn
import Derived.Deep.Cut
import Derived.Deep.LoopGhost
import Derived.Laws.StructEq
import Derived.Laws.Tables
import Derived.Laws.Cover2
namespace Go.Proofs.Ytkpjoongbckhcaa
open Go.ChangeShapes Go.WideShapes Go.ChangeAt Go.RowKit
set_option linter.unusedVariables false
set_option linter.unusedSimpArgs false
set_option maxRecDepth 100000
theorem wr4 (c : CV) (x : Int) (h0 : 0 ≤ c.day) (h1 : c.day < 512) : wrV c 4 x = { c with day := x % 2 * 256 + c.day % 256, halt := x / 64 % 2 == 1, carry := x / 128 == 1 } := by
  unfold wrV; rw [if_neg (by decide), if_neg (by decide), if_neg (by decide), if_neg (by decide), if_pos rfl]
theorem stand_facts (m : CV) (hm : m.ok) (x1 : Int) (hx : m.day / 256 = x1) (m1 s : CV) (h1 : wrV m 4 x1 = m1) (h2 : wrV m1 4 (x1 + 64) = s) :
    m1.day = m.day ∧ s.day = m.day ∧ m1.ok ∧ s.ok ∧ wrV s 4 x1 = m1 ∧ ∀ n, tickV s n = s := by
  have hd := hm.2.2.2.1
  have x0 : 0 ≤ x1 ∧ x1 < 2 := by omega
  have okm1 : m1.ok := h1 ▸ wr_ok hm 4 x1 (by omega)
  have oks : s.ok := h2 ▸ wr_ok okm1 4 (x1 + 64) (by omega)
  rw [wr4 m x1 hd.1 hd.2] at h1
  have e1 : x1 % 2 * 256 + m.day % 256 = m.day := by omega
  have e2 : (x1 / 64 % 2 == 1) = false := by rw [beq_eq_false_iff_ne]; omega
  have e3 : (x1 / 128 == 1) = false := by rw [beq_eq_false_iff_ne]; omega
  rw [e1, e2, e3] at h1
  have d1 : m1.day = m.day := by rw [← h1]
  rw [wr4 m1 (x1 + 64) (by omega) (by omega), d1] at h2
  have f1 : (x1 + 64) % 2 * 256 + m.day % 256 = m.day := by omega
  have f2 : ((x1 + 64) / 64 % 2 == 1) = true := by rw [beq_iff_eq]; omega
  have f3 : ((x1 + 64) / 128 == 1) = false := by rw [beq_eq_false_iff_ne]; omega
  rw [f1, f2, f3] at h2
  have d2 : s.day = m.day := by rw [← h2]
  refine ⟨d1, d2, okm1, oks, ?_, fun n => ?_⟩
  · rw [wr4 s x1 (by omega) (by omega), d2, e1, e2, e3, ← h2, ← h1]
  · unfold tickV; rw [if_pos (by rw [← h2])]
theorem or64_ (x : Int) (h0 : 0 ≤ x) (h1 : x < 2) : bits .or .u8 x 64 = x + 64 := by
  rcases (by omega : x = 0 ∨ x = 1) with rfl | rfl <;> decide +kernel
set_option maxHeartbeats 2000000 in
theorem stands_long (p q : Int) (a : Option Addr) (n c : Nat) (h0 : 60 < n) (w : World) : Calls Try.prog 8 #[.slice a n c, .int .u32 p, .int .u32 q] w fun q_ w' => q_ = .returned (.bool true) ∧ Below w.heap.size w w' := by
  suffices hall : ∀ (n_ : Nat) (W0 : World), n_ ≤ W0.heap.size → Below n_ W0 w → Calls Try.prog 8 #[.slice a n c, .int .u32 p, .int .u32 q] w fun q_ w' => q_ = .returned (.bool true) ∧ Below n_ W0 w' from hall _ _ (Nat.le_refl _) (Below.refl _ _)
  intro n_ W0 hn hB
  have HN := Lib.hid hn
  have BB := Lib.hid hB
  clear hn hB
  have AW := Lib.hid awake_c
  have h0I : (60 : Int) < n := by omega
  have hnot : ∀ (x : Bool) (w : World), (Op.unary .not (.bool x)).run Try.prog w = .ok (.bool (!x)) w := fun _ _ => rfl
  go_enter Try.func8, Try.ntmps8
  go_wp2_with fail
  with_reducible refine (AW.out _).mono ?_
  rintro q_ w1 ⟨rfl, hb⟩
  have B1 := Lib.hid (vian HN.out BB.out hb)
  clear hb
  go_wp2_with fail
  with_reducible refine (AW.out _).mono ?_
  rintro q_ w2 ⟨rfl, hb⟩
  have B2 := Lib.hid (vian HN.out B1.out hb)
  clear hb
  go_wp2
  go_ret
  exact ⟨rfl, B2.out⟩
set_option maxHeartbeats 8000000 in
theorem stands_some (p q : Int) (p0 : 0 ≤ p) (p1 : p < 4294967296) (q0 : 0 ≤ q) (q1 : q < 4294967296) (a : Option Addr) (n c : Nat) (h0 : ¬ 60 < n) (f g h : Nat → Int) (hh : ∀ i, 0 ≤ h i ∧ h i < 256) (w : World) (hmem : (0 < n → ∃ qb qo, a = some ⟨qb, qo, none⟩ ∧ qb < w.heap.size ∧ ∀ j, j < n → w.cell? ⟨qb, qo + j * 3, none⟩ = some (.int .i64 (f j)) ∧ w.cell? ⟨qb, qo + j * 3 + 1, none⟩ = some (.int .i64 (g j)) ∧ w.cell? ⟨qb, qo + j * 3 + 2, none⟩ = some (.int .u8 (h j)))) : Calls Try.prog 8 #[.slice a n c, .int .u32 p, .int .u32 q] w fun q_ w' => q_ = .returned (.bool true) ∧ Below w.heap.size w w' := by
  suffices hall : ∀ (n_ : Nat) (W0 : World), n_ ≤ W0.heap.size → Below n_ W0 w → (0 < n → ∃ qb qo, a = some ⟨qb, qo, none⟩ ∧ qb < n_ ∧ ∀ j, j < n → W0.cell? ⟨qb, qo + j * 3, none⟩ = some (.int .i64 (f j)) ∧ W0.cell? ⟨qb, qo + j * 3 + 1, none⟩ = some (.int .i64 (g j)) ∧ W0.cell? ⟨qb, qo + j * 3 + 2, none⟩ = some (.int .u8 (h j))) → Calls Try.prog 8 #[.slice a n c, .int .u32 p, .int .u32 q] w fun q_ w' => q_ = .returned (.bool true) ∧ Below n_ W0 w' from hall _ _ (Nat.le_refl _) (Below.refl _ _) hmem
  intro n_ W0 hn hB hI
  have HN := Lib.hid hn
  have BB := Lib.hid hB
  have HIN := Lib.hid hI
  have HH := Lib.hid hh
  clear hn hB hI hmem hh
  have h0I : ¬ (60 : Int) < n := by omega
  have AW := Lib.hid awake_c
  have hnot : ∀ (x : Bool) (w : World), (Op.unary .not (.bool x)).run Try.prog w = .ok (.bool (!x)) w := fun _ _ => rfl
  go_enter Try.func8, Try.ntmps8
  go_wp2_with fail
  with_reducible refine (AW.out _).mono ?_
  rintro q_ w1 ⟨rfl, hb⟩
  have B1 := Lib.hid (vian HN.out BB.out hb)
  clear hb
  have Q_ := own1 w1 (.cells #[.int .u8 0, .int .u8 0, .int .u8 0, .int .i64 0, .int .i64 0, .bool false, .bool false, .int .u8 0, .int .u8 0, .int .u8 0, .int .u8 0, .int .u8 0] 26)
  have B2 := Lib.hid (vian HN.out B1.out Q_)
  have P2 := Lib.hid (Has.new w1 #[.int .u8 0, .int .u8 0, .int .u8 0, .int .i64 0, .int .i64 0, .bool false, .bool false, .int .u8 0, .int .u8 0, .int .u8 0, .int .u8 0, .int .u8 0] 26)
  have LP := Lib.hid (show n_ ≤ w1.heap.size from Nat.le_trans HN.out B1.out.size)
  clear Q_
  go_upto_region 4 with (fail)
  generalize w1.alloc (.cells #[.int .u8 0, .int .u8 0, .int .u8 0, .int .i64 0, .int .i64 0, .bool false, .bool false, .int .u8 0, .int .u8 0, .int .u8 0, .int .u8 0, .int .u8 0] 26) = w2 at B2 P2 ⊢
  generalize w1.heap.size = pb at P2 LP ⊢
  go_wp2
  go_loopg [23] n (fun g' i wr => ∃ (t : Nat) (m : CV), t ≤ n ∧ g' + t = n ∧ i = .int .i64 t ∧ (m.ok) ∧ Below n_ W0 wr ∧ Has wr pb #[.int .u8 m.s, .int .u8 m.m, .int .u8 m.h, .int .i64 m.day, .int .i64 m.sub, .bool m.halt, .bool m.carry, .int .u8 m.a, .int .u8 m.b, .int .u8 m.c, .int .u8 m.d, .int .u8 m.e])
  case atStart => exact ⟨0, zeroV, by omega, by omega, rfl, zero_ok, B2.out, P2.out⟩
  case round =>
    obtain ⟨t, m, ht, hg, rfl, hok, hB, hP⟩ := hrel
    have TG := Lib.hid hg
    have OK := Lib.hid hok
    have B0 := Lib.hid hB.drew
    have P0 := Lib.hid hP.drew
    have TB := Lib.hid hB
    have TP := Lib.hid hP
    clear hg hok hB hP B2 P2
    by_cases hlt : t < n
    · clear TB TP
      have l1 : (t : Int) < n := by omega
      have l0 : (0 : Int) ≤ t := by omega
      obtain ⟨qb, qo, rfl, hqb, hcells⟩ := HIN.out (by omega)
      have QQ := Lib.hid hqb
      have E0 := Lib.hid (hcells t hlt).1
      have E1 := Lib.hid (hcells t hlt).2.1
      have E2 := Lib.hid (hcells t hlt).2.2
      have xb := HH.out t
      generalize f t = kk at E0
      generalize g t = nn at E1
      generalize h t = xx at E2 xb
      clear hcells hqb
      obtain ⟨m', hm'⟩ : ∃ q_, doV m kk nn xx = q_ := ⟨_, rfl⟩
      have DC := Lib.hid (fun W => do_c m m' kk nn xx OK.out xb.1 xb.2 hm' W)
      have OK' := Lib.hid (show m'.ok from hm' ▸ do_ok OK.out _ _ _ xb)
      clear hm'
      go_upto_region 7 with (fail)
      refine wp_region_held_drew (S := (fun w' => (w'.cell? ⟨qb, qo + t * 3, none⟩ = some (.int .i64 kk)) ∧ (w'.cell? ⟨qb, qo + t * 3 + 1, none⟩ = some (.int .i64 nn)) ∧ (w'.cell? ⟨qb, qo + t * 3 + 2, none⟩ = some (.int .u8 xx)))) (by kernel_rfl) ⟨(B0.out.cell (p := ⟨qb, qo + t * 3, none⟩) QQ.out).trans E0.out, (B0.out.cell (p := ⟨qb, qo + t * 3 + 1, none⟩) QQ.out).trans E1.out, (B0.out.cell (p := ⟨qb, qo + t * 3 + 2, none⟩) QQ.out).trans E2.out⟩ (fun hHeld => ?_)
      generalize World.drew wr = u0 at hHeld B0 P0 ⊢
      refine wpAnyH_take (i := 1) (oi := { dst := some 27, op := Go.Op.move (Go.Operand.tmp 0), type := 22, pos := "law.go:135", after := #[], guard := none }) (v := ?v1) rfl (by kernel_rfl) (by kernel_rfl) (by kernel_rfl) (fun _ _ _ h => h) (Or.inl ⟨by rfl, ?y1⟩) (by assumption) ?z1
      case y1 => (intro w hSw; (try dsimp only at hSw); go_simp) <;> with_reducible rfl
      try simp only [Act.put, List.setIfInBounds_toArray, List.set_cons_zero, List.set_cons_succ]
      refine wpAnyH_take (i := 2) (oi := { dst := some 28, op := Go.Op.move (Go.Operand.tmp 8), type := 3, pos := "law.go:135", after := #[], guard := none }) (v := ?v2) rfl (by kernel_rfl) (by kernel_rfl) (by kernel_rfl) (fun _ _ _ h => h) (Or.inl ⟨by rfl, ?y2⟩) (by assumption) ?z2
      case y2 => (intro w hSw; (try dsimp only at hSw); go_simp) <;> with_reducible rfl
      try simp only [Act.put, List.setIfInBounds_toArray, List.set_cons_zero, List.set_cons_succ]
      refine wpAnyH_take (i := 3) (oi := { dst := some 29, op := Go.Op.indexAddr 22 (Go.Operand.tmp 27) (Go.Operand.tmp 28), type := 0, pos := "law.go:135", after := #[{ on := 1, ground := Go.Ground.data }, { on := 2, ground := Go.Ground.data }], guard := none }) (v := ?v3) rfl (by kernel_rfl) (by kernel_rfl) (by kernel_rfl) (fun _ _ _ h => h) (Or.inl ⟨by rfl, ?y3⟩) (by assumption) ?z3
      case y3 => (intro w hSw; (try dsimp only at hSw); go_simp) <;> with_reducible rfl
      try simp only [Act.put, List.setIfInBounds_toArray, List.set_cons_zero, List.set_cons_succ]
      refine wpAnyH_take (i := 4) (oi := { dst := some 30, op := Go.Op.load 30 (Go.Operand.tmp 29), type := 30, pos := "law.go:135", after := #[{ on := 3, ground := Go.Ground.data }], guard := none }) (v := ?v4) rfl (by kernel_rfl) (by kernel_rfl) (by kernel_rfl) (fun _ _ _ h => h) (Or.inl ⟨by rfl, ?y4⟩) (by assumption) ?z4
      case y4 => (intro w hSw; (try dsimp only at hSw); go_simp) <;> with_reducible rfl
      try simp only [Act.put, List.setIfInBounds_toArray, List.set_cons_zero, List.set_cons_succ]
      refine wpAnyH_ready (rs := [0]) (by kernel_rfl) (by simp) ?_
      refine (AllReadyH.cons (o := { dst := some 26, op := Go.Op.load 26 (Go.Operand.tmp 7), type := 26, pos := "law.go:135", after := #[], guard := none }) rfl (fun K hK => ?_) AllReadyH.nil)
      · skip
        obtain ⟨hc, hfz⟩ := P0.out.out
        go_simp
        clear hc hfz
        refine hK.out _ _ ?s5 (fun hNew => ?r5)
        case s5 => exact ⟨(B0.out.cell (p := ⟨qb, qo + t * 3, none⟩) QQ.out).trans E0.out, (B0.out.cell (p := ⟨qb, qo + t * 3 + 1, none⟩) QQ.out).trans E1.out, (B0.out.cell (p := ⟨qb, qo + t * 3 + 2, none⟩) QQ.out).trans E2.out⟩
        clear hK K hHeld
        have hHeld := hNew
        clear hNew
        refine wpAnyH_ready (rs := [5]) (by kernel_rfl) (by simp) ?_
        refine (AllReadyH.cons (o := { dst := some 31, op := Go.Op.call { callee := Go.Callee.value (Go.Operand.func 10), args := #[Go.Operand.tmp 26, Go.Operand.tmp 30], argTypes := #[26, 30] }, type := 26, pos := "law.go:135", after := #[{ on := 0, ground := Go.Ground.data }, { on := 4, ground := Go.Ground.data }], guard := none }) rfl (fun K hK => ?_) AllReadyH.nil)
        · skip
          go_simp
          with_reducible refine (DC.out _).mono ?_
          rintro q_ u1 ⟨rfl, hb⟩
          have B1 := Lib.hid (vian HN.out B0.out hb)
          have P1 := Lib.hid (P0.out.below hb)
          clear hb B0 P0
          refine hK.out _ _ ?s6 (fun hNew => ?r6)
          case s6 => exact ⟨(B1.out.cell (p := ⟨qb, qo + t * 3, none⟩) QQ.out).trans E0.out, (B1.out.cell (p := ⟨qb, qo + t * 3 + 1, none⟩) QQ.out).trans E1.out, (B1.out.cell (p := ⟨qb, qo + t * 3 + 2, none⟩) QQ.out).trans E2.out⟩
          clear hK K hHeld
          have hHeld := hNew
          clear hNew
          refine wpAnyH_ready (rs := [6]) (by kernel_rfl) (by simp) ?_
          refine (AllReadyH.cons (o := { dst := none, op := Go.Op.store 26 (Go.Operand.tmp 7) (Go.Operand.tmp 31), type := 0, pos := "law.go:135", after := #[{ on := 5, ground := Go.Ground.data }, { on := 5, ground := Go.Ground.chain }, { on := 0, ground := Go.Ground.phase }, { on := 1, ground := Go.Ground.phase }, { on := 2, ground := Go.Ground.phase }, { on := 3, ground := Go.Ground.phase }, { on := 4, ground := Go.Ground.phase }, { on := 5, ground := Go.Ground.phase }], guard := none }) rfl (fun K hK => ?_) AllReadyH.nil)
          · skip
            obtain ⟨hc, hfz⟩ := P1.out.out
            go_simp
            clear hc hfz
            have P2 := Lib.hid (P1.out.put12 (.int .u8 m'.s) (.int .u8 m'.m) (.int .u8 m'.h) (.int .i64 m'.day) (.int .i64 m'.sub) (.bool m'.halt) (.bool m'.carry) (.int .u8 m'.a) (.int .u8 m'.b) (.int .u8 m'.c) (.int .u8 m'.d) (.int .u8 m'.e))
            have B2 := Lib.hid (set12 B1.out pb LP.out (.int .u8 m'.s) (.int .u8 m'.m) (.int .u8 m'.h) (.int .i64 m'.day) (.int .i64 m'.sub) (.bool m'.halt) (.bool m'.carry) (.int .u8 m'.a) (.int .u8 m'.b) (.int .u8 m'.c) (.int .u8 m'.d) (.int .u8 m'.e))
            clear B1 P1
            refine hK.out _ _ ?s7 (fun hNew => ?r7)
            case s7 => exact ⟨(B2.out.cell (p := ⟨qb, qo + t * 3, none⟩) QQ.out).trans E0.out, (B2.out.cell (p := ⟨qb, qo + t * 3 + 1, none⟩) QQ.out).trans E1.out, (B2.out.cell (p := ⟨qb, qo + t * 3 + 2, none⟩) QQ.out).trans E2.out⟩
            clear hK K hHeld
            have hHeld := hNew
            clear hNew
            generalize (World.setCell (World.setCell (World.setCell (World.setCell (World.setCell (World.setCell (World.setCell (World.setCell (World.setCell (World.setCell (World.setCell (World.setCell u1 ⟨pb, 0, none⟩ (.int .u8 m'.s)) ⟨pb, 1, none⟩ (.int .u8 m'.m)) ⟨pb, 2, none⟩ (.int .u8 m'.h)) ⟨pb, 3, none⟩ (.int .i64 m'.day)) ⟨pb, 4, none⟩ (.int .i64 m'.sub)) ⟨pb, 5, none⟩ (.bool m'.halt)) ⟨pb, 6, none⟩ (.bool m'.carry)) ⟨pb, 7, none⟩ (.int .u8 m'.a)) ⟨pb, 8, none⟩ (.int .u8 m'.b)) ⟨pb, 9, none⟩ (.int .u8 m'.c)) ⟨pb, 10, none⟩ (.int .u8 m'.d)) ⟨pb, 11, none⟩ (.int .u8 m'.e)) = u2 at hHeld B2 P2 ⊢
            refine wpAnyH_done (by kernel_rfl) ?_ _
            clear hHeld
            go_wp2
            go_roundg (gk - 1)
            exact ⟨t + 1, m', by omega, by have := TG.out; omega, by simp, OK'.out, B2.out, P2.out⟩
            case measure => have := TG.out; omega
    · have et : t = n := by omega
      subst et
      clear B0 P0 TG HIN HH AW
      obtain ⟨x1, hx1⟩ : ∃ q_, m.day / 256 = q_ := ⟨_, rfl⟩
      have hd0 : 0 ≤ m.day := OK.out.2.2.2.1.1
      have hd1 : m.day < 512 := OK.out.2.2.2.1.2
      have x10 : 0 ≤ x1 := by omega
      have x11 : x1 < 2 := by omega
      obtain ⟨m1, hm1⟩ : ∃ q_, wrV m 4 x1 = q_ := ⟨_, rfl⟩
      obtain ⟨s, hs⟩ : ∃ q_, wrV m1 4 (x1 + 64) = q_ := ⟨_, rfl⟩
      obtain ⟨f1, f2, f3, f4, f5, f6⟩ := stand_facts m OK.out x1 hx1 m1 s hm1 hs
      obtain ⟨nn, hnn⟩ : ∃ q_, q % 31457280 = q_ := ⟨_, rfl⟩
      have nn0 : 0 ≤ nn := by omega
      have nn1 : nn < 31457280 := by omega
      obtain ⟨z, hz⟩ : ∃ q_, tickV m1 nn = q_ := ⟨_, rfl⟩
      have C1 := Lib.hid (fun W => write_c m m1 4 x1 OK.out x10 (by omega) hm1 W)
      have C2 := Lib.hid (fun W => write_c m1 s 4 (x1 + 64) f3 (by omega) (by omega) hs W)
      have C3 := Lib.hid (fun W => tick_c s s p f4 (f6 p) W)
      have C4 := Lib.hid (fun W => write_c s m1 4 x1 f4 x10 (by omega) f5 W)
      have C5 := Lib.hid (fun W => tick_c m1 z nn f3 hz W)
      have o64 := or64_ x1 x10 x11
      have F1 := Lib.hid f1
      have F2 := Lib.hid f2
      clear hm1 hs f1 f2 f3 f4 f5 f6 hz
      obtain ⟨hc, hf⟩ := TP.out.out
      have B0 := TB
      have P0 := TP
      clear TB TP
      go_wp2_with fail
      with_reducible refine (C1.out _).mono ?_
      rintro q_ w1 ⟨rfl, hb⟩
      have B1 := Lib.hid (vian HN.out B0.out hb)
      have P1 := Lib.hid (P0.out.below hb)
      clear hb hc hf
      have hx2 : m1.day / 256 = x1 := by rw [F1.out]; exact hx1
      have hx3 : s.day / 256 = x1 := by rw [F2.out]; exact hx1
      have md0 : 0 ≤ m1.day := by have := F1.out; omega
      have md1 : m1.day < 512 := by have := F1.out; omega
      have sd0 : 0 ≤ s.day := by have := F2.out; omega
      have sd1 : s.day < 512 := by have := F2.out; omega
      obtain ⟨hc, hf⟩ := P1.out.out
      have P2 := Lib.hid (P1.out.put12 (.int .u8 m1.s) (.int .u8 m1.m) (.int .u8 m1.h) (.int .i64 m1.day) (.int .i64 m1.sub) (.bool m1.halt) (.bool m1.carry) (.int .u8 m1.a) (.int .u8 m1.b) (.int .u8 m1.c) (.int .u8 m1.d) (.int .u8 m1.e))
      have B2 := Lib.hid (set12 B1.out pb LP.out (.int .u8 m1.s) (.int .u8 m1.m) (.int .u8 m1.h) (.int .i64 m1.day) (.int .i64 m1.sub) (.bool m1.halt) (.bool m1.carry) (.int .u8 m1.a) (.int .u8 m1.b) (.int .u8 m1.c) (.int .u8 m1.d) (.int .u8 m1.e))
      go_wp2_with fail
      generalize (World.setCell (World.setCell (World.setCell (World.setCell (World.setCell (World.setCell (World.setCell (World.setCell (World.setCell (World.setCell (World.setCell (World.setCell w1 ⟨pb, 0, none⟩ (.int .u8 m1.s)) ⟨pb, 1, none⟩ (.int .u8 m1.m)) ⟨pb, 2, none⟩ (.int .u8 m1.h)) ⟨pb, 3, none⟩ (.int .i64 m1.day)) ⟨pb, 4, none⟩ (.int .i64 m1.sub)) ⟨pb, 5, none⟩ (.bool m1.halt)) ⟨pb, 6, none⟩ (.bool m1.carry)) ⟨pb, 7, none⟩ (.int .u8 m1.a)) ⟨pb, 8, none⟩ (.int .u8 m1.b)) ⟨pb, 9, none⟩ (.int .u8 m1.c)) ⟨pb, 10, none⟩ (.int .u8 m1.d)) ⟨pb, 11, none⟩ (.int .u8 m1.e)) = w2 at B2 P2 ⊢
      with_reducible refine (C2.out _).mono ?_
      rintro q_ w3 ⟨rfl, hb⟩
      have B3 := Lib.hid (vian HN.out B2.out hb)
      have P3 := Lib.hid (P2.out.below hb)
      clear hb hc hf
      have Q_ := own1 w3 (.cells #[.int .u8 s.s, .int .u8 s.m, .int .u8 s.h, .int .i64 s.day, .int .i64 s.sub, .bool s.halt, .bool s.carry, .int .u8 s.a, .int .u8 s.b, .int .u8 s.c, .int .u8 s.d, .int .u8 s.e] 26)
      have B4 := Lib.hid (vian HN.out B3.out Q_)
      have P4 := Lib.hid (P3.out.below Q_)
      have S4 := Lib.hid (Has.new w3 #[.int .u8 s.s, .int .u8 s.m, .int .u8 s.h, .int .i64 s.day, .int .i64 s.sub, .bool s.halt, .bool s.carry, .int .u8 s.a, .int .u8 s.b, .int .u8 s.c, .int .u8 s.d, .int .u8 s.e] 26)
      clear Q_
      go_upto_region 11 with (fail)
      generalize w3.alloc (.cells #[.int .u8 s.s, .int .u8 s.m, .int .u8 s.h, .int .i64 s.day, .int .i64 s.sub, .bool s.halt, .bool s.carry, .int .u8 s.a, .int .u8 s.b, .int .u8 s.c, .int .u8 s.d, .int .u8 s.e] 26) = w4 at B4 P4 S4 ⊢
      generalize w3.heap.size = sb at S4 ⊢
      obtain ⟨hc, hf⟩ := S4.out.out
      go_wp2_with fail
      with_reducible refine (C3.out _).mono ?_
      rintro q_ w5 ⟨rfl, hb⟩
      have B5 := Lib.hid (vian HN.out B4.out hb)
      have P5 := Lib.hid (P4.out.below hb)
      have S5 := Lib.hid (S4.out.below hb)
      clear hb hc hf
      have Q_ := own1 w5 (.cells #[.int .u8 s.s, .int .u8 s.m, .int .u8 s.h, .int .i64 s.day, .int .i64 s.sub, .bool s.halt, .bool s.carry, .int .u8 s.a, .int .u8 s.b, .int .u8 s.c, .int .u8 s.d, .int .u8 s.e] 26)
      have B6 := Lib.hid (vian HN.out B5.out Q_)
      have P6 := Lib.hid (P5.out.below Q_)
      have S6 := Lib.hid (S5.out.below Q_)
      have T6 := Lib.hid (Has.new w5 #[.int .u8 s.s, .int .u8 s.m, .int .u8 s.h, .int .i64 s.day, .int .i64 s.sub, .bool s.halt, .bool s.carry, .int .u8 s.a, .int .u8 s.b, .int .u8 s.c, .int .u8 s.d, .int .u8 s.e] 26)
      clear Q_
      go_upto_region 12 with (fail)
      generalize w5.alloc (.cells #[.int .u8 s.s, .int .u8 s.m, .int .u8 s.h, .int .i64 s.day, .int .i64 s.sub, .bool s.halt, .bool s.carry, .int .u8 s.a, .int .u8 s.b, .int .u8 s.c, .int .u8 s.d, .int .u8 s.e] 26) = w6 at B6 P6 S6 T6 ⊢
      generalize w5.heap.size = tb at T6 ⊢
      have B7 := Lib.hid B6.out.drew
      have P7 := Lib.hid P6.out.drew
      have S7 := Lib.hid S6.out.drew
      have T7 := Lib.hid T6.out.drew
      have heq1 := eq_held s.a s.b s.c s.d s.e
      have heq2 := eq_held z.a z.b z.c z.d z.e
      have hw8 : IntKind.u8.wrap x1 = x1 := IntWalk.u8_in x1 ⟨x10, by omega⟩
      go_upto_region 13 with (fail)
      refine wp_region_held_drew (S := (fun w' => (∀ o, w'.cell? ⟨pb, o, none⟩ = #[.int .u8 m1.s, .int .u8 m1.m, .int .u8 m1.h, .int .i64 m1.day, .int .i64 m1.sub, .bool m1.halt, .bool m1.carry, .int .u8 m1.a, .int .u8 m1.b, .int .u8 m1.c, .int .u8 m1.d, .int .u8 m1.e][o]?) ∧ (∀ o, w'.cell? ⟨sb, o, none⟩ = #[.int .u8 s.s, .int .u8 s.m, .int .u8 s.h, .int .i64 s.day, .int .i64 s.sub, .bool s.halt, .bool s.carry, .int .u8 s.a, .int .u8 s.b, .int .u8 s.c, .int .u8 s.d, .int .u8 s.e][o]?) ∧ (∀ o, w'.cell? ⟨tb, o, none⟩ = #[.int .u8 s.s, .int .u8 s.m, .int .u8 s.h, .int .i64 s.day, .int .i64 s.sub, .bool s.halt, .bool s.carry, .int .u8 s.a, .int .u8 s.b, .int .u8 s.c, .int .u8 s.d, .int .u8 s.e][o]?))) (by kernel_rfl) ⟨P7.out.2.1, S7.out.2.1, T7.out.2.1⟩ (fun hHeld => ?_)
      generalize World.drew w6 = w7 at hHeld B7 P7 S7 T7 ⊢
      refine wpAnyH_take (i := 0) (oi := { dst := some 53, op := Go.Op.load 26 (Go.Operand.tmp 10), type := 26, pos := "law.go:141", after := #[], guard := none }) (v := ?v8) rfl (by kernel_rfl) (by kernel_rfl) (by kernel_rfl) (fun _ _ _ h => h) (Or.inl ⟨by rfl, ?y8⟩) (by assumption) ?z8
      case y8 => (intro w hSw; (try dsimp only at hSw); go_simp) <;> with_reducible rfl
      try simp only [Act.put, List.setIfInBounds_toArray, List.set_cons_zero, List.set_cons_succ]
      refine wpAnyH_take (i := 1) (oi := { dst := some 54, op := Go.Op.load 26 (Go.Operand.tmp 9), type := 26, pos := "law.go:141", after := #[], guard := none }) (v := ?v9) rfl (by kernel_rfl) (by kernel_rfl) (by kernel_rfl) (fun _ _ _ h => h) (Or.inl ⟨by rfl, ?y9⟩) (by assumption) ?z9
      case y9 => (intro w hSw; (try dsimp only at hSw); go_simp) <;> with_reducible rfl
      try simp only [Act.put, List.setIfInBounds_toArray, List.set_cons_zero, List.set_cons_succ]
      refine wpAnyH_take (i := 2) (oi := { dst := some 55, op := Go.Op.binOp Go.BinOp.eql 26 (Go.Operand.tmp 53) (Go.Operand.tmp 54) 26, type := 4, pos := "law.go:141", after := #[{ on := 0, ground := Go.Ground.data }, { on := 1, ground := Go.Ground.data }], guard := none }) (v := ?v10) rfl (by kernel_rfl) (by kernel_rfl) (by kernel_rfl) (fun _ _ _ h => h) (Or.inl ⟨by rfl, ?y10⟩) (by assumption) ?z10
      case y10 => (intro w hSw; (try dsimp only at hSw); go_simp) <;> with_reducible rfl
      try simp only [Act.put, List.setIfInBounds_toArray, List.set_cons_zero, List.set_cons_succ]
      refine wpAnyH_take (i := 3) (oi := { dst := some 56, op := Go.Op.move (Go.Operand.tmp 55), type := 4, pos := "law.go:141", after := #[{ on := 2, ground := Go.Ground.data }], guard := none }) (v := ?v11) rfl (by kernel_rfl) (by kernel_rfl) (by kernel_rfl) (fun _ _ _ h => h) (Or.inl ⟨by rfl, ?y11⟩) (by assumption) ?z11
      case y11 => (intro w hSw; (try dsimp only at hSw); go_simp) <;> with_reducible rfl
      try simp only [Act.put, List.setIfInBounds_toArray, List.set_cons_zero, List.set_cons_succ]
      refine wpAnyH_take (i := 4) (oi := { dst := some 57, op := Go.Op.load 26 (Go.Operand.tmp 10), type := 26, pos := "law.go:141", after := #[{ on := 3, ground := Go.Ground.guard }], guard := some (3, true) }) (v := ?v12) rfl (by kernel_rfl) (by kernel_rfl) (by kernel_rfl) (fun _ _ _ h => h) (Or.inl ⟨by rfl, ?y12⟩) (by assumption) ?z12
      case y12 => (intro w hSw; (try dsimp only at hSw); go_simp) <;> with_reducible rfl
      try simp only [Act.put, List.setIfInBounds_toArray, List.set_cons_zero, List.set_cons_succ]
      refine wpAnyH_take (i := 5) (oi := { dst := some 58, op := Go.Op.fieldAddr 26 (Go.Operand.tmp 10) 3, type := 0, pos := "law.go:141", after := #[{ on := 3, ground := Go.Ground.guard }], guard := some (3, true) }) (v := ?v13) rfl (by kernel_rfl) (by kernel_rfl) (by kernel_rfl) (fun _ _ _ h => h) (Or.inl ⟨by rfl, ?y13⟩) (by assumption) ?z13
      case y13 => (intro w hSw; (try dsimp only at hSw); go_simp) <;> with_reducible rfl
      try simp only [Act.put, List.setIfInBounds_toArray, List.set_cons_zero, List.set_cons_succ]
      refine wpAnyH_take (i := 6) (oi := { dst := some 59, op := Go.Op.load 3 (Go.Operand.tmp 58), type := 3, pos := "law.go:141", after := #[{ on := 5, ground := Go.Ground.data }, { on := 3, ground := Go.Ground.guard }], guard := some (3, true) }) (v := ?v14) rfl (by kernel_rfl) (by kernel_rfl) (by kernel_rfl) (fun _ _ _ h => h) (Or.inl ⟨by rfl, ?y14⟩) (by assumption) ?z14
      case y14 => (intro w hSw; (try dsimp only at hSw); go_simp) <;> with_reducible rfl
      try simp only [Act.put, List.setIfInBounds_toArray, List.set_cons_zero, List.set_cons_succ]
      refine wpAnyH_take (i := 7) (oi := { dst := some 60, op := Go.Op.binOp Go.BinOp.shr 3 (Go.Operand.tmp 59) (Go.Operand.const (Go.Value.int Go.IntKind.u64 8)) 44, type := 3, pos := "law.go:141", after := #[{ on := 6, ground := Go.Ground.data }, { on := 3, ground := Go.Ground.guard }], guard := some (3, true) }) (v := ?v15) rfl (by kernel_rfl) (by kernel_rfl) (by kernel_rfl) (fun _ _ _ h => h) (Or.inl ⟨by rfl, ?y15⟩) (by assumption) ?z15
      case y15 => (intro w hSw; (try dsimp only at hSw); go_simp) <;> with_reducible rfl
      try simp only [Act.put, List.setIfInBounds_toArray, List.set_cons_zero, List.set_cons_succ]
      refine wpAnyH_take (i := 8) (oi := { dst := some 61, op := Go.Op.convert 3 5 (Go.Operand.tmp 60), type := 5, pos := "law.go:141", after := #[{ on := 7, ground := Go.Ground.data }, { on := 3, ground := Go.Ground.guard }], guard := some (3, true) }) (v := ?v16) rfl (by kernel_rfl) (by kernel_rfl) (by kernel_rfl) (fun _ _ _ h => h) (Or.inl ⟨by rfl, ?y16⟩) (by assumption) ?z16
      case y16 => (intro w hSw; (try dsimp only at hSw); go_simp) <;> with_reducible rfl
      try simp only [Act.put, List.setIfInBounds_toArray, List.set_cons_zero, List.set_cons_succ]
      refine wpAnyH_take (i := 10) (oi := { dst := some 63, op := Go.Op.move (Go.Operand.tmp 11), type := 3, pos := "law.go:141", after := #[{ on := 3, ground := Go.Ground.guard }], guard := some (3, true) }) (v := ?v17) rfl (by kernel_rfl) (by kernel_rfl) (by kernel_rfl) (fun _ _ _ h => h) (Or.inl ⟨by rfl, ?y17⟩) (by assumption) ?z17
      case y17 => (intro w hSw; (try dsimp only at hSw); go_simp) <;> with_reducible rfl
      try simp only [Act.put, List.setIfInBounds_toArray, List.set_cons_zero, List.set_cons_succ]
      refine wpAnyH_take (i := 12) (oi := { dst := some 65, op := Go.Op.load 26 (Go.Operand.tmp 7), type := 26, pos := "law.go:141", after := #[{ on := 3, ground := Go.Ground.guard }], guard := some (3, true) }) (v := ?v18) rfl (by kernel_rfl) (by kernel_rfl) (by kernel_rfl) (fun _ _ _ h => h) (Or.inl ⟨by rfl, ?y18⟩) (by assumption) ?z18
      case y18 => (intro w hSw; (try dsimp only at hSw); go_simp) <;> with_reducible rfl
      try simp only [Act.put, List.setIfInBounds_toArray, List.set_cons_zero, List.set_cons_succ]
      refine wpAnyH_take (i := 13) (oi := { dst := some 66, op := Go.Op.move (Go.Operand.tmp 11), type := 3, pos := "law.go:141", after := #[{ on := 3, ground := Go.Ground.guard }], guard := some (3, true) }) (v := ?v19) rfl (by kernel_rfl) (by kernel_rfl) (by kernel_rfl) (fun _ _ _ h => h) (Or.inl ⟨by rfl, ?y19⟩) (by assumption) ?z19
      case y19 => (intro w hSw; (try dsimp only at hSw); go_simp) <;> with_reducible rfl
      try simp only [Act.put, List.setIfInBounds_toArray, List.set_cons_zero, List.set_cons_succ]
      refine wpAnyH_ready (rs := [9]) (by kernel_rfl) (by simp) ?_
      refine (AllReadyH.cons (o := { dst := some 62, op := Go.Op.call { callee := Go.Callee.value (Go.Operand.func 15), args := #[Go.Operand.tmp 57, Go.Operand.const (Go.Value.int Go.IntKind.i64 4), Go.Operand.tmp 61], argTypes := #[26, 3, 5] }, type := 26, pos := "law.go:141", after := #[{ on := 4, ground := Go.Ground.data }, { on := 8, ground := Go.Ground.data }, { on := 3, ground := Go.Ground.chain }, { on := 3, ground := Go.Ground.guard }], guard := some (3, true) }) rfl (fun K hK => ?_) AllReadyH.nil)
      · skip
        go_simp
        with_reducible refine (C4.out _).mono ?_
        rintro q_ w8 ⟨rfl, hb⟩
        have B8 := Lib.hid (vian HN.out B7.out hb)
        have P8 := Lib.hid (P7.out.below hb)
        have S8 := Lib.hid (S7.out.below hb)
        have T8 := Lib.hid (T7.out.below hb)
        clear hb
        refine hK.out _ _ ?s20 (fun hNew => ?r20)
        case s20 => exact ⟨P8.out.2.1, S8.out.2.1, T8.out.2.1⟩
        clear hK K hHeld
        have hHeld := hNew
        clear hNew
        refine wpAnyH_ready (rs := [11]) (by kernel_rfl) (by simp) ?_
        refine (AllReadyH.cons (o := { dst := some 64, op := Go.Op.call { callee := Go.Callee.value (Go.Operand.func 14), args := #[Go.Operand.tmp 62, Go.Operand.tmp 63], argTypes := #[26, 3] }, type := 26, pos := "law.go:141", after := #[{ on := 9, ground := Go.Ground.data }, { on := 10, ground := Go.Ground.data }, { on := 9, ground := Go.Ground.chain }, { on := 3, ground := Go.Ground.guard }], guard := some (3, true) }) rfl (fun K hK => ?_) AllReadyH.nil)
        · skip
          go_simp
          with_reducible refine (C5.out _).mono ?_
          rintro q_ w9 ⟨rfl, hb⟩
          have B9 := Lib.hid (vian HN.out B8.out hb)
          have P9 := Lib.hid (P8.out.below hb)
          have S9 := Lib.hid (S8.out.below hb)
          have T9 := Lib.hid (T8.out.below hb)
          clear hb
          refine hK.out _ _ ?s21 (fun hNew => ?r21)
          case s21 => exact ⟨P9.out.2.1, S9.out.2.1, T9.out.2.1⟩
          clear hK K hHeld
          have hHeld := hNew
          clear hNew
          refine wpAnyH_ready (rs := [14]) (by kernel_rfl) (by simp) ?_
          refine (AllReadyH.cons (o := { dst := some 67, op := Go.Op.call { callee := Go.Callee.value (Go.Operand.func 14), args := #[Go.Operand.tmp 65, Go.Operand.tmp 66], argTypes := #[26, 3] }, type := 26, pos := "law.go:141", after := #[{ on := 12, ground := Go.Ground.data }, { on := 13, ground := Go.Ground.data }, { on := 11, ground := Go.Ground.chain }, { on := 3, ground := Go.Ground.guard }], guard := some (3, true) }) rfl (fun K hK => ?_) AllReadyH.nil)
          · skip
            go_simp
            with_reducible refine (C5.out _).mono ?_
            rintro q_ w10 ⟨rfl, hb⟩
            have B10 := Lib.hid (vian HN.out B9.out hb)
            have P10 := Lib.hid (P9.out.below hb)
            have S10 := Lib.hid (S9.out.below hb)
            have T10 := Lib.hid (T9.out.below hb)
            clear hb
            refine hK.out _ _ ?s22 (fun hNew => ?r22)
            case s22 => exact ⟨P10.out.2.1, S10.out.2.1, T10.out.2.1⟩
            clear hK K hHeld
            have hHeld := hNew
            clear hNew
            refine wpAnyH_take (i := 15) (oi := { dst := some 68, op := Go.Op.binOp Go.BinOp.eql 26 (Go.Operand.tmp 64) (Go.Operand.tmp 67) 26, type := 4, pos := "law.go:141", after := #[{ on := 11, ground := Go.Ground.data }, { on := 14, ground := Go.Ground.data }, { on := 3, ground := Go.Ground.guard }], guard := some (3, true) }) (v := ?v23) rfl (by kernel_rfl) (by kernel_rfl) (by kernel_rfl) (fun _ _ _ h => h) (Or.inl ⟨by rfl, ?y23⟩) (by assumption) ?z23
            case y23 => (intro w hSw; (try dsimp only at hSw); go_simp) <;> with_reducible rfl
            try simp only [Act.put, List.setIfInBounds_toArray, List.set_cons_zero, List.set_cons_succ]
            refine wpAnyH_take (i := 16) (oi := { dst := some 69, op := Go.Op.pick (Go.Operand.tmp 56) (Go.Operand.tmp 68) (Go.Operand.const (Go.Value.bool false)), type := 4, pos := "law.go:141", after := #[{ on := 3, ground := Go.Ground.data }, { on := 15, ground := Go.Ground.data }], guard := none }) (v := ?v24) rfl (by kernel_rfl) (by kernel_rfl) (by kernel_rfl) (fun _ _ _ h => h) (Or.inl ⟨by rfl, ?y24⟩) (by assumption) ?z24
            case y24 => (intro w hSw; (try dsimp only at hSw); go_simp) <;> with_reducible rfl
            try simp only [Act.put, List.setIfInBounds_toArray, List.set_cons_zero, List.set_cons_succ]
            refine wpAnyH_take (i := 17) (oi := { dst := some 6, op := Go.Op.assign (Go.Operand.tmp 69), type := 4, pos := "law.go:141", after := #[{ on := 16, ground := Go.Ground.data }, { on := 14, ground := Go.Ground.chain }, { on := 0, ground := Go.Ground.phase }, { on := 1, ground := Go.Ground.phase }, { on := 2, ground := Go.Ground.phase }, { on := 3, ground := Go.Ground.phase }, { on := 4, ground := Go.Ground.phase }, { on := 5, ground := Go.Ground.phase }, { on := 6, ground := Go.Ground.phase }, { on := 7, ground := Go.Ground.phase }, { on := 8, ground := Go.Ground.phase }, { on := 9, ground := Go.Ground.phase }, { on := 10, ground := Go.Ground.phase }, { on := 11, ground := Go.Ground.phase }, { on := 12, ground := Go.Ground.phase }, { on := 13, ground := Go.Ground.phase }, { on := 14, ground := Go.Ground.phase }, { on := 15, ground := Go.Ground.phase }, { on := 16, ground := Go.Ground.phase }], guard := none }) (v := ?v25) rfl (by kernel_rfl) (by kernel_rfl) (by kernel_rfl) (fun _ _ _ h => h) (Or.inl ⟨by rfl, ?y25⟩) (by assumption) ?z25
            case y25 => (intro w hSw; (try dsimp only at hSw); go_simp) <;> with_reducible rfl
            try simp only [Act.put, List.setIfInBounds_toArray, List.set_cons_zero, List.set_cons_succ]
            refine wpAnyH_done (by kernel_rfl) ?_ _
            clear hHeld
            go_wp2
            go_ret
            exact ⟨rfl, B10.out⟩
theorem stands_walk (v : Value) (p q : Nat) (p1 : p < 4294967296) (q1 : q < 4294967296) (w : World) (h : OpsIn w v) : Calls Try.prog 8 #[v, .int .u32 (p : Int), .int .u32 (q : Int)] w fun e w' => e = .returned (.bool true) ∧ Below w.heap.size w w' := by
  obtain ⟨a, n, c, rfl, hm, f, g, h, hh, hi⟩ := h
  by_cases h0 : 60 < n
  · exact stands_long p q a n c h0 w
  · exact stands_some p q (by omega) (by omega) (by omega) (by omega) a n c h0 f g h hh w hi
end Go.Proofs.Ytkpjoongbckhcaa
