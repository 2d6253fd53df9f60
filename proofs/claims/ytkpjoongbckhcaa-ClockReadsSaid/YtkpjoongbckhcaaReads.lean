/-
  The walk through ClockReads: for every world in which the calls lie as told; no other condition.
-/
import Derived.Test.YtkpjoongbckhcaaOpn
import Derived.Deep.Cut
import Derived.Deep.LoopGhost
import Derived.Laws.StructEq
import Derived.Laws.Tables
import Derived.Laws.Cover2
namespace Go.Proofs.Ytkpjoongbckhcaa
open Go.ChangeShapes Go.WideShapes Go.ChangeAt Go.RowKit
set_option linter.unusedVariables false
set_option linter.unusedSimpArgs false
set_option maxRecDepth 100000
def maskV (q : Nat) : Int := if q = 0 then 63 else if q = 1 then 63 else if q = 2 then 31 else if q = 3 then 255 else 193
theorem tick_reads (d : CV) (n k : Int) : readV (tickV d n) k = readV d k := by
  unfold tickV
  split
  · rfl
  split
  · rfl
  · rfl
theorem b64 (x : Int) (h0 : 0 ≤ x) (h1 : x < 256) : bV (x / 64 % 2 == 1) 64 = x / 64 % 2 * 64 := by
  rcases (by omega : x / 64 % 2 = 0 ∨ x / 64 % 2 = 1) with e | e <;> rw [e] <;> rfl
theorem b128 (x : Int) (h0 : 0 ≤ x) (h1 : x < 256) : bV (x / 128 == 1) 128 = x / 128 * 128 := by
  rcases (by omega : x / 128 = 0 ∨ x / 128 = 1) with e | e <;> rw [e] <;> rfl
theorem read_same (m : CV) (hm : m.ok) (q : Nat) (hq : q < 5) (x : Int) (h0 : 0 ≤ x) (h1 : x < 256) : bits .and .u8 x (maskV q) = readV (holdV (wrV m q x)) q := by
  have hd := hm.2.2.2.1
  rcases (by omega : q = 0 ∨ q = 1 ∨ q = 2 ∨ q = 3 ∨ q = 4) with rfl | rfl | rfl | rfl | rfl
  · exact and63 x h0 h1
  · exact and63 x h0 h1
  · exact and31 x h0 h1
  · refine (and255 x h0 h1).trans ?_
    show x = (m.day / 256 * 256 + x) % 256
    omega
  · refine (and193 x h0 h1).trans ?_
    show _ = (x % 2 * 256 + m.day % 256) / 256 % 2 + bV (x / 64 % 2 == 1) 64 + bV (x / 128 == 1) 128
    rw [b64 x h0 h1, b128 x h0 h1]
    omega
theorem read_other (m : CV) (hm : m.ok) (q k : Nat) (hq : q < 5) (hk : k < 5) (hn : k ≠ q) (x : Int) (h0 : 0 ≤ x) (h1 : x < 256) : readV (holdV (wrV m q x)) k = readV (holdV m) k := by
  have hd := hm.2.2.2.1
  rcases (by omega : q = 0 ∨ q = 1 ∨ q = 2 ∨ q = 3 ∨ q = 4) with rfl | rfl | rfl | rfl | rfl
  all_goals (rcases (by omega : k = 0 ∨ k = 1 ∨ k = 2 ∨ k = 3 ∨ k = 4) with rfl | rfl | rfl | rfl | rfl)
  all_goals first
    | rfl
    | exact absurd rfl hn
    | (show (x % 2 * 256 + m.day % 256) % 256 = m.day % 256; omega)
    | (show (m.day / 256 * 256 + x) / 256 % 2 + bV m.halt 64 + bV m.carry 128 = m.day / 256 % 2 + bV m.halt 64 + bV m.carry 128; rw [show (m.day / 256 * 256 + x) / 256 % 2 = m.day / 256 % 2 by omega])
set_option maxHeartbeats 2000000 in
theorem reads_long (p x r : Int) (a : Option Addr) (n c : Nat) (h0 : 60 < n) (w : World) : Calls Try.prog 6 #[.slice a n c, .int .u8 p, .int .u8 x, .int .u32 r] w fun q_ w' => q_ = .returned (.bool true) ∧ Below w.heap.size w w' := by
  suffices hall : ∀ (n_ : Nat) (W0 : World), n_ ≤ W0.heap.size → Below n_ W0 w → Calls Try.prog 6 #[.slice a n c, .int .u8 p, .int .u8 x, .int .u32 r] w fun q_ w' => q_ = .returned (.bool true) ∧ Below n_ W0 w' from hall _ _ (Nat.le_refl _) (Below.refl _ _)
  intro n_ W0 hn hB
  have HN := Lib.hid hn
  have BB := Lib.hid hB
  clear hn hB
  have AW := Lib.hid awake_c
  have h0I : (60 : Int) < n := by omega
  have hnot : ∀ (x : Bool) (w : World), (Op.unary .not (.bool x)).run Try.prog w = .ok (.bool (!x)) w := fun _ _ => rfl
  go_enter Try.func6, Try.ntmps6
  go_wp2_with fail
  with_reducible refine (AW.out _).mono ?_
  rintro q_ w1 ⟨rfl, hb⟩
  have B1 := Lib.hid (vian HN.out BB.out hb)
  clear hb
  go_wp2_with fail
  with_reducible refine (AW.out _).mono ?_
  rintro q_ w2 ⟨rfl, hb⟩
  have B2 := Lib.hid (vian HN.out B1.out hb)
  clear hb
  go_wp2
  go_ret
  exact ⟨rfl, B2.out⟩
set_option maxHeartbeats 8000000 in
theorem reads_some (p x r : Int) (q : Nat) (p0 : 0 ≤ p) (p1 : p < 256) (x0 : 0 ≤ x) (x1 : x < 256) (r0 : 0 ≤ r) (r1 : r < 4294967296) (hq : p % 5 = q) (a : Option Addr) (n c : Nat) (h0 : ¬ 60 < n) (f g h : Nat → Int) (hh : ∀ i, 0 ≤ h i ∧ h i < 256) (w : World) (hmem : (0 < n → ∃ qb qo, a = some ⟨qb, qo, none⟩ ∧ qb < w.heap.size ∧ ∀ j, j < n → w.cell? ⟨qb, qo + j * 3, none⟩ = some (.int .i64 (f j)) ∧ w.cell? ⟨qb, qo + j * 3 + 1, none⟩ = some (.int .i64 (g j)) ∧ w.cell? ⟨qb, qo + j * 3 + 2, none⟩ = some (.int .u8 (h j)))) : Calls Try.prog 6 #[.slice a n c, .int .u8 p, .int .u8 x, .int .u32 r] w fun q_ w' => q_ = .returned (.bool true) ∧ Below w.heap.size w w' := by
  suffices hall : ∀ (n_ : Nat) (W0 : World), n_ ≤ W0.heap.size → Below n_ W0 w → (0 < n → ∃ qb qo, a = some ⟨qb, qo, none⟩ ∧ qb < n_ ∧ ∀ j, j < n → W0.cell? ⟨qb, qo + j * 3, none⟩ = some (.int .i64 (f j)) ∧ W0.cell? ⟨qb, qo + j * 3 + 1, none⟩ = some (.int .i64 (g j)) ∧ W0.cell? ⟨qb, qo + j * 3 + 2, none⟩ = some (.int .u8 (h j))) → Calls Try.prog 6 #[.slice a n c, .int .u8 p, .int .u8 x, .int .u32 r] w fun q_ w' => q_ = .returned (.bool true) ∧ Below n_ W0 w' from hall _ _ (Nat.le_refl _) (Below.refl _ _) hmem
  intro n_ W0 hn hB hI
  have HN := Lib.hid hn
  have BB := Lib.hid hB
  have HIN := Lib.hid hI
  have HH := Lib.hid hh
  clear hn hB hI hmem hh
  have h0I : ¬ (60 : Int) < n := by omega
  have AW := Lib.hid awake_c
  have hnot : ∀ (x : Bool) (w : World), (Op.unary .not (.bool x)).run Try.prog w = .ok (.bool (!x)) w := fun _ _ => rfl
  have q5 : q < 5 := by omega
  have q5I : (q : Int) < 5 := by omega
  have q0I : 0 ≤ (q : Int) := by omega
  go_enter Try.func6, Try.ntmps6
  go_wp2_with fail
  with_reducible refine (AW.out _).mono ?_
  rintro q_ w1 ⟨rfl, hb⟩
  have B1 := Lib.hid (vian HN.out BB.out hb)
  clear hb
  have Q_ := own1 w1 (.cells #[.int .u8 0, .int .u8 0, .int .u8 0, .int .i64 0, .int .i64 0, .bool false, .bool false, .int .u8 0, .int .u8 0, .int .u8 0, .int .u8 0, .int .u8 0] 26)
  have B2 := Lib.hid (vian HN.out B1.out Q_)
  have P2 := Lib.hid (Has.new w1 #[.int .u8 0, .int .u8 0, .int .u8 0, .int .i64 0, .int .i64 0, .bool false, .bool false, .int .u8 0, .int .u8 0, .int .u8 0, .int .u8 0, .int .u8 0] 26)
  have LP := Lib.hid (show n_ ≤ w1.heap.size from Nat.le_trans HN.out B1.out.size)
  clear Q_
  go_upto_region 4 with (fail)
  generalize w1.alloc (.cells #[.int .u8 0, .int .u8 0, .int .u8 0, .int .i64 0, .int .i64 0, .bool false, .bool false, .int .u8 0, .int .u8 0, .int .u8 0, .int .u8 0, .int .u8 0] 26) = w2 at B2 P2 ⊢
  generalize w1.heap.size = pb at P2 LP ⊢
  go_wp2
  go_loopg [27] n (fun g' i wr => ∃ (t : Nat) (m : CV), t ≤ n ∧ g' + t = n ∧ i = .int .i64 t ∧ (m.ok) ∧ Below n_ W0 wr ∧ Has wr pb #[.int .u8 m.s, .int .u8 m.m, .int .u8 m.h, .int .i64 m.day, .int .i64 m.sub, .bool m.halt, .bool m.carry, .int .u8 m.a, .int .u8 m.b, .int .u8 m.c, .int .u8 m.d, .int .u8 m.e])
  case atStart => exact ⟨0, zeroV, by omega, by omega, rfl, zero_ok, B2.out, P2.out⟩
  case round =>
    obtain ⟨t, m, ht, hg, rfl, hok, hB, hP⟩ := hrel
    have TG := Lib.hid hg
    have OK := Lib.hid hok
    have B0 := Lib.hid hB.drew
    have P0 := Lib.hid hP.drew
    have TB := Lib.hid hB
    have TP := Lib.hid hP
    clear hg hok hB hP B2 P2
    by_cases hlt : t < n
    · clear TB TP
      have l1 : (t : Int) < n := by omega
      have l0 : (0 : Int) ≤ t := by omega
      obtain ⟨qb, qo, rfl, hqb, hcells⟩ := HIN.out (by omega)
      have QQ := Lib.hid hqb
      have E0 := Lib.hid (hcells t hlt).1
      have E1 := Lib.hid (hcells t hlt).2.1
      have E2 := Lib.hid (hcells t hlt).2.2
      have xb := HH.out t
      generalize f t = kk at E0
      generalize g t = nn at E1
      generalize h t = xx at E2 xb
      clear hcells hqb
      obtain ⟨m', hm'⟩ : ∃ q_, doV m kk nn xx = q_ := ⟨_, rfl⟩
      have DC := Lib.hid (fun W => do_c m m' kk nn xx OK.out xb.1 xb.2 hm' W)
      have OK' := Lib.hid (show m'.ok from hm' ▸ do_ok OK.out _ _ _ xb)
      clear hm'
      go_upto_region 7 with (fail)
      refine wp_region_held_drew (S := (fun w' => (w'.cell? ⟨qb, qo + t * 3, none⟩ = some (.int .i64 kk)) ∧ (w'.cell? ⟨qb, qo + t * 3 + 1, none⟩ = some (.int .i64 nn)) ∧ (w'.cell? ⟨qb, qo + t * 3 + 2, none⟩ = some (.int .u8 xx)))) (by kernel_rfl) ⟨(B0.out.cell (p := ⟨qb, qo + t * 3, none⟩) QQ.out).trans E0.out, (B0.out.cell (p := ⟨qb, qo + t * 3 + 1, none⟩) QQ.out).trans E1.out, (B0.out.cell (p := ⟨qb, qo + t * 3 + 2, none⟩) QQ.out).trans E2.out⟩ (fun hHeld => ?_)
      generalize World.drew wr = u0 at hHeld B0 P0 ⊢
      refine wpAnyH_take (i := 1) (oi := { dst := some 31, op := Go.Op.move (Go.Operand.tmp 0), type := 22, pos := "law.go:99", after := #[], guard := none }) (v := ?v1) rfl (by kernel_rfl) (by kernel_rfl) (by kernel_rfl) (fun _ _ _ h => h) (Or.inl ⟨by rfl, ?y1⟩) (by assumption) ?z1
      case y1 => (intro w hSw; (try dsimp only at hSw); go_simp) <;> with_reducible rfl
      try simp only [Act.put, List.setIfInBounds_toArray, List.set_cons_zero, List.set_cons_succ]
      refine wpAnyH_take (i := 2) (oi := { dst := some 32, op := Go.Op.move (Go.Operand.tmp 10), type := 3, pos := "law.go:99", after := #[], guard := none }) (v := ?v2) rfl (by kernel_rfl) (by kernel_rfl) (by kernel_rfl) (fun _ _ _ h => h) (Or.inl ⟨by rfl, ?y2⟩) (by assumption) ?z2
      case y2 => (intro w hSw; (try dsimp only at hSw); go_simp) <;> with_reducible rfl
      try simp only [Act.put, List.setIfInBounds_toArray, List.set_cons_zero, List.set_cons_succ]
      refine wpAnyH_take (i := 3) (oi := { dst := some 33, op := Go.Op.indexAddr 22 (Go.Operand.tmp 31) (Go.Operand.tmp 32), type := 0, pos := "law.go:99", after := #[{ on := 1, ground := Go.Ground.data }, { on := 2, ground := Go.Ground.data }], guard := none }) (v := ?v3) rfl (by kernel_rfl) (by kernel_rfl) (by kernel_rfl) (fun _ _ _ h => h) (Or.inl ⟨by rfl, ?y3⟩) (by assumption) ?z3
      case y3 => (intro w hSw; (try dsimp only at hSw); go_simp) <;> with_reducible rfl
      try simp only [Act.put, List.setIfInBounds_toArray, List.set_cons_zero, List.set_cons_succ]
      refine wpAnyH_take (i := 4) (oi := { dst := some 34, op := Go.Op.load 30 (Go.Operand.tmp 33), type := 30, pos := "law.go:99", after := #[{ on := 3, ground := Go.Ground.data }], guard := none }) (v := ?v4) rfl (by kernel_rfl) (by kernel_rfl) (by kernel_rfl) (fun _ _ _ h => h) (Or.inl ⟨by rfl, ?y4⟩) (by assumption) ?z4
      case y4 => (intro w hSw; (try dsimp only at hSw); go_simp) <;> with_reducible rfl
      try simp only [Act.put, List.setIfInBounds_toArray, List.set_cons_zero, List.set_cons_succ]
      refine wpAnyH_ready (rs := [0]) (by kernel_rfl) (by simp) ?_
      refine (AllReadyH.cons (o := { dst := some 30, op := Go.Op.load 26 (Go.Operand.tmp 9), type := 26, pos := "law.go:99", after := #[], guard := none }) rfl (fun K hK => ?_) AllReadyH.nil)
      · skip
        obtain ⟨hc, hfz⟩ := P0.out.out
        go_simp
        clear hc hfz
        refine hK.out _ _ ?s5 (fun hNew => ?r5)
        case s5 => exact ⟨(B0.out.cell (p := ⟨qb, qo + t * 3, none⟩) QQ.out).trans E0.out, (B0.out.cell (p := ⟨qb, qo + t * 3 + 1, none⟩) QQ.out).trans E1.out, (B0.out.cell (p := ⟨qb, qo + t * 3 + 2, none⟩) QQ.out).trans E2.out⟩
        clear hK K hHeld
        have hHeld := hNew
        clear hNew
        refine wpAnyH_ready (rs := [5]) (by kernel_rfl) (by simp) ?_
        refine (AllReadyH.cons (o := { dst := some 35, op := Go.Op.call { callee := Go.Callee.value (Go.Operand.func 10), args := #[Go.Operand.tmp 30, Go.Operand.tmp 34], argTypes := #[26, 30] }, type := 26, pos := "law.go:99", after := #[{ on := 0, ground := Go.Ground.data }, { on := 4, ground := Go.Ground.data }], guard := none }) rfl (fun K hK => ?_) AllReadyH.nil)
        · skip
          go_simp
          with_reducible refine (DC.out _).mono ?_
          rintro q_ u1 ⟨rfl, hb⟩
          have B1 := Lib.hid (vian HN.out B0.out hb)
          have P1 := Lib.hid (P0.out.below hb)
          clear hb B0 P0
          refine hK.out _ _ ?s6 (fun hNew => ?r6)
          case s6 => exact ⟨(B1.out.cell (p := ⟨qb, qo + t * 3, none⟩) QQ.out).trans E0.out, (B1.out.cell (p := ⟨qb, qo + t * 3 + 1, none⟩) QQ.out).trans E1.out, (B1.out.cell (p := ⟨qb, qo + t * 3 + 2, none⟩) QQ.out).trans E2.out⟩
          clear hK K hHeld
          have hHeld := hNew
          clear hNew
          refine wpAnyH_ready (rs := [6]) (by kernel_rfl) (by simp) ?_
          refine (AllReadyH.cons (o := { dst := none, op := Go.Op.store 26 (Go.Operand.tmp 9) (Go.Operand.tmp 35), type := 0, pos := "law.go:99", after := #[{ on := 5, ground := Go.Ground.data }, { on := 5, ground := Go.Ground.chain }, { on := 0, ground := Go.Ground.phase }, { on := 1, ground := Go.Ground.phase }, { on := 2, ground := Go.Ground.phase }, { on := 3, ground := Go.Ground.phase }, { on := 4, ground := Go.Ground.phase }, { on := 5, ground := Go.Ground.phase }], guard := none }) rfl (fun K hK => ?_) AllReadyH.nil)
          · skip
            obtain ⟨hc, hfz⟩ := P1.out.out
            go_simp
            clear hc hfz
            have P2 := Lib.hid (P1.out.put12 (.int .u8 m'.s) (.int .u8 m'.m) (.int .u8 m'.h) (.int .i64 m'.day) (.int .i64 m'.sub) (.bool m'.halt) (.bool m'.carry) (.int .u8 m'.a) (.int .u8 m'.b) (.int .u8 m'.c) (.int .u8 m'.d) (.int .u8 m'.e))
            have B2 := Lib.hid (set12 B1.out pb LP.out (.int .u8 m'.s) (.int .u8 m'.m) (.int .u8 m'.h) (.int .i64 m'.day) (.int .i64 m'.sub) (.bool m'.halt) (.bool m'.carry) (.int .u8 m'.a) (.int .u8 m'.b) (.int .u8 m'.c) (.int .u8 m'.d) (.int .u8 m'.e))
            clear B1 P1
            refine hK.out _ _ ?s7 (fun hNew => ?r7)
            case s7 => exact ⟨(B2.out.cell (p := ⟨qb, qo + t * 3, none⟩) QQ.out).trans E0.out, (B2.out.cell (p := ⟨qb, qo + t * 3 + 1, none⟩) QQ.out).trans E1.out, (B2.out.cell (p := ⟨qb, qo + t * 3 + 2, none⟩) QQ.out).trans E2.out⟩
            clear hK K hHeld
            have hHeld := hNew
            clear hNew
            generalize (World.setCell (World.setCell (World.setCell (World.setCell (World.setCell (World.setCell (World.setCell (World.setCell (World.setCell (World.setCell (World.setCell (World.setCell u1 ⟨pb, 0, none⟩ (.int .u8 m'.s)) ⟨pb, 1, none⟩ (.int .u8 m'.m)) ⟨pb, 2, none⟩ (.int .u8 m'.h)) ⟨pb, 3, none⟩ (.int .i64 m'.day)) ⟨pb, 4, none⟩ (.int .i64 m'.sub)) ⟨pb, 5, none⟩ (.bool m'.halt)) ⟨pb, 6, none⟩ (.bool m'.carry)) ⟨pb, 7, none⟩ (.int .u8 m'.a)) ⟨pb, 8, none⟩ (.int .u8 m'.b)) ⟨pb, 9, none⟩ (.int .u8 m'.c)) ⟨pb, 10, none⟩ (.int .u8 m'.d)) ⟨pb, 11, none⟩ (.int .u8 m'.e)) = u2 at hHeld B2 P2 ⊢
            refine wpAnyH_done (by kernel_rfl) ?_ _
            clear hHeld
            go_wp2
            go_roundg (gk - 1)
            exact ⟨t + 1, m', by omega, by have := TG.out; omega, by simp, OK'.out, B2.out, P2.out⟩
            case measure => have := TG.out; omega
    · have et : t = n := by omega
      subst et
      clear B0 P0 TG HIN HH AW
      obtain ⟨d0, hd0⟩ : ∃ q_, wrV m q x = q_ := ⟨_, rfl⟩
      obtain ⟨d, hd⟩ : ∃ q_, holdV d0 = q_ := ⟨_, rfl⟩
      obtain ⟨e, he⟩ : ∃ q_, holdV m = q_ := ⟨_, rfl⟩
      obtain ⟨y, hy⟩ : ∃ q_, readV d q = q_ := ⟨_, rfl⟩
      obtain ⟨z, hz⟩ : ∃ q_, tickV d r = q_ := ⟨_, rfl⟩
      obtain ⟨mk, hmk⟩ : ∃ q_, maskV q = q_ := ⟨_, rfl⟩
      have d0ok : d0.ok := hd0 ▸ wr_ok OK.out q x ⟨x0, x1⟩
      have dok : d.ok := hd ▸ d0ok
      have F1 : bits .and .u8 x mk = y := by rw [← hmk, ← hy, ← hd, ← hd0]; exact read_same m OK.out q q5 x x0 x1
      have F2 := Lib.hid (show ∀ k : Nat, k < 5 → k ≠ q → readV e k = readV d k from fun k hk hn => by rw [← he, ← hd, ← hd0]; exact (read_other m OK.out q k q5 hk hn x x0 x1).symm)
      have F3 := Lib.hid (show ∀ k : Nat, readV z k = readV d k from fun k => by rw [← hz]; exact tick_reads d r k)
      have F4 := Lib.hid (show ∀ q : Nat, q < 5 → (#[.int .u8 63, .int .u8 63, .int .u8 31, .int .u8 255, .int .u8 193] : Array Value)[q]? = some (.int .u8 (maskV q)) from fun q h => by
        rcases (by omega : q = 0 ∨ q = 1 ∨ q = 2 ∨ q = 3 ∨ q = 4) with rfl | rfl | rfl | rfl | rfl <;> rfl)
      have C1 := Lib.hid (fun W => write_c m d0 q x OK.out x0 x1 hd0 W)
      have C2 := Lib.hid (fun W => hold_c d0 d d0ok hd W)
      have C3 := Lib.hid (fun W => hold_c m e OK.out he W)
      have C4 := Lib.hid (fun W => read_c d q y hy W)
      have C5 := Lib.hid (fun W => tick_c d z r dok hz W)
      have HMK := Lib.hid hmk
      clear hd0 hd he hy hz d0ok dok hmk
      obtain ⟨hc, hf⟩ := TP.out.out
      have B0 := TB
      have P0 := TP
      clear TB TP
      go_wp2_with fail
      with_reducible refine (C1.out _).mono ?_
      rintro q_ w1 ⟨rfl, hb⟩
      have B1 := Lib.hid (vian HN.out B0.out hb)
      have P1 := Lib.hid (P0.out.below hb)
      clear hb hc hf
      obtain ⟨hc, hf⟩ := P1.out.out
      go_wp2_with fail
      with_reducible refine (C2.out _).mono ?_
      rintro q_ w2 ⟨rfl, hb⟩
      have B2 := Lib.hid (vian HN.out B1.out hb)
      have P2 := Lib.hid (P1.out.below hb)
      clear hb hc hf
      have Q_ := own1 w2 (.cells #[.int .u8 d.s, .int .u8 d.m, .int .u8 d.h, .int .i64 d.day, .int .i64 d.sub, .bool d.halt, .bool d.carry, .int .u8 d.a, .int .u8 d.b, .int .u8 d.c, .int .u8 d.d, .int .u8 d.e] 26)
      have B3 := Lib.hid (vian HN.out B2.out Q_)
      have P3 := Lib.hid (P2.out.below Q_)
      have D3 := Lib.hid (Has.new w2 #[.int .u8 d.s, .int .u8 d.m, .int .u8 d.h, .int .i64 d.day, .int .i64 d.sub, .bool d.halt, .bool d.carry, .int .u8 d.a, .int .u8 d.b, .int .u8 d.c, .int .u8 d.d, .int .u8 d.e] 26)
      clear Q_
      go_upto_region 11 with (fail)
      generalize w2.alloc (.cells #[.int .u8 d.s, .int .u8 d.m, .int .u8 d.h, .int .i64 d.day, .int .i64 d.sub, .bool d.halt, .bool d.carry, .int .u8 d.a, .int .u8 d.b, .int .u8 d.c, .int .u8 d.d, .int .u8 d.e] 26) = w3 at B3 P3 D3 ⊢
      generalize w2.heap.size = db at D3 ⊢
      obtain ⟨hc, hf⟩ := P3.out.out
      go_wp2_with fail
      with_reducible refine (C3.out _).mono ?_
      rintro q_ w4 ⟨rfl, hb⟩
      have B4 := Lib.hid (vian HN.out B3.out hb)
      have D4 := Lib.hid (D3.out.below hb)
      clear hb hc hf
      have Q_ := own1 w4 (.cells #[.int .u8 e.s, .int .u8 e.m, .int .u8 e.h, .int .i64 e.day, .int .i64 e.sub, .bool e.halt, .bool e.carry, .int .u8 e.a, .int .u8 e.b, .int .u8 e.c, .int .u8 e.d, .int .u8 e.e] 26)
      have B5 := Lib.hid (vian HN.out B4.out Q_)
      have D5 := Lib.hid (D4.out.below Q_)
      have E5 := Lib.hid (Has.new w4 #[.int .u8 e.s, .int .u8 e.m, .int .u8 e.h, .int .i64 e.day, .int .i64 e.sub, .bool e.halt, .bool e.carry, .int .u8 e.a, .int .u8 e.b, .int .u8 e.c, .int .u8 e.d, .int .u8 e.e] 26)
      clear Q_
      go_upto_region 12 with (fail)
      generalize w4.alloc (.cells #[.int .u8 e.s, .int .u8 e.m, .int .u8 e.h, .int .i64 e.day, .int .i64 e.sub, .bool e.halt, .bool e.carry, .int .u8 e.a, .int .u8 e.b, .int .u8 e.c, .int .u8 e.d, .int .u8 e.e] 26) = w5 at B5 D5 E5 ⊢
      generalize w4.heap.size = eb at E5 ⊢
      have Q_ := own1 w5 (.cells #[.int .u8 63, .int .u8 63, .int .u8 31, .int .u8 255, .int .u8 193] 24)
      have B6 := Lib.hid (vian HN.out B5.out Q_)
      have D6 := Lib.hid (D5.out.below Q_)
      have E6 := Lib.hid (E5.out.below Q_)
      have M6 := Lib.hid (Has.new w5 #[.int .u8 63, .int .u8 63, .int .u8 31, .int .u8 255, .int .u8 193] 24)
      clear Q_
      go_upto_region 13 with (fail)
      generalize w5.alloc (.cells #[.int .u8 63, .int .u8 63, .int .u8 31, .int .u8 255, .int .u8 193] 24) = w6 at B6 D6 E6 M6 ⊢
      generalize w5.heap.size = mb at M6 ⊢
      have hmc := (M6.out.2.1 q).trans (F4.out q q5)
      rw [HMK.out] at hmc
      have B7 := Lib.hid B6.out.drew
      have D7 := Lib.hid D6.out.drew
      have E7 := Lib.hid E6.out.drew
      have M7 := Lib.hid M6.out.drew
      have HMC := Lib.hid (show (World.drew w6).cell? ⟨mb, q, none⟩ = some (.int .u8 mk) from hmc)
      clear hmc
      refine wp_region_held_drew (S := (fun w' => (∀ o, w'.cell? ⟨db, o, none⟩ = #[.int .u8 d.s, .int .u8 d.m, .int .u8 d.h, .int .i64 d.day, .int .i64 d.sub, .bool d.halt, .bool d.carry, .int .u8 d.a, .int .u8 d.b, .int .u8 d.c, .int .u8 d.d, .int .u8 d.e][o]?) ∧ (w'.cell? ⟨mb, q, none⟩ = some (.int .u8 mk)))) (by kernel_rfl) ⟨D7.out.2.1, HMC.out⟩ (fun hHeld => ?_)
      generalize World.drew w6 = w7 at hHeld B7 D7 E7 M7 HMC ⊢
      refine wpAnyH_take (i := 0) (oi := { dst := some 48, op := Go.Op.load 26 (Go.Operand.tmp 12), type := 26, pos := "law.go:105", after := #[], guard := none }) (v := ?v8) rfl (by kernel_rfl) (by kernel_rfl) (by kernel_rfl) (fun _ _ _ h => h) (Or.inl ⟨by rfl, ?y8⟩) (by assumption) ?z8
      case y8 => (intro w hSw; (try dsimp only at hSw); go_simp) <;> with_reducible rfl
      try simp only [Act.put, List.setIfInBounds_toArray, List.set_cons_zero, List.set_cons_succ]
      refine wpAnyH_take (i := 1) (oi := { dst := some 49, op := Go.Op.move (Go.Operand.tmp 11), type := 3, pos := "law.go:105", after := #[], guard := none }) (v := ?v9) rfl (by kernel_rfl) (by kernel_rfl) (by kernel_rfl) (fun _ _ _ h => h) (Or.inl ⟨by rfl, ?y9⟩) (by assumption) ?z9
      case y9 => (intro w hSw; (try dsimp only at hSw); go_simp) <;> with_reducible rfl
      try simp only [Act.put, List.setIfInBounds_toArray, List.set_cons_zero, List.set_cons_succ]
      refine wpAnyH_take (i := 3) (oi := { dst := some 51, op := Go.Op.move (Go.Operand.tmp 2), type := 5, pos := "law.go:105", after := #[], guard := none }) (v := ?v10) rfl (by kernel_rfl) (by kernel_rfl) (by kernel_rfl) (fun _ _ _ h => h) (Or.inl ⟨by rfl, ?y10⟩) (by assumption) ?z10
      case y10 => (intro w hSw; (try dsimp only at hSw); go_simp) <;> with_reducible rfl
      try simp only [Act.put, List.setIfInBounds_toArray, List.set_cons_zero, List.set_cons_succ]
      refine wpAnyH_take (i := 4) (oi := { dst := some 52, op := Go.Op.move (Go.Operand.tmp 11), type := 3, pos := "law.go:105", after := #[], guard := none }) (v := ?v11) rfl (by kernel_rfl) (by kernel_rfl) (by kernel_rfl) (fun _ _ _ h => h) (Or.inl ⟨by rfl, ?y11⟩) (by assumption) ?z11
      case y11 => (intro w hSw; (try dsimp only at hSw); go_simp) <;> with_reducible rfl
      try simp only [Act.put, List.setIfInBounds_toArray, List.set_cons_zero, List.set_cons_succ]
      refine wpAnyH_take (i := 5) (oi := { dst := some 53, op := Go.Op.indexAddr 24 (Go.Operand.tmp 14) (Go.Operand.tmp 52), type := 0, pos := "law.go:105", after := #[{ on := 4, ground := Go.Ground.data }], guard := none }) (v := ?v12) rfl (by kernel_rfl) (by kernel_rfl) (by kernel_rfl) (fun _ _ _ h => h) (Or.inl ⟨by rfl, ?y12⟩) (by assumption) ?z12
      case y12 => (intro w hSw; (try dsimp only at hSw); go_simp) <;> with_reducible rfl
      try simp only [Act.put, List.setIfInBounds_toArray, List.set_cons_zero, List.set_cons_succ]
      refine wpAnyH_take (i := 6) (oi := { dst := some 54, op := Go.Op.load 5 (Go.Operand.tmp 53), type := 5, pos := "law.go:105", after := #[{ on := 5, ground := Go.Ground.data }], guard := none }) (v := ?v13) rfl (by kernel_rfl) (by kernel_rfl) (by kernel_rfl) (fun _ _ _ h => h) (Or.inl ⟨by rfl, ?y13⟩) (by assumption) ?z13
      case y13 => (intro w hSw; (try dsimp only at hSw); go_simp) <;> with_reducible rfl
      try simp only [Act.put, List.setIfInBounds_toArray, List.set_cons_zero, List.set_cons_succ]
      refine wpAnyH_take (i := 7) (oi := { dst := some 55, op := Go.Op.binOp Go.BinOp.and 5 (Go.Operand.tmp 51) (Go.Operand.tmp 54) 5, type := 5, pos := "law.go:105", after := #[{ on := 3, ground := Go.Ground.data }, { on := 6, ground := Go.Ground.data }], guard := none }) (v := ?v14) rfl (by kernel_rfl) (by kernel_rfl) (by kernel_rfl) (fun _ _ _ h => h) (Or.inl ⟨by rfl, ?y14⟩) (by assumption) ?z14
      case y14 => (intro w hSw; (try dsimp only at hSw); go_simp) <;> with_reducible rfl
      try simp only [Act.put, List.setIfInBounds_toArray, List.set_cons_zero, List.set_cons_succ]
      refine wpAnyH_ready (rs := [2]) (by kernel_rfl) (by simp) ?_
      refine (AllReadyH.cons (o := { dst := some 50, op := Go.Op.call { callee := Go.Callee.value (Go.Operand.func 12), args := #[Go.Operand.tmp 48, Go.Operand.tmp 49], argTypes := #[26, 3] }, type := 5, pos := "law.go:105", after := #[{ on := 0, ground := Go.Ground.data }, { on := 1, ground := Go.Ground.data }], guard := none }) rfl (fun K hK => ?_) AllReadyH.nil)
      · skip
        go_simp
        with_reducible refine (C4.out _).mono ?_
        rintro q_ w8 ⟨rfl, hb⟩
        have B8 := Lib.hid (vian HN.out B7.out hb)
        have D8 := Lib.hid (D7.out.below hb)
        have E8 := Lib.hid (E7.out.below hb)
        have HMC8 := Lib.hid ((hb.cell (p := ⟨mb, q, none⟩) M7.out.1).trans HMC.out)
        clear hb
        refine hK.out _ _ ?s15 (fun hNew => ?r15)
        case s15 => exact ⟨D8.out.2.1, HMC8.out⟩
        clear hK K hHeld
        have hHeld := hNew
        clear hNew
        refine wpAnyH_take (i := 8) (oi := { dst := some 56, op := Go.Op.binOp Go.BinOp.neq 5 (Go.Operand.tmp 50) (Go.Operand.tmp 55) 5, type := 4, pos := "law.go:105", after := #[{ on := 2, ground := Go.Ground.data }, { on := 7, ground := Go.Ground.data }], guard := none }) (v := ?v16) rfl (by kernel_rfl) (by kernel_rfl) (by kernel_rfl) (fun _ _ _ h => h) (Or.inl ⟨by rfl, ?y16⟩) (by assumption) ?z16
        case y16 => (intro w hSw; (try dsimp only at hSw); go_simp) <;> with_reducible rfl
        try simp only [Act.put, List.setIfInBounds_toArray, List.set_cons_zero, List.set_cons_succ]
        refine wpAnyH_done (by kernel_rfl) ?_ _
        clear hHeld
        go_wp2
        go_loopg [57] 5 (fun g' i wz => ∃ k : Nat, k ≤ 5 ∧ g' + k = 5 ∧ i = .int .i64 k ∧ Below n_ W0 wz ∧ Has wz db #[.int .u8 d.s, .int .u8 d.m, .int .u8 d.h, .int .i64 d.day, .int .i64 d.sub, .bool d.halt, .bool d.carry, .int .u8 d.a, .int .u8 d.b, .int .u8 d.c, .int .u8 d.d, .int .u8 d.e] ∧ Has wz eb #[.int .u8 e.s, .int .u8 e.m, .int .u8 e.h, .int .i64 e.day, .int .i64 e.sub, .bool e.halt, .bool e.carry, .int .u8 e.a, .int .u8 e.b, .int .u8 e.c, .int .u8 e.d, .int .u8 e.e])
        case atStart => exact ⟨0, by omega, by omega, rfl, B8.out, D8.out, E8.out⟩
        case round =>
          obtain ⟨k, hk, hg, rfl, hB, hD, hE⟩ := hrel
          have TG := Lib.hid hg
          have TB := Lib.hid hB
          have TD := Lib.hid hD
          have TE := Lib.hid hE
          have B0 := Lib.hid hB.drew
          have D0 := Lib.hid hD.drew
          have E0 := Lib.hid hE.drew
          clear hg hB hD hE
          by_cases hlt : k < 5
          · have l1 : (k : Int) < 5 := by omega
            have l0 : (0 : Int) ≤ k := by omega
            clear TB TD TE
            obtain ⟨y1, hy1⟩ : ∃ q_, readV d k = q_ := ⟨_, rfl⟩
            have R1 := Lib.hid (fun W => read_c d k y1 hy1 W)
            have R3 := Lib.hid (fun W => read_c z k y1 ((F3.out k).trans hy1) W)
            by_cases hkq : k = q
            · subst hkq
              clear hy1
              have hwr : IntKind.i64.wrap r = r := IntWalk.i64_in r (by omega)
              go_upto_region 18 with (fail)
              refine wp_region_held_drew (S := (fun w' => (∀ o, w'.cell? ⟨db, o, none⟩ = #[.int .u8 d.s, .int .u8 d.m, .int .u8 d.h, .int .i64 d.day, .int .i64 d.sub, .bool d.halt, .bool d.carry, .int .u8 d.a, .int .u8 d.b, .int .u8 d.c, .int .u8 d.d, .int .u8 d.e][o]?) ∧ (∀ o, w'.cell? ⟨eb, o, none⟩ = #[.int .u8 e.s, .int .u8 e.m, .int .u8 e.h, .int .i64 e.day, .int .i64 e.sub, .bool e.halt, .bool e.carry, .int .u8 e.a, .int .u8 e.b, .int .u8 e.c, .int .u8 e.d, .int .u8 e.e][o]?))) (by kernel_rfl) ⟨D0.out.2.1, E0.out.2.1⟩ (fun hHeld => ?_)
              generalize World.drew wr = u0 at hHeld B0 D0 E0 ⊢
              refine wpAnyH_take (i := 0) (oi := { dst := some 60, op := Go.Op.move (Go.Operand.tmp 15), type := 3, pos := "law.go:109", after := #[], guard := none }) (v := ?v17) rfl (by kernel_rfl) (by kernel_rfl) (by kernel_rfl) (fun _ _ _ h => h) (Or.inl ⟨by rfl, ?y17⟩) (by assumption) ?z17
              case y17 => (intro w hSw; (try dsimp only at hSw); go_simp) <;> with_reducible rfl
              try simp only [Act.put, List.setIfInBounds_toArray, List.set_cons_zero, List.set_cons_succ]
              refine wpAnyH_take (i := 1) (oi := { dst := some 61, op := Go.Op.move (Go.Operand.tmp 11), type := 3, pos := "law.go:109", after := #[], guard := none }) (v := ?v18) rfl (by kernel_rfl) (by kernel_rfl) (by kernel_rfl) (fun _ _ _ h => h) (Or.inl ⟨by rfl, ?y18⟩) (by assumption) ?z18
              case y18 => (intro w hSw; (try dsimp only at hSw); go_simp) <;> with_reducible rfl
              try simp only [Act.put, List.setIfInBounds_toArray, List.set_cons_zero, List.set_cons_succ]
              refine wpAnyH_take (i := 2) (oi := { dst := some 62, op := Go.Op.binOp Go.BinOp.neq 3 (Go.Operand.tmp 60) (Go.Operand.tmp 61) 3, type := 4, pos := "law.go:109", after := #[{ on := 0, ground := Go.Ground.data }, { on := 1, ground := Go.Ground.data }], guard := none }) (v := ?v19) rfl (by kernel_rfl) (by kernel_rfl) (by kernel_rfl) (fun _ _ _ h => h) (Or.inl ⟨by rfl, ?y19⟩) (by assumption) ?z19
              case y19 => (intro w hSw; (try dsimp only at hSw); go_simp) <;> with_reducible rfl
              try simp only [Act.put, List.setIfInBounds_toArray, List.set_cons_zero, List.set_cons_succ]
              refine wpAnyH_take (i := 3) (oi := { dst := some 63, op := Go.Op.move (Go.Operand.tmp 62), type := 4, pos := "law.go:109", after := #[{ on := 2, ground := Go.Ground.data }], guard := none }) (v := ?v20) rfl (by kernel_rfl) (by kernel_rfl) (by kernel_rfl) (fun _ _ _ h => h) (Or.inl ⟨by rfl, ?y20⟩) (by assumption) ?z20
              case y20 => (intro w hSw; (try dsimp only at hSw); go_simp) <;> with_reducible rfl
              try simp only [Act.put, List.setIfInBounds_toArray, List.set_cons_zero, List.set_cons_succ]
              refine wpAnyH_take (i := 4) (oi := { dst := some 64, op := Go.Op.load 26 (Go.Operand.tmp 12), type := 26, pos := "law.go:109", after := #[{ on := 3, ground := Go.Ground.guard }], guard := some (3, true) }) (v := undef) rfl (by kernel_rfl) (by kernel_rfl) (by kernel_rfl) (fun _ _ _ h => h) (Or.inr ⟨by rfl, rfl⟩) (by assumption) ?_
              try simp only [Act.put, List.setIfInBounds_toArray, List.set_cons_zero, List.set_cons_succ]
              refine wpAnyH_take (i := 5) (oi := { dst := some 65, op := Go.Op.move (Go.Operand.tmp 15), type := 3, pos := "law.go:109", after := #[{ on := 3, ground := Go.Ground.guard }], guard := some (3, true) }) (v := undef) rfl (by kernel_rfl) (by kernel_rfl) (by kernel_rfl) (fun _ _ _ h => h) (Or.inr ⟨by rfl, rfl⟩) (by assumption) ?_
              try simp only [Act.put, List.setIfInBounds_toArray, List.set_cons_zero, List.set_cons_succ]
              refine wpAnyH_take (i := 7) (oi := { dst := some 67, op := Go.Op.load 26 (Go.Operand.tmp 13), type := 26, pos := "law.go:109", after := #[{ on := 3, ground := Go.Ground.guard }], guard := some (3, true) }) (v := undef) rfl (by kernel_rfl) (by kernel_rfl) (by kernel_rfl) (fun _ _ _ h => h) (Or.inr ⟨by rfl, rfl⟩) (by assumption) ?_
              try simp only [Act.put, List.setIfInBounds_toArray, List.set_cons_zero, List.set_cons_succ]
              refine wpAnyH_take (i := 8) (oi := { dst := some 68, op := Go.Op.move (Go.Operand.tmp 15), type := 3, pos := "law.go:109", after := #[{ on := 3, ground := Go.Ground.guard }], guard := some (3, true) }) (v := undef) rfl (by kernel_rfl) (by kernel_rfl) (by kernel_rfl) (fun _ _ _ h => h) (Or.inr ⟨by rfl, rfl⟩) (by assumption) ?_
              try simp only [Act.put, List.setIfInBounds_toArray, List.set_cons_zero, List.set_cons_succ]
              refine wpAnyH_ready (rs := [6]) (by kernel_rfl) (by simp) ?_
              refine (AllReadyH.cons (o := { dst := some 66, op := Go.Op.call { callee := Go.Callee.value (Go.Operand.func 12), args := #[Go.Operand.tmp 64, Go.Operand.tmp 65], argTypes := #[26, 3] }, type := 5, pos := "law.go:109", after := #[{ on := 4, ground := Go.Ground.data }, { on := 5, ground := Go.Ground.data }, { on := 3, ground := Go.Ground.chain }, { on := 3, ground := Go.Ground.guard }], guard := some (3, true) }) rfl (fun K hK => ?_) AllReadyH.nil)
              · skip
                go_simp
                have B1 := B0
                have D1 := D0
                have E1 := E0
                refine hK.out _ _ ?s25 (fun hNew => ?r25)
                case s25 => exact ⟨D1.out.2.1, E1.out.2.1⟩
                clear hK K hHeld
                have hHeld := hNew
                clear hNew
                refine wpAnyH_ready (rs := [9]) (by kernel_rfl) (by simp) ?_
                refine (AllReadyH.cons (o := { dst := some 69, op := Go.Op.call { callee := Go.Callee.value (Go.Operand.func 12), args := #[Go.Operand.tmp 67, Go.Operand.tmp 68], argTypes := #[26, 3] }, type := 5, pos := "law.go:109", after := #[{ on := 7, ground := Go.Ground.data }, { on := 8, ground := Go.Ground.data }, { on := 6, ground := Go.Ground.chain }, { on := 3, ground := Go.Ground.guard }], guard := some (3, true) }) rfl (fun K hK => ?_) AllReadyH.nil)
                · skip
                  go_simp
                  have B2 := B1
                  have D2 := D1
                  have E2 := E1
                  refine hK.out _ _ ?s26 (fun hNew => ?r26)
                  case s26 => exact ⟨D2.out.2.1, E2.out.2.1⟩
                  clear hK K hHeld
                  have hHeld := hNew
                  clear hNew
                  refine wpAnyH_take (i := 10) (oi := { dst := some 70, op := Go.Op.binOp Go.BinOp.neq 5 (Go.Operand.tmp 66) (Go.Operand.tmp 69) 5, type := 4, pos := "law.go:109", after := #[{ on := 6, ground := Go.Ground.data }, { on := 9, ground := Go.Ground.data }, { on := 3, ground := Go.Ground.guard }], guard := some (3, true) }) (v := undef) rfl (by kernel_rfl) (by kernel_rfl) (by kernel_rfl) (fun _ _ _ h => h) (Or.inr ⟨by rfl, rfl⟩) (by assumption) ?_
                  try simp only [Act.put, List.setIfInBounds_toArray, List.set_cons_zero, List.set_cons_succ]
                  refine wpAnyH_take (i := 11) (oi := { dst := some 71, op := Go.Op.pick (Go.Operand.tmp 63) (Go.Operand.tmp 70) (Go.Operand.const (Go.Value.bool false)), type := 4, pos := "law.go:109", after := #[{ on := 3, ground := Go.Ground.data }, { on := 10, ground := Go.Ground.data }], guard := none }) (v := ?v28) rfl (by kernel_rfl) (by kernel_rfl) (by kernel_rfl) (fun _ _ _ h => h) (Or.inl ⟨by rfl, ?y28⟩) (by assumption) ?z28
                  case y28 => (intro w hSw; (try dsimp only at hSw); go_simp) <;> with_reducible rfl
                  try simp only [Act.put, List.setIfInBounds_toArray, List.set_cons_zero, List.set_cons_succ]
                  refine wpAnyH_take (i := 12) (oi := { dst := some 72, op := Go.Op.move (Go.Operand.tmp 71), type := 4, pos := "law.go:109", after := #[{ on := 11, ground := Go.Ground.data }, { on := 9, ground := Go.Ground.chain }], guard := none }) (v := ?v29) rfl (by kernel_rfl) (by kernel_rfl) (by kernel_rfl) (fun _ _ _ h => h) (Or.inl ⟨by rfl, ?y29⟩) (by assumption) ?z29
                  case y29 => (intro w hSw; (try dsimp only at hSw); go_simp) <;> with_reducible rfl
                  try simp only [Act.put, List.setIfInBounds_toArray, List.set_cons_zero, List.set_cons_succ]
                  refine wpAnyH_take (i := 13) (oi := { dst := some 73, op := Go.Op.load 26 (Go.Operand.tmp 12), type := 26, pos := "law.go:109", after := #[{ on := 12, ground := Go.Ground.guard }], guard := some (12, false) }) (v := ?v30) rfl (by kernel_rfl) (by kernel_rfl) (by kernel_rfl) (fun _ _ _ h => h) (Or.inl ⟨by rfl, ?y30⟩) (by assumption) ?z30
                  case y30 => (intro w hSw; (try dsimp only at hSw); go_simp) <;> with_reducible rfl
                  try simp only [Act.put, List.setIfInBounds_toArray, List.set_cons_zero, List.set_cons_succ]
                  refine wpAnyH_take (i := 14) (oi := { dst := some 74, op := Go.Op.move (Go.Operand.tmp 3), type := 36, pos := "law.go:109", after := #[{ on := 12, ground := Go.Ground.guard }], guard := some (12, false) }) (v := ?v31) rfl (by kernel_rfl) (by kernel_rfl) (by kernel_rfl) (fun _ _ _ h => h) (Or.inl ⟨by rfl, ?y31⟩) (by assumption) ?z31
                  case y31 => (intro w hSw; (try dsimp only at hSw); go_simp) <;> with_reducible rfl
                  try simp only [Act.put, List.setIfInBounds_toArray, List.set_cons_zero, List.set_cons_succ]
                  refine wpAnyH_take (i := 15) (oi := { dst := some 75, op := Go.Op.convert 36 3 (Go.Operand.tmp 74), type := 3, pos := "law.go:109", after := #[{ on := 14, ground := Go.Ground.data }, { on := 12, ground := Go.Ground.guard }], guard := some (12, false) }) (v := ?v32) rfl (by kernel_rfl) (by kernel_rfl) (by kernel_rfl) (fun _ _ _ h => h) (Or.inl ⟨by rfl, ?y32⟩) (by assumption) ?z32
                  case y32 => (intro w hSw; (try dsimp only at hSw); go_simp) <;> with_reducible rfl
                  try simp only [Act.put, List.setIfInBounds_toArray, List.set_cons_zero, List.set_cons_succ]
                  refine wpAnyH_take (i := 17) (oi := { dst := some 77, op := Go.Op.move (Go.Operand.tmp 15), type := 3, pos := "law.go:109", after := #[{ on := 12, ground := Go.Ground.guard }], guard := some (12, false) }) (v := ?v33) rfl (by kernel_rfl) (by kernel_rfl) (by kernel_rfl) (fun _ _ _ h => h) (Or.inl ⟨by rfl, ?y33⟩) (by assumption) ?z33
                  case y33 => (intro w hSw; (try dsimp only at hSw); go_simp) <;> with_reducible rfl
                  try simp only [Act.put, List.setIfInBounds_toArray, List.set_cons_zero, List.set_cons_succ]
                  refine wpAnyH_take (i := 19) (oi := { dst := some 79, op := Go.Op.load 26 (Go.Operand.tmp 12), type := 26, pos := "law.go:109", after := #[{ on := 12, ground := Go.Ground.guard }], guard := some (12, false) }) (v := ?v34) rfl (by kernel_rfl) (by kernel_rfl) (by kernel_rfl) (fun _ _ _ h => h) (Or.inl ⟨by rfl, ?y34⟩) (by assumption) ?z34
                  case y34 => (intro w hSw; (try dsimp only at hSw); go_simp) <;> with_reducible rfl
                  try simp only [Act.put, List.setIfInBounds_toArray, List.set_cons_zero, List.set_cons_succ]
                  refine wpAnyH_take (i := 20) (oi := { dst := some 80, op := Go.Op.move (Go.Operand.tmp 15), type := 3, pos := "law.go:109", after := #[{ on := 12, ground := Go.Ground.guard }], guard := some (12, false) }) (v := ?v35) rfl (by kernel_rfl) (by kernel_rfl) (by kernel_rfl) (fun _ _ _ h => h) (Or.inl ⟨by rfl, ?y35⟩) (by assumption) ?z35
                  case y35 => (intro w hSw; (try dsimp only at hSw); go_simp) <;> with_reducible rfl
                  try simp only [Act.put, List.setIfInBounds_toArray, List.set_cons_zero, List.set_cons_succ]
                  refine wpAnyH_ready (rs := [16]) (by kernel_rfl) (by simp) ?_
                  refine (AllReadyH.cons (o := { dst := some 76, op := Go.Op.call { callee := Go.Callee.value (Go.Operand.func 14), args := #[Go.Operand.tmp 73, Go.Operand.tmp 75], argTypes := #[26, 3] }, type := 26, pos := "law.go:109", after := #[{ on := 13, ground := Go.Ground.data }, { on := 15, ground := Go.Ground.data }, { on := 12, ground := Go.Ground.chain }, { on := 12, ground := Go.Ground.guard }], guard := some (12, false) }) rfl (fun K hK => ?_) AllReadyH.nil)
                  · skip
                    go_simp
                    with_reducible refine (C5.out _).mono ?_
                    rintro q_ u3 ⟨rfl, hb⟩
                    have B3 := Lib.hid (vian HN.out B2.out hb)
                    have D3 := Lib.hid (D2.out.below hb)
                    have E3 := Lib.hid (E2.out.below hb)
                    clear hb
                    refine hK.out _ _ ?s36 (fun hNew => ?r36)
                    case s36 => exact ⟨D3.out.2.1, E3.out.2.1⟩
                    clear hK K hHeld
                    have hHeld := hNew
                    clear hNew
                    refine wpAnyH_ready (rs := [18]) (by kernel_rfl) (by simp) ?_
                    refine (AllReadyH.cons (o := { dst := some 78, op := Go.Op.call { callee := Go.Callee.value (Go.Operand.func 12), args := #[Go.Operand.tmp 76, Go.Operand.tmp 77], argTypes := #[26, 3] }, type := 5, pos := "law.go:109", after := #[{ on := 16, ground := Go.Ground.data }, { on := 17, ground := Go.Ground.data }, { on := 16, ground := Go.Ground.chain }, { on := 12, ground := Go.Ground.guard }], guard := some (12, false) }) rfl (fun K hK => ?_) AllReadyH.nil)
                    · skip
                      go_simp
                      with_reducible refine (R3.out _).mono ?_
                      rintro q_ u4 ⟨rfl, hb⟩
                      have B4 := Lib.hid (vian HN.out B3.out hb)
                      have D4 := Lib.hid (D3.out.below hb)
                      have E4 := Lib.hid (E3.out.below hb)
                      clear hb
                      refine hK.out _ _ ?s37 (fun hNew => ?r37)
                      case s37 => exact ⟨D4.out.2.1, E4.out.2.1⟩
                      clear hK K hHeld
                      have hHeld := hNew
                      clear hNew
                      refine wpAnyH_ready (rs := [21]) (by kernel_rfl) (by simp) ?_
                      refine (AllReadyH.cons (o := { dst := some 81, op := Go.Op.call { callee := Go.Callee.value (Go.Operand.func 12), args := #[Go.Operand.tmp 79, Go.Operand.tmp 80], argTypes := #[26, 3] }, type := 5, pos := "law.go:109", after := #[{ on := 19, ground := Go.Ground.data }, { on := 20, ground := Go.Ground.data }, { on := 18, ground := Go.Ground.chain }, { on := 12, ground := Go.Ground.guard }], guard := some (12, false) }) rfl (fun K hK => ?_) AllReadyH.nil)
                      · skip
                        go_simp
                        with_reducible refine (R1.out _).mono ?_
                        rintro q_ u5 ⟨rfl, hb⟩
                        have B5 := Lib.hid (vian HN.out B4.out hb)
                        have D5 := Lib.hid (D4.out.below hb)
                        have E5 := Lib.hid (E4.out.below hb)
                        clear hb
                        refine hK.out _ _ ?s38 (fun hNew => ?r38)
                        case s38 => exact ⟨D5.out.2.1, E5.out.2.1⟩
                        clear hK K hHeld
                        have hHeld := hNew
                        clear hNew
                        refine wpAnyH_take (i := 22) (oi := { dst := some 82, op := Go.Op.binOp Go.BinOp.neq 5 (Go.Operand.tmp 78) (Go.Operand.tmp 81) 5, type := 4, pos := "law.go:109", after := #[{ on := 18, ground := Go.Ground.data }, { on := 21, ground := Go.Ground.data }, { on := 12, ground := Go.Ground.guard }], guard := some (12, false) }) (v := ?v39) rfl (by kernel_rfl) (by kernel_rfl) (by kernel_rfl) (fun _ _ _ h => h) (Or.inl ⟨by rfl, ?y39⟩) (by assumption) ?z39
                        case y39 => (intro w hSw; (try dsimp only at hSw); go_simp) <;> with_reducible rfl
                        try simp only [Act.put, List.setIfInBounds_toArray, List.set_cons_zero, List.set_cons_succ]
                        refine wpAnyH_take (i := 23) (oi := { dst := some 83, op := Go.Op.pick (Go.Operand.tmp 72) (Go.Operand.const (Go.Value.bool true)) (Go.Operand.tmp 82), type := 4, pos := "law.go:109", after := #[{ on := 12, ground := Go.Ground.data }, { on := 22, ground := Go.Ground.data }], guard := none }) (v := ?v40) rfl (by kernel_rfl) (by kernel_rfl) (by kernel_rfl) (fun _ _ _ h => h) (Or.inl ⟨by rfl, ?y40⟩) (by assumption) ?z40
                        case y40 => (intro w hSw; (try dsimp only at hSw); go_simp) <;> with_reducible rfl
                        try simp only [Act.put, List.setIfInBounds_toArray, List.set_cons_zero, List.set_cons_succ]
                        refine wpAnyH_done (by kernel_rfl) ?_ _
                        clear hHeld
                        go_wp2
                        go_roundg (gk - 1)
                        exact ⟨k + 1, by omega, by have := TG.out; omega, by simp, B5.out, D5.out, E5.out⟩
                        case measure => have := TG.out; omega
            · have R2 := Lib.hid (fun W => read_c e k y1 ((F2.out k hlt hkq).trans hy1) W)
              clear hy1
              have hne : ¬ (k : Int) = q := by omega
              have hbe : ((k : Int) == (q : Int)) = false := by rw [beq_eq_false_iff_ne]; exact hne
              have hbn : (k == q) = false := by rw [beq_eq_false_iff_ne]; exact hkq
              have hdn : decide (k = q) = false := decide_eq_false hkq
              have hdi : decide ((k : Int) = q) = false := decide_eq_false hne
              have hbm : (k != q) = true := by rw [bne, hbn]; rfl
              have hbi : ((k : Int) != (q : Int)) = true := by rw [bne, hbe]; rfl
              have hwr : IntKind.i64.wrap r = r := IntWalk.i64_in r (by omega)
              go_upto_region 18 with (fail)
              refine wp_region_held_drew (S := (fun w' => (∀ o, w'.cell? ⟨db, o, none⟩ = #[.int .u8 d.s, .int .u8 d.m, .int .u8 d.h, .int .i64 d.day, .int .i64 d.sub, .bool d.halt, .bool d.carry, .int .u8 d.a, .int .u8 d.b, .int .u8 d.c, .int .u8 d.d, .int .u8 d.e][o]?) ∧ (∀ o, w'.cell? ⟨eb, o, none⟩ = #[.int .u8 e.s, .int .u8 e.m, .int .u8 e.h, .int .i64 e.day, .int .i64 e.sub, .bool e.halt, .bool e.carry, .int .u8 e.a, .int .u8 e.b, .int .u8 e.c, .int .u8 e.d, .int .u8 e.e][o]?))) (by kernel_rfl) ⟨D0.out.2.1, E0.out.2.1⟩ (fun hHeld => ?_)
              generalize World.drew wr = u0 at hHeld B0 D0 E0 ⊢
              refine wpAnyH_take (i := 0) (oi := { dst := some 60, op := Go.Op.move (Go.Operand.tmp 15), type := 3, pos := "law.go:109", after := #[], guard := none }) (v := ?v41) rfl (by kernel_rfl) (by kernel_rfl) (by kernel_rfl) (fun _ _ _ h => h) (Or.inl ⟨by rfl, ?y41⟩) (by assumption) ?z41
              case y41 => (intro w hSw; (try dsimp only at hSw); go_simp) <;> with_reducible rfl
              try simp only [Act.put, List.setIfInBounds_toArray, List.set_cons_zero, List.set_cons_succ]
              refine wpAnyH_take (i := 1) (oi := { dst := some 61, op := Go.Op.move (Go.Operand.tmp 11), type := 3, pos := "law.go:109", after := #[], guard := none }) (v := ?v42) rfl (by kernel_rfl) (by kernel_rfl) (by kernel_rfl) (fun _ _ _ h => h) (Or.inl ⟨by rfl, ?y42⟩) (by assumption) ?z42
              case y42 => (intro w hSw; (try dsimp only at hSw); go_simp) <;> with_reducible rfl
              try simp only [Act.put, List.setIfInBounds_toArray, List.set_cons_zero, List.set_cons_succ]
              refine wpAnyH_take (i := 2) (oi := { dst := some 62, op := Go.Op.binOp Go.BinOp.neq 3 (Go.Operand.tmp 60) (Go.Operand.tmp 61) 3, type := 4, pos := "law.go:109", after := #[{ on := 0, ground := Go.Ground.data }, { on := 1, ground := Go.Ground.data }], guard := none }) (v := ?v43) rfl (by kernel_rfl) (by kernel_rfl) (by kernel_rfl) (fun _ _ _ h => h) (Or.inl ⟨by rfl, ?y43⟩) (by assumption) ?z43
              case y43 => (intro w hSw; (try dsimp only at hSw); go_simp) <;> with_reducible rfl
              try simp only [Act.put, List.setIfInBounds_toArray, List.set_cons_zero, List.set_cons_succ]
              refine wpAnyH_take (i := 3) (oi := { dst := some 63, op := Go.Op.move (Go.Operand.tmp 62), type := 4, pos := "law.go:109", after := #[{ on := 2, ground := Go.Ground.data }], guard := none }) (v := ?v44) rfl (by kernel_rfl) (by kernel_rfl) (by kernel_rfl) (fun _ _ _ h => h) (Or.inl ⟨by rfl, ?y44⟩) (by assumption) ?z44
              case y44 => (intro w hSw; (try dsimp only at hSw); go_simp) <;> with_reducible rfl
              try simp only [Act.put, List.setIfInBounds_toArray, List.set_cons_zero, List.set_cons_succ]
              refine wpAnyH_take (i := 4) (oi := { dst := some 64, op := Go.Op.load 26 (Go.Operand.tmp 12), type := 26, pos := "law.go:109", after := #[{ on := 3, ground := Go.Ground.guard }], guard := some (3, true) }) (v := ?v45) rfl (by kernel_rfl) (by kernel_rfl) (by kernel_rfl) (fun _ _ _ h => h) (Or.inl ⟨by rfl, ?y45⟩) (by assumption) ?z45
              case y45 => (intro w hSw; (try dsimp only at hSw); go_simp) <;> with_reducible rfl
              try simp only [Act.put, List.setIfInBounds_toArray, List.set_cons_zero, List.set_cons_succ]
              refine wpAnyH_take (i := 5) (oi := { dst := some 65, op := Go.Op.move (Go.Operand.tmp 15), type := 3, pos := "law.go:109", after := #[{ on := 3, ground := Go.Ground.guard }], guard := some (3, true) }) (v := ?v46) rfl (by kernel_rfl) (by kernel_rfl) (by kernel_rfl) (fun _ _ _ h => h) (Or.inl ⟨by rfl, ?y46⟩) (by assumption) ?z46
              case y46 => (intro w hSw; (try dsimp only at hSw); go_simp) <;> with_reducible rfl
              try simp only [Act.put, List.setIfInBounds_toArray, List.set_cons_zero, List.set_cons_succ]
              refine wpAnyH_take (i := 7) (oi := { dst := some 67, op := Go.Op.load 26 (Go.Operand.tmp 13), type := 26, pos := "law.go:109", after := #[{ on := 3, ground := Go.Ground.guard }], guard := some (3, true) }) (v := ?v47) rfl (by kernel_rfl) (by kernel_rfl) (by kernel_rfl) (fun _ _ _ h => h) (Or.inl ⟨by rfl, ?y47⟩) (by assumption) ?z47
              case y47 => (intro w hSw; (try dsimp only at hSw); go_simp) <;> with_reducible rfl
              try simp only [Act.put, List.setIfInBounds_toArray, List.set_cons_zero, List.set_cons_succ]
              refine wpAnyH_take (i := 8) (oi := { dst := some 68, op := Go.Op.move (Go.Operand.tmp 15), type := 3, pos := "law.go:109", after := #[{ on := 3, ground := Go.Ground.guard }], guard := some (3, true) }) (v := ?v48) rfl (by kernel_rfl) (by kernel_rfl) (by kernel_rfl) (fun _ _ _ h => h) (Or.inl ⟨by rfl, ?y48⟩) (by assumption) ?z48
              case y48 => (intro w hSw; (try dsimp only at hSw); go_simp) <;> with_reducible rfl
              try simp only [Act.put, List.setIfInBounds_toArray, List.set_cons_zero, List.set_cons_succ]
              refine wpAnyH_ready (rs := [6]) (by kernel_rfl) (by simp) ?_
              refine (AllReadyH.cons (o := { dst := some 66, op := Go.Op.call { callee := Go.Callee.value (Go.Operand.func 12), args := #[Go.Operand.tmp 64, Go.Operand.tmp 65], argTypes := #[26, 3] }, type := 5, pos := "law.go:109", after := #[{ on := 4, ground := Go.Ground.data }, { on := 5, ground := Go.Ground.data }, { on := 3, ground := Go.Ground.chain }, { on := 3, ground := Go.Ground.guard }], guard := some (3, true) }) rfl (fun K hK => ?_) AllReadyH.nil)
              · skip
                go_simp
                with_reducible refine (R1.out _).mono ?_
                rintro q_ u1 ⟨rfl, hb⟩
                have B1 := Lib.hid (vian HN.out B0.out hb)
                have D1 := Lib.hid (D0.out.below hb)
                have E1 := Lib.hid (E0.out.below hb)
                clear hb
                refine hK.out _ _ ?s49 (fun hNew => ?r49)
                case s49 => exact ⟨D1.out.2.1, E1.out.2.1⟩
                clear hK K hHeld
                have hHeld := hNew
                clear hNew
                refine wpAnyH_ready (rs := [9]) (by kernel_rfl) (by simp) ?_
                refine (AllReadyH.cons (o := { dst := some 69, op := Go.Op.call { callee := Go.Callee.value (Go.Operand.func 12), args := #[Go.Operand.tmp 67, Go.Operand.tmp 68], argTypes := #[26, 3] }, type := 5, pos := "law.go:109", after := #[{ on := 7, ground := Go.Ground.data }, { on := 8, ground := Go.Ground.data }, { on := 6, ground := Go.Ground.chain }, { on := 3, ground := Go.Ground.guard }], guard := some (3, true) }) rfl (fun K hK => ?_) AllReadyH.nil)
                · skip
                  go_simp
                  with_reducible refine (R2.out _).mono ?_
                  rintro q_ u2 ⟨rfl, hb⟩
                  have B2 := Lib.hid (vian HN.out B1.out hb)
                  have D2 := Lib.hid (D1.out.below hb)
                  have E2 := Lib.hid (E1.out.below hb)
                  clear hb
                  refine hK.out _ _ ?s50 (fun hNew => ?r50)
                  case s50 => exact ⟨D2.out.2.1, E2.out.2.1⟩
                  clear hK K hHeld
                  have hHeld := hNew
                  clear hNew
                  refine wpAnyH_take (i := 10) (oi := { dst := some 70, op := Go.Op.binOp Go.BinOp.neq 5 (Go.Operand.tmp 66) (Go.Operand.tmp 69) 5, type := 4, pos := "law.go:109", after := #[{ on := 6, ground := Go.Ground.data }, { on := 9, ground := Go.Ground.data }, { on := 3, ground := Go.Ground.guard }], guard := some (3, true) }) (v := ?v51) rfl (by kernel_rfl) (by kernel_rfl) (by kernel_rfl) (fun _ _ _ h => h) (Or.inl ⟨by rfl, ?y51⟩) (by assumption) ?z51
                  case y51 => (intro w hSw; (try dsimp only at hSw); go_simp) <;> with_reducible rfl
                  try simp only [Act.put, List.setIfInBounds_toArray, List.set_cons_zero, List.set_cons_succ]
                  refine wpAnyH_take (i := 11) (oi := { dst := some 71, op := Go.Op.pick (Go.Operand.tmp 63) (Go.Operand.tmp 70) (Go.Operand.const (Go.Value.bool false)), type := 4, pos := "law.go:109", after := #[{ on := 3, ground := Go.Ground.data }, { on := 10, ground := Go.Ground.data }], guard := none }) (v := ?v52) rfl (by kernel_rfl) (by kernel_rfl) (by kernel_rfl) (fun _ _ _ h => h) (Or.inl ⟨by rfl, ?y52⟩) (by assumption) ?z52
                  case y52 => (intro w hSw; (try dsimp only at hSw); go_simp) <;> with_reducible rfl
                  try simp only [Act.put, List.setIfInBounds_toArray, List.set_cons_zero, List.set_cons_succ]
                  refine wpAnyH_take (i := 12) (oi := { dst := some 72, op := Go.Op.move (Go.Operand.tmp 71), type := 4, pos := "law.go:109", after := #[{ on := 11, ground := Go.Ground.data }, { on := 9, ground := Go.Ground.chain }], guard := none }) (v := ?v53) rfl (by kernel_rfl) (by kernel_rfl) (by kernel_rfl) (fun _ _ _ h => h) (Or.inl ⟨by rfl, ?y53⟩) (by assumption) ?z53
                  case y53 => (intro w hSw; (try dsimp only at hSw); go_simp) <;> with_reducible rfl
                  try simp only [Act.put, List.setIfInBounds_toArray, List.set_cons_zero, List.set_cons_succ]
                  refine wpAnyH_take (i := 13) (oi := { dst := some 73, op := Go.Op.load 26 (Go.Operand.tmp 12), type := 26, pos := "law.go:109", after := #[{ on := 12, ground := Go.Ground.guard }], guard := some (12, false) }) (v := ?v54) rfl (by kernel_rfl) (by kernel_rfl) (by kernel_rfl) (fun _ _ _ h => h) (Or.inl ⟨by rfl, ?y54⟩) (by assumption) ?z54
                  case y54 => (intro w hSw; (try dsimp only at hSw); go_simp) <;> with_reducible rfl
                  try simp only [Act.put, List.setIfInBounds_toArray, List.set_cons_zero, List.set_cons_succ]
                  refine wpAnyH_take (i := 14) (oi := { dst := some 74, op := Go.Op.move (Go.Operand.tmp 3), type := 36, pos := "law.go:109", after := #[{ on := 12, ground := Go.Ground.guard }], guard := some (12, false) }) (v := ?v55) rfl (by kernel_rfl) (by kernel_rfl) (by kernel_rfl) (fun _ _ _ h => h) (Or.inl ⟨by rfl, ?y55⟩) (by assumption) ?z55
                  case y55 => (intro w hSw; (try dsimp only at hSw); go_simp) <;> with_reducible rfl
                  try simp only [Act.put, List.setIfInBounds_toArray, List.set_cons_zero, List.set_cons_succ]
                  refine wpAnyH_take (i := 15) (oi := { dst := some 75, op := Go.Op.convert 36 3 (Go.Operand.tmp 74), type := 3, pos := "law.go:109", after := #[{ on := 14, ground := Go.Ground.data }, { on := 12, ground := Go.Ground.guard }], guard := some (12, false) }) (v := ?v56) rfl (by kernel_rfl) (by kernel_rfl) (by kernel_rfl) (fun _ _ _ h => h) (Or.inl ⟨by rfl, ?y56⟩) (by assumption) ?z56
                  case y56 => (intro w hSw; (try dsimp only at hSw); go_simp) <;> with_reducible rfl
                  try simp only [Act.put, List.setIfInBounds_toArray, List.set_cons_zero, List.set_cons_succ]
                  refine wpAnyH_take (i := 17) (oi := { dst := some 77, op := Go.Op.move (Go.Operand.tmp 15), type := 3, pos := "law.go:109", after := #[{ on := 12, ground := Go.Ground.guard }], guard := some (12, false) }) (v := ?v57) rfl (by kernel_rfl) (by kernel_rfl) (by kernel_rfl) (fun _ _ _ h => h) (Or.inl ⟨by rfl, ?y57⟩) (by assumption) ?z57
                  case y57 => (intro w hSw; (try dsimp only at hSw); go_simp) <;> with_reducible rfl
                  try simp only [Act.put, List.setIfInBounds_toArray, List.set_cons_zero, List.set_cons_succ]
                  refine wpAnyH_take (i := 19) (oi := { dst := some 79, op := Go.Op.load 26 (Go.Operand.tmp 12), type := 26, pos := "law.go:109", after := #[{ on := 12, ground := Go.Ground.guard }], guard := some (12, false) }) (v := ?v58) rfl (by kernel_rfl) (by kernel_rfl) (by kernel_rfl) (fun _ _ _ h => h) (Or.inl ⟨by rfl, ?y58⟩) (by assumption) ?z58
                  case y58 => (intro w hSw; (try dsimp only at hSw); go_simp) <;> with_reducible rfl
                  try simp only [Act.put, List.setIfInBounds_toArray, List.set_cons_zero, List.set_cons_succ]
                  refine wpAnyH_take (i := 20) (oi := { dst := some 80, op := Go.Op.move (Go.Operand.tmp 15), type := 3, pos := "law.go:109", after := #[{ on := 12, ground := Go.Ground.guard }], guard := some (12, false) }) (v := ?v59) rfl (by kernel_rfl) (by kernel_rfl) (by kernel_rfl) (fun _ _ _ h => h) (Or.inl ⟨by rfl, ?y59⟩) (by assumption) ?z59
                  case y59 => (intro w hSw; (try dsimp only at hSw); go_simp) <;> with_reducible rfl
                  try simp only [Act.put, List.setIfInBounds_toArray, List.set_cons_zero, List.set_cons_succ]
                  refine wpAnyH_ready (rs := [16]) (by kernel_rfl) (by simp) ?_
                  refine (AllReadyH.cons (o := { dst := some 76, op := Go.Op.call { callee := Go.Callee.value (Go.Operand.func 14), args := #[Go.Operand.tmp 73, Go.Operand.tmp 75], argTypes := #[26, 3] }, type := 26, pos := "law.go:109", after := #[{ on := 13, ground := Go.Ground.data }, { on := 15, ground := Go.Ground.data }, { on := 12, ground := Go.Ground.chain }, { on := 12, ground := Go.Ground.guard }], guard := some (12, false) }) rfl (fun K hK => ?_) AllReadyH.nil)
                  · skip
                    go_simp
                    with_reducible refine (C5.out _).mono ?_
                    rintro q_ u3 ⟨rfl, hb⟩
                    have B3 := Lib.hid (vian HN.out B2.out hb)
                    have D3 := Lib.hid (D2.out.below hb)
                    have E3 := Lib.hid (E2.out.below hb)
                    clear hb
                    refine hK.out _ _ ?s60 (fun hNew => ?r60)
                    case s60 => exact ⟨D3.out.2.1, E3.out.2.1⟩
                    clear hK K hHeld
                    have hHeld := hNew
                    clear hNew
                    refine wpAnyH_ready (rs := [18]) (by kernel_rfl) (by simp) ?_
                    refine (AllReadyH.cons (o := { dst := some 78, op := Go.Op.call { callee := Go.Callee.value (Go.Operand.func 12), args := #[Go.Operand.tmp 76, Go.Operand.tmp 77], argTypes := #[26, 3] }, type := 5, pos := "law.go:109", after := #[{ on := 16, ground := Go.Ground.data }, { on := 17, ground := Go.Ground.data }, { on := 16, ground := Go.Ground.chain }, { on := 12, ground := Go.Ground.guard }], guard := some (12, false) }) rfl (fun K hK => ?_) AllReadyH.nil)
                    · skip
                      go_simp
                      with_reducible refine (R3.out _).mono ?_
                      rintro q_ u4 ⟨rfl, hb⟩
                      have B4 := Lib.hid (vian HN.out B3.out hb)
                      have D4 := Lib.hid (D3.out.below hb)
                      have E4 := Lib.hid (E3.out.below hb)
                      clear hb
                      refine hK.out _ _ ?s61 (fun hNew => ?r61)
                      case s61 => exact ⟨D4.out.2.1, E4.out.2.1⟩
                      clear hK K hHeld
                      have hHeld := hNew
                      clear hNew
                      refine wpAnyH_ready (rs := [21]) (by kernel_rfl) (by simp) ?_
                      refine (AllReadyH.cons (o := { dst := some 81, op := Go.Op.call { callee := Go.Callee.value (Go.Operand.func 12), args := #[Go.Operand.tmp 79, Go.Operand.tmp 80], argTypes := #[26, 3] }, type := 5, pos := "law.go:109", after := #[{ on := 19, ground := Go.Ground.data }, { on := 20, ground := Go.Ground.data }, { on := 18, ground := Go.Ground.chain }, { on := 12, ground := Go.Ground.guard }], guard := some (12, false) }) rfl (fun K hK => ?_) AllReadyH.nil)
                      · skip
                        go_simp
                        with_reducible refine (R1.out _).mono ?_
                        rintro q_ u5 ⟨rfl, hb⟩
                        have B5 := Lib.hid (vian HN.out B4.out hb)
                        have D5 := Lib.hid (D4.out.below hb)
                        have E5 := Lib.hid (E4.out.below hb)
                        clear hb
                        refine hK.out _ _ ?s62 (fun hNew => ?r62)
                        case s62 => exact ⟨D5.out.2.1, E5.out.2.1⟩
                        clear hK K hHeld
                        have hHeld := hNew
                        clear hNew
                        refine wpAnyH_take (i := 22) (oi := { dst := some 82, op := Go.Op.binOp Go.BinOp.neq 5 (Go.Operand.tmp 78) (Go.Operand.tmp 81) 5, type := 4, pos := "law.go:109", after := #[{ on := 18, ground := Go.Ground.data }, { on := 21, ground := Go.Ground.data }, { on := 12, ground := Go.Ground.guard }], guard := some (12, false) }) (v := ?v63) rfl (by kernel_rfl) (by kernel_rfl) (by kernel_rfl) (fun _ _ _ h => h) (Or.inl ⟨by rfl, ?y63⟩) (by assumption) ?z63
                        case y63 => (intro w hSw; (try dsimp only at hSw); go_simp) <;> with_reducible rfl
                        try simp only [Act.put, List.setIfInBounds_toArray, List.set_cons_zero, List.set_cons_succ]
                        refine wpAnyH_take (i := 23) (oi := { dst := some 83, op := Go.Op.pick (Go.Operand.tmp 72) (Go.Operand.const (Go.Value.bool true)) (Go.Operand.tmp 82), type := 4, pos := "law.go:109", after := #[{ on := 12, ground := Go.Ground.data }, { on := 22, ground := Go.Ground.data }], guard := none }) (v := ?v64) rfl (by kernel_rfl) (by kernel_rfl) (by kernel_rfl) (fun _ _ _ h => h) (Or.inl ⟨by rfl, ?y64⟩) (by assumption) ?z64
                        case y64 => (intro w hSw; (try dsimp only at hSw); go_simp) <;> with_reducible rfl
                        try simp only [Act.put, List.setIfInBounds_toArray, List.set_cons_zero, List.set_cons_succ]
                        refine wpAnyH_done (by kernel_rfl) ?_ _
                        clear hHeld
                        go_wp2
                        go_roundg (gk - 1)
                        exact ⟨k + 1, by omega, by have := TG.out; omega, by simp, B5.out, D5.out, E5.out⟩
                        case measure => have := TG.out; omega
          · have et : k = 5 := by omega
            subst et
            go_wp2
            go_ret
            exact ⟨rfl, TB.out⟩
theorem reads_walk (v : Value) (p x r : Nat) (p1 : p < 256) (x1 : x < 256) (r1 : r < 4294967296) (w : World) (h : OpsIn w v) : Calls Try.prog 6 #[v, .int .u8 (p : Int), .int .u8 (x : Int), .int .u32 (r : Int)] w fun e w' => e = .returned (.bool true) ∧ Below w.heap.size w w' := by
  obtain ⟨a, n, c, rfl, hm, f, g, h, hh, hi⟩ := h
  by_cases h0 : 60 < n
  · exact reads_long p x r a n c h0 w
  · exact reads_some p x r (p % 5) (by omega) (by omega) (by omega) (by omega) (by omega) (by omega) (by omega) a n c h0 f g h hh w hi
end Go.Proofs.Ytkpjoongbckhcaa
