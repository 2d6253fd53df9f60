/-
  What six steps make of the code of CpuStacks: the processor is as it was, but for its PC; no condition beyond those that each statement names.
-/
import Derived.Test.YtngdogldgcgnjaaGreatPure
import Derived.Laws.BitsAllLaws
namespace Go.Proofs.YtngdogldgcgnjaaGreat
open Go.ChangeShapes Go.WideShapes Go.ChangeAt Go.RowKit
open Reg
open Alu hiding decF
set_option linter.unusedVariables false

theorem fv_ok {f : Int} (h0 : 0 ≤ f) (h1 : f < 256) : 0 ≤ bits BinOp.and IntKind.u8 f 240 ∧ bits BinOp.and IntKind.u8 f 240 < 256 := by
  rw [low4 f h0 h1]; omega
theorem tv_ok {t : Int} (t0 : 0 ≤ t) (t1 : t < 65536) : ∃ tn : Nat, bits BinOp.or IntKind.u16 16384 (bits BinOp.and IntKind.u16 t 16383) = (tn : Int) ∧ 16384 ≤ tn ∧ tn < 32768 := by
  obtain ⟨T, rfl⟩ := Int.eq_ofNat_of_zero_le t0
  have e1 := u16_and_nat T 16383 (by omega) (by omega)
  have h1 : T &&& 16383 < 2 ^ 14 := Nat.and_lt_two_pow _ (by decide)
  have e2 := u16_or_nat 16384 (T &&& 16383) (by omega) (by omega)
  refine ⟨16384 ||| (T &&& 16383), ?_, Nat.left_le_or, ?_⟩
  · rw [← e2, ← e1]; rfl
  · exact Nat.or_lt_two_pow (n := 15) (by decide) (by omega)

def R (r : RR) (m : Int → Int) (acc : List Ac) : Sy := ⟨⟨r, false, false, false, false⟩, m, acc⟩
theorem oneS (p : Int) (r : RR) (m : Int → Int) (acc : List Ac) (o : OpV) (hm : decF (m p).toNat 0 0 = o) (hs : o.s = 1) (h0 : 0 ≤ p) (h1 : p < 65536) (hp : r.pc = p) :
    stepS (R r m acc) = doneS o (takenV o (fetch1 (R r m acc))) (fetch1 (R r m acc)) := by
  subst hp
  have hb : byteV 0 (R r m acc) = m r.pc := by unfold byteV R; simp; rw [Int.emod_eq_of_lt h0 h1]
  have hz : szV (byteV 0 (R r m acc)) = 1 := by rw [hb]; unfold szV; rw [hm, hs]
  have ho : opV (R r m acc) = o := by unfold opV; rw [hz, hb]; exact hm
  have hf : fetchS (R r m acc) = fetch1 (R r m acc) := by unfold fetchS; rw [hz]; rfl
  show runS (R r m acc) = _
  unfold runS
  rw [ho, hf]
  rfl
theorem callS (p : Int) (r : RR) (m : Int → Int) (acc : List Ac) (t : Nat) (ht : t < 65536) (h0 : 0 ≤ p) (h1 : p < 65533) (c0 : m p = 205) (c1 : m (p + 1) = (t : Int) % 256) (c2 : m (p + 2) = (t : Int) / 256) (hp : r.pc = p) :
    stepS (R r m acc) = doneS ⟨25, 4, 0, 3, t⟩ true (fetch1 (fetch1 (fetch1 (R r m acc)))) := by
  subst hp
  have hb : byteV 0 (R r m acc) = 205 := by unfold byteV R; simp; rw [Int.emod_eq_of_lt h0 (by omega)]; exact c0
  have hb1 : byteV 1 (R r m acc) = (t : Int) % 256 := by unfold byteV R; simp; rw [Int.emod_eq_of_lt (by omega) (by omega)]; exact c1
  have hb2 : byteV 2 (R r m acc) = (t : Int) / 256 := by unfold byteV R; simp; rw [Int.emod_eq_of_lt (by omega) (by omega)]; exact c2
  have hz : szV (byteV 0 (R r m acc)) = 3 := by rw [hb]; kernel_rfl
  have ho : opV (R r m acc) = ⟨25, 4, 0, 3, t⟩ := by
    unfold opV; rw [hz, hb, hb1, hb2]
    show (⟨25, 4, 0, 3, ((((t : Int) / 256).toNat : Nat) : Int) * 256 + ((((t : Int) % 256).toNat : Nat) : Int)⟩ : OpV) = _
    congr 1
    omega
  have hf : fetchS (R r m acc) = fetch1 (fetch1 (fetch1 (R r m acc))) := by unfold fetchS; rw [hz]; rfl
  show runS (R r m acc) = _
  unfold runS
  rw [ho, hf]
  rfl
theorem upd_same (m : Int → Int) (a x : Int) : upd m a x a = x := by simp [upd]
theorem upd_far (m : Int → Int) (a x k : Int) (h : ¬ k = a) : upd m a x k = m k := by simp [upd, h]

theorem callL (t : Int) (r : RR) (m : Int → Int) (acc : List Ac) : doneS ⟨25, 4, 0, 3, t⟩ true (fetch1 (fetch1 (fetch1 (R r m acc)))) = R { r with sp := dn (dn r.sp), pc := t } (upd (upd m (dn r.sp) (up (up (up r.pc)) / 256)) (dn (dn r.sp)) (up (up (up r.pc)) % 256)) (doneS ⟨25, 4, 0, 3, t⟩ true (fetch1 (fetch1 (fetch1 (R r m acc))))).acc := by kernel_rfl
theorem retL (r : RR) (m : Int → Int) (acc : List Ac) : doneS ⟨26, 4, 0, 1, 0⟩ (takenV ⟨26, 4, 0, 1, 0⟩ (fetch1 (R r m acc))) (fetch1 (R r m acc)) = R { r with sp := up (up r.sp), pc := m (up r.sp) * 256 + m r.sp } m (doneS ⟨26, 4, 0, 1, 0⟩ (takenV ⟨26, 4, 0, 1, 0⟩ (fetch1 (R r m acc))) (fetch1 (R r m acc))).acc := by kernel_rfl
theorem popL (q : Int) (t : Bool) (r : RR) (m : Int → Int) (acc : List Ac) : doneS ⟨31, q, 0, 1, 0⟩ t (fetch1 (R r m acc)) = R (setP { r with sp := up (up r.sp), pc := up r.pc } q (m (up r.sp) * 256 + m r.sp)) m (doneS ⟨31, q, 0, 1, 0⟩ t (fetch1 (R r m acc))).acc := by kernel_rfl
theorem rstL (n : Int) (t : Bool) (r : RR) (m : Int → Int) (acc : List Ac) : doneS ⟨28, 0, 0, 1, n⟩ t (fetch1 (R r m acc)) = R { r with sp := dn (dn r.sp), pc := n } (upd (upd m (dn r.sp) (up r.pc / 256)) (dn (dn r.sp)) (up r.pc % 256)) (doneS ⟨28, 0, 0, 1, n⟩ t (fetch1 (R r m acc))).acc := by kernel_rfl
theorem up3 : up (up (up 257)) = 260 := by decide
theorem up1 : up 261 = 262 := by decide
theorem up260 : up 260 = 261 := by decide
theorem upa : up 53244 = 53245 ∧ up 53245 = 53246 ∧ up 53246 = 53247 ∧ up 53247 = 53248 := by decide
theorem dna : dn 53248 = 53247 ∧ dn 53247 = 53246 ∧ dn 53246 = 53245 ∧ dn 53245 = 53244 := by decide
/-- Six steps: push, call, return, pop, restart, return. -/
theorem sixS (r : RR) (q : Int) (m : Int → Int) (acc : List Ac) (tn kn : Nat) (t0 : 16384 ≤ tn) (t1 : tn < 32768) (k1 : kn < 64)
    (hq : decF (m 256).toNat 0 0 = ⟨30, q, 0, 1, 0⟩) (c0 : m 257 = 205) (c1 : m 258 = (tn : Int) % 256) (c2 : m 259 = (tn : Int) / 256)
    (hp : decF (m 260).toNat 0 0 = ⟨31, q, 0, 1, 0⟩) (hr : decF (m 261).toNat 0 0 = ⟨28, 0, 0, 1, kn⟩) (ht : m tn = 201) (hk : m kn = 201)
    (hb : ∀ sp pc, setP { r with sp := sp, pc := pc } q (pairV r q) = { r with sp := sp, pc := pc }) (hv : ∀ sp pc, pairV { r with sp := sp, pc := pc } q = pairV r q) (hd : pairV r q / 256 * 256 + pairV r q % 256 = pairV r q) :
    (stepS (stepS (stepS (stepS (stepS (stepS (R { r with sp := 53248, pc := 256 } m acc))))))).s = ⟨{ r with sp := 53248, pc := 262 }, false, false, false, false⟩ := by
  have d201 : decF 201 0 0 = ⟨26, 4, 0, 1, 0⟩ := by kernel_rfl
  obtain ⟨a1, e1⟩ : ∃ a, stepS (R { r with sp := 53248, pc := 256 } m acc) = R { r with sp := 53246, pc := 257 } (upd (upd m 53247 (pairV r q / 256)) 53246 (pairV r q % 256)) a := by
    rw [oneS 256 _ m acc _ hq rfl (by decide) (by decide) rfl]
    show ∃ a, pushS (pairV { r with sp := 53248, pc := 257 } q) (fetch1 (R { r with sp := 53248, pc := 256 } m acc)) = _
    rw [hv]
    exact ⟨_, rfl⟩
  rw [e1]; clear e1
  obtain ⟨m1, hm1⟩ : ∃ m1, m1 = upd (upd m 53247 (pairV r q / 256)) 53246 (pairV r q % 256) := ⟨_, rfl⟩
  have f1 : ∀ k : Int, k < 53246 → m1 k = m k := fun k hk => by rw [hm1, upd_far _ _ _ _ (by omega), upd_far _ _ _ _ (by omega)]
  rw [← hm1]
  obtain ⟨a2, e2⟩ : ∃ a, stepS (R { r with sp := 53246, pc := 257 } m1 a1) = R { r with sp := 53244, pc := tn } (upd (upd m1 53245 1) 53244 4) a := by
    rw [callS 257 _ m1 a1 tn (by omega) (by decide) (by decide) ((f1 257 (by decide)).trans c0) ((f1 258 (by decide)).trans c1) ((f1 259 (by decide)).trans c2) rfl, callL]
    dsimp only
    rw [up3, dna.2.2.1, dna.2.2.2]
    exact ⟨_, rfl⟩
  rw [e2]; clear e2
  obtain ⟨m2, hm2⟩ : ∃ m2, m2 = upd (upd m1 53245 1) 53244 4 := ⟨_, rfl⟩
  have f2 : ∀ k : Int, k < 53244 → m2 k = m k := fun k hk => by rw [hm2, upd_far _ _ _ _ (by omega), upd_far _ _ _ _ (by omega), f1 k (by omega)]
  have g2 : m2 53244 = 4 := by rw [hm2, upd_same]
  have g3 : m2 53245 = 1 := by rw [hm2, upd_far _ _ _ _ (by decide), upd_same]
  have g4 : m2 53246 = pairV r q % 256 := by rw [hm2, upd_far _ _ _ _ (by decide), upd_far _ _ _ _ (by decide), hm1, upd_same]
  have g5 : m2 53247 = pairV r q / 256 := by rw [hm2, upd_far _ _ _ _ (by decide), upd_far _ _ _ _ (by decide), hm1, upd_far _ _ _ _ (by decide), upd_same]
  rw [← hm2]
  obtain ⟨a3, e3⟩ : ∃ a, stepS (R { r with sp := 53244, pc := tn } m2 a2) = R { r with sp := 53246, pc := 260 } m2 a := by
    rw [oneS tn _ m2 a2 ⟨26, 4, 0, 1, 0⟩ (by rw [f2 tn (by omega), ht]; exact d201) rfl (by omega) (by omega) rfl, retL]
    dsimp only
    rw [upa.1, upa.2.1, g2, g3]
    exact ⟨_, rfl⟩
  rw [e3]; clear e3
  obtain ⟨a4, e4⟩ : ∃ a, stepS (R { r with sp := 53246, pc := 260 } m2 a3) = R { r with sp := 53248, pc := 261 } m2 a := by
    rw [oneS 260 _ m2 a3 ⟨31, q, 0, 1, 0⟩ (by rw [f2 260 (by decide)]; exact hp) rfl (by decide) (by decide) rfl, popL]
    dsimp only
    rw [up260, upa.2.2.1, upa.2.2.2, g4, g5, hd, hb]
    exact ⟨_, rfl⟩
  rw [e4]; clear e4
  obtain ⟨a5, e5⟩ : ∃ a, stepS (R { r with sp := 53248, pc := 261 } m2 a4) = R { r with sp := 53246, pc := kn } (upd (upd m2 53247 1) 53246 6) a := by
    rw [oneS 261 _ m2 a4 ⟨28, 0, 0, 1, kn⟩ (by rw [f2 261 (by decide)]; exact hr) rfl (by decide) (by decide) rfl, rstL]
    dsimp only
    rw [up1, dna.1, dna.2.1]
    exact ⟨_, rfl⟩
  rw [e5]; clear e5
  obtain ⟨m5, hm5⟩ : ∃ m5, m5 = upd (upd m2 53247 1) 53246 6 := ⟨_, rfl⟩
  have f5 : m5 kn = 201 := by rw [hm5, upd_far _ _ _ _ (by omega), upd_far _ _ _ _ (by omega), f2 kn (by omega), hk]
  have g6 : m5 53246 = 6 := by rw [hm5, upd_same]
  have g7 : m5 53247 = 1 := by rw [hm5, upd_far _ _ _ _ (by decide), upd_same]
  rw [← hm5]
  rw [oneS kn _ m5 a5 ⟨26, 4, 0, 1, 0⟩ (by rw [f5]; exact d201) rfl (by omega) (by omega) rfl, retL]
  dsimp only [R]
  rw [upa.2.2.1, upa.2.2.2, g6, g7]
  rfl
theorem back (r : RR) (ok : r.ok) (hf : r.f % 16 = 0) (q : Int) (hq : q = 0 ∨ q = 1 ∨ q = 2 ∨ q = 4) (sp pc : Int) : setP { r with sp := sp, pc := pc } q (pairV r q) = { r with sp := sp, pc := pc } := by
  obtain ⟨ha, hf', hb, hc, hd, he, hh, hl, _, _⟩ := ok
  rcases hq with rfl | rfl | rfl | rfl
  · show ({ r with sp := sp, pc := pc, b := (r.b * 256 + r.c) / 256, c := (r.b * 256 + r.c) % 256 } : RR) = _
    rw [show (r.b * 256 + r.c) / 256 = r.b by omega, show (r.b * 256 + r.c) % 256 = r.c by omega]
  · show ({ r with sp := sp, pc := pc, d := (r.d * 256 + r.e) / 256, e := (r.d * 256 + r.e) % 256 } : RR) = _
    rw [show (r.d * 256 + r.e) / 256 = r.d by omega, show (r.d * 256 + r.e) % 256 = r.e by omega]
  · show ({ r with sp := sp, pc := pc, h := (r.h * 256 + r.l) / 256, l := (r.h * 256 + r.l) % 256 } : RR) = _
    rw [show (r.h * 256 + r.l) / 256 = r.h by omega, show (r.h * 256 + r.l) % 256 = r.l by omega]
  · show ({ r with sp := sp, pc := pc, a := (r.a * 256 + r.f / 16 * 16) / 256, f := (r.a * 256 + r.f / 16 * 16) % 256 / 16 * 16 } : RR) = _
    rw [show (r.a * 256 + r.f / 16 * 16) / 256 = r.a by omega, show (r.a * 256 + r.f / 16 * 16) % 256 / 16 * 16 = r.f by omega]
theorem samep (r : RR) (q : Int) (hq : q = 0 ∨ q = 1 ∨ q = 2 ∨ q = 4) (sp pc : Int) : pairV { r with sp := sp, pc := pc } q = pairV r q := by
  rcases hq with rfl | rfl | rfl | rfl <;> rfl
theorem rstD (k : Nat) (h : k = 0 ∨ k = 8 ∨ k = 16 ∨ k = 24 ∨ k = 32 ∨ k = 40 ∨ k = 48 ∨ k = 56) : decF (199 + (k : Int)).toNat 0 0 = ⟨28, 0, 0, 1, k⟩ := by
  rcases h with h | h | h | h | h | h | h | h <;> (rw [h]; kernel_rfl)
theorem stacksP (s : St) (ok : s.r.ok) (n : Int) (n0 : 0 ≤ n) (n1 : n < 256) (tn : Nat) (t0 : 16384 ≤ tn) (t1 : tn < 32768) (kn : Nat) (hk : n % 8 * 8 = (kn : Int)) (fv : Int) (hf : bits BinOp.and IntKind.u8 s.r.f 240 = fv)
    {y0 y1 y2 y3 y4 y5 y6 : Sy} (h0 : y0 = (⟨⟨{ s.r with f := fv, sp := 53248, pc := 256 }, false, false, false, false⟩, (upd (upd (upd (upd (upd (upd (upd (upd (fun _ => 0) 256 (197 + n % 4 * 16)) 257 205) 258 ((tn : Int) % 256)) 259 ((tn : Int) / 256)) 260 (193 + n % 4 * 16)) 261 (199 + (kn : Int))) (tn : Int) 201) (kn : Int) 201), []⟩ : Sy)) (h1 : y1 = stepS ⟨y0.s, y0.m, y0.acc⟩) (h2 : y2 = stepS ⟨y1.s, y1.m, y1.acc⟩) (h3 : y3 = stepS ⟨y2.s, y2.m, y2.acc⟩)
    (h4 : y4 = stepS ⟨y3.s, y3.m, y3.acc⟩) (h5 : y5 = stepS ⟨y4.s, y4.m, y4.acc⟩) (h6 : y6 = stepS ⟨y5.s, y5.m, y5.acc⟩) : y6.s = ⟨{ s.r with f := fv, sp := 53248, pc := 262 }, false, false, false, false⟩ := by
  have hfv : 0 ≤ fv ∧ fv < 256 ∧ fv % 16 = 0 := by rw [← hf, low4 _ ok.2.1.1 ok.2.1.2]; have := ok.2.1; omega
  have okr : RR.ok { s.r with f := fv } := ⟨ok.1, ⟨hfv.1, hfv.2.1⟩, ok.2.2⟩
  have hk1 : kn < 64 := by omega
  obtain ⟨m, hm⟩ : ∃ m : Int → Int, m = (upd (upd (upd (upd (upd (upd (upd (upd (fun _ => 0) 256 (197 + n % 4 * 16)) 257 205) 258 ((tn : Int) % 256)) 259 ((tn : Int) / 256)) 260 (193 + n % 4 * 16)) 261 (199 + (kn : Int))) (tn : Int) 201) (kn : Int) 201) := ⟨_, rfl⟩
  rw [← hm] at h0
  have m0 : m 256 = 197 + n % 4 * 16 := by rw [hm]; repeat rw [upd_far _ _ _ _ (by omega)]
                                           exact upd_same _ _ _
  have m1 : m 257 = 205 := by rw [hm]; repeat rw [upd_far _ _ _ _ (by omega)]
                              exact upd_same _ _ _
  have m2 : m 258 = (tn : Int) % 256 := by rw [hm]; repeat rw [upd_far _ _ _ _ (by omega)]
                                           exact upd_same _ _ _
  have m3 : m 259 = (tn : Int) / 256 := by rw [hm]; repeat rw [upd_far _ _ _ _ (by omega)]
                                           exact upd_same _ _ _
  have m4 : m 260 = 193 + n % 4 * 16 := by rw [hm]; repeat rw [upd_far _ _ _ _ (by omega)]
                                           exact upd_same _ _ _
  have m5 : m 261 = 199 + (kn : Int) := by rw [hm]; repeat rw [upd_far _ _ _ _ (by omega)]
                                           exact upd_same _ _ _
  have mt : m tn = 201 := by rw [hm, upd_far _ _ _ _ (by omega), upd_same]
  have mk : m kn = 201 := by rw [hm, upd_same]
  clear hm
  have hq : ∃ q : Int, (q = 0 ∨ q = 1 ∨ q = 2 ∨ q = 4) ∧ decF (m 256).toNat 0 0 = ⟨30, q, 0, 1, 0⟩ ∧ decF (m 260).toNat 0 0 = ⟨31, q, 0, 1, 0⟩ := by
    rw [m0, m4]
    have h : n % 4 = 0 ∨ n % 4 = 1 ∨ n % 4 = 2 ∨ n % 4 = 3 := by omega
    rcases h with h | h | h | h <;> rw [h]
    · exact ⟨0, by decide, by kernel_rfl, by kernel_rfl⟩
    · exact ⟨1, by decide, by kernel_rfl, by kernel_rfl⟩
    · exact ⟨2, by decide, by kernel_rfl, by kernel_rfl⟩
    · exact ⟨4, by decide, by kernel_rfl, by kernel_rfl⟩
  have hr : decF (m 261).toNat 0 0 = ⟨28, 0, 0, 1, kn⟩ := by
    rw [m5]
    exact rstD kn (by omega)
  obtain ⟨q, hq, d1, d2⟩ := hq
  have z := sixS { s.r with f := fv } q m [] tn kn t0 t1 hk1 d1 m1 m2 m3 d2 hr mt mk (fun sp pc => back _ okr hfv.2.2 q hq sp pc) (fun sp pc => samep _ q hq sp pc) (by omega)
  replace h1 : y1 = stepS y0 := h1
  replace h2 : y2 = stepS y1 := h2
  replace h3 : y3 = stepS y2 := h3
  replace h4 : y4 = stepS y3 := h4
  replace h5 : y5 = stepS y4 := h5
  replace h6 : y6 = stepS y5 := h6
  replace h0 : y0 = R { s.r with f := fv, sp := 53248, pc := 256 } m [] := h0
  rw [h6, h5, h4, h3, h2, h1, h0]
  exact z
end Go.Proofs.YtngdogldgcgnjaaGreat
