/-
  The walk through CpuNil: it returns true, for every input and every world in which the bytes lie as told; no other condition.
-/
import Derived.Test.YtngdogldgcgnjaaGreatPre
import Derived.Test.YtngdogldgcgnjaaGreatL8q
import Derived.Test.YtngdogldgcgnjaaGreatN17
import Derived.Test.YtngdogldgcgnjaaGreatN4
import Derived.Deep.Cut
import Derived.Deep.LoopGhost
import Derived.Deep.DeepCutAuto
import Derived.Deep.CutBlock
namespace Go.Proofs.YtngdogldgcgnjaaGreat
open Go.ChangeShapes Go.WideShapes Go.ChangeAt Go.RowKit
open Reg
set_option linter.unusedVariables false
set_option maxRecDepth 100000
set_option maxHeartbeats 2000000 in
theorem nil_long1 (s : St) (a1 a2 : Option Addr) (n1 c1 n2 c2 : Nat) (h1 : 2000 < n1) (w : World) : Calls Tryz.prog 9 #[.agg #[.int .u8 s.r.a, .int .u8 s.r.f, .int .u8 s.r.b, .int .u8 s.r.c, .int .u8 s.r.d, .int .u8 s.r.e, .int .u8 s.r.h, .int .u8 s.r.l, .int .u16 s.r.sp, .int .u16 s.r.pc, .bool s.ime, .bool s.soon, .bool s.halt, .bool s.stop], .slice a1 n1 c1, .slice a2 n2 c2] w fun e w' => e = .returned (.bool true) ∧ Below w.heap.size w w' := by
 have AW := Lib.hid awake_c
 have h1I : (2000 : Int) < n1 := by omega
 have hnot : ∀ (x : Bool) (w : World), (Op.unary .not (.bool x)).run Tryz.prog w = .ok (.bool (!x)) w := fun _ _ => rfl
 go_enter Tryz.func9, Tryz.ntmps9
 go_wp2_with fail
 with_reducible refine (AW.out _).mono ?_
 rintro e w1 ⟨rfl, b1⟩
 have B1 := Lib.hid (via (own1 w _) b1)
 clear b1
 go_wp2_with fail
 with_reducible refine (AW.out _).mono ?_
 rintro e w2 ⟨rfl, b2⟩
 have B2 := Lib.hid (via B1.out b2)
 clear b2
 go_wp2
 go_ret
 exact ⟨rfl, B2.out⟩
set_option maxHeartbeats 2000000 in
theorem nil_long2 (s : St) (a1 a2 : Option Addr) (n1 c1 n2 c2 : Nat) (h1 : ¬ 2000 < n1) (h2 : 2000 < n2) (w : World) : Calls Tryz.prog 9 #[.agg #[.int .u8 s.r.a, .int .u8 s.r.f, .int .u8 s.r.b, .int .u8 s.r.c, .int .u8 s.r.d, .int .u8 s.r.e, .int .u8 s.r.h, .int .u8 s.r.l, .int .u16 s.r.sp, .int .u16 s.r.pc, .bool s.ime, .bool s.soon, .bool s.halt, .bool s.stop], .slice a1 n1 c1, .slice a2 n2 c2] w fun e w' => e = .returned (.bool true) ∧ Below w.heap.size w w' := by
 have AW := Lib.hid awake_c
 have h1I : ¬ (2000 : Int) < n1 := by omega
 have h2I : (2000 : Int) < n2 := by omega
 have hnot : ∀ (x : Bool) (w : World), (Op.unary .not (.bool x)).run Tryz.prog w = .ok (.bool (!x)) w := fun _ _ => rfl
 go_enter Tryz.func9, Tryz.ntmps9
 go_wp2_with fail
 with_reducible refine (AW.out _).mono ?_
 rintro e w1 ⟨rfl, b1⟩
 have B1 := Lib.hid (via (own1 w _) b1)
 clear b1
 go_wp2_with fail
 with_reducible refine (AW.out _).mono ?_
 rintro e w2 ⟨rfl, b2⟩
 have B2 := Lib.hid (via B1.out b2)
 clear b2
 go_wp2
 go_ret
 exact ⟨rfl, B2.out⟩
/-- The first t accesses that read have been laid. -/
def PokeD (l : List Ac) (m1 : Int → Int) (t : Nat) (om : Int → Int) : Prop := ∀ i x, i < t → l[i]? = some x → ¬ (x.k = 0 ∨ x.k = 2) → om x.a = m1 x.a
theorem PokeD.skip {l : List Ac} {m1 om : Int → Int} {t : Nat} (h : PokeD l m1 t om) (x : Ac) (hx : l[t]? = some x) (hk : x.k = 0 ∨ x.k = 2) : PokeD l m1 (t + 1) om := fun i c hi hc hn => by
 by_cases e : i = t
 ·subst e; rw [hx] at hc; rw [← Option.some.inj hc] at hn; exact absurd hk hn
 ·exact h i c (by omega) hc hn
theorem PokeD.next {l : List Ac} {m1 om : Int → Int} {t : Nat} (h : PokeD l m1 t om) (x : Ac) (hx : l[t]? = some x) (hv : x.v = m1 x.a) : PokeD l m1 (t + 1) (upd om x.a x.v) := fun i c hi hc hn => by
 unfold upd
 by_cases ea : c.a = x.a
 ·rw [if_pos ea, hv, ea]
 ·rw [if_neg ea]
  by_cases e : i = t
  ·subst e; rw [hx] at hc; exact absurd (by rw [← Option.some.inj hc]) ea
  ·exact h i c (by omega) hc hn
/-- What the law's second step does. -/
theorem nil_same (s : St) (ok : s.r.ok) (m1 om : Int → Int) (b1 : ∀ a, 0 ≤ m1 a ∧ m1 a < 256) (h : PokeD (stepS ⟨s, m1, []⟩).acc m1 (stepS ⟨s, m1, []⟩).acc.length om) :
  (stepS ⟨s, upd (upd om 65295 (m1 65295)) 65535 (m1 65535), []⟩).s = (stepS ⟨s, m1, []⟩).s ∧ (stepS ⟨s, upd (upd om 65295 (m1 65295)) 65535 (m1 65535), []⟩).acc = (stepS ⟨s, m1, []⟩).acc ∧ stepD ⟨s, upd (upd om 65295 (m1 65295)) 65535 (m1 65535), []⟩ = stepD ⟨s, m1, []⟩ := by
 have q := step_rel (fun a => upd (upd om 65295 (m1 65295)) 65535 (m1 65535) a = m1 a) s m1 (upd (upd om 65295 (m1 65295)) 65535 (m1 65535)) (fun a h => h) (by unfold upd; rw [if_neg (by decide), if_pos rfl]) (by unfold upd; rw [if_pos rfl]) b1 ok.2.2.2.2.2.2.2.2.2.1 ok.2.2.2.2.2.2.2.2.2.2
  (fun c hc hk => by
   obtain ⟨i, hi⟩ := List.getElem?_of_mem hc
   have hl : i < (stepS ⟨s, m1, []⟩).acc.length := (List.getElem?_eq_some_iff.1 hi).1
   have e := h i c hl hi (by omega)
   show upd (upd om 65295 (m1 65295)) 65535 (m1 65535) c.a = m1 c.a
   unfold upd
   by_cases e1 : c.a = 65535
   ·rw [if_pos e1, e1]
   ·rw [if_neg e1]
    by_cases e2 : c.a = 65295
    ·rw [if_pos e2, e2]
    ·rw [if_neg e2, e])
 exact ⟨q.1.1, q.1.2.1, q.2⟩
set_option maxHeartbeats 8000000 in
theorem nil_some (s : St) (ok : s.r.ok) (a1 a2 : Option Addr) (n1 c1 n2 c2 : Nat) (h1 : ¬ 2000 < n1) (h2 : ¬ 2000 < n2) (f g : Nat → Int) (w : World) (hb1 : By w (.slice a1 n1 c1) n1 f) (hb2 : By w (.slice a2 n2 c2) n2 g) : Calls Tryz.prog 9 #[.agg #[.int .u8 s.r.a, .int .u8 s.r.f, .int .u8 s.r.b, .int .u8 s.r.c, .int .u8 s.r.d, .int .u8 s.r.e, .int .u8 s.r.h, .int .u8 s.r.l, .int .u16 s.r.sp, .int .u16 s.r.pc, .bool s.ime, .bool s.soon, .bool s.halt, .bool s.stop], .slice a1 n1 c1, .slice a2 n2 c2] w fun e w' => e = .returned (.bool true) ∧ Below w.heap.size w w' := by
 have hnot : ∀ (x : Bool) (w : World), (Op.unary .not (.bool x)).run Tryz.prog w = .ok (.bool (!x)) w := fun _ _ => rfl
 have AW := Lib.hid awake_c
 have h1I : ¬ (2000 : Int) < n1 := by omega
 have h2I : ¬ (2000 : Int) < n2 := by omega
 have HB1 := Lib.hid hb1
 have HB2 := Lib.hid hb2
 have OKS := Lib.hid ok
 have HB := Lib.hid (own1 w (.cells #[.int .u8 s.r.a, .int .u8 s.r.f, .int .u8 s.r.b, .int .u8 s.r.c, .int .u8 s.r.d, .int .u8 s.r.e, .int .u8 s.r.h, .int .u8 s.r.l, .int .u16 s.r.sp, .int .u16 s.r.pc, .bool s.ime, .bool s.soon, .bool s.halt, .bool s.stop] 26))
 have HR := Lib.hid (Has.new w #[.int .u8 s.r.a, .int .u8 s.r.f, .int .u8 s.r.b, .int .u8 s.r.c, .int .u8 s.r.d, .int .u8 s.r.e, .int .u8 s.r.h, .int .u8 s.r.l, .int .u16 s.r.sp, .int .u16 s.r.pc, .bool s.ime, .bool s.soon, .bool s.halt, .bool s.stop] 26)
 clear hb1 hb2 ok
 go_enter Tryz.func9, Tryz.ntmps9
 go_wp2_with fail
 with_reducible refine (AW.out _).mono ?_
 rintro e w1 ⟨rfl, b1⟩
 have B1 := Lib.hid (via HB.out b1)
 have R1 := Lib.hid (HR.out.below b1)
 have hrr := R1.out.2.1
 clear HB HR b1
 go_wp2_with fail
 with_reducible refine (state_c s _).mono ?_
 rintro e w2 ⟨rfl, b2⟩
 clear hrr
 have Q3 := own1 w2 (.cells #[.int .u8 s.r.a, .int .u8 s.r.f, .int .u8 s.r.b, .int .u8 s.r.c, .int .u8 s.r.d, .int .u8 s.r.e, .int .u8 s.r.h, .int .u8 s.r.l, .int .u16 s.r.sp, .int .u16 s.r.pc, .bool s.ime, .bool s.soon, .bool s.halt, .bool s.stop] 41)
 have B3 := Lib.hid (via (via B1.out b2) Q3)
 have H3 := Lib.hid (Has.new w2 #[.int .u8 s.r.a, .int .u8 s.r.f, .int .u8 s.r.b, .int .u8 s.r.c, .int .u8 s.r.d, .int .u8 s.r.e, .int .u8 s.r.h, .int .u8 s.r.l, .int .u16 s.r.sp, .int .u16 s.r.pc, .bool s.ime, .bool s.soon, .bool s.halt, .bool s.stop] 41)
 have LS := Lib.hid (show w.heap.size ≤ w2.heap.size from (via B1.out b2).size)
 clear b2 Q3 B1 R1
 go_upto_region 4 with (fail)
 generalize w2.alloc (.cells #[.int .u8 s.r.a, .int .u8 s.r.f, .int .u8 s.r.b, .int .u8 s.r.c, .int .u8 s.r.d, .int .u8 s.r.e, .int .u8 s.r.h, .int .u8 s.r.l, .int .u16 s.r.sp, .int .u16 s.r.pc, .bool s.ime, .bool s.soon, .bool s.halt, .bool s.stop] 41) = w3 at B3 H3 ⊢
 generalize w2.heap.size = sb at H3 LS ⊢
 refine nreg4 w3 sb s H3.out _ _ _ _ _ _ _ _ _ _ _ _ _ _ _ _ _ _ _ _ _ _ _ _ _ _ _ _ _ _ _ _ _ _ _ _ _ _ _ _ _ _ _ _ _ _ _ _ _ _ _ _ _ _ _ _ _ _ _ _ _ _ _ _ _ _ _ _ _ _ _ _ _ _ _ _ _ _ _ _ _ _ _ _ _ _ _ _ _ _ _ _ _ _ _ _ _ _ _ _ _ _ _ _ _ _ _ _ _ _ _ _ _ _ _ _ _ _ _ _ _ _ _ _ _ _ _ _ _ _ _ _ _ _ _ _ _ _ _ _ _ _ _ _ _ _ _ _ _ _ _ _ _ _ _ _ _ _ _ _ _ _ _ _ _ _ _ _ _ _ _ _ _ _ _ _ _ _ _ _ _ _ ?_
 intro p4 q4 d34 d35 d36 d37 d38 d39 d40 d41 d42 w4 F4
 have B4 := Lib.hid (via B3.out F4.bl)
 have H4 := Lib.hid (H3.out.below F4.bl)
 have P4 := Lib.hid F4.hp
 have G4 := Lib.hid F4.hd
 clear F4 B3 H3
 go_upto_region 5 with (fail)
 refine nreg5 w4 sb s H4.out _ _ _ _ _ _ _ _ _ _ _ _ _ _ _ _ _ _ _ _ _ _ _ _ _ _ _ _ _ _ _ _ _ _ _ _ _ _ _ _ _ _ _ _ _ _ _ _ _ _ _ _ _ _ _ _ _ _ _ _ _ _ _ _ _ _ _ _ _ _ _ _ _ _ _ _ _ _ _ _ _ _ _ _ _ _ _ _ _ _ _ _ _ _ _ _ _ _ _ _ _ _ _ _ _ _ _ _ _ _ _ _ _ _ _ _ _ _ _ _ _ _ _ _ _ _ _ _ _ _ _ _ _ _ _ _ _ _ _ _ _ _ _ _ _ _ _ _ _ _ _ _ _ _ _ _ _ _ _ _ _ _ _ _ _ _ _ _ _ _ _ _ _ _ _ _ _ _ _ _ _ _ ?_
 intro p5 q5 e43 e44 e45 e46 e47 e48 w5 F5
 have B5 := Lib.hid (via B4.out F5.bl)
 have H5 := Lib.hid (H4.out.below F5.bl)
 have P5 := Lib.hid (P4.out.below F5.bl)
 have G5 := Lib.hid (G4.out.below F5.bl)
 have X5 := Lib.hid F5.hp
 have Y5 := Lib.hid F5.hd
 clear F5 B4 H4 P4 G4
 have k1 := H5.out.2.1
 have k2 := P5.out.2.1
 have k3 := G5.out.2.1
 have k4 := X5.out.2.1
 have k5 := Y5.out.2.1
 have FC := Lib.hid (filled_c (HB1.out.below B5.out))
 go_wp2_with fail
 clear k1 k2 k3 k4 k5 P5 G5 X5 Y5
 with_reducible refine FC.out.mono ?_
 rintro e w6 ⟨rfl, b6, f6⟩
 have Q6 := own1 w6 (.cells #[.slice (some ⟨w5.heap.size, 0, none⟩) 65536 65536, .slice none 0 0] 35)
 have B7 := Lib.hid (via (via B5.out b6) Q6)
 have H7 := Lib.hid ((H5.out.below b6).below Q6)
 have A7 := Lib.hid (f6.ram HB1.out.2.1)
 have LR1 := Lib.hid (show w.heap.size ≤ w6.heap.size from (via B5.out b6).size)
 have LM1 := Lib.hid B5.out.size
 have NM1 := Lib.hid (show sb ≠ w5.heap.size by have := H5.out.1; omega)
 have NR1 := Lib.hid (show sb ≠ w6.heap.size by have := (H5.out.below b6).1; omega)
 clear b6 f6 Q6 FC B5 H5
 have FC := Lib.hid (filled_c (HB2.out.below B7.out))
 go_wp2_with fail
 generalize w6.alloc (.cells #[.slice (some ⟨w5.heap.size, 0, none⟩) 65536 65536, .slice none 0 0] 35) = w7 at B7 H7 A7 FC ⊢
 generalize w5.heap.size = M1 at A7 LM1 NM1 ⊢
 generalize w6.heap.size = R1 at A7 LR1 NR1 ⊢
 with_reducible refine FC.out.mono ?_
 rintro e w8 ⟨rfl, b8, f8⟩
 have Q8 := own1 w8 (.cells #[.slice (some ⟨w7.heap.size, 0, none⟩) 65536 65536, .slice none 0 0] 35)
 have B9 := Lib.hid (via (via B7.out b8) Q8)
 have H9 := Lib.hid ((H7.out.below b8).below Q8)
 have A9 := Lib.hid ((A7.out.below b8).below Q8)
 have C9 := Lib.hid (f8.ram HB2.out.2.1)
 have LR2 := Lib.hid (show w.heap.size ≤ w8.heap.size from (via B7.out b8).size)
 have LM2 := Lib.hid B7.out.size
 have NS2 := Lib.hid (show sb ≠ w7.heap.size ∧ sb ≠ w8.heap.size by have := H7.out.1; have := (H7.out.below b8).1; omega)
 have NR2 := Lib.hid (show ¬ (w8.heap.size = R1 ∨ w8.heap.size = M1) ∧ ¬ (w7.heap.size = R1 ∨ w7.heap.size = M1) by have := A7.out.ram.1; have := A7.out.mlt; have := b8.size; omega)
 clear b8 f8 Q8 FC B7 H7 A7
 go_upto_region 9 with (fail)
 generalize w8.alloc (.cells #[.slice (some ⟨w7.heap.size, 0, none⟩) 65536 65536, .slice none 0 0] 35) = w9 at B9 H9 A9 C9 ⊢
 generalize w7.heap.size = M2 at C9 LM2 NS2 NR2 ⊢
 generalize w8.heap.size = R2 at C9 LR2 NS2 NR2 ⊢
 obtain ⟨y1, hy1⟩ : ∃ q_, q_ = stepS ⟨s, fillM n1 f, []⟩ := ⟨_, rfl⟩
 obtain ⟨DV, hdv⟩ : ∃ q_, q_ = stepD ⟨s, fillM n1 f, []⟩ := ⟨_, rfl⟩
 refine nreg9 w9 R1 M1 sb (fillM n1 f) s y1 DV hy1 hdv OKS.out NR1.out NM1.out A9.out H9.out _ _ _ _ _ _ _ _ _ _ _ _ _ _ _ _ _ _ _ _ _ _ _ _ _ _ _ _ _ _ _ _ _ _ _ _ _ _ _ _ _ _ _ _ _ _ _ _ _ _ _ _ _ _ _ _ _ _ _ _ _ _ _ _ _ _ _ _ _ _ _ _ _ _ _ _ _ _ _ _ _ _ _ _ _ _ _ _ _ _ _ _ _ _ _ _ _ _ _ _ _ _ _ _ _ _ _ _ _ _ _ _ _ _ _ _ _ _ _ _ _ _ _ _ _ _ _ _ _ _ _ _ _ _ _ _ _ _ _ _ _ _ _ _ _ _ _ _ _ _ _ _ _ _ _ _ _ _ _ _ _ _ _ _ _ _ _ _ _ _ _ _ _ _ _ _ _ _ _ _ _ ?_
 intro tb v p9 q9 g78 g79 g80 g81 g82 g83 g84 g85 w10 F9
 have Y1 := Lib.hid hy1
 have YD := Lib.hid hdv
 have B10 := Lib.hid (B9.out.trans (F9.off.below (fun k hk hx => by have := LR1.out; have := LM1.out; rcases hx with hx | hx <;> omega) B9.out.size))
 have H10 := Lib.hid (H9.out.off F9.off (fun e => e.elim NR1.out NM1.out))
 have C10 := Lib.hid (C9.out.off F9.off NR2.out.1 NR2.out.2)
 have FN := Lib.hid F9
 have LM9 := Lib.hid (show M2 < w9.heap.size from C9.out.mlt)
 have LR9 := Lib.hid (show R2 < w9.heap.size from C9.out.ram.1)
 clear F9 B9 H9 A9 C9 hy1 hdv
 obtain ⟨av, cv, hv, har⟩ := FN.out.bus.ar
 obtain ⟨L, hL⟩ : ∃ L, y1.acc.length = L := ⟨_, rfl⟩
 have L12 : (L : Int) ≤ 12 := by have := FN.out.bus.len; omega
 rw [hL] at hv
 have HL := Lib.hid hL
 have HV := Lib.hid hv
 have AR1 := Lib.hid har
 have VAL := Lib.hid (show Vl (fillM n1 f) y1 from by rw [Y1.out]; exact step_val s (fillM n1 f) OKS.out (fillM_ok HB1.out.2.1))
 obtain ⟨rq, hrq⟩ := FN.out.bus.ram
 have hr1 : w10.cell? ⟨R1, 1, none⟩ = some v := hrq.2.1 1
 rw [hv] at hr1
 have HR1 := Lib.hid hr1
 have LR1' := Lib.hid (show R1 < w10.heap.size from hrq.1)
 have NR1M := Lib.hid (show ¬ R1 = M2 from fun e => NR2.out.2 (Or.inl e.symm))
 have L9 := Lib.hid FN.out.off.size
 clear hrq hL hv har
 go_wp2
 clear hr1
 go_loopg [91] L (fun g' i wr => ∃ (t : Nat) (om : Int → Int), t ≤ L ∧ g' + t = L ∧ i = .int .i64 t ∧ Off (fun k => k = M2) w10 wr ∧ Ram wr R2 M2 om ∧ PokeD y1.acc (fillM n1 f) t om)
 case atStart => exact ⟨0, _, by omega, by omega, rfl, Off.refl _ _, C10.out, fun i x hi => absurd hi (by omega)⟩
 case round =>
  obtain ⟨t, om, ht, hg, rfl, hO, hR, hP⟩ := hrel
  have TG := Lib.hid hg
  have TO := Lib.hid hO
  have TR := Lib.hid hR
  have TP := Lib.hid hP
  clear hg hO hR hP
  by_cases hlt : t < L
  ·have l1 : (t : Int) < L := by omega
   have l0 : (0 : Int) ≤ t := by omega
   have hx : y1.acc[t]? = some (y1.acc[t]'(by rw [HL.out]; exact hlt)) := List.getElem?_eq_getElem _
   generalize (y1.acc[t]'(by rw [HL.out]; exact hlt)) = x at hx
   obtain ⟨xb, xo, hae, hxl, p0, p1, p2⟩ := AR1.out t x hx
   subst hae
   have XM := Lib.hid (show ¬ xb = M2 from fun e => by have := FN.out.lv xb (by rw [HV.out]; rfl); have := LM9.out; omega)
   have XL := Lib.hid hxl
   have P1 := Lib.hid p1
   have P2 := Lib.hid p2
   have HX := Lib.hid hx
   have hw := VAL.out x (List.mem_of_getElem? hx)
   have q0 : wr.cell? ⟨xb, xo + t * 3, none⟩ = some (.int .i64 x.k) := (TO.out.cell (p := ⟨xb, xo + t * 3, none⟩) hxl XM.out).trans p0
   have q1 : wr.cell? ⟨R1, 1, none⟩ = some (.slice (some ⟨xb, xo, none⟩) L cv) := (TO.out.cell (p := ⟨R1, 1, none⟩) LR1'.out NR1M.out).trans HR1.out
   clear hxl p0 p1 p2 hx
   rcases (show (x.k == 0) = true ∨ ((x.k == 0) = false ∧ (x.k == 2) = true) ∨ ((x.k == 0) = false ∧ (x.k == 2) = false) by cases x.k == 0 <;> cases x.k == 2 <;> simp) with z1 | ⟨z1, z2⟩ | ⟨z1, z2⟩
   ·have DN := Lib.hid (TP.out.skip x HX.out (Or.inl (by simpa using z1)))
    clear hw
    generalize x.k = xk at q0 z1
    have z3 : (xk != 0) = false := by simp at z1; simp [z1]
    go_wp2
    go_roundg (gk - 1)
    exact ⟨t + 1, om, by omega, by have := TG.out; omega, by simp, TO.out, TR.out, DN.out⟩
    case measure => have := TG.out; omega
   ·have DN := Lib.hid (TP.out.skip x HX.out (Or.inr (by simpa using z2)))
    clear hw
    generalize x.k = xk at q0 z1 z2
    have z3 : (xk != 0) = true := by simp at z1; simp [z1]
    have z4 : (xk != 2) = false := by simp at z2; simp [z2]
    go_wp2
    go_roundg (gk - 1)
    exact ⟨t + 1, om, by omega, by have := TG.out; omega, by simp, TO.out, TR.out, DN.out⟩
    case measure => have := TG.out; omega
   ·have hval : x.v = fillM n1 f x.a ∧ 0 ≤ x.a ∧ x.a < 65536 := by
     rcases hw with hw | hw
     ·rcases hw with hw | hw
      ·simp [hw] at z1
      ·simp [hw] at z2
     ·exact hw.2
    have DN0 := TP.out.next x HX.out hval.1
    have VB := Lib.hid (show 0 ≤ x.v ∧ x.v < 256 by rw [hval.1]; exact fillM_ok HB1.out.2.1 _)
    obtain ⟨an, han⟩ := Int.eq_ofNat_of_zero_le hval.2.1
    have hanN : an < 65536 := by have := hval.2.2; omega
    have TR0 := TR
    clear hw hval HX
    generalize x.k = xk at q0 z1 z2
    generalize x.v = xv at P2 VB DN0
    rw [han] at P1 DN0
    have DN := Lib.hid DN0
    clear DN0 han
    have z3 : (xk != 0) = true := by simp at z1; simp [z1]
    have z4 : (xk != 2) = true := by simp at z2; simp [z2]
    go_upto_region 14 with (fail)
    clear q0 q1 z1 z2 z3 z4
    have TO := Lib.hid TO.out.drew
    have TR := Lib.hid (TR.out.below (Below.refl _ _).drew)
    have anI : (an : Int) < 65536 := by omega
    refine wp_region_held_drew (S := (fun w' => (w'.cell? ⟨R2, 0, none⟩ = some (.slice (some ⟨M2, 0, none⟩) 65536 65536)) ∧ (w'.cell? ⟨R1, 1, none⟩ = some (.slice (some ⟨xb, xo, none⟩) L cv)) ∧ (w'.cell? ⟨xb, xo + t * 3 + 1, none⟩ = some (.int .u16 (an : Int))) ∧ (w'.cell? ⟨xb, xo + t * 3 + 2, none⟩ = some (.int .u8 xv)))) (by kernel_rfl) ⟨TR.out.ram.2.1 0, (TO.out.cell (p := ⟨R1, 1, none⟩) LR1'.out NR1M.out).trans HR1.out, (TO.out.cell (p := ⟨xb, xo + t * 3 + 1, none⟩) XL.out XM.out).trans P1.out, (TO.out.cell (p := ⟨xb, xo + t * 3 + 2, none⟩) XL.out XM.out).trans P2.out⟩ (fun hHeld => ?_)
    generalize World.drew wr = u0 at hHeld TO TR ⊢
    refine tk 0 rfl (v := ?v1) ?y1 ?z1
    case y1 => (intro w hSw; (try dsimp only at hSw); go_simp) <;> with_reducible rfl
    try simp only [Act.put, qqA, qqB, qqC]
    refine tk 1 rfl (v := ?v2) ?y2 ?z2
    case y2 => (intro w hSw; (try dsimp only at hSw); go_simp) <;> with_reducible rfl
    try simp only [Act.put, qqA, qqB, qqC]
    refine tk 2 rfl (v := ?v3) ?y3 ?z3
    case y3 => (intro w hSw; (try dsimp only at hSw); go_simp) <;> with_reducible rfl
    try simp only [Act.put, qqA, qqB, qqC]
    refine tk 3 rfl (v := ?v4) ?y4 ?z4
    case y4 => (intro w hSw; (try dsimp only at hSw); go_simp) <;> with_reducible rfl
    try simp only [Act.put, qqA, qqB, qqC]
    refine tk 4 rfl (v := ?v5) ?y5 ?z5
    case y5 => (intro w hSw; (try dsimp only at hSw); go_simp) <;> with_reducible rfl
    try simp only [Act.put, qqA, qqB, qqC]
    refine tk 5 rfl (v := ?v6) ?y6 ?z6
    case y6 => (intro w hSw; (try dsimp only at hSw); go_simp) <;> with_reducible rfl
    try simp only [Act.put, qqA, qqB, qqC]
    refine tk 6 rfl (v := ?v7) ?y7 ?z7
    case y7 => (intro w hSw; (try dsimp only at hSw); go_simp) <;> with_reducible rfl
    try simp only [Act.put, qqA, qqB, qqC]
    refine tk 7 rfl (v := ?v8) ?y8 ?z8
    case y8 => (intro w hSw; (try dsimp only at hSw); go_simp) <;> with_reducible rfl
    try simp only [Act.put, qqA, qqB, qqC]
    refine tk 8 rfl (v := ?v9) ?y9 ?z9
    case y9 => (intro w hSw; (try dsimp only at hSw); go_simp) <;> with_reducible rfl
    try simp only [Act.put, qqA, qqB, qqC]
    refine tk 9 rfl (v := ?v10) ?y10 ?z10
    case y10 => (intro w hSw; (try dsimp only at hSw); go_simp) <;> with_reducible rfl
    try simp only [Act.put, qqA, qqB, qqC]
    refine tk 10 rfl (v := ?v11) ?y11 ?z11
    case y11 => (intro w hSw; (try dsimp only at hSw); go_simp) <;> with_reducible rfl
    try simp only [Act.put, qqA, qqB, qqC]
    refine tk 11 rfl (v := ?v12) ?y12 ?z12
    case y12 => (intro w hSw; (try dsimp only at hSw); go_simp) <;> with_reducible rfl
    try simp only [Act.put, qqA, qqB, qqC]
    refine tk 12 rfl (v := ?v13) ?y13 ?z13
    case y13 => (intro w hSw; (try dsimp only at hSw); go_simp) <;> with_reducible rfl
    try simp only [Act.put, qqA, qqB, qqC]
    refine tk 13 rfl (v := ?v14) ?y14 ?z14
    case y14 => (intro w hSw; (try dsimp only at hSw); go_simp) <;> with_reducible rfl
    try simp only [Act.put, qqA, qqB, qqC]
    refine tk 14 rfl (v := ?v15) ?y15 ?z15
    case y15 => (intro w hSw; (try dsimp only at hSw); go_simp) <;> with_reducible rfl
    try simp only [Act.put, qqA, qqB, qqC]
    refine tk 15 rfl (v := ?v16) ?y16 ?z16
    case y16 => (intro w hSw; (try dsimp only at hSw); go_simp) <;> with_reducible rfl
    try simp only [Act.put, qqA, qqB, qqC]
    refine tk 16 rfl (v := ?v17) ?y17 ?z17
    case y17 => (intro w hSw; (try dsimp only at hSw); go_simp) <;> with_reducible rfl
    try simp only [Act.put, qqA, qqB, qqC]
    refine tk 17 rfl (v := ?v18) ?y18 ?z18
    case y18 => (intro w hSw; (try dsimp only at hSw); go_simp) <;> with_reducible rfl
    try simp only [Act.put, qqA, qqB, qqC]
    refine tk 18 rfl (v := ?v19) ?y19 ?z19
    case y19 => (intro w hSw; (try dsimp only at hSw); go_simp) <;> with_reducible rfl
    try simp only [Act.put, qqA, qqB, qqC]
    refine tk 19 rfl (v := ?v20) ?y20 ?z20
    case y20 => (intro w hSw; (try dsimp only at hSw); go_simp) <;> with_reducible rfl
    try simp only [Act.put, qqA, qqB, qqC]
    refine tk 20 rfl (v := ?v21) ?y21 ?z21
    case y21 => (intro w hSw; (try dsimp only at hSw); go_simp) <;> with_reducible rfl
    try simp only [Act.put, qqA, qqB, qqC]
    refine wpAnyH_ready (rs := [21]) (by kernel_rfl) (by simp) ?_
    refine (ac rfl (fun K hK => ?_) AllReadyH.nil)
    ·skip
     have hm := TR.out.mem an (by omega)
     have hf := TR.out.free
     go_simp
     clear hm hf
     have TR2 := Lib.hid (TR.out.poke an (by omega) xv VB.out.1 VB.out.2)
     have TO2 := Lib.hid (TO.out.trans (Off.setCell (X := fun k => k = M2) u0 M2 an (.int .u8 xv) rfl) (fun b hb e => e))
     refine hK.out _ _ ?s22 (fun hNew => ?r22)
     case s22 => exact ⟨TR2.out.ram.2.1 0, (TO2.out.cell (p := ⟨R1, 1, none⟩) LR1'.out NR1M.out).trans HR1.out, (TO2.out.cell (p := ⟨xb, xo + t * 3 + 1, none⟩) XL.out XM.out).trans P1.out, (TO2.out.cell (p := ⟨xb, xo + t * 3 + 2, none⟩) XL.out XM.out).trans P2.out⟩
     clear hK K hHeld hNew
     generalize World.setCell u0 ⟨M2, an, none⟩ (.int .u8 xv) = u2 at TR2 TO2 ⊢
     refine wpAnyH_done (by kernel_rfl) ?_ _
     go_wp2
     go_roundg (gk - 1)
     exact ⟨t + 1, _, by omega, by have := TG.out; omega, by simp, TO2.out, TR2.out, DN.out⟩
     case measure => have := TG.out; omega
  ·have et : t = L := by omega
   subst et
   have HP := Lib.hid TP.out
   have B0 := Lib.hid ((B10.out.trans (TO.out.below (fun k hk e => by have := LM2.out; have e' : k = M2 := e; omega) B10.out.size)).drew)
   have C0 := Lib.hid (TR.out.below (Below.refl _ _).drew)
   have O0 := Lib.hid TO.out.drew
   clear TO TR TP
   go_upto_region 16 with (fail)
   go_cut [6] (fun s6 wx => Below w.heap.size w wx ∧ Ram wx R2 M2 (upd (upd om 65295 (fillM n1 f 65295)) 65535 (fillM n1 f 65535)) ∧ Off (fun k => k = M2) w10 wx)
   case first =>
    refine wp_region_held_drew (S := (fun w' => (w'.cell? ⟨R2, 0, none⟩ = some (.slice (some ⟨M2, 0, none⟩) 65536 65536)) ∧ True)) (by kernel_rfl) ⟨C0.out.ram.2.1 0, trivial⟩ (fun hHeld => ?_)
    generalize World.drew wr = u0 at hHeld B0 C0 O0 ⊢
    refine tk 0 rfl (v := ?v23) ?y23 ?z23
    case y23 => (intro w hSw; (try dsimp only at hSw); go_simp) <;> with_reducible rfl
    try simp only [Act.put, qqA, qqB, qqC]
    refine tk 1 rfl (v := ?v24) ?y24 ?z24
    case y24 => (intro w hSw; (try dsimp only at hSw); go_simp) <;> with_reducible rfl
    try simp only [Act.put, qqA, qqB, qqC]
    refine tk 2 rfl (v := ?v25) ?y25 ?z25
    case y25 => (intro w hSw; (try dsimp only at hSw); go_simp) <;> with_reducible rfl
    try simp only [Act.put, qqA, qqB, qqC]
    refine tk 3 rfl (v := ?v26) ?y26 ?z26
    case y26 => (intro w hSw; (try dsimp only at hSw); go_simp) <;> with_reducible rfl
    try simp only [Act.put, qqA, qqB, qqC]
    refine tk 4 rfl (v := ?v27) ?y27 ?z27
    case y27 => (intro w hSw; (try dsimp only at hSw); go_simp) <;> with_reducible rfl
    try simp only [Act.put, qqA, qqB, qqC]
    refine tk 5 rfl (v := ?v28) ?y28 ?z28
    case y28 => (intro w hSw; (try dsimp only at hSw); go_simp) <;> with_reducible rfl
    try simp only [Act.put, qqA, qqB, qqC]
    refine tk 6 rfl (v := ?v29) ?y29 ?z29
    case y29 => (intro w hSw; (try dsimp only at hSw); go_simp) <;> with_reducible rfl
    try simp only [Act.put, qqA, qqB, qqC]
    refine tk 7 rfl (v := ?v30) ?y30 ?z30
    case y30 => (intro w hSw; (try dsimp only at hSw); go_simp) <;> with_reducible rfl
    try simp only [Act.put, qqA, qqB, qqC]
    refine tk 8 rfl (v := ?v31) ?y31 ?z31
    case y31 => (intro w hSw; (try dsimp only at hSw); go_simp) <;> with_reducible rfl
    try simp only [Act.put, qqA, qqB, qqC]
    refine tk 12 rfl (v := ?v32) ?y32 ?z32
    case y32 => (intro w hSw; (try dsimp only at hSw); go_simp) <;> with_reducible rfl
    try simp only [Act.put, qqA, qqB, qqC]
    refine wpAnyH_ready (rs := [9]) (by kernel_rfl) (by simp) ?_
    refine (ac rfl (fun K hK => ?_) AllReadyH.nil)
    ·skip
     go_simp
     with_reducible refine (filled_c (HB1.out.below B0.out)).mono ?_
     rintro e u1 ⟨rfl, hz, fz⟩
     have B1 := Lib.hid (via B0.out hz)
     have C1 := Lib.hid (C0.out.below hz)
     have O1 := Lib.hid (O0.out.trans (Off.of (fun _ => False) hz) (fun b hb hx => hx.elim))
     have Zq := Lib.hid (show u1.cell? ⟨u0.heap.size, 65295, none⟩ = some (.int .u8 (fillM n1 f 65295)) from by have := fz.mem 65295 (by decide); rw [if_pos (by decide)] at this; exact this)
     have Yq := Lib.hid fz.lt
     clear hz fz
     refine hK.out _ _ ?s33 (fun hNew => ?r33)
     case s33 => exact ⟨C1.out.ram.2.1 0, trivial⟩
     clear hK K hHeld
     have hHeld := hNew
     clear hNew
     generalize u0.heap.size = bq at Zq Yq ⊢
     refine tk 10 rfl (v := ?v34) ?y34 ?z34
     case y34 => (intro w hSw; (try dsimp only at hSw); go_simp) <;> with_reducible rfl
     try simp only [Act.put, qqA, qqB, qqC]
     refine wpAnyH_ready (rs := [11, 13]) (by kernel_rfl) (by simp) ?_
     refine (ac rfl (fun K hK => ?_) (ac rfl (fun K hK => ?_) AllReadyH.nil))
     ·skip
      have hzz := Zq.out
      go_simp
      clear hzz
      refine hK.out _ _ ?s35 (fun hNew => ?r35)
      case s35 => exact ⟨C1.out.ram.2.1 0, trivial⟩
      clear hK K hHeld
      have hHeld := hNew
      clear hNew
      refine wpAnyH_ready (rs := [13]) (by kernel_rfl) (by simp) ?_
      refine (ac rfl (fun K hK => ?_) AllReadyH.nil)
      ·skip
       go_simp
       with_reducible refine (filled_c (HB1.out.below B1.out)).mono ?_
       rintro e u2 ⟨rfl, hz, fz⟩
       have B2 := Lib.hid (via B1.out hz)
       have C2 := Lib.hid (C1.out.below hz)
       have O2 := Lib.hid (O1.out.trans (Off.of (fun _ => False) hz) (fun b hb hx => hx.elim))
       have Zr := Lib.hid (show u2.cell? ⟨u1.heap.size, 65535, none⟩ = some (.int .u8 (fillM n1 f 65535)) from by have := fz.mem 65535 (by decide); rw [if_pos (by decide)] at this; exact this)
       have Yr := Lib.hid fz.lt
       clear hz fz
       refine hK.out _ _ ?s36 (fun hNew => ?r36)
       case s36 => exact ⟨C2.out.ram.2.1 0, trivial⟩
       clear hK K hHeld
       have hHeld := hNew
       clear hNew
       generalize u1.heap.size = br at Zr Yr ⊢
       refine tk 14 rfl (v := ?v37) ?y37 ?z37
       case y37 => (intro w hSw; (try dsimp only at hSw); go_simp) <;> with_reducible rfl
       try simp only [Act.put, qqA, qqB, qqC]
       refine wpAnyH_ready (rs := [15]) (by kernel_rfl) (by simp) ?_
       refine (ac rfl (fun K hK => ?_) AllReadyH.nil)
       ·skip
        have hzz := Zr.out
        go_simp
        clear hzz
        refine hK.out _ _ ?s38 (fun hNew => ?r38)
        case s38 => exact ⟨C2.out.ram.2.1 0, trivial⟩
        clear hK K hHeld
        have hHeld := hNew
        clear hNew
        refine tk 16 rfl (v := ?v39) ?y39 ?z39
        case y39 => (intro w hSw; (try dsimp only at hSw); go_simp) <;> with_reducible rfl
        try simp only [Act.put, qqA, qqB, qqC]
        refine wpAnyH_ready (rs := [17]) (by kernel_rfl) (by simp) ?_
        refine (ac rfl (fun K hK => ?_) AllReadyH.nil)
        ·skip
         have hm := C2.out.mem 65295 (by decide)
         have hf := C2.out.free
         go_simp
         clear hm hf
         have C3 := Lib.hid (C2.out.poke 65295 (by decide) (fillM n1 f 65295) (fillM_ok HB1.out.2.1 _).1 (fillM_ok HB1.out.2.1 _).2)
         have B3 := Lib.hid (B2.out.setCell (p := ⟨M2, 65295, none⟩) LM2.out (.int .u8 (fillM n1 f 65295)))
         have O3 := Lib.hid (O2.out.trans (Off.setCell (X := fun k => k = M2) u2 M2 65295 (.int .u8 (fillM n1 f 65295)) rfl) (fun b hb e => e))
         refine hK.out _ _ ?s40 (fun hNew => ?r40)
         case s40 => exact ⟨C3.out.ram.2.1 0, trivial⟩
         clear hK K hHeld
         have hHeld := hNew
         clear hNew
         generalize World.setCell u2 ⟨M2, 65295, none⟩ (.int .u8 (fillM n1 f 65295)) = u3 at hHeld B3 C3 O3 ⊢
         refine tk 18 rfl (v := ?v41) ?y41 ?z41
         case y41 => (intro w hSw; (try dsimp only at hSw); go_simp) <;> with_reducible rfl
         try simp only [Act.put, qqA, qqB, qqC]
         refine wpAnyH_ready (rs := [19]) (by kernel_rfl) (by simp) ?_
         refine (ac rfl (fun K hK => ?_) AllReadyH.nil)
         ·skip
          have hm := C3.out.mem 65535 (by decide)
          have hf := C3.out.free
          go_simp
          clear hm hf
          have C4 := Lib.hid (C3.out.poke 65535 (by decide) (fillM n1 f 65535) (fillM_ok HB1.out.2.1 _).1 (fillM_ok HB1.out.2.1 _).2)
          have B4 := Lib.hid (B3.out.setCell (p := ⟨M2, 65535, none⟩) LM2.out (.int .u8 (fillM n1 f 65535)))
          have O4 := Lib.hid (O3.out.trans (Off.setCell (X := fun k => k = M2) u3 M2 65535 (.int .u8 (fillM n1 f 65535)) rfl) (fun b hb e => e))
          refine hK.out _ _ ?s42 (fun hNew => ?r42)
          case s42 => exact ⟨C4.out.ram.2.1 0, trivial⟩
          clear hK K hHeld
          have hHeld := hNew
          clear hNew
          generalize World.setCell u3 ⟨M2, 65535, none⟩ (.int .u8 (fillM n1 f 65535)) = u4 at hHeld B4 C4 O4 ⊢
          refine wpAnyH_done (by kernel_rfl) ?_ _
          clear hHeld
          go_wp2
          go_meet
          exact ⟨B4.out, C4.out, O4.out⟩
     ·skip
      go_simp
      with_reducible refine (filled_c (HB1.out.below B1.out)).mono ?_
      rintro e u2 ⟨rfl, hz, fz⟩
      have B2 := Lib.hid (via B1.out hz)
      have C2 := Lib.hid (C1.out.below hz)
      have O2 := Lib.hid (O1.out.trans (Off.of (fun _ => False) hz) (fun b hb hx => hx.elim))
      have Zr := Lib.hid (show u2.cell? ⟨u1.heap.size, 65535, none⟩ = some (.int .u8 (fillM n1 f 65535)) from by have := fz.mem 65535 (by decide); rw [if_pos (by decide)] at this; exact this)
      have Yr := Lib.hid fz.lt
      have Zq := Lib.hid ((hz.cell (p := ⟨bq, 65295, none⟩) Yq.out).trans Zq.out)
      clear hz fz
      refine hK.out _ _ ?s43 (fun hNew => ?r43)
      case s43 => exact ⟨C2.out.ram.2.1 0, trivial⟩
      clear hK K hHeld
      have hHeld := hNew
      clear hNew
      generalize u1.heap.size = br at Zr Yr ⊢
      refine tk 14 rfl (v := ?v44) ?y44 ?z44
      case y44 => (intro w hSw; (try dsimp only at hSw); go_simp) <;> with_reducible rfl
      try simp only [Act.put, qqA, qqB, qqC]
      refine wpAnyH_ready (rs := [11, 15]) (by kernel_rfl) (by simp) ?_
      refine (ac rfl (fun K hK => ?_) (ac rfl (fun K hK => ?_) AllReadyH.nil))
      ·skip
       have hzz := Zq.out
       go_simp
       clear hzz
       refine hK.out _ _ ?s45 (fun hNew => ?r45)
       case s45 => exact ⟨C2.out.ram.2.1 0, trivial⟩
       clear hK K hHeld
       have hHeld := hNew
       clear hNew
       refine wpAnyH_ready (rs := [15]) (by kernel_rfl) (by simp) ?_
       refine (ac rfl (fun K hK => ?_) AllReadyH.nil)
       ·skip
        have hzz := Zr.out
        go_simp
        clear hzz
        refine hK.out _ _ ?s46 (fun hNew => ?r46)
        case s46 => exact ⟨C2.out.ram.2.1 0, trivial⟩
        clear hK K hHeld
        have hHeld := hNew
        clear hNew
        refine tk 16 rfl (v := ?v47) ?y47 ?z47
        case y47 => (intro w hSw; (try dsimp only at hSw); go_simp) <;> with_reducible rfl
        try simp only [Act.put, qqA, qqB, qqC]
        refine wpAnyH_ready (rs := [17]) (by kernel_rfl) (by simp) ?_
        refine (ac rfl (fun K hK => ?_) AllReadyH.nil)
        ·skip
         have hm := C2.out.mem 65295 (by decide)
         have hf := C2.out.free
         go_simp
         clear hm hf
         have C3 := Lib.hid (C2.out.poke 65295 (by decide) (fillM n1 f 65295) (fillM_ok HB1.out.2.1 _).1 (fillM_ok HB1.out.2.1 _).2)
         have B3 := Lib.hid (B2.out.setCell (p := ⟨M2, 65295, none⟩) LM2.out (.int .u8 (fillM n1 f 65295)))
         have O3 := Lib.hid (O2.out.trans (Off.setCell (X := fun k => k = M2) u2 M2 65295 (.int .u8 (fillM n1 f 65295)) rfl) (fun b hb e => e))
         refine hK.out _ _ ?s48 (fun hNew => ?r48)
         case s48 => exact ⟨C3.out.ram.2.1 0, trivial⟩
         clear hK K hHeld
         have hHeld := hNew
         clear hNew
         generalize World.setCell u2 ⟨M2, 65295, none⟩ (.int .u8 (fillM n1 f 65295)) = u3 at hHeld B3 C3 O3 ⊢
         refine tk 18 rfl (v := ?v49) ?y49 ?z49
         case y49 => (intro w hSw; (try dsimp only at hSw); go_simp) <;> with_reducible rfl
         try simp only [Act.put, qqA, qqB, qqC]
         refine wpAnyH_ready (rs := [19]) (by kernel_rfl) (by simp) ?_
         refine (ac rfl (fun K hK => ?_) AllReadyH.nil)
         ·skip
          have hm := C3.out.mem 65535 (by decide)
          have hf := C3.out.free
          go_simp
          clear hm hf
          have C4 := Lib.hid (C3.out.poke 65535 (by decide) (fillM n1 f 65535) (fillM_ok HB1.out.2.1 _).1 (fillM_ok HB1.out.2.1 _).2)
          have B4 := Lib.hid (B3.out.setCell (p := ⟨M2, 65535, none⟩) LM2.out (.int .u8 (fillM n1 f 65535)))
          have O4 := Lib.hid (O3.out.trans (Off.setCell (X := fun k => k = M2) u3 M2 65535 (.int .u8 (fillM n1 f 65535)) rfl) (fun b hb e => e))
          refine hK.out _ _ ?s50 (fun hNew => ?r50)
          case s50 => exact ⟨C4.out.ram.2.1 0, trivial⟩
          clear hK K hHeld
          have hHeld := hNew
          clear hNew
          generalize World.setCell u3 ⟨M2, 65535, none⟩ (.int .u8 (fillM n1 f 65535)) = u4 at hHeld B4 C4 O4 ⊢
          refine wpAnyH_done (by kernel_rfl) ?_ _
          clear hHeld
          go_wp2
          go_meet
          exact ⟨B4.out, C4.out, O4.out⟩
      ·skip
       have hzz := Zr.out
       go_simp
       clear hzz
       refine hK.out _ _ ?s51 (fun hNew => ?r51)
       case s51 => exact ⟨C2.out.ram.2.1 0, trivial⟩
       clear hK K hHeld
       have hHeld := hNew
       clear hNew
       refine wpAnyH_ready (rs := [11]) (by kernel_rfl) (by simp) ?_
       refine (ac rfl (fun K hK => ?_) AllReadyH.nil)
       ·skip
        have hzz := Zq.out
        go_simp
        clear hzz
        refine hK.out _ _ ?s52 (fun hNew => ?r52)
        case s52 => exact ⟨C2.out.ram.2.1 0, trivial⟩
        clear hK K hHeld
        have hHeld := hNew
        clear hNew
        refine tk 16 rfl (v := ?v53) ?y53 ?z53
        case y53 => (intro w hSw; (try dsimp only at hSw); go_simp) <;> with_reducible rfl
        try simp only [Act.put, qqA, qqB, qqC]
        refine wpAnyH_ready (rs := [17]) (by kernel_rfl) (by simp) ?_
        refine (ac rfl (fun K hK => ?_) AllReadyH.nil)
        ·skip
         have hm := C2.out.mem 65295 (by decide)
         have hf := C2.out.free
         go_simp
         clear hm hf
         have C3 := Lib.hid (C2.out.poke 65295 (by decide) (fillM n1 f 65295) (fillM_ok HB1.out.2.1 _).1 (fillM_ok HB1.out.2.1 _).2)
         have B3 := Lib.hid (B2.out.setCell (p := ⟨M2, 65295, none⟩) LM2.out (.int .u8 (fillM n1 f 65295)))
         have O3 := Lib.hid (O2.out.trans (Off.setCell (X := fun k => k = M2) u2 M2 65295 (.int .u8 (fillM n1 f 65295)) rfl) (fun b hb e => e))
         refine hK.out _ _ ?s54 (fun hNew => ?r54)
         case s54 => exact ⟨C3.out.ram.2.1 0, trivial⟩
         clear hK K hHeld
         have hHeld := hNew
         clear hNew
         generalize World.setCell u2 ⟨M2, 65295, none⟩ (.int .u8 (fillM n1 f 65295)) = u3 at hHeld B3 C3 O3 ⊢
         refine tk 18 rfl (v := ?v55) ?y55 ?z55
         case y55 => (intro w hSw; (try dsimp only at hSw); go_simp) <;> with_reducible rfl
         try simp only [Act.put, qqA, qqB, qqC]
         refine wpAnyH_ready (rs := [19]) (by kernel_rfl) (by simp) ?_
         refine (ac rfl (fun K hK => ?_) AllReadyH.nil)
         ·skip
          have hm := C3.out.mem 65535 (by decide)
          have hf := C3.out.free
          go_simp
          clear hm hf
          have C4 := Lib.hid (C3.out.poke 65535 (by decide) (fillM n1 f 65535) (fillM_ok HB1.out.2.1 _).1 (fillM_ok HB1.out.2.1 _).2)
          have B4 := Lib.hid (B3.out.setCell (p := ⟨M2, 65535, none⟩) LM2.out (.int .u8 (fillM n1 f 65535)))
          have O4 := Lib.hid (O3.out.trans (Off.setCell (X := fun k => k = M2) u3 M2 65535 (.int .u8 (fillM n1 f 65535)) rfl) (fun b hb e => e))
          refine hK.out _ _ ?s56 (fun hNew => ?r56)
          case s56 => exact ⟨C4.out.ram.2.1 0, trivial⟩
          clear hK K hHeld
          have hHeld := hNew
          clear hNew
          generalize World.setCell u3 ⟨M2, 65535, none⟩ (.int .u8 (fillM n1 f 65535)) = u4 at hHeld B4 C4 O4 ⊢
          refine wpAnyH_done (by kernel_rfl) ?_ _
          clear hHeld
          go_wp2
          go_meet
          exact ⟨B4.out, C4.out, O4.out⟩
   case rest =>
    obtain ⟨hB, hC, hO⟩ := hcut
    have BW := Lib.hid hB
    have CW := Lib.hid hC
    have OW := Lib.hid hO
    clear hB hC hO B0 C0 O0
    have SM := nil_same s OKS.out (fillM n1 f) om (fillM_ok HB1.out.2.1) (by rw [← Y1.out, HL.out]; exact HP.out)
    rw [← Y1.out, ← YD.out] at SM
    obtain ⟨mo, hmo⟩ : ∃ q_, upd (upd om 65295 (fillM n1 f 65295)) 65535 (fillM n1 f 65535) = q_ := ⟨_, rfl⟩
    rw [hmo] at SM CW
    obtain ⟨y2, hy2⟩ : ∃ q_, q_ = stepS ⟨s, mo, []⟩ := ⟨_, rfl⟩
    obtain ⟨D2, hd2⟩ : ∃ q_, q_ = stepD ⟨s, mo, []⟩ := ⟨_, rfl⟩
    rw [← hy2, ← hd2] at SM
    have SMH := Lib.hid SM
    have HW := Lib.hid (H10.out.off OW.out (fun e => NS2.out.1 (show sb = M2 from e)))
    clear SM hmo
    go_upto_region 17 with (fail)
    refine nreg17 wc R2 M2 sb mo s y2 D2 hy2 hd2 OKS.out NS2.out.2 NS2.out.1 CW.out HW.out _ _ _ _ _ _ _ _ _ _ _ _ _ _ _ _ _ _ _ _ _ _ _ _ _ _ _ _ _ _ _ _ _ _ _ _ _ _ _ _ _ _ _ _ _ _ _ _ _ _ _ _ _ _ _ _ _ _ _ _ _ _ _ _ _ _ _ _ _ _ _ _ _ _ _ _ _ _ _ _ _ _ _ _ _ _ _ _ _ _ _ _ _ _ _ _ _ _ _ _ _ _ _ _ _ _ _ _ _ _ _ _ _ _ _ _ _ _ _ _ _ _ _ _ _ _ _ _ _ _ _ _ _ _ _ _ _ _ _ _ _ _ _ _ _ _ _ _ _ _ _ _ _ _ _ _ _ _ _ _ _ _ _ _ _ _ _ _ _ _ _ _ _ _ _ _ _ _ _ _ _ ?_
    intro tb2 v2 p17 q17 k154 k155 k156 k157 k158 k159 k160 k161 w18 G
    have GN := Lib.hid G
    clear G hy2 hd2
    have g9 := FN.out.lp
    have g9' := FN.out.ld
    have m9 := LM9.out
    have r9 := LR9.out
    have P18 := Lib.hid ((FN.out.hp.off OW.out (fun e => by have e' : p9 = M2 := e; omega)).off GN.out.off (fun e => by rcases e with e | e <;> omega))
    have Q18 := Lib.hid ((FN.out.hd.off OW.out (fun e => by have e' : q9 = M2 := e; omega)).off GN.out.off (fun e => by rcases e with e | e <;> omega))
    have P17 := Lib.hid (show Has w18 p17 #[.int .u8 y1.s.r.a, .int .u8 y1.s.r.f, .int .u8 y1.s.r.b, .int .u8 y1.s.r.c, .int .u8 y1.s.r.d, .int .u8 y1.s.r.e, .int .u8 y1.s.r.h, .int .u8 y1.s.r.l, .int .u16 y1.s.r.sp, .int .u16 y1.s.r.pc, .bool y1.s.ime, .bool y1.s.soon, .bool y1.s.halt, .bool y1.s.stop] by have := GN.out.hp; rw [SMH.out.1] at this; exact this)
    have Q17 := Lib.hid (show Has w18 q17 #[.int .i64 DV.what, .int .i64 DV.n, .int .u16 DV.at', .int .i64 DV.o.k, .int .i64 DV.o.x, .int .i64 DV.o.y, .int .i64 DV.o.s, .int .u16 DV.o.n, .bool DV.t] by have := GN.out.hd; rw [SMH.out.2.2] at this; exact this)
    obtain ⟨av2, cv2, hv2, har2⟩ := GN.out.bus.ar
    rw [SMH.out.2.1, HL.out] at hv2
    rw [SMH.out.2.1] at har2
    have AR2 := Lib.hid har2
    obtain ⟨rq2, hrq2⟩ := GN.out.bus.ram
    have hr2 : w18.cell? ⟨R2, 1, none⟩ = some v2 := hrq2.2.1 1
    rw [hv2] at hr2
    have HR2 := Lib.hid hr2
    have HR18 := Lib.hid ((GN.out.off.cell (p := ⟨R1, 1, none⟩) (Nat.lt_of_lt_of_le LR1'.out OW.out.size) (fun e => e.elim (fun e => NR2.out.1 (Or.inl (show R1 = R2 from e).symm)) NR1M.out)).trans ((OW.out.cell (p := ⟨R1, 1, none⟩) LR1'.out NR1M.out).trans HR1.out))
    have AR18 := Lib.hid (show AR w18 av y1.acc from fun i x hx => by
     obtain ⟨b, o, e, hl, h0, h1, h2⟩ := AR1.out i x hx
     have lb := FN.out.lv b (by rw [HV.out, e]; rfl)
     have nb : ¬ b = M2 := by omega
     have nb2 : ¬ (b = R2 ∨ b = M2) := by omega
     have sz := Nat.lt_of_lt_of_le hl OW.out.size
     exact ⟨b, o, e, Nat.lt_of_lt_of_le sz GN.out.off.size, (GN.out.off.cell (p := ⟨b, o + i * 3, none⟩) sz nb2).trans ((OW.out.cell (p := ⟨b, o + i * 3, none⟩) hl nb).trans h0), (GN.out.off.cell (p := ⟨b, o + i * 3 + 1, none⟩) sz nb2).trans ((OW.out.cell (p := ⟨b, o + i * 3 + 1, none⟩) hl nb).trans h1), (GN.out.off.cell (p := ⟨b, o + i * 3 + 2, none⟩) sz nb2).trans ((OW.out.cell (p := ⟨b, o + i * 3 + 2, none⟩) hl nb).trans h2)⟩)
    have B18 := Lib.hid (BW.out.trans (GN.out.off.below (fun k hk hx => by have := LR2.out; have := LM2.out; rcases hx with hx | hx <;> omega) BW.out.size))
    have L12N : y1.acc.length < 1000000 := by have := FN.out.bus.len; omega
    have LN := Lib.hid L12N
    clear g9 g9' m9 r9 hv2 har2 hrq2 hr2 L12N
    go_upto_region 18 with (fail)
    have P18 := Lib.hid P18.out.drew
    have Q18 := Lib.hid Q18.out.drew
    have P17 := Lib.hid P17.out.drew
    have Q17 := Lib.hid Q17.out.drew
    have B18 := Lib.hid B18.out.drew
    have AR18 := Lib.hid (AR18.out.below (Below.refl _ _).drew)
    have AR2 := Lib.hid (AR2.out.below (Below.refl _ _).drew)
    have HR18 := Lib.hid (show (World.drew w18).cell? ⟨R1, 1, none⟩ = some (.slice av t cv) from HR18.out)
    have HR2 := Lib.hid (show (World.drew w18).cell? ⟨R2, 1, none⟩ = some (.slice av2 t cv2) from HR2.out)
    have AC := Lib.hid (acc_c av av2 cv cv2 y1.acc (World.drew w18) LN.out AR18.out AR2.out)
    rw [HL.out] at AC
    refine wp_region_held_drew (S := (fun w' => (∀ o, w'.cell? ⟨p9, o, none⟩ = #[.int .u8 y1.s.r.a, .int .u8 y1.s.r.f, .int .u8 y1.s.r.b, .int .u8 y1.s.r.c, .int .u8 y1.s.r.d, .int .u8 y1.s.r.e, .int .u8 y1.s.r.h, .int .u8 y1.s.r.l, .int .u16 y1.s.r.sp, .int .u16 y1.s.r.pc, .bool y1.s.ime, .bool y1.s.soon, .bool y1.s.halt, .bool y1.s.stop][o]?) ∧ (∀ o, w'.cell? ⟨p17, o, none⟩ = #[.int .u8 y1.s.r.a, .int .u8 y1.s.r.f, .int .u8 y1.s.r.b, .int .u8 y1.s.r.c, .int .u8 y1.s.r.d, .int .u8 y1.s.r.e, .int .u8 y1.s.r.h, .int .u8 y1.s.r.l, .int .u16 y1.s.r.sp, .int .u16 y1.s.r.pc, .bool y1.s.ime, .bool y1.s.soon, .bool y1.s.halt, .bool y1.s.stop][o]?) ∧ (∀ o, w'.cell? ⟨q9, o, none⟩ = #[.int .i64 DV.what, .int .i64 DV.n, .int .u16 DV.at', .int .i64 DV.o.k, .int .i64 DV.o.x, .int .i64 DV.o.y, .int .i64 DV.o.s, .int .u16 DV.o.n, .bool DV.t][o]?) ∧ (∀ o, w'.cell? ⟨q17, o, none⟩ = #[.int .i64 DV.what, .int .i64 DV.n, .int .u16 DV.at', .int .i64 DV.o.k, .int .i64 DV.o.x, .int .i64 DV.o.y, .int .i64 DV.o.s, .int .u16 DV.o.n, .bool DV.t][o]?) ∧ (w'.cell? ⟨R1, 1, none⟩ = some (.slice av t cv)) ∧ (w'.cell? ⟨R2, 1, none⟩ = some (.slice av2 t cv2)))) (by kernel_rfl) ⟨P18.out.2.1, P17.out.2.1, Q18.out.2.1, Q17.out.2.1, HR18.out, HR2.out⟩ (fun hHeld => ?_)
    have RL1 := Lib.hid (World.block_lt_of_cell? _ _ HR18.out)
    have RL2 := Lib.hid (World.block_lt_of_cell? _ _ HR2.out)
    generalize World.drew w18 = u0 at hHeld P18 P17 Q18 Q17 B18 AR18 AR2 HR18 HR2 AC RL1 RL2 ⊢
    refine tk 0 rfl (v := ?v57) ?y57 ?z57
    case y57 => (intro w hSw; (try dsimp only at hSw); go_simp) <;> with_reducible rfl
    try simp only [Act.put, qqA, qqB, qqC]
    refine tk 1 rfl (v := ?v58) ?y58 ?z58
    case y58 => (intro w hSw; (try dsimp only at hSw); go_simp) <;> with_reducible rfl
    try simp only [Act.put, qqA, qqB, qqC]
    refine tk 2 rfl (v := ?v59) ?y59 ?z59
    case y59 => (intro w hSw; (try dsimp only at hSw); go_simp) <;> with_reducible rfl
    try simp only [Act.put, qqA, qqB, qqC]
    refine tk 3 rfl (v := ?v60) ?y60 ?z60
    case y60 => (intro w hSw; (try dsimp only at hSw); go_simp) <;> with_reducible rfl
    try simp only [Act.put, qqA, qqB, qqC]
    refine tk 4 rfl (v := ?v61) ?y61 ?z61
    case y61 => (intro w hSw; (try dsimp only at hSw); go_simp) <;> with_reducible rfl
    try simp only [Act.put, qqA, qqB, qqC]
    refine tk 5 rfl (v := ?v62) ?y62 ?z62
    case y62 => (intro w hSw; (try dsimp only at hSw); go_simp) <;> with_reducible rfl
    try simp only [Act.put, qqA, qqB, qqC]
    refine tk 6 rfl (v := ?v63) ?y63 ?z63
    case y63 => (intro w hSw; (try dsimp only at hSw); go_simp) <;> with_reducible rfl
    try simp only [Act.put, qqA, qqB, qqC]
    refine tk 7 rfl (v := ?v64) ?y64 ?z64
    case y64 => (intro w hSw; (try dsimp only at hSw); go_simp) <;> with_reducible rfl
    try simp only [Act.put, qqA, qqB, qqC]
    refine tk 8 rfl (v := ?v65) ?y65 ?z65
    case y65 => (intro w hSw; (try dsimp only at hSw); go_simp) <;> with_reducible rfl
    try simp only [Act.put, qqA, qqB, qqC]
    refine tk 9 rfl (v := ?v66) ?y66 ?z66
    case y66 => (intro w hSw; (try dsimp only at hSw); go_simp) <;> with_reducible rfl
    try simp only [Act.put, qqA, qqB, qqC]
    refine tk 10 rfl (v := ?v67) ?y67 ?z67
    case y67 => (intro w hSw; (try dsimp only at hSw); go_simp) <;> with_reducible rfl
    try simp only [Act.put, qqA, qqB, qqC]
    refine tk 11 rfl (v := ?v68) ?y68 ?z68
    case y68 => (intro w hSw; (try dsimp only at hSw); go_simp) <;> with_reducible rfl
    try simp only [Act.put, qqA, qqB, qqC]
    refine tk 12 rfl (v := ?v69) ?y69 ?z69
    case y69 => (intro w hSw; (try dsimp only at hSw); go_simp) <;> with_reducible rfl
    try simp only [Act.put, qqA, qqB, qqC]
    refine tk 13 rfl (v := ?v70) ?y70 ?z70
    case y70 => (intro w hSw; (try dsimp only at hSw); go_simp) <;> with_reducible rfl
    try simp only [Act.put, qqA, qqB, qqC]
    refine tk 14 rfl (v := ?v71) ?y71 ?z71
    case y71 => (intro w hSw; (try dsimp only at hSw); go_simp) <;> with_reducible rfl
    try simp only [Act.put, qqA, qqB, qqC]
    refine tk 15 rfl (v := ?v72) ?y72 ?z72
    case y72 => (intro w hSw; (try dsimp only at hSw); go_simp) <;> with_reducible rfl
    try simp only [Act.put, qqA, qqB, qqC]
    refine tk 16 rfl (v := ?v73) ?y73 ?z73
    case y73 => (intro w hSw; (try dsimp only at hSw); go_simp) <;> with_reducible rfl
    try simp only [Act.put, qqA, qqB, qqC]
    refine wpAnyH_ready (rs := [17]) (by kernel_rfl) (by simp) ?_
    refine (ac rfl (fun K hK => ?_) AllReadyH.nil)
    ·skip
     go_simp
     with_reducible refine AC.out.mono ?_
     rintro e z1 ⟨rfl, hz⟩
     have B19 := Lib.hid (via B18.out hz)
     refine hK.out _ _ ?s74 (fun hNew => ?r74)
     case s74 => exact ⟨(P18.out.below hz).2.1, (P17.out.below hz).2.1, (Q18.out.below hz).2.1, (Q17.out.below hz).2.1, (hz.cell (p := ⟨R1, 1, none⟩) RL1.out).trans HR18.out, (hz.cell (p := ⟨R2, 1, none⟩) RL2.out).trans HR2.out⟩
     clear hK K hHeld
     have hHeld := hNew
     clear hNew
     refine tk 18 rfl (v := ?v75) ?y75 ?z75
     case y75 => (intro w hSw; (try dsimp only at hSw); go_simp) <;> with_reducible rfl
     try simp only [Act.put, qqA, qqB, qqC]
     refine tk 19 rfl (v := ?v76) ?y76 ?z76
     case y76 => (intro w hSw; (try dsimp only at hSw); go_simp) <;> with_reducible rfl
     try simp only [Act.put, qqA, qqB, qqC]
     refine wpAnyH_done (by kernel_rfl) ?_ _
     go_wp2
     go_ret
     exact ⟨rfl, B19.out⟩
theorem nil_walk (s : St) (ok : s.r.ok) (v1 v2 : Value) (w : World) (h1 : ∃ (a : Option Addr) (n c : Nat), v1 = .slice a n c ∧ n ≤ 9223372036854775807 ∧ (n < 4611686018427387904 → ∃ f, By w v1 n f)) (h2 : ∃ (a : Option Addr) (n c : Nat), v2 = .slice a n c ∧ n ≤ 9223372036854775807 ∧ (n < 4611686018427387904 → ∃ f, By w v2 n f)) : Calls Tryz.prog 9 #[.agg #[.int .u8 s.r.a, .int .u8 s.r.f, .int .u8 s.r.b, .int .u8 s.r.c, .int .u8 s.r.d, .int .u8 s.r.e, .int .u8 s.r.h, .int .u8 s.r.l, .int .u16 s.r.sp, .int .u16 s.r.pc, .bool s.ime, .bool s.soon, .bool s.halt, .bool s.stop], v1, v2] w fun e w' => e = .returned (.bool true) ∧ Below w.heap.size w w' := by
 obtain ⟨a1, n1, c1, rfl, q1, f1⟩ := h1
 obtain ⟨a2, n2, c2, rfl, q2, f2⟩ := h2
 by_cases k1 : 2000 < n1
 ·exact nil_long1 s a1 a2 n1 c1 n2 c2 k1 w
 by_cases k2 : 2000 < n2
 ·exact nil_long2 s a1 a2 n1 c1 n2 c2 k1 k2 w
 obtain ⟨f, hf⟩ := f1 (by omega)
 obtain ⟨g, hg⟩ := f2 (by omega)
 exact nil_some s ok a1 a2 n1 c1 n2 c2 k1 k2 f g w hf hg
end Go.Proofs.YtngdogldgcgnjaaGreat
