/-
  What (*Table).Decode returns, and that it touches nothing but its table: for every world and all bytes; the table is there, or is nil.
  (Some texts in one.)
-/
import Derived.Test.YtngdogldgcgnjaaGreatZ06
import Derived.Test.YtngdogldgcgnjaaGreatZ00
import Derived.Test.YtngdogldgcgnjaaGreatZ01
set_option maxRecDepth 100000
set_option maxHeartbeats 8000000
namespace Go.Proofs.YtngdogldgcgnjaaGreat
open Go.ChangeShapes Go.WideShapes Go.ChangeAt Go.RowKit
set_option linter.unusedVariables false
theorem or16 (h l : Nat) (h2 : h < 256) (h4 : l < 256) : bits .or .u16 ((h : Int) * 256) l = (h : Int) * 256 + l := by
 rw [u16_or _ _ (by omega) (by omega) (by omega) (by omega)]
 have e1 : ((h : Int) * 256).toNat = 2 ^ 8 * h := by omega
 have e2 : (l : Int).toNat = l := rfl; rw [e1, e2, ← Nat.two_pow_add_eq_or_of_lt (by omega)]
 omega
theorem Tab.rowF {w : World} {b : Nat} {d m : Int} (h : Tab w b d m 256 256) (k : Nat) (hk : k < 256) {r : OpV} (hr : pfT k = r) :
  w.cell? ⟨b, 1283 + k * 5, none⟩ = .some (.int .i64 r.k) ∧ w.cell? ⟨b, 1283 + k * 5 + 1, none⟩ = .some (.int .i64 r.x) ∧ w.cell? ⟨b, 1283 + k * 5 + 2, none⟩ = .some (.int .i64 r.y) ∧ w.cell? ⟨b, 1283 + k * 5 + 3, none⟩ = .some (.int .i64 r.s) ∧ w.cell? ⟨b, 1283 + k * 5 + 4, none⟩ = .some (.int .u16 r.n) := by
 subst hr
 exact ⟨h.pref k 0 hk (by decide), h.pref k 1 hk (by decide), h.pref k 2 hk (by decide), h.pref k 3 hk (by decide), h.pref k 4 hk (by decide)⟩
theorem Tab.rowP {w : World} {b : Nat} {d m : Int} (h : Tab w b d m 256 256) (k : Nat) (hk : k < 256) {r : OpV} (hr : plT k = r) :
  w.cell? ⟨b, 3 + k * 5, none⟩ = .some (.int .i64 r.k) ∧ w.cell? ⟨b, 3 + k * 5 + 1, none⟩ = .some (.int .i64 r.x) ∧ w.cell? ⟨b, 3 + k * 5 + 2, none⟩ = .some (.int .i64 r.y) ∧ w.cell? ⟨b, 3 + k * 5 + 3, none⟩ = .some (.int .i64 r.s) ∧ w.cell? ⟨b, 3 + k * 5 + 4, none⟩ = .some (.int .u16 r.n) := by
 subst hr
 exact ⟨h.plain k 0 hk (by decide), h.plain k 1 hk (by decide), h.plain k 2 hk (by decide), h.plain k 3 hk (by decide), h.plain k 4 hk (by decide)⟩
def Out (tb : Nat) (w w' : World) : Prop := But tb w w' ∧ Tab w' tb 1 0 256 256
theorem Out.set {tb c : Nat} {w V : World} (h : Out tb w V) (h1 : w.heap.size ≤ c) (h2 : c ≠ tb) (o : Nat) (v : Value) : Out tb w (V.setCell ⟨c, o, none⟩ v) :=
 ⟨⟨h.1.os, h.1.tape, h.1.output, by simpa using h.1.size, fun k hk hn => (Below.heap_setCell _ _ _ _ (by show k ≠ c; omega)).trans (h.1.block k hk hn)⟩, h.2.but (But.setCell c V o v) (fun e => h2 e.symm)⟩
theorem Out.alloc {tb : Nat} {w V : World} (h : Out tb w V) (o : Obj) : Out tb w (V.alloc o) := ⟨h.1.trans (But.of (own1 V o)), h.2.below (own1 V o)⟩
theorem nil_c (a b c : Int) (w : World) : Calls Tryz.prog 71 #[.pointer none, .int .u8 a, .int .u8 b, .int .u8 c] w fun e w' =>
  e = .returned (.agg #[.int .i64 4, .int .i64 0, .int .i64 0, .int .i64 1, .int .u16 0]) ∧ Below w.heap.size w w' := by
 go_enter Tryz.func71, Tryz.ntmps71
 go_wp2_with (go_at_call 83; ((first | (with_reducible refine (op_0 _ _ _).mono ?_) | ((with_reducible refine (op_1n _ _ _ _ _ _ ?_).mono ?_); (· simp)) | ((with_reducible refine (op_2n _ _ _ _ _ _ _ ?_).mono ?_); (· simp))); rintro e w1 ⟨rfl, hb⟩; obtain ⟨hc, hf⟩ := bcell hb; have HB := Lib.hid hb; clear hb))
 refine bodyPost_ret (v := _) ?_ rfl ⟨rfl, ?_⟩
 ·simp [results, Tryz.results71, go_sem, hc]
 ·clear hc hf
  have hbb := HB.out; clear HB
  with_reducible exact set5 (via (own1 _ _) hbb) _ (Nat.le_refl _) _ _ _ _ _
theorem decP (tb : Nat) (b c : Nat) (hb256 : b < 256) (r : OpV) (hr0 : pfT b = r) (w : World) (T0 : TabAny w tb) : Calls Tryz.prog 71 #[.pointer (some ⟨tb, 0, none⟩), .int .u8 203, .int .u8 b, .int .u8 c] w fun e w' =>
  e = .returned (.agg #[.int .i64 (r).k, .int .i64 (r).x, .int .i64 (r).y, .int .i64 (r).s, .int .u16 (r).n]) ∧ Out tb w w' := by
 have hr := Lib.hid hr0; clear hr0
 have hmf : ∀ (fn : Fn) (first cap : Array Value) (w : World), (Instr.makeFunc fn first cap).run Tryz.prog w = .ok (.func fn first cap) w := fun _ _ _ _ => rfl
 have T1 := Lib.hid (show TabAny (w.alloc (.cells #[.int .i64 0, .int .i64 0, .int .i64 0, .int .i64 0, .int .u16 0] 44)) tb from T0.imp (fun h => h.below (own1 _ _)) (fun h => h.below (own1 _ _)))
 have hne : w.heap.size ≠ tb := by rcases T0 with h | h <;> have := h.lt <;> omega
 have HN := Lib.hid hne; clear T0 hne; go_enter Tryz.func71, Tryz.ntmps71; go_wp2_with fail
 refine (do_c tb _ T1.out).mono ?_
 rintro e V ⟨rfl, hB, hT⟩; have HR := (Has.new w #[.int .i64 0, .int .i64 0, .int .i64 0, .int .i64 0, .int .u16 0] 44).but hB HN.out
 have O2 := Lib.hid (show Out tb w V from ⟨(But.of (own1 w (.cells #[.int .i64 0, .int .i64 0, .int .i64 0, .int .i64 0, .int .u16 0] 44))).trans hB, hT⟩)
 obtain ⟨hc, hf⟩ := HR.out; have hlt := HR.1; clear HR hB T1; obtain ⟨g0, g1, g2, g3, g4⟩ := hT.rowF b hb256 hr.out; clear hT; go_wp2
 refine bodyPost_ret (v := _) ?_ rfl ⟨rfl, ?_⟩
 ·simp [results, Tryz.results71, go_sem, hc]
 ·exact ((((O2.out.set (Nat.le_refl _) HN.out 0 _).set (Nat.le_refl _) HN.out 1 _).set (Nat.le_refl _) HN.out 2 _).set (Nat.le_refl _) HN.out 3 _).set (Nat.le_refl _) HN.out 4 _
theorem dec1 (tb : Nat) (a b c : Nat) (ha : a < 256) (hb256 : b < 256) (hc256 : c < 256) (h203 : ((a : Int) == 203) = false) (r : OpV) (hr0 : plT a = r) (hs2 : (r.s == 2) = false) (hs3 : (r.s == 3) = false) (w : World) (T0 : TabAny w tb) : Calls Tryz.prog 71 #[.pointer (some ⟨tb, 0, none⟩), .int .u8 a, .int .u8 b, .int .u8 c] w fun e w' =>
  e = .returned (.agg #[.int .i64 r.k, .int .i64 r.x, .int .i64 r.y, .int .i64 r.s, .int .u16 r.n]) ∧ Out tb w w' := by
 have hr := Lib.hid hr0; clear hr0
 have hmf : ∀ (fn : Fn) (first cap : Array Value) (w : World), (Instr.makeFunc fn first cap).run Tryz.prog w = .ok (.func fn first cap) w := fun _ _ _ _ => rfl
 have T1 := Lib.hid (show TabAny (w.alloc (.cells #[.int .i64 0, .int .i64 0, .int .i64 0, .int .i64 0, .int .u16 0] 44)) tb from T0.imp (fun h => h.below (own1 _ _)) (fun h => h.below (own1 _ _)))
 have hne : w.heap.size ≠ tb := by rcases T0 with h | h <;> have := h.lt <;> omega
 have HN := Lib.hid hne; clear T0 hne; go_enter Tryz.func71, Tryz.ntmps71; go_wp2_with fail
 refine (do_c tb _ T1.out).mono ?_
 rintro e V ⟨rfl, hB, hT⟩; have HR := (Has.new w #[.int .i64 0, .int .i64 0, .int .i64 0, .int .i64 0, .int .u16 0] 44).but hB HN.out
 have O2 := Lib.hid (show Out tb w V from ⟨(But.of (own1 w (.cells #[.int .i64 0, .int .i64 0, .int .i64 0, .int .i64 0, .int .u16 0] 44))).trans hB, hT⟩)
 obtain ⟨hc, hf⟩ := HR.out; have hlt := HR.1; clear HR hB T1; obtain ⟨g0, g1, g2, g3, g4⟩ := hT.rowP a ha hr.out; clear hT; go_wp2
 refine bodyPost_ret (v := _) ?_ rfl ⟨rfl, ?_⟩
 ·simp [results, Tryz.results71, go_sem, hc, hlt]
 ·exact (((((O2.out.set (Nat.le_refl _) HN.out 0 _).set (Nat.le_refl _) HN.out 1 _).set (Nat.le_refl _) HN.out 2 _).set (Nat.le_refl _) HN.out 3 _).set (Nat.le_refl _) HN.out 4 _).alloc _
theorem dec2 (tb : Nat) (a b c : Nat) (ha : a < 256) (hb256 : b < 256) (hc256 : c < 256) (h203 : ((a : Int) == 203) = false) (r : OpV) (hr0 : plT a = r) (hs2 : (r.s == 2) = true) (w : World) (T0 : TabAny w tb) : Calls Tryz.prog 71 #[.pointer (some ⟨tb, 0, none⟩), .int .u8 a, .int .u8 b, .int .u8 c] w fun e w' =>
  e = .returned (.agg #[.int .i64 r.k, .int .i64 r.x, .int .i64 r.y, .int .i64 r.s, .int .u16 (b : Int)]) ∧ Out tb w w' := by
 have hr := Lib.hid hr0; clear hr0
 have hmf : ∀ (fn : Fn) (first cap : Array Value) (w : World), (Instr.makeFunc fn first cap).run Tryz.prog w = .ok (.func fn first cap) w := fun _ _ _ _ => rfl
 have T1 := Lib.hid (show TabAny (w.alloc (.cells #[.int .i64 0, .int .i64 0, .int .i64 0, .int .i64 0, .int .u16 0] 44)) tb from T0.imp (fun h => h.below (own1 _ _)) (fun h => h.below (own1 _ _)))
 have hne : w.heap.size ≠ tb := by rcases T0 with h | h <;> have := h.lt <;> omega
 have HN := Lib.hid hne; clear T0 hne; go_enter Tryz.func71, Tryz.ntmps71; go_wp2_with fail
 refine (do_c tb _ T1.out).mono ?_
 rintro e V ⟨rfl, hB, hT⟩; have HR := (Has.new w #[.int .i64 0, .int .i64 0, .int .i64 0, .int .i64 0, .int .u16 0] 44).but hB HN.out
 have O2 := Lib.hid (show Out tb w V from ⟨(But.of (own1 w (.cells #[.int .i64 0, .int .i64 0, .int .i64 0, .int .i64 0, .int .u16 0] 44))).trans hB, hT⟩)
 obtain ⟨hc, hf⟩ := HR.out; have hlt := HR.1; clear HR hB T1; obtain ⟨g0, g1, g2, g3, g4⟩ := hT.rowP a ha hr.out; clear hT; go_wp2
 refine bodyPost_ret (v := _) ?_ rfl ⟨rfl, ?_⟩
 ·simp [results, Tryz.results71, go_sem, hc, hlt]
 ·exact (((((O2.out.set (Nat.le_refl _) HN.out 0 _).set (Nat.le_refl _) HN.out 1 _).set (Nat.le_refl _) HN.out 2 _).set (Nat.le_refl _) HN.out 3 _).set (Nat.le_refl _) HN.out 4 _).alloc _
theorem dec3 (tb : Nat) (a b c : Nat) (ha : a < 256) (hb256 : b < 256) (hc256 : c < 256) (h203 : ((a : Int) == 203) = false) (r : OpV) (hr0 : plT a = r) (hs2 : (r.s == 2) = false) (hs3 : (r.s == 3) = true) (w : World) (T0 : TabAny w tb) : Calls Tryz.prog 71 #[.pointer (some ⟨tb, 0, none⟩), .int .u8 a, .int .u8 b, .int .u8 c] w fun e w' =>
  e = .returned (.agg #[.int .i64 r.k, .int .i64 r.x, .int .i64 r.y, .int .i64 r.s, .int .u16 ((c : Int) * 256 + b)]) ∧ Out tb w w' := by
 have hr := Lib.hid hr0; clear hr0; have ho := or16 c b hc256 hb256
 have hmf : ∀ (fn : Fn) (first cap : Array Value) (w : World), (Instr.makeFunc fn first cap).run Tryz.prog w = .ok (.func fn first cap) w := fun _ _ _ _ => rfl
 have T1 := Lib.hid (show TabAny (w.alloc (.cells #[.int .i64 0, .int .i64 0, .int .i64 0, .int .i64 0, .int .u16 0] 44)) tb from T0.imp (fun h => h.below (own1 _ _)) (fun h => h.below (own1 _ _)))
 have hne : w.heap.size ≠ tb := by rcases T0 with h | h <;> have := h.lt <;> omega
 have HN := Lib.hid hne; clear T0 hne; go_enter Tryz.func71, Tryz.ntmps71; go_wp2_with fail
 refine (do_c tb _ T1.out).mono ?_
 rintro e V ⟨rfl, hB, hT⟩; have HR := (Has.new w #[.int .i64 0, .int .i64 0, .int .i64 0, .int .i64 0, .int .u16 0] 44).but hB HN.out
 have O2 := Lib.hid (show Out tb w V from ⟨(But.of (own1 w (.cells #[.int .i64 0, .int .i64 0, .int .i64 0, .int .i64 0, .int .u16 0] 44))).trans hB, hT⟩)
 obtain ⟨hc, hf⟩ := HR.out; have hlt := HR.1; clear HR hB T1; obtain ⟨g0, g1, g2, g3, g4⟩ := hT.rowP a ha hr.out; clear hT; go_wp2
 refine bodyPost_ret (v := _) ?_ rfl ⟨rfl, ?_⟩
 ·simp [results, Tryz.results71, go_sem, hc, hlt]
 ·exact (((((O2.out.set (Nat.le_refl _) HN.out 0 _).set (Nat.le_refl _) HN.out 1 _).set (Nat.le_refl _) HN.out 2 _).set (Nat.le_refl _) HN.out 3 _).set (Nat.le_refl _) HN.out 4 _).alloc _
def decN (r : OpV) (b c : Nat) : OpV := if r.s = 2 then ⟨r.k, r.x, r.y, r.s, b⟩ else if r.s = 3 then ⟨r.k, r.x, r.y, r.s, (c : Int) * 256 + b⟩ else r
def decF (a b c : Nat) : OpV := if a = 203 then pfT b else decN (plT a) b c
theorem dec_c (tb : Nat) (a b c : Nat) (ha : a < 256) (hb : b < 256) (hc : c < 256) (r : OpV) (hr : decF a b c = r) (w : World) (T0 : TabAny w tb) : Calls Tryz.prog 71 #[.pointer (some ⟨tb, 0, none⟩), .int .u8 a, .int .u8 b, .int .u8 c] w fun e w' =>
  e = .returned (.agg #[.int .i64 (r).k, .int .i64 (r).x, .int .i64 (r).y, .int .i64 (r).s, .int .u16 (r).n]) ∧ Out tb w w' := by
 subst hr
 by_cases h : a = 203
 ·subst h
  exact decP tb b c hb _ rfl w T0
 ·have h203 : ((a : Int) == 203) = false := by
   rw [beq_eq_false_iff_ne]
   omega
  have e1 : decF a b c = decN (plT a) b c := if_neg h; rw [e1]; generalize hr : plT a = r
  by_cases h2 : r.s = 2
  ·have e2 : decN r b c = ⟨r.k, r.x, r.y, r.s, b⟩ := if_pos h2
   rw [e2]
   exact dec2 tb a b c ha hb hc h203 r hr (by simpa using h2) w T0
  ·by_cases h3 : r.s = 3
   ·have e2 : decN r b c = ⟨r.k, r.x, r.y, r.s, (c : Int) * 256 + b⟩ := (if_neg h2).trans (if_pos h3)
    rw [e2]
    exact dec3 tb a b c ha hb hc h203 r hr (by simpa using h2) (by simpa using h3) w T0
   ·have e2 : decN r b c = r := (if_neg h2).trans (if_neg h3)
    rw [e2]
    exact dec1 tb a b c ha hb hc h203 r hr (by simpa using h2) (by simpa using h3) w T0
end Go.Proofs.YtngdogldgcgnjaaGreat
namespace Go.Proofs.YtngdogldgcgnjaaGreat
open Go.ChangeShapes Go.WideShapes Go.ChangeAt Go.RowKit
open Reg Alu
structure St where
 r : RR
 ime : Bool
 soon : Bool
 halt : Bool
 stop : Bool
structure Ac where
 k : Int
 a : Int
 v : Int
structure Sy where
 s : St
 m : Int → Int
 acc : List Ac
def St.cells (s : St) : Array Value := #[.int .u8 s.r.a, .int .u8 s.r.f, .int .u8 s.r.b, .int .u8 s.r.c, .int .u8 s.r.d, .int .u8 s.r.e, .int .u8 s.r.h, .int .u8 s.r.l, .int .u16 s.r.sp, .int .u16 s.r.pc, .bool s.ime, .bool s.soon, .bool s.halt, .bool s.stop]
def Ac.cells (c : Ac) : List Value := [.int .i64 c.k, .int .u16 c.a, .int .u8 c.v]
def accL (l : List Ac) : List Value := l.flatMap Ac.cells
def upd (m : Int → Int) (a x : Int) : Int → Int := fun k => if k = a then x else m k
def rd (k a : Int) (y : Sy) : Sy := { y with acc := y.acc ++ [⟨k, a, y.m a⟩] }
def wr (a x : Int) (y : Sy) : Sy := { y with m := upd y.m a x, acc := y.acc ++ [⟨2, a, x⟩] }
def idle (y : Sy) : Sy := { y with acc := y.acc ++ [⟨0, 0, 0⟩] }
def pend (m : Int → Int) : Int := bits .and .u8 (bits .and .u8 (m 65295) (m 65535)) 31
def clr (x : Int) (n : Nat) : Int := if x / 2 ^ n % 2 = 1 then x - 2 ^ n else x
def put (x : Int) (n : Nat) : Int := if x / 2 ^ n % 2 = 1 then x else x + 2 ^ n
def ackM (n : Nat) (m : Int → Int) : Int → Int := upd m 65295 (clr (m 65295) n)
def setM (m : Int → Int) (y : Sy) : Sy := { y with m := m }
def setS (s : St) (y : Sy) : Sy := { y with s := s }
def setRR (r : RR) (y : Sy) : Sy := { y with s := { y.s with r := r } }
def setA (x : Int) (y : Sy) : Sy := { y with s := { y.s with r := { y.s.r with a := x } } }
def setF (x : Int) (y : Sy) : Sy := { y with s := { y.s with r := { y.s.r with f := x } } }
def setSP (x : Int) (y : Sy) : Sy := { y with s := { y.s with r := { y.s.r with sp := x } } }
def setPC (x : Int) (y : Sy) : Sy := { y with s := { y.s with r := { y.s.r with pc := x } } }
def setIme (x : Bool) (y : Sy) : Sy := { y with s := { y.s with ime := x } }
def setSoon (x : Bool) (y : Sy) : Sy := { y with s := { y.s with soon := x } }
def setHalt (x : Bool) (y : Sy) : Sy := { y with s := { y.s with halt := x } }
def setStop (x : Bool) (y : Sy) : Sy := { y with s := { y.s with stop := x } }
def hlV (y : Sy) : Int := pairV y.s.r 2
def getY (n : Int) (y : Sy) : Int := if n = 6 then y.m (hlV y) else getV y.s.r n
def getS (n : Int) (y : Sy) : Sy := if n = 6 then rd 1 (hlV y) y else y
def putS (n x : Int) (y : Sy) : Sy := if n = 6 then wr (hlV y) x y else setRR (setR y.s.r n x) y
def pairS (n x : Int) (y : Sy) : Sy := setRR (setP y.s.r n x) y
def dn (x : Int) : Int := (x - 1) % 65536
def up (x : Int) : Int := (x + 1) % 65536
def storeS (x : Int) (y : Sy) : Sy := wr (dn (dn y.s.r.sp)) (x % 256) (setSP (dn (dn y.s.r.sp)) (wr (dn y.s.r.sp) (x / 256) (setSP (dn y.s.r.sp) y)))
def pushS (x : Int) (y : Sy) : Sy := storeS x (idle y)
def popV (y : Sy) : Int := y.m (up y.s.r.sp) * 256 + y.m y.s.r.sp
def popS (y : Sy) : Sy := setSP (up (up y.s.r.sp)) (rd 1 (up y.s.r.sp) (setSP (up y.s.r.sp) (rd 1 y.s.r.sp y)))
def enterS (x : Int) (y : Sy) : Sy := setPC x (pushS y.s.r.pc y)
def leaveS (y : Sy) : Sy := idle (setPC (popV y) (popS y))
def sumR (k a x : Int) (c : Bool) : Int := if k = 0 then addR a x false else if k = 1 then addR a x c else if k = 2 then subR a x false else if k = 3 then subR a x c else
 if k = 4 then bits .and .u8 a x else if k = 5 then bits .xor .u8 a x else if k = 6 then bits .or .u8 a x else a
def sumF (k a x f : Int) (c : Bool) : Int := if k = 0 then addF a x false else if k = 1 then addF a x c else if k = 2 then subF a x false else if k = 3 then subF a x c else
 if k = 4 then FL (bits .and .u8 a x == 0) false true false else if k = 5 then FL (bits .xor .u8 a x == 0) false false false else if k = 6 then FL (bits .or .u8 a x == 0) false false false else
 if k = 7 then subF a x false else f
def sumS (k x : Int) (y : Sy) : Sy := setF (sumF k y.s.r.a x y.s.r.f (cf y.s.r.f)) (setA (sumR k y.s.r.a x (cf y.s.r.f)) y)
def thruV (x : Int) (y : Sy) : Int := if x = 2 then hlV y else if x = 3 then hlV y else pairV y.s.r x
def thruS (x : Int) (y : Sy) : Sy := if x = 2 then pairS 2 (up (hlV y)) y else if x = 3 then pairS 2 (dn (hlV y)) y else y
def jrV (pc n : Int) : Int := (pc + signed (n % 256)) % 65536
def doneS (o : OpV) (t : Bool) (y : Sy) : Sy :=
 if o.k = 2 then setStop true y else
 if o.k = 3 then setHalt true y else
 if o.k = 4 then setPC (dn y.s.r.pc) y else
 if o.k = 5 then setIme false y else
 if o.k = 6 then setSoon true y else
 if o.k = 7 then putS o.x (getY o.y y) (getS o.y y) else
 if o.k = 8 then putS o.x (o.n % 256) y else
 if o.k = 9 then pairS o.x o.n y else
 if o.k = 10 then sumS o.x (getY o.y y) (getS o.y y) else
 if o.k = 11 then sumS o.x (o.n % 256) y else
 if o.k = 12 then setF (incF (getY o.x y) y.s.r.f) (putS o.x ((getY o.x y + 1) % 256) (getS o.x y)) else
 if o.k = 13 then setF (Alu.decF (getY o.x y) y.s.r.f) (putS o.x ((getY o.x y - 1) % 256) (getS o.x y)) else
 if o.k = 14 then pairS o.x (up (pairV y.s.r o.x)) (idle y) else
 if o.k = 15 then pairS o.x (dn (pairV y.s.r o.x)) (idle y) else
 if o.k = 16 then setF (add16F (hlV y) (pairV y.s.r o.x) y.s.r.f) (pairS 2 ((hlV y + pairV y.s.r o.x) % 65536) (idle y)) else
 if o.k = 17 then putS o.y (turnR o.x (getY o.y y) y.s.r.f) (setF (turnF o.x (getY o.y y) y.s.r.f) (getS o.y y)) else
 if o.k = 18 then setF (fl 16 (turnO o.x y.s.r.a)) (setA (turnR o.x y.s.r.a y.s.r.f) y) else
 if o.k = 19 then setF (daaF y.s.r.a y.s.r.f) (setA (daaR y.s.r.a y.s.r.f) y) else
 if o.k = 20 then setF (FL (zf y.s.r.f) true true (cf y.s.r.f)) (setA (255 - y.s.r.a) y) else
 if o.k = 21 then setF (FL (zf y.s.r.f) false false true) y else
 if o.k = 22 then setF (FL (zf y.s.r.f) false false (!cf y.s.r.f)) y else
 if o.k = 23 then (bif t then setPC (jrV y.s.r.pc o.n) (idle y) else y) else
 if o.k = 24 then (bif t then setPC o.n (idle y) else y) else
 if o.k = 25 then (bif t then enterS o.n y else y) else
 if o.k = 26 then (bif t then leaveS (bif o.x == 4 then y else idle y) else (bif o.x == 4 then y else idle y)) else
 if o.k = 27 then setIme true (leaveS y) else
 if o.k = 28 then enterS o.n y else
 if o.k = 29 then setPC (hlV y) y else
 if o.k = 30 then pushS (pairV y.s.r o.x) y else
 if o.k = 31 then pairS o.x (popV y) (popS y) else
 if o.k = 32 then setA (y.m (thruV o.x y)) (rd 1 (thruV o.x y) (thruS o.x y)) else
 if o.k = 33 then wr (thruV o.x y) y.s.r.a (thruS o.x y) else
 if o.k = 34 then setA (y.m (65280 + o.n)) (rd 1 (65280 + o.n) y) else
 if o.k = 35 then wr (65280 + o.n) y.s.r.a y else
 if o.k = 36 then setA (y.m (65280 + y.s.r.c)) (rd 1 (65280 + y.s.r.c) y) else
 if o.k = 37 then wr (65280 + y.s.r.c) y.s.r.a y else
 if o.k = 38 then setA (y.m o.n) (rd 1 o.n y) else
 if o.k = 39 then wr o.n y.s.r.a y else
 if o.k = 40 then wr (up o.n) (y.s.r.sp / 256) (wr o.n (y.s.r.sp % 256) y) else
 if o.k = 41 then setF (shiftF y.s.r.sp (o.n % 256)) (setSP (shiftR y.s.r.sp (o.n % 256)) (idle (idle y))) else
 if o.k = 42 then setF (shiftF y.s.r.sp (o.n % 256)) (pairS 2 (shiftR y.s.r.sp (o.n % 256)) (idle y)) else
 if o.k = 43 then setSP (hlV y) (idle y) else
 if o.k = 44 then setF (bitF o.x (getY o.y y) y.s.r.f) (getS o.y y) else
 if o.k = 45 then putS o.y (clr (getY o.y y) o.x.toNat) (getS o.y y) else
 if o.k = 46 then putS o.y (Go.Proofs.YtngdogldgcgnjaaGreat.put (getY o.y y) o.x.toNat) (getS o.y y) else
 y
def takenV (o : OpV) (y : Sy) : Bool := if o.k = 23 ∨ o.k = 24 ∨ o.k = 25 ∨ o.k = 26 then isV y.s.r o.x else true
def szV (a : Int) : Int := (decF a.toNat 0 0).s
def fetch1 (y : Sy) : Sy := setPC (up y.s.r.pc) (rd 3 y.s.r.pc y)
def fetchN : Nat → Sy → Sy
 | 0, y => y
 | n + 1, y => fetchN n (fetch1 y)
def byteV (i : Nat) (y : Sy) : Int := y.m ((y.s.r.pc + i) % 65536)
def opV (y : Sy) : OpV := decF (byteV 0 y).toNat (if 2 ≤ szV (byteV 0 y) then (byteV 1 y).toNat else 0) (if 3 ≤ szV (byteV 0 y) then (byteV 2 y).toNat else 0)
def fetchS (y : Sy) : Sy := fetchN (szV (byteV 0 y)).toNat y
def lowV (p : Int) : Nat := if p % 2 = 1 then 0 else if p / 2 % 2 = 1 then 1 else if p / 4 % 2 = 1 then 2 else if p / 8 % 2 = 1 then 3 else 4
def interS (n : Nat) (y : Sy) : Sy := setPC (64 + 8 * (n : Int)) (setSoon false (setIme false (idle (setM (ackM n (storeS y.s.r.pc (idle (idle y))).m) (storeS y.s.r.pc (idle (idle y)))))))
structure DidV where
 what : Int
 n : Int
 at' : Int
 o : OpV
 t : Bool
def noOp : OpV := ⟨0, 0, 0, 0, 0⟩
def runS (y : Sy) : Sy := doneS (opV y) (takenV (opV y) (fetchS y)) (setSoon false (setIme (y.s.ime || y.s.soon) (fetchS y)))
def stepS (y : Sy) : Sy :=
 if y.s.stop then (if pend y.m / 16 % 2 = 1 then setStop false (idle y) else idle y) else
 if y.s.halt && pend y.m == 0 then idle y else
 if y.s.ime && pend y.m != 0 then interS (lowV (pend y.m)) (setHalt false y) else runS (setHalt false y)
def stepD (y : Sy) : DidV :=
 if y.s.stop then ⟨0, 0, y.s.r.pc, noOp, false⟩ else
 if y.s.halt && pend y.m == 0 then ⟨0, 0, y.s.r.pc, noOp, false⟩ else
 if y.s.ime && pend y.m != 0 then ⟨2, lowV (pend y.m), y.s.r.pc, noOp, false⟩ else ⟨1, 0, y.s.r.pc, opV y, takenV (opV y) (fetchS y)⟩
end Go.Proofs.YtngdogldgcgnjaaGreat
