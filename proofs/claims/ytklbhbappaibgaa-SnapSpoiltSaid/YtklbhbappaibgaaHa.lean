/-
  The hash, as the program and the document reckon it; two rows that differ in one byte have two hashes: for every world; at most a million bytes.
-/
import Derived.Test.YtklbhbappaibgaaFn
namespace Go.Proofs.Ytklbhbappaibgaa
open Go.ChangeShapes Go.WideShapes Go.ChangeAt Go.RowKit
set_option linter.unusedVariables false
set_option linter.unusedSimpArgs false
set_option maxRecDepth 100000
/-- One byte more. -/
def hst (h x : Nat) : Nat := ((h ^^^ x) * 1099511628211) % 18446744073709551616
def fnv : Nat → List Nat → Nat
 | h, [] => h
 | h, x :: q => fnv (hst h x) q
theorem hst_lt (h x : Nat) : hst h x < 18446744073709551616 := Nat.mod_lt _ (by decide)
theorem mul_inj {a b : Nat} (ha : a < 18446744073709551616) (hb : b < 18446744073709551616) (h : (a * 1099511628211) % 18446744073709551616 = (b * 1099511628211) % 18446744073709551616) : a = b := by
 have key : ∀ c : Nat, c < 18446744073709551616 → (((c * 1099511628211) % 18446744073709551616) * 14886173955864302971) % 18446744073709551616 = c := fun c hc => by
  rw [Nat.mod_mul_mod, Nat.mul_assoc, show 1099511628211 * 14886173955864302971 = 18446744073709551616 * ((1099511628211 * 14886173955864302971) / 18446744073709551616) + 1 by decide, Nat.mul_add, Nat.mul_one, ← Nat.mul_assoc, Nat.mul_comm c, Nat.mul_assoc, Nat.mul_add_mod]
  exact Nat.mod_eq_of_lt hc
 rw [← key a ha, ← key b hb, h]
theorem xor_lt64 {a b : Nat} (ha : a < 18446744073709551616) (hb : b < 18446744073709551616) : a ^^^ b < 18446744073709551616 := Nat.xor_lt_two_pow (n := 64) ha hb
theorem hst_inj {h h' x x' : Nat} (b1 : h < 18446744073709551616) (b2 : h' < 18446744073709551616) (b3 : x < 256) (b4 : x' < 256) (e : hst h x = hst h' x') : h ^^^ x = h' ^^^ x' :=
 mul_inj (xor_lt64 b1 (by omega)) (xor_lt64 b2 (by omega)) e
theorem xor_right {a b x : Nat} (h : a ^^^ x = b ^^^ x) : a = b := by
 have := congrArg (fun z => z ^^^ x) h
 simpa [Nat.xor_assoc] using this
theorem xor_left {a x y : Nat} (h : a ^^^ x = a ^^^ y) : x = y := by
 rw [Nat.xor_comm a x, Nat.xor_comm a y] at h
 exact xor_right h
theorem fnv_ne : ∀ (L : List Nat) (h h' : Nat), By L → h < 18446744073709551616 → h' < 18446744073709551616 → h ≠ h' → fnv h L ≠ fnv h' L
 | [], h, h', _, _, _, e => e
 | x :: q, h, h', hb, b1, b2, e => by
  have hx := hb x (by simp)
  refine fnv_ne q _ _ (fun y hy => hb y (by simp [hy])) (hst_lt _ _) (hst_lt _ _) (fun k => e (xor_right (hst_inj b1 b2 hx hx k)))
theorem fnv_set : ∀ (L : List Nat) (h k x y : Nat), By L → h < 18446744073709551616 → L[k]? = some x → y < 256 → y ≠ x → fnv h (L.set k y) ≠ fnv h L
 | [], _, _, _, _, _, _, e, _, _ => by simp at e
 | a :: q, h, 0, x, y, hb, b1, e, hy, hne => by
  have ha : a = x := by simpa using e
  have hx := hb a (by simp)
  show fnv (hst h y) q ≠ fnv (hst h a) q
  exact fnv_ne q _ _ (fun z hz => hb z (by simp [hz])) (hst_lt _ _) (hst_lt _ _) (fun k => hne (by rw [← ha]; exact xor_left (hst_inj b1 b1 hy hx k)))
 | a :: q, h, k + 1, x, y, hb, b1, e, hy, hne => by
  show fnv (hst h a) (q.set k y) ≠ fnv (hst h a) q
  exact fnv_set q _ k x y (fun z hz => hb z (by simp [hz])) (hst_lt _ _) (by simpa using e) hy hne
theorem xor_u64 (a b : Nat) (ha : a < 18446744073709551616) (hb : b < 18446744073709551616) : bits .xor .u64 (a : Int) (b : Int) = ((a ^^^ b : Nat) : Int) := by
 have key : (BitVec.ofInt 64 (a : Int) ^^^ BitVec.ofInt 64 (b : Int)).toNat = a ^^^ b := by
  rw [BitVec.toNat_xor, BitVec.toNat_ofInt, BitVec.toNat_ofInt]
  congr 1 <;> omega
 show IntKind.u64.wrap ((BitVec.ofInt 64 (a : Int) ^^^ BitVec.ofInt 64 (b : Int)).toNat : Nat) = _
 have h2 := xor_lt64 ha hb
 rw [key, IntKind.wrap_u64]
 omega
theorem xor_u8 (a b : Nat) (ha : a < 256) (hb : b < 256) : bits .xor .u8 (a : Int) (b : Int) = ((a ^^^ b : Nat) : Int) := by
 have key : (BitVec.ofInt 8 (a : Int) ^^^ BitVec.ofInt 8 (b : Int)).toNat = a ^^^ b := by
  rw [BitVec.toNat_xor, BitVec.toNat_ofInt, BitVec.toNat_ofInt]
  congr 1 <;> omega
 show IntKind.u8.wrap ((BitVec.ofInt 8 (a : Int) ^^^ BitVec.ofInt 8 (b : Int)).toNat : Nat) = _
 have h2 : a ^^^ b < 256 := Nat.xor_lt_two_pow (n := 8) ha hb
 rw [key, IntKind.wrap_u8]
 omega
theorem xor_low (h x : Nat) (hx : x < 256) : h ^^^ x = h - h % 256 + (h % 256 ^^^ x) ∧ (h % 256 ^^^ x) < 256 := by
 have h1 : (h ^^^ x) / 256 = h / 256 := by
  have := Nat.xor_div_two_pow (a := h) (b := x) (n := 8)
  simp only [show (2 : Nat) ^ 8 = 256 from rfl] at this
  rw [this, Nat.div_eq_of_lt hx, Nat.xor_zero]
 have h2 : (h ^^^ x) % 256 = (h % 256) ^^^ x := by
  have := Nat.xor_mod_two_pow (a := h) (b := x) (n := 8)
  simp only [show (2 : Nat) ^ 8 = 256 from rfl] at this
  rw [this, Nat.mod_eq_of_lt hx]
 have h3 : (h % 256 ^^^ x) < 256 := Nat.xor_lt_two_pow (n := 8) (Nat.mod_lt _ (by decide)) hx
 refine ⟨?_, h3⟩
 rw [← h2]
 omega
set_option maxHeartbeats 2000000 in
theorem hash_c (v : Value) (L : List Nat) (hm : L.length ≤ 1000000) (w : World) (h : Rd w v L) : Calls Try.prog 16 #[v] w fun q_ w' => q_ = .returned (.int .u64 (fnv 14695981039346656037 L : Nat)) ∧ w' = w := by
 obtain ⟨a, n, c, rfl, n1, hc1, hz1, by1, at1⟩ := h.open
 have A1 := Lib.hid at1
 have N1 := Lib.hid n1
 have BY := Lib.hid by1
 rw [n1] at hm
 clear h by1 at1 n1 hz1
 go_enter Try.func16, Try.ntmps16
 go_wp2
 go_loopg [3, 8] n (fun g' s i wr => ∃ (t h : Nat), t ≤ n ∧ g' + t = n ∧ i = .int .i64 t ∧ s = .int .u64 h ∧ wr = w ∧ Hid (fnv h (L.drop t) = fnv 14695981039346656037 L) ∧ Hid (h < 18446744073709551616))
 case atStart => exact ⟨0, 14695981039346656037, by omega, by omega, rfl, rfl, rfl, Lib.hid (by rfl), Lib.hid (by decide)⟩
 case round =>
  obtain ⟨t, h, ht, hg, rfl, rfl, rfl, HF, HH⟩ := hrel
  have TG := Lib.hid hg
  clear hg
  by_cases hlt : t < n
  ·have l0 : (t : Int) < n := by omega
   obtain ⟨x, hx⟩ := at_ex (L := L) (k := t) (by rw [N1.out]; omega)
   obtain ⟨b, o, rfl, l1, m1⟩ := A1.out (by rw [N1.out]; omega)
   have e1 := m1 t x hx
   have xb := BY.out.at hx
   have HS := Lib.hid (show fnv (hst h x) (L.drop (t + 1)) = fnv 14695981039346656037 L by rw [← HF.out, drop_cons hx]; rfl)
   have HB := Lib.hid (hst_lt h x)
   clear m1 hx
   obtain ⟨g, hg⟩ : ∃ q_, h ^^^ x = q_ := ⟨_, rfl⟩
   have hb : h < 18446744073709551616 := HH.out
   have hx1 : bits .xor .u64 (h : Int) (x : Int) = (g : Int) := by rw [xor_u64 h x hb (by omega), hg]
   have HG := Lib.hid (show hst h x = (g * 1099511628211) % 18446744073709551616 by unfold hst; rw [hg])
   have xb2 : (x : Int) < 256 := by clear hx1; omega
   clear hg hb
   go_wp2
   go_roundg (gk - 1)
   ·exact ⟨t + 1, hst h x, by omega, by have := TG.out; omega, by simp, by rw [HG.out, Int.natCast_emod, Int.natCast_mul]; rfl, rfl, HS, HB⟩
   case measure => have := TG.out; omega
  ·have l0 : ¬ (t : Int) < n := by omega
   have HE := Lib.hid (show fnv 14695981039346656037 L = h by rw [← HF.out, List.drop_of_length_le (by rw [N1.out]; omega)]; rfl)
   go_wp2
   go_ret
   exact ⟨by rw [HE.out]; rfl, rfl⟩
set_option maxHeartbeats 2000000 in
theorem rhash_c (v : Value) (L : List Nat) (hm : L.length ≤ 1000000) (w : World) (h : Rd w v L) : Calls Try.prog 17 #[v] w fun q_ w' => q_ = .returned (.int .u64 (fnv 14695981039346656037 L : Nat)) ∧ w' = w := by
 obtain ⟨a, n, c, rfl, n1, hc1, hz1, by1, at1⟩ := h.open
 have A1 := Lib.hid at1
 have N1 := Lib.hid n1
 have BY := Lib.hid by1
 rw [n1] at hm
 clear h by1 at1 n1 hz1
 go_enter Try.func17, Try.ntmps17
 go_wp2
 go_loopg [3, 8] n (fun g' s i wr => ∃ (t h : Nat), t ≤ n ∧ g' + t = n ∧ i = .int .i64 t ∧ s = .int .u64 h ∧ wr = w ∧ Hid (fnv h (L.drop t) = fnv 14695981039346656037 L) ∧ Hid (h < 18446744073709551616))
 case atStart => exact ⟨0, 14695981039346656037, by omega, by omega, rfl, rfl, rfl, Lib.hid (by rfl), Lib.hid (by decide)⟩
 case round =>
  obtain ⟨t, h, ht, hg, rfl, rfl, rfl, HF, HH⟩ := hrel
  have TG := Lib.hid hg
  clear hg
  by_cases hlt : t < n
  ·have l0 : (t : Int) < n := by omega
   obtain ⟨x, hx⟩ := at_ex (L := L) (k := t) (by rw [N1.out]; omega)
   obtain ⟨b, o, rfl, l1, m1⟩ := A1.out (by rw [N1.out]; omega)
   have e1 := m1 t x hx
   have xb := BY.out.at hx
   have HS := Lib.hid (show fnv (hst h x) (L.drop (t + 1)) = fnv 14695981039346656037 L by rw [← HF.out, drop_cons hx]; rfl)
   have HB := Lib.hid (hst_lt h x)
   clear m1 hx
   obtain ⟨r, hr⟩ : ∃ q_, h % 256 = q_ := ⟨_, rfl⟩
   obtain ⟨y, hy⟩ : ∃ q_, r ^^^ x = q_ := ⟨_, rfl⟩
   have hb : h < 18446744073709551616 := HH.out
   obtain ⟨k1, k2⟩ := xor_low h x xb
   rw [hr, hy] at k1 k2
   obtain ⟨d, hd⟩ : ∃ q_, h - r = q_ := ⟨_, rfl⟩
   have rb : (r : Int) < 256 := by omega
   have t1 : (h : Int) % 256 = r := by omega
   have t2 : (h : Int) - r = d := by omega
   have db : (d : Int) < 18446744073709551616 := by omega
   have gb : d + y < 18446744073709551616 := by rw [← hd, ← k1]; exact xor_lt64 hb (by omega)
   obtain ⟨g, hg⟩ : ∃ q_, d + y = q_ := ⟨_, rfl⟩
   have t3 : (d : Int) + y = g := by omega
   have gb2 : (g : Int) < 18446744073709551616 := by omega
   have HG := Lib.hid (show hst h x = (g * 1099511628211) % 18446744073709551616 by unfold hst; rw [k1, hd, hg])
   have yb : (y : Int) < 256 := by omega
   have xb2 : (x : Int) < 256 := by omega
   have hx1 : bits .xor .u64 (r : Int) (x : Int) = (y : Int) := by rw [xor_u64 r x (by omega) (by omega), hy]
   clear hr hy hb k1 k2 hd gb hg
   go_wp2
   go_roundg (gk - 1)
   ·exact ⟨t + 1, hst h x, by omega, by have := TG.out; omega, by simp, by rw [HG.out, Int.natCast_emod, Int.natCast_mul]; rfl, rfl, HS, HB⟩
   case measure => have := TG.out; omega
  ·have l0 : ¬ (t : Int) < n := by omega
   have HE := Lib.hid (show fnv 14695981039346656037 L = h by rw [← HF.out, List.drop_of_length_le (by rw [N1.out]; omega)]; rfl)
   go_wp2
   go_ret
   exact ⟨by rw [HE.out]; rfl, rfl⟩
end Go.Proofs.Ytklbhbappaibgaa
