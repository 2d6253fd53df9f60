/-
  The functions changeLevel, beginSlide, trigger, countSlide: for every board; no condition but that each number fits.
-/
import Derived.Test.YtonmnpadmphbdaaDoorFl
import Derived.Deep.Cut
import Derived.BigQuiet
import Derived.WalkSmall
namespace Go.Proofs.YtonmnpadmphbdaaDoor
open Go.ChangeShapes Go.WideShapes Go.ChangeAt Go.RowKit
set_option linter.unusedVariables false
set_option linter.unusedSimpArgs false
set_option maxRecDepth 100000
set_option maxHeartbeats 2000000 in
theorem chg_0 (b : Nat) (m : M) (p : Nat) (p0 : 51 ≤ p) (p1 : p ≤ 63) (B2 : isB (p + 2) = false) (B3 : isB (p + 3) = false) (x l k y : Int) (hy : x % 8 = y) (g0 : 0 ≤ x) (g1 : x < 256) (hl : m (p + 2) = l) (hk : m (p + 3) = k) (l0 : 0 ≤ l) (l1 : l < 16) (k0 : 0 ≤ k) (k1 : k < 256) (h0 : y = 0) (w : World) (h : Has w b (enc m)) : Calls Tryd.prog 33 #[.pointer (some ⟨b, p, none⟩), .int .u8 x] w fun q_ w' => q_ = .returned (.tuple #[]) ∧ Has w' b (enc (m)) ∧ Keeps b w w' := by
  suffices hall : ∀ w0 : World, Keeps b w0 w → Calls Tryd.prog 33 #[.pointer (some ⟨b, p, none⟩), .int .u8 x] w fun q_ w' => q_ = .returned (.tuple #[]) ∧ Has w' b (enc (m)) ∧ Keeps b w0 w' from hall w (Keeps.refl b w)
  intro w0 hK
  have P0 := Lib.hid h
  have K0 := Lib.hid hK
  clear h hK
  have y0 : 0 ≤ y ∧ y < 8 := by omega
  have q8 := b8 x g0 g1
  have HL := Lib.hid hl
  have HK := Lib.hid hk
  have HB2 := Lib.hid B2
  have HB3 := Lib.hid B3
  clear hl hk B2 B3
  have hnot : ∀ (x : Bool) (w : World), (Op.unary .not (.bool x)).run Tryd.prog w = .ok (.bool (!x)) w := fun _ _ => rfl
  go_enter Tryd.func33, Tryd.ntmps33
  obtain ⟨hc, hf⟩ := P0.out.out
  have eL : (enc (m))[p + 2]? = some (.int .i64 (l)) := by rw [enc_i _ _ (by first | exact HB2.out | exact HB3.out) (by omega) (by omega)]; simp [upd, HL.out]
  have eK : (enc (m))[p + 3]? = some (.int .i64 (k)) := by rw [enc_i _ _ (by first | exact HB2.out | exact HB3.out) (by omega) (by omega)]; simp [upd, HK.out]
  go_wp2
  all_goals first | exact bodyPost_ret (v := .tuple #[]) (by simp [results, Tryd.results33, go_sem]) rfl ⟨rfl, P0.out, K0.out⟩ | exact bodyPost_end (v := .tuple #[]) (by simp [results, Tryd.results33, go_sem]) rfl ⟨rfl, P0.out, K0.out⟩
set_option maxHeartbeats 2000000 in
theorem chg_1 (b : Nat) (m : M) (p : Nat) (p0 : 51 ≤ p) (p1 : p ≤ 63) (B2 : isB (p + 2) = false) (B3 : isB (p + 3) = false) (x l k y : Int) (hy : x % 8 = y) (g0 : 0 ≤ x) (g1 : x < 256) (hl : m (p + 2) = l) (hk : m (p + 3) = k) (l0 : 0 ≤ l) (l1 : l < 16) (k0 : 0 ≤ k) (k1 : k < 256) (h0 : ¬ y = 0) (h1 : 1 < k) (w : World) (h : Has w b (enc m)) : Calls Tryd.prog 33 #[.pointer (some ⟨b, p, none⟩), .int .u8 x] w fun q_ w' => q_ = .returned (.tuple #[]) ∧ Has w' b (enc (upd m (p + 3) (k - 1))) ∧ Keeps b w w' := by
  suffices hall : ∀ w0 : World, Keeps b w0 w → Calls Tryd.prog 33 #[.pointer (some ⟨b, p, none⟩), .int .u8 x] w fun q_ w' => q_ = .returned (.tuple #[]) ∧ Has w' b (enc (upd m (p + 3) (k - 1))) ∧ Keeps b w0 w' from hall w (Keeps.refl b w)
  intro w0 hK
  have P0 := Lib.hid h
  have K0 := Lib.hid hK
  clear h hK
  have y0 : 0 ≤ y ∧ y < 8 := by omega
  have q8 := b8 x g0 g1
  have HL := Lib.hid hl
  have HK := Lib.hid hk
  have HB2 := Lib.hid B2
  have HB3 := Lib.hid B3
  clear hl hk B2 B3
  have hnot : ∀ (x : Bool) (w : World), (Op.unary .not (.bool x)).run Tryd.prog w = .ok (.bool (!x)) w := fun _ _ => rfl
  go_enter Tryd.func33, Tryd.ntmps33
  obtain ⟨hc, hf⟩ := P0.out.out
  have eL : (enc (m))[p + 2]? = some (.int .i64 (l)) := by rw [enc_i _ _ (by first | exact HB2.out | exact HB3.out) (by omega) (by omega)]; simp [upd, HL.out]
  have eK : (enc (m))[p + 3]? = some (.int .i64 (k)) := by rw [enc_i _ _ (by first | exact HB2.out | exact HB3.out) (by omega) (by omega)]; simp [upd, HK.out]
  go_wp2_with (refine store_i P0.out rfl _ _ rfl _ rfl _ rfl (by first | exact HB2.out | exact HB3.out) (by omega) (by omega) ?_)
  intro u1 hP hk
  replace hP : Has u1 b (enc (upd m (p + 3) (k - 1))) := hP
  have P1 := Lib.hid hP
  have K1 := Lib.hid (K0.out.trans hk)
  clear hP hk P0 K0
  try simp only [Act.put]
  clear hc hf eL eK
  obtain ⟨hc, hf⟩ := P1.out.out
  have eL := HB2
  have eK := HB3
  go_wp2
  all_goals first | exact bodyPost_ret (v := .tuple #[]) (by simp [results, Tryd.results33, go_sem]) rfl ⟨rfl, P1.out, K1.out⟩ | exact bodyPost_end (v := .tuple #[]) (by simp [results, Tryd.results33, go_sem]) rfl ⟨rfl, P1.out, K1.out⟩
set_option maxHeartbeats 2000000 in
theorem chg_2 (b : Nat) (m : M) (p : Nat) (p0 : 51 ≤ p) (p1 : p ≤ 63) (B2 : isB (p + 2) = false) (B3 : isB (p + 3) = false) (x l k y : Int) (hy : x % 8 = y) (g0 : 0 ≤ x) (g1 : x < 256) (hl : m (p + 2) = l) (hk : m (p + 3) = k) (l0 : 0 ≤ l) (l1 : l < 16) (k0 : 0 ≤ k) (k1 : k < 256) (h0 : ¬ y = 0) (h1 : ¬ 1 < k) (hd : x / 8 % 2 = 1) (h2 : l < 15) (w : World) (h : Has w b (enc m)) : Calls Tryd.prog 33 #[.pointer (some ⟨b, p, none⟩), .int .u8 x] w fun q_ w' => q_ = .returned (.tuple #[]) ∧ Has w' b (enc (upd (upd m (p + 3) y) (p + 2) (l + 1))) ∧ Keeps b w w' := by
  suffices hall : ∀ w0 : World, Keeps b w0 w → Calls Tryd.prog 33 #[.pointer (some ⟨b, p, none⟩), .int .u8 x] w fun q_ w' => q_ = .returned (.tuple #[]) ∧ Has w' b (enc (upd (upd m (p + 3) y) (p + 2) (l + 1))) ∧ Keeps b w0 w' from hall w (Keeps.refl b w)
  intro w0 hK
  have P0 := Lib.hid h
  have K0 := Lib.hid hK
  clear h hK
  have y0 : 0 ≤ y ∧ y < 8 := by omega
  have q8 := b8 x g0 g1
  have HL := Lib.hid hl
  have HK := Lib.hid hk
  have HB2 := Lib.hid B2
  have HB3 := Lib.hid B3
  clear hl hk B2 B3
  rw [show decide (x / 8 % 2 = 1) = true by simpa using hd] at q8
  have hnot : ∀ (x : Bool) (w : World), (Op.unary .not (.bool x)).run Tryd.prog w = .ok (.bool (!x)) w := fun _ _ => rfl
  go_enter Tryd.func33, Tryd.ntmps33
  obtain ⟨hc, hf⟩ := P0.out.out
  have eL : (enc (m))[p + 2]? = some (.int .i64 (l)) := by rw [enc_i _ _ (by first | exact HB2.out | exact HB3.out) (by omega) (by omega)]; simp [upd, HL.out]
  have eK : (enc (m))[p + 3]? = some (.int .i64 (k)) := by rw [enc_i _ _ (by first | exact HB2.out | exact HB3.out) (by omega) (by omega)]; simp [upd, HK.out]
  go_wp2_with (refine store_i P0.out rfl _ _ rfl _ rfl _ rfl (by first | exact HB2.out | exact HB3.out) (by omega) (by omega) ?_)
  intro u1 hP hk
  replace hP : Has u1 b (enc (upd m (p + 3) y)) := hP
  have P1 := Lib.hid hP
  have K1 := Lib.hid (K0.out.trans hk)
  clear hP hk P0 K0
  try simp only [Act.put]
  clear hc hf eL eK
  obtain ⟨hc, hf⟩ := P1.out.out
  have eL : (enc (upd m (p + 3) y))[p + 2]? = some (.int .i64 (l)) := by rw [enc_i _ _ (by first | exact HB2.out | exact HB3.out) (by omega) (by omega)]; simp [upd, HL.out]
  have eK : (enc (upd m (p + 3) y))[p + 3]? = some (.int .i64 (y)) := by rw [enc_i _ _ (by first | exact HB2.out | exact HB3.out) (by omega) (by omega)]; simp [upd, HK.out]
  go_wp2_with (refine store_i P1.out rfl _ _ rfl _ rfl _ rfl (by first | exact HB2.out | exact HB3.out) (by omega) (by omega) ?_)
  intro u2 hP hk
  replace hP : Has u2 b (enc (upd (upd m (p + 3) y) (p + 2) (l + 1))) := hP
  have P2 := Lib.hid hP
  have K2 := Lib.hid (K1.out.trans hk)
  clear hP hk P1 K1
  try simp only [Act.put]
  clear hc hf eL eK
  obtain ⟨hc, hf⟩ := P2.out.out
  have eL : (enc (upd (upd m (p + 3) y) (p + 2) (l + 1)))[p + 2]? = some (.int .i64 (l + 1)) := by rw [enc_i _ _ (by first | exact HB2.out | exact HB3.out) (by omega) (by omega)]; simp [upd, HL.out]
  have eK : (enc (upd (upd m (p + 3) y) (p + 2) (l + 1)))[p + 3]? = some (.int .i64 (y)) := by rw [enc_i _ _ (by first | exact HB2.out | exact HB3.out) (by omega) (by omega)]; simp [upd, HK.out]
  go_wp2
  all_goals first | exact bodyPost_ret (v := .tuple #[]) (by simp [results, Tryd.results33, go_sem]) rfl ⟨rfl, P2.out, K2.out⟩ | exact bodyPost_end (v := .tuple #[]) (by simp [results, Tryd.results33, go_sem]) rfl ⟨rfl, P2.out, K2.out⟩
set_option maxHeartbeats 2000000 in
theorem chg_3 (b : Nat) (m : M) (p : Nat) (p0 : 51 ≤ p) (p1 : p ≤ 63) (B2 : isB (p + 2) = false) (B3 : isB (p + 3) = false) (x l k y : Int) (hy : x % 8 = y) (g0 : 0 ≤ x) (g1 : x < 256) (hl : m (p + 2) = l) (hk : m (p + 3) = k) (l0 : 0 ≤ l) (l1 : l < 16) (k0 : 0 ≤ k) (k1 : k < 256) (h0 : ¬ y = 0) (h1 : ¬ 1 < k) (hd : x / 8 % 2 = 1) (h2 : ¬ l < 15) (w : World) (h : Has w b (enc m)) : Calls Tryd.prog 33 #[.pointer (some ⟨b, p, none⟩), .int .u8 x] w fun q_ w' => q_ = .returned (.tuple #[]) ∧ Has w' b (enc (upd m (p + 3) y)) ∧ Keeps b w w' := by
  suffices hall : ∀ w0 : World, Keeps b w0 w → Calls Tryd.prog 33 #[.pointer (some ⟨b, p, none⟩), .int .u8 x] w fun q_ w' => q_ = .returned (.tuple #[]) ∧ Has w' b (enc (upd m (p + 3) y)) ∧ Keeps b w0 w' from hall w (Keeps.refl b w)
  intro w0 hK
  have P0 := Lib.hid h
  have K0 := Lib.hid hK
  clear h hK
  have y0 : 0 ≤ y ∧ y < 8 := by omega
  have q8 := b8 x g0 g1
  have HL := Lib.hid hl
  have HK := Lib.hid hk
  have HB2 := Lib.hid B2
  have HB3 := Lib.hid B3
  clear hl hk B2 B3
  rw [show decide (x / 8 % 2 = 1) = true by simpa using hd] at q8
  have hnot : ∀ (x : Bool) (w : World), (Op.unary .not (.bool x)).run Tryd.prog w = .ok (.bool (!x)) w := fun _ _ => rfl
  go_enter Tryd.func33, Tryd.ntmps33
  obtain ⟨hc, hf⟩ := P0.out.out
  have eL : (enc (m))[p + 2]? = some (.int .i64 (l)) := by rw [enc_i _ _ (by first | exact HB2.out | exact HB3.out) (by omega) (by omega)]; simp [upd, HL.out]
  have eK : (enc (m))[p + 3]? = some (.int .i64 (k)) := by rw [enc_i _ _ (by first | exact HB2.out | exact HB3.out) (by omega) (by omega)]; simp [upd, HK.out]
  go_wp2_with (refine store_i P0.out rfl _ _ rfl _ rfl _ rfl (by first | exact HB2.out | exact HB3.out) (by omega) (by omega) ?_)
  intro u1 hP hk
  replace hP : Has u1 b (enc (upd m (p + 3) y)) := hP
  have P1 := Lib.hid hP
  have K1 := Lib.hid (K0.out.trans hk)
  clear hP hk P0 K0
  try simp only [Act.put]
  clear hc hf eL eK
  obtain ⟨hc, hf⟩ := P1.out.out
  have eL : (enc (upd m (p + 3) y))[p + 2]? = some (.int .i64 (l)) := by rw [enc_i _ _ (by first | exact HB2.out | exact HB3.out) (by omega) (by omega)]; simp [upd, HL.out]
  have eK : (enc (upd m (p + 3) y))[p + 3]? = some (.int .i64 (y)) := by rw [enc_i _ _ (by first | exact HB2.out | exact HB3.out) (by omega) (by omega)]; simp [upd, HK.out]
  go_wp2
  all_goals first | exact bodyPost_ret (v := .tuple #[]) (by simp [results, Tryd.results33, go_sem]) rfl ⟨rfl, P1.out, K1.out⟩ | exact bodyPost_end (v := .tuple #[]) (by simp [results, Tryd.results33, go_sem]) rfl ⟨rfl, P1.out, K1.out⟩
set_option maxHeartbeats 2000000 in
theorem chg_4 (b : Nat) (m : M) (p : Nat) (p0 : 51 ≤ p) (p1 : p ≤ 63) (B2 : isB (p + 2) = false) (B3 : isB (p + 3) = false) (x l k y : Int) (hy : x % 8 = y) (g0 : 0 ≤ x) (g1 : x < 256) (hl : m (p + 2) = l) (hk : m (p + 3) = k) (l0 : 0 ≤ l) (l1 : l < 16) (k0 : 0 ≤ k) (k1 : k < 256) (h0 : ¬ y = 0) (h1 : ¬ 1 < k) (hd : ¬ x / 8 % 2 = 1) (h2 : 0 < l) (w : World) (h : Has w b (enc m)) : Calls Tryd.prog 33 #[.pointer (some ⟨b, p, none⟩), .int .u8 x] w fun q_ w' => q_ = .returned (.tuple #[]) ∧ Has w' b (enc (upd (upd m (p + 3) y) (p + 2) (l - 1))) ∧ Keeps b w w' := by
  suffices hall : ∀ w0 : World, Keeps b w0 w → Calls Tryd.prog 33 #[.pointer (some ⟨b, p, none⟩), .int .u8 x] w fun q_ w' => q_ = .returned (.tuple #[]) ∧ Has w' b (enc (upd (upd m (p + 3) y) (p + 2) (l - 1))) ∧ Keeps b w0 w' from hall w (Keeps.refl b w)
  intro w0 hK
  have P0 := Lib.hid h
  have K0 := Lib.hid hK
  clear h hK
  have y0 : 0 ≤ y ∧ y < 8 := by omega
  have q8 := b8 x g0 g1
  have HL := Lib.hid hl
  have HK := Lib.hid hk
  have HB2 := Lib.hid B2
  have HB3 := Lib.hid B3
  clear hl hk B2 B3
  rw [show decide (x / 8 % 2 = 1) = false by simpa using hd] at q8
  have hnot : ∀ (x : Bool) (w : World), (Op.unary .not (.bool x)).run Tryd.prog w = .ok (.bool (!x)) w := fun _ _ => rfl
  go_enter Tryd.func33, Tryd.ntmps33
  obtain ⟨hc, hf⟩ := P0.out.out
  have eL : (enc (m))[p + 2]? = some (.int .i64 (l)) := by rw [enc_i _ _ (by first | exact HB2.out | exact HB3.out) (by omega) (by omega)]; simp [upd, HL.out]
  have eK : (enc (m))[p + 3]? = some (.int .i64 (k)) := by rw [enc_i _ _ (by first | exact HB2.out | exact HB3.out) (by omega) (by omega)]; simp [upd, HK.out]
  go_wp2_with (refine store_i P0.out rfl _ _ rfl _ rfl _ rfl (by first | exact HB2.out | exact HB3.out) (by omega) (by omega) ?_)
  intro u1 hP hk
  replace hP : Has u1 b (enc (upd m (p + 3) y)) := hP
  have P1 := Lib.hid hP
  have K1 := Lib.hid (K0.out.trans hk)
  clear hP hk P0 K0
  try simp only [Act.put]
  clear hc hf eL eK
  obtain ⟨hc, hf⟩ := P1.out.out
  have eL : (enc (upd m (p + 3) y))[p + 2]? = some (.int .i64 (l)) := by rw [enc_i _ _ (by first | exact HB2.out | exact HB3.out) (by omega) (by omega)]; simp [upd, HL.out]
  have eK : (enc (upd m (p + 3) y))[p + 3]? = some (.int .i64 (y)) := by rw [enc_i _ _ (by first | exact HB2.out | exact HB3.out) (by omega) (by omega)]; simp [upd, HK.out]
  go_wp2_with (refine store_i P1.out rfl _ _ rfl _ rfl _ rfl (by first | exact HB2.out | exact HB3.out) (by omega) (by omega) ?_)
  intro u2 hP hk
  replace hP : Has u2 b (enc (upd (upd m (p + 3) y) (p + 2) (l - 1))) := hP
  have P2 := Lib.hid hP
  have K2 := Lib.hid (K1.out.trans hk)
  clear hP hk P1 K1
  try simp only [Act.put]
  clear hc hf eL eK
  obtain ⟨hc, hf⟩ := P2.out.out
  have eL : (enc (upd (upd m (p + 3) y) (p + 2) (l - 1)))[p + 2]? = some (.int .i64 (l - 1)) := by rw [enc_i _ _ (by first | exact HB2.out | exact HB3.out) (by omega) (by omega)]; simp [upd, HL.out]
  have eK : (enc (upd (upd m (p + 3) y) (p + 2) (l - 1)))[p + 3]? = some (.int .i64 (y)) := by rw [enc_i _ _ (by first | exact HB2.out | exact HB3.out) (by omega) (by omega)]; simp [upd, HK.out]
  go_wp2
  all_goals first | exact bodyPost_ret (v := .tuple #[]) (by simp [results, Tryd.results33, go_sem]) rfl ⟨rfl, P2.out, K2.out⟩ | exact bodyPost_end (v := .tuple #[]) (by simp [results, Tryd.results33, go_sem]) rfl ⟨rfl, P2.out, K2.out⟩
set_option maxHeartbeats 2000000 in
theorem chg_5 (b : Nat) (m : M) (p : Nat) (p0 : 51 ≤ p) (p1 : p ≤ 63) (B2 : isB (p + 2) = false) (B3 : isB (p + 3) = false) (x l k y : Int) (hy : x % 8 = y) (g0 : 0 ≤ x) (g1 : x < 256) (hl : m (p + 2) = l) (hk : m (p + 3) = k) (l0 : 0 ≤ l) (l1 : l < 16) (k0 : 0 ≤ k) (k1 : k < 256) (h0 : ¬ y = 0) (h1 : ¬ 1 < k) (hd : ¬ x / 8 % 2 = 1) (h2 : ¬ 0 < l) (w : World) (h : Has w b (enc m)) : Calls Tryd.prog 33 #[.pointer (some ⟨b, p, none⟩), .int .u8 x] w fun q_ w' => q_ = .returned (.tuple #[]) ∧ Has w' b (enc (upd m (p + 3) y)) ∧ Keeps b w w' := by
  suffices hall : ∀ w0 : World, Keeps b w0 w → Calls Tryd.prog 33 #[.pointer (some ⟨b, p, none⟩), .int .u8 x] w fun q_ w' => q_ = .returned (.tuple #[]) ∧ Has w' b (enc (upd m (p + 3) y)) ∧ Keeps b w0 w' from hall w (Keeps.refl b w)
  intro w0 hK
  have P0 := Lib.hid h
  have K0 := Lib.hid hK
  clear h hK
  have y0 : 0 ≤ y ∧ y < 8 := by omega
  have q8 := b8 x g0 g1
  have HL := Lib.hid hl
  have HK := Lib.hid hk
  have HB2 := Lib.hid B2
  have HB3 := Lib.hid B3
  clear hl hk B2 B3
  rw [show decide (x / 8 % 2 = 1) = false by simpa using hd] at q8
  have hnot : ∀ (x : Bool) (w : World), (Op.unary .not (.bool x)).run Tryd.prog w = .ok (.bool (!x)) w := fun _ _ => rfl
  go_enter Tryd.func33, Tryd.ntmps33
  obtain ⟨hc, hf⟩ := P0.out.out
  have eL : (enc (m))[p + 2]? = some (.int .i64 (l)) := by rw [enc_i _ _ (by first | exact HB2.out | exact HB3.out) (by omega) (by omega)]; simp [upd, HL.out]
  have eK : (enc (m))[p + 3]? = some (.int .i64 (k)) := by rw [enc_i _ _ (by first | exact HB2.out | exact HB3.out) (by omega) (by omega)]; simp [upd, HK.out]
  go_wp2_with (refine store_i P0.out rfl _ _ rfl _ rfl _ rfl (by first | exact HB2.out | exact HB3.out) (by omega) (by omega) ?_)
  intro u1 hP hk
  replace hP : Has u1 b (enc (upd m (p + 3) y)) := hP
  have P1 := Lib.hid hP
  have K1 := Lib.hid (K0.out.trans hk)
  clear hP hk P0 K0
  try simp only [Act.put]
  clear hc hf eL eK
  obtain ⟨hc, hf⟩ := P1.out.out
  have eL : (enc (upd m (p + 3) y))[p + 2]? = some (.int .i64 (l)) := by rw [enc_i _ _ (by first | exact HB2.out | exact HB3.out) (by omega) (by omega)]; simp [upd, HL.out]
  have eK : (enc (upd m (p + 3) y))[p + 3]? = some (.int .i64 (y)) := by rw [enc_i _ _ (by first | exact HB2.out | exact HB3.out) (by omega) (by omega)]; simp [upd, HK.out]
  go_wp2
  all_goals first | exact bodyPost_ret (v := .tuple #[]) (by simp [results, Tryd.results33, go_sem]) rfl ⟨rfl, P1.out, K1.out⟩ | exact bodyPost_end (v := .tuple #[]) (by simp [results, Tryd.results33, go_sem]) rfl ⟨rfl, P1.out, K1.out⟩
set_option maxHeartbeats 2000000 in
theorem begin_0 (b : Nat) (m : M) (x s d y z : Int) (hx : m 0 = x) (g0 : 0 ≤ x) (g1 : x < 256) (hs : x % 8 = s) (hd : x / 16 % 8 = d) (hy : m 4 = y) (y0 : 0 ≤ y) (y1 : y < 256) (hz : m 3 = z) (z0 : 0 ≤ z) (z1 : z < 256) (h0 : d = 0) (h1 : s = 0)  (w : World) (h : Has w b (enc m)) : Calls Tryd.prog 29 #[.pointer (some ⟨b, 0, none⟩)] w fun q_ w' => q_ = .returned (.tuple #[]) ∧ Has w' b (enc (upd (upd (upd m 67 (y % 8 * 256 + z)) 68 8) 69 (tf false))) ∧ Keeps b w w' := by
  suffices hall : ∀ w0 : World, Keeps b w0 w → Calls Tryd.prog 29 #[.pointer (some ⟨b, 0, none⟩)] w fun q_ w' => q_ = .returned (.tuple #[]) ∧ Has w' b (enc (upd (upd (upd m 67 (y % 8 * 256 + z)) 68 8) 69 (tf false))) ∧ Keeps b w0 w' from hall w (Keeps.refl b w)
  intro w0 hK
  have P0 := Lib.hid h
  have K0 := Lib.hid hK
  clear h hK
  have HX := Lib.hid hx
  have HY := Lib.hid hy
  have HZ := Lib.hid hz
  have b1 : 0 ≤ y % 8 * 256 + z ∧ y % 8 * 256 + z < 2048 := by omega
  have b2 : (y % 8) * 2 ^ 8 = y % 8 * 256 := rfl
  have b3 : 0 ≤ y % 8 ∧ y % 8 < 8 := by omega
  clear hx hy hz
  have hnot : ∀ (x : Bool) (w : World), (Op.unary .not (.bool x)).run Tryd.prog w = .ok (.bool (!x)) w := fun _ _ => rfl
  go_enter Tryd.func29, Tryd.ntmps29
  go_wp2_with fail
  with_reducible refine (register_c b m 0 3 0 3 3 rfl rfl rfl (by decide) z HZ.out _ P0.out).mono ?_
  rintro q_ w' ⟨rfl, rfl⟩
  go_wp2_with fail
  with_reducible refine (register_c b m 0 4 0 4 4 rfl rfl rfl (by decide) y HY.out _ P0.out).mono ?_
  rintro q_ w' ⟨rfl, rfl⟩
  go_wp2_with (refine store_i P0.out rfl _ _ rfl _ rfl _ rfl (by rfl) (by omega) (by omega) ?_)
  intro u1 hP hk
  replace hP : Has u1 b (enc (upd m 67 (y % 8 * 256 + z))) := hP
  have P1 := Lib.hid hP
  have K1 := Lib.hid (K0.out.trans hk)
  clear hP hk P0 K0
  try simp only [Act.put]
  go_wp2_with fail
  with_reducible refine (slideTime_0 b (upd m 67 (y % 8 * 256 + z)) x d (show (upd m 67 (y % 8 * 256 + z)) 0 = x by simpa [upd] using HX.out) g0 g1 hd h0 _ P1.out).mono ?_
  rintro q_ w' ⟨rfl, rfl⟩
  go_wp2_with (refine store_i P1.out rfl _ _ rfl _ rfl _ rfl (by rfl) (by omega) (by omega) ?_)
  intro u2 hP hk
  replace hP : Has u2 b (enc (upd (upd m 67 (y % 8 * 256 + z)) 68 8)) := hP
  have P2 := Lib.hid hP
  have K2 := Lib.hid (K1.out.trans hk)
  clear hP hk P1 K1
  try simp only [Act.put]
  go_wp2_with fail
  with_reducible refine (period_c b (upd (upd m 67 (y % 8 * 256 + z)) 68 8) x d (show (upd (upd m 67 (y % 8 * 256 + z)) 68 8) 0 = x by simpa [upd] using HX.out) g0 g1 hd _ P2.out).mono ?_
  rintro q_ w' ⟨rfl, rfl⟩
  go_wp2_with fail
  with_reducible refine (shift_c b (upd (upd m 67 (y % 8 * 256 + z)) 68 8) x s (show (upd (upd m 67 (y % 8 * 256 + z)) 68 8) 0 = x by simpa [upd] using HX.out) g0 g1 hs _ P2.out).mono ?_
  rintro q_ w' ⟨rfl, rfl⟩
  go_wp2_with (refine store_bo P2.out rfl _ _ rfl _ rfl _ rfl (by rfl) (by omega) ?_)
  intro u3 hP hk
  replace hP : Has u3 b (enc (upd (upd (upd m 67 (y % 8 * 256 + z)) 68 8) 69 (tf false))) := hP
  have P3 := Lib.hid hP
  have K3 := Lib.hid (K2.out.trans hk)
  clear hP hk P2 K2
  try simp only [Act.put]
  go_wp2_with fail
  with_reducible refine (shift_c b (upd (upd (upd m 67 (y % 8 * 256 + z)) 68 8) 69 (tf false)) x s (show (upd (upd (upd m 67 (y % 8 * 256 + z)) 68 8) 69 (tf false)) 0 = x by simpa [upd] using HX.out) g0 g1 hs _ P3.out).mono ?_
  rintro q_ w' ⟨rfl, rfl⟩
  go_wp2
  all_goals first | exact bodyPost_ret (v := .tuple #[]) (by simp [results, Tryd.results29, go_sem]) rfl ⟨rfl, P3.out, K3.out⟩ | exact bodyPost_end (v := .tuple #[]) (by simp [results, Tryd.results29, go_sem]) rfl ⟨rfl, P3.out, K3.out⟩
set_option maxHeartbeats 2000000 in
theorem begin_1 (b : Nat) (m : M) (x s d y z : Int) (hx : m 0 = x) (g0 : 0 ≤ x) (g1 : x < 256) (hs : x % 8 = s) (hd : x / 16 % 8 = d) (hy : m 4 = y) (y0 : 0 ≤ y) (y1 : y < 256) (hz : m 3 = z) (z0 : 0 ≤ z) (z1 : z < 256) (h0 : d = 0) (h1 : ¬ s = 0) (m9 : M) (zr : Bool) (H : ∀ W, Has W b (enc (upd (upd (upd m 67 (y % 8 * 256 + z)) 68 8) 69 (tf true))) → Calls Tryd.prog 35 #[.pointer (some ⟨b, 0, none⟩)] W fun q_ w' => q_ = .returned (.bool zr) ∧ Has w' b (enc (m9)) ∧ Keeps b W w')  (w : World) (h : Has w b (enc m)) : Calls Tryd.prog 29 #[.pointer (some ⟨b, 0, none⟩)] w fun q_ w' => q_ = .returned (.tuple #[]) ∧ Has w' b (enc (m9)) ∧ Keeps b w w' := by
  suffices hall : ∀ w0 : World, Keeps b w0 w → Calls Tryd.prog 29 #[.pointer (some ⟨b, 0, none⟩)] w fun q_ w' => q_ = .returned (.tuple #[]) ∧ Has w' b (enc (m9)) ∧ Keeps b w0 w' from hall w (Keeps.refl b w)
  intro w0 hK
  have P0 := Lib.hid h
  have K0 := Lib.hid hK
  clear h hK
  have HX := Lib.hid hx
  have HY := Lib.hid hy
  have HZ := Lib.hid hz
  have b1 : 0 ≤ y % 8 * 256 + z ∧ y % 8 * 256 + z < 2048 := by omega
  have b2 : (y % 8) * 2 ^ 8 = y % 8 * 256 := rfl
  have b3 : 0 ≤ y % 8 ∧ y % 8 < 8 := by omega
  clear hx hy hz
  have SH := Lib.hid H
  clear H
  have hs0 : (s != 0) = true := by simpa using h1
  have hnot : ∀ (x : Bool) (w : World), (Op.unary .not (.bool x)).run Tryd.prog w = .ok (.bool (!x)) w := fun _ _ => rfl
  go_enter Tryd.func29, Tryd.ntmps29
  go_wp2_with fail
  with_reducible refine (register_c b m 0 3 0 3 3 rfl rfl rfl (by decide) z HZ.out _ P0.out).mono ?_
  rintro q_ w' ⟨rfl, rfl⟩
  go_wp2_with fail
  with_reducible refine (register_c b m 0 4 0 4 4 rfl rfl rfl (by decide) y HY.out _ P0.out).mono ?_
  rintro q_ w' ⟨rfl, rfl⟩
  go_wp2_with (refine store_i P0.out rfl _ _ rfl _ rfl _ rfl (by rfl) (by omega) (by omega) ?_)
  intro u1 hP hk
  replace hP : Has u1 b (enc (upd m 67 (y % 8 * 256 + z))) := hP
  have P1 := Lib.hid hP
  have K1 := Lib.hid (K0.out.trans hk)
  clear hP hk P0 K0
  try simp only [Act.put]
  go_wp2_with fail
  with_reducible refine (slideTime_0 b (upd m 67 (y % 8 * 256 + z)) x d (show (upd m 67 (y % 8 * 256 + z)) 0 = x by simpa [upd] using HX.out) g0 g1 hd h0 _ P1.out).mono ?_
  rintro q_ w' ⟨rfl, rfl⟩
  go_wp2_with (refine store_i P1.out rfl _ _ rfl _ rfl _ rfl (by rfl) (by omega) (by omega) ?_)
  intro u2 hP hk
  replace hP : Has u2 b (enc (upd (upd m 67 (y % 8 * 256 + z)) 68 8)) := hP
  have P2 := Lib.hid hP
  have K2 := Lib.hid (K1.out.trans hk)
  clear hP hk P1 K1
  try simp only [Act.put]
  go_wp2_with fail
  with_reducible refine (period_c b (upd (upd m 67 (y % 8 * 256 + z)) 68 8) x d (show (upd (upd m 67 (y % 8 * 256 + z)) 68 8) 0 = x by simpa [upd] using HX.out) g0 g1 hd _ P2.out).mono ?_
  rintro q_ w' ⟨rfl, rfl⟩
  go_wp2_with fail
  with_reducible refine (shift_c b (upd (upd m 67 (y % 8 * 256 + z)) 68 8) x s (show (upd (upd m 67 (y % 8 * 256 + z)) 68 8) 0 = x by simpa [upd] using HX.out) g0 g1 hs _ P2.out).mono ?_
  rintro q_ w' ⟨rfl, rfl⟩
  go_wp2_with (refine store_bo P2.out rfl _ _ rfl _ rfl _ rfl (by rfl) (by omega) ?_)
  intro u3 hP hk
  replace hP : Has u3 b (enc (upd (upd (upd m 67 (y % 8 * 256 + z)) 68 8) 69 (tf true))) := hP
  have P3 := Lib.hid hP
  have K3 := Lib.hid (K2.out.trans hk)
  clear hP hk P2 K2
  try simp only [Act.put]
  go_wp2_with fail
  with_reducible refine (shift_c b (upd (upd (upd m 67 (y % 8 * 256 + z)) 68 8) 69 (tf true)) x s (show (upd (upd (upd m 67 (y % 8 * 256 + z)) 68 8) 69 (tf true)) 0 = x by simpa [upd] using HX.out) g0 g1 hs _ P3.out).mono ?_
  rintro q_ w' ⟨rfl, rfl⟩
  go_wp2_with fail
  with_reducible refine (SH.out _ P3.out).mono ?_
  rintro q_ u4 ⟨rfl, hP, hk⟩
  have P4 := Lib.hid hP
  have K4 := Lib.hid (K3.out.trans hk)
  clear hP hk P3 K3
  go_wp2
  all_goals first | exact bodyPost_ret (v := .tuple #[]) (by simp [results, Tryd.results29, go_sem]) rfl ⟨rfl, P4.out, K4.out⟩ | exact bodyPost_end (v := .tuple #[]) (by simp [results, Tryd.results29, go_sem]) rfl ⟨rfl, P4.out, K4.out⟩
set_option maxHeartbeats 2000000 in
theorem begin_2 (b : Nat) (m : M) (x s d y z : Int) (hx : m 0 = x) (g0 : 0 ≤ x) (g1 : x < 256) (hs : x % 8 = s) (hd : x / 16 % 8 = d) (hy : m 4 = y) (y0 : 0 ≤ y) (y1 : y < 256) (hz : m 3 = z) (z0 : 0 ≤ z) (z1 : z < 256) (h0 : ¬ d = 0) (h1 : s = 0)  (w : World) (h : Has w b (enc m)) : Calls Tryd.prog 29 #[.pointer (some ⟨b, 0, none⟩)] w fun q_ w' => q_ = .returned (.tuple #[]) ∧ Has w' b (enc (upd (upd (upd m 67 (y % 8 * 256 + z)) 68 d) 69 (tf true))) ∧ Keeps b w w' := by
  suffices hall : ∀ w0 : World, Keeps b w0 w → Calls Tryd.prog 29 #[.pointer (some ⟨b, 0, none⟩)] w fun q_ w' => q_ = .returned (.tuple #[]) ∧ Has w' b (enc (upd (upd (upd m 67 (y % 8 * 256 + z)) 68 d) 69 (tf true))) ∧ Keeps b w0 w' from hall w (Keeps.refl b w)
  intro w0 hK
  have P0 := Lib.hid h
  have K0 := Lib.hid hK
  clear h hK
  have HX := Lib.hid hx
  have HY := Lib.hid hy
  have HZ := Lib.hid hz
  have b1 : 0 ≤ y % 8 * 256 + z ∧ y % 8 * 256 + z < 2048 := by omega
  have b2 : (y % 8) * 2 ^ 8 = y % 8 * 256 := rfl
  have b3 : 0 ≤ y % 8 ∧ y % 8 < 8 := by omega
  clear hx hy hz
  have hnot : ∀ (x : Bool) (w : World), (Op.unary .not (.bool x)).run Tryd.prog w = .ok (.bool (!x)) w := fun _ _ => rfl
  go_enter Tryd.func29, Tryd.ntmps29
  go_wp2_with fail
  with_reducible refine (register_c b m 0 3 0 3 3 rfl rfl rfl (by decide) z HZ.out _ P0.out).mono ?_
  rintro q_ w' ⟨rfl, rfl⟩
  go_wp2_with fail
  with_reducible refine (register_c b m 0 4 0 4 4 rfl rfl rfl (by decide) y HY.out _ P0.out).mono ?_
  rintro q_ w' ⟨rfl, rfl⟩
  go_wp2_with (refine store_i P0.out rfl _ _ rfl _ rfl _ rfl (by rfl) (by omega) (by omega) ?_)
  intro u1 hP hk
  replace hP : Has u1 b (enc (upd m 67 (y % 8 * 256 + z))) := hP
  have P1 := Lib.hid hP
  have K1 := Lib.hid (K0.out.trans hk)
  clear hP hk P0 K0
  try simp only [Act.put]
  go_wp2_with fail
  with_reducible refine (slideTime_1 b (upd m 67 (y % 8 * 256 + z)) x d (show (upd m 67 (y % 8 * 256 + z)) 0 = x by simpa [upd] using HX.out) g0 g1 hd h0 _ P1.out).mono ?_
  rintro q_ w' ⟨rfl, rfl⟩
  go_wp2_with (refine store_i P1.out rfl _ _ rfl _ rfl _ rfl (by rfl) (by omega) (by omega) ?_)
  intro u2 hP hk
  replace hP : Has u2 b (enc (upd (upd m 67 (y % 8 * 256 + z)) 68 d)) := hP
  have P2 := Lib.hid hP
  have K2 := Lib.hid (K1.out.trans hk)
  clear hP hk P1 K1
  try simp only [Act.put]
  go_wp2_with fail
  with_reducible refine (period_c b (upd (upd m 67 (y % 8 * 256 + z)) 68 d) x d (show (upd (upd m 67 (y % 8 * 256 + z)) 68 d) 0 = x by simpa [upd] using HX.out) g0 g1 hd _ P2.out).mono ?_
  rintro q_ w' ⟨rfl, rfl⟩
  go_wp2_with (refine store_bo P2.out rfl _ _ rfl _ rfl _ rfl (by rfl) (by omega) ?_)
  intro u3 hP hk
  replace hP : Has u3 b (enc (upd (upd (upd m 67 (y % 8 * 256 + z)) 68 d) 69 (tf true))) := hP
  have P3 := Lib.hid hP
  have K3 := Lib.hid (K2.out.trans hk)
  clear hP hk P2 K2
  try simp only [Act.put]
  go_wp2_with fail
  with_reducible refine (shift_c b (upd (upd (upd m 67 (y % 8 * 256 + z)) 68 d) 69 (tf true)) x s (show (upd (upd (upd m 67 (y % 8 * 256 + z)) 68 d) 69 (tf true)) 0 = x by simpa [upd] using HX.out) g0 g1 hs _ P3.out).mono ?_
  rintro q_ w' ⟨rfl, rfl⟩
  go_wp2
  all_goals first | exact bodyPost_ret (v := .tuple #[]) (by simp [results, Tryd.results29, go_sem]) rfl ⟨rfl, P3.out, K3.out⟩ | exact bodyPost_end (v := .tuple #[]) (by simp [results, Tryd.results29, go_sem]) rfl ⟨rfl, P3.out, K3.out⟩
set_option maxHeartbeats 2000000 in
theorem begin_3 (b : Nat) (m : M) (x s d y z : Int) (hx : m 0 = x) (g0 : 0 ≤ x) (g1 : x < 256) (hs : x % 8 = s) (hd : x / 16 % 8 = d) (hy : m 4 = y) (y0 : 0 ≤ y) (y1 : y < 256) (hz : m 3 = z) (z0 : 0 ≤ z) (z1 : z < 256) (h0 : ¬ d = 0) (h1 : ¬ s = 0) (m9 : M) (zr : Bool) (H : ∀ W, Has W b (enc (upd (upd (upd m 67 (y % 8 * 256 + z)) 68 d) 69 (tf true))) → Calls Tryd.prog 35 #[.pointer (some ⟨b, 0, none⟩)] W fun q_ w' => q_ = .returned (.bool zr) ∧ Has w' b (enc (m9)) ∧ Keeps b W w')  (w : World) (h : Has w b (enc m)) : Calls Tryd.prog 29 #[.pointer (some ⟨b, 0, none⟩)] w fun q_ w' => q_ = .returned (.tuple #[]) ∧ Has w' b (enc (m9)) ∧ Keeps b w w' := by
  suffices hall : ∀ w0 : World, Keeps b w0 w → Calls Tryd.prog 29 #[.pointer (some ⟨b, 0, none⟩)] w fun q_ w' => q_ = .returned (.tuple #[]) ∧ Has w' b (enc (m9)) ∧ Keeps b w0 w' from hall w (Keeps.refl b w)
  intro w0 hK
  have P0 := Lib.hid h
  have K0 := Lib.hid hK
  clear h hK
  have HX := Lib.hid hx
  have HY := Lib.hid hy
  have HZ := Lib.hid hz
  have b1 : 0 ≤ y % 8 * 256 + z ∧ y % 8 * 256 + z < 2048 := by omega
  have b2 : (y % 8) * 2 ^ 8 = y % 8 * 256 := rfl
  have b3 : 0 ≤ y % 8 ∧ y % 8 < 8 := by omega
  clear hx hy hz
  have SH := Lib.hid H
  clear H
  have hs0 : (s != 0) = true := by simpa using h1
  have hnot : ∀ (x : Bool) (w : World), (Op.unary .not (.bool x)).run Tryd.prog w = .ok (.bool (!x)) w := fun _ _ => rfl
  go_enter Tryd.func29, Tryd.ntmps29
  go_wp2_with fail
  with_reducible refine (register_c b m 0 3 0 3 3 rfl rfl rfl (by decide) z HZ.out _ P0.out).mono ?_
  rintro q_ w' ⟨rfl, rfl⟩
  go_wp2_with fail
  with_reducible refine (register_c b m 0 4 0 4 4 rfl rfl rfl (by decide) y HY.out _ P0.out).mono ?_
  rintro q_ w' ⟨rfl, rfl⟩
  go_wp2_with (refine store_i P0.out rfl _ _ rfl _ rfl _ rfl (by rfl) (by omega) (by omega) ?_)
  intro u1 hP hk
  replace hP : Has u1 b (enc (upd m 67 (y % 8 * 256 + z))) := hP
  have P1 := Lib.hid hP
  have K1 := Lib.hid (K0.out.trans hk)
  clear hP hk P0 K0
  try simp only [Act.put]
  go_wp2_with fail
  with_reducible refine (slideTime_1 b (upd m 67 (y % 8 * 256 + z)) x d (show (upd m 67 (y % 8 * 256 + z)) 0 = x by simpa [upd] using HX.out) g0 g1 hd h0 _ P1.out).mono ?_
  rintro q_ w' ⟨rfl, rfl⟩
  go_wp2_with (refine store_i P1.out rfl _ _ rfl _ rfl _ rfl (by rfl) (by omega) (by omega) ?_)
  intro u2 hP hk
  replace hP : Has u2 b (enc (upd (upd m 67 (y % 8 * 256 + z)) 68 d)) := hP
  have P2 := Lib.hid hP
  have K2 := Lib.hid (K1.out.trans hk)
  clear hP hk P1 K1
  try simp only [Act.put]
  go_wp2_with fail
  with_reducible refine (period_c b (upd (upd m 67 (y % 8 * 256 + z)) 68 d) x d (show (upd (upd m 67 (y % 8 * 256 + z)) 68 d) 0 = x by simpa [upd] using HX.out) g0 g1 hd _ P2.out).mono ?_
  rintro q_ w' ⟨rfl, rfl⟩
  go_wp2_with (refine store_bo P2.out rfl _ _ rfl _ rfl _ rfl (by rfl) (by omega) ?_)
  intro u3 hP hk
  replace hP : Has u3 b (enc (upd (upd (upd m 67 (y % 8 * 256 + z)) 68 d) 69 (tf true))) := hP
  have P3 := Lib.hid hP
  have K3 := Lib.hid (K2.out.trans hk)
  clear hP hk P2 K2
  try simp only [Act.put]
  go_wp2_with fail
  with_reducible refine (shift_c b (upd (upd (upd m 67 (y % 8 * 256 + z)) 68 d) 69 (tf true)) x s (show (upd (upd (upd m 67 (y % 8 * 256 + z)) 68 d) 69 (tf true)) 0 = x by simpa [upd] using HX.out) g0 g1 hs _ P3.out).mono ?_
  rintro q_ w' ⟨rfl, rfl⟩
  go_wp2_with fail
  with_reducible refine (SH.out _ P3.out).mono ?_
  rintro q_ u4 ⟨rfl, hP, hk⟩
  have P4 := Lib.hid hP
  have K4 := Lib.hid (K3.out.trans hk)
  clear hP hk P3 K3
  go_wp2
  all_goals first | exact bodyPost_ret (v := .tuple #[]) (by simp [results, Tryd.results29, go_sem]) rfl ⟨rfl, P4.out, K4.out⟩ | exact bodyPost_end (v := .tuple #[]) (by simp [results, Tryd.results29, go_sem]) rfl ⟨rfl, P4.out, K4.out⟩
set_option maxHeartbeats 2000000 in
theorem csl_0 (b : Nat) (m : M) (k : Int) (hk : m 68 = k) (h0 : 1 < k) (h1 : k < 256) (w : World) (h : Has w b (enc m)) : Calls Tryd.prog 25 #[.pointer (some ⟨b, 0, none⟩)] w fun q_ w' => q_ = .returned (.tuple #[]) ∧ Has w' b (enc (upd m 68 (k - 1))) ∧ Keeps b w w' := by
  suffices hall : ∀ w0 : World, Keeps b w0 w → Calls Tryd.prog 25 #[.pointer (some ⟨b, 0, none⟩)] w fun q_ w' => q_ = .returned (.tuple #[]) ∧ Has w' b (enc (upd m 68 (k - 1))) ∧ Keeps b w0 w' from hall w (Keeps.refl b w)
  intro w0 hK
  have P0 := Lib.hid h
  have K0 := Lib.hid hK
  clear h hK
  have HK := Lib.hid hk
  clear hk
  go_enter Tryd.func25, Tryd.ntmps25
  obtain ⟨hc, hf⟩ := P0.out.out
  have e68 : (enc m)[68]? = some (.int .i64 k) := by rw [enc_i _ _ rfl (by omega) (by omega), HK.out]
  go_wp2_with (refine store_i P0.out rfl _ _ rfl _ rfl _ rfl (by rfl) (by omega) (by omega) ?_)
  intro u1 hP hk
  replace hP : Has u1 b (enc (upd m 68 (k - 1))) := hP
  have P1 := Lib.hid hP
  have K1 := Lib.hid (K0.out.trans hk)
  clear hP hk P0 K0
  try simp only [Act.put]
  clear hc hf e68
  go_wp2
  all_goals first | exact bodyPost_ret (v := .tuple #[]) (by simp [results, Tryd.results25, go_sem]) rfl ⟨rfl, P1.out, K1.out⟩ | exact bodyPost_end (v := .tuple #[]) (by simp [results, Tryd.results25, go_sem]) rfl ⟨rfl, P1.out, K1.out⟩
set_option maxHeartbeats 2000000 in
theorem csl_1 (b : Nat) (m : M) (x d k : Int) (hx : m 0 = x) (g0 : 0 ≤ x) (g1 : x < 256) (hd : x / 16 % 8 = d) (hk : m 68 = k) (h0 : ¬ 1 < k) (h1 : d = 0)  (w : World) (h : Has w b (enc m)) : Calls Tryd.prog 25 #[.pointer (some ⟨b, 0, none⟩)] w fun q_ w' => q_ = .returned (.tuple #[]) ∧ Has w' b (enc (upd m 68 8)) ∧ Keeps b w w' := by
  suffices hall : ∀ w0 : World, Keeps b w0 w → Calls Tryd.prog 25 #[.pointer (some ⟨b, 0, none⟩)] w fun q_ w' => q_ = .returned (.tuple #[]) ∧ Has w' b (enc (upd m 68 8)) ∧ Keeps b w0 w' from hall w (Keeps.refl b w)
  intro w0 hK
  have P0 := Lib.hid h
  have K0 := Lib.hid hK
  clear h hK
  have HK := Lib.hid hk
  have HX := Lib.hid hx
  clear hk hx
  go_enter Tryd.func25, Tryd.ntmps25
  obtain ⟨hc, hf⟩ := P0.out.out
  have e68 : (enc m)[68]? = some (.int .i64 k) := by rw [enc_i _ _ rfl (by omega) (by omega), HK.out]
  go_wp2_with fail
  with_reducible refine (slideTime_0 b m x d HX.out g0 g1 hd h1 _ P0.out).mono ?_
  rintro q_ w' ⟨rfl, rfl⟩
  go_wp2_with (refine store_i P0.out rfl _ _ rfl _ rfl _ rfl (by rfl) (by omega) (by omega) ?_)
  intro u1 hP hk
  replace hP : Has u1 b (enc (upd m 68 8)) := hP
  have P1 := Lib.hid hP
  have K1 := Lib.hid (K0.out.trans hk)
  clear hP hk P0 K0
  try simp only [Act.put]
  clear hc hf e68
  go_wp2_with fail
  with_reducible refine (period_c b (upd m 68 8) x d (show (upd m 68 8) 0 = x by simpa [upd] using HX.out) g0 g1 hd _ P1.out).mono ?_
  rintro q_ w' ⟨rfl, rfl⟩
  go_wp2
  all_goals first | exact bodyPost_ret (v := .tuple #[]) (by simp [results, Tryd.results25, go_sem]) rfl ⟨rfl, P1.out, K1.out⟩ | exact bodyPost_end (v := .tuple #[]) (by simp [results, Tryd.results25, go_sem]) rfl ⟨rfl, P1.out, K1.out⟩
set_option maxHeartbeats 2000000 in
theorem csl_2 (b : Nat) (m : M) (x d k : Int) (hx : m 0 = x) (g0 : 0 ≤ x) (g1 : x < 256) (hd : x / 16 % 8 = d) (hk : m 68 = k) (h0 : ¬ 1 < k) (h1 : ¬ d = 0) (m9 : M) (H : ∀ W, Has W b (enc (upd m 68 d)) → Calls Tryd.prog 32 #[.pointer (some ⟨b, 0, none⟩)] W fun q_ w' => q_ = .returned (.tuple #[]) ∧ Has w' b (enc m9) ∧ Keeps b W w') (w : World) (h : Has w b (enc m)) : Calls Tryd.prog 25 #[.pointer (some ⟨b, 0, none⟩)] w fun q_ w' => q_ = .returned (.tuple #[]) ∧ Has w' b (enc (m9)) ∧ Keeps b w w' := by
  suffices hall : ∀ w0 : World, Keeps b w0 w → Calls Tryd.prog 25 #[.pointer (some ⟨b, 0, none⟩)] w fun q_ w' => q_ = .returned (.tuple #[]) ∧ Has w' b (enc (m9)) ∧ Keeps b w0 w' from hall w (Keeps.refl b w)
  intro w0 hK
  have P0 := Lib.hid h
  have K0 := Lib.hid hK
  clear h hK
  have HK := Lib.hid hk
  have HX := Lib.hid hx
  clear hk hx
  have SH := Lib.hid H
  clear H
  go_enter Tryd.func25, Tryd.ntmps25
  obtain ⟨hc, hf⟩ := P0.out.out
  have e68 : (enc m)[68]? = some (.int .i64 k) := by rw [enc_i _ _ rfl (by omega) (by omega), HK.out]
  go_wp2_with fail
  with_reducible refine (slideTime_1 b m x d HX.out g0 g1 hd h1 _ P0.out).mono ?_
  rintro q_ w' ⟨rfl, rfl⟩
  go_wp2_with (refine store_i P0.out rfl _ _ rfl _ rfl _ rfl (by rfl) (by omega) (by omega) ?_)
  intro u1 hP hk
  replace hP : Has u1 b (enc (upd m 68 d)) := hP
  have P1 := Lib.hid hP
  have K1 := Lib.hid (K0.out.trans hk)
  clear hP hk P0 K0
  try simp only [Act.put]
  clear hc hf e68
  go_wp2_with fail
  with_reducible refine (period_c b (upd m 68 d) x d (show (upd m 68 d) 0 = x by simpa [upd] using HX.out) g0 g1 hd _ P1.out).mono ?_
  rintro q_ w' ⟨rfl, rfl⟩
  go_wp2_with fail
  with_reducible refine (SH.out _ P1.out).mono ?_
  rintro q_ u2 ⟨rfl, hP, hk⟩
  have P2 := Lib.hid hP
  have K2 := Lib.hid (K1.out.trans hk)
  clear hP hk P1 K1
  go_wp2
  all_goals first | exact bodyPost_ret (v := .tuple #[]) (by simp [results, Tryd.results25, go_sem]) rfl ⟨rfl, P2.out, K2.out⟩ | exact bodyPost_end (v := .tuple #[]) (by simp [results, Tryd.results25, go_sem]) rfl ⟨rfl, P2.out, K2.out⟩
end Go.Proofs.YtonmnpadmphbdaaDoor
