/-
  Unpacking, as the program does it: for every world in which the slices lie as told; they have at most 16000 bytes.
-/
import Derived.Test.YtklbhbappaibgaaPk
import Derived.Test.YtklbhbappaibgaaEq
import Derived.StillTailTactics
namespace Go.Proofs.Ytklbhbappaibgaa
open Go.ChangeShapes Go.WideShapes Go.ChangeAt Go.RowKit
set_option linter.unusedVariables false
set_option linter.unusedSimpArgs false
set_option maxRecDepth 100000
/-- What an unpacker hands back. -/
def UnpE (B p : List Nat) (w : World) (q_ : Ending) (w' : World) : Prop := ∃ v', q_ = .returned (.tuple #[v', .int .i64 ((unp B p).1 : Nat)]) ∧ Ow w' w.heap.size v' (unp B p).2 ∧ Below w.heap.size w w'
theorem UnpE.bad {B p : List Nat} {e : Nat} {w w' : World} (h : unp B p = (e, [])) (hb : Below w.heap.size w w') : UnpE B p w (.returned (.tuple #[.slice none 0 0, .int .i64 e])) w' := by
 unfold UnpE; rw [h]
 exact ⟨_, rfl, Ow.nil w' _, hb⟩
theorem UnpE.good {B p O : List Nat} {v : Value} {w w' : World} (h : unp B p = (0, O)) (ho : Ow w' w.heap.size v O) (hb : Below w.heap.size w w') : UnpE B p w (.returned (.tuple #[v, .int .i64 0])) w' := by
 unfold UnpE; rw [h]
 exact ⟨_, rfl, ho, hb⟩
theorem unp_err {B p : List Nat} {e : Nat} (h : un B [] p false = (e, [], [])) (he : e ≠ 0) : unp B p = (e, []) := by
 unfold unp; rw [h]; exact if_pos he
theorem unp_tl {B p O q : List Nat} (h : un B [] p false = (0, O, q)) (hq : q ≠ []) : unp B p = (3, []) := by
 unfold unp; rw [h, if_neg (by simp)]; exact if_pos hq
theorem unp_kind {B p O : List Nat} (h : un B [] p false = (0, O, [])) (hq : ¬ pk B O = p) : unp B p = (5, []) := by
 unfold unp; rw [h, if_neg (by simp), if_neg (by simp)]; exact if_neg hq
theorem unp_fine {B p O : List Nat} (h : un B [] p false = (0, O, [])) (hq : pk B O = p) : unp B p = (0, O) := by
 unfold unp; rw [h, if_neg (by simp), if_neg (by simp)]; exact if_pos hq
/-- Where the unpacker stands at its first label: m bytes of the pack are to come. -/
def UJ (a1 a2 : Option Addr) (n np c1 c2 : Nat) (B P : List Nat) (w : World) (m : Nat) (a' : Act) (w' : World) : Prop := ∃ (O q : List Nat) (sb sr u8 u9 u10 u11 u12 u13 u14 u15 u16 u17 u18 u19 u20 u21 u22 u23 u24 u25 u26 u27 u28 u29 u30 u31 u32 u33 u34 u35 u36 u37 u38 u39 u40 u41 u42 u43 u44 u45 u46 u47 u48 u49 u50 u51 u52 u53 u54 u55 u56 u57 u58 u59 u60 u61 u62 u63 u64 u65 u66 u67 u68 u69 u70 u71 u72 u73 u74 u75 u76 u77 u78 u79 u80 u81 u82 u83 u84 : Value), a' = { tmps := #[.slice a1 n c1, .slice a2 np c2, undef, undef, .slice none 0 0, .int .i64 0, sb, sr, u8, u9, u10, u11, u12, u13, u14, u15, u16, u17, u18, u19, u20, u21, u22, u23, u24, u25, u26, u27, u28, u29, u30, u31, u32, u33, u34, u35, u36, u37, u38, u39, u40, u41, u42, u43, u44, u45, u46, u47, u48, u49, u50, u51, u52, u53, u54, u55, u56, u57, u58, u59, u60, u61, u62, u63, u64, u65, u66, u67, u68, u69, u70, u71, u72, u73, u74, u75, u76, u77, u78, u79, u80, u81, u82, u83, u84], defers := [] } ∧ O.length ≤ n ∧ q.length = m ∧ m ≤ 16000 ∧ Ow w' w.heap.size sb O ∧ Rd w sr q ∧ Below w.heap.size w w' ∧ un B O q false = un B [] P false
/-- And at its second: the bytes are there. -/
def UK (a1 a2 : Option Addr) (n np c1 c2 : Nat) (B P : List Nat) (w : World) (a' : Act) (w' : World) : Prop := ∃ (O q : List Nat) (sb sr u8 u9 u10 u11 u12 u13 u14 u15 u16 u17 u18 u19 u20 u21 u22 u23 u24 u25 u26 u27 u28 u29 u30 u31 u32 u33 u34 u35 u36 u37 u38 u39 u40 u41 u42 u43 u44 u45 u46 u47 u48 u49 u50 u51 u52 u53 u54 u55 u56 u57 u58 u59 u60 u61 u62 u63 u64 u65 u66 u67 u68 u69 u70 u71 u72 u73 u74 u75 u76 u77 u78 u79 u80 u81 u82 u83 u84 : Value), a' = { tmps := #[.slice a1 n c1, .slice a2 np c2, undef, undef, .slice none 0 0, .int .i64 0, sb, sr, u8, u9, u10, u11, u12, u13, u14, u15, u16, u17, u18, u19, u20, u21, u22, u23, u24, u25, u26, u27, u28, u29, u30, u31, u32, u33, u34, u35, u36, u37, u38, u39, u40, u41, u42, u43, u44, u45, u46, u47, u48, u49, u50, u51, u52, u53, u54, u55, u56, u57, u58, u59, u60, u61, u62, u63, u64, u65, u66, u67, u68, u69, u70, u71, u72, u73, u74, u75, u76, u77, u78, u79, u80, u81, u82, u83, u84], defers := [] } ∧ O.length = n ∧ Ow w' w.heap.size sb O ∧ Rd w sr q ∧ Below w.heap.size w w' ∧ un B [] P false = (0, O, q)
end Go.Proofs.Ytklbhbappaibgaa
