/-
  Unpacking, as the program does it: for every world in which the slices lie as told; they have at most 16000 bytes.
-/
import Derived.Test.YtklbhbappaibgaaUl
import Derived.Test.YtklbhbappaibgaaUa
import Derived.StillTailTactics
namespace Go.Proofs.Ytklbhbappaibgaa
open Go.ChangeShapes Go.WideShapes Go.ChangeAt Go.RowKit
set_option linter.unusedVariables false
set_option linter.unusedSimpArgs false
set_option maxRecDepth 100000
set_option maxHeartbeats 4000000 in
theorem unpack_c (v1 v2 : Value) (B P : List Nat) (hm : B.length ≤ 16000) (hmp : P.length ≤ 16000) (w : World) (h1 : Rd w v1 B) (h2 : Rd w v2 P) : Calls Try.prog 13 #[v1, v2] w (UnpE B P w) := by
 have h1' := h1
 have h2' := h2
 obtain ⟨a1, n, c1, rfl, n1, hc1, hz1, by1, at1⟩ := h1.open
 obtain ⟨a2, np, c2, rfl, n2, hc2, hz2, by2, at2⟩ := h2.open
 have PP := Lib.hid (un_pass a1 a2 n np c1 c2 B P n1 n2 (by omega) (by omega) w h1' h2')
 have PL := Lib.hid (un_last2 a1 a2 n np c1 c2 B P n1 n2 (by omega) (by omega) w h1' h2')
 obtain ⟨w2, hr, ho, hb⟩ := mk_own (w := w) (base := w.heap.size) n (by omega) (Nat.le_refl _)
 have RUN := hr
 have J0 := Lib.hid (fun (u8 u9 u10 u11 u12 u13 u14 u15 u16 u17 u18 u19 u20 u21 u22 u23 u24 u25 u26 u27 u28 u29 u30 u31 u32 u33 u34 u35 u36 u37 u38 u39 u40 u41 u42 u43 u44 u45 u46 u47 u48 u49 u50 u51 u52 u53 u54 u55 u56 u57 u58 u59 u60 u61 u62 u63 u64 u65 u66 u67 u68 u69 u70 u71 u72 u73 u74 u75 u76 u77 u78 u79 u80 u81 u82 u83 u84 : Value) => (⟨[], P, .slice (some ⟨w.heap.size, 0, none⟩) 0 n, .slice a2 np c2, u8, u9, u10, u11, u12, u13, u14, u15, u16, u17, u18, u19, u20, u21, u22, u23, u24, u25, u26, u27, u28, u29, u30, u31, u32, u33, u34, u35, u36, u37, u38, u39, u40, u41, u42, u43, u44, u45, u46, u47, u48, u49, u50, u51, u52, u53, u54, u55, u56, u57, u58, u59, u60, u61, u62, u63, u64, u65, u66, u67, u68, u69, u70, u71, u72, u73, u74, u75, u76, u77, u78, u79, u80, u81, u82, u83, u84, rfl, Nat.zero_le _, n2, by omega, ho, h2', hb, rfl⟩ : UJ a1 a2 n np c1 c2 B P w np { tmps := #[.slice a1 n c1, .slice a2 np c2, undef, undef, .slice none 0 0, .int .i64 0, .slice (some ⟨w.heap.size, 0, none⟩) 0 n, .slice a2 np c2, u8, u9, u10, u11, u12, u13, u14, u15, u16, u17, u18, u19, u20, u21, u22, u23, u24, u25, u26, u27, u28, u29, u30, u31, u32, u33, u34, u35, u36, u37, u38, u39, u40, u41, u42, u43, u44, u45, u46, u47, u48, u49, u50, u51, u52, u53, u54, u55, u56, u57, u58, u59, u60, u61, u62, u63, u64, u65, u66, u67, u68, u69, u70, u71, u72, u73, u74, u75, u76, u77, u78, u79, u80, u81, u82, u83, u84], defers := [] } w2))
 clear h1 h2 h1' h2' by1 by2 at1 at2 n1 n2 hm hmp ho hb hr
 go_enter Try.func13, Try.ntmps13
 go_wp2
 refine wp_scope_jump 0 1 (UJ a1 a2 n np c1 c2 B P w) (UK a1 a2 n np c1 c2 B P w) rfl rfl ?_ ?_ ?_
 ·intro Q' hq hg hk
  go_wp2
  go_step3
  rename_i K hK
  refine hK _ _ (PP.out np _ _ (J0.out _ _ _ _ _ _ _ _ _ _ _ _ _ _ _ _ _ _ _ _ _ _ _ _ _ _ _ _ _ _ _ _ _ _ _ _ _ _ _ _ _ _ _ _ _ _ _ _ _ _ _ _ _ _ _ _ _ _ _ _ _ _ _ _ _ _ _ _ _ _ _ _ _ _ _ _ _) Q' hq (fun n' a' w' _ h => hg n' a' w' h) hk)
 ·intro m a' w' hJ Q' hq hg hk
  exact wp_seq (wp_skip (PP.out m a' w' hJ Q' hq hg hk))
 ·intro a' w' hJ Q' hq
  exact wp_seq (wp_skip (PL.out a' w' hJ Q' hq))
end Go.Proofs.Ytklbhbappaibgaa
