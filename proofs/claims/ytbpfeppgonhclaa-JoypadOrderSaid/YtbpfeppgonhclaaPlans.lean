/-
  The walk through JoypadPlans: for every plan that lies in memory; no other condition but that each number fits.
-/
import Derived.Test.YtbpfeppgonhclaaAwk
import Derived.Test.YtbpfeppgonhclaaOpn
import Derived.Test.YtbpfeppgonhclaaAt
import Derived.Test.YtbpfeppgonhclaaRat
import Derived.Test.YtbpfeppgonhclaaRow
import Derived.Deep.Cut
import Derived.Laws.StructEq
import Derived.Deep.LoopGhost
namespace Go.Proofs.Ytbpfeppgonhclaa
open Go.ChangeShapes Go.WideShapes Go.ChangeAt Go.RowKit
set_option linter.unusedVariables false
set_option linter.unusedSimpArgs false
set_option maxRecDepth 100000
theorem wp_append_run {P : Program} {w w' : World} {o : Oper} {a : Act} {K : Act → World → Prop} {Q : Exit → Act → World → Prop} (s x : Operand) (t : TypeId) (v u v' : Value)
    (ho : o.op = .call { callee := .builtin .append, args := #[s, x], argTypes := #[t, t] }) (hs : a.eval s = v) (hx : a.eval x = u)
    (hr : (Builtin.append_ #[t, t] o.type #[v, u]).run P w = .ok v' w') (h : K (a.put o.dst v') w') : o.wp P a w K Q := by
  unfold Oper.wp execOp
  simp only [ho, resolve, invoke, builtin, Sem.run_bind, Sem.run_pure, Result.andThen_ok, List.map_toArray, List.map_cons, List.map_nil, hs, hx, hr]
  exact h
theorem wpList_append_run {P : Program} {w w' : World} {ops : Array Oper} {rest : List Oper} {o : Oper} {a : Act} {Q : Exit → Act → World → Prop} (hgd : o.guard = none) (s x : Operand) (t : TypeId) (v u v' : Value)
    (ho : o.op = .call { callee := .builtin .append, args := #[s, x], argTypes := #[t, t] }) (hs : a.eval s = v) (hx : a.eval x = u)
    (hr : (Builtin.append_ #[t, t] o.type #[v, u]).run P w = .ok v' w') (h : wpList P ops Q rest (a.put o.dst v') w') : wpList P ops Q (o :: rest) a w :=
  wpList_plain hgd fun _ hK => wp_append_run s x t v u v' ho hs hx hr (hK _ _ h)
set_option maxHeartbeats 2000000 in
theorem plans_long (a : Option Addr) (n c : Nat) (h0 : 100 < n) (x : Int) (hx : 0 ≤ x) (hx2 : x < 18446744073709551616) (w : World) : Calls Try.prog 6 #[.slice a n c, .int .u64 x] w fun q_ w' => q_ = .returned (.bool true) ∧ Below w.heap.size w w' := by
  suffices hall : ∀ (n_ : Nat) (W0 : World), n_ ≤ W0.heap.size → Below n_ W0 w → Calls Try.prog 6 #[.slice a n c, .int .u64 x] w fun q_ w' => q_ = .returned (.bool true) ∧ Below n_ W0 w' from hall _ _ (Nat.le_refl _) (Below.refl _ _)
  intro n_ W0 hn hB
  have HN := Lib.hid hn
  have BB := Lib.hid hB
  clear hn hB
  have AW := Lib.hid awake_c
  have h0I : (100 : Int) < n := by omega
  have hnot : ∀ (x : Bool) (w : World), (Op.unary .not (.bool x)).run Try.prog w = .ok (.bool (!x)) w := fun _ _ => rfl
  go_enter Try.func6, Try.ntmps6
  go_wp2_with fail
  with_reducible refine (AW.out _).mono ?_
  rintro q_ w1 ⟨rfl, hb⟩
  have B1 := Lib.hid (vian HN.out BB.out hb)
  clear hb 
  go_wp2_with fail
  with_reducible refine (AW.out _).mono ?_
  rintro q_ w2 ⟨rfl, hb⟩
  have B2 := Lib.hid (vian HN.out B1.out hb)
  clear hb B1
  go_wp2
  go_ret
  exact ⟨rfl, B2.out⟩
set_option maxHeartbeats 4000000 in
theorem plans_some (a : Option Addr) (n c : Nat) (h0 : ¬ 100 < n) (f g : Nat → Int) (hf : ∀ i, 0 ≤ f i ∧ f i < 18446744073709551616) (hg : ∀ i, 0 ≤ g i ∧ g i < 256) (x : Int) (hx : 0 ≤ x) (hx2 : x < 18446744073709551616) (w : World) (hmem : (0 < n → ∃ qb qo, a = some ⟨qb, qo, none⟩ ∧ qb < w.heap.size ∧ ∀ j, j < n → w.cell? ⟨qb, qo + j * 2, none⟩ = some (.int .u64 (f j)) ∧ w.cell? ⟨qb, qo + j * 2 + 1, none⟩ = some (.int .u8 (g j)))) : Calls Try.prog 6 #[.slice a n c, .int .u64 x] w fun q_ w' => q_ = .returned (.bool true) ∧ Below w.heap.size w w' := by
  suffices hall : ∀ (n_ : Nat) (W0 : World), n_ ≤ W0.heap.size → Below n_ W0 w → (0 < n → ∃ qb qo, a = some ⟨qb, qo, none⟩ ∧ qb < n_ ∧ ∀ j, j < n → W0.cell? ⟨qb, qo + j * 2, none⟩ = some (.int .u64 (f j)) ∧ W0.cell? ⟨qb, qo + j * 2 + 1, none⟩ = some (.int .u8 (g j))) → Calls Try.prog 6 #[.slice a n c, .int .u64 x] w fun q_ w' => q_ = .returned (.bool true) ∧ Below n_ W0 w' from hall _ _ (Nat.le_refl _) (Below.refl _ _) hmem
  intro n_ W0 hn hB hI
  have HN := Lib.hid hn
  have BB := Lib.hid hB
  have HIN := Lib.hid hI
  have HF := Lib.hid hf
  have HG := Lib.hid hg
  clear hn hB hI hmem hf hg
  have AW := Lib.hid awake_c
  have h0I : ¬ (100 : Int) < n := by omega
  have hnot : ∀ (x : Bool) (w : World), (Op.unary .not (.bool x)).run Try.prog w = .ok (.bool (!x)) w := fun _ _ => rfl
  go_enter Try.func6, Try.ntmps6
  go_wp2_with fail
  with_reducible refine (AW.out _).mono ?_
  rintro q_ w1 ⟨rfl, hb⟩
  have B1 := Lib.hid (vian HN.out BB.out hb)
  clear hb 
  go_upto_region 4 with (fail)
  have R1 := Lib.hid (World.ownsRow_nil w1 n_ 41 2)
  go_wp2
  go_loopg [5, 17] n (fun g' v i wr => ∃ (t : Nat), t ≤ n ∧ g' + t = n ∧ i = .int .i64 t ∧ wr.ownsRow n_ 41 2 v t (plL f g t) ∧ Below n_ W0 wr)
  case atStart => exact ⟨0, by omega, by omega, rfl, R1.out, B1.out⟩
  case round =>
    obtain ⟨t, ht, hg, rfl, hR, hB⟩ := hrel
    have TG := Lib.hid hg
    have B0 := Lib.hid hB
    have R0 := Lib.hid hR
    clear hg hB hR R1 B1
    by_cases hlt : t < n
    · have l1 : (t : Int) < n := by omega
      have l0 : (0 : Int) ≤ t := by omega
      obtain ⟨qb, qo, rfl, hqb, hcells⟩ := HIN.out (by omega)
      have QQ := Lib.hid hqb
      have E0 := Lib.hid (hcells t hlt).1
      have E1 := Lib.hid (hcells t hlt).2
      have fb := HF.out t
      have gb := HG.out t
      clear hcells hqb
      obtain ⟨v', w2, hrun, ho, hb, _⟩ := app_c R0.out (Nat.le_trans HN.out B0.out.size) (by omega)
      have RUN := Lib.hid hrun
      have O2 := Lib.hid ho
      have B2 := Lib.hid (B0.out.trans hb)
      clear hrun ho hb
      have e0 := (B0.out.cell (p := ⟨qb, qo + t * 2, none⟩) QQ.out).trans E0.out
      have e1 := (B0.out.cell (p := ⟨qb, qo + t * 2 + 1, none⟩) QQ.out).trans E1.out
      go_wp2_with (at_builtin; refine wpList_append_run rfl _ _ _ _ _ _ rfl rfl rfl RUN.out ?_)
      clear e0 e1
      go_wp2
      go_roundg (gk - 1)
      · exact ⟨t + 1, by omega, by have := TG.out; omega, by simp, O2.out, B2.out⟩
      case measure => have := TG.out; omega
    · have et : t = n := by omega
      subst et
      obtain ⟨a2, c2, rfl, hin⟩ := own_in R0.out
      have A1 := Lib.hid (at_c a2 t c2 (by omega) f g HF.out HG.out x hx hx2 wr hin)
      clear hin
      go_wp2_with fail
      with_reducible refine A1.out.mono ?_
      rintro q_ w3 ⟨rfl, hb⟩
      have B3 := Lib.hid (vian HN.out B0.out hb)
      have HI3 := Lib.hid (show (0 < t → ∃ qb qo, a = some ⟨qb, qo, none⟩ ∧ qb < w3.heap.size ∧ ∀ j, j < t → w3.cell? ⟨qb, qo + j * 2, none⟩ = some (.int .u64 (f j)) ∧ w3.cell? ⟨qb, qo + j * 2 + 1, none⟩ = some (.int .u8 (g j))) from fun h => by obtain ⟨qb, qo, e, hq, hc⟩ := HIN.out h; exact ⟨qb, qo, e, Nat.lt_of_lt_of_le hq (Nat.le_trans HN.out B3.out.size), fun j hj => ⟨(B3.out.cell (p := ⟨qb, qo + j * 2, none⟩) hq).trans (hc j hj).1, (B3.out.cell (p := ⟨qb, qo + j * 2 + 1, none⟩) hq).trans (hc j hj).2⟩⟩)
      clear hb
      have A2 := Lib.hid (rat_c a t c (by omega) f g HF.out HG.out x hx hx2 w3 HI3.out)
      go_wp2_with fail
      with_reducible refine A2.out.mono ?_
      rintro q_ w4 ⟨rfl, hb⟩
      have B4 := Lib.hid (vian HN.out B3.out hb)
      clear hb
      go_wp2
      go_ret
      exact ⟨rfl, B4.out⟩
theorem plans_walk (v : Value) (x : Int) (hx : 0 ≤ x) (hx2 : x < 18446744073709551616) (w : World) (ho : ChIn w v) : Calls Try.prog 6 #[v, .int .u64 x] w fun q_ w' => q_ = .returned (.bool true) ∧ Below w.heap.size w w' := by
  obtain ⟨a, n, c, rfl, hm, f, g, hf, hg, hi⟩ := ho
  by_cases h0 : 100 < n
  · exact plans_long a n c h0 x hx hx2 w
  · exact plans_some a n c h0 f g hf hg x hx hx2 w hi
end Go.Proofs.Ytbpfeppgonhclaa
