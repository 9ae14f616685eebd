/- 'Var' of a writer: all groups, or nothing. -/
import Derived.Test.YtamonbkhpbdojaaDoorCut
import Derived.Defers
import Derived.Recover
namespace Go.Proofs.YtamonbkhpbdojaaDoor
set_option maxRecDepth 100000
open Go.RowKit

set_option maxRecDepth 100000 in
set_option maxHeartbeats 1000000 in
theorem var1_fits (bw b0 b1 : Nat) (v : Value) (most : Nat) (bs : List Bool) (n : Nat) (w : World) (h : WAt w bw v most bs) (hn : n < 18446744073709551616) (hf : bs.length + (varBits n).length ≤ 8 * most)
    (h0 : w.cell? ⟨b0, 0, none⟩ = some (.pointer (some ⟨bw, 0, none⟩))) (h1 : w.cell? ⟨b1, 0, none⟩ = some (.int .u64 n)) :
    Calls Tryd.prog 50 #[.pointer (some ⟨b0, 0, none⟩), .pointer (some ⟨b1, 0, none⟩)] w fun e w' => e = .returned (.int .i64 0) ∧ ∃ v', WAt w' bw v' most (bs ++ varBits n) ∧ WStep bw v v' w w' := by
  have HN : Hid (n < 18446744073709551616) := hn
  have HF : Hid (bs.length + (varBits n).length ≤ 8 * most) := hf
  clear hn hf
  go_enter Tryd.func50, Tryd.ntmps50
  go_wp2_with fail
  refine (layGroups_fits bw v most bs n _ h HN.out HF.out).mono ?_
  rintro e w1 ⟨rfl, v', hat, hst⟩
  go_wp2_with fail
  go_ret
  exact ⟨rfl, v', hat, hst⟩

set_option maxRecDepth 100000 in
set_option maxHeartbeats 1000000 in
theorem var1_full (bw b0 b1 : Nat) (v : Value) (most : Nat) (bs : List Bool) (n : Nat) (w : World) (h : WAt w bw v most bs) (hn : n < 18446744073709551616) (hf : 8 * most < bs.length + (varBits n).length)
    (h0 : w.cell? ⟨b0, 0, none⟩ = some (.pointer (some ⟨bw, 0, none⟩))) (h1 : w.cell? ⟨b1, 0, none⟩ = some (.int .u64 n)) :
    Calls Tryd.prog 50 #[.pointer (some ⟨b0, 0, none⟩), .pointer (some ⟨b1, 0, none⟩)] w fun e w' => e = .returned (.int .i64 13) ∧ ∃ v' ext, WAt w' bw v' most (bs ++ ext) ∧ WStep bw v v' w w' := by
  have HN : Hid (n < 18446744073709551616) := hn
  have HF : Hid (8 * most < bs.length + (varBits n).length) := hf
  clear hn hf
  go_enter Tryd.func50, Tryd.ntmps50
  go_wp2_with fail
  refine (layGroups_full bw v most bs n _ h HN.out HF.out).mono ?_
  rintro e w1 ⟨rfl, v', ext, hat, hst⟩
  go_wp2_with fail
  go_ret
  exact ⟨rfl, v', ext, hat, hst⟩

set_option maxRecDepth 100000 in
set_option maxHeartbeats 1000000 in
theorem back1_ok (pe pw ps : Nat) (u : FrameMode) (w : World) (h0 : w.cell? ⟨pe, 0, none⟩ = some (.int .i64 0)) :
    CallsD Tryd.prog 61 #[.pointer (some ⟨pe, 0, none⟩), .pointer (some ⟨pw, 0, none⟩), .pointer (some ⟨ps, 0, none⟩)] u w fun e u' w' => u' = u ∧ (e = .returned (.tuple #[]) ∧ w' = w) := by
  go_enter_d Tryd.func61, Tryd.ntmps61
  go_wp2
  go_end0
  exact ⟨rfl, rfl⟩

set_option maxRecDepth 100000 in
set_option maxHeartbeats 1000000 in
theorem back1_cut (pe pw ps bw : Nat) (v : Value) (most : Nat) (bs ext : List Bool) (u : FrameMode) (w : World) (h : WAt w bw v most (bs ++ ext)) (h0 : w.cell? ⟨pe, 0, none⟩ = some (.int .i64 13))
    (h1 : w.cell? ⟨pw, 0, none⟩ = some (.pointer (some ⟨bw, 0, none⟩))) (h2 : w.cell? ⟨ps, 0, none⟩ = some (.int .i64 bs.length)) :
    CallsD Tryd.prog 61 #[.pointer (some ⟨pe, 0, none⟩), .pointer (some ⟨pw, 0, none⟩), .pointer (some ⟨ps, 0, none⟩)] u w fun e u' w' => u' = u ∧ (e = .returned (.tuple #[]) ∧ ∃ v', WAt w' bw v' most bs ∧ WStep bw v v' w w') := by
  go_enter_d Tryd.func61, Tryd.ntmps61
  go_wp2_with fail
  refine (cut_any bw v most bs ext _ h).mono ?_
  rintro e w1 ⟨rfl, v', hat, hst⟩
  go_wp2_with fail
  go_end0
  exact ⟨rfl, v', hat, hst⟩

end Go.Proofs.YtamonbkhpbdojaaDoor
