/- Package context: the closure of 'sliding'. -/
import Derived.Test.YtkggdnkmaldmlabKAt
import Derived.Deep.RegionWith
import Derived.Deep.Cut
import Derived.Deep.Light
import Derived.Deep.CutRange
namespace Go.Proofs.Ytkggdnkmaldmlab
open Go.RowKit

/-- What the closure captures: behind `j` calls. -/
structure Sl (w : World) (bw br bn bm : Nat) (v' : Value) (F : Int) (c j g : Nat) : Prop where
  win : w.heap[bw]? = some (.cells #[.int .i64 g] 3 (0, 0))
  row : w.heap[br]? = some (.cells #[v'] 22 (0, 0))
  nxt : w.heap[bn]? = some (.cells #[.int .i64 (F + j)] 3 (0, 0))
  msk : w.heap[bm]? = some (.cells #[.int .i64 (2 ^ c - 1 : Nat)] 3 (0, 0))
  wn : bw ≠ bn
  wm : bw ≠ bm
  nm : bn ≠ bm

set_option maxRecDepth 100000 in
set_option maxHeartbeats 40000000 in
theorem slide_any (w : World) (bw br bn bm : Nat) (v' : Value) (F : Int) (c j g : Nat) (l : List Nat) (hs : Sl w bw br bn bm v' F c j g) (hv : Seen w v' l) (hl : l.length ≤ 1048576) (hlt : ∀ j : Nat, l[j]?.getD 0 < 18446744073709551616)
    (hF : -1000 ≤ F ∧ F ≤ 1000) (hj : j ≤ 4194304) (hc : c ≤ 20) (hg : g < 2 ^ c) :
    Calls Try.prog 58 #[.pointer (some ⟨bw, 0, none⟩), .pointer (some ⟨br, 0, none⟩), .pointer (some ⟨bn, 0, none⟩), .pointer (some ⟨bm, 0, none⟩)] w fun e w' => e = .returned (.int .i64 ((2 * g + rowpix l (F + j)) % 2 ^ c : Nat)) ∧ Sl w' bw br bn bm v' F c (j + 1) ((2 * g + rowpix l (F + j)) % 2 ^ c) ∧ Fr (fun k => k = bw ∨ k = bn) w w' := by
  have HPX : Hid (∀ w', w' = w ∨ w' = w.drew → Calls Try.prog 56 #[v', .int .i64 (F + j)] w' fun e w'' => e = .returned (.int .i64 (rowpix l (F + j) : Nat)) ∧ w'' = w') := fun w' h => by
    rcases h with rfl | rfl
    · exact pixelOf_any v' l (F + j) _ hv hl hlt (by omega)
    · exact pixelOf_any v' l (F + j) _ (hv.kept (Fr.refl (fun _ => False) w).drew) hl hlt (by omega)
  have hpl := rowpix_le l (F + j)
  have hp : 2 ^ c ≤ 2 ^ 20 := Nat.pow_le_pow_right (by omega) hc
  generalize rowpix l (F + j) = p at *
  obtain ⟨q, HQ⟩ : ∃ q, Hid (q = (2 * g + p) % 2 ^ c) := ⟨_, rfl⟩
  have h1 : bits .or .i64 ((g : Int) * 2) (p : Int) = ((2 * g + p : Nat) : Int) := bor64_one g p (by omega) hpl
  have h2 : bits .and .i64 ((2 * g + p : Nat) : Int) ((2 ^ c - 1 : Nat) : Int) = (q : Int) := by rw [HQ.out]; exact band64 _ c (by omega) (by omega)
  have hw1 : IntKind.i64.wrap ((g : Int) * 2) = (g : Int) * 2 := by rw [IntKind.wrap_i64]; omega
  have hw2 : IntKind.i64.wrap (F + (j : Int) + 1) = F + (j : Int) + 1 := by rw [IntKind.wrap_i64]; omega
  rw [← HQ.out]
  have k0 := cell_of_one hs.win
  have k1 := cell_of_one hs.row
  have k2 := cell_of_one hs.nxt
  have k3 := cell_of_one hs.msk
  have z0 := free_of_one hs.win
  have z2 := free_of_one hs.nxt
  have HS : Hid (Sl w bw br bn bm v' F c j g) := hs
  generalize (2 ^ c - 1 : Nat) = M at *
  generalize (2 * g + p : Nat) = N at *
  obtain ⟨ao, cap, rfl, _, _⟩ := hv
  have hwn := hs.wn
  have hwm := hs.wm
  have hnm := hs.nm
  clear hs hp hpl hlt hj hc hF hg
  have hrw : br ≠ bw := fun e => by have h1 := HS.out.row; have h2 := HS.out.win; rw [e, h2] at h1; simp at h1
  have hrn : br ≠ bn := fun e => by have h1 := HS.out.row; have h2 := HS.out.nxt; rw [e, h2] at h1; simp at h1
  have m0 : (w.setCell ⟨bw, 0, none⟩ (.int .i64 (q : Int))).heap[bn]? = some (.cells #[.int .i64 (F + j)] 3 (0, 0)) := by rw [heap_setCell_other _ _ _ _ hwn.symm]; exact HS.out.nxt
  have m1 := cell_of_one m0
  have m2 := free_of_one m0
  have m3 : ((w.setCell ⟨bw, 0, none⟩ (.int .i64 (q : Int))).setCell ⟨bn, 0, none⟩ (.int .i64 (F + (j : Int) + 1))).heap[bw]? = some (.cells #[.int .i64 (q : Int)] 3 (0, 0)) := by rw [heap_setCell_other _ _ _ _ hwn]; exact one_setCell HS.out.win
  have m4 := cell_of_one m3
  have HE : Hid (Sl ((w.setCell ⟨bw, 0, none⟩ (.int .i64 (q : Int))).setCell ⟨bn, 0, none⟩ (.int .i64 (F + (j : Int) + 1))).drew bw br bn bm (.slice ao l.length cap) F c (j + 1) q) := by
    refine ⟨m3, ?_, ?_, ?_, hwn, hwm, hnm⟩
    · rw [heap_drew, heap_setCell_other _ _ _ _ hrn, heap_setCell_other _ _ _ _ hrw]; exact HS.out.row
    · rw [heap_drew, one_setCell m0, show F + (j : Int) + 1 = F + ((j + 1 : Nat) : Int) by omega]
    · rw [heap_drew, heap_setCell_other _ _ _ _ hnm.symm, heap_setCell_other _ _ _ _ hwm.symm]; exact HS.out.msk
  have HFR : Hid (Fr (fun k => k = bw ∨ k = bn) w ((w.setCell ⟨bw, 0, none⟩ (.int .i64 (q : Int))).setCell ⟨bn, 0, none⟩ (.int .i64 (F + (j : Int) + 1))).drew) := ((((Fr.refl _ _).setCell (p := ⟨bw, 0, none⟩) (fun _ => Or.inl rfl) _).setCell (p := ⟨bn, 0, none⟩) (fun _ => Or.inr rfl) _)).drew
  clear m0 m3
  go_enter Try.func58, Try.ntmps58
  go_upto_region 1 with (fail)
  go_cut [4] from 5 to 12 (fun u wc => u = .int .i64 0 ∧ wc = (w.setCell ⟨bw, 0, none⟩ (.int .i64 (q : Int))).drew)
  case first =>
    go_region_with (first | (go_at_call 56; refine (HPX.out _ (by first | exact Or.inl rfl | exact Or.inr rfl)).mono ?_; rintro e w4 ⟨rfl, rfl⟩))
    all_goals go_wp2_with fail
    all_goals go_meet
    all_goals go_light
    all_goals exact ⟨rfl, rfl⟩
  case rest =>
    obtain ⟨rfl, hwc⟩ := hcut
    subst hwc
    clear h1 h2 hw1 k0 k1 k3 z0
    go_wp2_with fail
    go_ret
    exact ⟨rfl, HE.out, HFR.out⟩

end Go.Proofs.Ytkggdnkmaldmlab
