/- 'MeasureBitmaps' returns true, whatever it is given, and leaves its argument as it was. No condition but the card's own: the table of 'TrailingZeros64' lies as the program's text lays it. -/
import Derived.Test.YtnfmcdhllplgmaaDoorMw
import Derived.Test.YtnfmcdhllplgmaaDoorTie
import Derived.Test.YtnfmcdhllplgmaaDoorCards
import Derived.LaidMore
import Derived.Stop.Joined
import Derived.SevenTiedAt
import Derived.ProofKit
import Derived.OpenShut
import Derived.ChangeOld
import Derived.Lib.SmallJoins
import Derived.Deep.Slices
import Derived.Deep.Strs
namespace Go.Proofs.YtnfmcdhllplgmaaDoor
open Go.ChangeShapes Go.WideShapes Go.ChangeAt Go.RowKit

theorem gTab : Tryd.prog.globalNamed "math/bits.deBruijn64tab" = some 1 := by kernel_rfl
theorem tTab : (Tryd.prog.globals[1]?).map (·.type) = some 61 := by kernel_rfl
def tabL : List Nat := [0, 1, 56, 2, 57, 49, 28, 3, 61, 58, 42, 50, 38, 29, 17, 4, 62, 47, 59, 36, 45, 43, 51, 22, 53, 39, 33, 30, 24, 18, 12, 5, 63, 55, 48, 27, 60, 41, 37, 16, 46, 35, 44, 21, 52, 32, 23, 11, 54, 26, 40, 15, 34, 20, 31, 10, 25, 14, 19, 9, 13, 8, 7, 6]
theorem laid_tab : (Rows.laid_math_bits_deBruijn64tab : DataW Unit) = .agg (tabL.map fun (k : Nat) => .lit (.int .u8 (k : Int))) := rfl
theorem tab_ok : ∀ t, t < 64 → tabL[tabAt t]? = some t := by decide +kernel
theorem Tryd.cells5 : Tryd.prog.cellsOf 5 = 1 := by kernel_rfl

theorem of_laid {W : World} (h : laidMetH Tryd.prog Rows.measureBitmapsRow.laid W) : Tab W ∧ 1 < W.heap.size := by
  rw [MakeChecks.laidMetH_plain _ _ _ (by kernel_rfl)] at h
  obtain ⟨ps, ⟨g0, t0, cs0, f0, p0, q0, hg0, ht0, hv0, hd0, _, _⟩, _, _⟩ := h
  obtain rfl := Option.some.inj (gTab.symm.trans hg0)
  obtain rfl := Option.some.inj (tTab.symm.trans ht0)
  obtain ⟨xs, m1, h1, h2, h3, h4, hel⟩ := DataW.trod_array Tryd.underlying61 hd0
  have hcell : ∀ j : Nat, W.cell? ⟨1, j, none⟩ = cs0[j]? := fun j => World.var?_cell hg0 hv0 j
  have hmap : xs.map (fun x => x.fst) = tabL.map fun (k : Nat) => DataW.lit (.int .u8 (k : Int)) := by
    have := congrArg Prod.fst h2
    rw [laid_tab] at this
    simp only [DataW.agg.injEq] at this
    exact this.symm
  have key : ∀ i, i < 64 → ∀ k : Nat, tabL[i]? = some k → W.cell? ⟨1, i, none⟩ = some (.int .u8 (k : Int)) := by
    intro i hi k hk
    have hx := List.getElem?_eq_getElem (l := xs) (i := i) (by omega)
    have h5 := hel i hi
    rw [hx, Tryd.cells5, Nat.mul_one] at h5
    obtain ⟨k', e1, e2, _⟩ := DataW.trod_int Tryd.underlying5 h5
    have h6 := congrArg (fun l => l[i]?) hmap
    simp only [List.getElem?_map, hx, hk, Option.map_some, Option.some.injEq] at h6
    rw [e2] at h6
    simp at h6
    have h7 : cs0.toList[i]? = some (.int .u8 k') := by
      have := congrArg (fun l => l[0]?) e1
      simpa [List.getElem?_take, List.getElem?_drop] using this
    rw [hcell i, ← Array.getElem?_toList, h7, h6]
  refine ⟨fun t ht => key _ (tabAt_lt t) t (tab_ok t ht), ?_⟩
  have := key 0 (by omega) 0 rfl
  exact World.block_lt_of_cell? W ⟨1, 0, none⟩ this

theorem door_met (os : Os) (args : Array Value) : laidMetH Tryd.prog Rows.measureBitmapsRow.laid ((World.doorLaid Tryd.prog 400 os).forCall (fun _ _ => 0) ⟨#[], args, []⟩).memory :=
  laidMetH_of_parts3 (fuel := 8) (laidMet_of_run' 8 (by kernel_rfl) (by kernel_rfl)) (by kernel_rfl) (by kernel_rfl)

set_option maxRecDepth 100000 in
theorem measureBitmaps_lifted (os : Os) (started : os.Started) (H : Type) (enc : TypeId × Value → H) :
    ReturnsInHanded {} Tryd.checked os 3 .any (fun w args => (Rows.measureBitmapsSpec.pre enc Tryd.prog Tryd.f3 [] false w args ∧ laidMetH Tryd.prog Rows.measureBitmapsRow.laid w) ∧ sizedMet enc Tryd.prog Tryd.f3 (OpenSpec.ofChange Rows.measureBitmapsSpec) false w args)
      (Rows.measureBitmapsSpec.post enc Tryd.prog Tryd.f3 false true false false) := by
  refine returnsInHanded_of_change_and (C := Tryd.checked) (X := fun w _ => laidMetH Tryd.prog Rows.measureBitmapsRow.laid w) (fun _ _ _ hh h => h.of_heap hh) Tryd.own started (by kernel_rfl) Tryd.func3
    (ChangeSpec.witness_shaped (enc := enc) (C := Tryd.checked) (os := os) (X := fun w _ => laidMetH Tryd.prog Rows.measureBitmapsRow.laid w) false (World.doorLaid Tryd.prog 400 os) #[.slice none 0 0] 8 rfl (World.shaped_of_RefB (by kernel_rfl) (by kernel_rfl)) (by kernel_rfl) (by kernel_rfl) (by kernel_rfl) (door_met os _)) ?_
  intro W base args ds gs before hval0 hW _ _ hL _
  have hval : ∀ (j : Nat) t v, Tryd.f3.params[j]? = some t → args[j]? = some v → Value.okWide Tryd.prog W .any base t v := hval0
  have hW' := hW
  obtain ⟨p, q, hA0, hV, rfl, hfz, hnd⟩ := hW
  have hA : DataW.TrodAll enc Tryd.prog W 0 (fun _ => true) true Tryd.f3.params.toList args.toList ds p := hA0
  rw [Tryd.params3] at hA hval
  obtain ⟨v0, vs0, d0, ds0, p0, q0, hargs, rfl, rfl, h0, r0⟩ := trodAll_cons hA
  obtain ⟨rfl, rfl, rfl⟩ := trodAll_nil r0
  obtain rfl : args = #[v0] := by cases args; simp_all
  obtain ⟨rfl, rfl⟩ := trodVars_none hV
  have k0 := h0
  have lt0 : ∀ x ∈ p0, x.block < W.heap.size := by obtain ⟨m, hm⟩ := k0; exact DataW.trod_lt m _ _ _ hm
  obtain ⟨ao, n, cp, A, rfl, a1⟩ := open_bps (hval 0 22 v0 rfl rfl) h0
  obtain ⟨hTab, hpos⟩ := of_laid hL
  clear hA0 hval0
  refine (bitmapsLaw_any ao n cp A W a1 hTab hpos).mono fun e W' ⟨he, fr⟩ => ?_
  subst he
  have bel : Below W.heap.size W W' := fr.below (Nat.le_refl _) (fun _ _ hh => hh)
  exact ⟨_, rfl, _, _, _, [], _, [], hW', trodAll_mk1 (shut_bool Tryd.underlying4 _), (trodAll_cons_mk (Below.trod Tryd.laidOut (by kernel_rfl) (of_decide_eq_true (by kernel_rfl)) k0 bel lt0) trodAll_mk0), rfl, bel.frame _, fun h => by cases h⟩

theorem measureBitmaps_holds : Rows.MeasureBitmapsSaid :=
  OpenClaim.holds_of_wide 3 Tryd.f3 rfl rfl rfl rfl rfl rfl rfl ⟨rfl, rfl, rfl, rfl, rfl⟩ rfl rfl rfl rfl rfl (by kernel_rfl) Tryd.func3 (by kernel_rfl)
    (of_decide_eq_true (by kernel_rfl)) (by unfold Func.isWrapper; first | (rw [if_pos (by decide +kernel)]; kernel_rfl) | (rw [if_neg (by decide +kernel)]; exact ⟨rfl, rfl⟩))
    (fun os started H enc _ => measureBitmaps_lifted os started H enc)

theorem measureBitmaps_card_holds : Rows.MeasureBitmapsCardSaid :=
  Claim7.holds_tied_plain_at .later [] [.data] true (true, "e59f61b10a1c211d30d558bee14327b4f1517414bdf9017543c183b0cafb4a83") false
    measureBitmaps_holds (fun _ h => by cases h) (by kernel_rfl) (fun _ h => by cases h) measureBitmaps_row_tie rfl ⟨rfl, rfl⟩ (by kernel_rfl) rfl
    (fun f fn hf hfn => by
      obtain rfl : f = 3 := Option.some.inj ((show Tryd.prog.funcNamed "burin/burinlaw11.MeasureBitmaps" = some 3 by kernel_rfl).symm.trans hf) |>.symm
      obtain rfl : fn = Tryd.f3 := (Option.some.inj (Tryd.func3.symm.trans hfn)).symm
      exact ⟨by kernel_rfl, fun j t ht => by
        rw [Tryd.params3] at ht
        have hm : t ∈ [22] := by simpa using Array.mem_of_getElem? ht
        have hall : ([22].all fun u => !Tryd.prog.wantsStandIn u) = true := by kernel_rfl
        exact (show Tryd.prog.wantsStandIn t = false by simpa using List.all_eq_true.1 hall t hm)⟩)
    (by kernel_rfl)

end Go.Proofs.YtnfmcdhllplgmaaDoor
