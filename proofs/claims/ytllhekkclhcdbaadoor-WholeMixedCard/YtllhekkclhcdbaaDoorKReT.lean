/- The reference's 'States'. -/
import Derived.Deep.RegionHeldLaw
import Derived.Test.YtllhekkclhcdbaaDoorKReN
namespace Go.Proofs.YtllhekkclhcdbaaDoor
open Go.RowKit

set_option maxRecDepth 100000 in
set_option maxHeartbeats 2000000 in
theorem rstates_at (w : World) (br gt ct gs gz n gb cb : Nat) (o : Co) (dn : Bool) (h : ReAt w br gt ct gs gz n gb cb o dn) (hpos : 0 < n) (hlim : n ≤ 131072) (hx : ∀ y ∈ o.x, y < 94) :
    Calls Tryd.prog 30 #[.pointer (some ⟨br, 0, none⟩)] w fun e w' => ∃ rv, e = .returned rv ∧ w'.ownsRow 0 5 1 rv n (byteCells o.x) ∧ Fr (fun _ => False) w w' ∧ ∀ g, rv.ownBlock = some g → w.heap.size ≤ g := by
  obtain ⟨i0, hi, hz0, hz1, hz2⟩ := info_parts Tryd.info5
  have HO : Hid (ReAt w br gt ct gs gz n gb cb o dn) := h
  have HX : Hid (∀ y ∈ o.x, y < 94) := hx
  have HCE : Hid (∀ wr, Fr (fun _ => False) w wr → wr.cell? ⟨br, 1, none⟩ = some (.slice (some ⟨gs, 0, none⟩) n n) ∧ wr.cell? ⟨br, 2, none⟩ = some (.slice (some ⟨gz, 0, none⟩) n n) ∧ ∀ k, k < n → wr.cell? ⟨gs, k, none⟩ = some (.int .i64 ((o.x.getD k 0 / 2 : Nat) : Int)) ∧ wr.cell? ⟨gz, k, none⟩ = some (.int .i64 ((o.x.getD k 0 % 2 : Nat) : Int))) := by
    intro wr f
    have hr := HO.out.kept f (fun hh => hh) (fun hh => hh) (fun hh => hh) (fun hh => hh) (fun hh => hh)
    obtain ⟨_, e1, e2, _⟩ := cell_of_nine hr.blk
    refine ⟨e1, e2, fun k hk => ⟨?_, ?_⟩⟩
    · rw [hr.st.cellAt k (by omega), intCells_getD _ k (by rw [List.length_map, hr.len]; exact hk)]
      congr 3
      rw [List.getD_eq_getElem?_getD, List.getD_eq_getElem?_getD, List.getElem?_map]
      cases o.x[k]? <;> rfl
    · rw [hr.bt.cellAt k (by omega), intCells_getD _ k (by rw [List.length_map, hr.len]; exact hk)]
      congr 3
      rw [List.getD_eq_getElem?_getD, List.getD_eq_getElem?_getD, List.getElem?_map]
      cases o.x[k]? <;> rfl
  clear h hx
  go_enter Tryd.func30, Tryd.ntmps30
  go_wp2_with fail
  go_loopw [3, 4] (fun v i wr => ∃ k : Nat, k ≤ n ∧ i = .int .i64 k ∧ wr.ownsRow 0 5 1 v k (byteCells (o.x.take k)) ∧ Fr (fun _ => False) w wr ∧ ∀ g, v.ownBlock = some g → w.heap.size ≤ g) (fun _ i _ => n - (intOf i).toNat)
  case atStart => exact ⟨0, Nat.zero_le _, rfl, ⟨rfl, Or.inl ⟨rfl, rfl⟩⟩, Fr.refl _ _, fun g hg => by simp [Value.ownBlock] at hg⟩
  case round =>
    obtain ⟨k, hk, rfl, hown, hfr, hg⟩ := hrel
    obtain ⟨ao, cp, rfl⟩ := row_slice hown
    obtain ⟨e1, e2, hce⟩ := HCE.out wr hfr
    have HW : Hid (wr.ownsRow 0 5 1 (.slice ao k cp) k (byteCells (o.x.take k))) := hown
    have HF : Hid (Fr (fun _ => False) w wr) := hfr
    have HG : Hid (∀ g, (Value.slice ao k cp).ownBlock = some g → w.heap.size ≤ g) := hg
    clear hown hfr hg
    by_cases hlt : k < n
    · obtain ⟨c1, c2⟩ := hce k hlt
      obtain ⟨y, HY⟩ : ∃ y, Hid (y = o.x.getD k 0) := ⟨_, rfl⟩
      have hy : y < 94 := by rw [HY.out]; exact getD_lt HX.out k
      rw [← HY.out] at c1 c2
      obtain ⟨s, Hs⟩ : ∃ s, Hid (s = y / 2) := ⟨_, rfl⟩
      obtain ⟨z, Hz⟩ : ∃ z, Hid (z = y % 2) := ⟨_, rfl⟩
      rw [← Hs.out] at c1
      rw [← Hz.out] at c2
      have hw1 : IntKind.i64.wrap (2 * (s : Int)) = 2 * (s : Int) := by rw [IntKind.wrap_i64, Hs.out]; omega
      have hw2 : IntKind.i64.wrap (2 * (s : Int) + (z : Int)) = (y : Int) := by rw [IntKind.wrap_i64, Hs.out, Hz.out]; omega
      have hw3 : IntKind.u8.wrap (y : Int) = (y : Int) := by rw [IntKind.wrap_u8']; omega
      have hs47 : s < 47 := by rw [Hs.out]; omega
      have hz2' : z < 2 := by rw [Hz.out]; omega
      have hbr : br < wr.heap.size := World.block_lt_of_cell? wr ⟨br, 1, none⟩ e1
      have HKK : Hid (∀ w', Fr (fun j => (Value.slice ao k cp).ownBlock = some j) wr w' → w'.cell? ⟨br, 1, none⟩ = some (.slice (some ⟨gs, 0, none⟩) n n) ∧ w'.cell? ⟨br, 2, none⟩ = some (.slice (some ⟨gz, 0, none⟩) n n) ∧ w'.cell? ⟨gs, k, none⟩ = some (.int .i64 (s : Int)) ∧ w'.cell? ⟨gz, k, none⟩ = some (.int .i64 (z : Int))) := by
        intro w' f
        have a1 := World.block_lt_of_cell? w ⟨br, 1, none⟩ (cell_of_nine HO.out.blk).2.1
        have a2 := (HO.out.st.lt gs rfl).2
        have a3 := (HO.out.bt.lt gz rfl).2
        refine ⟨f.cell e1 (fun hh => ?_), f.cell e2 (fun hh => ?_), f.cell c1 (fun hh => ?_), f.cell c2 (fun hh => ?_)⟩
        · have := HG.out _ hh; simp at a1; omega
        · have := HG.out _ hh; simp at a1; omega
        · have := HG.out _ hh; omega
        · have := HG.out _ hh; omega
      clear hce
      go_wp2_with fail
      go_region_held_law (fun w' => w'.cell? ⟨br, 1, none⟩ = some (.slice (some ⟨gs, 0, none⟩) n n) ∧ w'.cell? ⟨br, 2, none⟩ = some (.slice (some ⟨gz, 0, none⟩) n n) ∧ w'.cell? ⟨gs, k, none⟩ = some (.int .i64 (s : Int)) ∧ w'.cell? ⟨gz, k, none⟩ = some (.int .i64 (z : Int))) (first | exact HKK.out _ ((Fr.refl _ _).drew) | exact HKK.out _ (((Fr.refl _ _).alloc _).drew) | exact HKK.out _ ((((Fr.refl _ _).alloc _).drew).grown hgrow (fun j hj _ => hj))) ((refine step_append_lies _ (by rfl) _ _ _ (by rfl) 0 5 i0 (.int .u8 0) 1 1 Tryd.underlying24 hi hz0 hz1 hz2 rfl (by decide) (.slice ao k cp) k _ (by rfl) (HW.out.alloc _) ⟨wr.heap.size, 0, none⟩ 1 1 [.int .u8 (y : Int)] (by rfl) rfl (cell_one_new wr _ 5) (by intro u hu; simp at hu; subst hu; rfl) (by decide) (by unfold maxLen; omega) (by omega) (Nat.zero_le _) (wr.heap.size + 1) (by simp) ?_; intro g' cap' w1 hown1 hgrow hat hlt1))
      have HO1 : Hid (w1.ownsRow 0 5 1 (.slice (some ⟨g', 0, none⟩) (k + 1) cap') (k + 1) (byteCells (o.x.take (k + 1)))) := by
        have hl : k < o.x.length := by rw [HO.out.len]; exact hlt
        have e : byteCells (o.x.take (k + 1)) = byteCells (o.x.take k) ++ [.int .u8 (y : Int)] := by
          rw [List.take_succ_eq_append_getElem hl, byteCells_append, HY.out, List.getD_eq_getElem?_getD, List.getElem?_eq_getElem hl]; rfl
        rw [e]; exact hown1
      have HF1 : Hid (Fr (fun _ => False) w w1) := ((HF.out.alloc _).drew).grown hgrow (fun j hj hlt => absurd hlt (by have := HG.out j hj; omega))
      have HG1 : Hid (w.heap.size ≤ g') := by
        have hz := HF.out.size
        rcases hat with e | e
        · exact HG.out g' e
        · show _ ≤ _; omega
      clear hown1 hgrow hat
      go_wp2_with fail
      refine ⟨⟨k + 1, by omega, congrArg (Value.int .i64) (by omega), HO1.out, HF1.out, fun g hg => ?_⟩, by simp [intOf]; omega⟩
      simp [Value.ownBlock] at hg; subst hg; exact HG1.out
    · have hkn : k = n := by omega
      subst hkn
      clear hce
      go_wp2_with fail
      go_ret
      refine ⟨_, rfl, ?_, HF.out, HG.out⟩
      have := HW.out
      rw [List.take_of_length_le (by have := HO.out.len; omega)] at this
      exact this

end Go.Proofs.YtllhekkclhcdbaaDoor
