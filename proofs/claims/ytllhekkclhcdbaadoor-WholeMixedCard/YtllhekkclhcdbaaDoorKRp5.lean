/- The document's own answer of whole: Put. -/
import Derived.Test.YtllhekkclhcdbaaDoorKRb5
import Derived.Test.YtllhekkclhcdbaaDoorKReP
import Derived.Test.YtllhekkclhcdbaaDoorKWhM
import Derived.Test.YtllhekkclhcdbaaDoorKEn
namespace Go.Proofs.YtllhekkclhcdbaaDoor
open Go.RowKit

theorem decs_take (base size : Nat) (l : List Nat) (v k : Nat) (h : k < l.length) : decs base size v (l.take (k + 1)) = decs base size v (l.take k) ++ [(((base + vEnd size v (l.take k) : Nat) : Int), l.getD k 0)] := by
  rw [List.take_succ_eq_append_getElem h, decs_cat, List.getD_eq_getElem?_getD, List.getElem?_eq_getElem h]
  rfl
theorem vEnd_take (size : Nat) (l : List Nat) (v k : Nat) (h : k < l.length) : vEnd size v (l.take (k + 1)) = passP size (vEnd size v (l.take k)) (l.getD k 0) := by
  rw [List.take_succ_eq_append_getElem h, vEnd_snoc, List.getD_eq_getElem?_getD, List.getElem?_eq_getElem h]
  rfl

set_option maxRecDepth 100000 in
set_option maxHeartbeats 4000000 in
theorem rput5_ok (w : World) (br gt ct gs gz n gb cb : Nat) (o : Co) (base : Nat) (v : Int) (nn : Bool) (h : ReAt w br gt ct gs gz n gb cb o false) (hok : Ook o) (hm : o.made + 38 ≤ 16777216) (hbase : base ≤ 131072) (hmay : mayP v nn = true) :
    Calls Tryd.prog 26 #[.pointer (some ⟨br, 0, none⟩), .int .i64 (base : Int), .agg #[.int .i64 v, .bool nn]] w fun e w' => e = .returned (.int .i64 0) ∧ ∃ gb' cb', ReAt w' br gt ct gs gz n gb' cb' (runL o (decs base 512 1 (numBits v nn))) false ∧ RStep br gs gz gb gb' w w' := by
  have HB : Hid (∀ w', Calls Tryd.prog 48 #[.agg #[.int .i64 v, .bool nn]] w' fun e w'' => ∃ g c, e = .returned (.slice (some ⟨g, 0, none⟩) (numBits v nn).length c) ∧ w''.ownsRow 0 3 1 (.slice (some ⟨g, 0, none⟩) (numBits v nn).length c) (numBits v nn).length (intCells (numBits v nn)) ∧ Fr (fun _ => False) w' w'' ∧ w'.heap.size ≤ g) := fun w' => bits5_at w' v nn hmay
  have HLen : Hid ((numBits v nn).length ≤ 38) := by show _ ≤ _; rw [numBits_len]; exact numLen_le _
  have HLt : Hid (∀ k, (numBits v nn).getD k 0 < 2) := fun k => by
    show _ < _
    rw [List.getD_eq_getElem?_getD]
    by_cases hk : k < (numBits v nn).length
    · rw [List.getElem?_eq_getElem hk]
      exact hiBits_lt _ _ _ (List.getElem_mem hk)
    · rw [List.getElem?_eq_none (by omega)]; decide
  generalize numBits v nn = L at *
  have HOk : Hid (∀ k, k ≤ L.length → Ook (runL o (decs base 512 1 (L.take k))) ∧ (runL o (decs base 512 1 (L.take k))).made = o.made + k) := fun k hk => by
    have hl := HLen.out
    obtain ⟨a, b, _⟩ := runL_ok hok (decs base 512 1 (L.take k)) (by rw [decs_len, List.length_take]; omega)
    rw [decs_len, List.length_take, Nat.min_eq_left hk] at b
    exact ⟨a, b⟩
  have HV : Hid (∀ k, vEnd 512 1 (L.take k) < 512) := fun k => vEnd_lt (by decide) (by decide) _ _ (by decide)
  have HPu : Hid (∀ (w' : World) (gb' cb' k : Nat) (ii : Int), k < L.length → ii = ((base + vEnd 512 1 (L.take k) : Nat) : Int) → ReAt w' br gt ct gs gz n gb' cb' (runL o (decs base 512 1 (L.take k))) false → Calls Tryd.prog 46 #[.pointer (some ⟨br, 0, none⟩), .int .i64 ii, .int .i64 (L.getD k 0 : Nat)] w' fun e w'' => e = .returned (.int .i64 0) ∧ ∃ gb2 cb2, ReAt w'' br gt ct gs gz n gb2 cb2 (runL o (decs base 512 1 (L.take (k + 1)))) false ∧ RStep br gs gz gb' gb2 w' w'') := fun w' gb' cb' k ii hk e hr => by
    obtain ⟨a1, a2⟩ := HOk.out k (by omega)
    rw [decs_take base 512 L 1 k hk, runL_snoc, e]
    exact rput_any w' br gt ct gs gz n gb' cb' _ hr a1 (by have := HLen.out; omega) _ (by have := HV.out k; omega) _ (HLt.out k)
  have HR0 : Hid (ReAt w br gt ct gs gz n gb cb o false) := h
  have HLt0 : Hid (br < w.heap.size ∧ gt < w.heap.size ∧ gs < w.heap.size ∧ gz < w.heap.size ∧ gb < w.heap.size) := ⟨h.lt, (h.tab.lt gt rfl).2, (h.st.lt gs rfl).2, (h.bt.lt gz rfl).2, (h.bs.lt gb rfl).2⟩
  have HA : Hid (Fr (fun _ => False) w (w.alloc (.cells #[.int .i64 v, .bool nn] 46))) := (Fr.refl _ _).alloc _
  clear h hok hm hmay
  obtain ⟨NL, HNL⟩ : ∃ NL, Hid (NL = L.length) := ⟨_, rfl⟩
  rw [← HNL.out] at HB HLen
  go_enter Tryd.func26, Tryd.ntmps26
  go_wp2_with fail
  refine (HB.out _).mono ?_
  rintro e w1 ⟨gl, cl, rfl, hrow, hf1, hg1⟩
  have HF1 : Hid (Fr (fun _ => False) w w1) := HA.out.trans hf1 (fun _ _ h => h)
  have HG1 : Hid (w.heap.size ≤ gl ∧ gl < w1.heap.size) := ⟨by have := HA.out.size; omega, (hrow.lt gl rfl).2⟩
  have HRow : Hid (w1.ownsRow 0 3 1 (.slice (some ⟨gl, 0, none⟩) NL cl) NL (intCells L)) := hrow
  clear hrow hf1 hg1
  have HC : Hid (∀ (w' : World) (gb' k : Nat), RStep br gs gz gb gb' w1 w' → k < NL → w'.cell? ⟨gl, k, none⟩ = some (.int .i64 (L.getD k 0 : Nat))) := fun w' gb' k hs hk => by
    have hl := HLt0.out
    have hg := HG1.out
    have hr := row_kept1 HRow.out hs.fr (by omega)
    rw [hr.cellAt k (by omega), intCells_getD _ k (by have := HNL.out; omega)]
  have hnl := HLen.out
  go_wp2_with fail
  go_loopw [8, 9, 10] (fun vv i _ wr => ∃ (k gb' cb' : Nat), k ≤ NL ∧ i = .int .i64 k ∧ vv = .int .i64 (vEnd 512 1 (L.take k) : Nat) ∧ ReAt wr br gt ct gs gz n gb' cb' (runL o (decs base 512 1 (L.take k))) false ∧ RStep br gs gz gb gb' w1 wr) (fun _ i _ _ => NL - (intOf i).toNat)
  case atStart => exact ⟨0, gb, cb, Nat.zero_le _, rfl, rfl, HR0.out.kept HF1.out (fun h => h) (fun h => h) (fun h => h) (fun h => h) (fun h => h), RStep.of_fr (Fr.refl _ _)⟩
  case round =>
    obtain ⟨k, gb', cb', hk, rfl, rfl, hre, hst⟩ := hrel
    have HRe : Hid (ReAt wr br gt ct gs gz n gb' cb' (runL o (decs base 512 1 (L.take k))) false) := hre
    have HS : Hid (RStep br gs gz gb gb' w1 wr) := hst
    clear hre hst
    by_cases hlt : k < NL
    · have hda : decide (k < NL) = true := decide_eq_true hlt
      have cK := HC.out _ _ k HS.out hlt
      have HPx : Hid (∀ (ii : Int), ii = ((base + vEnd 512 1 (L.take k) : Nat) : Int) → Calls Tryd.prog 46 #[.pointer (some ⟨br, 0, none⟩), .int .i64 ii, .int .i64 (L.getD k 0 : Nat)] wr fun e w'' => e = .returned (.int .i64 0) ∧ ∃ gb2 cb2, ReAt w'' br gt ct gs gz n gb2 cb2 (runL o (decs base 512 1 (L.take (k + 1)))) false ∧ RStep br gs gz gb' gb2 wr w'') := fun ii e => HPu.out wr gb' cb' k ii (by have := HNL.out; omega) e HRe.out
      have HNv : Hid (vEnd 512 1 (L.take (k + 1)) = passP 512 (vEnd 512 1 (L.take k)) (L.getD k 0)) := vEnd_take 512 L 1 k (by have := HNL.out; omega)
      have hvl := HV.out k
      have hbl := HLt.out k
      have HCx : Hid (∀ (w' : World) (g3 : Nat), RStep br gs gz gb g3 w1 w' → w'.cell? ⟨gl, k, none⟩ = some (.int .i64 (L.getD k 0 : Nat))) := fun w' g3 hs => HC.out w' g3 k hs hlt
      generalize vEnd 512 1 (L.take k) = vv at *
      generalize L.getD k 0 = bb at *
      have HNx : Hid (∀ w', Calls Tryd.prog 49 #[.int .i64 (vv : Int), .int .i64 (bb : Int)] w' fun e w'' => e = .returned (.int .i64 (passP 512 vv bb : Nat)) ∧ w'' = w') := fun w' => next5_at w' vv bb hvl hbl
      have hw9 : IntKind.i64.wrap ((base : Int) + (vv : Int)) = (base : Int) + (vv : Int) := by rw [IntKind.wrap_i64]; omega
      have hk0 : (0 : Int) ≤ (k : Int) := by omega
      have hkn : (k : Int) < (NL : Int) := by omega
      go_wp2_with fail
      refine (HPx.out _ (by omega)).mono ?_
      rintro e w4 ⟨rfl, gb2, cb2, hr4, hs4⟩
      have H4 : Hid (ReAt w4 br gt ct gs gz n gb2 cb2 (runL o (decs base 512 1 (L.take (k + 1)))) false ∧ RStep br gs gz gb gb2 w1 w4) := ⟨hr4, HS.out.trans hs4⟩
      clear hr4 hs4 cK
      have cK := HCx.out _ _ H4.out.2
      go_wp2_with fail
      refine (HNx.out _).mono ?_
      rintro e w5 ⟨rfl, hw5⟩
      obtain rfl := hw5.symm
      go_wp2_with fail
      exact ⟨⟨k + 1, gb2, cb2, by omega, by rw [Int.natCast_add]; rfl, by rw [HNv.out], H4.out.1, H4.out.2⟩, by simp only [intOf]; omega⟩
    · obtain rfl : k = NL := by omega
      have hda : decide (k < k) = false := decide_eq_false (by omega)
      go_wp2_with fail
      go_ret
      have hr := HRe.out
      rw [List.take_of_length_le (by have := HNL.out; omega)] at hr
      refine ⟨rfl, gb', cb', hr, (HF1.out.mono (fun _ _ h => h.elim)).trans HS.out.fr (fun _ _ h => h), ?_⟩
      have hsz := HF1.out.size
      rcases HS.out.row with a | a
      · exact Or.inl a
      · exact Or.inr (by omega)

end Go.Proofs.YtllhekkclhcdbaaDoor
