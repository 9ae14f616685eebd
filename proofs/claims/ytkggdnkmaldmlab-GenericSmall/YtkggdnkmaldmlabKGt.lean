/- Package generic: Get, of what may be. -/
import Derived.Test.YtkggdnkmaldmlabKNp
import Derived.Test.YtkggdnkmaldmlabKThd
import Derived.Test.YtkggdnkmaldmlabKCp
namespace Go.Proofs.Ytkggdnkmaldmlab
open Go.RowKit

/-- What a decoder gets. -/
def gotW (B : List Nat) (base t W : Nat) (skip : Bool) (H : Nat) (d : De) : De × Pxs := thrW (askD B) base t W skip H (d, fun _ _ => false)

set_option maxRecDepth 100000 in
set_option maxHeartbeats 4000000 in
theorem gget_ok (bd gc cc : Nat) (vb : Value) (B : List Nat) (d : De) (base t W H : Nat) (skip : Bool) (w : World) (hd : DeAt w bd gc cc vb B d) (hok : Eok B d) (h1 : 1 ≤ W) (h2 : 1 ≤ H) (h3 : W * H ≤ 1048576) (ht : t < 4) (hbase : base + sizeT t + 1 ≤ d.x.length) (hm : d.made + H * (W + 1) ≤ 16777216) :
    Calls Try.prog 9 #[.pointer (some ⟨bd, 0, none⟩), .int .i64 base, .int .i64 W, .int .i64 H, .int .i64 t, .bool skip] w fun e w' => ∃ g cap, e = .returned (.tuple #[.agg #[.int .i64 W, .int .i64 H, .slice (some ⟨g, 0, none⟩) (H * stride W) cap], .int .i64 0]) ∧ RowAt w' g cap W H (gotW B base t W skip H d).2 ∧ w.heap.size ≤ g ∧ DeAt w' bd gc cc vb B (gotW B base t W skip H d).1 ∧ Eok B (gotW B base t W skip H d).1 ∧ Fr (fun k => k = bd ∨ k = gc ∨ vb.ownBlock = some k) w w' := by
  obtain ⟨f1, f2, f3⟩ := size_facts h1 h2 h3
  have hlim := hok.lim
  have HN : Hid (∀ w', Calls Try.prog 28 #[.int .i64 W, .int .i64 H] w' fun e w'' => ∃ b g, e = .returned (.tuple #[.pointer (some ⟨b, 0, none⟩), .int .i64 0]) ∧ NewB w' w'' b g (H * stride W) W H (fun _ _ => false)) := fun w' => new_yes W H w' h1 h2 h3
  have HTh : Hid (∀ (w' : World) (g cap : Nat), Fr (fun _ => False) w w' → RowAt w' g cap W H (fun _ _ => false) → w.heap.size ≤ g → Calls Try.prog 30 #[.agg #[.pointer (some ⟨bd, 0, none⟩)], procV base t skip, .agg #[.int .i64 W, .int .i64 H, .slice (some ⟨g, 0, none⟩) (H * stride W) cap]] w' fun e w'' => e = .returned (.int .i64 0) ∧ RowAt w'' g cap W H (gotW B base t W skip H d).2 ∧ DeAt w'' bd gc cc vb B (gotW B base t W skip H d).1 ∧ Eok B (gotW B base t W skip H d).1 ∧ Fr (fun k => (k = bd ∨ k = gc ∨ vb.ownBlock = some k) ∨ k = g) w' w'') := fun w' g cap f hr hg => by
    have hde := hd.keptAll f
    have hl := hd.lt
    have hxl := hd.xlt
    have hbl : ∀ k, vb.ownBlock = some k → k < w.heap.size := fun k hk => (hd.bs.lt _ hk).2
    refine (through_d (some ⟨bd, 0, none⟩) (whoD bd gc cc vb B) base t W H g cap skip (fun _ _ => false) w' d ⟨hde, hok⟩ (by show _ ≤ 16777216 - d.made; omega) hr (by
      show ¬ (g = bd ∨ g = gc ∨ vb.ownBlock = some g)
      rintro (e | e | e)
      · omega
      · omega
      · have := hbl g e; omega) (fun _ _ _ _ => rfl) ht h1 h2 h3 (by omega)).mono ?_
    rintro e w2 ⟨rfl, s', hat, habs, hr2, hf2, how⟩
    have e1 : s' = (gotW B base t W skip H d).1 := habs
    subst e1
    exact ⟨rfl, hr2, hat.1, hat.2, hf2⟩
  have HNP : Hid (∀ w', Calls Try.prog 22 #[.int .i64 base, .int .i64 t, .bool skip] w' fun e w'' => e = .returned (.tuple #[procV base t skip, .int .i64 0]) ∧ Fr (fun _ => False) w' w'') := fun w' => newProc_ok base t skip ht w'
  have HFt : Hid (∀ w', Calls Try.prog 24 #[procV base t skip, .int .i64 (d.x.length : Nat)] w' fun e w'' => e = .returned (.bool true) ∧ Fr (fun _ => False) w' w'') := fun w' => by
    have := fits_pos base t skip d.x.length ht (by omega) hlim w'
    rwa [decide_eq_true hbase] at this
  have HCt : Hid (∀ w', Fr (fun _ => False) w w' → Calls Try.prog 25 #[.pointer (some ⟨bd, 0, none⟩)] w' fun e w'' => e = .returned (.int .i64 (d.x.length : Nat)) ∧ w'' = w') := fun w' f => by
    obtain ⟨e0, _⟩ := cell_of_seven (hd.keptAll f).blk
    exact contexts_at w' bd gc cc _ e0 hlim
  have HOw : Hid (∀ k, w.heap.size ≤ k → ¬ (k = bd ∨ k = gc ∨ vb.ownBlock = some k)) := fun k hk e => by
    have hl := hd.lt
    have hxl := hd.xlt
    rcases e with e | e | e
    · omega
    · omega
    · have := (hd.bs.lt _ e).2; omega
  obtain ⟨n0, HN0⟩ : ∃ n0, Hid (n0 = H * stride W) := ⟨_, rfl⟩
  rw [← HN0.out] at HN HTh ⊢
  have HPl : Hid (∀ (w' : World) (b g cap : Nat), MapB w' b g cap W H (fun _ _ => false) → Calls Try.prog 29 #[.pointer (some ⟨b, 0, none⟩)] w' fun e w'' => ∃ g2 cap2, e = .returned (.agg #[.int .i64 W, .int .i64 H, .slice (some ⟨g2, 0, none⟩) n0 cap2]) ∧ RowAt w'' g2 cap2 W H (fun _ _ => false) ∧ Fr (fun _ => False) w' w'' ∧ w'.heap.size ≤ g2) := fun w' b g cap h => by
    rw [HN0.out]
    exact plain_any b g cap W H (fun _ _ => false) w' h
  unfold procV at *
  clear hd hok h1 h2 h3 ht hbase hm f3
  generalize sizeT t = Z at *
  generalize d.x.length = X at *
  generalize 2 ^ cntS t 2 - 1 = O at *
  go_enter Try.func9, Try.ntmps9
  go_wp2_with fail
  refine (HNP.out _).mono ?_
  rintro e w1 ⟨rfl, hf1⟩
  have HF1 : Hid (Fr (fun _ => False) w (w1.alloc (.cells #[.int .i64 base, .int .i64 t, .int .i64 Z, .int .i64 O, .bool skip] 62))) := (((Fr.refl _ _).alloc _).trans hf1 (fun _ _ h => h)).alloc _
  have hs1 : w.heap.size < w1.heap.size := by have := hf1.size; simp at this; omega
  have HBX : Hid (∀ w', Fr (fun _ => False) (w1.alloc (.cells #[.int .i64 base, .int .i64 t, .int .i64 Z, .int .i64 O, .bool skip] 62)) w' → w'.heap[w.heap.size]? = some (.cells #[.int .i64 0, .int .i64 0, .slice none 0 0] 24 (0, 0)) ∧ w'.heap[w1.heap.size]? = some (.cells #[.int .i64 base, .int .i64 t, .int .i64 Z, .int .i64 O, .bool skip] 62 (0, 0))) := fun w' f => by
    refine ⟨?_, ?_⟩
    · rw [f.block _ (by simp; omega) (fun h => h), Below.heap_alloc _ _ _ hs1, hf1.block _ (by simp) (fun h => h)]; exact heap_alloc_new w _
    · rw [f.block _ (by simp) (fun h => h)]; exact heap_alloc_new w1 _
  clear hf1
  go_wp2_with fail
  generalize hwA : w1.alloc (.cells #[.int .i64 base, .int .i64 t, .int .i64 Z, .int .i64 O, .bool skip] 62) = wA at *
  refine (HN.out _).mono ?_
  rintro e w3 ⟨bm, gm, rfl, hnb⟩
  have HM : Hid (∀ w', Fr (fun _ => False) w3 w' → MapB w' bm gm n0 W H (fun _ _ => false)) := fun w' f => hnb.at_.kept f (fun h => h) (fun h => h)
  have HF3 : Hid (Fr (fun _ => False) wA w3) := hnb.fr
  have HS3 : Hid (∀ w', Fr (fun _ => False) w3 w' → w'.cell? ⟨w1.heap.size, 0, none⟩ = some (.int .i64 base) ∧ w'.cell? ⟨w1.heap.size, 1, none⟩ = some (.int .i64 t) ∧ w'.cell? ⟨w1.heap.size, 2, none⟩ = some (.int .i64 Z) ∧ w'.cell? ⟨w1.heap.size, 3, none⟩ = some (.int .i64 O) ∧ w'.cell? ⟨w1.heap.size, 4, none⟩ = some (.bool skip)) := fun w' f => by
    obtain ⟨p0, p1, p2, p3, p4, _⟩ := cell_of_five (HBX.out w' (HF3.out.trans f (fun _ _ h => h))).2
    exact ⟨p0, p1, p2, p3, p4⟩
  clear hnb hwA
  obtain ⟨p0, p1, p2, p3, p4⟩ := HS3.out w3 (Fr.refl _ _)
  go_wp2_with fail
  go_region_held3 (fun w' => w'.cell? ⟨w1.heap.size, 0, none⟩ = some (.int .i64 base) ∧ w'.cell? ⟨w1.heap.size, 1, none⟩ = some (.int .i64 t) ∧ w'.cell? ⟨w1.heap.size, 2, none⟩ = some (.int .i64 Z) ∧ w'.cell? ⟨w1.heap.size, 3, none⟩ = some (.int .i64 O) ∧ w'.cell? ⟨w1.heap.size, 4, none⟩ = some (.bool skip)) (exact HS3.out _ (by repeat (first | with_reducible exact Fr.refl _ _ | with_reducible refine Fr.drew ?_ | with_reducible refine Fr.trans ?_ hf5 (fun _ _ hh => hh)))) (first | (go_at_call 25; refine (HCt.out _ ((HF1.out.trans HF3.out (fun _ _ h => h)).drew)).mono ?_; rintro e w4 ⟨rfl, rfl⟩) | (go_at_call 24; refine (HFt.out _).mono ?_; rintro e w5 ⟨rfl, hf5⟩))
  have HF35 : Hid (Fr (fun _ => False) w3 w5) := (Fr.refl _ _).drew.trans hf5 (fun _ _ h => h)
  have HF5 : Hid (Fr (fun _ => False) wA w5) := HF3.out.trans HF35.out (fun _ _ h => h)
  clear hf5 p0 p1 p2 p3 p4
  go_wp2_with fail
  refine (HPl.out _ bm gm n0 (HM.out _ HF35.out)).mono ?_
  rintro e w6 ⟨g, cap, rfl, hrow, hf6, hg6⟩
  have HF6 : Hid (Fr (fun _ => False) wA (w6.alloc (.cells #[.int .i64 W, .int .i64 H, .slice (some ⟨g, 0, none⟩) n0 cap] 24))) := (HF5.out.trans hf6 (fun _ _ h => h)).alloc _
  have HFw6 : Hid (Fr (fun _ => False) w (w6.alloc (.cells #[.int .i64 W, .int .i64 H, .slice (some ⟨g, 0, none⟩) n0 cap] 24))) := HF1.out.trans HF6.out (fun _ _ h => h)
  have HR6 : Hid (RowAt (w6.alloc (.cells #[.int .i64 W, .int .i64 H, .slice (some ⟨g, 0, none⟩) n0 cap] 24)) g cap W H (fun _ _ => false)) := hrow.kept ((Fr.refl (fun _ => False) w6).alloc _) (fun h => h)
  have HGs : Hid (w.heap.size < w1.heap.size ∧ w1.heap.size < w5.heap.size ∧ w5.heap.size ≤ g ∧ g < w6.heap.size) := ⟨hs1, lt_of_block (HBX.out _ HF5.out).2, hg6, hrow.lt⟩
  have hb6 : (w6.alloc (.cells #[.int .i64 W, .int .i64 H, .slice (some ⟨g, 0, none⟩) n0 cap] 24)).heap[w6.heap.size]? = some (.cells #[.int .i64 W, .int .i64 H, .slice (some ⟨g, 0, none⟩) n0 cap] 24 (0, 0)) := heap_alloc_new w6 _
  obtain ⟨y0, y1, y2, yf⟩ := cell_of_three hb6
  obtain ⟨z0, z1, z2, z3, z4, zf⟩ := cell_of_five (HBX.out _ HF6.out).2
  have HB6 : Hid ((w6.alloc (.cells #[.int .i64 W, .int .i64 H, .slice (some ⟨g, 0, none⟩) n0 cap] 24)).heap[w6.heap.size]? = some (.cells #[.int .i64 W, .int .i64 H, .slice (some ⟨g, 0, none⟩) n0 cap] 24 (0, 0))) := hb6
  clear hrow hf6 hg6 hb6 yf zf
  generalize hw7 : w6.alloc (.cells #[.int .i64 W, .int .i64 H, .slice (some ⟨g, 0, none⟩) n0 cap] 24) = w7 at *
  go_wp2_with fail
  refine (HTh.out _ g cap HFw6.out HR6.out (by have := HGs.out; omega)).mono ?_
  rintro e w8 ⟨rfl, hr8, hd8, ho8, hf8⟩
  have hsz7 : w6.heap.size < w7.heap.size := lt_of_block HB6.out
  have hb8 : w8.heap[w6.heap.size]? = some (.cells #[.int .i64 W, .int .i64 H, .slice (some ⟨g, 0, none⟩) n0 cap] 24 (0, 0)) := by
    rw [hf8.block _ hsz7 (fun e => by
      have h9 := HGs.out
      rcases e with e | e
      · exact HOw.out _ (by omega) e
      · omega)]
    exact HB6.out
  have hb9 : w8.heap[w.heap.size]? = some (.cells #[.int .i64 0, .int .i64 0, .slice none 0 0] 24 (0, 0)) := by
    rw [hf8.block _ (by have := HFw6.out.size; have := HGs.out; omega) (fun e => by
      have h9 := HGs.out
      rcases e with e | e
      · exact HOw.out _ (by omega) e
      · omega)]
    exact (HBX.out _ HF6.out).1
  have hset := set3_cells hb9 (.int .i64 W) (.int .i64 H) (.slice (some ⟨g, 0, none⟩) n0 cap)
  have hf9 : Fr (fun k => k = w.heap.size) w8 (((w8.setCell ⟨w.heap.size, 0, none⟩ (.int .i64 W)).setCell ⟨w.heap.size, 1, none⟩ (.int .i64 H)).setCell ⟨w.heap.size, 2, none⟩ (.slice (some ⟨g, 0, none⟩) n0 cap)) := (((Fr.refl (fun k => k = w.heap.size) w8).setCell (p := ⟨w.heap.size, 0, none⟩) (fun _ => rfl) _).setCell (p := ⟨w.heap.size, 1, none⟩) (fun _ => rfl) _).setCell (p := ⟨w.heap.size, 2, none⟩) (fun _ => rfl) _
  obtain ⟨w9, hw9⟩ : ∃ w9, w9 = ((w8.setCell ⟨w.heap.size, 0, none⟩ (.int .i64 W)).setCell ⟨w.heap.size, 1, none⟩ (.int .i64 H)).setCell ⟨w.heap.size, 2, none⟩ (.slice (some ⟨g, 0, none⟩) n0 cap) := ⟨_, rfl⟩
  rw [← hw9] at hset hf9
  obtain ⟨x0, x1, x2, xf⟩ := cell_of_three hset
  have HW9 := (show Hid (w9 = ((w8.setCell ⟨w.heap.size, 0, none⟩ (.int .i64 W)).setCell ⟨w.heap.size, 1, none⟩ (.int .i64 H)).setCell ⟨w.heap.size, 2, none⟩ (.slice (some ⟨g, 0, none⟩) n0 cap)) from hw9)
  have HE : Hid (RowAt w9 g cap W H (gotW B base t W skip H d).2 ∧ w.heap.size ≤ g ∧ DeAt w9 bd gc cc vb B (gotW B base t W skip H d).1 ∧ Eok B (gotW B base t W skip H d).1 ∧ Fr (fun k => k = bd ∨ k = gc ∨ vb.ownBlock = some k) w w9) := by
    have h9 := HGs.out
    have hww := HOw.out w.heap.size (Nat.le_refl _)
    refine ⟨hr8.kept hf9 (by omega), by omega, hd8.kept hf9 (fun e => hww (Or.inl e.symm)) (fun e => hww (Or.inr (Or.inl e.symm))) (fun k hk e => hww (Or.inr (Or.inr (e ▸ hk)))), ho8, ?_⟩
    refine ((HFw6.out.mono (fun _ _ h => h.elim)).trans hf8 (fun i hi e => ?_)).trans hf9 (fun i hi e => by omega)
    rcases e with e | e
    · exact e
    · omega
  obtain ⟨v0, v1, v2, vf⟩ := cell_of_three hb8
  obtain ⟨u0, u1, u2, uf⟩ := cell_of_three hb9
  clear hr8 hd8 ho8 hf8 hset hf9 xf hb8 hb9 hw9 y0 y1 y2 z0 z1 z2 z3 z4 vf hw7
  go_wp2_with fail
  rw [← HW9.out]
  refine bodyPost_ret (v := .tuple #[.agg #[.int .i64 W, .int .i64 H, .slice (some ⟨g, 0, none⟩) n0 cap], .int .i64 0]) (by simp [results, Try.results9, go_sem, x0, x1, x2]) rfl ?_
  exact ⟨g, cap, rfl, HE.out.1, HE.out.2.1, HE.out.2.2.1, HE.out.2.2.2.1, HE.out.2.2.2.2⟩

end Go.Proofs.Ytkggdnkmaldmlab
