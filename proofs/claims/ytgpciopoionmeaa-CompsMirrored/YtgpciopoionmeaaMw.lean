/- The law 'CompsMirrored'. -/
import Derived.Test.YtgpciopoionmeaaWk
import Derived.Test.YtgpciopoionmeaaMm
import Derived.Test.YtgpciopoionmeaaMir
import Derived.Test.YtgpciopoionmeaaIm
import Derived.Test.YtgpciopoionmeaaEb
import Derived.Test.YtgpciopoionmeaaSm
import Derived.Test.YtgpciopoionmeaaFr2
import Derived.Deep.RegionHeld3
namespace Go.Proofs.Ytgpciopoionmeaa
open Go.RowKit

theorem rise_lenM {n : Nat} : ∀ (l : List Nat) (lo : Nat), l.Pairwise (· < ·) → (∀ a ∈ l, lo ≤ a ∧ a < n) → lo ≤ n → lo + l.length ≤ n
  | [], _, _, _, h => by simpa using h
  | x :: t, lo, hp, hm, h => by
    obtain ⟨h1, h2⟩ := List.pairwise_cons.1 hp
    have hx := hm x (List.mem_cons_self ..)
    have := rise_lenM t (x + 1) h2 (fun a ha => ⟨h1 a ha, (hm a (List.mem_cons_of_mem _ ha)).2⟩) (by omega)
    simp only [List.length_cons]; omega
/-- There are no more pieces than pixels. -/
theorem rise_lenR {W H : Nat} {P : Nat → Nat → Bool} {fs : List (Nat × Nat)} (hf : Firsts (Bk W H P) fs) : fs.length ≤ W * H := by
  have := rise_lenM (n := H * W) (fs.map fun p => p.2 * W + p.1) 0 ?_ ?_ (Nat.zero_le _)
  · rw [List.length_map, Nat.mul_comm H W] at this; omega
  · rw [List.pairwise_map]
    refine hf.sorted.imp_of_mem (fun {a b} ha hb h => ?_)
    have h1 := ((hf.mem a).1 ha).1.1
    rcases h with h | ⟨e, h⟩
    · have := Nat.mul_le_mul_right W (show a.2 + 1 ≤ b.2 by omega)
      rw [Nat.add_mul, Nat.one_mul] at this
      omega
    · rw [e]; omega
  · intro a ha
    obtain ⟨p, hp, rfl⟩ := List.mem_map.1 ha
    have h1 := ((hf.mem p).1 hp).1
    have := Nat.mul_le_mul_right W (show p.2 + 1 ≤ H from h1.2.1)
    rw [Nat.add_mul, Nat.one_mul] at this
    have := h1.1
    exact ⟨Nat.zero_le _, by omega⟩


theorem Try.infoBool : (Try.prog.info? 4).map (fun i => (i.zero, i.size, i.bytes)) = some (some (.bool false), 1, 1) := by kernel_rfl
def boolCells (n : Nat) (u : Nat → Bool) : List Value := (List.range n).map fun i => Value.bool (u i)
theorem boolCells_get {n : Nat} (u : Nat → Bool) {i : Nat} (hi : i < n) : (boolCells n u)[i]? = some (.bool (u i)) := by
  unfold boolCells; rw [List.getElem?_map, List.getElem?_range hi]; rfl
theorem boolCells_set {n : Nat} (u : Nat → Bool) {i : Nat} (hi : i < n) (v : Bool) : (boolCells n u).set i (.bool v) = boolCells n (fun k => if k = i then v else u k) := by
  apply List.ext_getElem?
  intro j
  rw [List.getElem?_set]
  unfold boolCells
  by_cases h : i = j
  · subst h
    rw [if_pos rfl, if_pos (by simpa using hi), List.getElem?_map, List.getElem?_range hi]
    simp
  · rw [if_neg h, List.getElem?_map, List.getElem?_map]
    by_cases hj : j < n
    · rw [List.getElem?_range hj]
      simp only [Option.map_some]
      rw [if_neg (fun e => h e.symm)]
    · rw [List.getElem?_eq_none (by simp; omega)]; rfl
theorem boolCells_zero (n : Nat) : List.replicate n (Value.bool false) = boolCells n (fun _ => false) := by
  unfold boolCells; rw [List.map_const']; simp
def UsAt (w : World) (g n : Nat) (u : Nat → Bool) : Prop := w.ownsRow 0 4 1 (.slice (some ⟨g, 0, none⟩) n n) n (boolCells n u)
theorem UsAt.lt {w : World} {g n : Nat} {u : Nat → Bool} (h : UsAt w g n u) : g < w.heap.size := (World.ownsRow.lt h g rfl).2
theorem UsAt.cell {w : World} {g n : Nat} {u : Nat → Bool} (h : UsAt w g n u) {i : Nat} (hi : i < n) : w.cell? ⟨g, i, none⟩ = some (.bool (u i)) :=
  (World.ownsRow.cellAt h i (by omega)).trans (boolCells_get u hi)
theorem UsAt.frozenAt {w : World} {g n : Nat} {u : Nat → Bool} (h : UsAt w g n u) (i : Nat) : w.frozen? ⟨g, i, none⟩ = false := World.ownsRow.frozenAt h i
theorem UsAt.put {w : World} {g n : Nat} {u : Nat → Bool} (h : UsAt w g n u) {i : Nat} (hi : i < n) (v : Bool) : UsAt (w.setCell ⟨g, i, none⟩ (.bool v)) g n (fun k => if k = i then v else u k) := by
  have := (World.ownsRow.stored h i (.bool v)).1
  rw [boolCells_set u hi] at this
  exact this
theorem UsAt.kept {S : Nat → Prop} {w w' : World} {g n : Nat} {u : Nat → Bool} (h : UsAt w g n u) (k : Fr S w w') (hs : ¬ S g) : UsAt w' g n u := row_kept h k (fun i hi => by cases hi; exact hs)

theorem mir_match {W : Nat} {p l : Pc} : (p.Y = l.Y ∧ p.X = W - l.X - l.W ∧ p.W = l.W ∧ p.H = l.H ∧ render p.W p.H p.Q = render l.W l.H (fun x y => l.Q (l.W - 1 - x) y)) ↔ same p (mirP W l) := by
  constructor
  · rintro ⟨a, b, c, d, e⟩
    refine ⟨b, a, c, d, fun x y hx hy => ?_⟩
    rw [c, d] at e
    exact render_inj e x y (by omega) (by omega)
  · rintro ⟨b, a, c, d, e⟩
    simp only [mirP] at a b c d e
    refine ⟨a, b, c, d, ?_⟩
    rw [render_congr e, c, d]
theorem from_bm (W H : Nat) (v : Value) (P : Nat → Nat → Bool) (w : World) (h : Bm w v W H P) :
    Calls Try.prog 26 #[.agg #[.int .i64 W, .int .i64 H, v]] w fun e w' => ∃ b g2 c, e = .returned (.tuple #[.pointer (some ⟨b, 0, none⟩), .int .i64 0]) ∧ NewMap w w' b g2 c W H P := by
  refine (from_yes W H _ (render W H P) w h.h1 h.h2 h.h3 h.seen (render_ltD W H P) (length_render W H P) (fun j hj => render_rowOK W H P h.h1 j hj)).mono ?_
  rintro e w' ⟨b, g2, c, he, hn⟩
  exact ⟨b, g2, c, he, ⟨hn.at_.pix (fun x y hx hy => pixOf_render P hx hy), hn.fr, hn.nb, hn.ng⟩⟩

set_option maxRecDepth 100000 in
set_option maxHeartbeats 8000000 in
theorem mirrored_any (x y : Int) (v : Value) (l : List Nat) (w : World) (hx : -9223372036854775808 ≤ x ∧ x ≤ 9223372036854775807) (hy : -9223372036854775808 ≤ y ∧ y ≤ 9223372036854775807) (hv : Seen w v l) (hcap : CapOK v) (hlt : ∀ j : Nat, l[j]?.getD 0 < 18446744073709551616) :
    Calls Try.prog 7 #[.agg #[.int .i64 x, .int .i64 y, v]] w fun e w' => e = .returned (.bool true) ∧ Fr (fun _ => False) w w' := by
  have HMY : Hid (∀ w', Fr (fun _ => False) w w' → Calls Try.prog 21 #[.agg #[.int .i64 x, .int .i64 y, v]] w' fun e w'' => e = .returned (.bool (validB x y l)) ∧ Fr (fun _ => False) w' w'') := fun w' hf => may_any x y v l w' hx hy (hv.kept hf) hlt
  have HV : Hid (validB x y l = true → ∃ (W H : Nat) (P : Nat → Nat → Bool), x = W ∧ y = H ∧ l = render W H P ∧ Bm w v W H P) := fun h => valid_bm h hv hcap hlt
  obtain ⟨ao, cap, rfl, -, -⟩ := hv
  have HBX : Hid (∀ w', Fr (fun _ => False) (w.alloc (.cells #[.int .i64 x, .int .i64 y, .slice ao l.length cap] 25)) w' → w'.cell? ⟨w.heap.size, 0, none⟩ = some (.int .i64 x) ∧ w'.cell? ⟨w.heap.size, 1, none⟩ = some (.int .i64 y) ∧ w'.cell? ⟨w.heap.size, 2, none⟩ = some (.slice ao l.length cap)) := fun w' hf => by
    have hB : w'.heap[w.heap.size]? = some (.cells #[.int .i64 x, .int .i64 y, .slice ao l.length cap] 25 (0, 0)) := by
      rw [hf.block _ (by simp) (fun hh => hh)]; exact heap_alloc_new _ _
    obtain ⟨c0, c1, c2, _⟩ := cell_of_three hB
    exact ⟨c0, c1, c2⟩
  have HA : Hid (Fr (fun _ => False) w (w.alloc (.cells #[.int .i64 x, .int .i64 y, .slice ao l.length cap] 25))) := (Fr.refl _ _).alloc _
  clear hcap hlt hx hy
  go_enter Try.func7, Try.ntmps7
  go_wp2_with fail
  generalize w.alloc (.cells #[.int .i64 x, .int .i64 y, .slice ao l.length cap] 25) = w0 at *
  refine (HMY.out _ HA.out).mono ?_
  rintro e w1 ⟨rfl, hf1⟩
  have HF1 : Hid (Fr (fun _ => False) w0 w1) := hf1
  obtain ⟨c0, c1, c2⟩ := HBX.out _ hf1
  clear hf1 HMY
  by_cases hval : validB x y l = true
  case neg =>
    rw [Bool.not_eq_true] at hval
    rw [hval]
    clear c0 c1 c2
    go_wp2_with fail
    refine (wakes_any _).mono ?_
    rintro e w3 ⟨rfl, hf3⟩
    have HF3 : Hid (Fr (fun _ => False) w w3) := (HA.out.trans HF1.out (fun _ _ h => h)).trans hf3 (fun _ _ h => h)
    clear hf3
    go_wp2_with fail
    go_ret
    exact ⟨rfl, HF3.out⟩
  case pos =>
    rw [hval]
    obtain ⟨W, H, P, rfl, rfl, rfl, hbm⟩ := HV.out hval
    have HBm : Hid (∀ w', Fr (fun _ => False) w w' → Bm w' (.slice ao (render W H P).length cap) W H P) := fun w' f => hbm.kept f
    obtain ⟨f1, f2, f3⟩ := size_facts hbm.h1 hbm.h2 hbm.h3
    have HW : Hid (1 ≤ W ∧ 1 ≤ H ∧ W * H ≤ 1048576) := ⟨hbm.h1, hbm.h2, hbm.h3⟩
    clear hbm hval HV f3
    generalize (render W H P).length = n at *
    have hWHb := HW.out.2.2
    obtain ⟨N, hN⟩ : ∃ N, N = W * H := ⟨_, rfl⟩
    have HN : Hid (N = W * H) := hN
    have gN : IntKind.i64.wrap ((W : Int) * (H : Int)) = (N : Int) := by rw [IntKind.wrap_i64, ← Int.natCast_mul, ← hN]; omega
    have gN2 : (W : Int) * (H : Int) = (N : Int) := by rw [← Int.natCast_mul, ← hN]
    have hNb : N ≤ 1048576 := by omega
    clear hN hWHb
    by_cases hbig : 3000 < N
    case pos =>
      have db : decide ((3000 : Int) < (N : Int)) = true := decide_eq_true (by omega)
      go_wp2_with fail
      refine (wakes_any _).mono ?_
      rintro e w3 ⟨rfl, hf3⟩
      have HF3 : Hid (Fr (fun _ => False) w w3) := (HA.out.trans HF1.out (fun _ _ h => h)).trans hf3 (fun _ _ h => h)
      clear hf3
      go_wp2_with fail
      go_ret
      exact ⟨rfl, HF3.out⟩
    case neg =>
      have db : decide ((3000 : Int) < (N : Int)) = false := decide_eq_false (by omega)
      go_wp2_with fail
      refine (small_any w1.heap.size 0 1 1 20000 _ (by omega) (fun i hi => ?_)).mono ?_
      · obtain rfl : i = 0 := by omega
        obtain ⟨_, _, k2, _⟩ := cell_of_three (heap_alloc_new w1 (.cells #[.int .i64 (W : Int), .int .i64 (H : Int), .slice ao n cap] 25))
        exact ⟨ao, n, cap, k2⟩
      rintro e w2 ⟨bb, rfl, q, hw2⟩
      have HF2 : Hid (Fr (fun _ => False) w0 w2) := by rw [hw2]; exact (HF1.out.alloc _).drewN q
      clear hw2 c0 c1 c2
      cases bb with
      | false =>
        go_wp2_with fail
        refine (wakes_any _).mono ?_
        rintro e w3 ⟨rfl, hf3⟩
        have HF3 : Hid (Fr (fun _ => False) w w3) := (HA.out.trans HF2.out (fun _ _ h => h)).trans hf3 (fun _ _ h => h)
        clear hf3
        go_wp2_with fail
        go_ret
        exact ⟨rfl, HF3.out⟩
      | true =>
        obtain ⟨c0, c1, c2⟩ := HBX.out _ HF2.out
        go_wp2_with fail
        refine (from_bm W H _ P _ (HBm.out _ (HA.out.trans HF2.out (fun _ _ h => h)))).mono ?_
        rintro e w3 ⟨bm, gm, cm, rfl, hn3⟩
        have HMI : Hid (∀ w', Fr (fun _ => False) w3 w' → Calls Try.prog 27 #[.pointer (some ⟨bm, 0, none⟩)] w' fun e w'' => ∃ b2 g2, e = .returned (.pointer (some ⟨b2, 0, none⟩)) ∧ NewMap w' w'' b2 g2 (H * stride W) W H (mirQ W P)) := fun w' f => mirror_any bm gm cm W H P w' (hn3.at_.kept f (fun h => h) (fun h => h))
        have HF3 : Hid (Fr (fun _ => False) w0 w3) := HF2.out.trans hn3.fr (fun _ _ h => h)
        clear hn3 c0 c1 c2
        go_wp2_with fail
        refine (HMI.out _ (Fr.refl _ _)).mono ?_
        rintro e w4 ⟨b4, g4, rfl, hn4⟩
        have HF34 : Hid (Fr (fun _ => False) w3 w4) := hn4.fr
        clear hn4
        obtain ⟨c0, c1, c2⟩ := HBX.out _ (HF3.out.trans HF34.out (fun _ _ h => h))
        go_wp2_with fail
        refine (cof_ok W H _ P _ (HBm.out _ (HA.out.trans (HF3.out.trans HF34.out (fun _ _ h => h)) (fun _ _ h => h)))).mono ?_
        rintro e w5 ⟨rv, L, fs, rfl, ho5, hfs, hps, hf5⟩
        have HO5 : Hid (OwnPs w5 w4.heap.size rv L) := ho5
        have HFS : Hid (Firsts (Bk W H P) fs) := hfs
        have HPS : Hid (Pcs (Bk W H P) fs (L.map (·.1))) := hps
        have HF35 : Hid (Fr (fun _ => False) w3 w5) := HF34.out.trans hf5 (fun _ _ h => h)
        obtain ⟨aoL, cL, rfl⟩ := own_slice ho5.own
        have hLb := of_len ho5.own
        clear ho5 hf5 hfs hps c0 c1 c2
        go_wp2_with fail
        refine (HMI.out _ HF35.out).mono ?_
        rintro e w6 ⟨b6, g6, rfl, hn6⟩
        have HF56 : Hid (Fr (fun _ => False) w5 w6) := hn6.fr
        have HM6 : Hid (MapAt w6 b6 g6 (H * stride W) W H (mirQ W P)) := hn6.at_
        clear hn6
        go_wp2_with fail
        refine (plain_any b6 g6 _ W H _ w6 HM6.out).mono ?_
        rintro e w7 ⟨g7, cap7, rfl, hr7, hf7, _⟩
        have HR7 : Hid (RowAt w7 g7 cap7 W H (mirQ W P)) := hr7
        have HF57 : Hid (Fr (fun _ => False) w5 w7) := HF56.out.trans hf7 (fun _ _ h => h)
        have HB7 : Hid (Bm w7 (.slice (some ⟨g7, 0, none⟩) (H * stride W) cap7) W H (mirQ W P)) := ⟨HR7.out.seen (size_facts HW.out.1 HW.out.2.1 HW.out.2.2).2.2, fun ao n c e => by simp only [Value.slice.injEq] at e; obtain ⟨_, rfl, rfl⟩ := e; exact of_slice hr7, HW.out.1, HW.out.2.1, HW.out.2.2⟩
        clear hr7 hf7 HM6 HF56
        go_wp2_with fail
        refine (cof_ok W H _ _ w7 HB7.out).mono ?_
        rintro e w8 ⟨rv, R, gs, rfl, ho8, hgs, hrs, hf8⟩
        have HO8 : Hid (OwnPs w8 w7.heap.size rv R) := ho8
        have HGS : Hid (Firsts (Bk W H (mirQ W P)) gs) := hgs
        have HRS : Hid (Pcs (Bk W H (mirQ W P)) gs (R.map (·.1))) := hrs
        have HF58 : Hid (Fr (fun _ => False) w5 w8) := HF57.out.trans hf8 (fun _ _ h => h)
        obtain ⟨aoR, cR, rfl⟩ := own_slice ho8.own
        have HLEN : Hid (L.length = R.length) := by
          have := mir_len HFS.out HPS.out hgs hrs
          rwa [List.length_map, List.length_map] at this
        have HSG : Hid (∃ σ : Nat → Nat, (∀ i (h : i < L.length), ∃ h' : σ i < R.length, same R[σ i].1 (mirP W L[i].1)) ∧ (∀ i j, i < L.length → j < L.length → σ i = σ j → i = j) ∧ ∀ k k', ∀ (h : k < R.length) (h' : k' < R.length), same R[k].1 R[k'].1 → k = k') := by
          obtain ⟨σ, h1, h2⟩ := mir_le HFS.out HPS.out hgs hrs
          refine ⟨σ, fun i h => ?_, fun i j h h' => h2 i j (by simpa using h) (by simpa using h'), fun k k' h h' e => same_one hgs hrs (by simpa using h) (by simpa using h') (by simpa using e)⟩
          obtain ⟨h', e⟩ := h1 i (by simpa using h)
          exact ⟨by simpa using h', by simpa using e⟩
        clear ho8 hf8 hgs hrs HB7 HR7 HMI
        rw [← HLEN.out]
        obtain ⟨i0, hi, hz0, hz1, hz2⟩ := info_parts Try.infoBool
        have hLN : L.length ≤ 1048576 := by
          have h1 := rise_lenR HFS.out
          have h2 := HPS.out.length
          rw [List.length_map] at h2
          have := HW.out.2.2
          omega
        obtain ⟨nL, HNL⟩ : ∃ n, Hid (n = L.length) := ⟨_, rfl⟩
        rw [← HNL.out] at hLN hLb
        rw [← HNL.out]
        go_wp2_with (first | (at_make; refine wpList_make_full _ rfl _ _ 55 rfl w8.heap.size 4 i0 (.bool false) 1 Try.underlying55 hi hz0 hz1 .i64 .i64 _ _ nL rfl rfl ?_ ?_ ?_ ?_ ?_ ?_))
        · rfl
        · rfl
        · rw [hz2]; omega
        · unfold maxLen; omega
        · omega
        · intro w9 hown9 hgrow9
          have HF89 : Hid (Fr (fun _ => False) w8 w9) := (Fr.refl _ _).grown hgrow9 (fun _ e _ => by cases e)
          have HU9 : Hid (UsAt w9 w8.heap.size nL (fun _ => false)) := by
            have := ownsRow_base (b' := 0) hown9 (fun _ _ => Nat.zero_le _)
            rw [toList_madeCells_one, boolCells_zero] at this
            exact this
          clear hown9 hgrow9 hi hz0 hz1 hz2 i0
          obtain ⟨g, HG⟩ : ∃ g, Hid (g = w8.heap.size) := ⟨_, rfl⟩
          rw [← HG.out] at HU9
          rw [← HG.out]
          have HF8X : Hid (∀ w', Fr (fun k => k = g) w9 w' → Fr (fun _ => False) w8 w') := fun w' f => HF89.out.trans f (fun k hk e => by have := HG.out; omega)
          have HF5X : Hid (∀ w', Fr (fun k => k = g) w9 w' → Fr (fun _ => False) w5 w') := fun w' f => HF58.out.trans (HF8X.out w' f) (fun _ _ h => h)
          have HINL : Hid (∀ (I : Nat) (h : I < L.length), 1 ≤ L[I].1.W ∧ 1 ≤ L[I].1.H ∧ L[I].1.X + L[I].1.W ≤ W ∧ L[I].1.Y + L[I].1.H ≤ H ∧ L[I].1.W * L[I].1.H ≤ 1048576) := fun I h => by
            have hm : L[I].1 ∈ L.map (·.1) := List.mem_map.2 ⟨_, List.getElem_mem h, rfl⟩
            have h1 := pcs_in HPS.out hm
            exact ⟨h1.1, h1.2.1, h1.2.2.1, h1.2.2.2, pcs_area HPS.out HW.out.2.2 hm⟩
          have HINR : Hid (∀ (I : Nat) (h : I < R.length), 1 ≤ R[I].1.W ∧ 1 ≤ R[I].1.H ∧ R[I].1.X + R[I].1.W ≤ W ∧ R[I].1.Y + R[I].1.H ≤ H ∧ R[I].1.W * R[I].1.H ≤ 1048576) := fun I h => by
            have hm : R[I].1 ∈ R.map (·.1) := List.mem_map.2 ⟨_, List.getElem_mem h, rfl⟩
            have h1 := pcs_in HRS.out hm
            exact ⟨h1.1, h1.2.1, h1.2.2.1, h1.2.2.2, pcs_area HRS.out HW.out.2.2 hm⟩
          have HSL : Hid (∀ w', Fr (fun k => k = g) w9 w' → ∀ (I : Nat) (h : I < L.length), Bm w' (.slice (some ⟨L[I].2.1, 0, none⟩) (L[I].1.H * stride L[I].1.W) L[I].2.2) L[I].1.W L[I].1.H L[I].1.Q) := fun w' f I h => by
            obtain ⟨i1, i2, _, _, i5⟩ := HINL.out I h
            have hr := ((HO5.out.kept (HF5X.out w' f) (fun _ _ h => h)).at_ L[I] (List.getElem_mem h)).1
            refine ⟨hr.seen (size_facts i1 i2 i5).2.2, fun ao n c e => ?_, i1, i2, i5⟩
            simp only [Value.slice.injEq] at e
            obtain ⟨_, rfl, rfl⟩ := e
            exact of_slice hr
          have HSR : Hid (∀ w', Fr (fun k => k = g) w9 w' → ∀ (I : Nat) (h : I < R.length), Seen w' (.slice (some ⟨R[I].2.1, 0, none⟩) (R[I].1.H * stride R[I].1.W) R[I].2.2) (render R[I].1.W R[I].1.H R[I].1.Q)) := fun w' f I h => by
            obtain ⟨i1, i2, _, _, i5⟩ := HINR.out I h
            have hr := ((HO8.out.kept (HF8X.out w' f) (fun _ _ h => h)).at_ R[I] (List.getElem_mem h)).1
            exact hr.seen (size_facts i1 i2 i5).2.2
          have HRD : Hid (∀ w', Fr (fun k => k = g) w9 w' → ∀ (I : Nat) (h : I < L.length), ∃ gL, aoL = some ⟨gL, 0, none⟩ ∧ w'.cell? ⟨gL, I * 5, none⟩ = some (.int .i64 (L[I].1.X : Nat)) ∧ w'.cell? ⟨gL, I * 5 + 1, none⟩ = some (.int .i64 (L[I].1.Y : Nat)) ∧ w'.cell? ⟨gL, I * 5 + 2, none⟩ = some (.int .i64 (L[I].1.W : Nat)) ∧ w'.cell? ⟨gL, I * 5 + 3, none⟩ = some (.int .i64 (L[I].1.H : Nat)) ∧ w'.cell? ⟨gL, I * 5 + 4, none⟩ = some (.slice (some ⟨L[I].2.1, 0, none⟩) (L[I].1.H * stride L[I].1.W) L[I].2.2)) := fun w' f I h => by
            have ho := (HO5.out.kept (HF5X.out w' f) (fun _ _ h => h)).own
            obtain ⟨gL, kL, e, _⟩ := row_form ho (by omega)
            simp only [Value.slice.injEq] at e
            obtain ⟨rfl, _, rfl⟩ := e
            obtain ⟨a0, a1, a2, a3, a4⟩ := cellsPs_at L I h
            rw [← ho.cellAt _ (by omega)] at a0 a1 a2 a3 a4
            exact ⟨gL, rfl, a0, a1, a2, a3, a4⟩
          have HRR : Hid (∀ w', Fr (fun k => k = g) w9 w' → ∀ (I : Nat) (h : I < R.length), ∃ gL, aoR = some ⟨gL, 0, none⟩ ∧ w'.cell? ⟨gL, I * 5, none⟩ = some (.int .i64 (R[I].1.X : Nat)) ∧ w'.cell? ⟨gL, I * 5 + 1, none⟩ = some (.int .i64 (R[I].1.Y : Nat)) ∧ w'.cell? ⟨gL, I * 5 + 2, none⟩ = some (.int .i64 (R[I].1.W : Nat)) ∧ w'.cell? ⟨gL, I * 5 + 3, none⟩ = some (.int .i64 (R[I].1.H : Nat)) ∧ w'.cell? ⟨gL, I * 5 + 4, none⟩ = some (.slice (some ⟨R[I].2.1, 0, none⟩) (R[I].1.H * stride R[I].1.W) R[I].2.2)) := fun w' f I h => by
            have ho := (HO8.out.kept (HF8X.out w' f) (fun _ _ h => h)).own
            obtain ⟨gL, kL, e, _⟩ := row_form ho (by omega)
            simp only [Value.slice.injEq] at e
            obtain ⟨rfl, _, rfl⟩ := e
            obtain ⟨a0, a1, a2, a3, a4⟩ := cellsPs_at R I h
            rw [← ho.cellAt _ (by omega)] at a0 a1 a2 a3 a4
            exact ⟨gL, rfl, a0, a1, a2, a3, a4⟩
          have HBX9 : Hid (∀ w', Fr (fun k => k = g) w9 w' → w'.cell? ⟨w.heap.size, 0, none⟩ = some (.int .i64 W)) := fun w' f => (HBX.out w' (((HF3.out.trans HF35.out (fun _ _ h => h)).trans (HF5X.out w' f) (fun _ _ h => h)))).1
          have HTOP : Hid (∀ w', Fr (fun k => k = g) w9 w' → Fr (fun _ => False) w w') := fun w' f => (HA.out.trans (HF3.out.trans HF35.out (fun _ _ h => h)) (fun _ _ h => h)).trans (HF5X.out w' f) (fun _ _ h => h)
          have HGN : Hid (∀ w', Fr (fun k => k = g) w9 w' → g < w'.heap.size) := fun w' f => by have := HU9.out.lt; have := f.size; omega
          obtain ⟨σ, hs1, hs2, hs3⟩ := HSG.out
          have HS1 : Hid (∀ i (h : i < L.length), ∃ h' : σ i < R.length, same R[σ i].1 (mirP W L[i].1)) := hs1
          have HS2 : Hid (∀ i j, i < L.length → j < L.length → σ i = σ j → i = j) := hs2
          have HS3 : Hid (∀ k k', ∀ (h : k < R.length) (h' : k' < R.length), same R[k].1 R[k'].1 → k = k') := hs3
          clear hs1 hs2 hs3 HSG HF34 HF57 HF58 HF89 HF2 HF3 HF35 HF1 HFS HPS HGS HRS HO5 HO8 HBm HBX HG HF8X HF5X
          go_wp2_with fail
          go_loopg [10] nL (fun q iv wr => ∃ (I : Nat) (u : Nat → Bool), I + q = nL ∧ iv = .int .i64 I ∧ UsAt wr g nL u ∧ Hid (∀ k, u k = true ↔ ∃ j, j < I ∧ σ j = k) ∧ Fr (fun k => k = g) w9 wr)
          case atStart => exact ⟨0, fun _ => false, by omega, rfl, HU9.out, (fun k => Iff.intro (fun h => absurd h Bool.false_ne_true) (fun h => absurd h.choose_spec.1 (Nat.not_lt_zero _))), Fr.refl _ _⟩
          case round =>
            clear HU9
            obtain ⟨I, u, hIq, rfl, hu, HUI, hfr⟩ := hrel
            have HU : Hid (UsAt wr g nL u) := hu
            have HFr : Hid (Fr (fun k => k = g) w9 wr) := hfr
            clear hu hfr
            by_cases hIn : I < nL
            · have hIL : I < L.length := by rw [← HNL.out]; exact hIn
              have dI : decide (I < nL) = true := decide_eq_true hIn
              obtain ⟨gL, rfl, k0, k1, k2, k3, k4⟩ := HRD.out wr HFr.out I hIL
              obtain ⟨i1, i2, i3, i4, i5⟩ := HINL.out I hIL
              have HBQ : Hid (∀ w', Fr (fun k => k = g) w9 w' → Bm w' (.slice (some ⟨L[I].2.1, 0, none⟩) (L[I].1.H * stride L[I].1.W) L[I].2.2) L[I].1.W L[I].1.H L[I].1.Q) := fun w' f => HSL.out w' f I hIL
              have HRL : Hid (∀ w', Fr (fun k => k = g) w9 w' → w'.cell? ⟨gL, I * 5, none⟩ = some (.int .i64 (L[I].1.X : Nat)) ∧ w'.cell? ⟨gL, I * 5 + 1, none⟩ = some (.int .i64 (L[I].1.Y : Nat)) ∧ w'.cell? ⟨gL, I * 5 + 2, none⟩ = some (.int .i64 (L[I].1.W : Nat)) ∧ w'.cell? ⟨gL, I * 5 + 3, none⟩ = some (.int .i64 (L[I].1.H : Nat)) ∧ w'.cell? ⟨gL, I * 5 + 4, none⟩ = some (.slice (some ⟨L[I].2.1, 0, none⟩) (L[I].1.H * stride L[I].1.W) L[I].2.2)) := fun w' f => by
                obtain ⟨gL', e, r⟩ := HRD.out w' f I hIL
                simp only [Option.some.injEq, Addr.mk.injEq, and_true] at e
                subst e
                exact r
              have HMT : Hid (∀ k (h : k < R.length), (R[k].1.Y = L[I].1.Y ∧ R[k].1.X = W - L[I].1.X - L[I].1.W ∧ R[k].1.W = L[I].1.W ∧ R[k].1.H = L[I].1.H ∧ render R[k].1.W R[k].1.H R[k].1.Q = render L[I].1.W L[I].1.H (fun x y => L[I].1.Q (L[I].1.W - 1 - x) y)) ↔ k = σ I) := fun k h => by
                obtain ⟨h', e⟩ := HS1.out I hIL
                rw [mir_match]
                constructor
                · intro hs; exact HS3.out k (σ I) h h' (hs.trans e.symm)
                · intro hk; subst hk; exact e
              have HSI : Hid (σ I < nL) := by show σ I < nL; obtain ⟨h', _⟩ := HS1.out I hIL; have := HNL.out; have := HLEN.out; omega
              have HUN : Hid (∀ k, u k = true → k ≠ σ I) := fun k hk e => by
                obtain ⟨j, hj, ej⟩ := (HUI.out k).1 hk
                have := HS2.out j I (by have := HNL.out; omega) hIL (by rw [ej, e])
                omega
              generalize L[I].1.X = pX at *
              generalize L[I].1.Y = pY at *
              generalize L[I].1.W = pW at *
              generalize L[I].1.H = pH at *
              generalize L[I].2.1 = pg at *
              generalize L[I].2.2 = pc at *
              generalize L[I].1.Q = pQ at *
              generalize hpn : pH * stride pW = pn at *
              have HPN : Hid (pH * stride pW = pn) := hpn
              clear hpn hIL
              have HMQ : Hid (Calls Try.prog 21 #[.agg #[.int .i64 pW, .int .i64 pH, .slice (some ⟨pg, 0, none⟩) pn pc]] wr fun e w'' => e = .returned (.bool true) ∧ Fr (fun _ => False) wr w'') := by
                have := may_any pW pH _ (render pW pH pQ) wr (by omega) (by omega) (HBQ.out _ HFr.out).seen (render_lt' _ _ _)
                rwa [render_valid pW pH pQ i1 i2 i5] at this
              go_wp2_with fail
              refine HMQ.out.mono ?_
              rintro e wa ⟨rfl, hfa⟩
              have HFa : Hid (Fr (fun k => k = g) w9 wa) := HFr.out.trans hfa (fun _ _ h => h.elim)
              have HUa : Hid (UsAt wa g nL u) := HU.out.kept hfa (fun h => h)
              clear hfa k0 k1 k2 k3 k4 HMQ HU
              obtain ⟨k0, k1, k2, k3, k4⟩ := HRL.out _ HFa.out
              go_wp2_with fail
              refine (rmirror_any pW pH _ pQ wa (HBQ.out _ HFa.out)).mono ?_
              rintro e wb ⟨gt, ct, rfl, hrt, hfb, hgt⟩
              rw [HPN.out]
              have HFb : Hid (Fr (fun k => k = g) w9 wb) := HFa.out.trans hfb (fun _ _ h => h.elim)
              have HUb : Hid (UsAt wb g nL u) := HUa.out.kept hfb (fun h => h)
              have HTb : Hid (RowAt wb gt ct pW pH (fun x y => pQ (pW - 1 - x) y) ∧ gt ≠ g) := ⟨hrt, by have := HGN.out _ HFa.out; omega⟩
              clear hrt hfb hgt k0 k1 k2 k3 k4 HUa
              go_wp2_with fail
              obtain ⟨wT, hwT⟩ : ∃ wT, wT = wb.alloc (.cells #[.int .i64 pW, .int .i64 pH, .slice (some ⟨gt, 0, none⟩) pn ct] 25) := ⟨_, rfl⟩
              have HFT : Hid (Fr (fun k => k = g) w9 wT) := by rw [hwT]; exact HFb.out.alloc _
              have HUT : Hid (UsAt wT g nL u) := by rw [hwT]; exact HUb.out.kept ((Fr.refl (fun _ => False) _).alloc _) (fun h => h)
              have HTT : Hid (∀ w', Fr (fun k => k = g) wT w' → (w'.cell? ⟨wb.heap.size, 0, none⟩ = some (.int .i64 pW) ∧ w'.cell? ⟨wb.heap.size, 1, none⟩ = some (.int .i64 pH) ∧ w'.cell? ⟨wb.heap.size, 2, none⟩ = some (.slice (some ⟨gt, 0, none⟩) pn ct)) ∧ Seen w' (.slice (some ⟨gt, 0, none⟩) pn ct) (render pW pH (fun x y => pQ (pW - 1 - x) y))) := fun w' f => by
                have hg := HGN.out _ HFb.out
                have hsz : wT.heap.size = wb.heap.size + 1 := by rw [hwT, World.size_alloc]
                have hb : wT.heap[wb.heap.size]? = some (.cells #[.int .i64 pW, .int .i64 pH, .slice (some ⟨gt, 0, none⟩) pn ct] 25 (0, 0)) := by rw [hwT]; exact heap_alloc_new _ _
                obtain ⟨z0, z1, z2, _⟩ := cell_of_three ((f.block _ (by omega) (by omega)).trans hb)
                have hr : RowAt wT gt ct pW pH (fun x y => pQ (pW - 1 - x) y) := by rw [hwT]; exact HTb.out.1.kept ((Fr.refl (fun _ => False) _).alloc _) (fun h => h)
                have hs := (hr.kept f HTb.out.2).seen (size_facts i1 i2 i5).2.2
                rw [HPN.out] at hs
                exact ⟨⟨z0, z1, z2⟩, hs⟩
              rw [← hwT]
              clear hwT HFb HUb HTb HFa HBQ
              obtain ⟨tb, HTBE⟩ : ∃ tb, Hid (tb = wb.heap.size) := ⟨_, rfl⟩
              rw [← HTBE.out] at HTT
              rw [← HTBE.out]
              clear HTBE
              obtain ⟨m, hm⟩ : ∃ m, m = W - pX - pW := ⟨_, rfl⟩
              have gm1 : (W : Int) - (pX : Int) - (pW : Int) = (m : Int) := by omega
              have gm2 : IntKind.i64.wrap ((W : Int) - (pX : Int)) = (W : Int) - (pX : Int) := by rw [IntKind.wrap_i64]; omega
              have gm3 : IntKind.i64.wrap ((W : Int) - (pX : Int) - (pW : Int)) = (m : Int) := by rw [IntKind.wrap_i64]; omega
              have gm6 : IntKind.i64.wrap (m : Int) = (m : Int) := by rw [IntKind.wrap_i64]; omega
              have HM : Hid (m = W - pX - pW) := hm
              clear hm
              go_loopg [12, 13] nL (fun q fv kv wr => ∃ (k : Nat) (fb : Bool) (u' : Nat → Bool), k + q = nL ∧ kv = .int .i64 k ∧ fv = .bool fb ∧ UsAt wr g nL u' ∧ Hid (fb = false → k ≤ σ I ∧ u' = u) ∧ Hid (fb = true → ∀ j, u' j = true ↔ (u j = true ∨ j = σ I)) ∧ Fr (fun k => k = g) wT wr)
              case atStart => exact ⟨0, false, u, by omega, rfl, rfl, HUT.out, (fun _ => ⟨Nat.zero_le _, rfl⟩), (fun h => absurd h Bool.false_ne_true), Fr.refl _ _⟩
              case round =>
                clear HUT
                obtain ⟨k, fb, u', hkq, rfl, rfl, hu, HNo, HYes, hfr⟩ := hrel
                have HUr : Hid (UsAt wr g nL u') := hu
                have HFx : Hid (Fr (fun k => k = g) wT wr) := hfr
                clear hu hfr
                cases fb with
                | true =>
                  have HIF : Hid (∀ k, u' k = true ↔ ∃ j, j < I + 1 ∧ σ j = k) := fun k => by
                    rw [HYes.out rfl k, HUI.out k]
                    constructor
                    · rintro (⟨j, h, e⟩ | e)
                      · exact ⟨j, by omega, e⟩
                      · exact ⟨I, by omega, e.symm⟩
                    · rintro ⟨j, h, e⟩
                      rcases Nat.lt_or_ge j I with h' | h'
                      · exact .inl ⟨j, h', e⟩
                      · obtain rfl : j = I := by omega
                        exact .inr e.symm
                  by_cases hk : k < nL
                  · have dk : decide (k < nL) = true := decide_eq_true hk
                    go_wp2_with fail
                    go_roundg (nL - (I + 1))
                    case measure => omega
                    case rel => exact ⟨I + 1, u', by omega, rfl, HUr.out, HIF, HFT.out.trans HFx.out (fun _ _ h => h)⟩
                  · have dk : decide (k < nL) = false := decide_eq_false hk
                    go_wp2_with fail
                    go_roundg (nL - (I + 1))
                    case measure => omega
                    case rel => exact ⟨I + 1, u', by omega, rfl, HUr.out, HIF, HFT.out.trans HFx.out (fun _ _ h => h)⟩
                | false =>
                  obtain ⟨hks, rfl⟩ := HNo.out rfl
                  have hsi := HSI.out
                  have hk : k < nL := by omega
                  have dk : decide (k < nL) = true := decide_eq_true hk
                  clear HNo HYes
                  have hkR : k < R.length := by have := HNL.out; have := HLEN.out; omega
                  have HF9 : Hid (Fr (fun k => k = g) w9 wr) := HFT.out.trans HFx.out (fun _ _ h => h)
                  obtain ⟨gR, rfl, r0, r1, r2, r3, r4⟩ := HRR.out wr HF9.out k hkR
                  obtain ⟨j1, j2, _, _, j5⟩ := HINR.out k hkR
                  have HRK : Hid (∀ w', Fr (fun k => k = g) wT w' → w'.cell? ⟨gR, k * 5, none⟩ = some (.int .i64 (R[k].1.X : Nat)) ∧ w'.cell? ⟨gR, k * 5 + 1, none⟩ = some (.int .i64 (R[k].1.Y : Nat)) ∧ w'.cell? ⟨gR, k * 5 + 2, none⟩ = some (.int .i64 (R[k].1.W : Nat)) ∧ w'.cell? ⟨gR, k * 5 + 3, none⟩ = some (.int .i64 (R[k].1.H : Nat)) ∧ w'.cell? ⟨gR, k * 5 + 4, none⟩ = some (.slice (some ⟨R[k].2.1, 0, none⟩) (R[k].1.H * stride R[k].1.W) R[k].2.2)) := fun w' f => by
                    obtain ⟨gL', e, r⟩ := HRR.out w' (HFT.out.trans f (fun _ _ h => h)) k hkR
                    simp only [Option.some.injEq, Addr.mk.injEq, and_true] at e
                    subst e
                    exact r
                  have HEQ : Hid (∀ w', Fr (fun k => k = g) wT w' → Calls Try.prog 20 #[.agg #[.int .i64 (R[k].1.W : Nat), .int .i64 (R[k].1.H : Nat), .slice (some ⟨R[k].2.1, 0, none⟩) (R[k].1.H * stride R[k].1.W) R[k].2.2], .agg #[.int .i64 pW, .int .i64 pH, .slice (some ⟨gt, 0, none⟩) pn ct]] w' fun e w'' => e = .returned (.bool (decide (R[k].1.W = pW ∧ R[k].1.H = pH ∧ render R[k].1.W R[k].1.H R[k].1.Q = render pW pH (fun x y => pQ (pW - 1 - x) y)))) ∧ Fr (fun _ => False) w' w'') := fun w' f => eqBitmap_any _ _ _ _ _ _ _ _ w' (HSR.out w' (HFT.out.trans f (fun _ _ h => h)) k hkR) (HTT.out w' f).2
                  have HMK : Hid ((R[k].1.Y = pY ∧ R[k].1.X = W - pX - pW ∧ R[k].1.W = pW ∧ R[k].1.H = pH ∧ render R[k].1.W R[k].1.H R[k].1.Q = render pW pH (fun x y => pQ (pW - 1 - x) y)) ↔ k = σ I) := HMT.out k hkR
                  generalize render R[k].1.W R[k].1.H R[k].1.Q = rr at *
                  generalize R[k].1.X = rX at *
                  generalize R[k].1.Y = rY at *
                  generalize R[k].1.W = rW at *
                  generalize R[k].1.H = rH at *
                  generalize R[k].2.1 = rg at *
                  generalize R[k].2.2 = rc at *
                  generalize rH * stride rW = rn at *
                  clear hkR
                  obtain ⟨k0, k1, k2, k3, k4⟩ := HRL.out _ HF9.out
                  obtain ⟨⟨t0, t1, t2⟩, _⟩ := HTT.out _ HFx.out
                  have c0 := HBX9.out _ HF9.out
                  have uc := HUr.out.cell hk
                  have uf := HUr.out.frozenAt k
                  cases huk : u' k with
                  | true =>
                    have hne : k ≠ σ I := HUN.out k huk
                    rw [huk] at uc
                    go_wp2_with fail
                    go_quiet (fail)
                    go_wp2_with fail
                    go_roundg (nL - (k + 1))
                    case measure => omega
                    case rel => exact ⟨k + 1, false, u', by omega, rfl, rfl, HUr.out.kept ((Fr.refl (fun _ => False) _).drewN _) (fun h => h), (fun _ => ⟨by omega, rfl⟩), (fun h => absurd h Bool.false_ne_true), HFx.out.drewN _⟩
                  | false =>
                    rw [huk] at uc
                    by_cases hY : rY = pY
                    case neg =>
                      have hne : k ≠ σ I := fun e => hY (HMK.out.2 e).1
                      have y1 : ((rY : Int) == (pY : Int)) = false := by rw [beq_eq_false_iff_ne]; omega
                      have y2 : decide (rY = pY) = false := decide_eq_false hY
                      have y3 : decide ((rY : Int) = (pY : Int)) = false := decide_eq_false (by omega)
                      have y4 : (rY == pY) = false := by rw [beq_eq_false_iff_ne]; exact hY
                      go_wp2_with fail
                      go_quiet (fail)
                      go_wp2_with fail
                      go_roundg (nL - (k + 1))
                      case measure => omega
                      case rel => exact ⟨k + 1, false, u', by omega, rfl, rfl, HUr.out.kept ((Fr.refl (fun _ => False) _).drewN _) (fun h => h), (fun _ => ⟨by omega, rfl⟩), (fun h => absurd h Bool.false_ne_true), HFx.out.drewN _⟩
                    case pos =>
                      subst hY
                      have y1 : ((rY : Int) == (rY : Int)) = true := by simp
                      by_cases hX : rX = m
                      case neg =>
                        have hne : k ≠ σ I := fun e => hX ((HMK.out.2 e).2.1.trans HM.out.symm)
                        have x1 : ((rX : Int) == (m : Int)) = false := by rw [beq_eq_false_iff_ne]; omega
                        have x2 : decide (rX = m) = false := decide_eq_false hX
                        have x3 : decide ((rX : Int) = (m : Int)) = false := decide_eq_false (by omega)
                        have x4 : (rX == m) = false := by rw [beq_eq_false_iff_ne]; exact hX
                        go_wp2_with fail
                        go_quiet (fail)
                        go_wp2_with fail
                        go_roundg (nL - (k + 1))
                        case measure => omega
                        case rel => exact ⟨k + 1, false, u', by omega, rfl, rfl, HUr.out.kept ((Fr.refl (fun _ => False) _).drewN _) (fun h => h), (fun _ => ⟨by omega, rfl⟩), (fun h => absurd h Bool.false_ne_true), HFx.out.drewN _⟩
                      case pos =>
                        subst hX
                        have x1 : ((rX : Int) == (rX : Int)) = true := by simp
                        have HHD : Hid (∀ w', Fr (fun _ => False) wr w' → w'.cell? ⟨g, k, none⟩ = some (.bool false) ∧ w'.cell? ⟨gR, k * 5, none⟩ = some (.int .i64 rX) ∧ w'.cell? ⟨gR, k * 5 + 1, none⟩ = some (.int .i64 rY) ∧ w'.cell? ⟨gR, k * 5 + 2, none⟩ = some (.int .i64 rW) ∧ w'.cell? ⟨gR, k * 5 + 3, none⟩ = some (.int .i64 rH) ∧ w'.cell? ⟨gR, k * 5 + 4, none⟩ = some (.slice (some ⟨rg, 0, none⟩) rn rc) ∧ w'.cell? ⟨gL, I * 5, none⟩ = some (.int .i64 pX) ∧ w'.cell? ⟨gL, I * 5 + 1, none⟩ = some (.int .i64 rY) ∧ w'.cell? ⟨gL, I * 5 + 2, none⟩ = some (.int .i64 pW) ∧ w'.cell? ⟨w.heap.size, 0, none⟩ = some (.int .i64 W) ∧ w'.cell? ⟨tb, 0, none⟩ = some (.int .i64 pW) ∧ w'.cell? ⟨tb, 1, none⟩ = some (.int .i64 pH) ∧ w'.cell? ⟨tb, 2, none⟩ = some (.slice (some ⟨gt, 0, none⟩) pn ct)) := fun w' f => by
                          have fT : Fr (fun k => k = g) wT w' := HFx.out.trans f (fun _ _ h => h.elim)
                          have f9 : Fr (fun k => k = g) w9 w' := HFT.out.trans fT (fun _ _ h => h)
                          obtain ⟨a0, a1, a2, a3, a4⟩ := HRK.out w' fT
                          obtain ⟨b0, b1, b2, _, _⟩ := HRL.out w' f9
                          obtain ⟨⟨d0, d1, d2⟩, _⟩ := HTT.out w' fT
                          have e0 := (HUr.out.kept f (fun h => h)).cell hk
                          rw [huk] at e0
                          exact ⟨e0, a0, a1, a2, a3, a4, b0, b1, b2, HBX9.out w' f9, d0, d1, d2⟩
                        by_cases hB : rW = pW ∧ rH = pH ∧ rr = render pW pH (fun x y => pQ (pW - 1 - x) y)
                        case neg =>
                          have hne : k ≠ σ I := fun e => hB (HMK.out.2 e).2.2
                          rw [decide_eq_false hB] at HEQ
                          clear hB
                          go_wp2_with fail
                          go_region_held3 (fun w' => w'.cell? ⟨g, k, none⟩ = some (.bool false) ∧ w'.cell? ⟨gR, k * 5, none⟩ = some (.int .i64 rX) ∧ w'.cell? ⟨gR, k * 5 + 1, none⟩ = some (.int .i64 rY) ∧ w'.cell? ⟨gR, k * 5 + 2, none⟩ = some (.int .i64 rW) ∧ w'.cell? ⟨gR, k * 5 + 3, none⟩ = some (.int .i64 rH) ∧ w'.cell? ⟨gR, k * 5 + 4, none⟩ = some (.slice (some ⟨rg, 0, none⟩) rn rc) ∧ w'.cell? ⟨gL, I * 5, none⟩ = some (.int .i64 pX) ∧ w'.cell? ⟨gL, I * 5 + 1, none⟩ = some (.int .i64 rY) ∧ w'.cell? ⟨gL, I * 5 + 2, none⟩ = some (.int .i64 pW) ∧ w'.cell? ⟨w.heap.size, 0, none⟩ = some (.int .i64 W) ∧ w'.cell? ⟨tb, 0, none⟩ = some (.int .i64 pW) ∧ w'.cell? ⟨tb, 1, none⟩ = some (.int .i64 pH) ∧ w'.cell? ⟨tb, 2, none⟩ = some (.slice (some ⟨gt, 0, none⟩) pn ct)) (exact HHD.out _ (by repeat (first | with_reducible exact Fr.refl _ _ | with_reducible refine Fr.drew ?_ | with_reducible refine Fr.drewN ?_ _ | with_reducible refine Fr.trans ?_ hf12 (fun _ _ h => h.elim)))) (first | (go_at_call 20; refine (HEQ.out _ (by repeat (first | with_reducible exact Fr.refl _ _ | with_reducible exact HFx.out | with_reducible refine Fr.drew ?_ | with_reducible refine Fr.drewN ?_ _ | with_reducible refine Fr.trans ?_ hf12 (fun _ _ h => h.elim)))).mono ?_; rintro e w12 ⟨rfl, hf12⟩))
                          have HF12 : Hid (Fr (fun _ => False) wr w12) := ((Fr.refl (fun _ => False) wr).drew).trans hf12 (fun _ _ h => h)
                          clear hf12 uc k0 k1 k2 k3 k4 t0 t1 t2 c0 r0 r1 r2 r3 r4 uf
                          go_wp2_with fail
                          go_roundg (nL - (k + 1))
                          case measure => omega
                          case rel => exact ⟨k + 1, false, u', by omega, rfl, rfl, HUr.out.kept HF12.out (fun h => h), (fun _ => ⟨by omega, rfl⟩), (fun h => absurd h Bool.false_ne_true), HFx.out.trans HF12.out (fun _ _ h => h.elim)⟩
                        case pos =>
                          have hke : k = σ I := HMK.out.1 ⟨rfl, HM.out, hB⟩
                          rw [decide_eq_true hB] at HEQ
                          have HKE : Hid (k = σ I) := hke
                          clear hB hke
                          go_wp2_with fail
                          go_region_held3 (fun w' => w'.cell? ⟨g, k, none⟩ = some (.bool false) ∧ w'.cell? ⟨gR, k * 5, none⟩ = some (.int .i64 rX) ∧ w'.cell? ⟨gR, k * 5 + 1, none⟩ = some (.int .i64 rY) ∧ w'.cell? ⟨gR, k * 5 + 2, none⟩ = some (.int .i64 rW) ∧ w'.cell? ⟨gR, k * 5 + 3, none⟩ = some (.int .i64 rH) ∧ w'.cell? ⟨gR, k * 5 + 4, none⟩ = some (.slice (some ⟨rg, 0, none⟩) rn rc) ∧ w'.cell? ⟨gL, I * 5, none⟩ = some (.int .i64 pX) ∧ w'.cell? ⟨gL, I * 5 + 1, none⟩ = some (.int .i64 rY) ∧ w'.cell? ⟨gL, I * 5 + 2, none⟩ = some (.int .i64 pW) ∧ w'.cell? ⟨w.heap.size, 0, none⟩ = some (.int .i64 W) ∧ w'.cell? ⟨tb, 0, none⟩ = some (.int .i64 pW) ∧ w'.cell? ⟨tb, 1, none⟩ = some (.int .i64 pH) ∧ w'.cell? ⟨tb, 2, none⟩ = some (.slice (some ⟨gt, 0, none⟩) pn ct)) (exact HHD.out _ (by repeat (first | with_reducible exact Fr.refl _ _ | with_reducible refine Fr.drew ?_ | with_reducible refine Fr.drewN ?_ _ | with_reducible refine Fr.trans ?_ hf12 (fun _ _ h => h.elim)))) (first | (go_at_call 20; refine (HEQ.out _ (by repeat (first | with_reducible exact Fr.refl _ _ | with_reducible exact HFx.out | with_reducible refine Fr.drew ?_ | with_reducible refine Fr.drewN ?_ _ | with_reducible refine Fr.trans ?_ hf12 (fun _ _ h => h.elim)))).mono ?_; rintro e w12 ⟨rfl, hf12⟩))
                          have HF12 : Hid (Fr (fun _ => False) wr w12) := ((Fr.refl (fun _ => False) wr).drew).trans hf12 (fun _ _ h => h)
                          have HU12 : Hid (UsAt w12 g nL u') := HUr.out.kept HF12.out (fun h => h)
                          clear hf12 uc k0 k1 k2 k3 k4 t0 t1 t2 c0 r0 r1 r2 r3 r4 uf
                          have uc := HU12.out.cell hk
                          have uf := HU12.out.frozenAt k
                          go_wp2_with fail
                          go_roundg (nL - (k + 1))
                          case measure => omega
                          case rel => exact ⟨k + 1, true, _, by omega, rfl, rfl, HU12.out.put hk true, (fun h => absurd h (fun e => Bool.noConfusion e)), (fun _ j => by
                            rw [← HKE.out]
                            by_cases e : j = k
                            · simp [e]
                            · simp [e]), (HFx.out.trans HF12.out (fun _ _ h => h.elim)).setCell (fun _ => rfl) _⟩
            · have dI : decide (I < nL) = false := decide_eq_false hIn
              go_wp2_with fail
              refine (wakes_any _).mono ?_
              rintro e w13 ⟨rfl, hf13⟩
              have HF13 : Hid (Fr (fun _ => False) w w13) := (HTOP.out _ HFr.out).trans hf13 (fun _ _ h => h)
              clear hf13
              go_wp2_with fail
              go_ret
              exact ⟨rfl, HF13.out⟩

end Go.Proofs.Ytgpciopoionmeaa
