/- The law 'CompsApart'. -/
import Derived.Test.YtgpciopoionmeaaWk
import Derived.Test.YtgpciopoionmeaaAk
import Derived.Test.YtgpciopoionmeaaSm
import Derived.Test.YtgpciopoionmeaaFr2
namespace Go.Proofs.Ytgpciopoionmeaa
open Go.RowKit

theorem rise_lenA {n : Nat} : ∀ (l : List Nat) (lo : Nat), l.Pairwise (· < ·) → (∀ a ∈ l, lo ≤ a ∧ a < n) → lo ≤ n → lo + l.length ≤ n
  | [], _, _, _, h => by simpa using h
  | x :: t, lo, hp, hm, h => by
    obtain ⟨h1, h2⟩ := List.pairwise_cons.1 hp
    have hx := hm x (List.mem_cons_self ..)
    have := rise_lenA t (x + 1) h2 (fun a ha => ⟨h1 a ha, (hm a (List.mem_cons_of_mem _ ha)).2⟩) (by omega)
    simp only [List.length_cons]; omega
/-- There are no more pieces than pixels. -/
theorem rise_len' {W H : Nat} {P : Nat → Nat → Bool} {fs : List (Nat × Nat)} (hf : Firsts (Bk W H P) fs) : fs.length ≤ W * H := by
  have := rise_lenA (n := H * W) (fs.map fun p => p.2 * W + p.1) 0 ?_ ?_ (Nat.zero_le _)
  · rw [List.length_map, Nat.mul_comm H W] at this; omega
  · rw [List.pairwise_map]
    refine hf.sorted.imp_of_mem (fun {a b} ha hb h => ?_)
    have h1 := ((hf.mem a).1 ha).1.1
    rcases h with h | ⟨e, h⟩
    · have := Nat.mul_le_mul_right W (show a.2 + 1 ≤ b.2 by omega)
      rw [Nat.add_mul, Nat.one_mul] at this
      omega
    · rw [e]; omega
  · intro a ha
    obtain ⟨p, hp, rfl⟩ := List.mem_map.1 ha
    have h1 := ((hf.mem p).1 hp).1
    have := Nat.mul_le_mul_right W (show p.2 + 1 ≤ H from h1.2.1)
    rw [Nat.add_mul, Nat.one_mul] at this
    have := h1.1
    exact ⟨Nat.zero_le _, by omega⟩


def fstV (W : Nat) (fI a : Nat × Nat) : Int := if fI.2 < a.2 ∨ (fI.2 = a.2 ∧ fI.1 < a.1) then (idx W fI : Nat) else -1
def lastI (W : Nat) (fs : List (Nat × Nat)) (I : Nat) : Int := if I = 0 then -1 else (idx W (fs[I - 1]?.getD (0, 0)) : Nat)

set_option maxRecDepth 100000 in
set_option maxHeartbeats 8000000 in
theorem apart_any (x y : Int) (v : Value) (l : List Nat) (w : World) (hx : -9223372036854775808 ≤ x ∧ x ≤ 9223372036854775807) (hy : -9223372036854775808 ≤ y ∧ y ≤ 9223372036854775807) (hv : Seen w v l) (hcap : CapOK v) (hlt : ∀ j : Nat, l[j]?.getD 0 < 18446744073709551616) :
    Calls Try.prog 6 #[.agg #[.int .i64 x, .int .i64 y, v]] w fun e w' => e = .returned (.bool true) ∧ Fr (fun _ => False) w w' := by
  have HMY : Hid (∀ w', Fr (fun _ => False) w w' → Calls Try.prog 21 #[.agg #[.int .i64 x, .int .i64 y, v]] w' fun e w'' => e = .returned (.bool (validB x y l)) ∧ Fr (fun _ => False) w' w'') := fun w' hf => may_any x y v l w' hx hy (hv.kept hf) hlt
  have HV : Hid (validB x y l = true → ∃ (W H : Nat) (P : Nat → Nat → Bool), x = W ∧ y = H ∧ l = render W H P ∧ Bm w v W H P) := fun h => valid_bm h hv hcap hlt
  obtain ⟨ao, cap, rfl, -, -⟩ := hv
  have HBX : Hid (∀ w', Fr (fun _ => False) (w.alloc (.cells #[.int .i64 x, .int .i64 y, .slice ao l.length cap] 25)) w' → w'.cell? ⟨w.heap.size, 0, none⟩ = some (.int .i64 x) ∧ w'.cell? ⟨w.heap.size, 1, none⟩ = some (.int .i64 y) ∧ w'.cell? ⟨w.heap.size, 2, none⟩ = some (.slice ao l.length cap)) := fun w' hf => by
    have hB : w'.heap[w.heap.size]? = some (.cells #[.int .i64 x, .int .i64 y, .slice ao l.length cap] 25 (0, 0)) := by
      rw [hf.block _ (by simp) (fun hh => hh)]; exact heap_alloc_new _ _
    obtain ⟨c0, c1, c2, _⟩ := cell_of_three hB
    exact ⟨c0, c1, c2⟩
  have HA : Hid (Fr (fun _ => False) w (w.alloc (.cells #[.int .i64 x, .int .i64 y, .slice ao l.length cap] 25))) := (Fr.refl _ _).alloc _
  clear hcap hlt hx hy
  go_enter Try.func6, Try.ntmps6
  go_wp2_with fail
  generalize w.alloc (.cells #[.int .i64 x, .int .i64 y, .slice ao l.length cap] 25) = w0 at *
  refine (HMY.out _ HA.out).mono ?_
  rintro e w1 ⟨rfl, hf1⟩
  have HF1 : Hid (Fr (fun _ => False) w0 w1) := hf1
  obtain ⟨c0, c1, c2⟩ := HBX.out _ hf1
  clear hf1 HMY
  by_cases hval : validB x y l = true
  case neg =>
    rw [Bool.not_eq_true] at hval
    rw [hval]
    clear c0 c1 c2
    go_wp2_with fail
    refine (wakes_any _).mono ?_
    rintro e w3 ⟨rfl, hf3⟩
    have HF3 : Hid (Fr (fun _ => False) w w3) := (HA.out.trans HF1.out (fun _ _ h => h)).trans hf3 (fun _ _ h => h)
    clear hf3
    go_wp2_with fail
    go_ret
    exact ⟨rfl, HF3.out⟩
  case pos =>
    rw [hval]
    obtain ⟨W, H, P, rfl, rfl, rfl, hbm⟩ := HV.out hval
    have HBm : Hid (∀ w', Fr (fun _ => False) w w' → Bm w' (.slice ao (render W H P).length cap) W H P) := fun w' f => hbm.kept f
    obtain ⟨f1, f2, f3⟩ := size_facts hbm.h1 hbm.h2 hbm.h3
    have HW : Hid (1 ≤ W ∧ 1 ≤ H ∧ W * H ≤ 1048576) := ⟨hbm.h1, hbm.h2, hbm.h3⟩
    clear hbm hval HV f3
    generalize (render W H P).length = n at *
    have hWHb := HW.out.2.2
    obtain ⟨N, hN⟩ : ∃ N, N = W * H := ⟨_, rfl⟩
    have HN : Hid (N = W * H) := hN
    have gN : IntKind.i64.wrap ((W : Int) * (H : Int)) = (N : Int) := by rw [IntKind.wrap_i64, ← Int.natCast_mul, ← hN]; omega
    have gN2 : (W : Int) * (H : Int) = (N : Int) := by rw [← Int.natCast_mul, ← hN]
    have hNb : N ≤ 1048576 := by omega
    clear hN hWHb
    by_cases hbig : 3000 < N
    case pos =>
      have db : decide ((3000 : Int) < (N : Int)) = true := decide_eq_true (by omega)
      go_wp2_with fail
      refine (wakes_any _).mono ?_
      rintro e w3 ⟨rfl, hf3⟩
      have HF3 : Hid (Fr (fun _ => False) w w3) := (HA.out.trans HF1.out (fun _ _ h => h)).trans hf3 (fun _ _ h => h)
      clear hf3
      go_wp2_with fail
      go_ret
      exact ⟨rfl, HF3.out⟩
    case neg =>
      have db : decide ((3000 : Int) < (N : Int)) = false := decide_eq_false (by omega)
      go_wp2_with fail
      refine (small_any w1.heap.size 0 1 1 20000 _ (by omega) (fun i hi => ?_)).mono ?_
      · obtain rfl : i = 0 := by omega
        obtain ⟨_, _, k2, _⟩ := cell_of_three (heap_alloc_new w1 (.cells #[.int .i64 (W : Int), .int .i64 (H : Int), .slice ao n cap] 25))
        exact ⟨ao, n, cap, k2⟩
      rintro e w2 ⟨bb, rfl, q, hw2⟩
      have HF2 : Hid (Fr (fun _ => False) w0 w2) := by rw [hw2]; exact (HF1.out.alloc _).drewN q
      clear hw2 c0 c1 c2
      cases bb with
      | false =>
        go_wp2_with fail
        refine (wakes_any _).mono ?_
        rintro e w3 ⟨rfl, hf3⟩
        have HF3 : Hid (Fr (fun _ => False) w w3) := (HA.out.trans HF2.out (fun _ _ h => h)).trans hf3 (fun _ _ h => h)
        clear hf3
        go_wp2_with fail
        go_ret
        exact ⟨rfl, HF3.out⟩
      | true =>
        obtain ⟨c0, c1, c2⟩ := HBX.out _ HF2.out
        go_wp2_with fail
        refine (cof_ok W H _ P _ (HBm.out _ (HA.out.trans HF2.out (fun _ _ h => h)))).mono ?_
        rintro e w3 ⟨rv, L, fs, rfl, ho3, hfs, hps, hf3⟩
        have HO3 : Hid (OwnPs w3 w2.heap.size rv L) := ho3
        have HFS : Hid (Firsts (Bk W H P) fs) := hfs
        have HPS : Hid (Pcs (Bk W H P) fs (L.map (·.1))) := hps
        have HF3 : Hid (Fr (fun _ => False) w0 w3) := HF2.out.trans hf3 (fun _ _ h => h)
        obtain ⟨aoL, cL, rfl⟩ := own_slice ho3.own
        have hLb := of_len ho3.own
        have hfl : fs.length = L.length := by have := hps.length; rw [List.length_map] at this; omega
        clear ho3 hf3 hfs hps c0 c1 c2
        obtain ⟨c0, c1, c2⟩ := HBX.out _ HF3.out
        obtain ⟨i0, hi, hz0, hz1, hz2⟩ := info_parts Try.infoInt
        go_wp2_with (first | (at_make; refine wpList_make_full _ rfl _ _ 47 rfl w3.heap.size 3 i0 (.int .i64 0) 1 Try.underlying47 hi hz0 hz1 .i64 .i64 _ _ N rfl rfl ?_ ?_ ?_ ?_ ?_ ?_))
        · rfl
        · rfl
        · rw [hz2]; omega
        · unfold maxLen; omega
        · omega
        · intro w4 hown4 hgrow4
          have HF34 : Hid (Fr (fun _ => False) w3 w4) := (Fr.refl _ _).grown hgrow4 (fun _ e _ => by cases e)
          have HOW : Hid (FoAt w4 w3.heap.size N (selfF 0)) := by
            have := ownsRow_base (b' := 0) hown4 (fun _ _ => Nat.zero_le _)
            rw [toList_madeCells_one, intCells_zero] at this
            exact this
          clear hown4 hgrow4 c0 c1 c2 hi hz0 hz1 hz2 i0
          obtain ⟨g, HG⟩ : ∃ g, Hid (g = w3.heap.size) := ⟨_, rfl⟩
          rw [← HG.out] at HOW
          rw [← HG.out]
          have HGN : Hid (∀ k, k < w3.heap.size → k = g → False) := fun k h e => by have := HG.out; omega
          have HIN : Hid (∀ (I : Nat) (h : I < L.length), 1 ≤ L[I].1.W ∧ 1 ≤ L[I].1.H ∧ L[I].1.X + L[I].1.W ≤ W ∧ L[I].1.Y + L[I].1.H ≤ H ∧ L[I].1.W * L[I].1.H ≤ 1048576) := fun I h => by
            have hm : L[I].1 ∈ L.map (·.1) := List.mem_map.2 ⟨_, List.getElem_mem h, rfl⟩
            have h1 := pcs_in HPS.out hm
            exact ⟨h1.1, h1.2.1, h1.2.2.1, h1.2.2.2, pcs_area HPS.out HW.out.2.2 hm⟩
          have HSE : Hid (∀ w', Fr (fun _ => False) w3 w' → ∀ (I : Nat) (h : I < L.length), Bm w' (.slice (some ⟨L[I].2.1, 0, none⟩) (L[I].1.H * stride L[I].1.W) L[I].2.2) L[I].1.W L[I].1.H L[I].1.Q) := fun w' f I h => by
            obtain ⟨i1, i2, _, _, i5⟩ := HIN.out I h
            have hr := ((HO3.out.kept f (fun _ _ h => h)).at_ L[I] (List.getElem_mem h)).1
            refine ⟨hr.seen (size_facts i1 i2 i5).2.2, fun ao n c e => ?_, i1, i2, i5⟩
            simp only [Value.slice.injEq] at e
            obtain ⟨_, rfl, rfl⟩ := e
            exact of_slice hr
          have HRD : Hid (∀ w', Fr (fun _ => False) w3 w' → ∀ (I : Nat) (h : I < L.length), ∃ gL, aoL = some ⟨gL, 0, none⟩ ∧ w'.cell? ⟨gL, I * 5, none⟩ = some (.int .i64 (L[I].1.X : Nat)) ∧ w'.cell? ⟨gL, I * 5 + 1, none⟩ = some (.int .i64 (L[I].1.Y : Nat)) ∧ w'.cell? ⟨gL, I * 5 + 2, none⟩ = some (.int .i64 (L[I].1.W : Nat)) ∧ w'.cell? ⟨gL, I * 5 + 3, none⟩ = some (.int .i64 (L[I].1.H : Nat)) ∧ w'.cell? ⟨gL, I * 5 + 4, none⟩ = some (.slice (some ⟨L[I].2.1, 0, none⟩) (L[I].1.H * stride L[I].1.W) L[I].2.2)) := fun w' f I h => by
            have ho := (HO3.out.kept f (fun _ _ h => h)).own
            obtain ⟨gL, kL, e, _⟩ := row_form ho (by omega)
            simp only [Value.slice.injEq] at e
            obtain ⟨rfl, _, rfl⟩ := e
            obtain ⟨a0, a1, a2, a3, a4⟩ := cellsPs_at L I h
            rw [← ho.cellAt _ (by omega)] at a0 a1 a2 a3 a4
            exact ⟨gL, rfl, a0, a1, a2, a3, a4⟩
          have HIS : Hid (∀ (I : Nat) (h : I < L.length), ∃ fI, fs[I]? = some fI ∧ First (Bk W H P) fI ∧ IsPc (Bk W H P) fI L[I].1) := fun I h => by
            obtain ⟨f, hf, hi⟩ := HPS.out.at (k := I) (p := L[I].1) (by rw [List.getElem?_map, List.getElem?_eq_getElem h]; rfl)
            exact ⟨f, hf, (HFS.out.mem f).1 (List.mem_of_getElem? hf), hi⟩
          have HDI : Hid (∀ I fI j fj, fs[I]? = some fI → j < I → fs[j]? = some fj → ∀ p, PC (Bk W H P) fj p → ¬ PC (Bk W H P) fI p) := fun I fI j fj hI hj hfj p h1 h2 => by
            have eq := first_uniq ((HFS.out.mem fj).1 (List.mem_of_getElem? hfj)) ((HFS.out.mem fI).1 (List.mem_of_getElem? hI)) (h1.trans h2.symm)
            obtain ⟨l1, e1⟩ := List.getElem?_eq_some_iff.1 hfj
            obtain ⟨l2, e2⟩ := List.getElem?_eq_some_iff.1 hI
            have := List.pairwise_iff_getElem.1 HFS.out.sorted j I l1 l2 hj
            rw [e1, e2, eq] at this
            exact ras_irrefl _ this
          have HLA : Hid (∀ I fI, fs[I]? = some fI → lastI W fs I < (idx W fI : Nat)) := fun I fI hI => by
            unfold lastI
            split
            · omega
            · obtain ⟨l2, e2⟩ := List.getElem?_eq_some_iff.1 hI
              have l1 : I - 1 < fs.length := by omega
              have := List.pairwise_iff_getElem.1 HFS.out.sorted (I - 1) I l1 l2 (by omega)
              rw [e2] at this
              rw [List.getElem?_eq_getElem l1, Option.getD_some]
              have hm := ((HFS.out.mem fs[I - 1]).1 (List.getElem_mem l1)).1.1
              have := idx_ras hm this
              omega
          have HLS : Hid (∀ I fI, fs[I]? = some fI → lastI W fs (I + 1) = (idx W fI : Nat)) := fun I fI hI => by
            unfold lastI
            rw [if_neg (by omega), Nat.add_sub_cancel, hI]; rfl
          have HOV : Hid (∀ f, OwnB W H (Bk W H P) fs L.length (0, 0) f → ∀ p, p.1 < W → p.2 < H → (P p.1 p.2 = false → f (idx W p) = 0) ∧ (P p.1 p.2 = true → ∃ j fj, j < L.length ∧ fs[j]? = some fj ∧ PC (Bk W H P) fj p ∧ f (idx W p) = j + 1)) := fun f hO p h1 h2 => by
            constructor
            · intro hp
              refine hO.none p h1 h2 (fun j fj hj hf hpc => ?_) (fun fI hI => ?_)
              · have := hpc.right.2.2; rw [hp] at this; cases this
              · rw [List.getElem?_eq_none (by omega)] at hI; cases hI
            · intro hp
              obtain ⟨f0, hf0, hpc⟩ := exists_first _ p rfl (show Bk W H P p from ⟨h1, h2, hp⟩)
              obtain ⟨j, hj, e⟩ := List.getElem_of_mem ((HFS.out.mem f0).2 hf0)
              have hfj : fs[j]? = some f0 := by rw [List.getElem?_eq_getElem hj, e]
              exact ⟨j, f0, by omega, hfj, hpc, hO.old p h1 h2 j f0 (by omega) hfj hpc⟩
          have HFB : Hid (∀ I f, OwnB W H (Bk W H P) fs I (0, 0) f → True) := fun _ _ _ => trivial
          clear HPS HO3 HFB
          go_wp2_with fail
          go_loopg [6, 7] L.length (fun q la ii wr => ∃ (I : Nat) (f : Nat → Nat), I + q = L.length ∧ ii = .int .i64 I ∧ la = .int .i64 (lastI W fs I) ∧ FoAt wr g N f ∧ OwnB W H (Bk W H P) fs I (0, 0) f ∧ (∀ k, f k ≤ L.length) ∧ Fr (fun _ => False) w3 wr)
          case atStart => exact ⟨0, selfF 0, by omega, rfl, rfl, HOW.out, ownB_zero _ (fun p h => by unfold ras at h; simp at h), fun k => by unfold selfF; simp, HF34.out⟩
          case round =>
            clear HOW HF34
            obtain ⟨I, f, hIq, rfl, rfl, ho, hown, hfl2, hfr⟩ := hrel
            have HO : Hid (FoAt wr g N f) := ho
            have HOB : Hid (OwnB W H (Bk W H P) fs I (0, 0) f) := hown
            have HFL : Hid (∀ k, f k ≤ L.length) := hfl2
            have HFr : Hid (Fr (fun _ => False) w3 wr) := hfr
            clear ho hown hfl2 hfr
            by_cases hIL : I < L.length
            · have dI : decide (I < L.length) = true := decide_eq_true hIL
              obtain ⟨gL, rfl, k0, k1, k2, k3, k4⟩ := HRD.out wr HFr.out I hIL
              obtain ⟨i1, i2, i3, i4, i5⟩ := HIN.out I hIL
              obtain ⟨fI, hfI, hFI, hIS⟩ := HIS.out I hIL
              have HBQ : Hid (∀ w', Fr (fun _ => False) w3 w' → Bm w' (.slice (some ⟨L[I].2.1, 0, none⟩) (L[I].1.H * stride L[I].1.W) L[I].2.2) L[I].1.W L[I].1.H L[I].1.Q) := fun w' f => HSE.out w' f I hIL
              have HPX : Hid (∀ x y, x < L[I].1.W → y < L[I].1.H → (L[I].1.Q x y = true ↔ PC (Bk W H P) fI (L[I].1.X + x, L[I].1.Y + y))) := hIS.pix
              have HBO : Hid (∀ q, PC (Bk W H P) fI q → L[I].1.X ≤ q.1 ∧ q.1 < L[I].1.X + L[I].1.W ∧ L[I].1.Y ≤ q.2 ∧ q.2 < L[I].1.Y + L[I].1.H) := hIS.box
              have HFI : Hid (First (Bk W H P) fI) := hFI
              have HFE : Hid (fs[I]? = some fI) := hfI
              have HLI := HLA.out I fI hfI
              have HLS1 : Hid (lastI W fs (I + 1) = (idx W fI : Nat)) := HLS.out I fI hfI
              have HDJ : Hid (∀ j fj, j < I → fs[j]? = some fj → ∀ p, PC (Bk W H P) fj p → ¬ PC (Bk W H P) fI p) := fun j fj hj hfj => HDI.out I fI j fj hfI hj hfj
              clear hIS hFI hfI
              generalize L[I].1.X = pX at *
              generalize L[I].1.Y = pY at *
              generalize L[I].1.W = pW at *
              generalize L[I].1.H = pH at *
              generalize L[I].2.1 = pg at *
              generalize L[I].2.2 = pc at *
              generalize L[I].1.Q = pQ at *
              generalize hpn : pH * stride pW = pn at *
              clear hpn
              have HNB : Hid (∀ S w', Fr S (wr.alloc (.cells #[.int .i64 pX, .int .i64 pY, .int .i64 pW, .int .i64 pH, .slice (some ⟨pg, 0, none⟩) pn pc] 34)) w' → ¬ S wr.heap.size → w'.cell? ⟨wr.heap.size, 0, none⟩ = some (.int .i64 pX) ∧ w'.cell? ⟨wr.heap.size, 1, none⟩ = some (.int .i64 pY) ∧ w'.cell? ⟨wr.heap.size, 2, none⟩ = some (.int .i64 pW) ∧ w'.cell? ⟨wr.heap.size, 3, none⟩ = some (.int .i64 pH) ∧ w'.cell? ⟨wr.heap.size, 4, none⟩ = some (.slice (some ⟨pg, 0, none⟩) pn pc)) := fun S w' f hS => by
                obtain ⟨z0, z1, z2, z3, z4, _⟩ := cell_of_five ((f.block wr.heap.size (by simp) hS).trans (heap_alloc_new wr (.cells #[.int .i64 pX, .int .i64 pY, .int .i64 pW, .int .i64 pH, .slice (some ⟨pg, 0, none⟩) pn pc] 34)))
                exact ⟨z0, z1, z2, z3, z4⟩
              have HGW : Hid (g < wr.heap.size) := HO.out.lt
              have HFA : Hid (Fr (fun _ => False) w3 (wr.alloc (.cells #[.int .i64 pX, .int .i64 pY, .int .i64 pW, .int .i64 pH, .slice (some ⟨pg, 0, none⟩) pn pc] 34))) := HFr.out.alloc _
              have HOA : Hid (FoAt (wr.alloc (.cells #[.int .i64 pX, .int .i64 pY, .int .i64 pW, .int .i64 pH, .slice (some ⟨pg, 0, none⟩) pn pc] 34)) g N f) := HO.out.kept ((Fr.refl (fun _ => False) _).alloc _) (fun h => h)
              obtain ⟨n0, n1, n2, n3, n4'⟩ := HNB.out (fun _ => False) _ (Fr.refl _ _) (fun h => h)
              have HMQ : Hid (Calls Try.prog 21 #[.agg #[.int .i64 pW, .int .i64 pH, .slice (some ⟨pg, 0, none⟩) pn pc]] (wr.alloc (.cells #[.int .i64 pX, .int .i64 pY, .int .i64 pW, .int .i64 pH, .slice (some ⟨pg, 0, none⟩) pn pc] 34)) fun e w'' => e = .returned (.bool true) ∧ Fr (fun _ => False) (wr.alloc (.cells #[.int .i64 pX, .int .i64 pY, .int .i64 pW, .int .i64 pH, .slice (some ⟨pg, 0, none⟩) pn pc] 34)) w'') := by
                have := may_any pW pH _ (render pW pH pQ) _ (by omega) (by omega) (HBQ.out _ HFA.out).seen (render_lt' _ _ _)
                rwa [render_valid pW pH pQ i1 i2 i5] at this
              go_wp2_with fail
              generalize hwa : wr.alloc (.cells #[.int .i64 pX, .int .i64 pY, .int .i64 pW, .int .i64 pH, .slice (some ⟨pg, 0, none⟩) pn pc] 34) = wa at *
              clear hwa
              refine HMQ.out.mono ?_
              rintro e w7 ⟨rfl, hf7⟩
              have HF7 : Hid (Fr (fun _ => False) wa w7) := hf7
              have HF37 : Hid (Fr (fun _ => False) w3 w7) := HFA.out.trans hf7 (fun _ _ h => h)
              have HO7 : Hid (FoAt w7 g N f) := HOA.out.kept hf7 (fun h => h)
              clear n0 n1 n2 n3 n4' k0 k1 k2 k3 k4 hf7 HMQ HOA
              have HNG : Hid (∀ w', Fr (fun k => k = g) w7 w' → w'.cell? ⟨wr.heap.size, 0, none⟩ = some (.int .i64 pX) ∧ w'.cell? ⟨wr.heap.size, 1, none⟩ = some (.int .i64 pY) ∧ w'.cell? ⟨wr.heap.size, 2, none⟩ = some (.int .i64 pW) ∧ w'.cell? ⟨wr.heap.size, 3, none⟩ = some (.int .i64 pH) ∧ w'.cell? ⟨wr.heap.size, 4, none⟩ = some (.slice (some ⟨pg, 0, none⟩) pn pc) ∧ w'.cell? ⟨w.heap.size, 0, none⟩ = some (.int .i64 W) ∧ w'.cell? ⟨w.heap.size, 1, none⟩ = some (.int .i64 H) ∧ Fr (fun _ => False) w3 w') := fun w' f => by
                have f1 : Fr (fun k => k = g) wa w' := (HF7.out.mono (fun _ _ h => h.elim)).trans f (fun _ _ h => h)
                obtain ⟨z0, z1, z2, z3, z4⟩ := HNB.out _ w' f1 (fun e => by have := HGW.out; omega)
                have f3 : Fr (fun _ => False) w3 w' := HF37.out.trans f (fun k hk e => HGN.out k hk e)
                obtain ⟨y0, y1, _⟩ := HBX.out _ (HF3.out.trans f3 (fun _ _ h => h))
                exact ⟨z0, z1, z2, z3, z4, y0, y1, f3⟩
              obtain ⟨n0, n1, n2, n3, n4', c0, c1, -⟩ := HNG.out _ (Fr.refl _ _)
              have g1 : IntKind.i64.wrap ((pX : Int) + (pW : Int)) = ((pX + pW : Nat) : Int) := by rw [IntKind.wrap_i64]; omega
              have g2 : IntKind.i64.wrap ((pY : Int) + (pH : Int)) = ((pY + pH : Nat) : Int) := by rw [IntKind.wrap_i64]; omega
              have d1 : decide ((pX : Int) < 0) = false := decide_eq_false (by omega)
              have d2 : decide ((pY : Int) < 0) = false := decide_eq_false (by omega)
              have d3 : decide (W < pX + pW) = false := decide_eq_false (by omega)
              have d4 : decide (H < pY + pH) = false := decide_eq_false (by omega)
              have hfb := HBO.out fI (.refl HFI.out.1)
              have HOB0 : Hid (OwnB W H (Bk W H P) fs I (pX, pY + 0) f) := HOB.out.place (fun fI' hI' p hp => by
                rw [HFE.out] at hI'
                cases hI'
                have := HBO.out p hp
                unfold ras
                simp only
                omega)
              have HGT : Hid (∀ w', Fr (fun _ => False) w3 w' → ∀ x y, x < pW → y < pH → Calls Try.prog 24 #[.agg #[.int .i64 pW, .int .i64 pH, .slice (some ⟨pg, 0, none⟩) pn pc], .int .i64 (x : Nat), .int .i64 (y : Nat)] w' fun e w'' => e = .returned (.int .i64 ((pQ x y).toNat : Nat)) ∧ Fr (fun _ => False) w' w'') := fun w' f x y hx hy => by
                have hb := HBQ.out w' f
                have := zget_any pW pH _ pQ x y w' hb.seen hb.h1 hb.h2 hb.h3
                rwa [getPix_in hx hy] at this
              clear HBQ HRD HSE HIS HDI HLA HLS HOV
              go_wp2_with fail
              go_loopg [9, 10] pH (fun q fv yv wr => ∃ (y : Nat) (f : Nat → Nat), y + q = pH ∧ yv = .int .i64 y ∧ fv = .int .i64 (fstV W fI (pX, pY + y)) ∧ FoAt wr g N f ∧ OwnB W H (Bk W H P) fs I (pX, pY + y) f ∧ (∀ k, f k ≤ L.length) ∧ Fr (fun k => k = g) w7 wr)
              case atStart => exact ⟨0, f, by omega, rfl, congrArg (Value.int .i64) (by unfold fstV; rw [if_neg (by simp only; omega)]), HO7.out, HOB0.out, HFL.out, Fr.refl _ _⟩
              case round =>
                clear HO HOB HFL HO7 HOB0 n0 n1 n2 n3 n4' c0 c1
                obtain ⟨y, f, hyq, rfl, rfl, ho, hown, hfl2, hfr⟩ := hrel
                have HO : Hid (FoAt wr g N f) := ho
                have HOB : Hid (OwnB W H (Bk W H P) fs I (pX, pY + y) f) := hown
                have HFL : Hid (∀ k, f k ≤ L.length) := hfl2
                have HFy : Hid (Fr (fun k => k = g) w7 wr) := hfr
                clear ho hown hfl2 hfr
                obtain ⟨n0, n1, n2, n3, n4', c0, c1, -⟩ := HNG.out _ HFy.out
                by_cases hyH : y < pH
                · have dy : decide (y < pH) = true := decide_eq_true hyH
                  go_wp2_with fail
                  go_loopg [9, 11] pW (fun q fv xv wr => ∃ (x : Nat) (f : Nat → Nat), x + q = pW ∧ xv = .int .i64 x ∧ fv = .int .i64 (fstV W fI (pX + x, pY + y)) ∧ FoAt wr g N f ∧ OwnB W H (Bk W H P) fs I (pX + x, pY + y) f ∧ (∀ k, f k ≤ L.length) ∧ Fr (fun k => k = g) w7 wr)
                  case atStart => exact ⟨0, f, by omega, rfl, rfl, HO.out, HOB.out, HFL.out, HFy.out⟩
                  case round =>
                    clear HO HOB HFL HFy n0 n1 n2 n3 n4' c0 c1
                    obtain ⟨x, f, hxq, rfl, rfl, ho, hown, hfl2, hfr⟩ := hrel
                    have HO : Hid (FoAt wr g N f) := ho
                    have HOB : Hid (OwnB W H (Bk W H P) fs I (pX + x, pY + y) f) := hown
                    have HFL : Hid (∀ k, f k ≤ L.length) := hfl2
                    have HFx : Hid (Fr (fun k => k = g) w7 wr) := hfr
                    clear ho hown hfl2 hfr
                    obtain ⟨n0, n1, n2, n3, n4', c0, c1, hf3x⟩ := HNG.out _ HFx.out
                    have HF3X : Hid (Fr (fun _ => False) w3 wr) := hf3x
                    clear hf3x
                    by_cases hxW : x < pW
                    · have dx : decide (x < pW) = true := decide_eq_true hxW
                      have HGQ := HGT.out wr HF3X.out x y hxW hyH
                      have HGQ2 : Hid (Calls Try.prog 24 #[.agg #[.int .i64 pW, .int .i64 pH, .slice (some ⟨pg, 0, none⟩) pn pc], .int .i64 (x : Nat), .int .i64 (y : Nat)] wr fun e w'' => e = .returned (.int .i64 ((pQ x y).toNat : Nat)) ∧ Fr (fun _ => False) wr w'') := HGQ
                      have HPQ := HPX.out x y hxW hyH
                      have HPQ2 : Hid (pQ x y = true ↔ PC (Bk W H P) fI (pX + x, pY + y)) := HPQ
                      clear HGQ HPQ
                      cases hq : pQ x y with
                      | false =>
                        rw [hq] at HGQ2 HPQ2
                        have HNC : Hid (¬ PC (Bk W H P) fI (pX + x, pY + y)) := fun h => by have := HPQ2.out.2 h; cases this
                        have HNE : Hid (fI ≠ (pX + x, pY + y)) := fun e => HNC.out (by rw [← e]; exact .refl HFI.out.1)
                        have HFV : Hid (fstV W fI (pX + x, pY + y) = fstV W fI (pX + (x + 1), pY + y)) := by
                          show _ = _
                          have hne := HNE.out
                          unfold fstV
                          simp only
                          by_cases c : fI.2 < pY + y ∨ (fI.2 = pY + y ∧ fI.1 < pX + x)
                          · rw [if_pos c, if_pos (by omega)]
                          · rw [if_neg c, if_neg]
                            intro h
                            apply hne
                            exact Prod.ext (by simp only; omega) (by simp only; omega)
                        have HOBn : Hid (OwnB W H (Bk W H P) fs I (pX + (x + 1), pY + y) f) := HOB.out.place (fun fI' hI' p hp => by
                          rw [HFE.out] at hI'
                          cases hI'
                          have hne : p ≠ (pX + x, pY + y) := fun e => HNC.out (by rw [← e]; exact hp)
                          unfold ras
                          simp only
                          constructor
                          · intro h; omega
                          · intro h
                            rcases h with h | ⟨h1, h2⟩
                            · exact Or.inl h
                            · refine Or.inr ⟨h1, ?_⟩
                              rcases Nat.lt_or_ge p.1 (pX + x) with c | c
                              · exact c
                              · exact absurd (Prod.ext (by simp only; omega) (by simp only; omega)) hne)
                        go_wp2_with fail
                        refine HGQ2.out.mono ?_
                        rintro e w8 ⟨rfl, hf8⟩
                        have HF8 : Hid (Fr (fun k => k = g) w7 w8) := HFx.out.trans hf8 (fun _ _ h => h.elim)
                        have HO8 : Hid (FoAt w8 g N f) := HO.out.kept hf8 (fun h => h)
                        clear hf8 n0 n1 n2 n3 n4' c0 c1
                        go_wp2_with fail
                        go_roundg (pW - (x + 1))
                        case measure => omega
                        case rel => exact ⟨x + 1, f, by omega, rfl, congrArg (Value.int .i64) HFV.out, HO8.out, HOBn.out, HFL.out, HF8.out⟩
                      | true =>
                        rw [hq] at HGQ2 HPQ2
                        have hPC := HPQ2.out.1 rfl
                        have HPC : Hid (PC (Bk W H P) fI (pX + x, pY + y)) := hPC
                        have HZ : Hid (f (idx W (pX + x, pY + y)) = 0) := HOB.out.none (pX + x, pY + y) (by simp only; omega) (by simp only; omega) (fun j fj hj hfj h => HDJ.out j fj hj hfj _ h hPC) (fun fI' hI' hp h => ras_irrefl _ h)
                        have HOBn : Hid (OwnB W H (Bk W H P) fs I (pX + (x + 1), pY + y) (upd f (idx W (pX + x, pY + y)) (I + 1))) := HOB.out.put HFE.out hPC (by simp only; omega) HDJ.out (fun p => by
                          unfold ras
                          simp only
                          constructor
                          · intro h
                            rcases h with h | ⟨h1, h2⟩
                            · exact Or.inl (Or.inl h)
                            · rcases Nat.lt_or_ge p.1 (pX + x) with c | c
                              · exact Or.inl (Or.inr ⟨h1, c⟩)
                              · exact Or.inr (Prod.ext (by simp only; omega) (by simp only; omega))
                          · rintro (h | h)
                            · omega
                            · exact Or.inr ⟨by rw [h], by rw [h]; simp only; omega⟩)
                        have HFLn : Hid (∀ k, upd f (idx W (pX + x, pY + y)) (I + 1) k ≤ L.length) := fun k => by
                          have := HFL.out k
                          unfold upd
                          split <;> omega
                        have HFV : Hid (fstV W fI (pX + (x + 1), pY + y) = (idx W fI : Nat)) := by
                          show _ = _
                          have hr := HFI.out.2 _ hPC
                          unfold ras at hr
                          simp only at hr
                          unfold fstV
                          rw [if_pos]
                          simp only
                          omega
                        have hil : idx W (pX + x, pY + y) < N := by
                          have := idx_lt (W := W) (H := H) (p := (pX + x, pY + y)) (by simp only; omega) (by simp only; omega)
                          have := HN.out
                          omega
                        obtain ⟨M, hM⟩ : ∃ M, M = (pY + y) * W := ⟨_, rfl⟩
                        have hix : idx W (pX + x, pY + y) = M + pX + x := by unfold idx; simp only; omega
                        have gA : IntKind.i64.wrap ((pY : Int) + (y : Int)) = ((pY + y : Nat) : Int) := by rw [IntKind.wrap_i64]; omega
                        have gB : IntKind.i64.wrap (((pY + y : Nat) : Int) * (W : Int)) = (M : Int) := by rw [IntKind.wrap_i64, ← Int.natCast_mul, ← hM]; omega
                        have gC : IntKind.i64.wrap ((M : Int) + (pX : Int)) = ((M + pX : Nat) : Int) := by rw [IntKind.wrap_i64]; omega
                        have gD : IntKind.i64.wrap (((M + pX : Nat) : Int) + (x : Int)) = ((M + pX + x : Nat) : Int) := by rw [IntKind.wrap_i64]; omega
                        have gB2 : ((pY : Int) + (y : Int)) * (W : Int) = (M : Int) := by rw [hM, Int.natCast_mul]; rfl
                        have gE : IntKind.i64.wrap ((I : Int) + 1) = ((I + 1 : Nat) : Int) := by rw [IntKind.wrap_i64]; omega
                        have gF : (0 : Int) ≤ ((M + pX + x : Nat) : Int) := by omega
                        have gG : ((M + pX + x : Nat) : Int) < (N : Int) := by omega
                        have HIX : Hid (idx W (pX + x, pY + y) = M + pX + x) := hix
                        rw [hix] at HOBn HFLn hil HZ
                        clear hix hM
                        have HST : Hid (∀ w', FoAt w' g N f → FoAt (w'.setCell ⟨g, M + pX + x, none⟩ (.int .i64 ((I + 1 : Nat) : Int))) g N (upd f (M + pX + x) (I + 1))) := fun w' h => h.put hil (I + 1)
                        by_cases hfst : fI = (pX + x, pY + y)
                        · have HF1 : Hid (fstV W fI (pX + x, pY + y) = -1) := by
                            show _ = _
                            unfold fstV
                            rw [if_neg]
                            rw [hfst]
                            simp only
                            omega
                          have HF2 : Hid ((M + pX + x : Nat) = idx W fI) := by show _ = _; rw [hfst]; exact HIX.out.symm
                          rw [HF1.out]
                          go_wp2_with fail
                          refine HGQ2.out.mono ?_
                          rintro e w8 ⟨rfl, hf8⟩
                          have HF8 : Hid (Fr (fun k => k = g) w7 w8) := HFx.out.trans hf8 (fun _ _ h => h.elim)
                          have HO8 : Hid (FoAt w8 g N f) := HO.out.kept hf8 (fun h => h)
                          clear hf8 n0 n1 n2 n3 n4' c0 c1
                          obtain ⟨n0, n1, n2, n3, n4', c0, c1, -⟩ := HNG.out _ HF8.out
                          have o0 := HO8.out.cell hil
                          have z0 := HO8.out.frozenAt (M + pX + x)
                          rw [HZ.out] at o0
                          go_wp2_with fail
                          go_roundg (pW - (x + 1))
                          case measure => omega
                          case rel => exact ⟨x + 1, _, by omega, rfl, congrArg (Value.int .i64) (by rw [HFV.out, ← HF2.out]; omega), HST.out _ HO8.out, HOBn.out, HFLn.out, HF8.out.setCell (p := ⟨g, M + pX + x, none⟩) (fun _ => rfl) _⟩
                        · have HF1 : Hid (fstV W fI (pX + x, pY + y) = (idx W fI : Nat)) := by
                            show _ = _
                            have hr := HFI.out.2 _ HPC.out
                            unfold ras at hr
                            simp only at hr
                            unfold fstV
                            rw [if_pos]
                            simp only
                            rcases Nat.lt_trichotomy fI.2 (pY + y) with c | c | c
                            · exact Or.inl c
                            · refine Or.inr ⟨c, ?_⟩
                              rcases Nat.lt_or_ge fI.1 (pX + x) with d | d
                              · exact d
                              · exact absurd (Prod.ext (by simp only; omega) (by simp only; omega)) hfst
                            · omega
                          rw [HF1.out]
                          generalize idx W fI = iF at *
                          have df : decide ((iF : Int) < 0) = false := decide_eq_false (by omega)
                          go_wp2_with fail
                          refine HGQ2.out.mono ?_
                          rintro e w8 ⟨rfl, hf8⟩
                          have HF8 : Hid (Fr (fun k => k = g) w7 w8) := HFx.out.trans hf8 (fun _ _ h => h.elim)
                          have HO8 : Hid (FoAt w8 g N f) := HO.out.kept hf8 (fun h => h)
                          clear hf8 n0 n1 n2 n3 n4' c0 c1
                          obtain ⟨n0, n1, n2, n3, n4', c0, c1, -⟩ := HNG.out _ HF8.out
                          have o0 := HO8.out.cell hil
                          have z0 := HO8.out.frozenAt (M + pX + x)
                          rw [HZ.out] at o0
                          go_wp2_with fail
                          go_roundg (pW - (x + 1))
                          case measure => omega
                          case rel => exact ⟨x + 1, _, by omega, rfl, congrArg (Value.int .i64) HFV.out.symm, HST.out _ HO8.out, HOBn.out, HFLn.out, HF8.out.setCell (p := ⟨g, M + pX + x, none⟩) (fun _ => rfl) _⟩
                    · have dx : decide (x < pW) = false := decide_eq_false hxW
                      have HOBn : Hid (OwnB W H (Bk W H P) fs I (pX, pY + (y + 1)) f) := HOB.out.place (fun fI' hI' p hp => by
                        rw [HFE.out] at hI'
                        cases hI'
                        have := HBO.out p hp
                        unfold ras
                        simp only
                        omega)
                      have HFV : Hid (fstV W fI (pX + x, pY + y) = fstV W fI (pX, pY + (y + 1))) := by
                        show _ = _
                        unfold fstV
                        simp only
                        by_cases c : fI.2 ≤ pY + y
                        · rw [if_pos (by omega), if_pos (by omega)]
                        · rw [if_neg (by omega), if_neg (by omega)]
                      rw [HFV.out]
                      go_wp2_with fail
                      go_roundg (pH - (y + 1))
                      case measure => omega
                      case rel => exact ⟨y + 1, f, by omega, rfl, rfl, HO.out, HOBn.out, HFL.out, HFx.out⟩
                · have dy : decide (y < pH) = false := decide_eq_false hyH
                  have HFV : Hid (fstV W fI (pX, pY + y) = (idx W fI : Nat)) := by
                    show _ = _
                    unfold fstV
                    rw [if_pos (by simp only; omega)]
                  rw [HFV.out]
                  have HOBn : Hid (OwnB W H (Bk W H P) fs (I + 1) (0, 0) f) := HOB.out.next (fun fI' hI' p hp => by
                    rw [HFE.out] at hI'
                    cases hI'
                    have := HBO.out p hp
                    unfold ras
                    simp only
                    omega) (fun fI' hI' p hp h => by unfold ras at h; simp at h)
                  have dl : decide (((idx W fI : Nat) : Int) ≤ lastI W fs I) = false := decide_eq_false (by omega)
                  have hf3y := (HNG.out _ HFy.out).2.2.2.2.2.2.2
                  have HF3Y : Hid (Fr (fun _ => False) w3 wr) := hf3y
                  clear hf3y
                  go_wp2_with fail
                  go_roundg (L.length - (I + 1))
                  case measure => omega
                  case rel => exact ⟨I + 1, f, by omega, rfl, congrArg (Value.int .i64) HLS1.out.symm, HO.out, HOBn.out, HFL.out, HF3Y.out⟩
            · have dI : decide (I < L.length) = false := decide_eq_false hIL
              have HNF : Hid (∀ p q, p.1 < W → p.2 < H → q.1 < W → q.2 < H → nb p q → P p.1 p.2 = true → f (idx W q) = 0 ∨ f (idx W q) = f (idx W p)) := fun p q h1 h2 h3 h4 hn hp => by
                have hO : OwnB W H (Bk W H P) fs L.length (0, 0) f := by have := HOB.out; rwa [show I = L.length by omega] at this
                cases hq : P q.1 q.2 with
                | false => exact Or.inl ((HOV.out f hO q h3 h4).1 hq)
                | true =>
                  obtain ⟨j, fj, hj, hfj, hpj, ej⟩ := (HOV.out f hO p h1 h2).2 hp
                  right
                  rw [ej]
                  exact hO.old q h3 h4 j fj hj hfj (hpj.step hn ⟨h3, h4, hq⟩)
              have HVW : Hid (∀ p, p.1 < W → p.2 < H → (P p.1 p.2 = false → f (idx W p) = 0) ∧ (P p.1 p.2 = true → 0 < f (idx W p))) := fun p h1 h2 => by
                have hO : OwnB W H (Bk W H P) fs L.length (0, 0) f := by have := HOB.out; rwa [show I = L.length by omega] at this
                refine ⟨(HOV.out f hO p h1 h2).1, fun hp => ?_⟩
                obtain ⟨j, fj, hj, hfj, hpj, ej⟩ := (HOV.out f hO p h1 h2).2 hp
                omega
              have HLN : Hid (L.length ≤ 1048577) := by
                have := rise_len' HFS.out
                have := HN.out
                show _ ≤ _
                omega
              have HCE : Hid (∀ w', Fr (fun _ => False) wr w' → ∀ x y, x < W → y < H → w'.cell? ⟨g, y * W + x, none⟩ = some (.int .i64 (f (y * W + x) : Nat)) ∧ y * W + x < N ∧ f (y * W + x) ≤ 1048577) := fun w' hf x y hx hy => by
                have := idx_lt (W := W) (H := H) (p := (x, y)) hx hy
                unfold idx at this
                have h2 := HN.out
                have h3 := HFL.out (y * W + x)
                have h4 := HLN.out
                exact ⟨(HO.out.kept hf (fun h => h)).cell (by simp only at this; omega), by simp only at this; omega, by omega⟩
              have HGP : Hid (∀ w', Fr (fun _ => False) w0 w' → ∀ x y : Nat, x < W → y < H → Calls Try.prog 24 #[.agg #[.int .i64 W, .int .i64 H, .slice ao n cap], .int .i64 (x : Nat), .int .i64 (y : Nat)] w' fun e w'' => e = .returned (.int .i64 ((P x y).toNat : Nat)) ∧ Fr (fun _ => False) w' w'') := fun w' f x y hx hy => by
                have hb := HBm.out w' (HA.out.trans f (fun _ _ h => h))
                have := zget_any W H _ P x y w' hb.seen hb.h1 hb.h2 hb.h3
                rwa [getPix_in hx hy] at this
              have HAK : Hid (∀ w', Fr (fun _ => False) wr w' → ∀ x y : Nat, x < W → y + 1 < H → P x (y + 1) = true → Calls Try.prog 25 #[.slice (some ⟨g, 0, none⟩) N N, .int .i64 W, .int .i64 x, .int .i64 y, .int .i64 (f ((y + 1) * W + x) : Nat)] w' fun e w'' => e = .returned (.bool true) ∧ Fr (fun _ => False) w' w'') := fun w' hf x y hx hy hp => by
                have h2 := HN.out
                refine alike_any g N W x y _ f w' (HO.out.kept hf (fun h => h)) hx ?_ (by omega) (fun i hi h1 h3 => ?_) (fun i => by have := HFL.out i; have := HLN.out; omega)
                · have := Nat.mul_le_mul_right W (show y + 1 ≤ H by omega)
                  rw [Nat.mul_comm H W] at this
                  omega
                · have := HNF.out (x, y + 1) (i, y) hx hy hi (by simp only; omega) ⟨by simp only; omega, by simp only; omega, by simp only; omega, by simp only; omega⟩ hp
                  unfold idx at this
                  exact this
              have HFB3 : Hid (Fr (fun _ => False) w0 wr) := HF3.out.trans HFr.out (fun _ _ h => h)
              clear HRD HSE HIS HDI HLA HLS HOV HOB HFL
              obtain ⟨wB, HWB⟩ : ∃ wB, Hid (wB = wr) := ⟨_, rfl⟩
              rw [← HWB.out] at HCE HAK HFB3
              obtain ⟨c0, c1, c2⟩ := HBX.out _ HFB3.out
              go_wp2_with fail
              go_loopg [13] H (fun q yv wr => ∃ y : Nat, y + q = H ∧ yv = .int .i64 y ∧ Fr (fun _ => False) wB wr)
              case atStart => exact ⟨0, by omega, rfl, by rw [HWB.out]; exact Fr.refl _ _⟩
              case round =>
                clear HFr HO c0 c1 c2
                obtain ⟨y, hyq, rfl, hfr⟩ := hrel
                have HFy : Hid (Fr (fun _ => False) wB wr) := hfr
                clear hfr
                obtain ⟨c0, c1, c2⟩ := HBX.out _ (HFB3.out.trans HFy.out (fun _ _ h => h))
                by_cases hyH : y < H
                · have dy : decide (y < H) = true := decide_eq_true hyH
                  go_wp2_with fail
                  go_loopg [14] W (fun q xv wr => ∃ x : Nat, x + q = W ∧ xv = .int .i64 x ∧ Fr (fun _ => False) wB wr)
                  case atStart => exact ⟨0, by omega, rfl, HFy.out⟩
                  case round =>
                    clear HFy c0 c1 c2
                    obtain ⟨x, hxq, rfl, hfr⟩ := hrel
                    have HFx : Hid (Fr (fun _ => False) wB wr) := hfr
                    clear hfr
                    obtain ⟨c0, c1, c2⟩ := HBX.out _ (HFB3.out.trans HFx.out (fun _ _ h => h))
                    by_cases hxW : x < W
                    · have dx : decide (x < W) = true := decide_eq_true hxW
                      obtain ⟨o0, o1, o2⟩ := HCE.out wr HFx.out x y hxW hyH
                      have HGQ : Hid (Calls Try.prog 24 #[.agg #[.int .i64 W, .int .i64 H, .slice ao n cap], .int .i64 (x : Nat), .int .i64 (y : Nat)] wr fun e w'' => e = .returned (.int .i64 ((P x y).toNat : Nat)) ∧ Fr (fun _ => False) wr w'') := HGP.out wr (HFB3.out.trans HFx.out (fun _ _ h => h)) x y hxW hyH
                      have hv := HVW.out (x, y) hxW hyH
                      unfold idx at hv
                      simp only at hv
                      have HVL : Hid (0 < x → P x y = true → f (y * W + x - 1) = 0 ∨ f (y * W + x - 1) = f (y * W + x)) := fun h0 hp => by
                        have := HNF.out (x, y) (x - 1, y) hxW hyH (by simp only; omega) hyH ⟨by simp only; omega, by simp only; omega, by simp only; omega, by simp only; omega⟩ hp
                        unfold idx at this
                        simp only at this
                        rwa [show y * W + (x - 1) = y * W + x - 1 by omega] at this
                      have HCL : Hid (0 < x → ∀ w', Fr (fun _ => False) wB w' → w'.cell? ⟨g, y * W + x - 1, none⟩ = some (.int .i64 (f (y * W + x - 1) : Nat)) ∧ f (y * W + x - 1) ≤ 1048577) := fun h0 w' hf => by
                        obtain ⟨a, b, d⟩ := HCE.out w' hf (x - 1) y (by omega) hyH
                        rw [show y * W + (x - 1) = y * W + x - 1 by omega] at a b d
                        exact ⟨a, d⟩
                      have HAQ : Hid (0 < y → P x y = true → ∀ w', Fr (fun _ => False) wB w' → Calls Try.prog 25 #[.slice (some ⟨g, 0, none⟩) N N, .int .i64 W, .int .i64 x, .int .i64 (y - 1 : Nat), .int .i64 (f (y * W + x) : Nat)] w' fun e w'' => e = .returned (.bool true) ∧ Fr (fun _ => False) w' w'') := fun h0 hp w' hf => by
                        obtain ⟨y', rfl⟩ : ∃ y', y = y' + 1 := ⟨y - 1, by omega⟩
                        exact HAK.out w' hf x y' hxW hyH hp
                      obtain ⟨M, hM⟩ : ∃ M, M = y * W := ⟨_, rfl⟩
                      have gM : IntKind.i64.wrap ((y : Int) * (W : Int)) = (M : Int) := by rw [IntKind.wrap_i64, ← Int.natCast_mul, ← hM]; omega
                      have gM2 : (y : Int) * (W : Int) = (M : Int) := by rw [← Int.natCast_mul, ← hM]
                      rw [← hM] at o0 o1 o2 hv HVL HCL HAQ
                      have gX : IntKind.i64.wrap ((M : Int) + (x : Int)) = ((M + x : Nat) : Int) := by rw [IntKind.wrap_i64]; omega
                      have gZ : (0 : Int) ≤ ((M + x : Nat) : Int) := by omega
                      have gY : ((M + x : Nat) : Int) < (N : Int) := by omega
                      clear hM
                      generalize f (M + x) = k at *
                      cases hp : P x y with
                      | false =>
                        obtain rfl : k = 0 := hv.1 hp
                        rw [hp] at HGQ
                        go_wp2_with fail
                        refine HGQ.out.mono ?_
                        rintro e w8 ⟨rfl, hf8⟩
                        have HF8 : Hid (Fr (fun _ => False) wB w8) := HFx.out.trans hf8 (fun _ _ h => h)
                        clear hf8 c0 c1 c2 o0
                        obtain ⟨c0, c1, c2⟩ := HBX.out _ (HFB3.out.trans HF8.out (fun _ _ h => h))
                        go_wp2_with fail
                        go_roundg (W - (x + 1))
                        case measure => omega
                        case rel => exact ⟨x + 1, by omega, rfl, HF8.out⟩
                      | true =>
                        have hk0 : 0 < k := hv.2 hp
                        rw [hp] at HGQ
                        have dk : decide (0 < k) = true := decide_eq_true hk0
                        go_wp2_with fail
                        refine HGQ.out.mono ?_
                        rintro e w8 ⟨rfl, hf8⟩
                        have HF8 : Hid (Fr (fun _ => False) wB w8) := HFx.out.trans hf8 (fun _ _ h => h)
                        clear hf8 c0 c1 c2 o0
                        obtain ⟨c0, c1, c2⟩ := HBX.out _ (HFB3.out.trans HF8.out (fun _ _ h => h))
                        by_cases hx0 : 0 < x
                        · have dx0 : decide (0 < x) = true := decide_eq_true hx0
                          obtain ⟨l0, l1⟩ := HCL.out hx0 w8 HF8.out
                          have hvl := HVL.out hx0 hp
                          have gl : IntKind.i64.wrap (((M + x : Nat) : Int) - 1) = ((M + x - 1 : Nat) : Int) := by rw [IntKind.wrap_i64]; omega
                          have gl2 : (0 : Int) ≤ ((M + x - 1 : Nat) : Int) := by omega
                          have gl3 : ((M + x - 1 : Nat) : Int) < (N : Int) := by omega
                          have gl4 : ((M : Int) + (x : Int)) - 1 = ((M + x - 1 : Nat) : Int) := by omega
                          generalize f (M + x - 1) = vl at *
                          generalize M + x - 1 = ML at *
                          rcases hvl with rfl | rfl
                          · by_cases hy0 : 0 < y
                            · have dy0 : decide (0 < y) = true := decide_eq_true hy0
                              have gy : IntKind.i64.wrap ((y : Int) - 1) = ((y - 1 : Nat) : Int) := by rw [IntKind.wrap_i64]; omega
                              have gy2 : (y : Int) - 1 = ((y - 1 : Nat) : Int) := by omega
                              go_wp2_with fail
                              refine (HAQ.out hy0 hp _ HF8.out).mono ?_
                              rintro e w9 ⟨rfl, hf9⟩
                              have HF9 : Hid (Fr (fun _ => False) wB w9) := HF8.out.trans hf9 (fun _ _ h => h)
                              clear hf9
                              go_wp2_with fail
                              go_roundg (W - (x + 1))
                              case measure => omega
                              case rel => exact ⟨x + 1, by omega, rfl, HF9.out⟩
                            · have dy0 : decide (0 < y) = false := decide_eq_false hy0
                              go_wp2_with fail
                              go_roundg (W - (x + 1))
                              case measure => omega
                              case rel => exact ⟨x + 1, by omega, rfl, HF8.out⟩
                          · by_cases hy0 : 0 < y
                            · have dy0 : decide (0 < y) = true := decide_eq_true hy0
                              have gy : IntKind.i64.wrap ((y : Int) - 1) = ((y - 1 : Nat) : Int) := by rw [IntKind.wrap_i64]; omega
                              have gy2 : (y : Int) - 1 = ((y - 1 : Nat) : Int) := by omega
                              go_wp2_with fail
                              refine (HAQ.out hy0 hp _ HF8.out).mono ?_
                              rintro e w9 ⟨rfl, hf9⟩
                              have HF9 : Hid (Fr (fun _ => False) wB w9) := HF8.out.trans hf9 (fun _ _ h => h)
                              clear hf9
                              go_wp2_with fail
                              go_roundg (W - (x + 1))
                              case measure => omega
                              case rel => exact ⟨x + 1, by omega, rfl, HF9.out⟩
                            · have dy0 : decide (0 < y) = false := decide_eq_false hy0
                              go_wp2_with fail
                              go_roundg (W - (x + 1))
                              case measure => omega
                              case rel => exact ⟨x + 1, by omega, rfl, HF8.out⟩
                        · have dx0 : decide (0 < x) = false := decide_eq_false hx0
                          by_cases hy0 : 0 < y
                          · have dy0 : decide (0 < y) = true := decide_eq_true hy0
                            have gy : IntKind.i64.wrap ((y : Int) - 1) = ((y - 1 : Nat) : Int) := by rw [IntKind.wrap_i64]; omega
                            have gy2 : (y : Int) - 1 = ((y - 1 : Nat) : Int) := by omega
                            go_wp2_with fail
                            refine (HAQ.out hy0 hp _ HF8.out).mono ?_
                            rintro e w9 ⟨rfl, hf9⟩
                            have HF9 : Hid (Fr (fun _ => False) wB w9) := HF8.out.trans hf9 (fun _ _ h => h)
                            clear hf9
                            go_wp2_with fail
                            go_roundg (W - (x + 1))
                            case measure => omega
                            case rel => exact ⟨x + 1, by omega, rfl, HF9.out⟩
                          · have dy0 : decide (0 < y) = false := decide_eq_false hy0
                            go_wp2_with fail
                            go_roundg (W - (x + 1))
                            case measure => omega
                            case rel => exact ⟨x + 1, by omega, rfl, HF8.out⟩
                    · have dx : decide (x < W) = false := decide_eq_false hxW
                      go_wp2_with fail
                      go_roundg (H - (y + 1))
                      case measure => omega
                      case rel => exact ⟨y + 1, by omega, rfl, HFx.out⟩
                · have dy : decide (y < H) = false := decide_eq_false hyH
                  go_wp2_with fail
                  refine (wakes_any _).mono ?_
                  rintro e w9 ⟨rfl, hf9⟩
                  have HF9 : Hid (Fr (fun _ => False) w w9) := ((HA.out.trans HFB3.out (fun _ _ h => h)).trans HFy.out (fun _ _ h => h)).trans hf9 (fun _ _ h => h)
                  clear hf9
                  go_wp2_with fail
                  go_ret
                  exact ⟨rfl, HF9.out⟩

end Go.Proofs.Ytgpciopoionmeaa
