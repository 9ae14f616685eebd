/- 'Of'. -/
import Derived.Test.YtgpciopoionmeaaPm
import Derived.Test.YtgpciopoionmeaaKs
namespace Go.Proofs.Ytgpciopoionmeaa
open Go.RowKit Go.Maps

theorem Try.infoPiece : (Try.prog.info? 34).map (fun i => (i.zero, i.size, i.bytes)) = some (some (.agg #[.int .i64 0, .int .i64 0, .int .i64 0, .int .i64 0, .slice none 0 0]), 5, 56) := by kernel_rfl
theorem cell_five_new (w : World) (a b c d e : Value) (t : TypeId) (j : Nat) (u : Value) (h : [a, b, c, d, e][j]? = some u) : (w.alloc (.cells #[a, b, c, d, e] t)).cell? ((⟨w.heap.size, 0, none⟩ : Addr).add j) = some u := by
  match j, h with
  | 0, h => simp at h; subst h; simp [Addr.add]
  | 1, h => simp at h; subst h; simp [Addr.add]
  | 2, h => simp at h; subst h; simp [Addr.add]
  | 3, h => simp at h; subst h; simp [Addr.add]
  | 4, h => simp at h; subst h; simp [Addr.add]
  | j + 5, h => simp at h

/-- Rows of other elements are other blocks. -/
theorem own_ne2 {w : World} {base base' e e' s s' n n' : Nat} {v v' : Value} {xs ys : List Value} (h : w.ownsRow base e s v n xs) (h' : w.ownsRow base' e' s' v' n' ys) (he : e ≠ e') : v.ownBlock = none ∨ v.ownBlock ≠ v'.ownBlock := by
  rcases h'.2 with ⟨rfl, _⟩ | ⟨g2, c2, cur2, rfl, _⟩
  · cases hv : v.ownBlock with
    | none => exact Or.inl rfl
    | some g => exact Or.inr (by simp [Value.ownBlock])
  · exact Or.inr (own_ne h h' he)

set_option maxRecDepth 100000 in
set_option maxHeartbeats 2000000 in
theorem cof_bad (x y : Int) (v : Value) (l : List Nat) (w : World) (hx : -9223372036854775808 ≤ x ∧ x ≤ 9223372036854775807) (hy : -9223372036854775808 ≤ y ∧ y ≤ 9223372036854775807) (hv : Seen w v l) (hlt : ∀ j : Nat, l[j]?.getD 0 < 18446744073709551616) (hb : validB x y l = false) :
    Calls Try.prog 11 #[.agg #[.int .i64 x, .int .i64 y, v]] w fun e w' => e = .returned (.tuple #[.slice none 0 0, .int .i64 90]) ∧ Fr (fun _ => False) w w' := by
  have HCK : Hid (∀ w', Fr (fun _ => False) w w' → Calls Try.prog 34 #[.agg #[.int .i64 x, .int .i64 y, v]] w' fun e w'' => e = .returned (.tuple #[.slice none 0 0, .int .i64 80]) ∧ Fr (fun _ => False) w' w'') := fun w' hf => of_bad x y v l w' hx hy (hv.kept hf) hlt hb
  obtain ⟨ao, cap, rfl, _, _⟩ := hv
  go_enter Try.func11, Try.ntmps11
  go_wp2_with fail
  refine (HCK.out _ ((Fr.refl _ _).alloc _)).mono ?_
  rintro e w1 ⟨rfl, hf1⟩
  have HF : Hid (Fr (fun _ => False) w w1) := ((Fr.refl _ _).alloc _).trans hf1 (fun _ _ h => h)
  clear hf1
  go_wp2_with fail
  go_ret2
  exact ⟨rfl, HF.out⟩

set_option maxRecDepth 100000 in
set_option maxHeartbeats 8000000 in
theorem cof_ok (W H : Nat) (v : Value) (P : Nat → Nat → Bool) (w : World) (hb : Bm w v W H P) :
    Calls Try.prog 11 #[.agg #[.int .i64 W, .int .i64 H, v]] w fun e w' => ∃ rv L fs, e = .returned (.tuple #[rv, .int .i64 0]) ∧ OwnPs w' w.heap.size rv L ∧ Firsts (Bk W H P) fs ∧ Pcs (Bk W H P) fs (L.map (·.1)) ∧ Fr (fun _ => False) w w' := by
  obtain ⟨i0, hi, hz0, hz1, hz2⟩ := info_parts Try.infoPiece
  have h1 := hb.h1
  have h2 := hb.h2
  have h3 := hb.h3
  have hN := offL_le W P h1 H
  have hHb : H ≤ 1048576 := Nat.le_trans (Nat.le_mul_of_pos_left H h1) h3
  have HOF : Hid (∀ w', Fr (fun _ => False) w w' → Calls Try.prog 34 #[.agg #[.int .i64 W, .int .i64 H, v]] w' fun e w'' => ∃ g vs, e = .returned (.tuple #[.slice (some ⟨g, 0, none⟩) H H, .int .i64 0]) ∧ OwnRR w'' w'.heap.size g H H (rowsF W P) vs ∧ Fr (fun _ => False) w' w'') := fun w' hf => of_ok W H v P w' (hb.kept hf)
  obtain ⟨ao, cap, rfl, _, _⟩ := hb.seen
  clear hb
  have HLN : Hid (∀ (base gR : Nat) (vs : List Value) (w' : World), OwnRR w' base gR H H (rowsF W P) vs → Calls Try.prog 35 #[.slice (some ⟨gR, 0, none⟩) H H] w' fun e w'' => ∃ v, e = .returned v ∧ w''.ownsRow w'.heap.size 102 3 v (offL (rowsF W P) H) (lineCells (lnsTo (rowsF W P) H)) ∧ Fr (fun _ => False) w' w'') := fun base gR vs w' h => linesOf_ok H base gR (rowsF W P) vs w' hHb (by omega) h
  have HGR : Hid (∀ (base gR : Nat) (vs : List Value) (w' : World), OwnRR w' base gR H H (rowsF W P) vs → Calls Try.prog 37 #[.slice (some ⟨gR, 0, none⟩) H H, .int .i64 (offL (rowsF W P) H : Nat)] w' fun e w'' => ∃ g f, e = .returned (.slice (some ⟨g, 0, none⟩) (offL (rowsF W P) H) (offL (rowsF W P) H)) ∧ w'.heap.size ≤ g ∧ FoAt w'' g (offL (rowsF W P) H) f ∧ Grown W H P f ∧ Fr (fun _ => False) w' w'') := fun base gR vs w' h => grown_ok W H base gR P vs w' h1 h2 h3 h
  have HPT : Hid (∀ (g cL base : Nat) (ao : Option Addr) (f : Nat → Nat) (w' : World), Dn f → FoAt w' g (offL (rowsF W P) H) f → w'.ownsRow base 102 3 (.slice ao (offL (rowsF W P) H) cL) (offL (rowsF W P) H) (lineCells (lnsTo (rowsF W P) H)) → Calls Try.prog 36 #[.slice ao (offL (rowsF W P) H) cL, .slice (some ⟨g, 0, none⟩) (offL (rowsF W P) H) (offL (rowsF W P) H)] w' fun e w'' => ∃ b D V, e = .returned (.map (some b)) ∧ w'.heap.size ≤ b ∧ Parts w'' w'.heap.size b (offL (rowsF W P) H) (ln (rowsF W P) H) (rt f) (offL (rowsF W P) H) D V ∧ Fr (fun k => k = g) w' w'') := fun g cL base ao f w' hd ho hl =>
    partsOf_ok _ g cL base ao (lnsTo (rowsF W P) H) (ln (rowsF W P) H) f w' (by omega) (length_lnsTo _ _) (fun i h => by unfold ln; rw [List.getElem?_eq_getElem h]; rfl) hd ho hl
  have HPC : Hid (∀ f, Grown W H P f → ∀ r, r < offL (rowsF W P) H → rt f r = r → ∀ (base : Nat) (v : Value) (w' : World), w'.ownsRow base 102 3 v (partTo (ln (rowsF W P) H) (rt f) (offL (rowsF W P) H) r).length (lineCells (partTo (ln (rowsF W P) H) (rt f) (offL (rowsF W P) H) r)) →
      Calls Try.prog 40 #[v] w' fun e w'' => ∃ g2 cap2, e = .returned (.agg #[.int .i64 ((pcOf (partTo (ln (rowsF W P) H) (rt f) (offL (rowsF W P) H) r)).X : Nat), .int .i64 ((pcOf (partTo (ln (rowsF W P) H) (rt f) (offL (rowsF W P) H) r)).Y : Nat), .int .i64 ((pcOf (partTo (ln (rowsF W P) H) (rt f) (offL (rowsF W P) H) r)).W : Nat), .int .i64 ((pcOf (partTo (ln (rowsF W P) H) (rt f) (offL (rowsF W P) H) r)).H : Nat), .slice (some ⟨g2, 0, none⟩) ((pcOf (partTo (ln (rowsF W P) H) (rt f) (offL (rowsF W P) H) r)).H * stride (pcOf (partTo (ln (rowsF W P) H) (rt f) (offL (rowsF W P) H) r)).W) cap2]) ∧
        RowAt w'' g2 cap2 (pcOf (partTo (ln (rowsF W P) H) (rt f) (offL (rowsF W P) H) r)).W (pcOf (partTo (ln (rowsF W P) H) (rt f) (offL (rowsF W P) H) r)).H (pcOf (partTo (ln (rowsF W P) H) (rt f) (offL (rowsF W P) H) r)).Q ∧ w'.heap.size ≤ g2 ∧ Fr (fun _ => False) w' w'') := fun f gr r hr hrr base v w' ho => by
    obtain ⟨Y0, YL, a0, b0, al, bl, hok, e⟩ := gr.part_ok h1 h3 hrr hr _ rfl
    obtain ⟨g, c, rfl, _⟩ := row_form ho hok.ne
    have := pieceOf_ok base g c Y0 YL a0 b0 al bl _ w' hok ho
    rw [e]
    exact this
  generalize hNN : offL (rowsF W P) H = N at *
  go_enter Try.func11, Try.ntmps11
  go_wp2_with fail
  refine (HOF.out _ ((Fr.refl _ _).alloc _)).mono ?_
  rintro e w1 ⟨gR, vs, rfl, hrr, hf1⟩
  have HF1 : Hid (Fr (fun _ => False) w w1) := ((Fr.refl _ _).alloc _).trans hf1 (fun _ _ h => h)
  obtain ⟨bs, HRR⟩ : ∃ bs, Hid (OwnRR w1 bs gR H H (rowsF W P) vs) := ⟨_, hrr⟩
  clear hf1 hrr HOF
  go_wp2_with fail
  refine (HLN.out _ _ _ _ HRR.out).mono ?_
  rintro e w2 ⟨vL, rfl, hoL, hf2⟩
  obtain ⟨aoL, cL, rfl⟩ := own_slice hoL
  have HR2 : Hid (OwnRR w2 bs gR H H (rowsF W P) vs) := HRR.out.kept hf2 (fun _ _ h => h)
  have HF2 : Hid (Fr (fun _ => False) w w2) := HF1.out.trans hf2 (fun _ _ h => h)
  obtain ⟨bl, HOL⟩ : ∃ bl, Hid (w2.ownsRow bl 102 3 (.slice aoL N cL) N (lineCells (lnsTo (rowsF W P) H))) := ⟨_, hoL⟩
  clear hf2 hoL HRR HF1 HLN
  go_wp2_with fail
  refine (HGR.out _ _ _ _ HR2.out).mono ?_
  rintro e w3 ⟨g, f, rfl, hg, hfo, hgr, hf3⟩
  have HFO : Hid (FoAt w3 g N f) := hfo
  have HGW : Hid (Grown W H P f) := hgr
  have HO3 : Hid (w3.ownsRow bl 102 3 (.slice aoL N cL) N (lineCells (lnsTo (rowsF W P) H))) := row_kept HOL.out hf3 (fun _ _ h => h)
  have HF3 : Hid (Fr (fun _ => False) w w3) := HF2.out.trans hf3 (fun _ _ h => h)
  have HG : Hid (w.heap.size ≤ g) := Nat.le_trans HF2.out.size hg
  clear hf3 hfo hgr hg HR2 HOL HF2 HGR
  go_wp2_with fail
  refine (HPT.out _ _ _ _ _ _ HGW.out.dn HFO.out HO3.out).mono ?_
  rintro e w4 ⟨b, D, V, rfl, hbb, hpt, hf4⟩
  have HF4 : Hid (Fr (fun _ => False) w w4) := HF3.out.trans hf4 (fun k hk e => by have := HG.out; omega)
  obtain ⟨bp, HP4⟩ : ∃ bp, Hid (Parts w4 bp b N (ln (rowsF W P) H) (rt f) N D V) := ⟨_, hpt⟩
  have hsD := HP4.out.own.size_le
  have hs4 : w.heap.size ≤ w4.heap.size := HF4.out.size
  clear hf4 hpt HF3 HG HFO HO3 HPT hbb
  have hlen := HP4.out.own.len Try.underlying68 3
  go_wp2_with (first | (at_make; refine wpList_make_own _ rfl _ _ 26 rfl w.heap.size 34 i0 (.agg #[.int .i64 0, .int .i64 0, .int .i64 0, .int .i64 0, .slice none 0 0]) 5 Try.underlying26 hi hz0 hz1 .i64 .i64 _ (Maps.size D) rfl rfl rfl ?_ ?_ ?_ ?_))
  · rw [hz2]; omega
  · unfold maxLen; omega
  · omega
  · intro w5 hown5 hgrow5
    have HF5 : Hid (Fr (fun _ => False) w4 w5) := (Fr.refl _ _).grown hgrow5 (fun _ e _ => by cases e)
    have HP5 : Hid (Parts w5 bp b N (ln (rowsF W P) H) (rt f) N D V) := HP4.out.kept HF5.out (fun h => h) (fun _ _ _ h => h)
    have HO5 : Hid (OwnPs w5 w.heap.size (.slice (some ⟨w4.heap.size, 0, none⟩) 0 (Maps.size D)) []) := ⟨hown5, by simp, by simp⟩
    clear hown5 hgrow5
    go_wp2_with fail
    refine (keys_any (some b) w5).mono ?_
    rintro e w6 ⟨rfl, rfl⟩
    go_wp2_with fail
    refine (sorted_any b N D heldR w5 HP5.out.own (by omega)).mono ?_
    rintro e w7 ⟨vK, ss, rfl, hss, hrow7, _, hb7⟩
    have HKS : Hid (ss.mergeSort (fun x y => decide (x ≤ y)) = (rootsL (rt f) N).map (fun (r : Nat) => (r : Int))) := keys_sorted HP5.out.own (rootsL_ok (rt f) N) (fun i => rt_rt HGW.out.dn i) (fun i => rt_le f i) HP5.out.keys hss
    have hsl : ss.length = (rootsL (rt f) N).length := by
      have := congrArg List.length HKS.out
      rwa [List.length_mergeSort, List.length_map] at this
    have HF7 : Hid (Fr (fun _ => False) w5 w7) := Fr.of_below hb7 _
    rw [HKS.out, List.map_map, hsl] at hrow7
    obtain ⟨aoK, cK, rfl⟩ := own_slice hrow7
    obtain ⟨bk, HRK⟩ : ∃ bk, Hid (w7.ownsRow bk 3 1 (.slice aoK (rootsL (rt f) N).length cK) (rootsL (rt f) N).length ((rootsL (rt f) N).map (encZ ∘ fun (r : Nat) => (r : Int)))) := ⟨_, hrow7⟩
    have HO7 : Hid (OwnPs w7 w.heap.size (.slice (some ⟨w4.heap.size, 0, none⟩) 0 (Maps.size D)) []) := HO5.out.kept HF7.out (fun _ _ h => h)
    have HF47 : Hid (Fr (fun _ => False) w4 w7) := HF5.out.trans HF7.out (fun _ _ h => h)
    have HL4 : Hid (∀ k, Value.ownBlock (.slice (some ⟨w4.heap.size, 0, none⟩) 0 (Maps.size D)) = some k → w4.heap.size ≤ k) := fun k hk => by cases hk; exact Nat.le_refl _
    have HRT : Hid (∀ r, r ∈ rootsL (rt f) N ↔ r < N ∧ rt f r = r) := (rootsL_ok (rt f) N).mem
    have hrl := rootsL_len (rt f) N
    have HPS : Hid (Pcs (Bk W H P) ((rootsL (rt f) N).map (rep (rowsF W P) H)) ((rootsL (rt f) N).map fun r => pcOf (partTo (ln (rowsF W P) H) (rt f) N r))) := by
      have := HGW.out.pcs; rwa [hNN] at this
    have HFS : Hid (Firsts (Bk W H P) ((rootsL (rt f) N).map (rep (rowsF W P) H))) := HGW.out.firsts (by rw [hNN]; exact rootsL_ok _ _)
    clear hss hrow7 hb7 HKS HF7 HF5 HO5 HP5 hlen hsl
    generalize rootsL (rt f) N = ks at *
    go_wp2_with fail
    go_loopg [8, 33] ks.length (fun q lv k wr => ∃ (i : Nat) (L : List PV), i + q = ks.length ∧ k = .int .i64 i ∧ OwnPs wr w.heap.size lv L ∧ L.map (·.1) = (ks.take i).map (fun r => pcOf (partTo (ln (rowsF W P) H) (rt f) N r)) ∧ wr.ownsRow bk 3 1 (.slice aoK ks.length cK) ks.length (ks.map (encZ ∘ fun (r : Nat) => (r : Int))) ∧ (∀ k, lv.ownBlock = some k → w4.heap.size ≤ k) ∧ Fr (fun _ => False) w4 wr)
    case atStart => exact ⟨0, [], by omega, rfl, HO7.out, rfl, HRK.out, HL4.out, HF47.out⟩
    case round =>
      clear HO7 HRK HL4 HF47
      obtain ⟨i, L, hq, rfl, ho, hL, hrk, hlv, hfr⟩ := hrel
      have HRK : Hid (wr.ownsRow bk 3 1 (.slice aoK ks.length cK) ks.length (ks.map (encZ ∘ fun (r : Nat) => (r : Int)))) := hrk
      have HLV : Hid (∀ k, u8.ownBlock = some k → w4.heap.size ≤ k) := hlv
      have HO : Hid (OwnPs wr w.heap.size u8 L) := ho
      have HLL : Hid (L.map (·.1) = (ks.take i).map (fun r => pcOf (partTo (ln (rowsF W P) H) (rt f) N r))) := hL
      have HF : Hid (Fr (fun _ => False) w4 wr) := hfr
      have hLb : L.length ≤ 1048576 := by
        have := congrArg List.length hL
        simp at this
        omega
      clear ho hL hfr hrk hlv
      by_cases hin : i < ks.length
      · have di : decide (i < ks.length) = true := decide_eq_true hin
        obtain ⟨gK, kK, eK, _⟩ := row_form HRK.out (by omega)
        simp only [Value.slice.injEq] at eK
        obtain ⟨rfl, _, rfl⟩ := eK
        have ck : wr.cell? ⟨gK, i, none⟩ = some (.int .i64 (ks[i] : Nat)) := by
          have := HRK.out.cellAt i (by omega)
          rw [this, List.getElem?_map, List.getElem?_eq_getElem hin]; rfl
        have HKM := (HRT.out ks[i]).1 (List.getElem_mem hin)
        have HTK : Hid (ks.take (i + 1) = ks.take i ++ [ks[i]]) := by
          show _ = _
          rw [List.take_add_one, List.getElem?_eq_getElem hin]; rfl
        generalize ks[i] = r at *
        have HKEY : Hid (keyOf Try.prog 3 (.int .i64 (r : Nat)) = some (kI r)) := keyI r (by omega)
        have HPR : Hid (Parts wr bp b N (ln (rowsF W P) H) (rt f) N D V) := HP4.out.kept HF.out (fun h => h) (fun _ _ _ h => h)
        have HCP := HPC.out f HGW.out r HKM.1 HKM.2 bp (V r) wr (HPR.out.row r)
        have HL1 : Hid ((L.map (·.1)) ++ [pcOf (partTo (ln (rowsF W P) H) (rt f) N r)] = (ks.take (i + 1)).map (fun r => pcOf (partTo (ln (rowsF W P) H) (rt f) N r))) := by
          rw [HLL.out, HTK.out, List.map_append]; rfl
        generalize pcOf (partTo (ln (rowsF W P) H) (rt f) N r) = pc at *
        have HCP2 : Hid (Calls Try.prog 40 #[V r] wr fun e w'' => ∃ g2 cap2, e = .returned (.agg #[.int .i64 (pc.X : Nat), .int .i64 (pc.Y : Nat), .int .i64 (pc.W : Nat), .int .i64 (pc.H : Nat), .slice (some ⟨g2, 0, none⟩) (pc.H * stride pc.W) cap2]) ∧ RowAt w'' g2 cap2 pc.W pc.H pc.Q ∧ wr.heap.size ≤ g2 ∧ Fr (fun _ => False) wr w'') := HCP
        have hVR := HPR.out.val r
        obtain ⟨aoV, cV, eV⟩ := own_slice (HPR.out.row r)
        clear HCP HTK HLL
        generalize hvr : V r = vr at *
        have hsz : w.heap.size ≤ wr.heap.size := Nat.le_trans hs4 HF.out.size
        subst eV
        go_wp2_with (first | (at_lookup; refine wpList_lookup_held _ rfl _ _ 68 rfl 3 66 Try.keyed Try.underlying68 (.slice none 0 0) (Try.zero66 _) b N D rfl HPR.out.own _ _ rfl HKEY.out _ hVR ?_))
        refine HCP2.out.mono ?_
        rintro e w8 ⟨g2, cap2, rfl, hr8, hg8, hf8⟩
        have HR8 : Hid (RowAt w8 g2 cap2 pc.W pc.H pc.Q) := hr8
        have HF8 : Hid (Fr (fun _ => False) wr w8) := hf8
        have HOW : Hid (w8.ownsRow 0 34 5 u8 L.length (cellsPs L)) := ownsRow_base (row_kept HO.out.own hf8 (fun _ _ h => h)) (fun _ _ => Nat.zero_le _)
        clear hr8 hf8
        go_wp2_with (first | (at_builtin; refine wpList_append_row _ rfl _ _ 26 rfl 34 i0 (.agg #[.int .i64 0, .int .i64 0, .int .i64 0, .int .i64 0, .slice none 0 0]) 5 56 Try.underlying26 hi hz0 hz1 hz2 rfl (by decide) _ _ _ rfl (HOW.out.alloc _) ⟨w8.heap.size, 0, none⟩ 1 1 _ rfl rfl (cell_five_new _ _ _ _ _ _ _) ?_ ?_ ?_ (by decide) ?_))
        · intro u hu; simp at hu; rcases hu with rfl | rfl | rfl | rfl | rfl <;> rfl
        · unfold maxLen; omega
        · omega
        · intro g' cap' w9 hown9 hgrow9 hloc9 _ _
          have HO9 : Hid (OwnPs w9 w.heap.size (.slice (some ⟨g', 0, none⟩) (L.length + 1) cap') (L ++ [(pc, g2, cap2)])) := HO.out.step hsz HF8.out HR8.out hg8 ((Fr.refl (fun _ => False) w8).alloc _) hown9 hgrow9 (by rw [World.size_alloc]; exact hloc9)
          have HF9 : Hid (Fr (fun _ => False) w4 w9) := ((HF.out.trans HF8.out (fun _ _ h => h)).alloc _).grown hgrow9 (fun k hk hlt => by have := HLV.out k hk; omega)
          have HRK9 : Hid (w9.ownsRow bk 3 1 (.slice (some ⟨gK, 0, none⟩) ks.length cK) ks.length (ks.map (encZ ∘ fun (r : Nat) => (r : Int)))) := World.ownsRow.kept ((row_kept HRK.out HF8.out (fun _ _ h => h)).alloc _) hgrow9 (own_ne2 (row_kept HRK.out HF8.out (fun _ _ h => h)) HOW.out (by decide))
          have HLV9 : Hid (∀ k, Value.ownBlock (.slice (some ⟨g', 0, none⟩) (L.length + 1) cap') = some k → w4.heap.size ≤ k) := fun k hk => by
            simp [Value.ownBlock] at hk
            subst hk
            rcases hloc9 with e | e
            · exact HLV.out _ e
            · have := HF.out.size; have := HF8.out.size; omega
          clear hown9 hgrow9 hloc9
          go_wp2_with fail
          go_roundg (ks.length - (i + 1))
          case measure => omega
          case rel => exact ⟨i + 1, L ++ [(pc, g2, cap2)], by omega, rfl, HO9.out, by rw [List.map_append]; exact HL1.out, HRK9.out, HLV9.out, HF9.out⟩
      · have di : decide (i < ks.length) = false := decide_eq_false hin
        have HLN2 : Hid (L.map (·.1) = ks.map (fun r => pcOf (partTo (ln (rowsF W P) H) (rt f) N r))) := by
          have := HLL.out
          rwa [show i = ks.length by omega, List.take_length] at this
        go_wp2_with fail
        go_ret2
        exact ⟨_, L, _, rfl, HO.out, HFS.out, by rw [HLN2.out]; exact HPS.out, HF4.out.trans HF.out (fun _ _ h => h)⟩

end Go.Proofs.Ytgpciopoionmeaa
