/- 'SegmentOne', by contracts. -/
import Derived.Test.YtamonbkhpbdojaaDoorSv
import Derived.Deep.CutRange
import Derived.Deep.RegionHeld3
import Derived.Deep.Light
namespace Go.Proofs.YtamonbkhpbdojaaDoor
set_option maxRecDepth 100000
open Go.RowKit

theorem seen_kept {w w' : World} {v : Value} {l : List Nat} (h : SeenAt w v l) (f : Fr (fun _ => False) w w') : SeenAt w' v l := by
  obtain ⟨ao, cap, e, hl, hc⟩ := h
  refine ⟨ao, cap, e, hl, fun hx => ?_⟩
  obtain ⟨b, off, e2, hcc⟩ := hc hx
  exact ⟨b, off, e2, fun j hj => f.cell (hcc j hj) (fun h => h)⟩
theorem blkOld {w w' : World} {o : Nat} {B : Obj} (f : Fr (fun _ => False) w w') (h : w.heap[o]? = some B) : w'.heap[o]? = some B := by rw [f.block o (lt_of_block h) (fun hh => hh)]; exact h
theorem Fr.cells {a b : World} (h : Fr (fun _ => False) a b) : ∀ (o k : Nat), o < a.heap.size → b.cell? ⟨o, k, none⟩ = a.cell? ⟨o, k, none⟩ := fun o k ho => by
  simp only [World.cell?, h.block o ho (fun hh => hh)]
theorem Fr.frozens {a b : World} (h : Fr (fun _ => False) a b) : ∀ (o k : Nat), o < a.heap.size → b.frozen? ⟨o, k, none⟩ = a.frozen? ⟨o, k, none⟩ := fun o k ho => by
  unfold World.frozen?
  rw [h.block o ho (fun hh => hh)]
theorem blk7 {w : World} {o : Nat} {z0 z1 z2 z3 z4 z5 z6 : Value} {t : TypeId} (h : w.heap[o]? = some (.cells #[z0, z1, z2, z3, z4, z5, z6] t (0, 0))) (x0 x1 x2 x3 x4 x5 x6 : Value) : (((((((w.setCell ⟨o, 0, none⟩ x0).setCell ⟨o, 1, none⟩ x1).setCell ⟨o, 2, none⟩ x2).setCell ⟨o, 3, none⟩ x3).setCell ⟨o, 4, none⟩ x4).setCell ⟨o, 5, none⟩ x5).setCell ⟨o, 6, none⟩ x6).heap[o]? = some (.cells #[x0, x1, x2, x3, x4, x5, x6] t (0, 0)) := by
  simp [World.setCell, Array.getElem?_modify, h]
theorem fr7 (w : World) (o : Nat) (x0 x1 x2 x3 x4 x5 x6 : Value) : Fr (fun k => k = o) w (((((((w.setCell ⟨o, 0, none⟩ x0).setCell ⟨o, 1, none⟩ x1).setCell ⟨o, 2, none⟩ x2).setCell ⟨o, 3, none⟩ x3).setCell ⟨o, 4, none⟩ x4).setCell ⟨o, 5, none⟩ x5).setCell ⟨o, 6, none⟩ x6) :=
  (((((((Fr.refl (fun k => k = o) w).setCell (p := ⟨o, 0, none⟩) (fun _ => rfl) x0).setCell (p := ⟨o, 1, none⟩) (fun _ => rfl) x1).setCell (p := ⟨o, 2, none⟩) (fun _ => rfl) x2).setCell (p := ⟨o, 3, none⟩) (fun _ => rfl) x3).setCell (p := ⟨o, 4, none⟩) (fun _ => rfl) x4).setCell (p := ⟨o, 5, none⟩) (fun _ => rfl) x5).setCell (p := ⟨o, 6, none⟩) (fun _ => rfl) x6
theorem Fr.fresh {S : Nat → Prop} {w0 w w' : World} (h : Fr (fun _ => False) w0 w) (f : Fr S w w') (hs : ∀ k, S k → w0.heap.size ≤ k) : Fr (fun _ => False) w0 w' := h.trans f (fun i hi e => by have := hs i e; omega)

set_option maxHeartbeats 8000000 in
theorem one_any (ao : Option Addr) (n cap : Nat) (A : Nat → Plc) (w : World) (h : PlcsAt w ao n A) (hr : RulesAt w) :
    Calls Tryd.prog 6 #[.slice ao n cap] w fun e w' => e = .returned (.bool true) ∧ Fr (fun _ => False) w w' := by
  obtain ⟨i0, hi, hz0, hz1, hz2⟩ := info_parts Tryd.info5
  have HRU : Hid (RulesAt w) := hr
  have hlen := h.len
  have HP : Hid (PlcsAt w ao n A) := h
  have HWK : Hid (∀ w', Fr (fun _ => False) w w' → Calls Tryd.prog 14 #[] w' fun e w'' => e = .returned (.bool true) ∧ Fr (fun _ => False) w' w'') := fun w' f => wakes_any w' (HRU.out.kept f (fun h => h))
  clear h hr
  go_enter Tryd.func6, Tryd.ntmps6
  go_wp2_with fail
  go_loopw [3, 4, 5, 6, 7, 8, 9] (fun i _ _ _ _ _ _ wr => ∃ (k : Nat), k ≤ n ∧ k ≤ 10 ∧ i = .int .i64 (k : Int) ∧ Hid (Fr (fun _ => False) w wr)) (fun i _ _ _ _ _ _ _ => (10 - (intOf i).toNat))
  case atStart => exact ⟨0, by omega, by omega, rfl, Fr.refl _ _⟩
  case round =>
    obtain ⟨k, hk, hk10, rfl, HFR⟩ := hrel
    by_cases hlt : k < n
    · have hd : decide ((k : Int) < (n : Int)) = true := decide_eq_true (by omega)
      by_cases hl10 : k < 10
      · have hd2 : decide ((k : Int) < 10) = true := decide_eq_true (by omega)
        obtain ⟨b, off, rfl, hc⟩ := HP.out.cells (by omega)
        have HC : Hid (∀ w', Fr (fun _ => False) w w' → w'.cell? ⟨b, off + k * 2, none⟩ = some (.slice (A k).ao (A k).l.length (A k).cap) ∧ w'.cell? ⟨b, off + k * 2 + 1, none⟩ = some (.int .i64 (A k).x)) := fun w' f => ⟨f.cell (hc k hlt).1 (fun h => h), f.cell (hc k hlt).2 (fun h => h)⟩
        have HDB : Hid (∀ w', Fr (fun _ => False) w w' → DB0 w' (A k).ao (A k).cap (A k).l) := fun w' f => (HP.out.ok k hlt).kept f
        clear hc
        generalize A k = y at HC HDB
        obtain ⟨fo, fc, F, x⟩ := y
        try simp only at HC HDB
        obtain ⟨q0, q1⟩ := HC.out _ HFR.out
        by_cases hF : 20000 < F.length
        · have hd3 : decide ((20000 : Int) < (F.length : Int)) = true := decide_eq_true (by omega)
          go_wp2_with fail
          go_roundw
          case rel => exact ⟨k + 1, by omega, by omega, congrArg (Value.int .i64) (by omega), HFR.out⟩
          case measure => simp [intOf]; omega
        · have hd3 : decide ((20000 : Int) < (F.length : Int)) = false := decide_eq_false (by omega)
          have HFL : Hid (F.length ≤ 20000) := by show _ ≤ _; omega
          obtain ⟨er, s, d, e, hR⟩ : ∃ er s d e, decS F x = (er, s, d, e) := ⟨_, _, _, _, rfl⟩
          have HR : Hid (decS F x = (er, s, d, e)) := hR
          have HER : Hid (erOK er) := by have := decS_er F x; rw [hR] at this; exact this
          have HDF : Hid (er ≠ 0 → s = default ∧ d = 0 ∧ e = 0) := fun h => by
            have h2 := decS_def F x (by rw [hR]; exact h)
            rw [hR] at h2
            exact ⟨congrArg Prod.fst h2, congrArg (fun y => y.2.1) h2, congrArg (fun y => y.2.2) h2⟩
          have HDE : Hid (∀ w', Fr (fun _ => False) wr w' → Calls Tryd.prog 16 #[.slice fo F.length fc, .int .i64 x] w' fun en w'' => Fr (fun _ => False) w' w'' ∧ ∃ a1 c1 a2 c2, en = .returned (.tuple #[.agg #[.int .i64 (s.num : Int), .int .i64 (s.kind : Int), .int .i64 (s.page : Int), .slice a1 s.refs.length c1, .slice a2 s.keep.length c2, .bool s.stay, .slice none 0 0], .int .i64 (d : Int), .int .i64 (e : Int), .int .i64 (er : Int)]) ∧ w''.ownsRow w'.heap.size 3 1 (.slice a1 s.refs.length c1) s.refs.length (intCells s.refs) ∧ w''.ownsRow w'.heap.size 4 1 (.slice a2 s.keep.length c2) s.keep.length (boolCells s.keep)) := fun w' f => by
            have f2 := HFR.out.trans f (fun _ _ h => h)
            exact decode_law fo fc F x w' ((HDB.out w' f2).db (by omega)) (HRU.out.kept f2 (fun h => h)) er s d e hR
          clear hR
          go_wp2_with fail
          go_upto_region 5 with (fail)
          have HKC : Hid (∀ w', Fr (fun _ => False) wr w' → w'.cell? ⟨b, off + k * 2, none⟩ = some (.slice fo F.length fc) ∧ w'.cell? ⟨b, off + k * 2 + 1, none⟩ = some (.int .i64 x)) := fun w' f => HC.out w' (HFR.out.trans f (fun _ _ h => h))
          go_cut [4, 5, 6, 7] from 27 to 42 (fun u4 u5 u6 u7 wc => ∃ sb a1 c1 a2 c2, u4 = .pointer (some ⟨sb, 0, none⟩) ∧ u5 = .int .i64 (d : Int) ∧ u6 = .int .i64 (e : Int) ∧ u7 = .int .i64 (er : Int) ∧ wr.heap.size ≤ sb ∧ wc.heap[sb]? = some (.cells #[.int .i64 (s.num : Int), .int .i64 (s.kind : Int), .int .i64 (s.page : Int), .slice a1 s.refs.length c1, .slice a2 s.keep.length c2, .bool s.stay, .slice none 0 0] 27 (0, 0)) ∧ wc.ownsRow wr.heap.size 3 1 (.slice a1 s.refs.length c1) s.refs.length (intCells s.refs) ∧ wc.ownsRow wr.heap.size 4 1 (.slice a2 s.keep.length c2) s.keep.length (boolCells s.keep) ∧ Fr (fun _ => False) wr wc)
          case first =>
            go_region_held3 (fun w' => w'.cell? ⟨b, off + k * 2, none⟩ = some (.slice fo F.length fc) ∧ w'.cell? ⟨b, off + k * 2 + 1, none⟩ = some (.int .i64 x)) (exact HKC.out _ (by repeat (first | with_reducible exact Fr.refl _ _ | with_reducible refine Fr.setCell ?_ (fun hh => absurd hh (Nat.not_lt.2 (Nat.le_refl _))) _ | with_reducible refine Fr.drew ?_ | with_reducible refine Fr.alloc ?_ _ | (with_reducible refine Fr.trans ?_ hf5 (fun _ _ h => h))))) ((go_at_call 16; refine (HDE.out _ (by repeat (first | with_reducible exact Fr.refl _ _ | with_reducible refine Fr.drew ?_ | with_reducible refine Fr.alloc ?_ _))).mono ?_; rintro en w5 ⟨hf5, a1, c1, a2, c2, rfl, hr5, hk5⟩; (have hc5 := hf5.cells); (have hz5 := hf5.frozens); (have hn5 := hf5.size); (try have ku1 : wr.heap.size < w5.heap.size := by simp at hn5; omega)))
            · go_wp2_with fail
              go_meet
              go_light
              exact ⟨_, a1, c1, a2, c2, rfl, rfl, rfl, rfl, hn5, heap_alloc_new _ _, row_kept hr5 ((Fr.refl (fun _ => False) _).alloc _) (fun _ _ h => h), row_kept hk5 ((Fr.refl (fun _ => False) _).alloc _) (fun _ _ h => h), ((Fr.refl _ _).drew.trans hf5 (fun _ _ h => h)).alloc _⟩
            · go_wp2_with fail
              go_meet
              go_light
              have hsz : (wr.alloc (.cells #[.int .i64 0, .int .i64 0, .int .i64 0, .slice none 0 0, .slice none 0 0, .bool false, .slice none 0 0] 27)).drew.heap.size = wr.heap.size + 1 := World.size_alloc _ _
              exact ⟨_, a1, c1, a2, c2, rfl, rfl, rfl, rfl, Nat.le_refl _, blk7 (blkOld hf5 (heap_alloc_new wr.drew _)) _ _ _ _ _ _ _, ownsRow_base (row_kept hr5 (fr7 _ _ _ _ _ _ _ _ _) (fun k e e2 => by have := (hr5.lt k e).1; omega)) (fun k e => by have := (hr5.lt k e).1; omega), ownsRow_base (row_kept hk5 (fr7 _ _ _ _ _ _ _ _ _) (fun k e e2 => by have := (hk5.lt k e).1; omega)) (fun k e => by have := (hk5.lt k e).1; omega), Fr.fresh (((Fr.refl _ _).drew.alloc _).trans hf5 (fun _ _ h => h)) (fr7 _ _ _ _ _ _ _ _ _) (fun k e => by omega)⟩
          case rest =>
            obtain ⟨sb, a1, c1, a2, c2, rfl, rfl, rfl, rfl, hsb, hb, hr, hk2, hf⟩ := hcut
            have HFC : Hid (Fr (fun _ => False) w wc) := HFR.out.trans hf (fun _ _ h => h)
            have HBC : Hid (wc.heap[sb]? = some (.cells #[.int .i64 (s.num : Int), .int .i64 (s.kind : Int), .int .i64 (s.page : Int), .slice a1 s.refs.length c1, .slice a2 s.keep.length c2, .bool s.stay, .slice none 0 0] 27 (0, 0))) := hb
            have HSB : Hid (w.heap.size ≤ sb) := Nat.le_trans HFR.out.size hsb
            have HRO : Hid (∀ w', Fr (fun k => k = sb) wc w' → w'.ownsRow wr.heap.size 3 1 (.slice a1 s.refs.length c1) s.refs.length (intCells s.refs) ∧ w'.ownsRow wr.heap.size 4 1 (.slice a2 s.keep.length c2) s.keep.length (boolCells s.keep)) := fun w' f => ⟨row_kept hr f (fun k e e2 => row_off hr hb (by decide) (by rw [e, e2])), row_kept hk2 f (fun k e e2 => row_off hk2 hb (by decide) (by rw [e, e2]))⟩
            clear hsb hb hr hk2 hf q0 q1 HDE HKC HFR
            by_cases her : er = 0
            · subst her
              obtain ⟨ok, hx0, hxe, heF, hseg⟩ := decS_inv (HDB.out _ HFC.out).byt HR.out
              obtain ⟨xn, rfl⟩ : ∃ xn : Nat, x = (xn : Int) := ⟨x.toNat, by omega⟩
              rw [Int.toNat_natCast] at hseg
              have HOK : Hid (OkS s d) := ok
              have HSEG : Hid ((F.drop xn).take (e - xn) = hdrB s d) := hseg
              have HXE : Hid (xn < e ∧ e ≤ F.length) := ⟨by omega, heF⟩
              have hd0 : ¬ (d : Int) < 0 := by omega
              clear ok hseg
              by_cases hdm : 100000 < d
              · have hd4 : decide ((100000 : Int) < (d : Int)) = true := decide_eq_true (by omega)
                go_wp2_with fail
                go_roundw
                case rel => exact ⟨k + 1, by omega, by omega, congrArg (Value.int .i64) (by omega), HFC.out⟩
                case measure => simp [intOf]; omega
              · have hd4 : decide ((100000 : Int) < (d : Int)) = false := decide_eq_false (by omega)
                have g6 : wc.cell? ⟨sb, 6, none⟩ = some (.slice none 0 0) := by simp [World.cell?, HBC.out]
                have z6 : wc.frozen? ⟨sb, 6, none⟩ = false := by simp [World.frozen?, HBC.out]
                go_wp2_with (first | (at_make; refine wpList_make_full _ rfl _ _ 25 rfl 0 5 i0 (.int .u8 0) 1 Tryd.underlying25 hi hz0 hz1 .i64 .i64 _ _ d rfl rfl ?_ ?_ ?_ ?_ ?_ ?_))
                all_goals try (first | omega | (rw [hz2]; omega) | (unfold maxLen; omega))
                intro w5 hown hgrow
                have hf5 := (Fr.refl (fun _ => False) wc).grown hgrow (fun _ e _ => by cases e)
                have hob : ∀ kk, Value.ownBlock (.slice (some ⟨wc.heap.size, 0, none⟩) d d) = some kk → kk ≠ sb := fun kk e e2 => by
                  have h1 := lt_of_block HBC.out
                  simp [Value.ownBlock] at e
                  omega
                have hb5 := blkOld hf5 HBC.out
                have f56 : Fr (fun k => k = sb) w5 (w5.setCell ⟨sb, 6, none⟩ (.slice (some ⟨wc.heap.size, 0, none⟩) d d)) := Fr.one _ _ _ _
                have HB6 : Hid ((w5.setCell ⟨sb, 6, none⟩ (.slice (some ⟨wc.heap.size, 0, none⟩) d d)).heap[sb]? = some (.cells #[.int .i64 (s.num : Int), .int .i64 (s.kind : Int), .int .i64 (s.page : Int), .slice a1 s.refs.length c1, .slice a2 s.keep.length c2, .bool s.stay, .slice (some ⟨wc.heap.size, 0, none⟩) d d] 27 (0, 0))) := by
                  show _ = _
                  simp [World.setCell, Array.getElem?_modify, hb5]
                have HSG : Hid (SgAt (w5.setCell ⟨sb, 6, none⟩ (.slice (some ⟨wc.heap.size, 0, none⟩) d d)) (ofSeg s (List.replicate d 0)) (.slice a1 s.refs.length c1) (.slice a2 s.keep.length c2) (.slice (some ⟨wc.heap.size, 0, none⟩) d d)) := by
                  obtain ⟨h1, h2⟩ := HRO.out _ ((hf5.mono (T := fun k => k = sb) (fun _ _ h => h.elim)).trans f56 (fun _ _ h => h))
                  have hok := HOK.out
                  have hm := Nat.le_trans hok.many (mostN_le _ _)
                  have hn := hok.num
                  have hkp := hok.keep
                  refine ⟨RowS.of_ints h1 (by omega), RowS.of_bools h2 (show s.keep.length ≤ 9223372036854775807 by omega), RowS.of_own (made_row (row_kept hown f56 hob)) ?_⟩
                  rw [length_byteCells]; show (List.replicate d 0).length ≤ _; rw [List.length_replicate]; omega
                have HF6 : Hid (Fr (fun _ => False) w (w5.setCell ⟨sb, 6, none⟩ (.slice (some ⟨wc.heap.size, 0, none⟩) d d))) := (HFC.out.trans hf5 (fun _ _ h => h)).fresh f56 (fun k e => by have := HSB.out; omega)
                have z6 : w5.frozen? ⟨sb, 6, none⟩ = false := by simp [World.frozen?, hb5]
                have g0 : w5.cell? ⟨sb, 0, none⟩ = some (.int .i64 (s.num : Int)) := by simp [World.cell?, hb5]
                have g1 : w5.cell? ⟨sb, 1, none⟩ = some (.int .i64 (s.kind : Int)) := by simp [World.cell?, hb5]
                have g2 : w5.cell? ⟨sb, 2, none⟩ = some (.int .i64 (s.page : Int)) := by simp [World.cell?, hb5]
                have g3 : w5.cell? ⟨sb, 3, none⟩ = some (.slice a1 s.refs.length c1) := by simp [World.cell?, hb5]
                have g4 : w5.cell? ⟨sb, 4, none⟩ = some (.slice a2 s.keep.length c2) := by simp [World.cell?, hb5]
                have g5 : w5.cell? ⟨sb, 5, none⟩ = some (.bool s.stay) := by simp [World.cell?, hb5]
                have g6 : w5.cell? ⟨sb, 6, none⟩ = some (.slice none 0 0) := by simp [World.cell?, hb5]
                clear hown hgrow hf5 hob hb5 f56
                go_wp2_with fail
                clear g0 g1 g2 g3 g4 g5 g6 z6
                have HEN : Hid (Calls Tryd.prog 8 #[.agg #[.int .i64 (s.num : Int), .int .i64 (s.kind : Int), .int .i64 (s.page : Int), .slice a1 s.refs.length c1, .slice a2 s.keep.length c2, .bool s.stay, .slice (some ⟨wc.heap.size, 0, none⟩) d d]] (w5.setCell ⟨sb, 6, none⟩ (.slice (some ⟨wc.heap.size, 0, none⟩) d d)) fun en w' => Fr (fun _ => False) (w5.setCell ⟨sb, 6, none⟩ (.slice (some ⟨wc.heap.size, 0, none⟩) d d)) w' ∧ ∃ ho hc, en = .returned (.tuple #[.slice ho (e - xn) hc, .int .i64 0]) ∧ SeenAt w' (.slice ho (e - xn) hc) (hdrB s d)) := by
                  have ok2 : OkS s (List.replicate d 0).length := by rw [List.length_replicate]; exact HOK.out
                  have hl : (hdrB s d).length = e - xn := by rw [← HSEG.out, List.length_take, List.length_drop]; have := HXE.out; omega
                  refine (encode_ok s (List.replicate d 0) _ _ _ _ HSG.out ok2 (HRU.out.kept HF6.out (fun h => h))).mono ?_
                  rw [List.length_replicate]
                  rintro en w' ⟨hf, ho, hc, rfl, hby⟩
                  rw [hl] at hby ⊢
                  exact ⟨hf, ho, hc, rfl, SeenAt.of_row hby (by omega)⟩
                refine HEN.out.mono ?_
                rintro en w7 ⟨hf7, ho, hc, rfl, hby⟩
                have HF7 : Hid (Fr (fun _ => False) w w7) := HF6.out.trans hf7 (fun _ _ h => h)
                have HFX : Hid (∃ fb foff, fo = some ⟨fb, foff, none⟩) := by
                  obtain ⟨fb, foff, e1, _⟩ := (HDB.out w (Fr.refl _ _)).seen (fun e1 => by have := HXE.out; rw [e1] at this; simp at this; omega)
                  exact ⟨fb, foff, e1⟩
                obtain ⟨fb, foff, rfl⟩ := HFX.out
                have hfcl := (HDB.out w (Fr.refl _ _)).cp
                have hfcm := (HDB.out w (Fr.refl _ _)).cl
                have HEQ : Hid (∀ w', Fr (fun _ => False) w7 w' → Calls Tryd.prog 12 #[.slice ho (e - xn) hc, .slice (some ⟨fb, foff + xn, none⟩) (e - xn) (fc - xn)] w' fun en w'' => en = .returned (.bool true) ∧ ∃ q, w'' = w'.drewN q) := fun w' f => by
                  have hl : (hdrB s d).length = e - xn := by rw [← HSEG.out, List.length_take, List.length_drop]; have := HXE.out; omega
                  refine eq_same _ _ (hdrB s d) (hdrB s d) w' (seen_kept hby f) ⟨_, fc - xn, by rw [hl], by omega, fun _ => ⟨fb, foff + xn, rfl, fun j hj => ?_⟩⟩ rfl true (by show _ = _; simp)
                  obtain ⟨fb', foff', e1, hc1⟩ := (HDB.out w' (HF7.out.trans f (fun _ _ h => h))).seen (fun e1 => by have := HXE.out; rw [e1] at this; simp at this; omega)
                  cases e1
                  have h1 := hc1 (xn + j) (by have := HXE.out; omega)
                  rw [Nat.add_assoc, h1, ← HSEG.out, List.getElem?_take, if_pos (by omega), List.getElem?_drop]
                have HKC : Hid (∀ w', Fr (fun _ => False) w7 w' → w'.cell? ⟨b, off + k * 2, none⟩ = some (.slice (some ⟨fb, foff, none⟩) F.length fc) ∧ w'.cell? ⟨b, off + k * 2 + 1, none⟩ = some (.int .i64 (xn : Int))) := fun w' f => HC.out w' (HF7.out.trans f (fun _ _ h => h))
                obtain ⟨m, hm⟩ : ∃ m, m = e - xn := ⟨_, rfl⟩
                rw [← hm] at HEQ ⊢
                have t1 : decide ((xn : Int) < 0) = false := decide_eq_false (by omega)
                have t2 : decide ((F.length : Int) < (e : Int)) = false := decide_eq_false (by omega)
                have t3 : decide ((e : Int) < (xn : Int)) = false := decide_eq_false (by omega)
                have t4 : decide (F.length < e) = false := decide_eq_false (by omega)
                have t5 : decide (e < xn) = false := decide_eq_false (by omega)
                have b1 : (0 : Int) ≤ (xn : Int) := by omega
                have b2 : (xn : Int) ≤ (e : Int) := by omega
                have b3 : (e : Int) ≤ (fc : Int) := by omega
                have b4 : (e : Int) - (xn : Int) = (m : Int) := by omega
                have b5 : e - xn = m := hm.symm
                have b6 : xn ≤ e := by omega
                have b7 : ¬ fc = xn := by omega
                clear hby hf7 HEN HSG HB6 HF6 HSEG HXE hm hfcm hfcl HRO HBC HFC HOK HR HSB HDF
                go_wp2_with fail
                go_upto_region 12 with (fail)
                go_region_held3 (fun w' => w'.cell? ⟨b, off + k * 2, none⟩ = some (.slice (some ⟨fb, foff, none⟩) F.length fc) ∧ w'.cell? ⟨b, off + k * 2 + 1, none⟩ = some (.int .i64 (xn : Int))) (exact HKC.out _ (by repeat (first | with_reducible exact Fr.refl _ _ | with_reducible refine Fr.drewN ?_ _ | with_reducible refine Fr.drew ?_))) ((go_at_call 12; refine (HEQ.out _ (by repeat (first | with_reducible exact Fr.refl _ _ | with_reducible refine Fr.drew ?_))).mono ?_; rintro en w8 ⟨rfl, q8, rfl⟩))
                go_wp2_with fail
                go_roundw
                case rel => exact ⟨k + 1, by omega, by omega, congrArg (Value.int .i64) (by omega), HF7.out.drewN _⟩
                case measure => simp [intOf]; omega
            · rcases HER.out with rfl | rfl | rfl
              · exact absurd rfl her
              all_goals
                obtain ⟨_, rfl, rfl⟩ := HDF.out her
                go_wp2_with fail
                go_roundw
                case rel => exact ⟨k + 1, by omega, by omega, congrArg (Value.int .i64) (by omega), HFC.out⟩
                case measure => simp [intOf]; omega
      · have hd2 : decide ((k : Int) < 10) = false := decide_eq_false (by omega)
        go_wp2_with fail
        refine (HWK.out _ HFR.out).mono ?_
        rintro e w1 ⟨rfl, hf1⟩
        go_wp2_with fail
        go_ret
        exact ⟨rfl, HFR.out.trans hf1 (fun _ _ h => h)⟩
    · have hd : decide ((k : Int) < (n : Int)) = false := decide_eq_false (by omega)
      go_wp2_with fail
      refine (HWK.out _ HFR.out).mono ?_
      rintro e w1 ⟨rfl, hf1⟩
      go_wp2_with fail
      go_ret
      exact ⟨rfl, HFR.out.trans hf1 (fun _ _ h => h)⟩
end Go.Proofs.YtamonbkhpbdojaaDoor
