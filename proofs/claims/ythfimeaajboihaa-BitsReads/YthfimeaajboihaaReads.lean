/- 'BitsReads', by contracts. -/
import Derived.Test.YthfimeaajboihaaLend
namespace Go.Proofs.Ythfimeaajboihaa
open Go.RowKit

/-- The reader and the plain reader, side by side. -/
structure RQ (B : Nat) (w0 w : World) (br : Nat) (vr : Value) (bq : Nat) (bo : Option Addr) (bcap : Nat) (l : List Nat) (p q : Nat) : Prop where
  hr : RAt w br vr l p
  hq : QAt w bq bo bcap l q
  bel : Below B w0 w
  sz : B ≤ w.heap.size
  rb : B ≤ br
  qb : B ≤ bq
  ne : br ≠ bq
  row : vr.ownBlock ≠ some bq
  arg : l ≠ [] → ∀ b off, bo = some ⟨b, off, none⟩ → b < B

theorem RQ.stepR {B : Nat} {w0 w w' : World} {br bq : Nat} {vr : Value} {bo : Option Addr} {bcap : Nat} {l : List Nat} {p q p' : Nat} (h : RQ B w0 w br vr bq bo bcap l p q) (hr : RAt w' br vr l p') (f : Fr (fun k => k = br) w w') : RQ B w0 w' br vr bq bo bcap l p' q := by
  have h1 := h.rb
  refine ⟨hr, h.hq.kept f (fun e => h.ne e.symm) (fun hl b off e e2 => ?_), h.bel.trans (f.below h.sz (fun k hk e => by omega)), Nat.le_trans h.sz f.size, h.rb, h.qb, h.ne, h.row, h.arg⟩
  have := h.arg hl b off e
  omega
theorem RQ.stepQ {B : Nat} {w0 w w' : World} {br bq : Nat} {vr : Value} {bo : Option Addr} {bcap : Nat} {l : List Nat} {p q q' : Nat} (h : RQ B w0 w br vr bq bo bcap l p q) (hq : QAt w' bq bo bcap l q') (f : Fr (fun k => k = bq) w w') : RQ B w0 w' br vr bq bo bcap l p q' := by
  have h1 := h.qb
  exact ⟨h.hr.kept f (fun e => h.ne e) (fun k hk e => h.row (by rw [hk, e])), hq, h.bel.trans (f.below h.sz (fun k hk e => by omega)), Nat.le_trans h.sz f.size, h.rb, h.qb, h.ne, h.row, h.arg⟩
theorem RQ.later {B : Nat} {w0 w w' : World} {br bq : Nat} {vr : Value} {bo : Option Addr} {bcap : Nat} {l : List Nat} {p q : Nat} (h : RQ B w0 w br vr bq bo bcap l p q) (f : Fr (fun _ => False) w w') : RQ B w0 w' br vr bq bo bcap l p q :=
  ⟨h.hr.kept f (fun hh => hh) (fun _ _ hh => hh), h.hq.kept f (fun hh => hh) (fun _ _ _ _ hh => hh), h.bel.trans (f.below h.sz (fun _ _ hh => hh)), Nat.le_trans h.sz f.size, h.rb, h.qb, h.ne, h.row, h.arg⟩

set_option maxRecDepth 100000 in
set_option maxHeartbeats 16000000 in
theorem reads_any (bo : Option Addr) (bcap : Nat) (l : List Nat) (ao : Option Addr) (n cap : Nat) (K : Nat → Int) (N : Nat → Nat) (D : Nat → Int) (w : World) (h : OpsAt w ao n K N D) (hl : l.length ≤ 140737488351232) (hnone : bo = none → l = [] ∧ bcap = 0) (hbyt : ∀ x ∈ l, x < 256)
    (hc : l ≠ [] → ∃ b off, bo = some ⟨b, off, none⟩ ∧ ∀ j, j < l.length → w.cell? ⟨b, off + j, none⟩ = some (.int .u8 (l[j]?.getD 0))) :
    Calls Try.prog 4 #[.agg #[.slice bo l.length bcap, .slice ao n cap]] w fun e w' => e = .returned (.bool true) ∧ Below w.heap.size w w' := by
  have HOP : Hid (OpsAt w ao n K N D) := h
  have HC : Hid (l ≠ [] → ∃ b off, bo = some ⟨b, off, none⟩ ∧ ∀ j, j < l.length → w.cell? ⟨b, off + j, none⟩ = some (.int .u8 (l[j]?.getD 0))) := hc
  have HNO : Hid (bo = none → l = [] ∧ bcap = 0) := hnone
  have HBY : Hid (∀ x ∈ l, x < 256) := hbyt
  clear h hc hnone hbyt
  have hnot : ∀ (x : Bool) (w : World), (Op.unary .not (.bool x)).run Try.prog w = .ok (.bool (!x)) w := fun _ _ => rfl
  go_enter Try.func4, Try.ntmps4
  go_wp2_with fail
  obtain ⟨w1, hw1⟩ : ∃ w1, w1 = w.alloc (.cells #[.slice bo l.length bcap, .slice ao n cap] 46) := ⟨_, rfl⟩
  rw [← hw1]
  have HB1 : Hid (Below w.heap.size w w1) := by rw [hw1]; exact (Below.refl _ _).alloc (Nat.le_refl _) _
  have hs1 : w1.heap.size = w.heap.size + 1 := by rw [hw1]; simp
  have HX : Hid (w1.heap[w.heap.size]? = some (.cells #[.slice bo l.length bcap, .slice ao n cap] 46 (0, 0))) := by rw [hw1]; exact heap_alloc_new _ _
  have HOP1 : Hid (OpsAt w1 ao n K N D) := by
    refine ⟨HOP.out.1, fun hn => ?_, HOP.out.2.2⟩
    obtain ⟨b, off, e, hc⟩ := HOP.out.2.1 hn
    exact ⟨b, off, e, fun j hj => ⟨cell_later HB1.out (hc j hj).1, cell_later HB1.out (hc j hj).2.1, cell_later HB1.out (hc j hj).2.2⟩⟩
  have HC1 : Hid (l ≠ [] → ∃ b off, bo = some ⟨b, off, none⟩ ∧ ∀ j, j < l.length → w1.cell? ⟨b, off + j, none⟩ = some (.int .u8 (l[j]?.getD 0))) := fun hne => by
    obtain ⟨b, off, e, hc⟩ := HC.out hne
    exact ⟨b, off, e, fun j hj => cell_later HB1.out (hc j hj)⟩
  have HB : Hid (w.heap.size + 1 = w1.heap.size) := hs1.symm
  have HAR : Hid (l ≠ [] → ∀ b off, bo = some ⟨b, off, none⟩ → b < w.heap.size + 1) := fun hne b off e => by
    obtain ⟨b', off', e', hc⟩ := HC.out hne
    rw [e] at e'
    simp at e'
    have := World.block_lt_of_cell? w _ (hc 0 (List.length_pos_iff.2 hne))
    simp at this
    omega
  obtain ⟨B, hBe⟩ : ∃ B, B = w.heap.size := ⟨_, rfl⟩
  rw [← hBe] at HX HB HAR ⊢
  have HBE : Hid (B = w.heap.size) := hBe
  clear hw1 HOP hs1 hBe HC
  refine (lend_any bo bcap l _ hl HNO.out HC1.out).mono ?_
  rintro e w2 ⟨rfl, hrow2, hb2⟩
  rw [← HB.out] at hrow2 hb2 ⊢
  have HB2 : Hid (Below (B + 1) w1 w2) := hb2
  have HR2 : Hid (w2.ownsRow (B + 1) 5 1 (.slice (some ⟨B + 1, 0, none⟩) (l.length + 7) (l.length + 7)) (l.length + 7) (byteCells (marks l 7))) := hrow2
  have hlt2 : B + 1 < w2.heap.size := (hrow2.lt (B + 1) rfl).2
  have HL2 : Hid (w2.ownsRow (B + 1) 5 1 (.slice (some ⟨B + 1, 0, none⟩) l.length (l.length + 7)) l.length (byteCells l)) := by
    have h1 := row_shrink (k := l.length) hrow2 (by omega)
    rw [byteCells_take, marks_front] at h1
    exact h1
  clear hrow2 hb2
  go_wp2_with fail
  refine (newR_some ⟨B + 1, 0, none⟩ l.length (l.length + 7) l _ rfl (by omega) (fun j u hu => HL2.out.cells rfl j u hu) HBY.out).mono ?_
  rintro e w3 ⟨br, vr, rfl, hr3, hb3, hbr3, hrr3⟩
  have HB3 : Hid (Below (B + 1) w1 w3) := HB2.out.trans (hb3.mono (by omega))
  have HR3 : Hid (RAt w3 br vr l 0) := hr3
  have HRW3 : Hid (w3.ownsRow (B + 1) 5 1 (.slice (some ⟨B + 1, 0, none⟩) (l.length + 7) (l.length + 7)) (l.length + 7) (byteCells (marks l 7))) := row_kept HR2.out (Fr.of_below hb3 (fun _ => False)) (fun _ _ hh => hh)
  have hs3 : w2.heap.size ≤ w3.heap.size := hb3.size
  have HRN : Hid (B + 1 < br ∧ ∀ k, vr.ownBlock = some k → B + 1 < k) := ⟨by omega, fun k hk => by have := hrr3 k hk; omega⟩
  have hbox3 : w3.heap[B]? = some (.cells #[.slice bo l.length bcap, .slice ao n cap] 46 (0, 0)) := by rw [HB3.out.block B (by omega)]; exact HX.out
  obtain ⟨y0, y1, yf⟩ := cell_of_two hbox3
  have HS3 : Hid (SeenAt w3 (.slice bo l.length bcap) l) := ⟨bo, bcap, rfl, by omega, fun hne => by
    obtain ⟨b, off, e, hc⟩ := HC1.out hne
    have hb : b < B + 1 := HAR.out hne b off e
    exact ⟨b, off, e, fun j hj => by rw [HB3.out.cell (p := ⟨b, off + j, none⟩) hb]; exact hc j hj⟩⟩
  clear hr3 hb3 hbr3 hrr3 hbox3 HL2 HR2 HB2
  go_wp2_with fail
  refine (back_kit (B + 1) (B + 1) _ l _ hl HRW3.out HS3.out).mono ?_
  rintro e w4 ⟨rfl, hf4⟩
  have HR4 : Hid (RAt w4 br vr l 0) := HR3.out.kept hf4 (fun e => by have := HRN.out.1; omega) (fun k hk e => by have := HRN.out.2 k hk; omega)
  have HB4 : Hid (Below (B + 1) w1 w4) := HB3.out.trans (hf4.below (by omega) (fun k hk e => by omega))
  have HS4 : Hid (B + 1 < w4.heap.size) := by have := hf4.size; show _ < _; omega
  have hbox4 : w4.heap[B]? = some (.cells #[.slice bo l.length bcap, .slice ao n cap] 46 (0, 0)) := by rw [HB4.out.block B (by omega)]; exact HX.out
  obtain ⟨z0, z1, zf⟩ := cell_of_two hbox4
  have HQ5 : Hid (RQ (B + 1) w1 (w4.alloc (.cells #[.slice bo l.length bcap, .int .i64 0] 52)) br vr w4.heap.size bo bcap l 0 0) := by
    have f : Fr (fun _ => False) w4 (w4.alloc (.cells #[.slice bo l.length bcap, .int .i64 0] 52)) := (Fr.refl _ _).alloc _
    refine ⟨HR4.out.kept f (fun hh => hh) (fun _ _ hh => hh), ⟨heap_alloc_new _ _, fun hne => ?_, by omega, by omega, HBY.out⟩, HB4.out.trans (f.below (by have := HS4.out; omega) (fun _ _ hh => hh)), by have := HS4.out; simp; omega, by have := HRN.out.1; omega, by have := HS4.out; omega, ?_, ?_, HAR.out⟩
    · obtain ⟨b, off, e, hc⟩ := HC1.out hne
      have hb : b < B + 1 := HAR.out hne b off e
      exact ⟨b, off, e, fun j hj => f.cell (by rw [HB4.out.cell (p := ⟨b, off + j, none⟩) hb]; exact hc j hj) (fun hh => hh)⟩
    · have := HR4.out.lt; omega
    · intro e; have := HR4.out.rowlt _ e; omega
  clear hf4 hbox4 y0 y1 yf HR3 HB3 HRW3 HS3 HR4 hs3 hlt2
  obtain ⟨bq, hbq⟩ : ∃ bq, bq = w4.heap.size := ⟨_, rfl⟩
  have HBQ : Hid (bq = w4.heap.size) := hbq
  clear hbq
  go_wp2_with fail
  rw [← HBQ.out]
  go_loopw [6, 7, 8, 9, 10, 11] (fun i _ _ _ _ _ wr => ∃ (k p : Nat), k ≤ n ∧ k ≤ 300 ∧ i = .int .i64 k ∧ RQ (B + 1) w1 wr br vr bq bo bcap l p p) (fun i _ _ _ _ _ _ => 300 - (intOf i).toNat)
  case atStart => exact ⟨0, 0, Nat.zero_le _, Nat.zero_le _, rfl, by rw [HBQ.out]; exact HQ5.out⟩
  case round =>
    obtain ⟨k, p, hk1, hk2, rfl, ht⟩ := hrel
    have HT : Hid (RQ (B + 1) w1 wr br vr bq bo bcap l p p) := ht
    have hnl : n ≤ 9223372036854775807 := HOP1.out.1
    have hbox : wr.heap[B]? = some (.cells #[.slice bo l.length bcap, .slice ao n cap] 46 (0, 0)) := by rw [ht.bel.block B (by omega)]; exact HX.out
    obtain ⟨x0, x1, xf⟩ := cell_of_two hbox
    clear ht HQ5 hbox x0 xf z0 z1 zf
    by_cases hlt : k < n
    · by_cases h300 : k < 300
      · obtain ⟨b, off, rfl, hc⟩ := HOP1.out.2.1 (by omega)
        obtain ⟨e1, e2, e3⟩ := hc k hlt
        have hbl : ∀ j x, w1.cell? ⟨b, j, none⟩ = some x → wr.cell? ⟨b, j, none⟩ = some x := fun j x hx => by
          have hb : b < B + 1 := by rw [HB.out]; exact World.block_lt_of_cell? w1 _ hx
          rw [HT.out.bel.cell (p := ⟨b, j, none⟩) hb]; exact hx
        have g1 := hbl _ _ e1
        have g2 := hbl _ _ e2
        have g3 := hbl _ _ e3
        clear hbl e1 e2 e3 hc
        generalize N k = nk at g2
        generalize D k = dk at g3
        generalize K k = kd at g1
        by_cases hk0 : kd = 0
        · subst hk0
          by_cases hdk : dk < 0 ∨ 64 < dk
          · have HDK : Hid (dk < 0 ∨ 64 < dk) := hdk
            clear hdk
            obtain ⟨w13, hw13⟩ : ∃ w13, w13 = wr.alloc (.cells #[.int .i64 0, .int .u64 nk, .int .i64 dk] 36) := ⟨_, rfl⟩
            have HT3 : Hid (RQ (B + 1) w1 w13 br vr bq bo bcap l p p) := by rw [hw13]; exact HT.out.later ((Fr.refl (fun _ => False) _).alloc _)
            have hob : w13.heap[wr.heap.size]? = some (.cells #[.int .i64 0, .int .u64 nk, .int .i64 dk] 36 (0, 0)) := by rw [hw13]; exact heap_alloc_new _ _
            have HLT : Hid (br < wr.heap.size) := HT.out.hr.lt
            have HW3 : Hid (w13 = wr.alloc (.cells #[.int .i64 0, .int .u64 nk, .int .i64 dk] 36)) := hw13
            clear hw13 HT
            go_wp2_with fail
            rw [← HW3.out]
            obtain ⟨o0, o1, o2, of⟩ := cell_of_three hob
            clear hob
            refine (take_width _ dk _ HDK.out).mono ?_
            rintro e w14 ⟨rfl, hw14⟩
            have HT4 : Hid (RQ (B + 1) w1 w14 br vr bq bo bcap l p p) := by rw [hw14]; exact HT3.out
            rw [← hw14] at o0 o1 o2
            clear hw14 HT3 of
            go_wp2_with fail
            refine (qtake_width _ dk _ HDK.out).mono ?_
            rintro e w15 ⟨rfl, hw15⟩
            have HT5 : Hid (RQ (B + 1) w1 w15 br vr bq bo bcap l p p) := by rw [hw15]; exact HT4.out
            clear hw15 HT4 o0 o1 o2 HDK
            obtain ⟨pp, hpp⟩ : ∃ pp, pp = p := ⟨_, rfl⟩
            rw [← hpp] at HT5
            clear hpp
            go_wp2_with fail
            refine (left_any br vr l pp _ HT5.out.hr).mono ?_
            rintro e w16 ⟨rfl, q16, hw16⟩
            have HT6 : Hid (RQ (B + 1) w1 w16 br vr bq bo bcap l pp pp) := by rw [hw16]; exact HT5.out.later ((Fr.refl (fun _ => False) _).drewN q16)
            clear hw16 HT5
            go_wp2_with fail
            refine (qleft_any bq bo bcap l pp _ HT6.out.hq).mono ?_
            rintro e w17 ⟨rfl, q17, hw17⟩
            have HT7 : Hid (RQ (B + 1) w1 w17 br vr bq bo bcap l pp pp) := by rw [hw17]; exact HT6.out.later ((Fr.refl (fun _ => False) _).drewN q17)
            generalize 8 * l.length - pp = lf
            have hq3 : ((lf : Int) != (lf : Int)) = false := by simp
            clear hw17 HT6
            go_wp2_with fail
            go_roundw
            case rel => exact ⟨k + 1, pp, by omega, by omega, congrArg (Value.int .i64) (by omega), HT7.out⟩
            case measure => simp [intOf]; omega
          · obtain ⟨wd, hwd⟩ : ∃ wd : Nat, dk = wd := ⟨dk.toNat, by omega⟩
            have hwl : wd ≤ 64 := by omega
            subst hwd
            clear hdk
            by_cases hft : p + wd ≤ 8 * l.length
            · have HFT : Hid (p + wd ≤ 8 * l.length) := hft
              clear hft
              obtain ⟨w13, hw13⟩ : ∃ w13, w13 = wr.alloc (.cells #[.int .i64 0, .int .u64 nk, .int .i64 (wd : Int)] 36) := ⟨_, rfl⟩
              have HT3 : Hid (RQ (B + 1) w1 w13 br vr bq bo bcap l p p) := by rw [hw13]; exact HT.out.later ((Fr.refl (fun _ => False) _).alloc _)
              have hob : w13.heap[wr.heap.size]? = some (.cells #[.int .i64 0, .int .u64 nk, .int .i64 (wd : Int)] 36 (0, 0)) := by rw [hw13]; exact heap_alloc_new _ _
              have HLT : Hid (br < wr.heap.size) := HT.out.hr.lt
              have HW3 : Hid (w13 = wr.alloc (.cells #[.int .i64 0, .int .u64 nk, .int .i64 (wd : Int)] 36)) := hw13
              clear hw13 HT
              go_wp2_with fail
              rw [← HW3.out]
              obtain ⟨o0, o1, o2, of⟩ := cell_of_three hob
              clear hob
              refine (take_any br vr l p wd _ HT3.out.hr hwl HFT.out).mono ?_
              rintro e w14 ⟨rfl, hr14, hf14⟩
              have HT4 : Hid (RQ (B + 1) w1 w14 br vr bq bo bcap l (p + wd) p) := HT3.out.stepR hr14 hf14
              have hO : ∀ j x, w13.cell? ⟨wr.heap.size, j, none⟩ = some x → w14.cell? ⟨wr.heap.size, j, none⟩ = some x := fun j x hx => hf14.cell hx (by have := HLT.out; omega)
              have p0 := hO _ _ o0
              have p1 := hO _ _ o1
              have p2 := hO _ _ o2
              clear hO o0 o1 o2 of
              clear hr14 hf14 HT3
              go_wp2_with fail
              refine (qtake_any bq bo bcap l p wd _ HT4.out.hq hwl HFT.out).mono ?_
              generalize num (nextBits l p wd) = nn
              rintro e w15 ⟨rfl, hr15, hf15⟩
              have HT5 : Hid (RQ (B + 1) w1 w15 br vr bq bo bcap l (p + wd) (p + wd)) := HT4.out.stepQ hr15 hf15
              clear hr15 hf15 HT4 p0 p1 p2 HFT
              generalize p + wd = pp at HT5
              have hq1 : ((nn : Int) != (nn : Int)) = false := by simp
              go_wp2_with fail
              refine (left_any br vr l pp _ HT5.out.hr).mono ?_
              rintro e w16 ⟨rfl, q16, hw16⟩
              have HT6 : Hid (RQ (B + 1) w1 w16 br vr bq bo bcap l pp pp) := by rw [hw16]; exact HT5.out.later ((Fr.refl (fun _ => False) _).drewN q16)
              clear hw16 HT5
              go_wp2_with fail
              refine (qleft_any bq bo bcap l pp _ HT6.out.hq).mono ?_
              rintro e w17 ⟨rfl, q17, hw17⟩
              have HT7 : Hid (RQ (B + 1) w1 w17 br vr bq bo bcap l pp pp) := by rw [hw17]; exact HT6.out.later ((Fr.refl (fun _ => False) _).drewN q17)
              generalize 8 * l.length - pp = lf
              have hq3 : ((lf : Int) != (lf : Int)) = false := by simp
              clear hw17 HT6
              go_wp2_with fail
              go_roundw
              case rel => exact ⟨k + 1, pp, by omega, by omega, congrArg (Value.int .i64) (by omega), HT7.out⟩
              case measure => simp [intOf]; omega
            · have HFT : Hid (8 * l.length < p + wd) := by show _ < _; omega
              clear hft
              obtain ⟨w13, hw13⟩ : ∃ w13, w13 = wr.alloc (.cells #[.int .i64 0, .int .u64 nk, .int .i64 (wd : Int)] 36) := ⟨_, rfl⟩
              have HT3 : Hid (RQ (B + 1) w1 w13 br vr bq bo bcap l p p) := by rw [hw13]; exact HT.out.later ((Fr.refl (fun _ => False) _).alloc _)
              have hob : w13.heap[wr.heap.size]? = some (.cells #[.int .i64 0, .int .u64 nk, .int .i64 (wd : Int)] 36 (0, 0)) := by rw [hw13]; exact heap_alloc_new _ _
              have HLT : Hid (br < wr.heap.size) := HT.out.hr.lt
              have HW3 : Hid (w13 = wr.alloc (.cells #[.int .i64 0, .int .u64 nk, .int .i64 (wd : Int)] 36)) := hw13
              clear hw13 HT
              go_wp2_with fail
              rw [← HW3.out]
              obtain ⟨o0, o1, o2, of⟩ := cell_of_three hob
              clear hob
              refine (take_end br vr l p wd _ HT3.out.hr hwl HFT.out).mono ?_
              rintro e w14 ⟨rfl, q14, hw14⟩
              have HT4 : Hid (RQ (B + 1) w1 w14 br vr bq bo bcap l p p) := by rw [hw14]; exact HT3.out.later ((Fr.refl (fun _ => False) _).drewN q14)
              have hO : ∀ j x, w13.cell? ⟨wr.heap.size, j, none⟩ = some x → w14.cell? ⟨wr.heap.size, j, none⟩ = some x := fun j x hx => by rw [hw14]; exact hx
              have p0 := hO _ _ o0
              have p1 := hO _ _ o1
              have p2 := hO _ _ o2
              clear hO o0 o1 o2 of hw14 HT3
              go_wp2_with fail
              refine (qtake_end bq bo bcap l p wd _ HT4.out.hq hwl HFT.out).mono ?_
              rintro e w15 ⟨rfl, q15, hw15⟩
              have HT5 : Hid (RQ (B + 1) w1 w15 br vr bq bo bcap l p p) := by rw [hw15]; exact HT4.out.later ((Fr.refl (fun _ => False) _).drewN q15)
              clear hw15 HT4 p0 p1 p2 HFT
              obtain ⟨pp, hpp⟩ : ∃ pp, pp = p := ⟨_, rfl⟩
              rw [← hpp] at HT5
              clear hpp
              go_wp2_with fail
              refine (left_any br vr l pp _ HT5.out.hr).mono ?_
              rintro e w16 ⟨rfl, q16, hw16⟩
              have HT6 : Hid (RQ (B + 1) w1 w16 br vr bq bo bcap l pp pp) := by rw [hw16]; exact HT5.out.later ((Fr.refl (fun _ => False) _).drewN q16)
              clear hw16 HT5
              go_wp2_with fail
              refine (qleft_any bq bo bcap l pp _ HT6.out.hq).mono ?_
              rintro e w17 ⟨rfl, q17, hw17⟩
              have HT7 : Hid (RQ (B + 1) w1 w17 br vr bq bo bcap l pp pp) := by rw [hw17]; exact HT6.out.later ((Fr.refl (fun _ => False) _).drewN q17)
              generalize 8 * l.length - pp = lf
              have hq3 : ((lf : Int) != (lf : Int)) = false := by simp
              clear hw17 HT6
              go_wp2_with fail
              go_roundw
              case rel => exact ⟨k + 1, pp, by omega, by omega, congrArg (Value.int .i64) (by omega), HT7.out⟩
              case measure => simp [intOf]; omega
        · have hkd0 : (kd == 0) = false := by simp; omega
          by_cases hk1' : kd = 1
          · subst hk1'
            obtain ⟨nn, ee, pr, hrv⟩ : ∃ nn ee pr, rvar l p = (nn, ee, pr) := ⟨_, _, _, rfl⟩
            have HRV : Hid (rvar l p = (nn, ee, pr)) := hrv
            clear hrv
            obtain ⟨w13, hw13⟩ : ∃ w13, w13 = wr.alloc (.cells #[.int .i64 1, .int .u64 nk, .int .i64 dk] 36) := ⟨_, rfl⟩
            have HT3 : Hid (RQ (B + 1) w1 w13 br vr bq bo bcap l p p) := by rw [hw13]; exact HT.out.later ((Fr.refl (fun _ => False) _).alloc _)
            have hob : w13.heap[wr.heap.size]? = some (.cells #[.int .i64 1, .int .u64 nk, .int .i64 dk] 36 (0, 0)) := by rw [hw13]; exact heap_alloc_new _ _
            have HLT : Hid (br < wr.heap.size) := HT.out.hr.lt
            have HW3 : Hid (w13 = wr.alloc (.cells #[.int .i64 1, .int .u64 nk, .int .i64 dk] 36)) := hw13
            clear hw13 HT
            go_wp2_with fail
            rw [← HW3.out]
            obtain ⟨o0, o1, o2, of⟩ := cell_of_three hob
            clear hob
            refine (rvar_any br vr l p nn ee pr _ HT3.out.hr HRV).mono ?_
            rintro e w14 ⟨rfl, hr14, hf14⟩
            have HT4 : Hid (RQ (B + 1) w1 w14 br vr bq bo bcap l (backTo ee pr p) p) := HT3.out.stepR hr14 hf14
            have hO : ∀ j x, w13.cell? ⟨wr.heap.size, j, none⟩ = some x → w14.cell? ⟨wr.heap.size, j, none⟩ = some x := fun j x hx => hf14.cell hx (by have := HLT.out; omega)
            have p0 := hO _ _ o0
            have p1 := hO _ _ o1
            have p2 := hO _ _ o2
            clear hO o0 o1 o2 of
            clear hr14 hf14 HT3
            go_wp2_with fail
            refine (qvar_any bq bo bcap l p nn ee pr _ HT4.out.hq HRV).mono ?_
            rintro e w15 ⟨rfl, hr15, hf15⟩
            have HT5 : Hid (RQ (B + 1) w1 w15 br vr bq bo bcap l (backTo ee pr p) (backTo ee pr p)) := HT4.out.stepQ hr15 hf15
            clear hr15 hf15 HT4 p0 p1 p2 HRV
            generalize backTo ee pr p = pp at HT5
            have hq1 : ((nn : Int) != (nn : Int)) = false := by simp
            have hq2 : ((ee : Int) != (ee : Int)) = false := by simp
            go_wp2_with fail
            refine (left_any br vr l pp _ HT5.out.hr).mono ?_
            rintro e w16 ⟨rfl, q16, hw16⟩
            have HT6 : Hid (RQ (B + 1) w1 w16 br vr bq bo bcap l pp pp) := by rw [hw16]; exact HT5.out.later ((Fr.refl (fun _ => False) _).drewN q16)
            clear hw16 HT5
            go_wp2_with fail
            refine (qleft_any bq bo bcap l pp _ HT6.out.hq).mono ?_
            rintro e w17 ⟨rfl, q17, hw17⟩
            have HT7 : Hid (RQ (B + 1) w1 w17 br vr bq bo bcap l pp pp) := by rw [hw17]; exact HT6.out.later ((Fr.refl (fun _ => False) _).drewN q17)
            generalize 8 * l.length - pp = lf
            have hq3 : ((lf : Int) != (lf : Int)) = false := by simp
            clear hw17 HT6
            go_wp2_with fail
            go_roundw
            case rel => exact ⟨k + 1, pp, by omega, by omega, congrArg (Value.int .i64) (by omega), HT7.out⟩
            case measure => simp [intOf]; omega
          · have hkd1 : (kd == 1) = false := by simp; omega
            obtain ⟨nn, ee, pr, hrv⟩ : ∃ nn ee pr, rpad l p = (nn, ee, pr) := ⟨_, _, _, rfl⟩
            have HRV : Hid (rpad l p = (nn, ee, pr)) := hrv
            clear hrv
            obtain ⟨w13, hw13⟩ : ∃ w13, w13 = wr.alloc (.cells #[.int .i64 kd, .int .u64 nk, .int .i64 dk] 36) := ⟨_, rfl⟩
            have HT3 : Hid (RQ (B + 1) w1 w13 br vr bq bo bcap l p p) := by rw [hw13]; exact HT.out.later ((Fr.refl (fun _ => False) _).alloc _)
            have hob : w13.heap[wr.heap.size]? = some (.cells #[.int .i64 kd, .int .u64 nk, .int .i64 dk] 36 (0, 0)) := by rw [hw13]; exact heap_alloc_new _ _
            have HLT : Hid (br < wr.heap.size) := HT.out.hr.lt
            have HW3 : Hid (w13 = wr.alloc (.cells #[.int .i64 kd, .int .u64 nk, .int .i64 dk] 36)) := hw13
            clear hw13 HT
            go_wp2_with fail
            rw [← HW3.out]
            obtain ⟨o0, o1, o2, of⟩ := cell_of_three hob
            clear hob
            refine (ralign_any br vr l p nn ee pr _ HT3.out.hr HRV).mono ?_
            rintro e w14 ⟨rfl, hr14, hf14⟩
            have HT4 : Hid (RQ (B + 1) w1 w14 br vr bq bo bcap l (backTo ee pr p) p) := HT3.out.stepR hr14 hf14
            have hO : ∀ j x, w13.cell? ⟨wr.heap.size, j, none⟩ = some x → w14.cell? ⟨wr.heap.size, j, none⟩ = some x := fun j x hx => hf14.cell hx (by have := HLT.out; omega)
            have p0 := hO _ _ o0
            have p1 := hO _ _ o1
            have p2 := hO _ _ o2
            clear hO o0 o1 o2 of
            clear hr14 hf14 HT3
            go_wp2_with fail
            refine (qalign_any bq bo bcap l p nn ee pr _ HT4.out.hq HRV).mono ?_
            rintro e w15 ⟨rfl, hr15, hf15⟩
            have HT5 : Hid (RQ (B + 1) w1 w15 br vr bq bo bcap l (backTo ee pr p) (backTo ee pr p)) := HT4.out.stepQ hr15 hf15
            clear hr15 hf15 HT4 p0 p1 p2 HRV
            generalize backTo ee pr p = pp at HT5
            have hq2 : ((ee : Int) != (ee : Int)) = false := by simp
            go_wp2_with fail
            refine (left_any br vr l pp _ HT5.out.hr).mono ?_
            rintro e w16 ⟨rfl, q16, hw16⟩
            have HT6 : Hid (RQ (B + 1) w1 w16 br vr bq bo bcap l pp pp) := by rw [hw16]; exact HT5.out.later ((Fr.refl (fun _ => False) _).drewN q16)
            clear hw16 HT5
            go_wp2_with fail
            refine (qleft_any bq bo bcap l pp _ HT6.out.hq).mono ?_
            rintro e w17 ⟨rfl, q17, hw17⟩
            have HT7 : Hid (RQ (B + 1) w1 w17 br vr bq bo bcap l pp pp) := by rw [hw17]; exact HT6.out.later ((Fr.refl (fun _ => False) _).drewN q17)
            generalize 8 * l.length - pp = lf
            have hq3 : ((lf : Int) != (lf : Int)) = false := by simp
            clear hw17 HT6
            go_wp2_with fail
            go_roundw
            case rel => exact ⟨k + 1, pp, by omega, by omega, congrArg (Value.int .i64) (by omega), HT7.out⟩
            case measure => simp [intOf]; omega
      · go_wp2_with fail
        refine (wakes_any _).mono ?_
        rintro e w3 ⟨rfl, hb⟩
        have HBf : Hid (Below B w w3) := by
          have h1 := HB1.out
          rw [← HBE.out] at h1
          exact h1.trans ((HT.out.bel.mono (by omega)).trans (hb.mono (by have := HT.out.sz; omega)))
        clear hb
        go_wp2_with fail
        go_ret
        refine ⟨rfl, ?_⟩
        rw [← HBE.out]
        exact HBf.out
    · go_wp2_with fail
      refine (wakes_any _).mono ?_
      rintro e w3 ⟨rfl, hb⟩
      have HBf : Hid (Below B w w3) := by
        have h1 := HB1.out
        rw [← HBE.out] at h1
        exact h1.trans ((HT.out.bel.mono (by omega)).trans (hb.mono (by have := HT.out.sz; omega)))
      clear hb
      go_wp2_with fail
      go_ret
      refine ⟨rfl, ?_⟩
      rw [← HBE.out]
      exact HBf.out

end Go.Proofs.Ythfimeaajboihaa
