/- 'walk.head': which row it is. -/
import Derived.Test.YtllhekkclhcdbaaDoorKHd
namespace Go.Proofs.YtllhekkclhcdbaaDoor
open Go.RowKit

def pvr (r : Nat → Nat) (i : Nat) : Nat := if i = 0 then 0 else r (i - 1)
theorem pvr_succ (r : Nat → Nat) (i : Nat) : pvr r (i + 1) = r i := by unfold pvr; rw [if_neg (by omega)]; rfl

set_option maxRecDepth 100000 in
set_option maxHeartbeats 4000000 in
theorem head_any (w : World) (bk base size v : Nat) (bd gc cc : Nat) (vb : Value) (B : List Nat) (o : De) (hwk : WkAt w bk base size v) (h : DeAt w bd gc cc vb B o) (hok : Eok B o) (hm : o.made + 5 ≤ 16777216) (hr : RowsAt w)
    (hs : 2 ≤ size ∧ size ≤ 4096 ∧ size % 2 = 0) (hv : v < size) (hbase : base ≤ 131072) (hk : bk ≠ bd ∧ bk ≠ gc ∧ vb.ownBlock ≠ some bk) :
    Calls Tryd.prog 72 #[.pointer (some ⟨bk, 0, none⟩), .pointer (some ⟨bd, 0, none⟩)] w fun e w' => e = .returned (.tuple #[.agg (wRow (headK B base size (o, v))), .int .i64 0]) ∧ DeAt w' bd gc cc vb B (takeD B base size (rowX (headK B base size (o, v))) (o, v) 0).2.1 ∧ WkAt w' bk base size (takeD B base size (rowX (headK B base size (o, v))) (o, v) 0).2.2 ∧ Fr (fun k => k = bd ∨ k = gc ∨ k = bk) w w' := by
  have hf2 : Fr (fun _ => False) w ((w.alloc (.cells #[.int .u64 0, .int .u64 0, .int .i64 0, .int .i64 0] 121)).alloc (.cells #[.int .u64 0, .int .u64 0, .int .i64 0, .int .i64 0] 121)) := ((Fr.refl _ _).alloc _).alloc _
  have fa : FAt ((w.alloc (.cells #[.int .u64 0, .int .u64 0, .int .i64 0, .int .i64 0] 121)).alloc (.cells #[.int .u64 0, .int .u64 0, .int .i64 0, .int .i64 0] 121)) w.heap.size 0 0 0 0 := ⟨(Below.heap_alloc _ _ _ (by simp)).trans (heap_alloc_new w _)⟩
  have fb : FAt ((w.alloc (.cells #[.int .u64 0, .int .u64 0, .int .i64 0, .int .i64 0] 121)).alloc (.cells #[.int .u64 0, .int .u64 0, .int .i64 0, .int .i64 0] 121)) (w.heap.size + 1) 0 0 0 0 := ⟨by have := heap_alloc_new (w.alloc (.cells #[.int .u64 0, .int .u64 0, .int .i64 0, .int .i64 0] 121)) (.cells #[.int .u64 0, .int .u64 0, .int .i64 0, .int .i64 0] 121); rwa [World.size_alloc] at this⟩
  obtain ⟨tR, xR, hR⟩ := (hr.kept hf2 (fun h => h)).blk
  have lbk := hwk.lt
  have lbd := h.lt
  have lgc := h.xlt
  have lvb : ∀ k, vb.ownBlock = some k → k < w.heap.size := fun k e => (h.bs.lt k e).2
  have HF : Hid (Fr (fun k => k = bd ∨ k = gc ∨ k = bk) w ((w.alloc (.cells #[.int .u64 0, .int .u64 0, .int .i64 0, .int .i64 0] 121)).alloc (.cells #[.int .u64 0, .int .u64 0, .int .i64 0, .int .i64 0] 121))) := hf2.mono (fun _ _ h => h.elim)
  have HA : Hid (FAt ((w.alloc (.cells #[.int .u64 0, .int .u64 0, .int .i64 0, .int .i64 0] 121)).alloc (.cells #[.int .u64 0, .int .u64 0, .int .i64 0, .int .i64 0] 121)) w.heap.size 0 0 0 0) := fa
  have HB : Hid (FAt ((w.alloc (.cells #[.int .u64 0, .int .u64 0, .int .i64 0, .int .i64 0] 121)).alloc (.cells #[.int .u64 0, .int .u64 0, .int .i64 0, .int .i64 0] 121)) (w.heap.size + 1) 0 0 0 0) := fb
  have HW : Hid (WkAt ((w.alloc (.cells #[.int .u64 0, .int .u64 0, .int .i64 0, .int .i64 0] 121)).alloc (.cells #[.int .u64 0, .int .u64 0, .int .i64 0, .int .i64 0] 121)) bk base size v) := hwk.kept hf2 (fun h => h)
  have HD : Hid (DeAt ((w.alloc (.cells #[.int .u64 0, .int .u64 0, .int .i64 0, .int .i64 0] 121)).alloc (.cells #[.int .u64 0, .int .u64 0, .int .i64 0, .int .i64 0] 121)) bd gc cc vb B o) := h.keptAll hf2
  have HO : Hid (Eok B o ∧ o.made + 5 ≤ 16777216 ∧ (2 ≤ size ∧ size ≤ 4096 ∧ size % 2 = 0) ∧ v < size ∧ base ≤ 131072) := ⟨hok, hm, hs, hv, hbase⟩
  have HK : Hid ((bk ≠ bd ∧ bk ≠ gc ∧ vb.ownBlock ≠ some bk) ∧ bk < w.heap.size ∧ bd < w.heap.size ∧ gc < w.heap.size ∧ ∀ k, vb.ownBlock = some k → k < w.heap.size) := ⟨hk, lbk, lbd, lgc, lvb⟩
  clear hf2 fa fb hr hwk h hok hm hs hv hbase hk lbk lbd lgc lvb
  go_enter Tryd.func72, Tryd.ntmps72
  go_wp2_with (refine wpList_load_row rfl 132 _ rfl 0 (by rfl) tR rowsArr xR _ hR Tryd.underlying132 rfl (by kernel_rfl) ?_)
  go_loopw [6, 7, 13] (fun p q r wr => ∃ i : Nat, i ≤ 6 ∧ p = .int .u64 ((takeD B base size (hdN i) (o, v) 0).1 : Int) ∧ q = .int .i64 (hdN i : Int) ∧ r = .int .i64 (i : Int) ∧ (∀ j, j < i → (takeD B base size (hdN (j + 1)) (o, v) 0).1 ≠ rowH j) ∧ FAt wr w.heap.size 0 0 0 0 ∧ FAt wr (w.heap.size + 1) (pvr rowL i) (pvr rowH i) (pvr rowX i) (pvr rowW i) ∧ DeAt wr bd gc cc vb B (takeD B base size (hdN i) (o, v) 0).2.1 ∧ WkAt wr bk base size (takeD B base size (hdN i) (o, v) 0).2.2 ∧ Fr (fun k => k = bd ∨ k = gc ∨ k = bk) w wr)
    (fun _ _ r _ => (6 - intOf r).toNat)
  case atStart => exact ⟨0, by omega, rfl, rfl, rfl, fun j hj => absurd hj (by omega), HA.out, HB.out, HD.out, HW.out, HF.out⟩
  case round =>
    obtain ⟨i, hi, rfl, rfl, rfl, hno, ha, hb, hd, hwk, hfr⟩ := hrel
    clear hR HA HB HF HW HD
    by_cases h6 : i < 6
    · have hdec : decide ((i : Int) < 6) = true := decide_eq_true (by omega)
      have hix := rows_index wr i h6
      obtain ⟨okO, mO, hsz, hv, hbase⟩ := HO.out
      obtain ⟨hk, lbk, lbd, lgc, lvb⟩ := HK.out
      obtain ⟨hr1, hr2, hr3⟩ := hdN_row i h6
      have h5 : hdN (i + 1) ≤ 5 := Nat.min_le_right _ _
      obtain ⟨ok1, mk1⟩ := takeD_ok base size okO v 0 (hdN i) (by omega)
      have hv1 : (takeD B base size (hdN i) (o, v) 0).2.2 < size := takeD_v base hsz.1 hsz.2.2 o hv 0 (hdN i)
      have hx1 := takeD_lt (B := B) base size o v (hdN i)
      have hadd := takeD_add B base size (hdN (i + 1) - hdN i) (hdN i) (o, v) 0
      rw [show hdN i + (hdN (i + 1) - hdN i) = hdN (i + 1) by omega] at hadd
      have hx32 : 2 ^ hdN i ≤ 2 ^ 5 := Nat.pow_le_pow_right (by decide) (by omega)
      obtain ⟨l, hl⟩ : ∃ l, rowL i = l := ⟨_, rfl⟩
      obtain ⟨hh, hhh⟩ : ∃ h, rowH i = h := ⟨_, rfl⟩
      obtain ⟨x, hx⟩ : ∃ x, rowX i = x := ⟨_, rfl⟩
      obtain ⟨y, hy⟩ : ∃ y, rowW i = y := ⟨_, rfl⟩
      rw [hl, hhh, hx, hy] at hix
      have Hrow : Hid (rowL i = l ∧ rowH i = hh ∧ rowX i = x ∧ rowW i = y) := ⟨hl, hhh, hx, hy⟩
      have Hno : Hid (∀ j, j < i → (takeD B base size (hdN (j + 1)) (o, v) 0).1 ≠ rowH j) := hno
      have H6 : Hid (i < 6) := h6
      rw [hx] at hr1
      generalize hT : takeD B base size (hdN i) (o, v) 0 = r at *
      obtain ⟨hw, d, u⟩ := r
      dsimp only at hd hwk ok1 mk1 hv1 hx1 hadd ⊢
      obtain ⟨wd, hwd⟩ : ∃ wd, hdN i = wd := ⟨_, rfl⟩
      rw [hwd] at mk1 hr2 hr3 hadd hx1 hx32 ⊢
      rw [← hr1] at hr2 hr3 hadd h5
      obtain ⟨k, ek⟩ : ∃ k, x - wd = k := ⟨_, rfl⟩
      rw [ek] at hadd
      have HX : Hid (hdN (i + 1) = x ∧ hdN i = wd ∧ x - wd = k ∧ wd ≤ x ∧ x ≤ 5 ∧ k ≤ 1) := ⟨hr1.symm, hwd, ek, hr2, h5, by omega⟩
      obtain ⟨a0, a1, a2, a3, f0, f1, f2, f3⟩ := hb.cells
      have hbq := hb.set l hh x y
      have fq : Fr (fun k => k = w.heap.size + 1) wr ((((wr.setCell ⟨w.heap.size + 1, 0, none⟩ (.int .u64 (l : Int))).setCell ⟨w.heap.size + 1, 1, none⟩ (.int .u64 (hh : Int))).setCell ⟨w.heap.size + 1, 2, none⟩ (.int .i64 (x : Int))).setCell ⟨w.heap.size + 1, 3, none⟩ (.int .i64 (y : Int))) := Fr.set4 (Fr.refl _ _) _ _ _ _
      obtain ⟨wq, hwq⟩ : ∃ wq, ((((wr.setCell ⟨w.heap.size + 1, 0, none⟩ (.int .u64 (l : Int))).setCell ⟨w.heap.size + 1, 1, none⟩ (.int .u64 (hh : Int))).setCell ⟨w.heap.size + 1, 2, none⟩ (.int .i64 (x : Int))).setCell ⟨w.heap.size + 1, 3, none⟩ (.int .i64 (y : Int))) = wq := ⟨_, rfl⟩
      rw [hwq] at hbq fq
      have haq := ha.kept fq (by omega)
      have hdq := hd.kept fq (by omega) (by omega) (fun k e h => by have := lvb k e; omega)
      have hwkq := hwk.kept fq (by omega)
      have hfrq : Fr (fun k => k = bd ∨ k = gc ∨ k = bk) w wq := Fr.trans hfr fq (fun k hk e => by omega)
      obtain ⟨b0, b1, b2, b3, g0, g1, g2, g3⟩ := hbq.cells
      have HBQ : Hid (FAt wq (w.heap.size + 1) l hh x y) := hbq
      have HAQ : Hid (FAt wq w.heap.size 0 0 0 0) := haq
      have HFQ : Hid (Fr (fun k => k = bd ∨ k = gc ∨ k = bk) w wq) := hfrq
      have htake := take_any wq bk base size u bd gc cc vb B d hwkq hdq ok1 k (by omega) (by omega) (.inr hsz) ⟨by omega, .inr hv1⟩ hbase hk ((k : Int)) rfl
      obtain ⟨more, s2, em⟩ : ∃ more s2, takeD B base size k (d, u) 0 = (more, s2) := ⟨_, _, rfl⟩
      obtain ⟨d2, u2⟩ := s2
      have hml := takeD_lt (B := B) base size d u k
      rw [em] at htake hadd hml
      dsimp only at htake hadd hml
      have HT : Hid (Calls Tryd.prog 56 #[.pointer (some ⟨bk, 0, none⟩), .pointer (some ⟨bd, 0, none⟩), .int .i64 (k : Int)] wq fun e w' => e = .returned (.tuple #[.int .u64 (more : Int), .int .i64 0]) ∧ DeAt w' bd gc cc vb B d2 ∧ WkAt w' bk base size u2 ∧ Fr (fun k => k = bd ∨ k = gc ∨ k = bk) wq w') := htake
      have k1 : IntKind.i64.wrap ((x : Int) - (wd : Int)) = (k : Int) := by rw [IntKind.wrap_i64]; omega
      have k2 : IntKind.i64.wrap ((i : Int) + 1) = (i : Int) + 1 := by rw [IntKind.wrap_i64]; omega
      have mk : min k 64 = k := by omega
      have hk2 : 2 ^ k ≤ 2 := by rcases (by omega : k = 0 ∨ k = 1) with e | e <;> rw [e] <;> decide
      have hh2 : hw * 2 ^ k ≤ 32 * 2 := Nat.mul_le_mul (by omega) hk2
      have k3 : IntKind.u64.wrap ((hw : Int) * 2 ^ k) = ((hw * 2 ^ k : Nat) : Int) := by
        rw [show (hw : Int) * 2 ^ k = ((hw * 2 ^ k : Nat) : Int) by push_cast; rfl, IntKind.wrap_u64]; omega
      have o1 := or_add hw more k hml
      obtain ⟨hs, ehs⟩ : ∃ hs, hw * 2 ^ k = hs := ⟨_, rfl⟩
      rw [ehs] at k3 hadd o1 hh2
      have k4 : bits BinOp.or IntKind.u64 (hs : Int) (more : Int) = ((hs + more : Nat) : Int) := by rw [← o1]; exact u64_or_nat hs more (by omega) (by omega)
      obtain ⟨h2, eh2⟩ : ∃ h2, hs + more = h2 := ⟨_, rfl⟩
      rw [eh2] at k4 hadd
      have Hadd : Hid (takeD B base size x (o, v) 0 = (h2, (d2, u2))) := hadd
      clear ha hb hd hwk hfr hbq fq haq hdq hwkq hfrq htake em hml hk2 hh2 o1 ehs eh2 hadd hi h6 okO mO hsz hv hbase hk lbk lbd lgc lvb hr1 hr2 hr3 h5 ok1 mk1 hv1 hx1 hx32 hl hhh hx hy hno hwd ek hT
      go_wp2_with fail
      refine HT.out.mono ?_
      rintro e w1 ⟨rfl, hd1, hwk1, f1⟩
      have hkk := HK.out
      have hb1 := HBQ.out.kept f1 (by omega)
      have HA1 : Hid (FAt w1 w.heap.size 0 0 0 0) := HAQ.out.kept f1 (by omega)
      have HB1 : Hid (FAt w1 (w.heap.size + 1) l hh x y) := hb1
      have HD1 : Hid (DeAt w1 bd gc cc vb B d2) := hd1
      have HW1 : Hid (WkAt w1 bk base size u2) := hwk1
      have HF1 : Hid (Fr (fun k => k = bd ∨ k = gc ∨ k = bk) w w1) := Fr.trans HFQ.out f1 (fun _ _ h => h)
      obtain ⟨c0, c1, c2, c3, _, _, _, _⟩ := hb1.cells
      clear hd1 hwk1 f1 hkk hb1 HT b0 b1 b2 b3 g0 g1 g2 g3
      go_wp2_with fail
      go_quiet (fail)
      by_cases heq : h2 = hh
      · have hq1 : ((h2 : Int) == (hh : Int)) = true := by simp [heq]
        have hq2 : decide (h2 = hh) = true := decide_eq_true heq
        have HE : Hid (h2 = hh) := heq
        clear heq
        have ha2 := HA1.out.kept (Fr.drewN (Fr.refl (fun _ => False) w1) nq) (fun h => h)
        have hb2 := HB1.out.kept (Fr.drewN (Fr.refl (fun _ => False) w1) nq) (fun h => h)
        have HD2 : Hid (DeAt (w1.drewN nq) bd gc cc vb B d2) := HD1.out.keptAll (Fr.drewN (Fr.refl _ w1) nq)
        have HW2 : Hid (WkAt (w1.drewN nq) bk base size u2) := HW1.out.kept (Fr.drewN (Fr.refl (fun _ => False) w1) nq) (fun h => h)
        have HF2 : Hid (Fr (fun k => k = bd ∨ k = gc ∨ k = bk) w (w1.drewN nq)) := HF1.out.drewN nq
        have HA2 : Hid (FAt (w1.drewN nq) w.heap.size 0 0 0 0) := ha2
        obtain ⟨p0, p1, p2, p3, q0, q1, q2, q3⟩ := ha2.cells
        obtain ⟨b0, b1, b2, b3, _, _, _, _⟩ := hb2.cells
        generalize w1.drewN nq = wn at *
        clear ha2 hb2 c0 c1 c2 c3 HA1 HB1 HD1 HW1 HF1
        go_wp2_with fail
        have HAE := HA2.out.set l hh x y
        obtain ⟨r0, r1, r2, r3, _, _, _, _⟩ := HAE.cells
        obtain ⟨hX1, hX2, hX3, hX4, hX5, hX6⟩ := HX.out
        obtain ⟨hr1, hr2, hr3, hr4⟩ := Hrow.out
        have hkk := HK.out
        have hK5 : headK B base size (o, v) = i := headK_at H6.out Hno.out (.inr (by rw [hX1, Hadd.out, hr2]; exact HE.out))
        have fe := Fr.set4 (g := w.heap.size) (Fr.refl _ wn) (.int .u64 (l : Int)) (.int .u64 (hh : Int)) (.int .i64 (x : Int)) (.int .i64 (y : Int))
        refine bodyPost_ret (v := .tuple #[.agg #[.int .u64 (l : Int), .int .u64 (hh : Int), .int .i64 (x : Int), .int .i64 (y : Int)], .int .i64 0]) (by simp [results, Tryd.results72, go_sem, r0, r1, r2, r3]) rfl ?_
        refine ⟨by rw [hK5, wRow, hr1, hr2, hr3, hr4], ?_, ?_, ?_⟩
        · rw [hK5, hr3, Hadd.out]; exact HD2.out.kept fe (by omega) (by omega) (fun k e h => by have := hkk.2.2.2.2 k e; omega)
        · rw [hK5, hr3, Hadd.out]; exact HW2.out.kept fe (by omega)
        · exact Fr.trans HF2.out fe (fun k hk e => by omega)
      · have hq1 : ((h2 : Int) == (hh : Int)) = false := by simp; omega
        have hq2 : decide (h2 = hh) = false := decide_eq_false heq
        have HE : Hid (h2 ≠ hh) := heq
        clear heq
        go_wp2_with fail
        go_roundw
        case rel =>
          obtain ⟨hX1, hX2, hX3, hX4, hX5, hX6⟩ := HX.out
          obtain ⟨hr1, hr2, hr3, hr4⟩ := Hrow.out
          refine ⟨i + 1, by have := H6.out; omega, ?_, ?_, by push_cast; rfl, ?_, ?_, ?_, ?_, ?_, ?_⟩
          · rw [hX1, Hadd.out]
          · rw [hX1]
          · intro j hj
            rcases Nat.lt_or_ge j i with e | e
            · exact Hno.out j e
            · obtain rfl : j = i := by omega
              rw [hX1, Hadd.out, hr2]
              exact HE.out
          · exact HA1.out.kept (Fr.drewN (Fr.refl (fun _ => False) w1) nq) (fun h => h)
          · rw [pvr_succ, pvr_succ, pvr_succ, pvr_succ, hr1, hr2, hr3, hr4]
            exact HB1.out.kept (Fr.drewN (Fr.refl (fun _ => False) w1) nq) (fun h => h)
          · rw [hX1, Hadd.out]; exact HD1.out.keptAll (Fr.drewN (Fr.refl _ w1) nq)
          · rw [hX1, Hadd.out]; exact HW1.out.kept (Fr.drewN (Fr.refl (fun _ => False) w1) nq) (fun h => h)
          · exact HF1.out.drewN nq
        case measure => have := H6.out; simp [intOf]; omega
    · obtain rfl : i = 6 := by omega
      have hK5 : headK B base size (o, v) = 5 := headK_at (by omega) (fun j hj => hno j (by omega)) (.inl rfl)
      have HK5 : Hid (headK B base size (o, v) = 5) := hK5
      have hb' : FAt wr (w.heap.size + 1) (rowL 5) (rowH 5) (rowX 5) (rowW 5) := hb
      have HA2 : Hid (FAt wr w.heap.size 0 0 0 0) := ha
      have HD2 : Hid (DeAt wr bd gc cc vb B (takeD B base size 5 (o, v) 0).2.1) := hd
      have HW2 : Hid (WkAt wr bk base size (takeD B base size 5 (o, v) 0).2.2) := hwk
      have HF2 : Hid (Fr (fun k => k = bd ∨ k = gc ∨ k = bk) w wr) := hfr
      obtain ⟨p0, p1, p2, p3, q0, q1, q2, q3⟩ := ha.cells
      obtain ⟨b0, b1, b2, b3, _, _, _, _⟩ := hb'.cells
      clear ha hb hd hwk hfr hb' hno hi h6 hK5
      obtain ⟨l, hr1⟩ : ∃ l, rowL 5 = l := ⟨_, rfl⟩
      obtain ⟨hh, hr2⟩ : ∃ h, rowH 5 = h := ⟨_, rfl⟩
      obtain ⟨x, hr3⟩ : ∃ x, rowX 5 = x := ⟨_, rfl⟩
      obtain ⟨y, hr4⟩ : ∃ y, rowW 5 = y := ⟨_, rfl⟩
      have Hrow : Hid (rowL 5 = l ∧ rowH 5 = hh ∧ rowX 5 = x ∧ rowW 5 = y) := ⟨hr1, hr2, hr3, hr4⟩
      rw [hr1] at b0
      rw [hr2] at b1
      rw [hr3] at b2
      rw [hr4] at b3
      clear hr1 hr2 hr3 hr4
      go_wp2_with fail
      have HAE := HA2.out.set l hh x y
      obtain ⟨r0, r1, r2, r3, _, _, _, _⟩ := HAE.cells
      obtain ⟨hr1, hr2, hr3, hr4⟩ := Hrow.out
      have hkk := HK.out
      have fe := Fr.set4 (g := w.heap.size) (Fr.refl _ wr) (.int .u64 (l : Int)) (.int .u64 (hh : Int)) (.int .i64 (x : Int)) (.int .i64 (y : Int))
      refine bodyPost_ret (v := .tuple #[.agg #[.int .u64 (l : Int), .int .u64 (hh : Int), .int .i64 (x : Int), .int .i64 (y : Int)], .int .i64 0]) (by simp [results, Tryd.results72, go_sem, r0, r1, r2, r3]) rfl ?_
      refine ⟨by rw [HK5.out, wRow, hr1, hr2, hr3, hr4], ?_, ?_, ?_⟩
      · rw [HK5.out]; exact HD2.out.kept fe (by omega) (by omega) (fun k e h => by have := hkk.2.2.2.2 k e; omega)
      · rw [HK5.out]; exact HW2.out.kept fe (by omega)
      · exact Fr.trans HF2.out fe (fun k hk e => by omega)

end Go.Proofs.YtllhekkclhcdbaaDoor
