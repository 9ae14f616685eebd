/- 'walk.take': so many bits, the highest first. -/
import Derived.Test.YtllhekkclhcdbaaDoorKWb
import Derived.Test.YtllhekkclhcdbaaDoorKWhM
import Derived.Test.YtllhekkclhcdbaaDoorKGet
import Derived.Deep.RegionHeld3
namespace Go.Proofs.YtllhekkclhcdbaaDoor
open Go.RowKit

theorem getBit_lt (o : De) (k : Int) : getBit o k < 2 := decBit_lt _ _
/-- One bit more. -/
def stepD (B : List Nat) (base size : Nat) (r : Nat × (De × Nat)) : Nat × (De × Nat) :=
  (2 * r.1 + getBit r.2.1 ((base + r.2.2 : Nat) : Int), (getP B r.2.1 ((base + r.2.2 : Nat) : Int), passP size r.2.2 (getBit r.2.1 ((base + r.2.2 : Nat) : Int))))
theorem takeD_cons (B : List Nat) (base size n : Nat) (s : De × Nat) (x : Nat) : takeD B base size (n + 1) s x = takeD B base size n (stepD B base size (x, s)).2 (stepD B base size (x, s)).1 := rfl
theorem takeD_snoc (B : List Nat) (base size : Nat) : ∀ (n : Nat) (s : De × Nat) (x : Nat), takeD B base size (n + 1) s x = stepD B base size (takeD B base size n s x)
  | 0, _, _ => rfl
  | n + 1, s, x => by rw [takeD_cons, takeD_snoc B base size n, takeD_cons]
theorem takeD_ok {B : List Nat} (base size : Nat) {o : De} (h : Eok B o) (v x : Nat) : ∀ n, o.made + n ≤ 16777216 → Eok B (takeD B base size n (o, v) x).2.1 ∧ (takeD B base size n (o, v) x).2.1.made = o.made + n
  | 0, _ => ⟨h, rfl⟩
  | n + 1, hm => by
    obtain ⟨a, b⟩ := takeD_ok base size h v x n (by omega)
    rw [takeD_snoc]
    exact ⟨getP_ok a _ (by omega), by show (takeD B base size n (o, v) x).2.1.made + 1 = _; omega⟩
theorem takeD_v {B : List Nat} (base : Nat) {size : Nat} (h2 : 2 ≤ size) (he : size % 2 = 0) (o : De) {v : Nat} (hv : v < size) (x : Nat) : ∀ n, (takeD B base size n (o, v) x).2.2 < size
  | 0 => hv
  | n + 1 => by rw [takeD_snoc]; exact passP_lt h2 he
theorem takeD_lt {B : List Nat} (base size : Nat) (o : De) (v : Nat) : ∀ n, (takeD B base size n (o, v) 0).1 < 2 ^ n
  | 0 => by show 0 < 1; omega
  | n + 1 => by
    have h1 := takeD_lt (B := B) base size o v n
    rw [takeD_snoc]
    have h2 := getBit_lt (takeD B base size n (o, v) 0).2.1 ((base + (takeD B base size n (o, v) 0).2.2 : Nat) : Int)
    show 2 * (takeD B base size n (o, v) 0).1 + getBit _ _ < _
    rw [Nat.pow_succ]
    omega

set_option maxRecDepth 100000 in
set_option maxHeartbeats 4000000 in
set_option linter.unusedSimpArgs false in
theorem take_any (w : World) (bk base size v : Nat) (bd gc cc : Nat) (vb : Value) (B : List Nat) (o : De) (hwk : WkAt w bk base size v) (h : DeAt w bd gc cc vb B o) (hok : Eok B o) (n : Nat) (hn : n ≤ 32) (hm : o.made + n ≤ 16777216)
    (hs : n = 0 ∨ (2 ≤ size ∧ size ≤ 4096 ∧ size % 2 = 0)) (hv : v < 4096 ∧ (n = 0 ∨ v < size)) (hbase : base ≤ 131072) (hk : bk ≠ bd ∧ bk ≠ gc ∧ vb.ownBlock ≠ some bk) (z : Int) (hz : z = n) :
    Calls Tryd.prog 56 #[.pointer (some ⟨bk, 0, none⟩), .pointer (some ⟨bd, 0, none⟩), .int .i64 z] w fun e w' => e = .returned (.tuple #[.int .u64 ((takeD B base size n (o, v) 0).1 : Int), .int .i64 0]) ∧ DeAt w' bd gc cc vb B (takeD B base size n (o, v) 0).2.1 ∧ WkAt w' bk base size (takeD B base size n (o, v) 0).2.2 ∧ Fr (fun k => k = bd ∨ k = gc ∨ k = bk) w w' := by
  subst hz
  have HW : Hid (WkAt w bk base size v) := hwk
  have HD : Hid (DeAt w bd gc cc vb B o) := h
  have HO : Hid (Eok B o) := hok
  have HN : Hid (n ≤ 32 ∧ o.made + n ≤ 16777216 ∧ base ≤ 131072) := ⟨hn, hm, hbase⟩
  have HSZ : Hid (n = 0 ∨ (2 ≤ size ∧ size ≤ 4096 ∧ size % 2 = 0)) := hs
  have HV : Hid (v < 4096 ∧ (n = 0 ∨ v < size)) := hv
  have HK : Hid (bk ≠ bd ∧ bk ≠ gc ∧ vb.ownBlock ≠ some bk) := hk
  clear hwk h hok hn hm hs hv hbase hk
  go_enter Tryd.func56, Tryd.ntmps56
  go_wp2_with fail
  go_loopw [8, 12] (fun p q wr => ∃ i : Nat, i ≤ n ∧ p = .int .u64 ((takeD B base size i (o, v) 0).1 : Int) ∧ q = .int .i64 (i : Int) ∧ DeAt wr bd gc cc vb B (takeD B base size i (o, v) 0).2.1 ∧ WkAt wr bk base size (takeD B base size i (o, v) 0).2.2 ∧ Fr (fun k => k = bd ∨ k = gc ∨ k = bk) w wr)
    (fun _ q _ => ((n : Int) - intOf q).toNat)
  case atStart => exact ⟨0, Nat.zero_le _, rfl, rfl, HD.out, HW.out, Fr.refl _ _⟩
  case round =>
    obtain ⟨i, hi, rfl, rfl, hd, hwk, hfr⟩ := hrel
    by_cases hin : i < n
    · have hdec : decide (i < n) = true := decide_eq_true hin
      have hnn := HN.out
      obtain ⟨ok1, mk1⟩ := takeD_ok base size HO.out v 0 i (by omega)
      have hsz : 2 ≤ size ∧ size ≤ 4096 ∧ size % 2 = 0 := by rcases HSZ.out with e | e; omega; exact e
      have hv1 : (takeD B base size i (o, v) 0).2.2 < size := takeD_v base hsz.1 hsz.2.2 o (by rcases HV.out.2 with e | e; omega; exact e) 0 i
      have hx1 := takeD_lt (B := B) base size o v i
      have hsn := takeD_snoc B base size i (o, v) 0
      have hx32 : 2 ^ i ≤ 2 ^ 32 := Nat.pow_le_pow_right (by decide) (by omega)
      generalize takeD B base size i (o, v) 0 = r at *
      obtain ⟨x, d, u⟩ := r
      dsimp only at hd hwk ok1 mk1 hv1 hx1 ⊢
      have hbit := getBit_lt d ((base + u : Nat) : Int)
      have hget := get_any wr.drew bd gc cc vb B d (hd.keptAll (Fr.drew (Fr.refl _ wr))) ok1 (by omega) (((base + u : Nat) : Int)) (by omega)
      have Hst : Hid (takeD B base size (i + 1) (o, v) 0 = (2 * x + getBit d ((base + u : Nat) : Int), (getP B d ((base + u : Nat) : Int), passP size u (getBit d ((base + u : Nat) : Int))))) := hsn
      obtain ⟨bit, ebit⟩ : ∃ bit, getBit d ((base + u : Nat) : Int) = bit := ⟨_, rfl⟩
      rw [ebit] at hget hbit Hst
      obtain ⟨d2, ed2⟩ : ∃ d2, getP B d ((base + u : Nat) : Int) = d2 := ⟨_, rfl⟩
      rw [ed2] at hget Hst
      rw [show ((base + u : Nat) : Int) = (base : Int) + (u : Int) by push_cast; rfl] at hget
      have k1 : IntKind.i64.wrap ((base : Int) + (u : Int)) = (base : Int) + (u : Int) := by rw [IntKind.wrap_i64]; omega
      have k2 : IntKind.i64.wrap ((i : Int) + 1) = (i : Int) + 1 := by rw [IntKind.wrap_i64]; omega
      have k3 : IntKind.u64.wrap (bit : Int) = (bit : Int) := by rw [IntKind.wrap_u64]; omega
      have k4 : IntKind.u64.wrap ((x : Int) * 2) = ((2 * x : Nat) : Int) := by rw [IntKind.wrap_u64]; omega
      have k4' : IntKind.u64.wrap ((x : Int) * 2 ^ 1) = ((2 * x : Nat) : Int) := by rw [IntKind.wrap_u64]; omega
      obtain ⟨x2, ex2⟩ : ∃ x2, 2 * x = x2 := ⟨_, rfl⟩
      rw [ex2] at k4 k4' Hst
      have k5 : bits BinOp.or IntKind.u64 (x2 : Int) (bit : Int) = ((x2 + bit : Nat) : Int) := by
        have := or_add x bit 1 (by omega)
        rw [show x * 2 ^ 1 = x2 by omega] at this
        rw [← this]; exact u64_or_nat x2 bit (by omega) (by omega)
      obtain ⟨x3, ex3⟩ : ∃ x3, x2 + bit = x3 := ⟨_, rfl⟩
      rw [ex3] at k5 Hst
      obtain ⟨e0, e1, e2, ef⟩ := hwk.cells
      have HWr : Hid (WkAt wr bk base size u) := hwk
      have HFr : Hid (Fr (fun k => k = bd ∨ k = gc ∨ k = bk) w wr) := hfr
      have Hb : Hid (bit < 2 ∧ u < size ∧ 2 ≤ size ∧ size ≤ 4096 ∧ i < n) := ⟨hbit, hv1, hsz.1, hsz.2.1, hin⟩
      have Hg : Hid (Calls Tryd.prog 71 #[.pointer (some ⟨bd, 0, none⟩), .int .i64 ((base : Int) + (u : Int))] wr.drew fun e w' => e = .returned (.tuple #[.int .i64 (bit : Int), .int .i64 0]) ∧ DeAt w' bd gc cc vb B d2 ∧ DStep bd gc wr.drew w') := hget
      clear hd hwk hfr hin hnn ok1 mk1 hsz hv1 hx1 hsn hx32 ebit ed2 hget hbit ex2 ex3 hi
      go_wp2_with fail
      refine wp_region_noPanic (wp_region_held_drew (S := fun W => W.cell? ⟨bk, 0, none⟩ = some (.int .i64 (base : Int)) ∧ W.cell? ⟨bk, 2, none⟩ = some (.int .i64 (u : Int))) (by kernel_rfl) ⟨e0, e2⟩ (fun hHeld => ?_))
      refine wpAnyH_take (i := 0) (oi := _) (v := ?vv0) rfl (by kernel_rfl) (by kernel_rfl) (by kernel_rfl) (fun _ _ _ h => h) (Or.inl ⟨by kernel_rfl, ?hy0⟩) (by assumption) ?_
      case hy0 => (intro w hSw; (try dsimp only at hSw); obtain ⟨s1, s2⟩ := hSw; go_simp; all_goals (with_reducible rfl))
      (try simp only [Act.put, List.setIfInBounds_toArray, List.set_cons_zero, List.set_cons_succ])
      refine wpAnyH_take (i := 1) (oi := _) (v := ?vv1) rfl (by kernel_rfl) (by kernel_rfl) (by kernel_rfl) (fun _ _ _ h => h) (Or.inl ⟨by kernel_rfl, ?hy1⟩) (by assumption) ?_
      case hy1 => (intro w hSw; (try dsimp only at hSw); obtain ⟨s1, s2⟩ := hSw; go_simp; all_goals (with_reducible rfl))
      (try simp only [Act.put, List.setIfInBounds_toArray, List.set_cons_zero, List.set_cons_succ])
      refine wpAnyH_take (i := 2) (oi := _) (v := ?vv2) rfl (by kernel_rfl) (by kernel_rfl) (by kernel_rfl) (fun _ _ _ h => h) (Or.inl ⟨by kernel_rfl, ?hy2⟩) (by assumption) ?_
      case hy2 => (intro w hSw; (try dsimp only at hSw); obtain ⟨s1, s2⟩ := hSw; go_simp; all_goals (with_reducible rfl))
      (try simp only [Act.put, List.setIfInBounds_toArray, List.set_cons_zero, List.set_cons_succ])
      refine wpAnyH_take (i := 3) (oi := _) (v := ?vv3) rfl (by kernel_rfl) (by kernel_rfl) (by kernel_rfl) (fun _ _ _ h => h) (Or.inl ⟨by kernel_rfl, ?hy3⟩) (by assumption) ?_
      case hy3 => (intro w hSw; (try dsimp only at hSw); obtain ⟨s1, s2⟩ := hSw; go_simp; all_goals (with_reducible rfl))
      (try simp only [Act.put, List.setIfInBounds_toArray, List.set_cons_zero, List.set_cons_succ])
      refine wpAnyH_take (i := 4) (oi := _) (v := ?vv4) rfl (by kernel_rfl) (by kernel_rfl) (by kernel_rfl) (fun _ _ _ h => h) (Or.inl ⟨by kernel_rfl, ?hy4⟩) (by assumption) ?_
      case hy4 => (intro w hSw; (try dsimp only at hSw); obtain ⟨s1, s2⟩ := hSw; go_simp; all_goals (with_reducible rfl))
      (try simp only [Act.put, List.setIfInBounds_toArray, List.set_cons_zero, List.set_cons_succ])
      refine wpAnyH_take (i := 5) (oi := _) (v := ?vv5) rfl (by kernel_rfl) (by kernel_rfl) (by kernel_rfl) (fun _ _ _ h => h) (Or.inl ⟨by kernel_rfl, ?hy5⟩) (by assumption) ?_
      case hy5 => (intro w hSw; (try dsimp only at hSw); obtain ⟨s1, s2⟩ := hSw; go_simp; all_goals (with_reducible rfl))
      (try simp only [Act.put, List.setIfInBounds_toArray, List.set_cons_zero, List.set_cons_succ])
      refine wpAnyH_take (i := 6) (oi := _) (v := ?vv6) rfl (by kernel_rfl) (by kernel_rfl) (by kernel_rfl) (fun _ _ _ h => h) (Or.inl ⟨by kernel_rfl, ?hy6⟩) (by assumption) ?_
      case hy6 => (intro w hSw; (try dsimp only at hSw); obtain ⟨s1, s2⟩ := hSw; go_simp; all_goals (with_reducible rfl))
      (try simp only [Act.put, List.setIfInBounds_toArray, List.set_cons_zero, List.set_cons_succ])
      refine wpAnyH_take (i := 7) (oi := _) (v := ?vv7) rfl (by kernel_rfl) (by kernel_rfl) (by kernel_rfl) (fun _ _ _ h => h) (Or.inl ⟨by kernel_rfl, ?hy7⟩) (by assumption) ?_
      case hy7 => (intro w hSw; (try dsimp only at hSw); obtain ⟨s1, s2⟩ := hSw; go_simp; all_goals (with_reducible rfl))
      (try simp only [Act.put, List.setIfInBounds_toArray, List.set_cons_zero, List.set_cons_succ])
      refine wpAnyH_take (i := 8) (oi := _) (v := ?vv8) rfl (by kernel_rfl) (by kernel_rfl) (by kernel_rfl) (fun _ _ _ h => h) (Or.inl ⟨by kernel_rfl, ?hy8⟩) (by assumption) ?_
      case hy8 => (intro w hSw; (try dsimp only at hSw); obtain ⟨s1, s2⟩ := hSw; go_simp; all_goals (with_reducible rfl))
      (try simp only [Act.put, List.setIfInBounds_toArray, List.set_cons_zero, List.set_cons_succ])
      refine wpAnyH_take (i := 9) (oi := _) (v := ?vv9) rfl (by kernel_rfl) (by kernel_rfl) (by kernel_rfl) (fun _ _ _ h => h) (Or.inl ⟨by kernel_rfl, ?hy9⟩) (by assumption) ?_
      case hy9 => (intro w hSw; (try dsimp only at hSw); obtain ⟨s1, s2⟩ := hSw; go_simp; all_goals (with_reducible rfl))
      (try simp only [Act.put, List.setIfInBounds_toArray, List.set_cons_zero, List.set_cons_succ])
      refine wpAnyH_ready (rs := [10]) (by kernel_rfl) (by simp) ?_
      refine AllReadyH.cons (o := _) rfl (fun K hK => ?_) AllReadyH.nil
      go_simp
      refine Hg.out.mono ?_
      rintro e w1 ⟨rfl, hd1, hs1⟩
      have hk := HK.out
      have fw1 : Fr (fun k => k = bd ∨ k = gc) wr w1 := Fr.trans (Fr.drew (Fr.refl _ wr)) hs1 (fun _ _ h => h)
      have n1 : ¬ (bk = bd ∨ bk = gc) := by omega
      have y0 := fw1.cell e0 n1
      have y2 := fw1.cell e2 n1
      have HW1 : Hid (WkAt w1 bk base size u) := HWr.out.kept fw1 n1
      have HD1 : Hid (DeAt w1 bd gc cc vb B d2) := hd1
      have F1 : Hid (Fr (fun k => k = bd ∨ k = gc) wr w1) := fw1
      clear hd1 hs1 fw1 n1 hk
      go_simp
      refine hK.out _ _ ⟨y0, y2⟩ (fun hHeld => ?_)
      clear hK K
      (try simp only [Act.put, List.setIfInBounds_toArray, List.set_cons_zero, List.set_cons_succ])
      refine wpAnyH_take (i := 11) (oi := _) (v := ?vv11) rfl (by kernel_rfl) (by kernel_rfl) (by kernel_rfl) (fun _ _ _ h => h) (Or.inl ⟨by kernel_rfl, ?hy11⟩) (by assumption) ?_
      case hy11 => (intro w hSw; (try dsimp only at hSw); obtain ⟨s1, s2⟩ := hSw; go_simp; all_goals (with_reducible rfl))
      (try simp only [Act.put, List.setIfInBounds_toArray, List.set_cons_zero, List.set_cons_succ])
      refine wpAnyH_take (i := 12) (oi := _) (v := ?vv12) rfl (by kernel_rfl) (by kernel_rfl) (by kernel_rfl) (fun _ _ _ h => h) (Or.inl ⟨by kernel_rfl, ?hy12⟩) (by assumption) ?_
      case hy12 => (intro w hSw; (try dsimp only at hSw); obtain ⟨s1, s2⟩ := hSw; go_simp; all_goals (with_reducible rfl))
      (try simp only [Act.put, List.setIfInBounds_toArray, List.set_cons_zero, List.set_cons_succ])
      refine wpAnyH_take (i := 13) (oi := _) (v := ?vv13) rfl (by kernel_rfl) (by kernel_rfl) (by kernel_rfl) (fun _ _ _ h => h) (Or.inl ⟨by kernel_rfl, ?hy13⟩) (by assumption) ?_
      case hy13 => (intro w hSw; (try dsimp only at hSw); obtain ⟨s1, s2⟩ := hSw; go_simp; all_goals (with_reducible rfl))
      (try simp only [Act.put, List.setIfInBounds_toArray, List.set_cons_zero, List.set_cons_succ])
      refine wpAnyH_take (i := 14) (oi := _) (v := ?vv14) rfl (by kernel_rfl) (by kernel_rfl) (by kernel_rfl) (fun _ _ _ h => h) (Or.inl ⟨by kernel_rfl, ?hy14⟩) (by assumption) ?_
      case hy14 => (intro w hSw; (try dsimp only at hSw); obtain ⟨s1, s2⟩ := hSw; go_simp; all_goals (with_reducible rfl))
      (try simp only [Act.put, List.setIfInBounds_toArray, List.set_cons_zero, List.set_cons_succ])
      refine wpAnyH_take (i := 15) (oi := _) (v := ?vv15) rfl (by kernel_rfl) (by kernel_rfl) (by kernel_rfl) (fun _ _ _ h => h) (Or.inl ⟨by kernel_rfl, ?hy15⟩) (by assumption) ?_
      case hy15 => (intro w hSw; (try dsimp only at hSw); obtain ⟨s1, s2⟩ := hSw; go_simp; all_goals (with_reducible rfl))
      (try simp only [Act.put, List.setIfInBounds_toArray, List.set_cons_zero, List.set_cons_succ])
      refine wpAnyH_done (by kernel_rfl) ?_ _
      refine NoPanic.normal ?_
      simp only [List.getElem_toArray, List.getElem_cons_succ, List.getElem_cons_zero, List.setIfInBounds_toArray, List.set_cons_zero, List.set_cons_succ]
      go_wp2_with fail
      refine (pass_any w1 bk base size u bit HW1.out ⟨Hb.out.2.2.1, Hb.out.2.2.2.1⟩ (by have := Hb.out; omega) Hb.out.1).mono ?_
      rintro e w2 ⟨⟨r, rfl⟩, hwk2, f2⟩
      have HW2 : Hid (WkAt w2 bk base size (passP size u bit)) := hwk2
      have HF2 : Hid (Fr (fun k => k = bk) w1 w2) := f2
      clear hwk2 f2
      go_wp2_with fail
      go_roundw
      case rel =>
        have hst := Hst.out
        have hk := HK.out
        refine ⟨i + 1, by have := Hb.out; omega, ?_, by push_cast; rfl, ?_, ?_, ?_⟩
        · rw [hst]
        · rw [hst]; exact HD1.out.kept HF2.out (by omega) (by omega) (fun k e h => hk.2.2 (by rw [e, h]))
        · rw [hst]; exact HW2.out
        · exact Fr.trans (Fr.trans HFr.out F1.out (fun _ _ h => by omega)) HF2.out (fun _ _ h => by omega)
      case measure => have := Hb.out; simp [intOf]; omega
    · obtain rfl : i = n := by omega
      have hdec : decide (i < i) = false := decide_eq_false (by omega)
      have HD2 : Hid _ := hd
      have HW2 : Hid _ := hwk
      have HF2 : Hid _ := hfr
      clear hd hwk hfr
      go_wp2_with fail
      go_ret2
      exact ⟨rfl, HD2.out, HW2.out, HF2.out⟩

end Go.Proofs.YtllhekkclhcdbaaDoor
