/- Package context: 'sliding'. -/
import Derived.Test.YtkggdnkmaldmlabKSl
import Derived.Deep.RegionHeld3
import Derived.Deep.Cut
import Derived.Deep.Light
import Derived.Deep.CutRange
namespace Go.Proofs.Ytkggdnkmaldmlab
open Go.RowKit

theorem new1 (w : World) (x : Value) {k : Nat} (t : TypeId) (h : k = w.heap.size) : (w.alloc (.cells #[x] t)).heap[k]? = some (.cells #[x] t (0, 0)) := by subst h; exact heap_alloc_new _ _
theorem blkUp {w : World} {o : Nat} {B : Obj} (h : w.heap[o]? = some B) (x : Obj) : (w.alloc x).heap[o]? = some B := by rw [Below.heap_alloc _ _ _ (lt_of_block h)]; exact h
theorem blkSame {w : World} {o : Nat} {u : Value} (h : w.heap[o]? = some (.cells #[.int .i64 0] 3 (0, 0))) : (w.setCell ⟨o, 0, none⟩ u).heap[o]? = some (.cells #[u] 3 (0, 0)) := one_setCell h
theorem blkOther {w : World} {o k : Nat} {B : Obj} (hk : o ≠ k) (h : w.heap[o]? = some B) (u : Value) : (w.setCell ⟨k, 0, none⟩ u).heap[o]? = some B := by rw [heap_setCell_other _ _ _ _ hk]; exact h
theorem frSet {w w' : World} {k : Nat} (h : w.heap.size ≤ k) (f : Fr (fun _ => False) w w') (u : Value) : Fr (fun _ => False) w (w'.setCell ⟨k, 0, none⟩ u) := Fr.setCell f (fun hh => absurd hh (Nat.not_lt.2 h)) u
theorem blkDrew {w : World} {o : Nat} {B : Obj} (h : w.heap[o]? = some B) : w.drew.heap[o]? = some B := h
theorem blkOld {w w' : World} {o : Nat} {B : Obj} (f : Fr (fun _ => False) w w') (h : w.heap[o]? = some B) : w'.heap[o]? = some B := by rw [f.block o (lt_of_block h) (fun hh => hh)]; exact h
theorem Fr.cells {a b : World} (h : Fr (fun _ => False) a b) : ∀ (o k : Nat), o < a.heap.size → b.cell? ⟨o, k, none⟩ = a.cell? ⟨o, k, none⟩ := fun _ _ ho => h.cellEq ho (fun hh => hh)
theorem Fr.frozens {a b : World} (h : Fr (fun _ => False) a b) : ∀ (o k : Nat), o < a.heap.size → b.frozen? ⟨o, k, none⟩ = a.frozen? ⟨o, k, none⟩ := fun o k ho => by
  unfold World.frozen?
  rw [h.block o ho (fun hh => hh)]

set_option maxRecDepth 100000 in
set_option maxHeartbeats 20000000 in
theorem sliding_any (w : World) (v' : Value) (F L : Int) (c : Nat) (l : List Nat) (hv : Seen w v' l) (hl : l.length ≤ 1048576) (hlt : ∀ j : Nat, l[j]?.getD 0 < 18446744073709551616)
    (hF : -1000 ≤ F ∧ F ≤ 1000) (hL : -1000 ≤ L ∧ L ≤ 1000) (hLF : L - F + 1 = (c : Int)) (hc : c ≤ 20) :
    Calls Try.prog 57 #[v', .agg #[.int .i64 F, .int .i64 L]] w fun e w' => ∃ bw br bn bm, e = .returned (.func (.func 58) #[] #[.pointer (some ⟨bw, 0, none⟩), .pointer (some ⟨br, 0, none⟩), .pointer (some ⟨bn, 0, none⟩), .pointer (some ⟨bm, 0, none⟩)]) ∧
      Sl w' bw br bn bm v' F c (c - 1) (gathN (fun k => rowpix l (F + k)) (c - 1) 0 % 2 ^ c) ∧ Fr (fun _ => False) w w' ∧ w.heap.size ≤ bw ∧ w.heap.size ≤ br ∧ w.heap.size ≤ bn ∧ w.heap.size ≤ bm := by
  have HV : Hid (∀ w', Fr (fun _ => False) w w' → Seen w' v' l) := fun w' f => hv.kept f
  have HC : Hid (∀ w', Calls Try.prog 50 #[.agg #[.int .i64 F, .int .i64 L]] w' fun e w'' => e = .returned (.int .i64 c) ∧ Fr (fun _ => False) w' w'') := fun w' => count_any _ _ _ w' hF hL hLF
  obtain ⟨ao, cap, rfl, _, _⟩ := hv
  have HA : Hid (Fr (fun _ => False) w ((w.alloc (.cells #[.slice ao l.length cap] 22)).alloc (.cells #[.int .i64 F, .int .i64 L] 95))) := ((Fr.refl _ _).alloc _).alloc _
  have HSB : Hid (∀ w', Fr (fun _ => False) ((w.alloc (.cells #[.slice ao l.length cap] 22)).alloc (.cells #[.int .i64 F, .int .i64 L] 95)) w' → w'.cell? ⟨w.heap.size + 1, 0, none⟩ = some (.int .i64 F) ∧ w'.cell? ⟨w.heap.size + 1, 1, none⟩ = some (.int .i64 L) ∧ w'.heap[w.heap.size]? = some (.cells #[.slice ao l.length cap] 22 (0, 0))) := fun w' hf => by
    have hB : w'.heap[w.heap.size + 1]? = some (.cells #[.int .i64 F, .int .i64 L] 95 (0, 0)) := by
      rw [hf.block _ (by simp) (fun hh => hh)]
      have := heap_alloc_new (w.alloc (.cells #[.slice ao l.length cap] 22)) (.cells #[.int .i64 F, .int .i64 L] 95)
      rwa [World.size_alloc] at this
    have hB2 : w'.heap[w.heap.size]? = some (.cells #[.slice ao l.length cap] 22 (0, 0)) := by
      rw [hf.block _ (by simp; omega) (fun hh => hh), Below.heap_alloc _ _ _ (by simp)]
      exact heap_alloc_new _ _
    obtain ⟨x0, x1⟩ := cell_of_two hB
    exact ⟨x0, x1, hB2⟩
  have hp : 2 ^ c ≤ 2 ^ 20 := Nat.pow_le_pow_right (by omega) hc
  have hp0 : 0 < 2 ^ c := Nat.two_pow_pos _
  have hmin : min c 64 = c := by omega
  have hce : ((2 : Int) ^ c) = ((2 ^ c : Nat) : Int) := by rw [Int.natCast_pow]; rfl
  have hw1 : IntKind.i64.wrap (2 ^ c) = 2 ^ c := by rw [hce, IntKind.wrap_i64]; omega
  have hw2 : IntKind.i64.wrap (2 ^ c - 1) = ((2 ^ c - 1 : Nat) : Int) := by rw [hce, IntKind.wrap_i64]; omega
  have hw3 : IntKind.i64.wrap ((c : Int) - 1) = (c : Int) - 1 := by rw [IntKind.wrap_i64]; omega
  clear hp hp0 hce
  go_enter Try.func57, Try.ntmps57
  go_wp2_with fail
  obtain ⟨b0, b1, _⟩ := HSB.out _ (Fr.refl _ _)
  obtain ⟨d0, d1, _⟩ := HSB.out _ (Fr.refl _ _).drew
  generalize (w.alloc (.cells #[.slice ao l.length cap] 22)).alloc (.cells #[.int .i64 F, .int .i64 L] 95) = w0 at *
  have hsz : w0.heap.size ≤ w0.heap.size := Nat.le_refl _
  go_cut [5, 6, 7] from 9 to 14 (fun u v x wc => ∃ o1 o2 o3 : Nat, u = .pointer (some ⟨o1, 0, none⟩) ∧ v = .pointer (some ⟨o2, 0, none⟩) ∧ x = .pointer (some ⟨o3, 0, none⟩) ∧ w0.heap.size ≤ o1 ∧ w0.heap.size ≤ o2 ∧ w0.heap.size ≤ o3 ∧ o1 ≠ o2 ∧ o1 ≠ o3 ∧ o2 ≠ o3 ∧ wc.heap[o1]? = some (.cells #[.int .i64 0] 3 (0, 0)) ∧ wc.heap[o2]? = some (.cells #[.int .i64 (2 ^ c - 1 : Nat)] 3 (0, 0)) ∧ wc.heap[o3]? = some (.cells #[.int .i64 F] 3 (0, 0)) ∧ Fr (fun _ => False) w0 wc)
  case first =>
    go_region_held3 (fun w' => w'.cell? ⟨w.heap.size + 1, 0, none⟩ = some (.int .i64 F) ∧ w'.cell? ⟨w.heap.size + 1, 1, none⟩ = some (.int .i64 L) ∧ w'.heap[w.heap.size]? = some (.cells #[.slice ao l.length cap] 22 (0, 0))) (exact HSB.out _ (by repeat (first | with_reducible refine Fr.setCell ?_ (fun hh => absurd hh (Nat.not_lt.2 (by first | exact Nat.le_refl _ | exact Nat.le_succ _ | exact ks0 | exact Nat.le_succ_of_le ks0 | (simp; omega)))) _ | with_reducible refine Fr.alloc ?_ _ | with_reducible refine Fr.drew ?_ | with_reducible exact Fr.refl _ _ | with_reducible refine Fr.trans ?_ hf2 (fun _ _ hh => hh)))) (first | (go_at_call 50; refine (HC.out _).mono ?_; rintro e w2 ⟨rfl, hf2⟩; (have hc2 := hf2.cells); (have hz2 := hf2.frozens); (have hs2 := hf2.size); (have ks0 : w0.heap.size ≤ w2.heap.size := by simp at hs2; omega); (try have ks1 : w0.heap.size < w2.heap.size := by simp at hs2; omega); (try have ks2 : w0.heap.size + 1 < w2.heap.size := by simp at hs2; omega); (try have ks3 : w0.heap.size + 1 + 1 < w2.heap.size := by simp at hs2; omega); (try have ks4 : w0.heap.size + 1 ≤ w2.heap.size := by simp at hs2; omega)))
    all_goals go_wp2_with fail
    all_goals go_meet
    all_goals go_light
    all_goals (have hs3 := hf2.size; simp at hs3; clear HSB HC HV hmin hw1 hw2 hw3 hl hlt hF hL hLF hc)
    all_goals refine ⟨_, _, _, rfl, rfl, rfl, by omega, by omega, by omega, by omega, by omega, by omega, ?_, ?_, ?_, ?_⟩
    all_goals first
      | ((repeat (first | with_reducible exact heap_alloc_new _ _ | (with_reducible refine new1 _ _ _ ?_; simp; done) | with_reducible refine blkUp ?_ _ | with_reducible refine blkSame ?_ | (with_reducible refine blkOther ?_ ?_ _; omega) | with_reducible refine blkDrew ?_ | with_reducible refine blkOld hf2 ?_)); done)
      | ((repeat (first | (with_reducible refine frSet ?_ ?_ _; omega) | with_reducible refine Fr.alloc ?_ _ | with_reducible refine Fr.drew ?_ | with_reducible exact Fr.refl _ _ | with_reducible refine Fr.trans ?_ hf2 (fun _ _ hh => hh))); done)
  case rest =>
    obtain ⟨o1, o2, o3, rfl, rfl, rfl, q1, q2, q3, n1, n2, n3, hb1, hb2, hb3, hfc⟩ := hcut
    have HF0 : Hid (Fr (fun _ => False) w0 wc) := hfc
    have HS0 : Hid (Sl wc o1 w.heap.size o3 o2 (.slice ao l.length cap) F c 0 0) := ⟨hb1, (HSB.out _ hfc).2.2, by rw [hb3]; simp, hb2, n2, n1, n3.symm⟩
    obtain ⟨e0, e1, _⟩ := HSB.out _ hfc
    have HSZ : Hid (w.heap.size ≤ o1 ∧ w.heap.size ≤ w.heap.size ∧ w.heap.size ≤ o3 ∧ w.heap.size ≤ o2) := ⟨Nat.le_trans HA.out.size q1, Nat.le_refl _, Nat.le_trans HA.out.size q3, Nat.le_trans HA.out.size q2⟩
    have hmf : ∀ (fn : Fn) (first cap : Array Value) (w : World), (Instr.makeFunc fn first cap).run Try.prog w = .ok (.func fn first cap) w := fun _ _ _ _ => rfl
    clear hb1 hb2 hb3 hfc q1 q2 q3 n1 n2 n3 b0 b1 d0 d1
    go_wp2_with fail
    refine (HC.out _).mono ?_
    rintro e w5 ⟨rfl, hf5⟩
    have HFw : Hid (∀ w', Fr (fun k => k = o1 ∨ k = o3) w5 w' → Fr (fun _ => False) w w') := fun w' h => ((HA.out.trans HF0.out (fun _ _ h => h)).trans hf5 (fun _ _ h => h)).trans h (fun i hi e => by have := HSZ.out; omega)
    have HS5 : Hid (Sl w5 o1 w.heap.size o3 o2 (.slice ao l.length cap) F c 0 0) := ⟨blkOld hf5 HS0.out.win, blkOld hf5 HS0.out.row, blkOld hf5 HS0.out.nxt, blkOld hf5 HS0.out.msk, HS0.out.wn, HS0.out.wm, HS0.out.nm⟩
    clear hf5 e0 e1
    go_wp2_with fail
    go_loopw [19] (fun j wr => ∃ m : Nat, m ≤ c - 1 ∧ j = .int .i64 m ∧ Sl wr o1 w.heap.size o3 o2 (.slice ao l.length cap) F c m (gathN (fun k => rowpix l (F + k)) m 0 % 2 ^ c) ∧ Fr (fun k => k = o1 ∨ k = o3) w5 wr) (fun j _ => ((c : Int) - intOf j).toNat)
    case atStart => exact ⟨0, Nat.zero_le _, rfl, by simpa [gathN] using HS5.out, Fr.refl _ _⟩
    case round =>
      obtain ⟨m, hm, rfl, hsl, hfr⟩ := hrel
      have HFr : Hid (Fr (fun k => k = o1 ∨ k = o3) w5 wr) := hfr
      have HSl : Hid (Sl wr o1 w.heap.size o3 o2 (.slice ao l.length cap) F c m (gathN (fun k => rowpix l (F + k)) m 0 % 2 ^ c)) := hsl
      clear hsl hfr
      by_cases hlt1 : m < c - 1
      · have hd : decide ((m : Int) < (c : Int) - 1) = true := decide_eq_true (by omega)
        have HSD : Hid (Calls Try.prog 58 #[.pointer (some ⟨o1, 0, none⟩), .pointer (some ⟨w.heap.size, 0, none⟩), .pointer (some ⟨o3, 0, none⟩), .pointer (some ⟨o2, 0, none⟩)] wr fun e w' => e = .returned (.int .i64 (gathN (fun k => rowpix l (F + k)) (m + 1) 0 % 2 ^ c : Nat)) ∧ Sl w' o1 w.heap.size o3 o2 (.slice ao l.length cap) F c (m + 1) (gathN (fun k => rowpix l (F + k)) (m + 1) 0 % 2 ^ c) ∧ Fr (fun k => k = o1 ∨ k = o3) wr w') := by
          have HSC := slide_any wr o1 w.heap.size o3 o2 (.slice ao l.length cap) F c m (gathN (fun k => rowpix l (F + k)) m 0 % 2 ^ c) l HSl.out (HV.out _ (HFw.out _ HFr.out)) hl hlt hF (by omega) hc (Nat.mod_lt _ (Nat.two_pow_pos _))
          rw [← gathN_step] at HSC
          exact HSC
        go_wp2_with fail
        refine HSD.out.mono ?_
        rintro e w6 ⟨rfl, hsl6, hfr6⟩
        have HS6 : Hid (Sl w6 o1 w.heap.size o3 o2 (.slice ao l.length cap) F c (m + 1) (gathN (fun k => rowpix l (F + k)) (m + 1) 0 % 2 ^ c)) := hsl6
        have HF6 : Hid (Fr (fun k => k = o1 ∨ k = o3) wr w6) := hfr6
        clear hsl6 hfr6
        go_wp2_with fail
        go_roundw
        case rel => exact ⟨m + 1, by omega, congrArg (Value.int .i64) (by omega), HS6.out, HFr.out.trans HF6.out (fun _ _ h => h)⟩
        case measure => simp [intOf]; omega
      · obtain rfl : m = c - 1 := by omega
        have hd : decide (((c - 1 : Nat) : Int) < (c : Int) - 1) = false := decide_eq_false (by omega)
        go_wp2_with fail
        go_ret
        exact ⟨_, _, _, _, rfl, HSl.out, HFw.out _ HFr.out, HSZ.out⟩

end Go.Proofs.Ytkggdnkmaldmlab
