/- 'Encode'. -/
import Derived.Test.YtllhekkclhcdbaaDoorKPut
import Derived.Test.YtllhekkclhcdbaaDoorKFlush
import Derived.Test.YtllhekkclhcdbaaDoorK2
namespace Go.Proofs.YtllhekkclhcdbaaDoor
open Go.RowKit

/-- Numbers in memory. -/
structure NumsAt (w : World) (ao : Option Addr) (n : Nat) (V : Nat → Int) (N : Nat → Bool) : Prop where
  lim : n ≤ 9223372036854775807
  at_ : 0 < n → ∃ b off, ao = some ⟨b, off, none⟩ ∧ ∀ j, j < n → w.cell? ⟨b, off + j * 2, none⟩ = some (.int .i64 (V j)) ∧ w.cell? ⟨b, off + j * 2 + 1, none⟩ = some (.bool (N j))
theorem NumsAt.kept {w w' : World} {ao : Option Addr} {n : Nat} {V : Nat → Int} {N : Nat → Bool} (h : NumsAt w ao n V N) (f : Fr (fun _ => False) w w') : NumsAt w' ao n V N := by
  refine ⟨h.lim, fun hn => ?_⟩
  obtain ⟨b, off, e, hc⟩ := h.at_ hn
  exact ⟨b, off, e, fun j hj => ⟨f.cell (hc j hj).1 (fun hh => hh), f.cell (hc j hj).2 (fun hh => hh)⟩⟩

/-- Numbers as decisions. -/
def numsL (V : Nat → Int) (N : Nat → Bool) : Nat → List (Int × Nat)
  | 0 => []
  | n + 1 => numsL V N n ++ decs 0 512 1 (numBits (V n) (N n))
theorem numBits_len (v : Int) (nn : Bool) : (numBits v nn).length = numLen (amountOf v nn) := hiBits_len _ _
theorem numsL_len (V : Nat → Int) (N : Nat → Bool) : ∀ n, (numsL V N n).length ≤ 38 * n
  | 0 => Nat.le_refl _
  | n + 1 => by
    have h1 := numsL_len V N n
    have h2 := numLen_le (amountOf (V n) (N n))
    simp only [numsL, List.length_append, decs_len, numBits_len]
    omega
theorem numsL_bit (V : Nat → Int) (N : Nat → Bool) : ∀ n, ∀ p ∈ numsL V N n, p.2 < 2
  | 0, p, h => by simp [numsL] at h
  | n + 1, p, h => by
    simp only [numsL, List.mem_append] at h
    rcases h with h | h
    · exact numsL_bit V N n p h
    · exact decs_bit _ _ (hiBits_lt _ _) p h

set_option maxRecDepth 100000 in
set_option maxHeartbeats 4000000 in
theorem encode_any (w : World) (ao : Option Addr) (n cap : Nat) (V : Nat → Int) (N : Nat → Bool) (h : NumsAt w ao n V N) (hn : n ≤ 200) (hr : RowsAt w) :
    Calls Tryd.prog 10 #[.slice ao n cap] w fun e w' => Fr (fun _ => False) w w' ∧ (((∀ j, j < n → mayP (V j) (N j) = true) ∧ ∃ g k c, e = .returned (.tuple #[.slice (some ⟨g, 1, none⟩) k c, .int .i64 0]) ∧ SeenAt w' (.slice (some ⟨g, 1, none⟩) k c) (codedB 512 (numsL V N n)) ∧ w.heap.size ≤ g) ∨
      ((∃ j, j < n ∧ mayP (V j) (N j) = false) ∧ e = .returned (.tuple #[.slice none 0 0, .int .i64 50]))) := by
  have HL : Hid (NumsAt w ao n V N) := h
  have HN : Hid (n ≤ 200) := hn
  have HR : Hid (RowsAt w) := hr
  clear h hn hr
  go_enter Tryd.func10, Tryd.ntmps10
  go_wp2_with fail
  go_loopw [13] (fun p wr => ∃ i : Nat, i ≤ n ∧ p = .int .i64 (i : Int) ∧ (∀ j, j < i → mayP (V j) (N j) = true) ∧ Fr (fun _ => False) w wr)
    (fun p _ => ((n : Int) - intOf p).toNat)
  case atStart => exact ⟨0, Nat.zero_le _, rfl, fun j hj => absurd hj (by omega), Fr.refl _ _⟩
  case round =>
    obtain ⟨i, hi, rfl, hall, hfr⟩ := hrel
    have HF : Hid (Fr (fun _ => False) w wr) := hfr
    have HA : Hid (∀ j, j < i → mayP (V j) (N j) = true) := hall
    by_cases hin : i < n
    · have hdec : decide (i < n) = true := decide_eq_true hin
      obtain ⟨b, off, eao, hc⟩ := (HL.out.kept hfr).at_ (by omega)
      obtain ⟨c0, c1⟩ := hc i hin
      obtain ⟨v, ev⟩ : ∃ v, V i = v := ⟨_, rfl⟩
      obtain ⟨nn, en⟩ : ∃ nn, N i = nn := ⟨_, rfl⟩
      rw [ev] at c0
      rw [en] at c1
      have HI : Hid (i < n ∧ V i = v ∧ N i = nn) := ⟨hin, ev, en⟩
      have k2 : IntKind.i64.wrap ((i : Int) + 1) = (i : Int) + 1 := by have := HN.out; rw [IntKind.wrap_i64]; omega
      subst eao
      clear hfr hall hc ev en hi
      go_wp2_with fail
      by_cases hmay : mayP v nn = true
      · refine (mayBe_at _ v nn true hmay.symm).mono ?_
        rintro e w1 ⟨rfl, f1⟩
        have F1 : Hid (Fr (fun _ => False) w w1) := Fr.trans (Fr.alloc HF.out _) f1 (fun _ _ h => h)
        have HM : Hid (mayP v nn = true) := hmay
        clear f1 hmay
        go_wp2_with fail
        go_roundw
        case rel =>
          obtain ⟨q1, q2, q3⟩ := HI.out
          refine ⟨i + 1, by omega, by push_cast; rfl, ?_, F1.out⟩
          intro j hj
          rcases Nat.lt_or_ge j i with e | e
          · exact HA.out j e
          · obtain rfl : j = i := by omega
            rw [q2, q3]; exact HM.out
        case measure => have := HI.out; simp [intOf]; omega
      · have hmf : mayP v nn = false := by simpa using hmay
        refine (mayBe_at _ v nn false hmf.symm).mono ?_
        rintro e w1 ⟨rfl, f1⟩
        have F1 : Hid (Fr (fun _ => False) w w1) := Fr.trans (Fr.alloc HF.out _) f1 (fun _ _ h => h)
        have HM : Hid (mayP v nn = false) := hmf
        clear f1 hmay hmf
        go_wp2_with fail
        go_ret2
        obtain ⟨q1, q2, q3⟩ := HI.out
        exact ⟨F1.out, .inr ⟨⟨i, q1, by rw [q2, q3]; exact HM.out⟩, rfl⟩⟩
    · obtain rfl : i = n := by omega
      have hdec : decide (i < i) = false := decide_eq_false (by omega)
      clear hall hfr
      go_wp2_with fail
      refine (new_any _ 512 (by omega) (by omega)).mono ?_
      rintro e w1 ⟨bc, gc, gb, rfl, hco, f1, l1, l2, l3⟩
      have F1 : Hid (Fr (fun _ => False) w w1) := Fr.trans HF.out f1 (fun _ _ h => h)
      have hz := HF.out.size
      have HC : Hid (CoAt w1 bc gc 512 gb 1 (newP 512) ∧ w.heap.size ≤ bc ∧ w.heap.size ≤ gc ∧ w.heap.size ≤ gb) := ⟨hco, by omega, by omega, by omega⟩
      clear hco f1 l1 l2 l3 hz
      go_wp2_with fail
      go_loopw [27] (fun p wr => ∃ k : Nat, k ≤ i ∧ p = .int .i64 (k : Int) ∧ (∃ g c, CoAt wr bc gc 512 g c (runL (newP 512) (numsL V N k)) ∧ w.heap.size ≤ g) ∧ Fr (fun _ => False) w wr)
        (fun p _ => ((i : Int) - intOf p).toNat)
      case atStart => exact ⟨0, Nat.zero_le _, rfl, ⟨gb, 1, HC.out.1, HC.out.2.2.2⟩, F1.out⟩
      case round =>
        obtain ⟨k, hk, rfl, ⟨g, c, hco, hg⟩, hfr⟩ := hrel
        have hln := numsL_len V N k
        have h200 := HN.out
        obtain ⟨ok1, mk1, xl1⟩ := runL_ok (newP_ok (n := 512) (by omega) (by omega)) (numsL V N k) (by show 0 + _ ≤ _; omega)
        have hmade : (newP 512).made = 0 := rfl
        rw [hmade] at mk1
        have hxl : (newP 512).x.length = 512 := by simp [newP]
        rw [hxl] at xl1
        have HF2 : Hid (Fr (fun _ => False) w wr) := hfr
        have HC2 : Hid (CoAt wr bc gc 512 g c (runL (newP 512) (numsL V N k)) ∧ w.heap.size ≤ g) := ⟨hco, hg⟩
        have HO2 : Hid (Ook (runL (newP 512) (numsL V N k)) ∧ (runL (newP 512) (numsL V N k)).made + 38 ≤ 16777216 ∧ (runL (newP 512) (numsL V N k)).x.length = 512) := ⟨ok1, by omega, xl1⟩
        by_cases hki : k < i
        · have hdec2 : decide (k < i) = true := decide_eq_true hki
          obtain ⟨b, off, eao, hc⟩ := (HL.out.kept hfr).at_ (by omega)
          obtain ⟨c0, c1⟩ := hc k hki
          obtain ⟨v, ev⟩ : ∃ v, V k = v := ⟨_, rfl⟩
          obtain ⟨nn, en⟩ : ∃ nn, N k = nn := ⟨_, rfl⟩
          rw [ev] at c0
          rw [en] at c1
          have HI : Hid (k < i ∧ V k = v ∧ N k = nn) := ⟨hki, ev, en⟩
          have k2 : IntKind.i64.wrap ((k : Int) + 1) = (k : Int) + 1 := by rw [IntKind.wrap_i64]; omega
          have HM : Hid (mayP v nn = true) := by rw [← ev, ← en]; exact HA.out k hki
          subst eao
          clear hfr hc ev en hk hco hg ok1 mk1 xl1 hln h200 hmade hxl
          go_wp2_with fail
          refine (put_ok _ bc gc 512 g c 0 _ (HC2.out.1.kept ((Fr.refl (fun _ => False) _).alloc _) (fun h => h) (fun h => h) (fun h => h)) HO2.out.1 (HR.out.kept (Fr.alloc HF2.out _) (fun h => h)) HO2.out.2.1 v nn (by rw [HO2.out.2.2]; omega) HM.out).mono ?_
          rintro e w2 ⟨rfl, g2, c2, hco2, hst2⟩
          have HC3 : Hid (CoAt w2 bc gc 512 g2 c2 (runL (runL (newP 512) (numsL V N k)) (decs 0 512 1 (numBits v nn)))) := hco2
          have hfresh := CStep.fresh (Fr.alloc HF2.out _) hst2 ⟨HC.out.2.1, HC.out.2.2.1, HC2.out.2⟩
          have HF3 : Hid (Fr (fun _ => False) w w2 ∧ w.heap.size ≤ g2) := hfresh
          clear hco2 hst2 hfresh
          go_wp2_with fail
          go_roundw
          case rel =>
            obtain ⟨q1, q2, q3⟩ := HI.out
            refine ⟨k + 1, by omega, by push_cast; rfl, ⟨g2, c2, ?_, HF3.out.2⟩, HF3.out.1⟩
            have := HC3.out
            rw [← runL_cat, ← q2, ← q3] at this
            exact this
          case measure => have := HI.out; simp [intOf]; omega
        · obtain rfl : k = i := by omega
          have hdec2 : decide (k < k) = false := decide_eq_false (by omega)
          clear hfr hk hco hg ok1 mk1 xl1 hln h200 hmade hxl hki
          go_wp2_with fail
          refine (flush_any _ bc gc 512 g c _ HC2.out.1 HO2.out.1).mono ?_
          rintro e w2 ⟨g2, m2, c2, rfl, hse, hdo, hst2, _, _⟩
          have hfresh := CStep.fresh HF2.out hst2 ⟨HC.out.2.1, HC.out.2.2.1, HC2.out.2⟩
          have HF3 : Hid (Fr (fun _ => False) w w2 ∧ w.heap.size ≤ g2) := hfresh
          have HSe : Hid (SeenAt w2 (.slice (some ⟨g2, 1, none⟩) m2 c2) (flushP (runL (newP 512) (numsL V N k)).s)) := hse
          clear hse hdo hst2 hfresh
          go_wp2_with fail
          go_ret2
          exact ⟨HF3.out.1, .inl ⟨HA.out, g2, m2, c2, rfl, HSe.out, HF3.out.2⟩⟩

end Go.Proofs.YtllhekkclhcdbaaDoor
