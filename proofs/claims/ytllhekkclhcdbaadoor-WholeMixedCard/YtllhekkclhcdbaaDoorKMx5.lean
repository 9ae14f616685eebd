/- 'WholeMixed'. -/
import Derived.Test.YtllhekkclhcdbaaDoorKPr
import Derived.Test.YtllhekkclhcdbaaDoorKRp5
import Derived.Test.YtllhekkclhcdbaaDoorKReT
import Derived.Test.YtllhekkclhcdbaaDoorK5
import Derived.Test.YtllhekkclhcdbaaDoorK2
import Derived.Deep.LoopGhost
import Derived.Deep.RegionHeld3
namespace Go.Proofs.YtllhekkclhcdbaaDoor
open Go.RowKit

/-- What an ID is refused by, what a number's base, what a number. -/
def It.erI (it : It) : Int := if 0 ≤ it.w ∧ it.w ≤ 12 then (if 0 ≤ it.b ∧ it.b ≤ 9000 - (it.pw : Int) then (if 0 ≤ it.v ∧ it.v < (it.pw : Int) then 0 else 50) else 51) else 52
def It.erB (it : It) : Int := if 0 ≤ it.b ∧ it.b ≤ 8488 then 0 else 51
def It.erN (it : It) : Int := if 0 ≤ it.b ∧ it.b ≤ 8488 then (if mayP it.v it.nn = true then 0 else 50) else 51

theorem putID_ex {w0 W : World} {bc gc gb cb : Nat} {o : Co} {M : Nat} (h : CS w0 W 9000 bc gc gb cb o M) (hM : M + 38 ≤ 16777216) (it : It) (hid : it.idb = true) (hb : -9223372036854775808 ≤ it.b ∧ it.b ≤ 9223372036854775807) :
    Calls Tryd.prog 20 #[.pointer (some ⟨bc, 0, none⟩), .int .i64 it.b, .int .i64 it.w, .int .i64 it.v] W fun e w' => e = .returned (.int .i64 it.erI) ∧ ((it.erI = 0 ∧ it.good ∧ ∃ gb' cb', CoAt w' bc gc 9000 gb' cb' (runL o it.dec) ∧ CStep bc gc gb gb' W w') ∨ (it.erI ≠ 0 ∧ ¬ it.good ∧ Fr (fun _ => False) W w')) := by
  have hmade := h.made
  by_cases h1 : 0 ≤ it.w ∧ it.w ≤ 12
  · obtain ⟨n, en⟩ : ∃ n : Nat, it.w = n := ⟨it.w.toNat, by omega⟩
    have hpw : it.pw = 2 ^ n := by unfold It.pw; rw [en]; rfl
    rw [en]
    by_cases h2 : 0 ≤ it.b ∧ it.b ≤ 9000 - (it.pw : Int)
    · by_cases h3 : 0 ≤ it.v ∧ it.v < (it.pw : Int)
      · have he : it.erI = 0 := by unfold It.erI; rw [if_pos h1, if_pos h2, if_pos h3]
        obtain ⟨b, eb⟩ : ∃ b : Nat, it.b = b := ⟨it.b.toNat, by omega⟩
        obtain ⟨v, ev⟩ : ∃ v : Nat, it.v = v := ⟨it.v.toNat, by omega⟩
        have hg : it.good := .inl ⟨hid, h1, h2, h3⟩
        have hd : it.dec = decs b (2 ^ n) 1 (hiBits v n) := by
          unfold It.dec; rw [if_pos hid, hpw, eb, ev, en]; rfl
        rw [he, eb, ev, hd]
        refine (putID_ok W bc gc 9000 gb cb b n v o h.co h.ok (by omega) (by omega) (by rw [h.xl, ← hpw]; omega) (by rw [← hpw]; omega)).mono ?_
        rintro e w' ⟨q1, q2⟩
        exact ⟨q1, .inl ⟨rfl, hg, q2⟩⟩
      · have he : it.erI = 50 := by unfold It.erI; rw [if_pos h1, if_pos h2, if_neg h3]
        rw [he]
        refine (putID_range W bc gc 9000 9000 n h.cell (by omega) it.b it.v (by omega) (by rw [← hpw]; exact h2) (by rw [← hpw]; omega)).mono ?_
        rintro e w' ⟨rfl, rfl⟩
        refine ⟨rfl, .inr ⟨by decide, ?_, Fr.drew (Fr.refl _ _)⟩⟩
        rintro (⟨_, _, _, q⟩ | ⟨q, _⟩)
        · exact h3 q
        · rw [hid] at q; cases q
    · have he : it.erI = 51 := by unfold It.erI; rw [if_pos h1, if_neg h2]
      rw [he]
      refine (putID_base W bc gc 9000 9000 n h.cell (by omega) it.b it.v (by omega) hb (by rw [← hpw]; exact h2)).mono ?_
      rintro e w' ⟨rfl, rfl⟩
      refine ⟨rfl, .inr ⟨by decide, ?_, Fr.drew (Fr.refl _ _)⟩⟩
      rintro (⟨_, _, q, _⟩ | ⟨q, _⟩)
      · exact h2 q
      · rw [hid] at q; cases q
  · have he : it.erI = 52 := by unfold It.erI; rw [if_neg h1]
    rw [he]
    refine (putID_width W bc it.b it.w it.v h1).mono ?_
    rintro e w' ⟨rfl, rfl⟩
    refine ⟨rfl, .inr ⟨by decide, ?_, Fr.refl _ _⟩⟩
    rintro (⟨_, q, _⟩ | ⟨q, _⟩)
    · exact h1 q
    · rw [hid] at q; cases q

theorem put_ex {w0 W : World} {bc gc gb cb : Nat} {o : Co} {M : Nat} (h : CS w0 W 9000 bc gc gb cb o M) (hM : M + 38 ≤ 16777216) (it : It) (hid : it.idb = false) (hb : -9223372036854775808 ≤ it.b ∧ it.b ≤ 9223372036854775807) :
    Calls Tryd.prog 23 #[.pointer (some ⟨bc, 0, none⟩), .int .i64 it.b, .agg #[.int .i64 it.v, .bool it.nn]] W fun e w' => e = .returned (.int .i64 it.erN) ∧ ((it.erN = 0 ∧ it.good ∧ ∃ gb' cb', CoAt w' bc gc 9000 gb' cb' (runL o it.dec) ∧ CStep bc gc gb gb' W w') ∨ (it.erN ≠ 0 ∧ ¬ it.good ∧ Fr (fun _ => False) W w')) := by
  have hmade := h.made
  by_cases h2 : 0 ≤ it.b ∧ it.b ≤ 8488
  · by_cases h3 : mayP it.v it.nn = true
    · have he : it.erN = 0 := by unfold It.erN; rw [if_pos h2, if_pos h3]
      obtain ⟨b, eb⟩ : ∃ b : Nat, it.b = b := ⟨it.b.toNat, by omega⟩
      have hg : it.good := .inr ⟨hid, by omega, h3⟩
      have hd : it.dec = decs b 512 1 (numBits it.v it.nn) := by
        unfold It.dec; rw [if_neg (by rw [hid]; decide), eb]; rfl
      rw [he, eb, hd]
      refine (put_ok W bc gc 9000 gb cb b o h.co h.ok h.rows (by omega) it.v it.nn (by rw [h.xl]; omega) h3).mono ?_
      rintro e w' ⟨q1, q2⟩
      exact ⟨q1, .inl ⟨rfl, hg, q2⟩⟩
    · have he : it.erN = 50 := by unfold It.erN; rw [if_pos h2, if_neg h3]
      rw [he]
      refine (put_range W bc gc 9000 9000 h.cell (by omega) it.b it.v it.nn (by omega) (by simpa using h3)).mono ?_
      rintro e w' ⟨rfl, f⟩
      refine ⟨rfl, .inr ⟨by decide, ?_, f⟩⟩
      rintro (⟨q, _⟩ | ⟨_, _, q⟩)
      · rw [hid] at q; cases q
      · exact h3 q
  · have he : it.erN = 51 := by unfold It.erN; rw [if_neg h2]
    rw [he]
    refine (put_base W bc gc 9000 9000 h.cell (by omega) it.b it.v it.nn hb (by omega)).mono ?_
    rintro e w' ⟨rfl, f⟩
    refine ⟨rfl, .inr ⟨by decide, ?_, f⟩⟩
    rintro (⟨q, _⟩ | ⟨_, q, _⟩)
    · rw [hid] at q; cases q
    · omega

theorem cells5 {w : World} {b : Nat} {x0 x1 x2 x3 x4 : Value} {t : TypeId} (h : w.heap[b]? = some (.cells #[x0, x1, x2, x3, x4] t (0, 0))) : w.cell? ⟨b, 0, none⟩ = some x0 ∧ w.cell? ⟨b, 1, none⟩ = some x1 ∧ w.cell? ⟨b, 2, none⟩ = some x2 ∧ w.cell? ⟨b, 3, none⟩ = some x3 ∧ w.cell? ⟨b, 4, none⟩ = some x4 := by
  refine ⟨?_, ?_, ?_, ?_, ?_⟩ <;> simp [World.cell?, h]

set_option maxRecDepth 100000 in
set_option maxHeartbeats 2000000 in
theorem badBase_any (idb : Bool) (b wd v : Int) (nn : Bool) (w : World) (er : Int) (he : er = if 0 ≤ b ∧ b ≤ 8488 then 0 else 51) :
    Calls Tryd.prog 24 #[.agg #[.bool idb, .int .i64 b, .int .i64 wd, .int .i64 v, .bool nn]] w fun e w' => e = .returned (.int .i64 er) ∧ Fr (fun _ => False) w w' := by
  have HE : Hid (er = if 0 ≤ b ∧ b ≤ 8488 then 0 else 51) := he
  clear he
  by_cases h0 : b < 0
  · have d0 : decide (b < 0) = true := decide_eq_true h0
    have e1 : er = 51 := by rw [HE.out, if_neg (by omega)]
    subst e1
    go_enter Tryd.func24, Tryd.ntmps24
    go_wp2_with fail
    go_ret
    exact ⟨rfl, (Fr.refl _ _).alloc _⟩
  · have d0 : decide (b < 0) = false := decide_eq_false h0
    by_cases h1 : 8488 < b
    · have d1 : decide (8488 < b) = true := decide_eq_true h1
      have e1 : er = 51 := by rw [HE.out, if_neg (by omega)]
      subst e1
      go_enter Tryd.func24, Tryd.ntmps24
      go_wp2_with fail
      go_ret
      exact ⟨rfl, (Fr.refl _ _).alloc _⟩
    · have d1 : decide (8488 < b) = false := decide_eq_false h1
      have e1 : er = 0 := by rw [HE.out, if_pos (by omega)]
      subst e1
      go_enter Tryd.func24, Tryd.ntmps24
      go_wp2_with fail
      go_ret
      exact ⟨rfl, (Fr.refl _ _).alloc _⟩

set_option maxRecDepth 100000 in
set_option maxHeartbeats 4000000 in
theorem badID_any (idb : Bool) (b wd v : Int) (nn : Bool) (w : World) (er : Int) (hb : -9223372036854775808 ≤ b ∧ b ≤ 9223372036854775807) (he : er = if 0 ≤ wd ∧ wd ≤ 12 then (if 0 ≤ b ∧ b ≤ 9000 - ((2 ^ wd.toNat : Nat) : Int) then (if 0 ≤ v ∧ v < ((2 ^ wd.toNat : Nat) : Int) then 0 else 50) else 51) else 52) :
    Calls Tryd.prog 21 #[.agg #[.bool idb, .int .i64 b, .int .i64 wd, .int .i64 v, .bool nn]] w fun e w' => e = .returned (.int .i64 er) ∧ Fr (fun _ => False) w w' := by
  by_cases h0 : wd < 0
  · have d0 : decide (wd < 0) = true := decide_eq_true h0
    rw [if_neg (by omega)] at he
    subst he
    go_enter Tryd.func21, Tryd.ntmps21
    go_wp2_with fail
    go_ret
    exact ⟨rfl, (Fr.refl _ _).alloc _⟩
  · have d0 : decide (wd < 0) = false := decide_eq_false h0
    by_cases h1 : 12 < wd
    · have d1 : decide (12 < wd) = true := decide_eq_true h1
      rw [if_neg (by omega)] at he
      subst he
      go_enter Tryd.func21, Tryd.ntmps21
      go_wp2_with fail
      go_ret
      exact ⟨rfl, (Fr.refl _ _).alloc _⟩
    · have d1 : decide (12 < wd) = false := decide_eq_false h1
      rw [if_pos (by omega)] at he
      have key : ∀ (n : Nat) (p : Int), wd = n → p = ((2 ^ n : Nat) : Int) → 0 < p → p ≤ 4096 → IntKind.u64.wrap (n : Int) = n → IntKind.i64.wrap (2 ^ n) = p → Calls Tryd.prog 21 #[.agg #[.bool idb, .int .i64 b, .int .i64 wd, .int .i64 v, .bool nn]] w fun e w' => e = .returned (.int .i64 er) ∧ Fr (fun _ => False) w w' := fun n p en ep hp hp2 hwu hwi => by
        rw [en] at he
        rw [show ((n : Int)).toNat = n from rfl, ← ep] at he
        have HEP : Hid (p = ((2 ^ n : Nat) : Int)) := ep
        subst en
        clear ep
        have hmin : min n 64 = n := by omega
        by_cases h2 : b < 0
        · have d2 : decide (b < 0) = true := decide_eq_true h2
          rw [if_neg (by omega)] at he
          subst he
          go_enter Tryd.func21, Tryd.ntmps21
          go_wp2_with fail
          go_ret
          exact ⟨rfl, (Fr.refl _ _).alloc _⟩
        · have d2 : decide (b < 0) = false := decide_eq_false h2
          have hws : IntKind.i64.wrap (9000 - p) = 9000 - p := by rw [IntKind.wrap_i64]; omega
          by_cases h3 : 9000 - p < b
          · have d3 : decide (9000 - p < b) = true := decide_eq_true h3
            rw [if_neg (by omega)] at he
            subst he
            go_enter Tryd.func21, Tryd.ntmps21
            go_wp2_with fail
            go_ret
            exact ⟨rfl, (Fr.refl _ _).alloc _⟩
          · have d3 : decide (9000 - p < b) = false := decide_eq_false h3
            rw [if_pos (by omega)] at he
            by_cases h4 : v < 0
            · have d4 : decide (v < 0) = true := decide_eq_true h4
              rw [if_neg (by omega)] at he
              subst he
              go_enter Tryd.func21, Tryd.ntmps21
              go_wp2_with fail
              go_ret
              exact ⟨rfl, (Fr.refl _ _).alloc _⟩
            · have d4 : decide (v < 0) = false := decide_eq_false h4
              by_cases h5 : p ≤ v
              · have d5 : decide (p ≤ v) = true := decide_eq_true h5
                rw [if_neg (by omega)] at he
                subst he
                go_enter Tryd.func21, Tryd.ntmps21
                go_wp2_with fail
                go_ret
                exact ⟨rfl, (Fr.refl _ _).alloc _⟩
              · have d5 : decide (p ≤ v) = false := decide_eq_false h5
                rw [if_pos (by omega)] at he
                subst he
                go_enter Tryd.func21, Tryd.ntmps21
                go_wp2_with fail
                go_ret
                exact ⟨rfl, (Fr.refl _ _).alloc _⟩
      obtain ⟨n, en⟩ : ∃ n : Nat, wd = n := ⟨wd.toNat, by omega⟩
      have hn : n ≤ 12 := by omega
      have h2n : 2 ^ n ≤ 2 ^ 12 := Nat.pow_le_pow_right (by decide) hn
      have h1n : 0 < 2 ^ n := Nat.pow_pos (by decide)
      have hc : ((2 : Int) ^ n) = ((2 ^ n : Nat) : Int) := by push_cast; rfl
      refine key n _ en rfl (by omega) (by omega) (by rw [IntKind.wrap_u64]; omega) (by rw [hc, IntKind.wrap_i64]; omega)

theorem hiBits_getD (x : Nat) : ∀ n k, k < n → (hiBits x n).getD k 0 = x / 2 ^ (n - 1 - k) % 2
  | n + 1, 0, _ => by rw [show n + 1 - 1 - 0 = n by omega]; rfl
  | n + 1, k + 1, h => by
    show (hiBits x n).getD k 0 = _
    rw [hiBits_getD x n k (by omega), show n + 1 - 1 - (k + 1) = n - 1 - k by omega]

set_option maxRecDepth 100000 in
set_option maxHeartbeats 4000000 in
theorem rputID_ok (w : World) (br gt ct gs gz n gb cb : Nat) (o : Co) (base wd id : Nat) (h : ReAt w br gt ct gs gz n gb cb o false) (hok : Ook o) (hm : o.made + 12 ≤ 16777216) (hbase : base ≤ 9000) (hw : wd ≤ 12) (hid : id < 2 ^ wd) :
    Calls Tryd.prog 22 #[.pointer (some ⟨br, 0, none⟩), .int .i64 (base : Int), .int .i64 (wd : Int), .int .i64 (id : Int)] w fun e w' => e = .returned (.int .i64 0) ∧ ∃ gb' cb', ReAt w' br gt ct gs gz n gb' cb' (runL o (decs base (2 ^ wd) 1 (hiBits id wd))) false ∧ RStep br gs gz gb gb' w w' := by
  have HLen : Hid ((hiBits id wd).length = wd) := hiBits_len id wd
  have HGD : Hid (∀ k, k < wd → (hiBits id wd).getD k 0 = id / 2 ^ (wd - 1 - k) % 2) := fun k hk => hiBits_getD id wd k hk
  have hpw : 2 ^ wd ≤ 4096 := Nat.le_trans (Nat.pow_le_pow_right (by decide) hw) (by decide)
  have HID : Hid (id < 4096) := by show _ < _; omega
  generalize hL : hiBits id wd = L at *
  have HOk : Hid (∀ k, k ≤ wd → Ook (runL o (decs base (2 ^ wd) 1 (L.take k))) ∧ (runL o (decs base (2 ^ wd) 1 (L.take k))).made = o.made + k) := fun k hk => by
    have hl := HLen.out
    obtain ⟨a, b, _⟩ := runL_ok hok (decs base (2 ^ wd) 1 (L.take k)) (by rw [decs_len, List.length_take]; omega)
    rw [decs_len, List.length_take, Nat.min_eq_left (by omega)] at b
    exact ⟨a, b⟩
  have HPu : Hid (∀ (w' : World) (gb' cb' k vv bb : Nat) (ii : Int), k < wd → vv = vEnd (2 ^ wd) 1 (L.take k) → vv < 8192 → bb = L.getD k 0 → bb < 2 → ii = ((base + vv : Nat) : Int) → ReAt w' br gt ct gs gz n gb' cb' (runL o (decs base (2 ^ wd) 1 (L.take k))) false → Calls Tryd.prog 46 #[.pointer (some ⟨br, 0, none⟩), .int .i64 ii, .int .i64 (bb : Nat)] w' fun e w'' => e = .returned (.int .i64 0) ∧ ∃ gb2 cb2, ReAt w'' br gt ct gs gz n gb2 cb2 (runL o (decs base (2 ^ wd) 1 (L.take (k + 1)))) false ∧ RStep br gs gz gb' gb2 w' w'') := fun w' gb' cb' k vv bb ii hk hv hv2 hb hb2 e hr => by
    obtain ⟨a1, a2⟩ := HOk.out k (by omega)
    rw [decs_take base (2 ^ wd) L 1 k (by rw [HLen.out]; exact hk), runL_snoc, e, ← hv, ← hb]
    exact rput_any w' br gt ct gs gz n gb' cb' _ hr a1 (by omega) _ (by omega) _ hb2
  have HVN : Hid (∀ k vv bb, k + 1 < wd → vv = vEnd (2 ^ wd) 1 (L.take k) → vv < 2 ^ (k + 1) → bb = L.getD k 0 → bb < 2 → 2 * vv + bb = vEnd (2 ^ wd) 1 (L.take (k + 1))) := fun k vv bb hk hv hv2 hb hb2 => by
    rw [vEnd_take (2 ^ wd) L 1 k (by rw [HLen.out]; omega), ← hv, ← hb]
    unfold passP
    have h1 : 2 * 2 ^ (k + 1) ≤ 2 ^ wd := by rw [← Nat.pow_succ']; exact Nat.pow_le_pow_right (by decide) (by omega)
    rw [if_neg (by omega)]
  have HR0 : Hid (ReAt w br gt ct gs gz n gb cb o false) := h
  clear h hok hm hid hL
  have hw0 : IntKind.i64.wrap ((wd : Int) - 1) = (wd : Int) - 1 := by rw [IntKind.wrap_i64]; omega
  go_enter Tryd.func22, Tryd.ntmps22
  go_wp2_with fail
  go_loopg [9, 10] wd (fun q vv ii wr => ∃ (k v gb' cb' : Nat), k + q = wd ∧ ii = .int .i64 (((wd - k : Nat) : Int) - 1) ∧ vv = .int .i64 (v : Int) ∧ (k < wd → Hid (v = vEnd (2 ^ wd) 1 (L.take k))) ∧ Hid (v < 2 ^ (k + 1)) ∧ ReAt wr br gt ct gs gz n gb' cb' (runL o (decs base (2 ^ wd) 1 (L.take k))) false ∧ RStep br gs gz gb gb' w wr)
  case atStart => exact ⟨0, 1, gb, cb, by omega, by rw [Nat.sub_zero], rfl, fun _ => rfl, by show 1 < 2 ^ (0 + 1); decide, HR0.out, RStep.of_fr (Fr.refl _ _)⟩
  case round =>
    obtain ⟨k, v, gb', cb', hkq, rfl, rfl, HV, HV2, hre, hst⟩ := hrel
    have HRe : Hid (ReAt wr br gt ct gs gz n gb' cb' (runL o (decs base (2 ^ wd) 1 (L.take k))) false) := hre
    have HS : Hid (RStep br gs gz gb gb' w wr) := hst
    clear hre hst
    by_cases hk : k < wd
    · have HVk := HV hk
      clear HV
      obtain ⟨ii, hii⟩ : ∃ ii, wd - k = ii + 1 := ⟨wd - k - 1, by omega⟩
      rw [hii, show (((ii + 1 : Nat) : Int) - 1) = (ii : Int) by omega]
      have hii2 : ii ≤ 12 := by omega
      have HII : Hid (wd - 1 - k = ii) := by show _ = _; omega
      have hd9 : decide ((0 : Int) ≤ (ii : Int)) = true := decide_eq_true (by omega)
      have hku : IntKind.u64.wrap (ii : Int) = (ii : Int) := by rw [IntKind.wrap_u64]; omega
      obtain ⟨eb, Heb⟩ : ∃ eb, Hid (eb = id / 2 ^ ii % 2) := ⟨_, rfl⟩
      have hsh : bits BinOp.and IntKind.i64 ((id : Int) / 2 ^ ii) 1 = (eb : Int) := by
        rw [lowBit_and, Heb.out]
        unfold lowBit
        have : ((id : Int) / 2 ^ ii) = ((id / 2 ^ ii : Nat) : Int) := by push_cast; rfl
        rw [this]
        omega
      have hmin : min ii 64 = ii := by omega
      have heb2 : eb < 2 := by rw [Heb.out]; exact Nat.mod_lt _ (by decide)
      have HBB : Hid (eb = L.getD k 0) := by
        show _ = _
        rw [HGD.out k hk, HII.out, Heb.out]
      have hv8 : v < 8192 := by
        have h1 := HV2.out
        have h2 : 2 ^ (k + 1) ≤ 2 ^ 13 := Nat.pow_le_pow_right (by decide) (by omega)
        omega
      have HPx : Hid (∀ (ii : Int), ii = ((base + v : Nat) : Int) → Calls Tryd.prog 46 #[.pointer (some ⟨br, 0, none⟩), .int .i64 ii, .int .i64 (eb : Int)] wr fun e w'' => e = .returned (.int .i64 0) ∧ ∃ gb2 cb2, ReAt w'' br gt ct gs gz n gb2 cb2 (runL o (decs base (2 ^ wd) 1 (L.take (k + 1)))) false ∧ RStep br gs gz gb' gb2 wr w'') := fun ii e => HPu.out wr gb' cb' k v eb ii hk HVk.out hv8 HBB.out heb2 e HRe.out
      have HVN' : Hid (k + 1 < wd → 2 * v + eb = vEnd (2 ^ wd) 1 (L.take (k + 1))) := fun hk1 => HVN.out k v eb hk1 HVk.out HV2.out HBB.out heb2
      have HV2' : Hid (2 * v + eb < 2 ^ (k + 1 + 1)) := by
        have h1 := HV2.out
        show _ < _
        rw [Nat.pow_succ]
        omega
      have hw9 : IntKind.i64.wrap ((base : Int) + (v : Int)) = (base : Int) + (v : Int) := by rw [IntKind.wrap_i64]; omega
      have hw8 : IntKind.i64.wrap (2 * (v : Int)) = 2 * (v : Int) := by rw [IntKind.wrap_i64]; omega
      have hw7 : IntKind.i64.wrap (2 * (v : Int) + (eb : Int)) = 2 * (v : Int) + (eb : Int) := by rw [IntKind.wrap_i64]; omega
      have hw6 : IntKind.i64.wrap ((ii : Int) - 1) = (ii : Int) - 1 := by rw [IntKind.wrap_i64]; omega
      go_wp2_with fail
      refine (HPx.out _ (by omega)).mono ?_
      rintro e w4 ⟨rfl, gb2, cb2, hr4, hs4⟩
      have H4 : Hid (ReAt w4 br gt ct gs gz n gb2 cb2 (runL o (decs base (2 ^ wd) 1 (L.take (k + 1)))) false ∧ RStep br gs gz gb gb2 w w4) := ⟨hr4, HS.out.trans hs4⟩
      clear hr4 hs4
      go_wp2_with fail
      go_roundg (wd - (k + 1))
      case measure => omega
      case rel => exact ⟨k + 1, 2 * v + eb, gb2, cb2, by omega, by rw [show wd - (k + 1) = ii by omega], by push_cast; rfl, fun hk1 => HVN'.out hk1, HV2'.out, H4.out.1, H4.out.2⟩
    · have hkw : k = wd := by omega
      subst hkw
      have hd9 : decide ((0 : Int) ≤ ((k - k : Nat) : Int) - 1) = false := decide_eq_false (by omega)
      clear HV
      go_wp2_with fail
      go_ret
      have hr := HRe.out
      rw [List.take_of_length_le (by rw [HLen.out]; exact Nat.le_refl _)] at hr
      exact ⟨rfl, gb', cb', hr, HS.out⟩

end Go.Proofs.YtllhekkclhcdbaaDoor
