/- Segments' headers: the reader's 'part'. -/
import Derived.Test.YtamonbkhpbdojaaDoorSa
namespace Go.Proofs.YtamonbkhpbdojaaDoor
set_option maxRecDepth 100000
open Go.RowKit

set_option maxHeartbeats 2000000 in
theorem part_mid (bs : Nat) (b off : Nat) (cap : Nat) (l : List Nat) (a most m hi : Nat) (w : World) (c0 : w.cell? ⟨bs, 0, none⟩ = some (.slice (some ⟨b, off, none⟩) l.length cap)) (c1 : w.cell? ⟨bs, 1, none⟩ = some (.int .i64 (a : Int))) (hm : most ≤ 100000) (hle : a ≤ l.length) (hlim : l.length ≤ 140737488351232) (hcp : l.length ≤ cap) (hca : ¬ cap = a)
    (hhi : hi = a + m) (hlen : m = min most (l.length - a)) (L : List Nat) (HN : Hid (∀ w', Fr (fun _ => False) w w' → Calls Tryd.prog 72 #[.slice (some ⟨b, off + a, none⟩) m (cap - a)] w' (PartP w' L))) :
    Calls Tryd.prog 64 #[.pointer (some ⟨bs, 0, none⟩), .int .i64 (most : Int)] w (PartP w L) := by
  have HK : Hid (∀ w', Fr (fun _ => False) w w' → w'.cell? ⟨bs, 0, none⟩ = some (.slice (some ⟨b, off, none⟩) l.length cap) ∧ w'.cell? ⟨bs, 1, none⟩ = some (.int .i64 (a : Int))) := fun w' f => ⟨f.cell c0 (fun h => h), f.cell c1 (fun h => h)⟩
  have hmin : (if (l.length : Int) < (a : Int) + (most : Int) then (l.length : Int) else (a : Int) + (most : Int)) = (hi : Int) := by split <;> omega
  have hwr : IntKind.i64.wrap ((a : Int) + (most : Int)) = (a : Int) + (most : Int) := by rw [IntKind.wrap_i64]; omega
  have b1 : (0 : Int) ≤ (a : Int) := by omega
  have b2 : (a : Int) ≤ (hi : Int) := by omega
  have b3 : (hi : Int) ≤ (cap : Int) := by omega
  have b4 : (hi : Int) - (a : Int) = (m : Int) := by omega
  have b6 : a ≤ hi := by omega
  have b5 : hi - a = m := by omega
  clear hhi hlen
  go_enter Tryd.func64, Tryd.ntmps64
  go_wp2_with fail
  go_region_held3 (fun w' => w'.cell? ⟨bs, 0, none⟩ = some (.slice (some ⟨b, off, none⟩) l.length cap) ∧ w'.cell? ⟨bs, 1, none⟩ = some (.int .i64 (a : Int))) (first | exact HK.out _ ((Fr.refl _ _).drew) | exact HK.out _ (((Fr.refl _ _).drew).trans hf5 (fun _ _ h => h))) ((go_at_call 72; refine (HN.out _ ((Fr.refl _ _).drew)).mono ?_; rintro e w5 ⟨br, v, rfl, hr5, hf5, hb5, hv5⟩))
  go_wp2_with fail
  go_ret
  exact ⟨br, v, rfl, hr5, ((Fr.refl _ _).drew).trans hf5 (fun _ _ h => h), hb5, hv5⟩

set_option maxHeartbeats 2000000 in
theorem part_end (bs : Nat) (ao : Option Addr) (most a : Nat) (w : World) (c0 : w.cell? ⟨bs, 0, none⟩ = some (.slice ao a a)) (c1 : w.cell? ⟨bs, 1, none⟩ = some (.int .i64 (a : Int))) (hm : most ≤ 100000) (hlim : a ≤ 140737488351232)
    (hsp : ∀ z, ao = some z → True) (L : List Nat) (HN : Hid (∀ w', Fr (fun _ => False) w w' → Calls Tryd.prog 72 #[.slice ao 0 0] w' (PartP w' L))) (h1 : 1 ≤ most) (hno : ao = none → a = 0) :
    Calls Tryd.prog 64 #[.pointer (some ⟨bs, 0, none⟩), .int .i64 (most : Int)] w (PartP w L) := by
  have HK : Hid (∀ w', Fr (fun _ => False) w w' → w'.cell? ⟨bs, 0, none⟩ = some (.slice ao a a) ∧ w'.cell? ⟨bs, 1, none⟩ = some (.int .i64 (a : Int))) := fun w' f => ⟨f.cell c0 (fun h => h), f.cell c1 (fun h => h)⟩
  have hmin : (if (a : Int) < (a : Int) + (most : Int) then (a : Int) else (a : Int) + (most : Int)) = (a : Int) := by split <;> omega
  have hlt : (a : Int) < (a : Int) + (most : Int) := by omega
  have hwr : IntKind.i64.wrap ((a : Int) + (most : Int)) = (a : Int) + (most : Int) := by rw [IntKind.wrap_i64]; omega
  have b1 : (0 : Int) ≤ (a : Int) := by omega
  cases ao with
  | none =>
    obtain rfl := hno rfl
    have z1 : (0 : Int) < (most : Int) := by omega
    have z2 : IntKind.i64.wrap (most : Int) = (most : Int) := by rw [IntKind.wrap_i64]; omega
    have z3 : (if (0 : Int) < (most : Int) then (0 : Int) else (most : Int)) = 0 := if_pos z1
    have z4 : 0 < most := by omega
    have z5 : (if 0 < most then (0 : Int) else (most : Int)) = 0 := if_pos z4
    clear hmin hlt hwr b1
    go_enter Tryd.func64, Tryd.ntmps64
    go_wp2_with fail
    go_region_held3 (fun w' => w'.cell? ⟨bs, 0, none⟩ = some (.slice none 0 0) ∧ w'.cell? ⟨bs, 1, none⟩ = some (.int .i64 ((0 : Nat) : Int))) (first | exact HK.out _ ((Fr.refl _ _).drew) | exact HK.out _ (((Fr.refl _ _).drew).trans hf5 (fun _ _ h => h))) ((go_at_call 72; refine (HN.out _ ((Fr.refl _ _).drew)).mono ?_; rintro e w5 ⟨br, v, rfl, hr5, hf5, hb5, hv5⟩))
    go_wp2_with fail
    go_ret
    exact ⟨br, v, rfl, hr5, ((Fr.refl _ _).drew).trans hf5 (fun _ _ h => h), hb5, hv5⟩
  | some ad =>
    have z1 : (0 : Int) < (most : Int) := by omega
    have z4 : 0 < most := by omega
    have z3 : (if (0 : Int) < (most : Int) then (a : Int) else (a : Int) + (most : Int)) = (a : Int) := if_pos z1
    go_enter Tryd.func64, Tryd.ntmps64
    go_wp2_with fail
    go_region_held3 (fun w' => w'.cell? ⟨bs, 0, none⟩ = some (.slice (some ad) a a) ∧ w'.cell? ⟨bs, 1, none⟩ = some (.int .i64 (a : Int))) (first | exact HK.out _ ((Fr.refl _ _).drew) | exact HK.out _ (((Fr.refl _ _).drew).trans hf5 (fun _ _ h => h))) ((go_at_call 72; refine (HN.out _ ((Fr.refl _ _).drew)).mono ?_; rintro e w5 ⟨br, v, rfl, hr5, hf5, hb5, hv5⟩))
    go_wp2_with fail
    go_ret
    exact ⟨br, v, rfl, hr5, ((Fr.refl _ _).drew).trans hf5 (fun _ _ h => h), hb5, hv5⟩

theorem part_any (bs : Nat) (ao : Option Addr) (cap : Nat) (l : List Nat) (a most : Nat) (w : World) (h : SR w bs ao cap l a) (hm : most ≤ 100000) (h1 : 1 ≤ most) :
    Calls Tryd.prog 64 #[.pointer (some ⟨bs, 0, none⟩), .int .i64 (most : Int)] w (PartP w (pt l a most)) := by
  obtain ⟨c0, c1, cf⟩ := cell_of_two h.blk
  have hlen := length_pt l a most
  have hle := h.le
  have hlim := h.lim
  have hcp := h.cp
  have hpt := pt_lt a most h.byt
  by_cases hca : cap = a
  · obtain rfl : l.length = a := by omega
    obtain rfl := hca
    have hP : pt l l.length most = [] := List.eq_nil_of_length_eq_zero (by omega)
    rw [hP]
    refine part_end bs ao most l.length w c0 c1 hm hlim (fun _ _ => trivial) [] (fun w' f => newR_part ao 0 0 [] w' rfl (by omega) (fun h => absurd rfl h) (fun x hx => by cases hx) (fun _ => rfl)) h1 (fun e => ?_)
    have := h.nil e; omega
  · cases ao with
    | none => have := h.nil rfl; omega
    | some ad =>
      have hex : ∃ b off, ad = ⟨b, off, none⟩ := h.sp ad rfl (by omega)
      obtain ⟨b, off, rfl⟩ := hex
      refine part_mid bs b off cap l a most (pt l a most).length (a + (pt l a most).length) w c0 c1 hm hle hlim hcp hca rfl hlen (pt l a most) (fun w' f => newR_part _ _ _ _ w' rfl (by omega) (fun hL => ⟨b, off + a, rfl, fun j hj => ?_⟩) hpt (fun e => by cases e))
      have hl : l ≠ [] := fun e => hL (by rw [e]; simp [pt])
      obtain ⟨b', off', e, hc⟩ := h.seen hl
      cases e
      rw [pt_get l a most j (by omega), Nat.add_assoc]
      exact f.cell (hc (a + j) (by omega)) (fun h => h)
end Go.Proofs.YtamonbkhpbdojaaDoor
