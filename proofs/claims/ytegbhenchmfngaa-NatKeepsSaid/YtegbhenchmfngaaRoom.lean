/- The document's Room and Kept: a copy with spare room. -/
import Derived.Test.YtegbhenchmfngaaLawKit
import Derived.Test.YtegbhenchmfngaaRef4
import Derived.Laws.AppendOwnNone
namespace Go.Proofs.Ytegbhenchmfngaa
open Go.RowKit

theorem cellsOf_len (N n : Nat) : (cellsOf N n).length = n := by simp [cellsOf]
theorem cellsOf_one {N n : Nat} : ∀ u ∈ cellsOf N n, u.oneCell' = true := by
  intro u hu
  obtain ⟨j, _, rfl⟩ := List.mem_map.1 hu
  rfl
theorem news_nat {w : World} {A : Option Addr} {a : Addr} {n M : Nat} (h : IsNat w A n M) (e : A = some a) : ∀ j u, (cellsOf M n)[j]? = some u → w.cell? (a.add j) = some u := by
  intro j u hu
  rw [cellsOf_get] at hu
  by_cases hj : j < n
  · rw [if_pos hj] at hu
    obtain ⟨b, o, e', hc⟩ := h.2 (by omega)
    rw [e] at e'
    cases e'
    rw [add_off, hc j hj, hu]
  · rw [if_neg hj] at hu; cases hu
theorem news_two (w : World) (x y : Value) (t : TypeId) : ∀ j u, [x, y][j]? = some u → (w.alloc (.cells #[x, y] t)).cell? ((⟨w.heap.size, 0, none⟩ : Addr).add j) = some u := fun j u h => by
  match j, h with
  | 0, h =>
    have e : u = x := by simpa using h.symm
    subst e
    show (w.alloc (.cells #[u, y] t)).cell? ⟨w.heap.size, 0, none⟩ = some u
    rw [World.cell?_alloc_at _ _ _ _ rfl]; rfl
  | 1, h =>
    have e : u = y := by simpa using h.symm
    subst e
    show (w.alloc (.cells #[x, u] t)).cell? ⟨w.heap.size, 1, none⟩ = some u
    rw [World.cell?_alloc_at _ _ _ _ rfl]; rfl
  | j + 2, h => simp at h

/-- What Room answers: the same words, two marks behind them, in new memory. -/
def RoomPost (n M : Nat) (w : World) (e : Ending) (w' : World) : Prop :=
  ∃ g c, e = .returned (.slice (some ⟨g, 0, none⟩) n c) ∧ n + 2 ≤ c ∧ c ≤ 9223372036854775807 ∧ w.heap.size ≤ g ∧ IsNat w' (some ⟨g, 0, none⟩) n M ∧
    w'.cell? ⟨g, n, none⟩ = some (.int .u32 2779096485) ∧ w'.cell? ⟨g, n + 1, none⟩ = some (.int .u32 1515870810) ∧ Below w.heap.size w w'

theorem room_post {w w' : World} {n M : Nat} {v : Value} (hM : M < Nt.pw n) (h : w'.ownsRow w.heap.size 44 1 v (n + 2) (cellsOf M n ++ [.int .u32 2779096485, .int .u32 1515870810])) :
    ∃ g c, v = .slice (some ⟨g, 0, none⟩) (n + 2) c ∧ n + 2 ≤ c ∧ c ≤ 9223372036854775807 ∧ w.heap.size ≤ g ∧ IsNat w' (some ⟨g, 0, none⟩) n M ∧
      w'.cell? ⟨g, n, none⟩ = some (.int .u32 2779096485) ∧ w'.cell? ⟨g, n + 1, none⟩ = some (.int .u32 1515870810) := by
  obtain ⟨g, c, rfl, hg, hc1, hc2⟩ := own_some h (by omega)
  refine ⟨g, c, rfl, hc1, hc2, hg, ⟨hM, fun _ => ⟨g, 0, rfl, fun j hj => ?_⟩⟩, ?_, ?_⟩
  · rw [Nat.zero_add, h.cellAt j (by omega), List.getElem?_append_left (by rw [cellsOf_len]; exact hj), cellsOf_get, if_pos hj]
  · rw [h.cellAt n (by omega), List.getElem?_append_right (by rw [cellsOf_len]; exact Nat.le_refl _), cellsOf_len, Nat.sub_self]; rfl
  · rw [h.cellAt (n + 1) (by omega), List.getElem?_append_right (by rw [cellsOf_len]; omega), cellsOf_len, show n + 1 - n = 1 by omega]; rfl

set_option maxHeartbeats 1000000 in
theorem room_some (a : Addr) (n c M : Nat) (w : World) (hM : IsNat w (some a) n M) (hn : n ≤ 100000) :
    Calls Try.prog 39 #[.slice (some a) n c] w (RoomPost n M w) := by
  obtain ⟨i0, hi, hz0, hz1, hz2⟩ := info_parts info44
  have hMl := hM.1
  go_enter Try.func39, Try.ntmps39
  have hM1 := hM.alloc (.cells #[] 44)
  have hown := World.ownsRow_lit (base := w.heap.size) (e := 44) (size := 1) w #[] 0 (Nat.le_refl _) (by unfold maxLen; omega) rfl
  have hb : Below w.heap.size w (w.alloc (.cells #[] 44)) := (Below.refl _ _).alloc (Nat.le_refl _) _
  go_wp2_with (first | (at_builtin; refine wpList_append_own _ rfl (.tmp 4) (.tmp 5) _ rfl w.heap.size 44 i0 _ 1 4 Try.underlying23 hi hz0 hz1 hz2 rfl (by omega) _ 0 _ rfl hown a n c (cellsOf M n) rfl (by rw [cellsOf_len]; omega) (news_nat hM1 rfl) cellsOf_one (by unfold maxLen; omega) (by omega) (by simp) ?_; intro v1 w1 hown1 hg1 hnil1; rw [Nat.zero_add] at hown1; have hb1 := hb.grown hg1 (by simp) (fun x hx => (hown.lt x hx).1)) | (at_builtin; go_must (refine wpList_append_own _ rfl (.tmp 6) (.tmp 7) _ rfl w.heap.size 44 i0 _ 1 4 Try.underlying23 hi hz0 hz1 hz2 rfl (by omega) _ n _ rfl (hown1.alloc _) ⟨w1.heap.size, 0, none⟩ 2 2 [.int .u32 2779096485, .int .u32 1515870810] rfl rfl (news_two _ _ _ _) (by intro u hu; simp at hu; rcases hu with rfl | rfl <;> rfl) (by unfold maxLen; omega) (by omega) (by have := hb1.size; simp; omega) ?_); intro v2 w2 hown2 hg2 hnil2; have hb2 := (hb1.alloc hb1.size (.cells #[.int .u32 2779096485, .int .u32 1515870810] 44)).grown hg2 (by have := hb1.size; simp; omega) (fun x hx => (hown1.lt x hx).1); obtain ⟨g, c', rfl, p1, p2, p3, p4, p5, p6⟩ := room_post (w := w) (n := n) (M := M) hMl hown2))
  go_ret
  exact ⟨g, c', rfl, p1, p2, p3, p4, p5, p6, hb2⟩

set_option maxHeartbeats 1000000 in
theorem room_none (w : World) (M : Nat) (hMl : M < Nt.pw 0) :
    Calls Try.prog 39 #[.slice none 0 0] w (RoomPost 0 M w) := by
  obtain ⟨i0, hi, hz0, hz1, hz2⟩ := info_parts info44
  go_enter Try.func39, Try.ntmps39
  have hown := World.ownsRow_lit (base := w.heap.size) (e := 44) (size := 1) w #[] 0 (Nat.le_refl _) (by unfold maxLen; omega) rfl
  have hb1 : Below w.heap.size w (w.alloc (.cells #[] 44)) := (Below.refl _ _).alloc (Nat.le_refl _) _
  go_wp2_with (at_builtin; (refine wpList_append_own _ rfl (.tmp 6) (.tmp 7) _ rfl w.heap.size 44 i0 _ 1 4 Try.underlying23 hi hz0 hz1 hz2 rfl (by omega) _ 0 _ rfl (hown.alloc _) ⟨w.heap.size + 1, 0, none⟩ 2 2 [.int .u32 2779096485, .int .u32 1515870810] rfl rfl (by simpa using news_two (w.alloc (.cells #[] 44)) (.int .u32 2779096485) (.int .u32 1515870810) 44) (by intro u hu; simp at hu; rcases hu with rfl | rfl <;> rfl) (by unfold maxLen; omega) (by omega) (by have := hb1.size; simp; omega) ?_); intro v2 w2 hown2 hg2 hnil2; have hb2 := (hb1.alloc hb1.size (.cells #[.int .u32 2779096485, .int .u32 1515870810] 44)).grown hg2 (by have := hb1.size; simp; omega) (fun x hx => (hown.lt x hx).1); obtain ⟨g, c', rfl, p1, p2, p3, p4, p5, p6⟩ := room_post (w := w) (n := 0) (M := M) hMl hown2)
  go_ret
  exact ⟨g, c', rfl, p1, p2, p3, p4, p5, p6, hb2⟩

theorem room_any (A : Option Addr) (n c M : Nat) (w : World) (hM : IsNat w A n M) (hA : A = none → n = 0 ∧ c = 0) (hn : n ≤ 100000) :
    Calls Try.prog 39 #[.slice A n c] w (RoomPost n M w) := by
  cases A with
  | none =>
    obtain ⟨rfl, rfl⟩ := hA rfl
    exact room_none w M hM.1
  | some a => exact room_some a n c M w hM hn
end Go.Proofs.Ytegbhenchmfngaa
