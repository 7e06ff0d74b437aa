/- OctetCuts: of a form that is cut more bytes are asked for; a number above the most is refused. -/
import Derived.Test.YtbpbokdomdmclaaOUnlike
namespace Go.Proofs.Ytbpbokdomdmclaa
open Go.RowKit

theorem numS_cut {x j : Nat} (h : j < (leb x).length) : numS x ((leb x).take j, 0) = (0, ((leb x).take j, 4)) := by
  have hs : scan ((leb x).take j) x = (0, 0, 4) := by
    refine scan_cut (fun ⟨n, hn⟩ => ?_) ⟨x, Nat.le_refl _, List.take_prefix _ _⟩
    have h1 : n = x := found_one (b := leb x) (most := x) ⟨hn.1, hn.2.trans (List.take_prefix _ _)⟩ ⟨Nat.le_refl _, List.prefix_refl _⟩
    have h2 := hn.2.length_le
    rw [h1, List.length_take] at h2
    omega
  unfold numS nextS
  rw [if_neg (by omega), if_neg (by simp), Int.toNat_natCast, hs]
  simp
theorem numS_less {x l : Nat} (h : l < x) : numS l (leb x, 0) = (0, (leb x, 3)) := by
  have hs : scan (leb x) l = (0, 0, 3) := by
    refine scan_none fun n hn ht => ?_
    have h1 : n = x := by
      rcases ht with ht | ht
      · exact found_one (b := leb x) (most := x) ⟨by omega, ht⟩ ⟨Nat.le_refl _, List.prefix_refl _⟩
      · exact found_one (b := leb n) (most := n + x) ⟨by omega, List.prefix_refl _⟩ ⟨by omega, ht⟩
    omega
  unfold numS nextS
  rw [if_neg (by omega), if_neg (by simp), Int.toNat_natCast, hs]
  simp
theorem leb_bytes (x : Nat) : Bytes (leb x) := leb_byte x
theorem bytes_take {b : List Nat} (h : Bytes b) (k : Nat) : Bytes (b.take k) := fun x hx => h x (List.mem_of_mem_take hx)

set_option maxHeartbeats 4000000 in
theorem cuts_any (n k m : Int) (w : World) (n1 : -9223372036854775808 ≤ n) (n2 : n ≤ 9223372036854775807) (k1 : 0 ≤ k) (k2 : k ≤ 255) (m1 : -9223372036854775808 ≤ m) (m2 : m ≤ 9223372036854775807) :
    Calls Try.prog 7 #[.int .i64 n, .int .u8 k, .int .i64 m] w fun e w' => e = .returned (.bool true) ∧ Below w.heap.size w w' := by
  by_cases hn0 : n < 0
  · go_enter Try.func7, Try.ntmps7
    go_wp2_with fail
    refine (awake_any _).mono ?_
    rintro e w0 ⟨rfl, hb0⟩
    go_wp2_with fail
    go_ret
    exact ⟨rfl, hb0⟩
  · obtain ⟨x, rfl⟩ : ∃ x : Nat, n = x := ⟨n.toNat, by omega⟩
    obtain ⟨q, rfl⟩ : ∃ q : Nat, k = q := ⟨k.toNat, by omega⟩
    obtain ⟨px, hpx⟩ : ∃ k, (leb x).length = k := ⟨_, rfl⟩
    have p1 : 1 ≤ px := by rw [← hpx]; exact leb_pos x
    have p2 : px ≤ 10 := by rw [← hpx]; exact leb_ten (by omega)
    obtain ⟨j, hj⟩ : ∃ j, j = q % px := ⟨_, rfl⟩
    have hjp : j < px := by rw [hj]; exact Nat.mod_lt _ (by omega)
    have hji : (q : Int) % (px : Int) = (j : Int) := by rw [hj]; norm_cast
    have HP1 := Lib.hid fun w B hB => put_one x px w B (by omega) hB hpx
    have HC1 := Lib.hid (numS_cut (x := x) (j := j) (by omega))
    have HTL : Hid (((leb x).take j).length = j) := by show _ = _; rw [List.length_take]; omega
    have HPX := Lib.hid hpx
    clear hj hpx
    go_enter Try.func7, Try.ntmps7
    go_wp2_with fail
    refine (awake_any _).mono ?_
    rintro e w0 ⟨rfl, hb0⟩
    go_wp2_with fail
    have g1 := holds_at w0 #[.int .i64 x] 3 (intsV [(x : Int)]) rfl
    have b1 := below_alloc hb0 (.cells #[.int .i64 x] 3)
    ((with_reducible refine (HP1.out _ _ g1).mono ?_); rintro e w1 ⟨A1, c1, rfl, ho1, hs1, gb⟩)
    have b2 := below_step b1 gb
    have x1 := own_holds ho1
    have ac1 : px ≤ c1 := hs1.1
    have ac2 : c1 ≤ 9223372036854775807 := hs1.2.1
    have hsj : Slice A1 j c1 := ⟨by omega, ac2, fun h => by have := hs1.2.2 h; omega⟩
    have HSJ := Lib.hid hsj
    have HS1 := Lib.hid hs1
    clear hb0 b1 gb g1 ho1 hsj hs1
    go_wp2_with fail
    refine (new_n A1 j c1 ((leb x).take j) _ HTL.out HSJ.out (x1.take_ j) (by omega) (bytes_take (leb_bytes x) j)).mono ?_
    rintro e w2 ⟨g, rfl, hg, hR, gb⟩
    have b3 := below_step b2 gb
    have hgw : w.heap.size ≤ g := by have := b2.size; omega
    clear b2
    go_wp2_with fail
    refine (onum_known _ g x _ 0 _ HC1.out _ hR (by omega) (by omega)).mono ?_
    rintro e w3 ⟨rfl, hR3, hT3⟩
    have b4 := hT3.below b3 b3.size hgw
    have x3 := x1.below (hT3.below gb gb.size hg)
    clear b3 hT3 x1 gb hR
    go_wp2_with fail
    refine (oerr_any _ g _ _ hR3).mono ?_
    rintro e w' ⟨rfl, rfl⟩
    by_cases hm0 : m < 0
    · go_wp2_with fail
      go_ret
      exact ⟨rfl, b4⟩
    · by_cases hmx : (x : Int) ≤ m
      · go_wp2_with fail
        go_ret
        exact ⟨rfl, b4⟩
      · obtain ⟨l, rfl⟩ : ∃ l : Nat, m = l := ⟨m.toNat, by omega⟩
        have HC2 := Lib.hid (numS_less (x := x) (l := l) (by omega))
        go_wp2_with fail
        refine (new_n A1 px c1 (leb x) _ HPX.out HS1.out x3 (by omega) (leb_bytes x)).mono ?_
        rintro e w4 ⟨g', rfl, hg', hR4, gb⟩
        have b5 := below_step b4 gb
        have hgw' : w.heap.size ≤ g' := by have := b4.size; omega
        clear b4 gb x3
        go_wp2_with fail
        refine (onum_known _ g' l _ 0 _ HC2.out _ hR4 (by omega) (by omega)).mono ?_
        rintro e w5 ⟨rfl, hR5, hT5⟩
        have b6 := hT5.below b5 b5.size hgw'
        have HL := Lib.hid (oleft_any _ g' _ _ hR5)
        simp only at HL
        rw [HPX.out] at HL
        clear b5 hT5 hR4
        go_wp2_with fail
        refine (oerr_any _ g' _ _ hR5).mono ?_
        rintro e w' ⟨rfl, rfl⟩
        go_wp2_with fail
        refine (HL.out).mono ?_
        rintro e w' ⟨rfl, rfl⟩
        go_wp2_with fail
        go_ret
        exact ⟨rfl, b6⟩
end Go.Proofs.Ytbpbokdomdmclaa
