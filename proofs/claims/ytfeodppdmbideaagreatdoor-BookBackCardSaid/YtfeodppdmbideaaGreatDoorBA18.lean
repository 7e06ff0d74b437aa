/- The way to the laws of books: ODevRow to ORefRead. -/
import Derived.Test.YtfeodppdmbideaaGreatDoorBA17
import Derived.Laws.ShiftsVar
import Derived.IntWalk
namespace Go.Proofs.YtfeodppdmbideaaGreatDoor
open Go.RowKit

theorem lebs_cons (x : Int) (l : List Int) : lebs (x :: l) = leb x.toNat ++ lebs l := by unfold lebs; rw [List.flatMap_cons]
theorem flatT_mem {t : List Node3} {x : Node3} (h : x ∈ t) : x.1 ∈ flatT t ∧ x.2.1 ∈ flatT t ∧ x.2.2 ∈ flatT t := by
  unfold flatT
  exact ⟨List.mem_flatMap.2 ⟨x, h, by simp⟩, List.mem_flatMap.2 ⟨x, h, by simp⟩, List.mem_flatMap.2 ⟨x, h, by simp⟩⟩
/-- A node that is not too great. -/
def NodeLow (x : Node3) : Prop := x.1 ≤ 255 ∧ x.2.1 ≤ 1048576 ∧ x.2.2 ≤ 1048576
/-- A row's Put is the row's form. -/
theorem row_of_put {b : List Nat} {t : List Node3} {w w1 : World} {e : Ending} {w' : World} (h : t.length ≤ 4096) (hlow : ∀ x ∈ t, NodeLow x) (hw : Below w.heap.size w w1)
    (hp : OPutPost b ((t.length : Int) :: flatT t) w1 e w') : RowPost b t w e w' := by
  have eb : b ++ lebs ((t.length : Int) :: flatT t) = b ++ lebT t := by rw [lebs_cons]; rfl
  rcases hp with ⟨hall, A, c, he, hown, hs, hb⟩ | ⟨hno, he, hb⟩
  · rw [eb] at he hown hs
    refine .inr (.inl ⟨h, fun x hx => ?_, A, c, he, own_base hown hw.size, hs, below_step hw hb⟩)
    have h1 := flatT_mem hx
    have h2 := hlow x hx
    exact ⟨⟨hall _ (List.mem_cons_of_mem _ h1.1), h2.1⟩, ⟨hall _ (List.mem_cons_of_mem _ h1.2.1), h2.2.1⟩, hall _ (List.mem_cons_of_mem _ h1.2.2), h2.2.2⟩
  · refine .inr (.inr ⟨h, fun hok => hno fun x hx => ?_, he, below_step hw hb⟩)
    rcases List.mem_cons.1 hx with rfl | hx
    · exact Int.natCast_nonneg _
    · obtain ⟨y, hy, hx⟩ := List.mem_flatMap.1 hx
      have h3 := hok y hy
      simp only [List.mem_cons, List.not_mem_nil, or_false] at hx
      rcases hx with rfl | rfl | rfl
      · exact h3.1.1
      · exact h3.2.1.1
      · exact h3.2.2.1
theorem orow_big (A B : Option Addr) (c d : Nat) (b : List Nat) (t : List Node3) (w : World) (h : 4096 < t.length) :
    Calls Tryz.prog 154 #[.slice A b.length c, .slice B t.length d] w (RowPost b t w) := by
  have h1 : (4096 : Int) < (t.length : Int) := by omega
  go_enter Tryz.func154, Tryz.ntmps154
  go_wp2_with fail
  go_ret2
  exact .inl ⟨h, rfl, Below.refl _ _⟩

set_option maxHeartbeats 2000000 in
theorem orow_some (A B : Option Addr) (c d : Nat) (b : List Nat) (t : List Node3) (w : World) (hs : Slice A b.length c) (hA : Holds w A (bytesV b)) (hB : Holds w B (nodesV t)) (hl : WideT t)
    (hb1 : b.length ≤ 1000000) (h : t.length ≤ 4096) :
    Calls Tryz.prog 154 #[.slice A b.length c, .slice B t.length d] w (RowPost b t w) := by
  have h1 : ¬ (4096 : Int) < (t.length : Int) := by omega
  have HW := Lib.hid hl
  clear hl
  obtain ⟨L, hL⟩ : ∃ L, L = t.length := ⟨_, rfl⟩
  rw [← hL] at h h1 ⊢
  have HL := Lib.hid hL
  clear hL
  go_enter Tryz.func154, Tryz.ntmps154
  have hlit := World.ownsRow_lit (base := w.heap.size) (e := 3) (size := 1) w #[.int .i64 L] 1 (Nat.le_refl _) (by unfold maxLen; omega) rfl
  have hb0 : Below w.heap.size w (w.alloc (.cells #[.int .i64 L] 3)) := (Below.refl _ _).alloc (Nat.le_refl _) _
  go_wp2_with fail
  go_loopw [6, 17] (fun v i wr => ∃ k : Nat, i = .int .i64 k ∧ k ≤ L ∧ Hid (∀ j (h : j < t.length), j < k → NodeLow t[j]) ∧
    wr.ownsRow w.heap.size 3 1 v (1 + 3 * k) (intsV ((L : Int) :: flatT (t.take k))) ∧ Below w.heap.size w wr) (fun _ i _ => L - (intOf i).toNat)
  case atStart => exact ⟨0, rfl, Nat.zero_le _, fun j _ h => absurd h (by omega), by simpa [intsV, flatT] using hlit, hb0⟩
  case round =>
    clear hlit hb0
    obtain ⟨k, rfl, hk, HP, hown, hb⟩ := hrel
    by_cases hlt : k < L
    · have hltt : k < t.length := by have := HL.out; omega
      obtain ⟨g, o, rfl, hc⟩ := (hB.below hb) (by rw [nodesV_len]; omega)
      have s0 := hc (k * 3) _ (nodesV_get0 hltt)
      have s1 := hc (k * 3 + 1) _ (nodesV_get1 hltt)
      have s2 := hc (k * 3 + 2) _ (nodesV_get2 hltt)
      rw [← Nat.add_assoc] at s1 s2
      have hft := flatT_take hltt
      have hwd := HW.out _ (List.getElem_mem hltt)
      have hmem := List.getElem_mem hltt
      have hok : NodeLow t[k] → Hid (∀ j (h : j < t.length), j < k + 1 → NodeLow t[j]) := fun hx j h hj => by
        by_cases e : j = k
        · subst e; exact hx
        · exact HP.out j h (by omega)
      have hno : ¬ NodeLow t[k] → Hid (¬ ∀ x ∈ t, ONodeOk x) := fun hx h => hx ⟨(h _ hmem).1.2, (h _ hmem).2.1.2, (h _ hmem).2.2.2⟩
      generalize t[k] = x at *
      obtain ⟨p, q, r⟩ := x
      simp only at s0 s1 s2 hft hwd
      have HFT := Lib.hid hft
      have HOK := Lib.hid hok
      have HNO := Lib.hid hno
      have HH : Hid (t.length ≤ 4096) := by have := HL.out; show _ ≤ _; omega
      clear hft hok hno hmem hc hltt
      by_cases x1 : 255 < p
      · have hno := HNO.out fun h => by have := h.1; simp only at this; omega
        go_wp2_with fail
        go_ret2
        exact .inr (.inr ⟨HH.out, hno.out, rfl, below_alloc hb _⟩)
      by_cases x2 : 1048576 < q
      · have hno := HNO.out fun h => by have := h.2.1; simp only at this; omega
        go_wp2_with fail
        go_ret2
        exact .inr (.inr ⟨HH.out, hno.out, rfl, below_alloc hb _⟩)
      by_cases x3 : 1048576 < r
      · have hno := HNO.out fun h => by have := h.2.2; simp only at this; omega
        go_wp2_with fail
        go_ret2
        exact .inr (.inr ⟨HH.out, hno.out, rfl, below_alloc hb _⟩)
      have hq := HOK.out ⟨by simp only; omega, by simp only; omega, by simp only; omega⟩
      have hold := holds_lit (wr.alloc (.cells #[.int .i64 p, .int .i64 q, .int .i64 r] 67)) (intsV [p, q, r]) 3
      have hb2 := below_alloc (below_alloc hb (.cells #[.int .i64 p, .int .i64 q, .int .i64 r] 67)) (.cells #[.int .i64 p, .int .i64 q, .int .i64 r] 3)
      have HB2 := Lib.hid hb2
      rw [show (wr.alloc (.cells #[.int .i64 p, .int .i64 q, .int .i64 r] 67)).heap.size = wr.heap.size + 1 by simp] at hold
      have HOLD := Lib.hid hold
      have HOWN := Lib.hid ((hown.alloc (.cells #[.int .i64 p, .int .i64 q, .int .i64 r] 67)).alloc (.cells #[.int .i64 p, .int .i64 q, .int .i64 r] 3))
      clear hold hown hb hb2
      go_wp2_with (at_builtin; go_must (refine wpList_append_cells rfl (.tmp 34) (.tmp 41) _ rfl 3 (.int .i64 0) 1 8 infoInt rfl (by decide) Tryz.underlying131 w.heap.size _ (1 + 3 * k) 3 _ (intsV [p, q, r]) rfl HOWN.out (some ⟨wr.heap.size + 1, 0, none⟩) 3 rfl ⟨by omega, by omega, fun h => (by cases h)⟩ HOLD.out rfl intsV_one (by omega) (by omega) w HB2.out HB2.out.size ?_); intro A3 c3 w3 hown3 hs3 hb3 hz3 _)
      go_roundw
      case rel => exact ⟨k + 1, by go_num, by omega, hq, by rw [HFT.out]; simpa [intsV, Nat.mul_add, Nat.add_assoc] using hown3, hb3⟩
      case measure => simp [intOf] <;> omega
    · have hk' : k = L := by omega
      subst hk'
      have hlow : ∀ x ∈ t, NodeLow x := fun x hx => by
        obtain ⟨j, hj, rfl⟩ := List.mem_iff_getElem.1 hx
        exact HP.out j hj (by have := HL.out; omega)
      have e1 : ((k : Int) :: flatT (t.take k)) = (t.length : Int) :: flatT t := by rw [HL.out, List.take_length]
      have e2 : 1 + 3 * k = ((t.length : Int) :: flatT t).length := by rw [List.length_cons, flatT_len, HL.out]; omega
      rw [e1, e2] at hown
      obtain ⟨A3, c3, rfl, hs3, _⟩ := own_slice hown
      have hwl : Wide ((t.length : Int) :: flatT t) := fun y hy => by
        rcases List.mem_cons.1 hy with rfl | hy
        · have := HL.out; omega
        · exact wide_flat HW.out y hy
      have HPUT := Lib.hid (oput_any A A3 c c3 b ((t.length : Int) :: flatT t) wr hs (hA.below hb) (own_holds hown) hwl hb1 (by rw [← e2]; omega))
      have HROW := Lib.hid fun e w' (hp : OPutPost b ((t.length : Int) :: flatT t) wr e w') => row_of_put (by have := HL.out; omega) hlow hb hp
      generalize ((t.length : Int) :: flatT t).length = n at *
      clear e1 e2 hlow hwl hown
      go_wp2_with fail
      refine (HPUT.out).mono ?_
      intro e w' hp
      have hr := Lib.hid (HROW.out e w' hp)
      have hres : ∃ v f, e = .returned (.tuple #[v, f]) := by
        rcases hp with ⟨_, A, c, he, _⟩ | ⟨_, he, _⟩ <;> exact ⟨_, _, he⟩
      obtain ⟨v, f, rfl⟩ := hres
      clear hp HROW HPUT
      go_wp2_with fail
      go_ret2
      exact hr.out
theorem orow_any (A B : Option Addr) (c d : Nat) (b : List Nat) (t : List Node3) (w : World) (hs : Slice A b.length c) (hA : Holds w A (bytesV b)) (hB : Holds w B (nodesV t)) (hl : WideT t) (hb1 : b.length ≤ 1000000) :
    Calls Tryz.prog 154 #[.slice A b.length c, .slice B t.length d] w (RowPost b t w) := by
  rcases Nat.lt_or_ge 4096 t.length with h | h
  · exact orow_big A B c d b t w h
  · exact orow_some A B c d b t w hs hA hB hl hb1 h
end Go.Proofs.YtfeodppdmbideaaGreatDoor
namespace Go.Proofs.YtfeodppdmbideaaGreatDoor
open Go.RowKit

theorem u64_wrap_nat (n : Nat) : IntKind.u64.wrap (n : Int) = ((n % 18446744073709551616 : Nat) : Int) := by
  show (n : Int) % (2 ^ 64 : Int) = _
  norm_cast
theorem or_shift {a y b : Nat} (hy : y < 2 ^ b) : y ||| a * 2 ^ b = a * 2 ^ b + y := by
  have h := Nat.shiftLeft_add_eq_or_of_lt (a := a) (b := y) (i := b) hy
  rw [Nat.shiftLeft_eq] at h
  rw [Nat.or_comm, ← h]
/-- One byte more: what the round reckons. -/
theorem parse_step (k y V : Nat) (hk : k ≤ 9) (hV : V < 128 ^ k) : ∃ z u q : Nat, IntKind.u64.wrap ((y : Int) * 2 ^ (k * 7)) = (z : Int) ∧ bits .or .u64 (V : Int) (z : Int) = (u : Int) ∧ (u : Int) / 2 ^ (k * 7) = (q : Int) ∧
    ((q = y ∧ u = V + y * 128 ^ k) ∨ (q ≠ y ∧ 18446744073709551616 ≤ V + y * 128 ^ k)) := by
  have e128 : 128 ^ k = 2 ^ (k * 7) := by rw [show 128 = 2 ^ 7 from rfl, ← Nat.pow_mul, Nat.mul_comm]
  rw [e128] at hV ⊢
  have hb : k * 7 ≤ 63 := by omega
  generalize k * 7 = b at *
  have h64 : 18446744073709551616 = 2 ^ (64 - b) * 2 ^ b := by rw [← Nat.pow_add, show 64 - b + b = 64 by omega]
  have hpb : 0 < 2 ^ b := Nat.two_pow_pos b
  have hz : y * 2 ^ b % 18446744073709551616 = y % 2 ^ (64 - b) * 2 ^ b := by rw [h64, Nat.mul_mod_mul_right]
  have hzl : y % 2 ^ (64 - b) * 2 ^ b + V < 18446744073709551616 := by
    have h1 : y % 2 ^ (64 - b) < 2 ^ (64 - b) := Nat.mod_lt _ (Nat.two_pow_pos _)
    have h2 : (y % 2 ^ (64 - b) + 1) * 2 ^ b ≤ 2 ^ (64 - b) * 2 ^ b := Nat.mul_le_mul_right _ h1
    rw [Nat.add_mul, Nat.one_mul, ← h64] at h2
    omega
  have hor := u64_or_nat V (y % 2 ^ (64 - b) * 2 ^ b) (by omega) (by omega)
  rw [or_shift hV] at hor
  refine ⟨y % 2 ^ (64 - b) * 2 ^ b, y % 2 ^ (64 - b) * 2 ^ b + V, y % 2 ^ (64 - b), ?_, hor, ?_, ?_⟩
  · rw [← hz, ← u64_wrap_nat]
    norm_cast
  · have : (y % 2 ^ (64 - b) * 2 ^ b + V) / 2 ^ b = y % 2 ^ (64 - b) := by
      rw [Nat.add_comm, Nat.add_mul_div_right _ _ hpb, Nat.div_eq_of_lt hV, Nat.zero_add]
    exact_mod_cast this
  · rcases Nat.lt_or_ge y (2 ^ (64 - b)) with h | h
    · rw [Nat.mod_eq_of_lt h]
      exact .inl ⟨rfl, by omega⟩
    · refine .inr ⟨fun e => ?_, ?_⟩
      · have := Nat.mod_lt y (Nat.two_pow_pos (64 - b))
        omega
      · have := Nat.mul_le_mul_right (2 ^ b) h
        omega
theorem val_take {b : List Nat} {k : Nat} (h : k < b.length) : val (b.take (k + 1)) = val (b.take k) + b[k] % 128 * 128 ^ k := by
  rw [List.take_succ_eq_append_getElem h, val_append, List.length_take, show min k b.length = k by omega]
  simp only [val]
  rw [Nat.mul_zero, Nat.add_zero, Nat.mul_comm]
theorem val_take_lt (b : List Nat) (k : Nat) : val (b.take k) < 128 ^ k :=
  Nat.lt_of_lt_of_le (val_lt _) (Nat.pow_le_pow_right (by decide) (by rw [List.length_take]; omega))

theorem least_zero (w : World) : Calls Tryz.prog 203 #[.int .u64 0, .int .i64 0] w fun e w' => e = .returned (.int .u64 0) ∧ w = w' := by
  go_enter Tryz.func203, Tryz.ntmps203
  go_wp2_with fail
  go_ret
  exact ⟨rfl, rfl⟩
theorem least_some (V k : Nat) (w : World) (h0 : 0 < k) (hk : k ≤ 9) (hV : V < 128 ^ k) : Calls Tryz.prog 203 #[.int .u64 V, .int .i64 k] w fun e w' => e = .returned (.int .u64 (V + 128 ^ k : Nat)) ∧ w = w' := by
  have e128 : 128 ^ k = 2 ^ (k * 7) := by rw [show 128 = 2 ^ 7 from rfl, ← Nat.pow_mul, Nat.mul_comm]
  have hle : 2 ^ (k * 7) ≤ 2 ^ 63 := Nat.pow_le_pow_right (by decide) (by omega)
  obtain ⟨P, hP⟩ : ∃ P, P = 2 ^ (k * 7) := ⟨_, rfl⟩
  have hPi : IntKind.u64.wrap ((2 : Int) ^ (k * 7)) = (P : Int) := by
    rw [show (2 : Int) ^ (k * 7) = ((2 ^ (k * 7) : Nat) : Int) by norm_cast, ← hP, u64_wrap_nat, Nat.mod_eq_of_lt (by rw [hP]; omega)]
  rw [e128] at hV ⊢
  rw [← hP] at hV hle ⊢
  have hs : IntKind.u64.wrap ((V : Int) + (P : Int)) = ((V + P : Nat) : Int) := by
    rw [← Int.natCast_add, u64_wrap_nat, Nat.mod_eq_of_lt (by omega)]
  have hk0 : ((k : Int) == 0) = false := by simp; omega
  have HP := Lib.hid hP
  have hl : P ≤ 9223372036854775808 := hle
  clear hP e128 hle
  go_enter Tryz.func203, Tryz.ntmps203
  go_wp2_with fail
  go_ret
  exact ⟨rfl, rfl⟩

set_option maxRecDepth 100000 in
set_option maxHeartbeats 4000000 in
theorem parse_any (A : Option Addr) (c : Nat) (b : List Nat) (most : Nat) (w : World) (hA : Holds w A (bytesV b)) (hb : Bytes b) (hl : b.length ≤ 1000000000) (hm : most < 18446744073709551616) :
    Calls Tryz.prog 201 #[.slice A b.length c, .int .u64 most] w fun e w' => e = .returned (.tuple #[.int .u64 (scan b most).1, .int .i64 (scan b most).2.1, .int .i64 (scan b most).2.2]) ∧ w = w' := by
  obtain ⟨L, hL⟩ : ∃ L, L = b.length := ⟨_, rfl⟩
  obtain ⟨K, hK⟩ : ∃ K, K = min L 10 := ⟨_, rfl⟩
  rw [← hL] at hl ⊢
  have HL := Lib.hid hL
  have HM := Lib.hid hm
  have HBy := Lib.hid hb
  have HK := Lib.hid hK
  have hKL : K ≤ L := by omega
  have hKt : K ≤ 10 := by omega
  clear hL hm hb hK
  go_enter Tryz.func201, Tryz.ntmps201
  go_wp2_with fail
  all_goals
    go_loop [7, 13] (fun v i => ∃ k : Nat, i = .int .i64 k ∧ k ≤ K ∧ Hid (∀ j (h : j < b.length), j < k → 128 ≤ b[j]) ∧ ∃ V : Nat, v = .int .u64 V ∧ Hid (V = val (b.take k))) (fun _ i => K - (intOf i).toNat)
    case atStart => exact ⟨0, rfl, Nat.zero_le _, fun j _ h => absurd h (by omega), 0, rfl, rfl⟩
    case round =>
      obtain ⟨k, rfl, hk, HB, V, rfl, HV⟩ := hrel
      by_cases hlt : k < K
      · have hkl : k < b.length := by have := HL.out; omega
        have hkL : k < L := by omega
        have hkt : k < 10 := by omega
        obtain ⟨g, o, rfl, hc⟩ := hA (by rw [bytesV_len]; omega)
        have h1 := hc k _ (bytesV_get hkl)
        have hx := HBy.out _ (List.getElem_mem hkl)
        have hvt := val_take hkl
        have hvl := val_take_lt b k
        rw [← HV.out] at hvt hvl
        have HVT := Lib.hid hvt
        have HVL := Lib.hid hvl
        obtain ⟨y, hy⟩ : ∃ y, y = b[k] % 128 := ⟨_, rfl⟩
        have HY := Lib.hid hy
        obtain ⟨x, hxx⟩ : ∃ x, x = b[k] := ⟨_, rfl⟩
        rw [← hxx] at h1 hx
        have hxi : (x : Int) % 128 = (y : Int) := by omega
        have HX := Lib.hid hxx
        have hyb : y < 128 := by omega
        clear hc hvt hvl hy hxx
        obtain ⟨z, u, q, e1, e2, e3, hcase⟩ := parse_step k y V (by omega) HVL.out
        have HCASE := Lib.hid hcase
        clear hcase
        by_cases hqy : q = y
        · have hu : Hid (u = val (b.take (k + 1))) := by
            rcases HCASE.out with ⟨_, h⟩ | ⟨h, _⟩
            · have e := HVT.out; rw [← HY.out] at e; rw [e]; exact h
            · exact absurd hqy h
          subst hqy
          have t1 : ((q : Int) != (q : Int)) = false := by simp
          by_cases hx8 : 128 ≤ x
          · have hB1 : Hid (∀ j (h : j < b.length), j < k + 1 → 128 ≤ b[j]) := fun j h hj => by
              by_cases e : j = k
              · subst e; rw [← HX.out]; exact hx8
              · exact HB.out j h (by omega)
            have t2 : (128 : Int) ≤ (x : Int) := by omega
            go_wp2_with fail
            go_round
            case rel => exact ⟨k + 1, by go_num, by omega, hB1, u, rfl, hu⟩
            case measure => simp [intOf] <;> omega
          · have t2 : ¬ (128 : Int) ≤ (x : Int) := by omega
            have hqx : q = x := by omega
            subst hqx
            by_cases hbig : most < u
            · have t3 : (most : Int) < (u : Int) := by omega
              have hsc := Lib.hid (scan_great (most := most) HB.out (by rw [← hu.out]; exact hbig))
              go_wp2_with fail
              rw [hsc.out]
              go_ret3
              exact ⟨rfl, rfl⟩
            · have t3 : ¬ (most : Int) < (u : Int) := by omega
              by_cases h0 : q = 0
              · have t6 : ((q : Int) == 0) = true := by simp; omega
                have H0 := Lib.hid h0
                clear h0
                by_cases hk0 : 0 < k
                · have t4 : (0 : Int) < (k : Int) := by omega
                  have hsc := Lib.hid (scan_bad (most := most) HB.out hkl (by rw [← HX.out]; exact H0.out) hk0)
                  go_wp2_with fail
                  rw [hsc.out]
                  go_ret3
                  exact ⟨rfl, rfl⟩
                · have t4 : ¬ (0 : Int) < (k : Int) := by omega
                  have hsc := Lib.hid (scan_ok (most := most) HBy.out HB.out hkl (by rw [← HX.out]; have := H0.out; omega) (fun h => absurd h hk0) (by rw [← hu.out]; omega))
                  go_wp2_with fail
                  rw [hsc.out, ← hu.out]
                  go_ret3
                  exact ⟨rfl, rfl⟩
              · have t4 : ((q : Int) == 0) = false := by simp; omega
                have hsc := Lib.hid (scan_ok (most := most) HBy.out HB.out hkl (by rw [← HX.out]; omega) (fun _ => by rw [← HX.out]; exact h0) (by rw [← hu.out]; omega))
                go_wp2_with fail
                rw [hsc.out, ← hu.out]
                go_ret3
                exact ⟨rfl, rfl⟩
        · have t1 : ((q : Int) != (y : Int)) = true := by simp; omega
          have hsc := Lib.hid (scan_great (most := most) HB.out (by
            rcases HCASE.out with ⟨h, _⟩ | ⟨_, h⟩
            · exact absurd h hqy
            · have e := HVT.out; rw [← HY.out] at e; rw [e]; exact Nat.lt_of_lt_of_le HM.out h))
          go_wp2_with fail
          rw [hsc.out]
          go_ret3
          exact ⟨rfl, rfl⟩
      · obtain rfl : k = K := by omega
        by_cases hL10 : L < 10
        · first
            | (exfalso; omega)
            | (skip
               obtain rfl : k = L := by have := HK.out; omega
               have hall : ∀ x ∈ b, 128 ≤ x := fun x hx => by
                 obtain ⟨j, hj, rfl⟩ := List.mem_iff_getElem.1 hx
                 exact HB.out j hj (by have := HL.out; omega)
               have hV : V = val b := by rw [HV.out, HL.out, List.take_length]
               by_cases hk0 : k = 0
               · subst hk0
                 have hb0 : b = [] := List.eq_nil_of_length_eq_zero HL.out.symm
                 have hV0 : V = 0 := by rw [hV, hb0]; rfl
                 have hsc := Lib.hid (scan_more (most := most) HBy.out hall (.inl hb0))
                 subst hV0
                 clear hall hV hb0
                 go_wp2_with (refine (least_zero _).mono ?_; rintro e w' ⟨rfl, rfl⟩)
                 rw [hsc.out]
                 go_ret3
                 exact ⟨rfl, rfl⟩
               · have hVl : V < 128 ^ k := by have := val_lt b; rw [← HL.out] at this; omega
                 have HC := Lib.hid (least_some V k w (by omega) (by omega) hVl)
                 obtain ⟨l, hl'⟩ : ∃ l, l = V + 128 ^ k := ⟨_, rfl⟩
                 rw [← hl'] at HC
                 have hlv : l = val b + 128 ^ b.length := by rw [hl', hV, HL.out]
                 by_cases hlm : l ≤ most
                 · have t5 : (l : Int) ≤ (most : Int) := by omega
                   have hsc := Lib.hid (scan_more (most := most) HBy.out hall (.inr (by rw [← hlv]; exact hlm)))
                   clear hall hV hVl hl' hlv
                   go_wp2_with (refine (HC.out).mono ?_; rintro e w' ⟨rfl, rfl⟩)
                   rw [hsc.out]
                   go_ret3
                   exact ⟨rfl, rfl⟩
                 · have t5 : ¬ (l : Int) ≤ (most : Int) := by omega
                   have hsc := Lib.hid (scan_less (most := most) hall (fun e => hk0 (by rw [HL.out, e]; rfl)) (by rw [← hlv]; omega))
                   clear hall hV hVl hl' hlv
                   go_wp2_with (refine (HC.out).mono ?_; rintro e w' ⟨rfl, rfl⟩)
                   rw [hsc.out]
                   go_ret3
                   exact ⟨rfl, rfl⟩)
        · have hk10 : k = 10 := by have := HK.out; omega
          have hsc := Lib.hid (scan_long (most := most) (by rw [← hk10]; exact HB.out) (by have := HL.out; omega) HM.out)
          go_wp2_with fail
          rw [hsc.out]
          go_ret3
          exact ⟨rfl, rfl⟩
end Go.Proofs.YtfeodppdmbideaaGreatDoor
namespace Go.Proofs.YtfeodppdmbideaaGreatDoor
open Go.RowKit

/-- What a method of the object at block g may have changed: that block, and new ones. -/
def Touch (g : Nat) (w w' : World) : Prop := w.grownBy w' (some g)
namespace Touch
variable {g : Nat} {a w w' : World}
theorem refl (g : Nat) (w : World) : Touch g w w := World.grownBy.refl w _
theorem trans (h : Touch g a w) (k : Touch g w w') : Touch g a w' :=
  ⟨k.os.trans h.os, k.tape.trans h.tape, k.output.trans h.output, Nat.le_trans h.size k.size, fun i hi hne => (k.block i (Nat.lt_of_lt_of_le hi h.size) hne).trans (h.block i hi hne)⟩
theorem of_below (h : Below w.heap.size w w') : Touch g w w' := ⟨h.os, h.tape, h.output, h.size, fun k hk _ => h.block k hk⟩
theorem set_ (h : Touch g a w) (i : Nat) (u : Value) : Touch g a (w.setCell ⟨g, i, none⟩ u) :=
  h.trans ⟨rfl, rfl, rfl, by simp [World.setCell], fun k _ hne => Below.heap_setCell _ _ _ _ (fun e => hne (by rw [e]))⟩
theorem cell (h : Touch g w w') {p : Addr} (hp : p.block < w.heap.size) (hg : p.block ≠ g) : w'.cell? p = w.cell? p :=
  World.cell?_of_block (h.block p.block hp (fun e => hg (Option.some.inj e)))
theorem holds {lo : Nat} (h : Touch g w w') {A : Option Addr} {vs : List Value} (hA : Holds w A vs) (hg : ∀ b o, A = some ⟨b, o, none⟩ → lo ≤ b ∧ b < g) : Holds w' A vs := fun hn => by
  obtain ⟨b, o, e, hb, hc⟩ := hA.at_ hn
  exact ⟨b, o, e, fun j u hu => (h.cell (p := ⟨b, o + j, none⟩) hb (Nat.ne_of_lt (hg b o e).2)).trans (hc j u hu)⟩
theorem below {B : Nat} {w0 : World} (h : Touch g w w') (hb : Below B w0 w) (hB : B ≤ w.heap.size) (hg : B ≤ g) : Below B w0 w' := hb.grown h hB (fun k hk => by cases hk; exact hg)
end Touch
namespace Whole
variable {g : Nat} {w w' : World} {cs : Array Value} {t : TypeId}
theorem touch {g' : Nat} (h : Whole w g cs t) (hb : Touch g' w w') (hne : g ≠ g') : Whole w' g cs t := h.keep (hb.block g h.lt (fun e => hne (Option.some.inj e)))
end Whole

/-- The reader at block g (of type t) is in state s. -/
def Rd (t : TypeId × Nat) (w : World) (g : Nat) (s : St) : Prop :=
  ∃ A c, Whole w g #[.slice A s.1.length c, .int .i64 (s.2 : Int)] t.1 ∧ Slice A s.1.length c ∧ Holds w A (bytesV s.1) ∧ (∀ b o, A = some ⟨b, o, none⟩ → t.2 ≤ b ∧ b < g) ∧ Bytes s.1 ∧ s.1.length ≤ 1000000
namespace Rd
variable {t : TypeId × Nat} {w w' : World} {g : Nat} {s : St}
theorem lt (h : Rd t w g s) : g < w.heap.size := by obtain ⟨_, _, h, _⟩ := h; exact h.lt
theorem below (h : Rd t w g s) (hb : Below w.heap.size w w') : Rd t w' g s := by
  obtain ⟨A, c, h1, h2, h3, h4⟩ := h
  exact ⟨A, c, h1.below hb h1.lt, h2, h3.below hb, h4⟩
theorem grown (h : Rd t w g s) {row : Option Nat} (hb : w.grownBy w' row) (hr : ∀ k, row = some k → k ≠ g ∧ (k < t.2 ∨ g ≤ k)) : Rd t w' g s := by
  obtain ⟨A, c, h1, h2, h3, h4, h5⟩ := h
  refine ⟨A, c, h1.keep (hb.block g h1.lt fun e => (hr g e.symm).1 rfl), h2, fun hn => ?_, h4, h5⟩
  obtain ⟨b, o, e, hlt, hc⟩ := h3.at_ hn
  have h6 := h4 b o e
  refine ⟨b, o, e, fun j u hu => ?_⟩
  rw [← hc j u hu]
  exact World.cell?_of_block (a := ⟨b, o + j, none⟩) (hb.block b hlt fun e' => by have := hr b e'.symm; omega)
theorem drewN (h : Rd t w g s) (n : Nat) : Rd t (w.drewN n) g s := h
theorem fault (h : Rd t w g s) (f : Nat) : Rd t (w.setCell ⟨g, 1, none⟩ (.int .i64 (f : Int))) g (s.1, f) := by
  obtain ⟨A, c, h1, h2, h3, h4, h5⟩ := h
  exact ⟨A, c, h1.set_ 1 _, h2, ((Touch.refl g w).set_ 1 _).holds h3 h4, h4, h5⟩
end Rd

/-- What a read answers. -/
def OReadPost (t : TypeId × Nat) (g : Nat) (w : World) (v : Value) (s : St) (e : Ending) (w' : World) : Prop := e = .returned v ∧ Rd t w' g s ∧ Touch g w w'

theorem ofail_keep (t : TypeId × Nat) (g f : Nat) (s : St) (w : World) (h : Rd t w g s) (h0 : s.2 ≠ 0) : Calls Tryz.prog 188 #[.pointer (some ⟨g, 0, none⟩), .int .i64 f] w fun e w' => e = .returned (.tuple #[]) ∧ w = w' := by
  obtain ⟨A, c, h1, _⟩ := h
  have c1 : w.cell? ⟨g, 1, none⟩ = some (.int .i64 (s.2 : Int)) := by rw [h1.cell]; rfl
  generalize s.2 = m at *
  have hm : ((m : Int) == 0) = false := by simp; omega
  clear h1
  go_enter Tryz.func188, Tryz.ntmps188
  go_wp2_with fail
  go_end0
  exact ⟨rfl, rfl⟩
theorem ofail_set (t : TypeId × Nat) (g f : Nat) (s : St) (w : World) (h : Rd t w g s) (h0 : s.2 = 0) : Calls Tryz.prog 188 #[.pointer (some ⟨g, 0, none⟩), .int .i64 f] w fun e w' => e = .returned (.tuple #[]) ∧ w.setCell ⟨g, 1, none⟩ (.int .i64 f) = w' := by
  obtain ⟨A, c, h1, _⟩ := h
  have c1 : w.cell? ⟨g, 1, none⟩ = some (.int .i64 (s.2 : Int)) := by rw [h1.cell]; rfl
  have f1 : w.frozen? ⟨g, 1, none⟩ = false := h1.frozen 1
  rw [h0] at c1
  clear h1 h0
  go_enter Tryz.func188, Tryz.ntmps188
  go_wp2_with fail
  go_end0
  exact ⟨rfl, rfl⟩
theorem scan_ways (b : List Nat) (most : Nat) : ((scan b most).2.2 = 0 ∧ 0 < (scan b most).2.1 ∧ (scan b most).2.1 ≤ b.length) ∨ ∃ f, 0 < f ∧ f ≤ 4 ∧ scan b most = (0, 0, f) := by
  by_cases h : ∃ n, Found b most n
  · obtain ⟨n, hn⟩ := h
    rw [scan_found hn]
    exact .inl ⟨rfl, leb_pos n, hn.2.length_le⟩
  · by_cases k : ∃ n, Cut b most n
    · rw [scan_cut h k]; exact .inr ⟨4, by decide, by decide, rfl⟩
    · rw [scan_form h k]; exact .inr ⟨3, by decide, by decide, rfl⟩

set_option maxHeartbeats 1000000 in
theorem onext_any (t : TypeId × Nat) (g most : Nat) (s : St) (w : World) (h : Rd t w g s) (hm : most < 18446744073709551616) :
    Calls Tryz.prog 189 #[.pointer (some ⟨g, 0, none⟩), .int .u64 most] w (OReadPost t g w (.int .u64 (nextS most s).1) (nextS most s).2) := by
  have H := Lib.hid h
  obtain ⟨b, f⟩ := s
  obtain ⟨A, c, h1, hs, hA, hg, hb, hl⟩ := h
  simp only at h1 hs hA hb hl
  have c0 : w.cell? ⟨g, 0, none⟩ = some (.slice A b.length c) := by rw [h1.cell]; rfl
  have c1 : w.cell? ⟨g, 1, none⟩ = some (.int .i64 (f : Int)) := by rw [h1.cell]; rfl
  have f0 : w.frozen? ⟨g, 0, none⟩ = false := h1.frozen 0
  have HB := Lib.hid hb
  have HG := Lib.hid hg
  have HW := Lib.hid h1
  clear hb hg h1
  by_cases hf : f = 0
  · subst hf
    have HC := Lib.hid (parse_any A c b most w hA HB.out (by omega) hm)
    have hn : nextS most (b, 0) = ((scan b most).1, (b.drop (scan b most).2.1, (scan b most).2.2)) := by unfold nextS; rw [if_neg (by simp)]
    have HN := Lib.hid hn
    clear hn hm
    rcases scan_ways b most with ⟨hz, hp, hle⟩ | ⟨f, hf0, hf4, hsc⟩
    · generalize scan b most = r at *
      obtain ⟨v, z, f⟩ := r
      simp only at hz hp hle HC HN
      subst hz
      have hlp : 0 < b.length := by omega
      have hlb : b.length ≤ c := hs.1
      have hcb : c ≤ 9223372036854775807 := hs.2.1
      obtain ⟨bb, o, rfl, hc⟩ := hA (by rw [bytesV_len]; exact hlp)
      have HH := Lib.hid hA
      have HLD : Hid ((b.drop z).length = b.length - z) := List.length_drop ..
      clear hc hA hs
      by_cases hcz : c = z
      · have hlz : b.length = z := by omega
        have hR : ∀ w', w.setCell ⟨g, 0, none⟩ (.slice (some ⟨bb, o, none⟩) 0 0) = w' → Rd t w' g (b.drop z, 0) := by
          rintro w' rfl
          refine ⟨some ⟨bb, o, none⟩, 0, ?_, ⟨by rw [HLD.out]; omega, by omega, fun h => (by cases h)⟩, ?_, HG.out, fun x hx => HB.out x (List.mem_of_mem_drop hx), by rw [HLD.out]; omega⟩
          · have h2 := HW.out.set_ 0 (.slice (some ⟨bb, o, none⟩) 0 0)
            rw [HLD.out, hlz, Nat.sub_self]
            exact h2
          · rw [List.drop_of_length_le (by omega)]
            exact Holds.nil _ _
        have HR := Lib.hid hR
        clear hR
        generalize b.length = L at *
        subst hcz hlz
        go_enter Tryz.func189, Tryz.ntmps189
        go_wp2_with fail
        refine (HC.out).mono ?_
        rintro e w' ⟨rfl, rfl⟩
        go_wp2_with fail
        go_ret
        rw [HN.out]
        exact ⟨rfl, HR.out _ rfl, (Touch.refl g w).set_ 0 _⟩
      · have hcz' : z < c := by omega
        have hR : ∀ w', w.setCell ⟨g, 0, none⟩ (.slice (some ⟨bb, o + z, none⟩) (b.length - z) (c - z)) = w' → Rd t w' g (b.drop z, 0) := by
          rintro w' rfl
          refine ⟨some ⟨bb, o + z, none⟩, c - z, ?_, ⟨by rw [HLD.out]; omega, by omega, fun h => (by cases h)⟩, ?_, fun b' o' e => (by cases e; exact HG.out bb o rfl), fun x hx => HB.out x (List.mem_of_mem_drop hx), by rw [HLD.out]; omega⟩
          · have h2 := HW.out.set_ 0 (.slice (some ⟨bb, o + z, none⟩) (b.length - z) (c - z))
            rw [HLD.out]
            exact h2
          · have h3 := ((Touch.refl g w).set_ 0 (.slice (some ⟨bb, o + z, none⟩) (b.length - z) (c - z))).holds HH.out HG.out
            intro hn
            obtain ⟨b', o', e, hc⟩ := h3 (by rw [bytesV_len]; exact hlp)
            cases e
            refine ⟨bb, o + z, rfl, fun j u hu => ?_⟩
            rw [Nat.add_assoc]
            refine hc (z + j) u ?_
            unfold bytesV at hu ⊢
            rw [← hu, List.map_drop, List.getElem?_drop]
        have HR := Lib.hid hR
        have hne : ((c : Int) == (z : Int)) = false := by simp; omega
        clear hR
        generalize b.length = L at *
        go_enter Tryz.func189, Tryz.ntmps189
        go_wp2_with fail
        refine (HC.out).mono ?_
        rintro e w' ⟨rfl, rfl⟩
        go_wp2_with fail
        go_ret
        rw [HN.out]
        exact ⟨rfl, HR.out _ rfl, (Touch.refl g w).set_ 0 _⟩
    · rw [hsc] at HC HN
      have hfz : ((f : Int) != 0) = true := by simp; omega
      have HF := Lib.hid (ofail_set t g f _ w H.out rfl)
      clear hsc
      go_enter Tryz.func189, Tryz.ntmps189
      go_wp2_with fail
      refine (HC.out).mono ?_
      rintro e w' ⟨rfl, rfl⟩
      go_wp2_with fail
      refine (HF.out).mono ?_
      rintro e w' ⟨rfl, rfl⟩
      go_wp2_with fail
      go_ret
      rw [HN.out]
      exact ⟨rfl, H.out.fault f, (Touch.refl g w).set_ 1 _⟩
  · have hfz : ((f : Int) != 0) = true := by simp; omega
    have HN := Lib.hid (nextS_stays (most := most) (s := (b, f)) hf)
    clear hf hm
    go_enter Tryz.func189, Tryz.ntmps189
    go_wp2_with fail
    go_ret
    rw [HN.out]
    exact ⟨rfl, H.out, Touch.refl _ _⟩
end Go.Proofs.YtfeodppdmbideaaGreatDoor
namespace Go.Proofs.YtfeodppdmbideaaGreatDoor
open Go.RowKit

theorem nextS_lt (most : Nat) (s : St) (h : most < 9223372036854775808) : (nextS most s).1 < 9223372036854775808 := Nat.lt_of_le_of_lt (nextS_le most s) h

set_option maxHeartbeats 1000000 in
theorem onum_any (t : TypeId × Nat) (g : Nat) (most : Int) (s : St) (w : World) (h : Rd t w g s) (h1 : -9223372036854775808 ≤ most) (h2 : most ≤ 9223372036854775807) :
    Calls Tryz.prog 158 #[.pointer (some ⟨g, 0, none⟩), .int .i64 most] w (OReadPost t g w (.int .i64 (numS most s).1) (numS most s).2) := by
  by_cases hn : most < 0
  · have hN : numS most s = (0, (s.1, if s.2 = 0 then 3 else s.2)) := by unfold numS; rw [if_pos hn]
    have HN := Lib.hid hN
    have H := Lib.hid h
    by_cases h0 : s.2 = 0
    · have HF := Lib.hid (ofail_set t g 3 s w h h0)
      have HE : Hid (numS most s = (0, (s.1, 3))) := by rw [hN, if_pos h0]; exact rfl
      clear h0 hN
      go_enter Tryz.func158, Tryz.ntmps158
      go_wp2_with fail
      refine (HF.out).mono ?_
      rintro e w' ⟨rfl, rfl⟩
      go_wp2_with fail
      go_ret
      rw [HE.out]
      exact ⟨rfl, H.out.fault 3, (Touch.refl g w).set_ 1 _⟩
    · have HF := Lib.hid (ofail_keep t g 3 s w h h0)
      have HE : Hid (numS most s = (0, s)) := numS_stays h0
      clear h0 hN
      go_enter Tryz.func158, Tryz.ntmps158
      go_wp2_with fail
      refine (HF.out).mono ?_
      rintro e w' ⟨rfl, rfl⟩
      go_wp2_with fail
      go_ret
      rw [HE.out]
      exact ⟨rfl, H.out, Touch.refl g w⟩
  · obtain ⟨m, rfl⟩ : ∃ m : Nat, most = m := ⟨most.toNat, by omega⟩
    have HE : Hid (numS m s = nextS m s) := by unfold numS; rw [if_neg hn]; exact rfl
    have HC := Lib.hid (onext_any t g m s w h (by omega))
    have hlt := nextS_lt m s (by omega)
    rw [HE.out]
    generalize nextS m s = r at *
    obtain ⟨v, s'⟩ := r
    simp only at hlt HC
    clear hn
    go_enter Tryz.func158, Tryz.ntmps158
    go_wp2_with fail
    refine (HC.out).mono ?_
    rintro e w' ⟨rfl, hR, hT⟩
    go_wp2_with fail
    go_ret
    exact ⟨rfl, hR, hT⟩

set_option maxHeartbeats 1000000 in
theorem osignedR_any (t : TypeId × Nat) (g : Nat) (s : St) (w : World) (h : Rd t w g s) :
    Calls Tryz.prog 190 #[.pointer (some ⟨g, 0, none⟩)] w (OReadPost t g w (.int .i64 (signedS s).1) (signedS s).2) := by
  have HC := Lib.hid (onext_any t g 18446744073709551615 s w h (by omega))
  have hlt := nextS_le 18446744073709551615 s
  have HS : Hid (signedS s = (unfoldN (nextS 18446744073709551615 s).1, (nextS 18446744073709551615 s).2)) := rfl
  rw [HS.out]
  clear HS
  generalize nextS 18446744073709551615 s = r at *
  obtain ⟨v, s'⟩ := r
  simp only at hlt HC
  have HU := Lib.hid fun w => unfold_any v w (by omega)
  clear hlt
  go_enter Tryz.func190, Tryz.ntmps190
  go_wp2_with fail
  refine (HC.out).mono ?_
  rintro e w' ⟨rfl, hR, hT⟩
  go_wp2_with fail
  refine (HU.out _).mono ?_
  rintro e w' ⟨rfl, rfl⟩
  go_wp2_with fail
  go_ret
  exact ⟨rfl, hR, hT⟩

theorem oerr_any (t : TypeId × Nat) (g : Nat) (s : St) (w : World) (h : Rd t w g s) : Calls Tryz.prog 65 #[.pointer (some ⟨g, 0, none⟩)] w fun e w' => e = .returned (.int .i64 (s.2 : Int)) ∧ w = w' := by
  obtain ⟨A, c, h1, _⟩ := h
  have c1 : w.cell? ⟨g, 1, none⟩ = some (.int .i64 (s.2 : Int)) := by rw [h1.cell]; rfl
  clear h1
  go_enter Tryz.func65, Tryz.ntmps65
  go_wp2_with fail
  go_ret
  exact ⟨rfl, rfl⟩
theorem oleft_any (t : TypeId × Nat) (g : Nat) (s : St) (w : World) (h : Rd t w g s) : Calls Tryz.prog 66 #[.pointer (some ⟨g, 0, none⟩)] w fun e w' => e = .returned (.int .i64 (s.1.length : Int)) ∧ w = w' := by
  obtain ⟨A, c, h1, _⟩ := h
  have c1 : w.cell? ⟨g, 0, none⟩ = some (.slice A s.1.length c) := by rw [h1.cell]; rfl
  clear h1
  go_enter Tryz.func66, Tryz.ntmps66
  go_wp2_with fail
  go_ret
  exact ⟨rfl, rfl⟩
/-- A new reader. -/
def NewR (b : List Nat) (w : World) (e : Ending) (w' : World) : Prop := ∃ g, e = .returned (.pointer (some ⟨g, 0, none⟩)) ∧ w.heap.size ≤ g ∧ Rd (111, w.heap.size) w' g (b, 0) ∧ Below w.heap.size w w'
theorem onew_any (A : Option Addr) (c : Nat) (b : List Nat) (w : World) (hs : Slice A b.length c) (hA : Holds w A (bytesV b)) (hb1 : b.length ≤ 1000000) (hb : Bytes b) :
    Calls Tryz.prog 63 #[.slice A b.length c] w (NewR b w) := by
  have HC := Lib.hid (clone_any A c b w hs hA hb1)
  have HB := Lib.hid hb
  clear hb hs hA
  go_enter Tryz.func63, Tryz.ntmps63
  go_wp2_with fail
  refine (HC.out).mono ?_
  rintro e w1 ⟨A1, c1, rfl, hown, hbel⟩
  go_wp2_with fail
  go_ret
  obtain ⟨A2, c2, e2, hs2, hA2⟩ := own_slice hown
  cases e2
  refine ⟨w1.heap.size, rfl, hbel.size, ⟨A1, c1, Whole.new _ _ _, hs2, (own_holds hown).alloc _, fun b' o' e => ?_, HB.out, hb1⟩, hbel.alloc hbel.size _⟩
  have := hA2 b' o' e
  exact ⟨this.1, this.2.1⟩
end Go.Proofs.YtfeodppdmbideaaGreatDoor
namespace Go.Proofs.YtfeodppdmbideaaGreatDoor
open Go.RowKit

set_option maxHeartbeats 800000 in
theorem rsame_any (A B : Option Addr) (c d : Nat) (l r : List Nat) (w : World) (hA : Holds w A (bytesV l)) (hB : Holds w B (bytesV r)) (hl : l.length ≤ 4611686018427387904) (v : Bool) (hv : v = decide (l = r)) :
    Calls Tryz.prog 28 #[.slice A l.length c, .slice B r.length d] w fun e w' => e = .returned (.bool v) ∧ ∃ q, w' = w.drewN q := by
  have HV := Lib.hid hv
  clear hv
  by_cases hn : l.length = r.length
  · have HN := Lib.hid hn
    obtain ⟨n, hnl⟩ : ∃ n, n = l.length := ⟨_, rfl⟩
    rw [← hn, ← hnl]
    rw [← hnl] at hl
    have HNL := Lib.hid hnl
    clear hn hnl
    go_enter Tryz.func28, Tryz.ntmps28
    go_wp2_with fail
    go_loopw [5] (fun i wr => (∃ q, wr = w.drewN q) ∧ ∃ k : Nat, k ≤ n ∧ i = .int .i64 k ∧ Hid (l.take k = r.take k)) (fun i _ => n - (intOf i).toNat)
    case atStart => exact ⟨⟨0, rfl⟩, 0, Nat.zero_le _, rfl, show _ = _ by simp⟩
    case round =>
      obtain ⟨⟨q, hq⟩, k, hk, rfl, HA⟩ := hrel
      have HQ : Hid (∃ q, wr = w.drewN q) := ⟨q, hq⟩
      have hA' : Holds wr A (bytesV l) := by rw [hq]; exact hA
      have hB' : Holds wr B (bytesV r) := by rw [hq]; exact hB
      clear hq
      by_cases hlt : k < n
      · have kl : k < l.length := by have := HNL.out; omega
        have kr : k < r.length := by have := HN.out; omega
        obtain ⟨b, o, rfl, hcM⟩ := hA' (by rw [bytesV_len]; omega)
        obtain ⟨b', o', rfl, hcN⟩ := hB' (by rw [bytesV_len]; omega)
        have h1 := hcM k _ (bytesV_get kl)
        have h2 := hcN k _ (bytesV_get kr)
        have ht1 := List.take_succ_eq_append_getElem kl
        have ht2 := List.take_succ_eq_append_getElem kr
        have hne : l[k] ≠ r[k] → v = false := fun h => by
          rw [HV.out, decide_eq_false_iff_not]
          intro e
          subst e
          exact h rfl
        have HNE := Lib.hid hne
        have HT1 := Lib.hid ht1
        have HT2 := Lib.hid ht2
        clear hcM hcN hne ht1 ht2
        generalize l[k] = x at *
        generalize r[k] = y at *
        by_cases hdg : x = y
        · subst hdg
          have hz1 : ((x : Int) != (x : Int)) = false := by simp
          go_wp2_with fail
          go_quiet (fail)
          go_wp2_with fail
          go_roundw
          case rel => exact ⟨by obtain ⟨q, hq⟩ := HQ.out; exact ⟨q + nq, by rw [hq, World.drewN_drewN]⟩, k + 1, by omega, by go_num, show _ = _ by rw [HT1.out, HT2.out, HA.out]⟩
          case measure => simp [intOf] <;> omega
        · have hz1 : ((x : Int) != (y : Int)) = true := by simp; omega
          have HF := Lib.hid (HNE.out hdg)
          go_wp2_with fail
          go_quiet (fail)
          go_wp2_with fail
          go_ret
          exact ⟨ret_bool HF.out.symm, by obtain ⟨q, hq⟩ := HQ.out; exact ⟨q + nq, by rw [hq, World.drewN_drewN]⟩⟩
      · have hk' : k = n := by omega
        subst hk'
        have he : v = true := by
          have h1 := HA.out
          rw [List.take_of_length_le (by have := HNL.out; omega), List.take_of_length_le (by have := HNL.out; have := HN.out; omega)] at h1
          rw [HV.out, h1]; simp
        have HD := Lib.hid he
        clear he
        go_wp2_with fail
        go_ret
        exact ⟨ret_bool HD.out.symm, HQ.out⟩
  · have hz : ((l.length : Int) != (r.length : Int)) = true := by simp; omega
    have he : v = false := by
      rw [HV.out, decide_eq_false_iff_not]
      intro e
      exact hn (by rw [e])
    have HF := Lib.hid he
    clear hn he
    go_enter Tryz.func28, Tryz.ntmps28
    go_wp2_with fail
    go_ret
    exact ⟨ret_bool HF.out.symm, 0, rfl⟩

end Go.Proofs.YtfeodppdmbideaaGreatDoor
namespace Go.Proofs.YtfeodppdmbideaaGreatDoor
open Go.RowKit

/-- A reader with its slice named. -/
def RdAt (t : TypeId × Nat) (w : World) (g : Nat) (A : Option Addr) (c : Nat) (s : St) : Prop :=
  Whole w g #[.slice A s.1.length c, .int .i64 (s.2 : Int)] t.1 ∧ Slice A s.1.length c ∧ Holds w A (bytesV s.1) ∧ (∀ b o, A = some ⟨b, o, none⟩ → t.2 ≤ b ∧ b < g) ∧ Bytes s.1 ∧ s.1.length ≤ 1000000
namespace RdAt
variable {t : TypeId × Nat} {w w' : World} {g c : Nat} {A : Option Addr} {s : St}
theorem rd (h : RdAt t w g A c s) : Rd t w g s := ⟨A, c, h⟩
theorem below (h : RdAt t w g A c s) (hb : Below w.heap.size w w') : RdAt t w' g A c s := ⟨h.1.below hb h.1.lt, h.2.1, h.2.2.1.below hb, h.2.2.2⟩
theorem fault (h : RdAt t w g A c s) (f : Nat) : RdAt t (w.setCell ⟨g, 1, none⟩ (.int .i64 (f : Int))) g A c (s.1, f) :=
  ⟨h.1.set_ 1 _, h.2.1, ((Touch.refl g w).set_ 1 _).holds h.2.2.1 h.2.2.2.1, h.2.2.2⟩
theorem drewN (h : RdAt t w g A c s) (n : Nat) : RdAt t (w.drewN n) g A c s := h
end RdAt
theorem Touch.drewN {g : Nat} {a w : World} (h : Touch g a w) (n : Nat) : Touch g a (w.drewN n) := ⟨h.os, h.tape, h.output, h.size, h.block⟩

end Go.Proofs.YtfeodppdmbideaaGreatDoor
