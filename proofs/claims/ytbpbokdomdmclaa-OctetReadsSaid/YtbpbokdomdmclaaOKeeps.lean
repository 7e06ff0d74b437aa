/- OctetKeeps: what is handed in stays, spare room too; what is answered is new memory. -/
import Derived.Test.YtbpbokdomdmclaaOStr
namespace Go.Proofs.Ytbpbokdomdmclaa
open Go.RowKit

theorem keeps_long (A B : Option Addr) (n m c d : Nat) (z : Int) (w : World) (h : 1000 < n ∨ 1000 < m) :
    Calls Try.prog 9 #[.slice A n c, .int .i64 z, .slice B m d] w fun e w' => e = .returned (.bool true) ∧ Below w.heap.size w w' := by
  by_cases h1 : 1000 < n
  · have t1 : (1000 : Int) < (n : Int) := by omega
    clear h
    go_enter Try.func9, Try.ntmps9
    go_wp2_with (refine (awake_any _).mono ?_; rintro e w0 ⟨rfl, hb0⟩)
    go_ret
    exact ⟨rfl, hb0⟩
  · have t1 : ¬ (1000 : Int) < (n : Int) := by omega
    have t2 : (1000 : Int) < (m : Int) := by omega
    clear h
    go_enter Try.func9, Try.ntmps9
    go_wp2_with (refine (awake_any _).mono ?_; rintro e w0 ⟨rfl, hb0⟩)
    go_ret
    exact ⟨rfl, hb0⟩
/-- Where a slice lies. -/
def In (lo hi : Nat) (A : Option Addr) : Prop := ∀ b o, A = some ⟨b, o, none⟩ → lo ≤ b ∧ b < hi
theorem own_in {w : World} {B e sz n c : Nat} {A : Option Addr} {xs : List Value} (h : w.ownsRow B e sz (.slice A n c) n xs) : In B w.heap.size A := fun b o e' => by
  obtain ⟨A', c', e2, _, h3⟩ := own_slice h
  cases e2
  exact ⟨(h3 b o e').1, (h3 b o e').2.1⟩
theorem holds_in {w : World} {A : Option Addr} {vs : List Value} (h : Holds w A vs) : Holds w A vs ∧ (0 < vs.length → In 0 w.heap.size A) := ⟨h, fun hn b o e => by
  obtain ⟨b', o', e', hb, _⟩ := h.at_ hn
  rw [e] at e'
  cases e'
  exact ⟨Nat.zero_le _, hb⟩⟩
theorem Holds.away {g : Nat} {w w' : World} {A : Option Addr} {vs : List Value} (h : Holds w A vs) (hT : Touch g w w') (hg : 0 < vs.length → ∀ b o, A = some ⟨b, o, none⟩ → b ≠ g) : Holds w' A vs := fun hn => (h.off hT (hg hn)) hn
/-- An own row of bytes is a block. -/
theorem own_whole {w : World} {B n c : Nat} {A : Option Addr} {xs : List Value} (h : w.ownsRow B 5 1 (.slice A n c) n xs) (hn : 0 < n) : ∃ g cs, A = some ⟨g, 0, none⟩ ∧ B ≤ g ∧ g < w.heap.size ∧ Whole w g cs 5 ∧ n ≤ cs.size := by
  have hl := h.1
  rcases h.2 with ⟨e, h0⟩ | ⟨g, cap, cur, e, hB, hb, hnc, hc, hs, ht⟩
  · cases e; omega
  · cases e
    exact ⟨g, cur, rfl, hB, Whole.lt hb, hb, by omega⟩
def spare : List Nat := [115, 112, 97, 114, 101, 32, 114, 111, 111, 109]
theorem spare_cells : byteCells { data := #[115, 112, 97, 114, 101, 32, 114, 111, 111, 109] } = bytesV spare := rfl

set_option maxRecDepth 100000 in
set_option maxHeartbeats 8000000 in
theorem keeps_some (A B : Option Addr) (n m c d : Nat) (b : List Nat) (z : Int) (t : List Node3) (w : World) (hn : b.length = n) (hm : t.length = m) (hs : Slice A n c) (hA : Holds w A (bytesV b))
    (z1 : -9223372036854775808 ≤ z) (z2 : z ≤ 9223372036854775807) (hs2 : Slice B m d) (hB : Holds w B (nodesV t)) (ht : WideT t) (h1 : n ≤ 1000) (h2 : m ≤ 1000) :
    Calls Try.prog 9 #[.slice A n c, .int .i64 z, .slice B m d] w fun e w' => e = .returned (.bool true) ∧ Below w.heap.size w w' := by
  have t1 : ¬ (1000 : Int) < (n : Int) := by omega
  have t2 : ¬ (1000 : Int) < (m : Int) := by omega
  obtain ⟨kz, hkz⟩ : ∃ kz : Nat, z % 1024 = kz := ⟨(z % 1024).toNat, by omega⟩
  have hkb : kz < 1024 := by omega
  have tand : bits .and .i64 z 1023 = (kz : Int) := by rw [and1023, hkz]
  obtain ⟨sx, hsx⟩ : ∃ k, (b ++ leb (fold z)).length = k := ⟨_, rfl⟩
  have sx1 : sx ≤ 1010 := by have := leb_ten (fold_bound z1 z2); rw [List.length_append] at hsx; omega
  have sx2 : 0 < sx := by have := leb_pos (fold z); rw [List.length_append] at hsx; omega
  obtain ⟨sv, hsv⟩ : ∃ k, (b ++ leb kz).length = k := ⟨_, rfl⟩
  have sv1 : sv ≤ 1010 := by have := leb_ten (n := kz) (by omega); rw [List.length_append] at hsv; omega
  have sv2 : 0 < sv := by have := leb_pos kz; rw [List.length_append] at hsv; omega
  have rl := rowF_len (b := b) ht
  obtain ⟨q, F, hq⟩ : ∃ q F, rowF b t = (q, F) := ⟨_, _, rfl⟩
  obtain ⟨qn, hqn⟩ : ∃ qn, q.length = qn := ⟨_, rfl⟩
  have qn1 : qn ≤ 300000 := by rw [hq] at rl; simp only at rl; omega
  have hput : putF b [(kz : Int)] = (b ++ leb kz, 0) := by
    unfold putF
    rw [if_pos (by intro x hx; simp at hx; omega)]
    simp [lebs]
  have HSX := Lib.hid fun w A c hs hA => osigned_f A n c b w hn hs hA (by omega) z z1 z2 _ sx rfl hsx
  have HSR := Lib.hid fun w A c hs hA => rsigned_f A n c b w hn hs hA (by omega) z z1 z2 _ sx rfl hsx
  have HRO := Lib.hid fun w A B c d hs hA hB => orow_f A B n m c d b w hn hs hA (by omega) t hm hB ht q F qn hq hqn
  have HRR := Lib.hid fun w A B c d hs hA hB => rrow_f A B n m c d b w hn hs hA (by omega) t hm hB ht q F qn hq hqn
  have HPU := Lib.hid fun w A B c hs hA hB => oput_f A B n 1 c 1 b w hn hs hA (by omega) [(kz : Int)] rfl hB (by intro x hx; simp at hx; omega) (by omega) (b ++ leb kz) 0 sv hput hsv
  have HN := Lib.hid hn
  have HM := Lib.hid hm
  have HLX := Lib.hid hsx
  have HLV := Lib.hid hsv
  have HLQ := Lib.hid hqn
  clear hkz hsx hsv rl hq hqn hput hn hm
  go_enter Try.func9, Try.ntmps9
  go_wp2_with fail
  refine (awake_any _).mono ?_
  rintro e w0 ⟨rfl, hb0⟩
  have hlit := World.ownsRow_lit (base := w0.heap.size) (e := 5) (size := 1) w0 #[] 0 (Nat.le_refl _) (by unfold maxLen; omega) rfl
  have hbw := (Below.refl w0.heap.size w0).alloc (Nat.le_refl _) (.cells #[] 5)
  have x0 := (hA.below hb0).alloc (.cells #[] 5)
  go_wp2_with (first
    | (at_builtin; refine wpList_append_cells rfl (.tmp 32) (.tmp 33) _ rfl 5 (.int .u8 0) 1 1 info8 rfl (by decide) Try.underlying22 w0.heap.size _ 0 n _ (bytesV b) rfl hlit A c rfl hs x0 (by rw [bytesV_len, HN.out]; omega) bytesV_one (by omega) (by omega) w0 hbw hbw.size ?_; intro A1 c1 w1 ho1 hs1 hb1 hz1 _; simp only [Nat.zero_add, List.nil_append] at ho1 hs1 ⊢)
    | (at_builtin; refine wpList_append_str rfl (.tmp 34) _ rfl w0.heap.size _ n b rfl ho1 _ spare 10 rfl spare_cells rfl (by omega) (by omega) w0 hb1 hz1 ?_; intro AR cR w2 ho2 hsR hb2 hz2; have acR : n + 10 ≤ cR := hsR.1; have acR2 : cR ≤ 9223372036854775807 := hsR.2.1; have hlit2 := World.ownsRow_lit (base := w2.heap.size) (e := 63) (size := 3) w2 #[] 0 (Nat.le_refl _) (by unfold maxLen; omega) rfl; have hbw2 := (Below.refl w2.heap.size w2).alloc (Nat.le_refl _) (.cells #[] 63); have x2 := (hB.below (below_step hb0 hb2)).alloc (.cells #[] 63))
    | (at_builtin; go_must (refine wpList_append_cells rfl (.tmp 36) (.tmp 37) _ rfl 63 _ 3 24 infoNode rfl (by decide) Try.underlying25 w2.heap.size _ 0 m _ (nodesV t) rfl hlit2 B d rfl hs2 x2 (by rw [nodesV_len, HM.out]) nodesV_one (by omega) (by omega) w2 hbw2 hbw2.size ?_); intro AT cT w3 ho3 hsT hb3 hz3 _; simp only [Nat.zero_add, List.nil_append] at ho3 hsT ⊢))
  have hb4 := below_step hb0 (below_step hb2 hb3)
  have hb0s := hb0.size
  have aR : Below w2.heap.size w2 w3 := hb3
  have iR := own_in ho2
  have iT := own_in ho3
  have hR := (own_holds ho2).below hb3
  have hT := own_holds ho3
  have HSR0 : Hid (Slice AR n cR) := ⟨by omega, acR2, fun h => by have := hsR.2.2 h; omega⟩
  have e9 : (b ++ spare).take n = b := by rw [← HN.out]; exact List.take_left
  have hRb : Holds w3 AR (bytesV b) := by
    have := hR.take_ n
    rw [e9] at this
    exact this
  have hz30 := hb2.size
  have hz31 := hb3.size
  clear hlit hbw x0 ho1 hs1 hb1 hz1 hlit2 hbw2 x2 ho2 ho3 hb2 hz2 hb3 hz3 hb0 aR e9
  refine (HSX.out _ AR cR HSR0.out hRb).mono ?_
  rintro e w4 ⟨X, cx, rfl, hoX, hsX, g4⟩
  have hb5 := below_step hb4 g4
  obtain ⟨gx, csx, rfl, lx, ux, whx, szx⟩ := own_whole hoX sx2
  have hR := hR.below g4
  have hRb := hRb.below g4
  have hT := hT.below g4
  clear hb4 hoX
  go_wp2_with fail
  refine (HSX.out _ AR cR HSR0.out hRb).mono ?_
  rintro e w5 ⟨Y, cy, rfl, hoY, hsY, g5⟩
  have hb6 := below_step hb5 g5
  have whx := whx.below g5 ux
  have iY := own_in hoY
  have hY := own_holds hoY
  have hR := hR.below g5
  have hRb := hRb.below g5
  have hT := hT.below g5
  clear hb5 hoY
  go_wp2_with fail
  refine (HRO.out _ AR AT cR cT HSR0.out hRb hT).mono ?_
  rintro e w6 ⟨Z, cz, rfl, hoZ, hsZ, g6⟩
  have hb7 := below_step hb6 g6
  have whx := whx.below g6 (Nat.lt_of_lt_of_le ux g5.size)
  have iZ := own_in hoZ
  have hZ := own_holds hoZ
  have hY := hY.below g6
  have hR := hR.below g6
  have hRb := hRb.below g6
  have hT := hT.below g6
  clear hb6 hoZ
  have k1 := holds_at w6 #[.int .i64 kz] 3 (intsV [(kz : Int)]) rfl
  have gk := (Below.refl w6.heap.size w6).alloc (Nat.le_refl _) (.cells #[.int .i64 kz] 3)
  have hb8 := below_step hb7 gk
  have whx := whx.below gk (Nat.lt_of_lt_of_le ux (Nat.le_trans g5.size g6.size))
  have hZ := hZ.below gk
  have hY := hY.below gk
  have hR := hR.below gk
  have hRb := hRb.below gk
  have hT := hT.below gk
  have sz1 := g5.size
  have sz2 := g6.size
  have sz3 := gk.size
  clear hb7 g4 g5 g6
  go_wp2_with fail
  ((with_reducible refine (HPU.out _ AR _ cR HSR0.out hRb k1).mono ?_); rintro e w7 ⟨U, cu, rfl, hoU, hsU, g7⟩)
  have hb9 := below_step hb8 g7
  have sz4 := g7.size
  obtain ⟨gu, csu, rfl, lu, uu, whu, szu⟩ := own_whole hoU sv2
  have whx := whx.below g7 (by omega)
  have hZ := hZ.below g7
  have hY := hY.below g7
  have hR := hR.below g7
  have hRb := hRb.below g7
  have hT := hT.below g7
  have k2 := holds_at w7 #[.int .i64 kz] 3 (intsV [(kz : Int)]) rfl
  have gk2 := (Below.refl w7.heap.size w7).alloc (Nat.le_refl _) (.cells #[.int .i64 kz] 3)
  have hb10 := below_step hb9 gk2
  have whx := whx.below gk2 (by omega)
  have whu := whu.below gk2 uu
  have hZ := hZ.below gk2
  have hY := hY.below gk2
  have hR := hR.below gk2
  have hRb := hRb.below gk2
  have hT := hT.below gk2
  have sz5 := gk2.size
  clear hb8 hb9 g7 k1 gk hoU
  go_wp2_with fail
  ((with_reducible refine (HPU.out _ AR _ cR HSR0.out hRb k2).mono ?_); rintro e w8 ⟨V, cv, rfl, hoV, hsV, g8⟩)
  have hb11 := below_step hb10 g8
  have sz6 := g8.size
  have iV := own_in hoV
  have hV := own_holds hoV
  have whx := whx.below g8 (by omega)
  have whu := whu.below g8 (by omega)
  have hZ := hZ.below g8
  have hY := hY.below g8
  have hR := hR.below g8
  have hT := hT.below g8
  clear hb10 g8 k2 gk2 hoV hRb
  have hlit := World.ownsRow_lit (base := w8.heap.size) (e := 5) (size := 1) w8 #[] 0 (Nat.le_refl _) (by unfold maxLen; omega) rfl
  have hbw := (Below.refl w8.heap.size w8).alloc (Nat.le_refl _) (.cells #[] 5)
  have v0 := hV.alloc (.cells #[] 5)
  go_wp2_with (at_builtin; go_must (refine wpList_append_cells rfl (.tmp 82) (.tmp 83) _ rfl 5 (.int .u8 0) 1 1 info8 rfl (by decide) Try.underlying22 w8.heap.size _ 0 sv _ (bytesV (b ++ leb kz)) rfl hlit V cv rfl hsV v0 (by rw [bytesV_len, HLV.out]; omega) bytesV_one (by omega) (by omega) w8 hbw hbw.size ?_); intro WN cw w9 ho9 hs9 hb9' hz9 _; simp only [Nat.zero_add, List.nil_append] at ho9 hs9 ⊢)
  have hb12 := below_step hb11 hb9'
  have sz7 := hb9'.size
  have iW := own_in ho9
  have hW := own_holds ho9
  have whx := whx.below hb9' (by omega)
  have whu := whu.below hb9' (by omega)
  have hZ := hZ.below hb9'
  have hY := hY.below hb9'
  have hR := hR.below hb9'
  have hT := hT.below hb9'
  have hV := hV.below hb9'
  clear hb11 hlit hbw v0 ho9 hb9' hz9
  have sz0 := hb12.size
  have HGX : Hid (w.heap.size ≤ gx) := by show _ ≤ _; have := hb0s; omega
  go_loopw [18] (fun i wr => ∃ (k : Nat) (cs : Array Value), i = .int .i64 k ∧ k ≤ sx ∧ Whole wr gx cs 5 ∧ sx ≤ cs.size ∧ Touch gx w9 wr) (fun i _ => sx - (intOf i).toNat)
  case atStart => exact ⟨0, csx, rfl, Nat.zero_le _, whx, szx, Touch.refl _ _⟩
  case round =>
    obtain ⟨k, cs, rfl, hk, hw, hcs, hTX⟩ := hrel
    by_cases hlt : k < sx
    · have cc : wr.cell? ⟨gx, k, none⟩ = some cs[k] := by rw [hw.cell, Array.getElem?_eq_getElem]
      have ff : wr.frozen? ⟨gx, k, none⟩ = false := hw.frozen k
      have HW1 := Lib.hid (hw.set_ k (.int .u8 1))
      have HT1 := Lib.hid (hTX.set_ k (.int .u8 1))
      generalize cs[k] = u at *
      clear hw hTX
      go_wp2_with fail
      go_roundw
      case rel => exact ⟨k + 1, _, by go_num, by omega, HW1.out, by simpa using hcs, HT1.out⟩
      case measure => simp [intOf] <;> omega
    · have hzx := hTX.size
      have whu := whu.touch hTX (by omega)
      have hZ := hZ.away hTX (fun _ b o e => by have := iZ b o e; omega)
      have hY := hY.away hTX (fun _ b o e => by have := iY b o e; omega)
      have hR := hR.away hTX (fun _ b o e => by have := iR b o e; omega)
      have hT := hT.away hTX (fun _ b o e => by have := iT b o e; omega)
      have hV := hV.away hTX (fun _ b o e => by have := iV b o e; omega)
      have hW := hW.away hTX (fun _ b o e => by have := iW b o e; omega)
      have hb13 := hTX.below hb12 hb12.size HGX.out
      clear hTX hw
      go_wp2_with fail
      obtain ⟨wo, rfl⟩ : ∃ wo : World, wo = wr := ⟨_, rfl⟩
      have HGU : Hid (w.heap.size ≤ gu) := by show _ ≤ _; have := HGX.out; omega
      go_loopw [19] (fun i wr => ∃ (k : Nat) (cs : Array Value), i = .int .i64 k ∧ k ≤ sv ∧ Whole wr gu cs 5 ∧ sv ≤ cs.size ∧ Touch gu wo wr) (fun i _ => sv - (intOf i).toNat)
      case atStart => exact ⟨0, csu, rfl, Nat.zero_le _, whu, szu, Touch.refl _ _⟩
      case round =>
        obtain ⟨k, cs, rfl, hk, hw, hcs, hTU⟩ := hrel
        by_cases hlt : k < sv
        · have cc : wr.cell? ⟨gu, k, none⟩ = some cs[k] := by rw [hw.cell, Array.getElem?_eq_getElem]
          have ff : wr.frozen? ⟨gu, k, none⟩ = false := hw.frozen k
          have HW1 := Lib.hid (hw.set_ k (.int .u8 2))
          have HT1 := Lib.hid (hTU.set_ k (.int .u8 2))
          generalize cs[k] = u at *
          clear hw hTU
          go_wp2_with fail
          go_roundw
          case rel => exact ⟨k + 1, _, by go_num, by omega, HW1.out, by simpa using hcs, HT1.out⟩
          case measure => simp [intOf] <;> omega
        · have hZ := hZ.away hTU (fun _ b o e => by have := iZ b o e; omega)
          have hY := hY.away hTU (fun _ b o e => by have := iY b o e; omega)
          have hR := hR.away hTU (fun _ b o e => by have := iR b o e; omega)
          have hT := hT.away hTU (fun _ b o e => by have := iT b o e; omega)
          have hV := hV.away hTU (fun _ b o e => by have := iV b o e; omega)
          have hW := hW.away hTU (fun _ b o e => by have := iW b o e; omega)
          have hb14 := hTU.below hb13 hb13.size HGU.out
          clear hTU hw whx whu
          obtain ⟨w10, rfl⟩ : ∃ w10 : World, w10 = wr := ⟨_, rfl⟩
          have hlit := World.ownsRow_lit (base := w10.heap.size) (e := 5) (size := 1) w10 #[] 0 (Nat.le_refl _) (by unfold maxLen; omega) rfl
          have hbw := (Below.refl w10.heap.size w10).alloc (Nat.le_refl _) (.cells #[] 5)
          have x0 := (hA.below hb14).alloc (.cells #[] 5)
          go_wp2_with (first
            | (at_builtin; refine wpList_append_cells rfl (.tmp 104) (.tmp 105) _ rfl 5 (.int .u8 0) 1 1 info8 rfl (by decide) Try.underlying22 w10.heap.size _ 0 n _ (bytesV b) rfl hlit A c rfl hs x0 (by rw [bytesV_len, HN.out]; omega) bytesV_one (by omega) (by omega) w10 hbw hbw.size ?_; intro A1 c1 w1 ho1 hs1 hb1 hz1 _; simp only [Nat.zero_add, List.nil_append] at ho1 hs1 ⊢)
            | (at_builtin; go_must (refine wpList_append_str rfl (.tmp 106) _ rfl w10.heap.size _ n b rfl ho1 _ spare 10 rfl spare_cells rfl (by omega) (by omega) w10 hb1 hz1 ?_); intro AQ cQ w11 ho2 hsQ hb15 hz2))
          have hb16 := below_step hb14 hb15
          have hQ := own_holds ho2
          have hZ := hZ.below hb15
          have hY := hY.below hb15
          have hR := hR.below hb15
          have hT := hT.below hb15
          have hV := hV.below hb15
          have hW := hW.below hb15
          clear hlit hbw x0 ho1 hs1 hb1 hz1 ho2 hsQ hb15 hz2 hb14
          refine (same_n AR AQ (n + 10) (n + 10) cR cQ (b ++ spare) (b ++ spare) _ (by rw [List.length_append, HN.out]; rfl) (by rw [List.length_append, HN.out]; rfl) hR hQ (by omega) true (by simp)).mono ?_
          rintro e w12 ⟨rfl, gb⟩
          have hb17 := below_step hb16 gb
          have hZ := hZ.below gb
          have hY := hY.below gb
          have hT := hT.below gb
          have hV := hV.below gb
          have hW := hW.below gb
          clear hb16 gb hR hQ
          go_wp2_with fail
          refine (sameRow_n AT B m m cT d t t _ HM.out HM.out hT (hB.below hb17) (by omega) true (by simp)).mono ?_
          rintro e w13 ⟨rfl, gb⟩
          have hb18 := below_step hb17 gb
          have hZ := hZ.below gb
          have hY := hY.below gb
          have hV := hV.below gb
          have hW := hW.below gb
          clear hb17 gb hT
          go_wp2_with fail
          refine (same_n V WN sv sv cv cw (b ++ leb kz) (b ++ leb kz) _ HLV.out HLV.out hV hW (by omega) true (by simp)).mono ?_
          rintro e w14 ⟨rfl, gb⟩
          have hb19 := below_step hb18 gb
          have hZ := hZ.below gb
          have hY := hY.below gb
          clear hb18 gb hV hW
          go_wp2_with fail
          refine (HRR.out _ A B c d hs (hA.below hb19) (hB.below hb19)).mono ?_
          rintro e w15 ⟨Q, cq, rfl, hoQ, _, gb⟩
          have hb20 := below_step hb19 gb
          have hZ := hZ.below gb
          have hY := hY.below gb
          have hQ := own_holds hoQ
          clear hb19 gb hoQ
          go_wp2_with fail
          refine (same_n Z Q qn qn cz cq q q _ HLQ.out HLQ.out hZ hQ (by omega) true (by simp)).mono ?_
          rintro e w16 ⟨rfl, gb⟩
          have hb21 := below_step hb20 gb
          have hY := hY.below gb
          clear hb20 gb hZ hQ
          go_wp2_with fail
          refine (HSR.out _ A c hs (hA.below hb21)).mono ?_
          rintro e w17 ⟨S, cs2, rfl, hoS, _, gb⟩
          have hb22 := below_step hb21 gb
          have hY := hY.below gb
          have hS := own_holds hoS
          clear hb21 gb hoS
          go_wp2_with fail
          refine (same_n Y S sx sx cy cs2 (b ++ leb (fold z)) (b ++ leb (fold z)) _ HLX.out HLX.out hY hS (by omega) true (by simp)).mono ?_
          rintro e w18 ⟨rfl, gb⟩
          have hb23 := below_step hb22 gb
          go_wp2_with fail
          go_ret
          exact ⟨rfl, hb23⟩
theorem keeps_any (A B : Option Addr) (c d : Nat) (b : List Nat) (z : Int) (t : List Node3) (w : World) (hs : Slice A b.length c) (hA : Holds w A (bytesV b)) (_ : Bytes b)
    (z1 : -9223372036854775808 ≤ z) (z2 : z ≤ 9223372036854775807) (hs2 : Slice B t.length d) (hB : Holds w B (nodesV t)) (ht : WideT t) :
    Calls Try.prog 9 #[.slice A b.length c, .int .i64 z, .slice B t.length d] w fun e w' => e = .returned (.bool true) ∧ Below w.heap.size w w' := by
  by_cases h : 1000 < b.length ∨ 1000 < t.length
  · exact keeps_long A B _ _ c d z w h
  · exact keeps_some A B _ _ c d b z t w rfl rfl hs hA z1 z2 hs2 hB ht (by omega) (by omega)
end Go.Proofs.Ytbpbokdomdmclaa
