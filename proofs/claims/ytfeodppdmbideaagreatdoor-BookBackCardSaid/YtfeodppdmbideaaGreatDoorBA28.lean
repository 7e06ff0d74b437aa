/- The way to the laws of books: TApply to TSameR. -/
import Derived.Test.YtfeodppdmbideaaGreatDoorBA1
import Derived.Test.YtfeodppdmbideaaGreatDoorBA15
import Derived.Test.YtfeodppdmbideaaGreatDoorBA5
namespace Go.Proofs.YtfeodppdmbideaaGreatDoor
open Go.RowKit

/-- The rows' nodes, one behind the other. -/
def flatR (l : List RowT) : List Node3 := (l.map fun x => x.2.2).flatten
theorem flatR_take {l : List RowT} {k : Nat} (h : k < l.length) : flatR (l.take (k + 1)) = flatR (l.take k) ++ l[k].2.2 := by
  unfold flatR
  rw [List.take_succ_eq_append_getElem h, List.map_append, List.flatten_append]
  simp
theorem flatR_le (l : List RowT) (k : Nat) : (flatR (l.take k)).length ≤ (flatR l).length := by
  have : flatR l = flatR (l.take k) ++ flatR (l.drop k) := by
    unfold flatR
    rw [← List.flatten_append, ← List.map_append, List.take_append_drop]
  rw [this, List.length_append]
  omega
theorem GrowAt.start (w : World) : GrowAt (w.alloc (.cells #[.slice none 0 0, .int .i64 0] 147)) w.heap.size [] (.slice none 0 0) :=
  ⟨Whole.new w _ _, ⟨[], World.ownsRow_nil _ _ _ _, Nat.zero_le _, fun _ => rfl⟩, by simp [Value.ownBlock]⟩
/-- A growing row among the new blocks. -/
structure GRun (w wr : World) (g : Nat) (L : List Node3) (v : Value) : Prop where
  gr : GrowAt wr g L v
  new : ∀ k, GrowF g v k → w.heap.size ≤ k
  bl : Below w.heap.size w wr
theorem GRun.next {w wr w1 : World} {g : Nat} {L : List Node3} {v : Value} (h : GRun w wr g L v) (hb : Below wr.heap.size wr w1) : GRun w w1 g L v :=
  ⟨h.gr.below hb, h.new, below_step h.bl hb⟩
theorem GRun.put {w wr w1 : World} {g : Nat} {L r : List Node3} {v : Value} {e : Ending} (h : GRun w wr g L v) (hp : PutPost g (L ++ r) v wr e w1) : e = .returned (.tuple #[]) ∧ ∃ v', GRun w w1 g (L ++ r) v' := by
  obtain ⟨he, v', h1, h2, h3⟩ := hp
  refine ⟨he, v', h1, fun k hk => ?_, h.bl.trans (h2.below h.bl.size fun k hk hl => by have := h.new k hl; omega)⟩
  rcases h3 k hk with h' | h'
  · exact h.new k h'
  · exact Nat.le_trans h.bl.size h'
theorem GRun.row {w wr : World} {g : Nat} {L : List Node3} {v : Value} (h : GRun w wr g L v) (hl : L.length ≤ 4096) : ∃ A n c, v = .slice A n c ∧ L.length = n ∧ OwnN wr w.heap.size (.slice A n c) n L := by
  obtain ⟨l, ho, -, h1⟩ := h.gr.own
  obtain rfl := h1 hl
  obtain ⟨A, c, rfl, -, -⟩ := own_slice ho
  refine ⟨A, _, c, rfl, rfl, ho.1, ho.2.imp id ?_⟩
  rintro ⟨g', cap, cur, e, _, hr⟩
  cases e
  exact ⟨g', _, cur, rfl, h.new g' (.inr rfl), hr⟩
theorem ffS_cons (t : List Node3) (r : List (List Node3)) : ffS (t :: r) = if shapeOf t ≠ 0 then shapeOf t else ffS r := rfl
/-- What Apply and Bind answer of the whole. -/
def bigS (r : List Node3) : List Node3 × Int := if 4096 < r.length then ([], 9) else (r, 0)
theorem bind_flat {op : Int} {l : List RowT} {k : Nat} (h : k < l.length) : (l.take (k + 1)).flatMap (fun x => (op, 0, 0) :: x.2.2) = (l.take k).flatMap (fun x => (op, 0, 0) :: x.2.2) ++ [(op, 0, 0)] ++ l[k].2.2 := by
  rw [List.take_succ_eq_append_getElem h, List.flatMap_append]
  simp
def applyS (t : List Node3) (ls : List (List Node3)) : List Node3 × Int := if ffS (t :: ls) ≠ 0 then ([], ffS (t :: ls)) else bigS (List.replicate ls.length (6, 0, 0) ++ t ++ ls.flatten)
def bindS (op : Int) (ls : List (List Node3)) (t : List Node3) : List Node3 × Int := if op ≠ 4 ∧ op ≠ 5 then ([], 1) else if ffS ls ≠ 0 then ([], ffS ls) else if shapeOf t ≠ 0 then ([], shapeOf t) else bigS (ls.flatMap (fun r => (op, 0, 0) :: r) ++ t)
set_option maxHeartbeats 4000000 in
theorem tapply_any (A : Option Addr) (n c : Nat) (t : List Node3) (R : Option Addr) (m cr : Nat) (l : List RowT) (w : World) (hn : t.length = n) (hs : Slice A n c) (hA : Holds w A (nodesV t)) (hm : l.length = m) (hmb : m ≤ 100000) (hR : Holds w R (l.map rowV)) (hok : RowsOk w l) (hL : Lim w) (hnb : n ≤ 100000) (htot : (flatR l).length ≤ 100000) :
    Calls Tryz.prog 47 #[.slice A n c, .slice R m cr] w (RowAns (applyS t (l.map fun x => x.2.2)) w) := by
  have HA := Lib.hid (show ∀ w', Below w.heap.size w w' → Holds w' A (nodesV t) from fun w' hb => hA.below hb)
  have HR := Lib.hid (show ∀ w', Below w.heap.size w w' → Holds w' R (l.map rowV) from fun w' hb => hR.below hb)
  have HOK := Lib.hid (show ∀ w', Below w.heap.size w w' → RowsOk w' l from fun w' hb => hok.below hb)
  have HAN := Lib.hid (show ∀ b o, A = some ⟨b, o, none⟩ → 0 < n → b < w.heap.size from fun b o e h0 => by
    obtain ⟨b', o', e', hb, _⟩ := hA.at_ (by rw [nodesV_len]; omega)
    rw [e] at e'; cases e'; exact hb)
  have HLIT := Lib.hid (show Holds (w.alloc (.cells #[.slice A n c] 28)) (some ⟨w.heap.size, 0, none⟩) (([(A, c, t)] : List RowT).map rowV) by
    have := holds_at w #[.slice A n c] 28 (([(A, c, t)] : List RowT).map rowV) (by simp [rowV, hn])
    exact this)
  have hb0 : Below w.heap.size w (w.alloc (.cells #[.slice A n c] 28)) := (Below.refl _ _).alloc (Nat.le_refl _) _
  have HB0 := Lib.hid hb0
  have HF1 := Lib.hid (firstFault_any (some ⟨w.heap.size, 0, none⟩) 1 1 [(A, c, t)] (w.alloc (.cells #[.slice A n c] 28)) rfl (by omega) HLIT.out (fun x hx => by
    simp only [List.mem_cons, List.not_mem_nil, or_false] at hx; subst hx
    simp only
    rw [hn]
    exact ⟨hs, hA.below hb0⟩) (hL.next hb0))
  have HF2 := Lib.hid (show ∀ w', Below w.heap.size w w' → _ from fun w' hb => firstFault_any R m cr l w' hm (by omega) (hR.below hb) (hok.below hb) (hL.next hb))
  have HN := Lib.hid hn
  have HM := Lib.hid hm
  have HS := Lib.hid hs
  have HTOT := Lib.hid htot
  have HOKL := Lib.hid (show ∀ x ∈ l, ∀ b o, x.1 = some ⟨b, o, none⟩ → 0 < x.2.2.length → b < w.heap.size from fun x hx b o e h0 => by
    obtain ⟨b', o', e', hb, _⟩ := (hok x hx).2.at_ (by rw [nodesV_len]; omega)
    rw [e] at e'; cases e'; exact hb)
  have e1 : ffS ([(A, c, t)].map fun x : RowT => x.2.2) = shapeOf t := by
    show (if shapeOf t ≠ 0 then shapeOf t else 0) = shapeOf t
    split <;> omega
  rw [e1] at HF1
  clear hA hR hok hL hb0 hn hs htot e1
  obtain ⟨s1, hs1⟩ : ∃ s1, shapeOf t = s1 := ⟨_, rfl⟩
  obtain ⟨s2, hs2⟩ : ∃ s2, ffS (l.map fun x => x.2.2) = s2 := ⟨_, rfl⟩
  rw [hs1] at HF1
  rw [hs2] at HF2
  by_cases z1 : s1 = 0
  case neg =>
    have HAN' : Hid (applyS t (l.map fun x => x.2.2) = ([], s1)) := Lib.hid (by unfold applyS; rw [ffS_cons, hs1, if_pos z1, if_pos z1])
    have e1 : (s1 != 0) = true := by simpa using z1
    clear hs1 hs2 z1 HF2
    go_enter Tryz.func47, Tryz.ntmps47
    go_wp2_with fail
    refine (HF1.out).mono ?_
    rintro e w1 ⟨rfl, hb1⟩
    go_wp2_with fail
    go_ret2
    rw [HAN'.out]
    exact RowAns.none _ (below_step HB0.out hb1)
  subst z1
  by_cases z2 : s2 = 0
  case neg =>
    have HAN' : Hid (applyS t (l.map fun x => x.2.2) = ([], s2)) := Lib.hid (by unfold applyS; rw [show ffS (t :: l.map fun x => x.2.2) = s2 by rw [ffS_cons, hs1, hs2]; simp, if_pos z2])
    have e1 : (s2 != 0) = true := by simpa using z2
    clear hs1 hs2 z2
    go_enter Tryz.func47, Tryz.ntmps47
    go_wp2_with fail
    refine (HF1.out).mono ?_
    rintro e w1 ⟨rfl, hb1⟩
    have HB1 := Lib.hid (below_step HB0.out hb1)
    clear hb1
    go_wp2_with fail
    refine (HF2.out _ HB1.out).mono ?_
    rintro e w2 ⟨rfl, hb2⟩
    go_wp2_with fail
    go_ret2
    rw [HAN'.out]
    exact RowAns.none _ (below_step HB1.out hb2)
  subst z2
  have HAPP : Hid (applyS t (l.map fun x => x.2.2) = bigS (List.replicate m (6, 0, 0) ++ t ++ flatR l)) := Lib.hid (by
    unfold applyS
    rw [show ffS (t :: l.map fun x => x.2.2) = 0 by rw [ffS_cons, hs1, hs2]; simp, if_neg (by simp), List.length_map, HM.out]
    rfl)
  have hpos : 0 < n := by have := (right_of hs1).2.1; have := HN.out; omega
  have HPOS := Lib.hid (show ∀ x ∈ l, 0 < x.2.2.length from fun x hx => (right_of (ff_zero hs2 _ (List.mem_map.2 ⟨x, hx, rfl⟩))).2.1)
  clear hs1 hs2
  go_enter Tryz.func47, Tryz.ntmps47
  go_wp2_with fail
  refine (HF1.out).mono ?_
  rintro e w1 ⟨rfl, hb1⟩
  have HB1 := Lib.hid (below_step HB0.out hb1)
  clear hb1
  go_wp2_with fail
  refine (HF2.out _ HB1.out).mono ?_
  rintro e w2 ⟨rfl, hb2⟩
  have HB2 := Lib.hid (below_step HB1.out hb2)
  have hst : GRun w (w2.alloc (.cells #[.slice none 0 0, .int .i64 0] 147)) w2.heap.size [] (.slice none 0 0) := ⟨GrowAt.start w2, fun k hk => by
    rcases hk with rfl | hk
    · exact HB2.out.size
    · simp [Value.ownBlock] at hk, below_alloc HB2.out _⟩
  have HST := Lib.hid hst
  have HGS := Lib.hid HB2.out.size
  clear hb2 hst
  go_wp2_with fail
  go_loopw [24] (fun i wr => ∃ (k : Nat) (v : Value), i = .int .i64 (k : Int) ∧ k ≤ m ∧ Hid (GRun w wr w2.heap.size (List.replicate k (6, 0, 0)) v)) (fun i _ => m - (intOf i).toNat)
  case atStart => exact ⟨0, _, rfl, Nat.zero_le _, HST⟩
  case round =>
    obtain ⟨k, v, rfl, hk, HG⟩ := hrel
    by_cases hlt : k < m
    · have hg1 := HG.out.next (w1 := (wr.alloc (.cells #[.int .i64 6, .int .i64 0, .int .i64 0] 67))) ((Below.refl _ _).alloc (Nat.le_refl _) _)
      have HP := Lib.hid (put_any w2.heap.size (List.replicate k (6, 0, 0)) [(6, 0, 0)] v (some ⟨wr.heap.size, 0, none⟩) 1 1 (wr.alloc (.cells #[.int .i64 6, .int .i64 0, .int .i64 0] 67)) hg1.gr rfl ⟨Nat.le_refl _, by omega, fun h => by cases h⟩ (holds_at wr #[.int .i64 6, .int .i64 0, .int .i64 0] 67 _ rfl) (fun b o e => by cases e; have := HG.out.gr.whole.lt; omega) (by rw [List.length_replicate]; omega))
      have HG1 := Lib.hid hg1
      clear hg1
      go_wp2_with fail
      refine (HP.out).mono ?_
      intro e w3 hp
      obtain ⟨rfl, v', hg3⟩ := HG1.out.put hp
      rw [← List.replicate_succ'] at hg3
      have HG3 := Lib.hid hg3
      clear hp hg3 HP
      go_wp2_with fail
      go_roundw
      case rel => exact ⟨k + 1, v', by go_num, by omega, HG3⟩
      case measure => simp [intOf] <;> omega
    · obtain rfl : k = m := by omega
      have HP := Lib.hid (put_any w2.heap.size (List.replicate k (6, 0, 0)) t v A n c wr HG.out.gr HN.out HS.out (HA.out _ HG.out.bl) (fun b o e => by
        have := HAN.out b o e hpos; have := HGS.out; omega) (by rw [List.length_replicate]; omega))
      obtain ⟨wo, rfl⟩ : ∃ wo : World, wo = wr := ⟨_, rfl⟩
      go_wp2_with fail
      refine (HP.out).mono ?_
      intro e w3 hp
      obtain ⟨rfl, v', hg3⟩ := HG.out.put hp
      have HG3 := Lib.hid hg3
      clear hp hg3 HP
      go_wp2_with fail
      go_loopw [34] (fun i wr => ∃ (j : Nat) (v : Value), i = .int .i64 (j : Int) ∧ j ≤ k ∧ Hid (GRun w wr w2.heap.size (List.replicate k (6, 0, 0) ++ t ++ flatR (l.take j)) v)) (fun i _ => k - (intOf i).toNat)
      case atStart => exact ⟨0, _, rfl, Nat.zero_le _, Lib.hid (by simpa [flatR] using HG3.out)⟩
      case round =>
        obtain ⟨j, v, rfl, hj, HG⟩ := hrel
        by_cases hlt : j < k
        · have hkl : j < l.length := by rw [HM.out]; exact hlt
          obtain ⟨b, o, rfl, hbl, hc⟩ := (HR.out _ HG.out.bl).at_ (by rw [List.length_map]; omega)
          have r0 := hc j _ (rowsV_get hkl)
          have hrow := HOK.out _ HG.out.bl l[j] (List.getElem_mem hkl)
          have hlen : (List.replicate k ((6, 0, 0) : Node3) ++ t ++ flatR (l.take j)).length + l[j].2.2.length ≤ 1000000000 := by
            have h1 := flatR_le l (j + 1)
            rw [flatR_take hkl, List.length_append] at h1
            have h2 := HTOT.out
            have h3 := HN.out
            rw [List.length_append, List.length_append, List.length_replicate]
            omega
          have HP := Lib.hid (put_any w2.heap.size _ l[j].2.2 v l[j].1 l[j].2.2.length l[j].2.1 wr HG.out.gr rfl hrow.1 hrow.2 (fun b o e => by
            have h1 := HOKL.out l[j] (List.getElem_mem hkl) b o e (HPOS.out _ (List.getElem_mem hkl))
            have := HGS.out; omega) hlen)
          have HFT := Lib.hid (flatR_take hkl)
          clear hc hrow hlen
          generalize l[j].2.2.length = nj at *
          generalize l[j].1 = Aj at *
          generalize l[j].2.1 = cj at *
          go_wp2_with fail
          refine (HP.out).mono ?_
          intro e w4 hp
          obtain ⟨rfl, v', hg4⟩ := HG.out.put hp
          rw [List.append_assoc, ← HFT.out] at hg4
          have HG4 := Lib.hid hg4
          clear hp hg4 HP
          go_wp2_with fail
          go_roundw
          case rel => exact ⟨j + 1, v', by go_num, by omega, HG4⟩
          case measure => simp [intOf] <;> omega
        · obtain rfl : j = k := by omega
          have HGE : Hid (GRun w wr w2.heap.size (List.replicate j (6, 0, 0) ++ t ++ flatR l) v) := Lib.hid (by
            have := HG.out
            rwa [List.take_of_length_le (by rw [HM.out]; exact Nat.le_refl _)] at this)
          have HLR := Lib.hid (grow_row _ _ _ _ HGE.out.gr)
          go_wp2_with fail
          refine (HLR.out).mono ?_
          rintro e w5 ⟨rfl, (⟨hbig, rfl⟩ | ⟨hsm, rfl⟩)⟩
          · have HX : Hid (applyS t (l.map fun x => x.2.2) = ([], 9)) := Lib.hid (by rw [HAPP.out]; unfold bigS; rw [if_pos hbig])
            go_wp2_with fail
            go_ret2
            rw [HX.out]
            exact RowAns.none _ HGE.out.bl
          · have HX : Hid (applyS t (l.map fun x => x.2.2) = (List.replicate j (6, 0, 0) ++ t ++ flatR l, 0)) := Lib.hid (by rw [HAPP.out]; unfold bigS; rw [if_neg (by omega)])
            obtain ⟨A5, n5, c5, rfl, hn5, ho5⟩ := HGE.out.row (by omega)
            have HO5 := Lib.hid ho5
            clear ho5
            go_wp2_with fail
            go_ret2
            rw [HX.out]
            exact RowAns.row hn5 HO5.out HGE.out.bl
set_option maxHeartbeats 4000000 in
theorem tbind_any (op : Int) (A : Option Addr) (n c : Nat) (t : List Node3) (R : Option Addr) (m cr : Nat) (l : List RowT) (w : World) (hn : t.length = n) (hs : Slice A n c) (hA : Holds w A (nodesV t)) (hm : l.length = m) (hmb : m ≤ 100000) (hR : Holds w R (l.map rowV)) (hok : RowsOk w l) (hL : Lim w) (hnb : n ≤ 100000) (htot : (flatR l).length ≤ 100000) :
    Calls Tryz.prog 42 #[.int .i64 op, .slice R m cr, .slice A n c] w (RowAns (bindS op (l.map fun x => x.2.2) t) w) := by
  by_cases hop : op ≠ 4 ∧ op ≠ 5
  · have HX : Hid (bindS op (l.map fun x => x.2.2) t = ([], 1)) := Lib.hid (by unfold bindS; rw [if_pos hop])
    obtain ⟨h4, h5⟩ := hop
    have e4 : (op != 4) = true := by simpa using h4
    have e5 : (op != 5) = true := by simpa using h5
    clear hA hR hok hL
    go_enter Tryz.func42, Tryz.ntmps42
    go_wp2_with fail
    go_ret2
    rw [HX.out]
    exact RowAns.none _ (Below.refl _ _)
  have HA := Lib.hid (show ∀ w', Below w.heap.size w w' → Holds w' A (nodesV t) from fun w' hb => hA.below hb)
  have HR := Lib.hid (show ∀ w', Below w.heap.size w w' → Holds w' R (l.map rowV) from fun w' hb => hR.below hb)
  have HOK := Lib.hid (show ∀ w', Below w.heap.size w w' → RowsOk w' l from fun w' hb => hok.below hb)
  have HAN := Lib.hid (show ∀ b o, A = some ⟨b, o, none⟩ → 0 < n → b < w.heap.size from fun b o e h0 => by
    obtain ⟨b', o', e', hb, _⟩ := hA.at_ (by rw [nodesV_len]; omega)
    rw [e] at e'; cases e'; exact hb)
  have e1 : ffS ([(A, c, t)].map fun x : RowT => x.2.2) = shapeOf t := by
    show (if shapeOf t ≠ 0 then shapeOf t else 0) = shapeOf t
    split <;> omega
  have HF1 := Lib.hid (show ∀ w1, Below w.heap.size w w1 → _ from fun w1 hb1 => firstFault_any (some ⟨w1.heap.size, 0, none⟩) 1 1 [(A, c, t)] (w1.alloc (.cells #[.slice A n c] 28)) rfl (by omega) (by
    have := holds_at w1 #[.slice A n c] 28 (([(A, c, t)] : List RowT).map rowV) (by simp [rowV, hn])
    exact this) (fun x hx => by
    simp only [List.mem_cons, List.not_mem_nil, or_false] at hx; subst hx
    simp only
    rw [hn]
    exact ⟨hs, hA.below (below_alloc hb1 _)⟩) (hL.next (below_alloc hb1 _)))
  rw [e1] at HF1
  have HF2 := Lib.hid (firstFault_any R m cr l w hm (by omega) hR hok hL)
  have HN := Lib.hid hn
  have HM := Lib.hid hm
  have HS := Lib.hid hs
  have HTOT := Lib.hid htot
  have HOKL := Lib.hid (show ∀ x ∈ l, ∀ b o, x.1 = some ⟨b, o, none⟩ → 0 < x.2.2.length → b < w.heap.size from fun x hx b o e h0 => by
    obtain ⟨b', o', e', hb, _⟩ := (hok x hx).2.at_ (by rw [nodesV_len]; omega)
    rw [e] at e'; cases e'; exact hb)
  clear hA hR hok hL hn hs htot e1
  obtain ⟨s1, hs1⟩ : ∃ s1, shapeOf t = s1 := ⟨_, rfl⟩
  obtain ⟨s2, hs2⟩ : ∃ s2, ffS (l.map fun x => x.2.2) = s2 := ⟨_, rfl⟩
  rw [hs1] at HF1
  rw [hs2] at HF2
  have HBX : Hid (bindS op (l.map fun x => x.2.2) t = if s2 ≠ 0 then ([], s2) else if s1 ≠ 0 then ([], s1) else bigS ((l.map fun x => x.2.2).flatMap (fun r => (op, 0, 0) :: r) ++ t)) := Lib.hid (by unfold bindS; rw [if_neg hop, hs1, hs2])
  rw [show (l.map fun x => x.2.2).flatMap (fun r => ((op, 0, 0) : Node3) :: r) = l.flatMap (fun x => (op, 0, 0) :: x.2.2) by rw [List.flatMap_map]] at HBX
  have e45 : op = 4 ∨ op = 5 := by omega
  clear hop
  by_cases z2 : s2 = 0
  case neg =>
    have HX := Lib.hid (HBX.out.trans (if_pos z2))
    have e1 : (s2 != 0) = true := by simpa using z2
    clear hs1 hs2 z2 HBX
    rcases e45 with rfl | rfl
    all_goals
      go_enter Tryz.func42, Tryz.ntmps42
      go_wp2_with fail
      refine (HF2.out).mono ?_
      rintro e w1 ⟨rfl, hb1⟩
      go_wp2_with fail
      go_ret2
      rw [HX.out]
      exact RowAns.none _ hb1
  have HBX2 := Lib.hid (HBX.out.trans (if_neg (by simpa using z2)))
  subst z2
  by_cases z1 : s1 = 0
  case neg =>
    have HX := Lib.hid (HBX2.out.trans (if_pos z1))
    have e1 : (s1 != 0) = true := by simpa using z1
    clear hs1 hs2 z1 HBX HBX2
    rcases e45 with rfl | rfl
    all_goals
      go_enter Tryz.func42, Tryz.ntmps42
      go_wp2_with fail
      refine (HF2.out).mono ?_
      rintro e w1 ⟨rfl, hb1⟩
      go_wp2_with fail
      refine (HF1.out w1 hb1).mono ?_
      rintro e w2 ⟨rfl, hb2⟩
      go_wp2_with fail
      go_ret2
      rw [HX.out]
      exact RowAns.none _ (below_step (below_alloc hb1 _) hb2)
  have HBX3 := Lib.hid (HBX2.out.trans (if_neg (by simpa using z1)))
  subst z1
  have hpos : 0 < n := by have := (right_of hs1).2.1; have := HN.out; omega
  have HPOS := Lib.hid (show ∀ x ∈ l, 0 < x.2.2.length from fun x hx => (right_of (ff_zero hs2 _ (List.mem_map.2 ⟨x, hx, rfl⟩))).2.1)
  have HLB := Lib.hid (show ∀ k, ((l.take k).flatMap (fun x => ((op, 0, 0) : Node3) :: x.2.2)).length ≤ 200000 from fun k => by
    have h1 : ∀ l : List RowT, (l.flatMap (fun x => ((op, 0, 0) : Node3) :: x.2.2)).length = l.length + (flatR l).length := by
      intro l
      induction l with
      | nil => rfl
      | cons x l ih =>
        rw [List.flatMap_cons, List.length_append, ih]
        simp [flatR]
        omega
    rw [h1]
    have := flatR_le l k
    have := HTOT.out
    have := HM.out
    rw [List.length_take]
    omega)
  clear hs1 hs2 HBX HBX2
  have hne : (op != 4 && op != 5) = false := by rcases e45 with rfl | rfl <;> rfl
  have HE45 := Lib.hid e45
  clear e45
  rcases HE45.out with rfl | rfl
  · clear HE45 hne
    go_enter Tryz.func42, Tryz.ntmps42
    go_wp2_with fail
    refine (HF2.out).mono ?_
    rintro e w1 ⟨rfl, hb1⟩
    have HB1 := Lib.hid hb1
    have HB1' := Lib.hid (below_alloc hb1 (.cells #[.slice A n c] 28))
    clear hb1
    go_wp2_with fail
    refine (HF1.out w1 HB1.out).mono ?_
    rintro e w2 ⟨rfl, hb2⟩
    have HB2 := Lib.hid (below_step HB1'.out hb2)
    have hst : GRun w (w2.alloc (.cells #[.slice none 0 0, .int .i64 0] 147)) w2.heap.size [] (.slice none 0 0) := ⟨GrowAt.start w2, fun k hk => by
      rcases hk with rfl | hk
      · exact HB2.out.size
      · simp [Value.ownBlock] at hk, below_alloc HB2.out _⟩
    have HST := Lib.hid hst
    have HGS := Lib.hid HB2.out.size
    clear hb2 hst
    go_wp2_with fail
    go_loopw [32] (fun i wr => ∃ (k : Nat) (v : Value), i = .int .i64 (k : Int) ∧ k ≤ m ∧ Hid (GRun w wr w2.heap.size ((l.take k).flatMap (fun x => (4, 0, 0) :: x.2.2)) v)) (fun i _ => m - (intOf i).toNat)
    case atStart => exact ⟨0, _, rfl, Nat.zero_le _, Lib.hid (by simpa using HST.out)⟩
    case round =>
      obtain ⟨j, v, rfl, hj, HG⟩ := hrel
      by_cases hlt : j < m
      · have hkl : j < l.length := by rw [HM.out]; exact hlt
        obtain ⟨b, o, rfl, hbl, hc⟩ := (HR.out _ HG.out.bl).at_ (by rw [List.length_map]; omega)
        have r0 := hc j _ (rowsV_get hkl)
        have hg1 := HG.out.next (w1 := (wr.alloc (.cells #[.int .i64 4, .int .i64 0, .int .i64 0] 67))) ((Below.refl _ _).alloc (Nat.le_refl _) _)
        have HP := Lib.hid (put_any w2.heap.size _ [(4, 0, 0)] v (some ⟨wr.heap.size, 0, none⟩) 1 1 (wr.alloc (.cells #[.int .i64 4, .int .i64 0, .int .i64 0] 67)) hg1.gr rfl ⟨Nat.le_refl _, by omega, fun h => by cases h⟩ (holds_at wr #[.int .i64 4, .int .i64 0, .int .i64 0] 67 _ rfl) (fun b o e => by cases e; have := HG.out.gr.whole.lt; omega) (by have := HLB.out j; omega))
        have HG1 := Lib.hid hg1
        have HP2 := Lib.hid (fun w3 v3 (hg : GRun w w3 w2.heap.size ((l.take j).flatMap (fun x => (4, 0, 0) :: x.2.2) ++ [(4, 0, 0)]) v3) => put_any w2.heap.size _ l[j].2.2 v3 l[j].1 l[j].2.2.length l[j].2.1 w3 hg.gr rfl (HOK.out _ hg.bl l[j] (List.getElem_mem hkl)).1 (HOK.out _ hg.bl l[j] (List.getElem_mem hkl)).2 (fun b o e => by
          have h1 := HOKL.out l[j] (List.getElem_mem hkl) b o e (HPOS.out _ (List.getElem_mem hkl))
          have := HGS.out; omega) (by
          have h1 := HLB.out (j + 1)
          rw [bind_flat hkl, List.length_append] at h1
          omega))
        have HFT := Lib.hid (bind_flat (op := 4) hkl)
        clear hc hg1
        generalize l[j].2.2.length = nj at *
        generalize l[j].1 = Aj at *
        generalize l[j].2.1 = cj at *
        go_wp2_with fail
        refine (HP.out).mono ?_
        intro e w3 hp
        obtain ⟨rfl, v', hg3⟩ := HG1.out.put hp
        have HG3 := Lib.hid hg3
        have HP3 := Lib.hid (HP2.out w3 v' hg3)
        clear hp hg3 HP HP2
        go_wp2_with fail
        refine (HP3.out).mono ?_
        intro e w4 hp
        obtain ⟨rfl, v4, hg4⟩ := HG3.out.put hp
        rw [← HFT.out] at hg4
        have HG4 := Lib.hid hg4
        clear hp hg4 HP3
        go_wp2_with fail
        go_roundw
        case rel => exact ⟨j + 1, v4, by go_num, by omega, HG4⟩
        case measure => simp [intOf] <;> omega
      · obtain rfl : j = m := by omega
        have HGE : Hid (GRun w wr w2.heap.size (l.flatMap (fun x => (4, 0, 0) :: x.2.2)) v) := Lib.hid (by
          have := HG.out
          rwa [List.take_of_length_le (by rw [HM.out]; exact Nat.le_refl _)] at this)
        have HP := Lib.hid (put_any w2.heap.size _ t v A n c wr HGE.out.gr HN.out HS.out (HA.out _ HGE.out.bl) (fun b o e => by
          have := HAN.out b o e hpos; have := HGS.out; omega) (by
          have h1 := HLB.out j
          rw [List.take_of_length_le (by rw [HM.out]; exact Nat.le_refl _)] at h1
          omega))
        go_wp2_with fail
        refine (HP.out).mono ?_
        intro e w4 hp
        obtain ⟨rfl, v4, hg4⟩ := HGE.out.put hp
        have HG4 := Lib.hid hg4
        have HLR := Lib.hid (grow_row _ _ _ _ hg4.gr)
        clear hp hg4 HP
        go_wp2_with fail
        refine (HLR.out).mono ?_
        rintro e w5 ⟨rfl, (⟨hbig, rfl⟩ | ⟨hsm, rfl⟩)⟩
        · have HX := Lib.hid (HBX3.out.trans (show bigS _ = ([], 9) by unfold bigS; rw [if_pos hbig]))
          go_wp2_with fail
          go_ret2
          rw [HX.out]
          exact RowAns.none _ HG4.out.bl
        · have HX := Lib.hid (HBX3.out.trans (show bigS _ = (l.flatMap (fun x => (4, 0, 0) :: x.2.2) ++ t, 0) by unfold bigS; rw [if_neg (by omega)]))
          obtain ⟨A5, n5, c5, rfl, hn5, ho5⟩ := HG4.out.row (by omega)
          have HO5 := Lib.hid ho5
          clear ho5
          go_wp2_with fail
          go_ret2
          rw [HX.out]
          exact RowAns.row hn5 HO5.out HG4.out.bl
  · clear HE45 hne
    go_enter Tryz.func42, Tryz.ntmps42
    go_wp2_with fail
    refine (HF2.out).mono ?_
    rintro e w1 ⟨rfl, hb1⟩
    have HB1 := Lib.hid hb1
    have HB1' := Lib.hid (below_alloc hb1 (.cells #[.slice A n c] 28))
    clear hb1
    go_wp2_with fail
    refine (HF1.out w1 HB1.out).mono ?_
    rintro e w2 ⟨rfl, hb2⟩
    have HB2 := Lib.hid (below_step HB1'.out hb2)
    have hst : GRun w (w2.alloc (.cells #[.slice none 0 0, .int .i64 0] 147)) w2.heap.size [] (.slice none 0 0) := ⟨GrowAt.start w2, fun k hk => by
      rcases hk with rfl | hk
      · exact HB2.out.size
      · simp [Value.ownBlock] at hk, below_alloc HB2.out _⟩
    have HST := Lib.hid hst
    have HGS := Lib.hid HB2.out.size
    clear hb2 hst
    go_wp2_with fail
    go_loopw [32] (fun i wr => ∃ (k : Nat) (v : Value), i = .int .i64 (k : Int) ∧ k ≤ m ∧ Hid (GRun w wr w2.heap.size ((l.take k).flatMap (fun x => (5, 0, 0) :: x.2.2)) v)) (fun i _ => m - (intOf i).toNat)
    case atStart => exact ⟨0, _, rfl, Nat.zero_le _, Lib.hid (by simpa using HST.out)⟩
    case round =>
      obtain ⟨j, v, rfl, hj, HG⟩ := hrel
      by_cases hlt : j < m
      · have hkl : j < l.length := by rw [HM.out]; exact hlt
        obtain ⟨b, o, rfl, hbl, hc⟩ := (HR.out _ HG.out.bl).at_ (by rw [List.length_map]; omega)
        have r0 := hc j _ (rowsV_get hkl)
        have hg1 := HG.out.next (w1 := (wr.alloc (.cells #[.int .i64 5, .int .i64 0, .int .i64 0] 67))) ((Below.refl _ _).alloc (Nat.le_refl _) _)
        have HP := Lib.hid (put_any w2.heap.size _ [(5, 0, 0)] v (some ⟨wr.heap.size, 0, none⟩) 1 1 (wr.alloc (.cells #[.int .i64 5, .int .i64 0, .int .i64 0] 67)) hg1.gr rfl ⟨Nat.le_refl _, by omega, fun h => by cases h⟩ (holds_at wr #[.int .i64 5, .int .i64 0, .int .i64 0] 67 _ rfl) (fun b o e => by cases e; have := HG.out.gr.whole.lt; omega) (by have := HLB.out j; omega))
        have HG1 := Lib.hid hg1
        have HP2 := Lib.hid (fun w3 v3 (hg : GRun w w3 w2.heap.size ((l.take j).flatMap (fun x => (5, 0, 0) :: x.2.2) ++ [(5, 0, 0)]) v3) => put_any w2.heap.size _ l[j].2.2 v3 l[j].1 l[j].2.2.length l[j].2.1 w3 hg.gr rfl (HOK.out _ hg.bl l[j] (List.getElem_mem hkl)).1 (HOK.out _ hg.bl l[j] (List.getElem_mem hkl)).2 (fun b o e => by
          have h1 := HOKL.out l[j] (List.getElem_mem hkl) b o e (HPOS.out _ (List.getElem_mem hkl))
          have := HGS.out; omega) (by
          have h1 := HLB.out (j + 1)
          rw [bind_flat hkl, List.length_append] at h1
          omega))
        have HFT := Lib.hid (bind_flat (op := 5) hkl)
        clear hc hg1
        generalize l[j].2.2.length = nj at *
        generalize l[j].1 = Aj at *
        generalize l[j].2.1 = cj at *
        go_wp2_with fail
        refine (HP.out).mono ?_
        intro e w3 hp
        obtain ⟨rfl, v', hg3⟩ := HG1.out.put hp
        have HG3 := Lib.hid hg3
        have HP3 := Lib.hid (HP2.out w3 v' hg3)
        clear hp hg3 HP HP2
        go_wp2_with fail
        refine (HP3.out).mono ?_
        intro e w4 hp
        obtain ⟨rfl, v4, hg4⟩ := HG3.out.put hp
        rw [← HFT.out] at hg4
        have HG4 := Lib.hid hg4
        clear hp hg4 HP3
        go_wp2_with fail
        go_roundw
        case rel => exact ⟨j + 1, v4, by go_num, by omega, HG4⟩
        case measure => simp [intOf] <;> omega
      · obtain rfl : j = m := by omega
        have HGE : Hid (GRun w wr w2.heap.size (l.flatMap (fun x => (5, 0, 0) :: x.2.2)) v) := Lib.hid (by
          have := HG.out
          rwa [List.take_of_length_le (by rw [HM.out]; exact Nat.le_refl _)] at this)
        have HP := Lib.hid (put_any w2.heap.size _ t v A n c wr HGE.out.gr HN.out HS.out (HA.out _ HGE.out.bl) (fun b o e => by
          have := HAN.out b o e hpos; have := HGS.out; omega) (by
          have h1 := HLB.out j
          rw [List.take_of_length_le (by rw [HM.out]; exact Nat.le_refl _)] at h1
          omega))
        go_wp2_with fail
        refine (HP.out).mono ?_
        intro e w4 hp
        obtain ⟨rfl, v4, hg4⟩ := HGE.out.put hp
        have HG4 := Lib.hid hg4
        have HLR := Lib.hid (grow_row _ _ _ _ hg4.gr)
        clear hp hg4 HP
        go_wp2_with fail
        refine (HLR.out).mono ?_
        rintro e w5 ⟨rfl, (⟨hbig, rfl⟩ | ⟨hsm, rfl⟩)⟩
        · have HX := Lib.hid (HBX3.out.trans (show bigS _ = ([], 9) by unfold bigS; rw [if_pos hbig]))
          go_wp2_with fail
          go_ret2
          rw [HX.out]
          exact RowAns.none _ HG4.out.bl
        · have HX := Lib.hid (HBX3.out.trans (show bigS _ = (l.flatMap (fun x => (5, 0, 0) :: x.2.2) ++ t, 0) by unfold bigS; rw [if_neg (by omega)]))
          obtain ⟨A5, n5, c5, rfl, hn5, ho5⟩ := HG4.out.row (by omega)
          have HO5 := Lib.hid ho5
          clear ho5
          go_wp2_with fail
          go_ret2
          rw [HX.out]
          exact RowAns.row hn5 HO5.out HG4.out.bl
end Go.Proofs.YtfeodppdmbideaaGreatDoor
namespace Go.Proofs.YtfeodppdmbideaaGreatDoor
open Go.RowKit

set_option maxHeartbeats 1000000 in
theorem tsame_any (A B : Option Addr) (c d : Nat) (l r : List Node3) (w : World) (hA : Holds w A (nodesV l)) (hB : Holds w B (nodesV r)) (hl : l.length ≤ 1000000000) (v : Bool) (hv : v = decide (l = r)) :
    Calls Tryz.prog 21 #[.slice A l.length c, .slice B r.length d] w fun e w' => e = .returned (.bool v) ∧ ∃ q, w' = w.drewN q := by
  have HV := Lib.hid hv
  clear hv
  by_cases hn : l.length = r.length
  · have HN := Lib.hid hn
    obtain ⟨n, hnl⟩ : ∃ n, n = l.length := ⟨_, rfl⟩
    rw [← hn, ← hnl]
    rw [← hnl] at hl
    have HNL := Lib.hid hnl
    clear hn hnl
    go_enter Tryz.func21, Tryz.ntmps21
    go_wp2_with fail
    go_loopw [5] (fun i wr => (∃ q, wr = w.drewN q) ∧ ∃ k : Nat, k ≤ n ∧ i = .int .i64 k ∧ Hid (l.take k = r.take k)) (fun i _ => n - (intOf i).toNat)
    case atStart => exact ⟨⟨0, rfl⟩, 0, Nat.zero_le _, rfl, show _ = _ by simp⟩
    case round =>
      obtain ⟨⟨q, hq⟩, k, hk, rfl, HA⟩ := hrel
      have HQ : Hid (∃ q, wr = w.drewN q) := ⟨q, hq⟩
      have hA' : Holds wr A (nodesV l) := by rw [hq]; exact hA
      have hB' : Holds wr B (nodesV r) := by rw [hq]; exact hB
      clear hq
      by_cases hlt : k < n
      · have kl : k < l.length := by have := HNL.out; omega
        have kr : k < r.length := by have := HN.out; omega
        obtain ⟨b, o, rfl, hcM⟩ := hA' (by rw [nodesV_len]; omega)
        obtain ⟨b', o', rfl, hcN⟩ := hB' (by rw [nodesV_len]; omega)
        have s0 := hcM (k * 3) _ (nodesV_get0 kl)
        have s1 := hcM (k * 3 + 1) _ (nodesV_get1 kl)
        have s2 := hcM (k * 3 + 2) _ (nodesV_get2 kl)
        have t0 := hcN (k * 3) _ (nodesV_get0 kr)
        have t1 := hcN (k * 3 + 1) _ (nodesV_get1 kr)
        have t2 := hcN (k * 3 + 2) _ (nodesV_get2 kr)
        rw [← Nat.add_assoc] at s1 s2 t1 t2
        have ht1 := List.take_succ_eq_append_getElem kl
        have ht2 := List.take_succ_eq_append_getElem kr
        have hne : l[k] ≠ r[k] → v = false := fun h => by
          rw [HV.out, decide_eq_false_iff_not]
          intro e
          subst e
          exact h rfl
        have HNE := Lib.hid hne
        have HT1 := Lib.hid ht1
        have HT2 := Lib.hid ht2
        clear hcM hcN hne ht1 ht2
        generalize l[k] = x at *
        generalize r[k] = y at *
        obtain ⟨p, q, u⟩ := x
        obtain ⟨p', q', u'⟩ := y
        simp only at s0 s1 s2 t0 t1 t2
        by_cases e1 : p = p'
        · subst e1
          by_cases e2 : q = q'
          · subst e2
            by_cases e3 : u = u'
            · subst e3
              go_wp2_with fail
              go_region
              go_wp2_with fail
              go_roundw
              case rel => exact ⟨by obtain ⟨q, hq⟩ := HQ.out; exact ⟨q + 1, by rw [hq]; rfl⟩, k + 1, by omega, by go_num, show _ = _ by rw [HT1.out, HT2.out, HA.out]⟩
              case measure => simp [intOf] <;> omega
            · have HF := Lib.hid (HNE.out (by simp [e3]))
              go_wp2_with fail
              go_region
              go_wp2_with fail
              go_ret
              exact ⟨ret_bool HF.out.symm, by obtain ⟨q, hq⟩ := HQ.out; exact ⟨q + 1, by rw [hq]; rfl⟩⟩
          · have HF := Lib.hid (HNE.out (by simp [e2]))
            go_wp2_with fail
            go_region
            go_wp2_with fail
            go_ret
            exact ⟨ret_bool HF.out.symm, by obtain ⟨q, hq⟩ := HQ.out; exact ⟨q + 1, by rw [hq]; rfl⟩⟩
        · have HF := Lib.hid (HNE.out (by simp [e1]))
          go_wp2_with fail
          go_region
          go_wp2_with fail
          go_ret
          exact ⟨ret_bool HF.out.symm, by obtain ⟨q, hq⟩ := HQ.out; exact ⟨q + 1, by rw [hq]; rfl⟩⟩
      · have hk' : k = n := by omega
        subst hk'
        have he : v = true := by
          have h1 := HA.out
          rw [List.take_of_length_le (by have := HNL.out; omega), List.take_of_length_le (by have := HNL.out; have := HN.out; omega)] at h1
          rw [HV.out, h1]; simp
        have HD := Lib.hid he
        clear he
        go_wp2_with fail
        go_ret
        exact ⟨ret_bool HD.out.symm, HQ.out⟩
  · have hz : ((l.length : Int) != (r.length : Int)) = true := by simp; omega
    have he : v = false := by
      rw [HV.out, decide_eq_false_iff_not]
      intro e
      exact hn (by rw [e])
    have HF := Lib.hid he
    clear hn he
    go_enter Tryz.func21, Tryz.ntmps21
    go_wp2_with fail
    go_ret
    exact ⟨ret_bool HF.out.symm, 0, rfl⟩

theorem tsame_n (A B : Option Addr) (n m c d : Nat) (l r : List Node3) (w : World) (hn : l.length = n) (hm : r.length = m) (hA : Holds w A (nodesV l)) (hB : Holds w B (nodesV r)) (hl : n ≤ 1000000000) (v : Bool) (hv : v = decide (l = r)) :
    Calls Tryz.prog 21 #[.slice A n c, .slice B m d] w fun e w' => e = .returned (.bool v) ∧ Below w.heap.size w w' := by
  subst hn hm
  exact (tsame_any A B c d l r w hA hB hl v hv).mono fun e w' h => ⟨h.1, by obtain ⟨q, hq⟩ := h.2; rw [hq]; exact below_drewN (Below.refl _ _) q⟩
end Go.Proofs.YtfeodppdmbideaaGreatDoor
namespace Go.Proofs.YtfeodppdmbideaaGreatDoor
open Go.RowKit

set_option maxHeartbeats 2000000 in
theorem samerows_any (A B : Option Addr) (m c d : Nat) (l r : List RowT) (w : World) (hl : l.length = m) (hr : r.length = m) (hA : Holds w A (l.map rowV)) (hB : Holds w B (r.map rowV)) (hol : RowsOk w l) (hor : RowsOk w r) (hbig : ∀ x ∈ l, x.2.2.length ≤ 1000000000) (he : l.map (fun x => x.2.2) = r.map (fun x => x.2.2)) (hmb : m ≤ 100000000) :
    Calls Tryz.prog 166 #[.slice A m c, .slice B m d] w fun e w' => e = .returned (.bool true) ∧ Below w.heap.size w w' := by
  have HSM := Lib.hid (show ∀ k (h1 : k < l.length) (h2 : k < r.length) w', Below w.heap.size w w' → _ from fun k h1 h2 w' hb => tsame_n l[k].1 r[k].1 l[k].2.2.length r[k].2.2.length l[k].2.1 r[k].2.1 l[k].2.2 r[k].2.2 w' rfl rfl ((hol _ (List.getElem_mem h1)).2.below hb) ((hor _ (List.getElem_mem h2)).2.below hb) (hbig _ (List.getElem_mem h1)) true (by
    have : l[k].2.2 = r[k].2.2 := by
      have h := congrArg (fun q => q[k]?) he
      simp only [List.getElem?_map, List.getElem?_eq_getElem h1, List.getElem?_eq_getElem h2, Option.map_some, Option.some.injEq] at h
      exact h
    rw [this]; simp))
  have HEQ := Lib.hid (show ∀ k (h1 : k < l.length) (h2 : k < r.length), r[k].2.2.length = l[k].2.2.length from fun k h1 h2 => by
    have h := congrArg (fun q => q[k]?) he
    simp only [List.getElem?_map, List.getElem?_eq_getElem h1, List.getElem?_eq_getElem h2, Option.map_some, Option.some.injEq] at h
    rw [h])
  have HA := Lib.hid (show ∀ w', Below w.heap.size w w' → Holds w' A (l.map rowV) from fun w' hb => hA.below hb)
  have HB0 := Lib.hid (show ∀ w', Below w.heap.size w w' → Holds w' B (r.map rowV) from fun w' hb => hB.below hb)
  have HL := Lib.hid hl
  have HR := Lib.hid hr
  clear hA hB hol hor hbig he hl hr
  go_enter Tryz.func166, Tryz.ntmps166
  go_wp2_with fail
  go_loopw [5] (fun i wr => ∃ k : Nat, i = .int .i64 (k : Int) ∧ k ≤ m ∧ Hid (Below w.heap.size w wr)) (fun i _ => m - (intOf i).toNat)
  case atStart => exact ⟨0, rfl, Nat.zero_le _, Lib.hid (Below.refl _ _)⟩
  case round =>
    obtain ⟨k, rfl, hk, HB⟩ := hrel
    by_cases hlt : k < m
    · have h1 : k < l.length := by rw [HL.out]; exact hlt
      have h2 : k < r.length := by rw [HR.out]; exact hlt
      obtain ⟨b, o, rfl, hbl, hc⟩ := (HA.out _ HB.out).at_ (by rw [List.length_map]; omega)
      obtain ⟨b', o', rfl, hbl', hc'⟩ := (HB0.out _ HB.out).at_ (by rw [List.length_map]; omega)
      have r0 := hc k _ (rowsV_get h1)
      have q0 := hc' k _ (rowsV_get h2)
      have HS := Lib.hid (HSM.out k h1 h2 wr.drew (HB.out.trans (below_drewN (Below.refl _ _) 1)))
      rw [HEQ.out k h1 h2] at q0 HS
      clear hc hc'
      generalize l[k].2.2.length = nk at *
      generalize l[k].1 = Ak at *
      generalize l[k].2.1 = ck at *
      generalize r[k].1 = Bk at *
      generalize r[k].2.1 = dk at *
      have HSS : Hid ((fun W => W.cell? ⟨b, o + k, none⟩ = some (.slice Ak nk ck) ∧ W.cell? ⟨b', o' + k, none⟩ = some (.slice Bk nk dk)) wr.drew) := Lib.hid ⟨r0, q0⟩
      clear r0 q0
      go_wp2_with fail
      refine region_begin_any (S := fun W => W.cell? ⟨b, o + k, none⟩ = some (.slice Ak nk ck) ∧ W.cell? ⟨b', o' + k, none⟩ = some (.slice Bk nk dk)) (by kernel_rfl) (HSS.out) (fun W hW hHeld => ?_)
      subst hW
      refine region_take 0 ?_ rfl (by kernel_rfl) (by rfl) hHeld ?_ ?_
      rotate_left
      · intro w hSw
        (try dsimp only at hSw)
        go_simp
        try with_reducible rfl
      try simp only [Act.put, List.setIfInBounds_toArray, List.set_cons_zero, List.set_cons_succ]
      refine region_take 1 ?_ rfl (by kernel_rfl) (by rfl) hHeld ?_ ?_
      rotate_left
      · intro w hSw
        (try dsimp only at hSw)
        go_simp
        try with_reducible rfl
      try simp only [Act.put, List.setIfInBounds_toArray, List.set_cons_zero, List.set_cons_succ]
      refine region_take 2 ?_ rfl (by kernel_rfl) (by rfl) hHeld ?_ ?_
      rotate_left
      · intro w hSw
        (try dsimp only at hSw)
        go_simp
        try with_reducible rfl
      try simp only [Act.put, List.setIfInBounds_toArray, List.set_cons_zero, List.set_cons_succ]
      refine region_take 3 ?_ rfl (by kernel_rfl) (by rfl) hHeld ?_ ?_
      rotate_left
      · intro w hSw
        (try dsimp only at hSw)
        go_simp
        try with_reducible rfl
      try simp only [Act.put, List.setIfInBounds_toArray, List.set_cons_zero, List.set_cons_succ]
      refine region_take 4 ?_ rfl (by kernel_rfl) (by rfl) hHeld ?_ ?_
      rotate_left
      · intro w hSw
        (try dsimp only at hSw)
        go_simp
        try with_reducible rfl
      try simp only [Act.put, List.setIfInBounds_toArray, List.set_cons_zero, List.set_cons_succ]
      refine region_take 5 ?_ rfl (by kernel_rfl) (by rfl) hHeld ?_ ?_
      rotate_left
      · intro w hSw
        (try dsimp only at hSw)
        go_simp
        try with_reducible rfl
      try simp only [Act.put, List.setIfInBounds_toArray, List.set_cons_zero, List.set_cons_succ]
      refine region_take 6 ?_ rfl (by kernel_rfl) (by rfl) hHeld ?_ ?_
      rotate_left
      · intro w hSw
        (try dsimp only at hSw)
        go_simp
        try with_reducible rfl
      try simp only [Act.put, List.setIfInBounds_toArray, List.set_cons_zero, List.set_cons_succ]
      refine region_take 7 ?_ rfl (by kernel_rfl) (by rfl) hHeld ?_ ?_
      rotate_left
      · intro w hSw
        (try dsimp only at hSw)
        go_simp
        try with_reducible rfl
      try simp only [Act.put, List.setIfInBounds_toArray, List.set_cons_zero, List.set_cons_succ]
      refine region_call 8 rfl (by kernel_rfl) (by rfl) (fun K hK => ?_)
      go_simp
      refine (HS.out).mono ?_
      rintro e w3 ⟨rfl, hb3⟩
      refine hK.out _ _ (⟨(hb3.cell (by simp only; exact hbl)).trans hHeld.1, (hb3.cell (by simp only; exact hbl')).trans hHeld.2⟩) (fun hHeld => ?_)
      clear hK K
      have HB3 := Lib.hid hb3
      clear hb3
      try simp only [Act.put, List.setIfInBounds_toArray, List.set_cons_zero, List.set_cons_succ]
      refine region_take 9 ?_ rfl (by kernel_rfl) (by rfl) hHeld ?_ ?_
      rotate_left
      · intro w hSw
        (try dsimp only at hSw)
        go_simp
        try with_reducible rfl
      try simp only [Act.put, List.setIfInBounds_toArray, List.set_cons_zero, List.set_cons_succ]
      refine region_done (by kernel_rfl) ?_
      clear hHeld
      go_wp2_with fail
      go_roundw
      case rel => exact ⟨k + 1, by go_num, by omega, Lib.hid ((HB.out.trans (below_drewN (Below.refl _ _) 1)).trans (HB3.out.mono HB.out.size))⟩
      case measure => simp [intOf] <;> omega
    · go_wp2_with fail
      go_ret
      exact ⟨rfl, HB.out⟩
end Go.Proofs.YtfeodppdmbideaaGreatDoor
