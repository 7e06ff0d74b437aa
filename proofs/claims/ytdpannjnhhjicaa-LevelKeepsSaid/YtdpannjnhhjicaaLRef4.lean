/- The document's from. -/
import Derived.Test.YtdpannjnhhjicaaLRef3
namespace Go.Proofs.Ytdpannjnhhjicaa
open Go.RowKit

def zfold (l : List Int) (k : Nat) : List Int × Bool := (zeros k).foldl relaxT (l, false)
theorem zeros_succ (k : Nat) : zeros (k + 1) = zeros k ++ [((0 : Int), (0 : Int), (k : Int))] := by unfold zeros; rw [List.range_succ, List.map_append]; rfl
theorem zfold_succ (l : List Int) (k : Nat) : zfold l (k + 1) = relaxT (zfold l k) (0, 0, k) := by unfold zfold; rw [zeros_succ, List.foldl_append]; rfl
def efold (E : List Ord3) (x : List Int × Bool) (k : Nat) : List Int × Bool := (E.take k).foldl relaxT x
theorem efold_succ {E : List Ord3} (x : List Int × Bool) {k : Nat} (h : k < E.length) : efold E x (k + 1) = relaxT (efold E x k) E[k] := by unfold efold; rw [List.take_succ_eq_append_getElem h, List.foldl_append]; rfl
theorem round_folds (n : Nat) (E : List Ord3) (l : List Int) : roundT (steps n E) l = efold E (zfold l (n + 1)) E.length := by
  unfold roundT steps efold zfold
  rw [List.foldl_append, List.take_length]
theorem zeros_len (k : Nat) : (zeros k).length = k := by simp [zeros]
theorem zeros_in {n : Nat} {E : List Ord3} {k : Nat} (h : k ≤ n + 1) : ∀ s ∈ zeros k, s ∈ steps n E := by
  intro s hs
  unfold zeros at hs
  obtain ⟨v, hv, rfl⟩ := List.mem_map.1 hs
  rw [List.mem_range] at hv
  exact mem_steps.2 (Or.inl ⟨rfl, rfl, by simp, by simp; omega⟩)
theorem Good.zfold {n : Nat} {E : List Ord3} {low b : Int} {l : List Int} (hE : RightE n E) (h : Good n E low b l) {k : Nat} (hk : k ≤ n + 1) : Good n E low (b + 1000 * k) (zfold l k).1 := by
  have := Good.fold hE (zeros k) b (l, false) (zeros_in hk) h
  rwa [zeros_len] at this
theorem Good.efold {n : Nat} {E : List Ord3} {low b : Int} {x : List Int × Bool} (hE : RightE n E) (h : Good n E low b x.1) (k : Nat) : Good n E low (b + 1000 * (E.take k).length) (efold E x k).1 :=
  Good.fold hE (E.take k) b x (fun _ hs => mem_steps.2 (Or.inr (List.mem_of_mem_take hs))) h
theorem good_mono {n : Nat} {E : List Ord3} {low b b' : Int} {l : List Int} (h : Good n E low b l) (hb : b ≤ b') : Good n E low b' l := ⟨h.len, fun v h0 h1 hn => by have := h.way v h0 h1 hn; exact ⟨this.1, by omega, by omega⟩⟩
theorem relaxT_yes {x : List Int × Bool} {s : Ord3} (h : fires x.1 s = true) : relaxT x s = (x.1.set s.2.2.toNat (at0 x.1 s.1 + s.2.1), true) := by simp [relaxT, relax, h]
theorem relaxT_no {x : List Int × Bool} {s : Ord3} (h : fires x.1 s = false) : relaxT x s = x := by simp [relaxT, relax, h]
/-- Ints in a row of one's own. -/
def OwnI (w : World) (base g n : Nat) (l : List Int) : Prop := l.length = n ∧ w.ownsRow base 3 1 (.slice (some ⟨g, 0, none⟩) n n) n (intsV l)
namespace OwnI
variable {w w' : World} {base g n : Nat} {l : List Int}
theorem alloc (h : OwnI w base g n l) (o : Obj) : OwnI (w.alloc o) base g n l := ⟨h.1, h.2.alloc o⟩
theorem drewN (h : OwnI w base g n l) (k : Nat) : OwnI (w.drewN k) base g n l := h
theorem cell (h : OwnI w base g n l) {i : Nat} (hi : i < n) : w.cell? ⟨g, i, none⟩ = some (.int .i64 (at0 l i)) := by
  have hl : i < l.length := by rw [h.1]; exact hi
  have := h.2.cellAt i (by omega)
  rw [this, intsV_get hl]
  unfold at0
  rw [List.getD_eq_getElem?_getD, Int.toNat_natCast, List.getElem?_eq_getElem hl]
  rfl
theorem frozen (h : OwnI w base g n l) (i : Nat) : w.frozen? ⟨g, i, none⟩ = false := h.2.frozenAt i
theorem set_ (h : OwnI w base g n l) (i : Nat) (y : Int) : OwnI (w.setCell ⟨g, i, none⟩ (.int .i64 y)) base g n (l.set i y) :=
  ⟨by rw [List.length_set]; exact h.1, by rw [intsV_set]; exact (h.2.stored i (.int .i64 y)).1⟩
theorem base_le (h : OwnI w base g n l) : base ≤ g := (h.2.lt g rfl).1
theorem lt (h : OwnI w base g n l) : g < w.heap.size := (h.2.lt g rfl).2
end OwnI
def noneK (n k : Nat) : List Int := List.replicate k NONE ++ List.replicate (n - k) 0
theorem noneK_set {n k : Nat} (h : k < n) : (noneK n k).set k NONE = noneK n (k + 1) := by
  unfold noneK
  rw [List.set_append_right _ _ (by simp), List.length_replicate, Nat.sub_self, show n - k = (n - (k + 1)) + 1 by omega, List.replicate_succ, List.set_cons_zero, List.replicate_succ']
  simp
/-- What from answers. -/
inductive FromPost (n : Nat) (E : List Ord3) (low : Int) (w : World) : Ending → World → Prop
  | no (w' : World) : fromS n E low = none → Below w.heap.size w w' → FromPost n E low w (.returned (.tuple #[.slice none 0 0, .bool false])) w'
  | yes (w' : World) (g : Nat) (r : List Int) : fromS n E low = some r → OwnI w' w.heap.size g (n + 1) r → Below w.heap.size w w' → FromPost n E low w (.returned (.tuple #[.slice (some ⟨g, 0, none⟩) (n + 1) (n + 1), .bool true])) w'
set_option maxHeartbeats 8000000 in
set_option maxRecDepth 100000 in
theorem from_any (n : Nat) (A : Option Addr) (c : Nat) (E : List Ord3) (i0 : Nat) (w : World) (hn : n ≤ 16) (hl : E.length ≤ 64) (hA : Holds w A (ordsV E)) (hE : RightE n E) (h1 : i0 ≤ n) :
    Calls Try.prog 40 #[.int .i64 n, .slice A E.length c, .int .i64 i0] w (FromPost n E i0 w) := by
  obtain ⟨ii, hi, hz0, hz1, hz2⟩ := info_parts infoInt
  have HE := Lib.hid hE
  clear hE
  have p0 : 0 < E.length ∨ True := Or.inr trivial
  go_enter Try.func40, Try.ntmps40
  go_wp2_with (at_make; refine wpList_make_full _ rfl _ _ _ rfl w.heap.size 3 ii (.int .i64 0) 1 Try.underlying24 hi hz0 hz1 .i64 .i64 _ _ (n + 1) rfl rfl (by omega) (by omega) (by rw [hz2]; omega) (by unfold maxLen; omega) (Nat.le_refl _) ?_; intro w1 hown1 hg1)
  have hb1 := (Below.refl w.heap.size w).grown hg1 (Nat.le_refl _) (fun k hk => by cases hk)
  have hown : OwnI w1 w.heap.size w.heap.size (n + 1) (noneK (n + 1) 0) := by
    rw [show (Value.int .i64 0).cells = #[Value.int .i64 0] from rfl, Nat.mul_one, toList_madeCells_one, ← made_ints] at hown1
    exact ⟨by simp [noneK], by simpa [noneK] using hown1⟩
  clear hown1 hg1 p0
  go_loopw [9] (fun i wr => ∃ k : Nat, k ≤ n + 1 ∧ i = .int .i64 k ∧ OwnI wr w.heap.size w.heap.size (n + 1) (noneK (n + 1) k) ∧ Below w.heap.size w wr) (fun i _ => n + 1 - (intOf i).toNat)
  case atStart => exact ⟨0, by omega, rfl, hown, hb1⟩
  case round =>
    clear hown hb1
    obtain ⟨k, hk, rfl, hown, hb⟩ := hrel
    by_cases hlt : k < n + 1
    · have s0 := hown.cell hlt
      have s1 := hown.frozen k
      have hst := hown.set_ k NONE
      rw [noneK_set hlt] at hst
      unfold NONE at hst
      have q1 : (k : Int) ≤ (n : Int) := by omega
      go_wp2_with fail
      go_roundw
      case rel => exact ⟨k + 1, by omega, by go_num, hst, hb.setCell (Nat.le_refl _) _⟩
      case measure => simp [intOf] <;> omega
    · have hk' : k = n + 1 := by omega
      have q1 : ¬ (k : Int) ≤ (n : Int) := by omega
      have s0 := hown.cell (i := i0) (by omega)
      have s1 := hown.frozen i0
      have hst := hown.set_ i0 0
      have hin : (noneK (n + 1) k).set i0 0 = init n i0 := by rw [hk']; unfold noneK init; simp
      rw [hin] at hst
      have hbs : Below w.heap.size w (wr.setCell ⟨w.heap.size, i0, none⟩ (.int .i64 0)) := hb.setCell (Nat.le_refl _) _
      clear hin hk'
      go_wp2_with fail
      clear s0 s1 hown hb
      generalize wr.setCell ⟨w.heap.size, i0, none⟩ (.int .i64 0) = wo at *
      have HF0 : Hid (fromS n E i0 = roundsT (steps n E) (n + 2 - 0) (init n i0)) := (rfl : fromS n E i0 = roundsT (steps n E) (n + 2) (init n i0))
      have hg0 : Good n E i0 0 (init n i0) := init_good E (by omega) (by omega)
      go_loopw [10] (fun i wr => ∃ (r : Nat) (l : List Int), r ≤ n + 2 ∧ i = .int .i64 r ∧ OwnI wr w.heap.size w.heap.size (n + 1) l ∧ Hid (Good n E i0 (81000 * r) l) ∧ Hid (fromS n E i0 = roundsT (steps n E) (n + 2 - r) l) ∧ Below w.heap.size w wr) (fun i _ => n + 2 - (intOf i).toNat)
      case atStart => exact ⟨0, init n i0, by omega, rfl, hst, (by simpa using hg0 : Good n E i0 (81000 * (0 : Nat)) (init n i0)), HF0.out, hbs⟩
      case round =>
        clear hst hbs HF0 hg0 q1 hlt hk
        obtain ⟨r, l, hr, rfl, hown, HGd, HF, hb⟩ := hrel
        by_cases hlr : r < n + 2
        · have q1 : (r : Int) ≤ (n : Int) + 1 := by omega
          go_wp2_with fail
          obtain ⟨wo2, rfl⟩ : ∃ wo2 : World, wo2 = wr := ⟨_, rfl⟩
          go_loopw [11, 12] (fun t i wr => ∃ k : Nat, k ≤ n + 1 ∧ i = .int .i64 k ∧ t = .bool (zfold l k).2 ∧ OwnI wr w.heap.size w.heap.size (n + 1) (zfold l k).1 ∧ Below w.heap.size w wr) (fun _ i _ => n + 1 - (intOf i).toNat)
          case atStart => exact ⟨0, by omega, rfl, rfl, hown, hb⟩
          case round =>
            clear hown hb
            obtain ⟨k, hk, rfl, rfl, hown, hb⟩ := hrel
            by_cases hlt : k < n + 1
            · have hgd := HGd.out.zfold HE.out (k := k) (by omega)
              have q2 : (k : Int) ≤ (n : Int) := by omega
              have hz := zfold_succ l k
              have hyes : at0 (zfold l k).1 0 ≠ -1000000000 → at0 (zfold l k).1 k < at0 (zfold l k).1 0 → zfold l (k + 1) = ((zfold l k).1.set k (at0 (zfold l k).1 0), true) := fun h1 h2 => by
                rw [hz, relaxT_yes (fires_iff.2 ⟨h1, by simp only; omega⟩)]; simp
              have hno : ¬ (at0 (zfold l k).1 0 ≠ -1000000000 ∧ at0 (zfold l k).1 k < at0 (zfold l k).1 0) → zfold l (k + 1) = zfold l k := fun h => by
                rw [hz, relaxT_no (by
                  cases hf : fires (zfold l k).1 (0, 0, k)
                  · rfl
                  · have := fires_iff.1 hf
                    exact absurd ⟨this.1, by have := this.2; simp only at this; omega⟩ h)]
              have HY := Lib.hid hyes
              have HN := Lib.hid hno
              clear hyes hno hz
              have hlen : (zfold l k).1.length = n + 1 := hown.1
              generalize zfold l k = Z at *
              obtain ⟨L, T⟩ := Z
              simp only at hown hlen HY HN ⊢
              have s0 : wr.cell? ⟨w.heap.size, 0, none⟩ = some (.int .i64 (at0 L 0)) := hown.cell (i := 0) (by omega)
              by_cases hx : at0 L 0 = -1000000000
              · have hxb : (at0 L 0 != -1000000000) = false := by simp [hx]
                have HS := Lib.hid (HN.out (fun h => h.1 hx))
                clear hlen
                generalize at0 L 0 = x at *
                clear hx
                go_wp2_with fail
                go_quiet (fail)
                go_wp2_with fail
                go_roundw
                case rel => exact ⟨k + 1, by omega, by go_num, by rw [HS.out], by rw [HS.out]; exact hown.drewN _, below_drewN hb _⟩
                case measure => simp [intOf] <;> omega
              · have hxb : (at0 L 0 != -1000000000) = true := by simpa using hx
                cases k with
                | zero =>
                  have HS := Lib.hid (HN.out (fun h => by have := h.2; simp at this))
                  clear hlen
                  generalize at0 L 0 = x at *
                  clear hx
                  go_wp2_with fail
                  go_quiet (fail)
                  go_wp2_with fail
                  go_roundw
                  case rel => exact ⟨0 + 1, by omega, by go_num, by rw [HS.out], by rw [HS.out]; exact hown.drewN _, below_drewN hb _⟩
                  case measure => simp [intOf] <;> omega
                | succ k =>
                  have sk := hown.cell (i := k + 1) hlt
                  have fk := hown.frozen (k + 1)
                  by_cases hc : at0 L ((k + 1 : Nat) : Int) < at0 L 0
                  · have HS := Lib.hid (HY.out hx hc)
                    have hset := fun q => (hown.drewN q).set_ (k + 1) (at0 L 0)
                    generalize at0 L ((k + 1 : Nat) : Int) = y at *
                    generalize at0 L 0 = x at *
                    clear hx hlen
                    go_wp2_with fail
                    go_quiet (fail)
                    go_wp2_with fail
                    go_roundw
                    case rel => exact ⟨k + 1 + 1, by omega, by go_num, by rw [HS.out], by rw [HS.out]; exact hset _, (below_drewN hb _).setCell (Nat.le_refl _) _⟩
                    case measure => simp [intOf] <;> omega
                  · have HS := Lib.hid (HN.out (fun h => hc h.2))
                    generalize at0 L ((k + 1 : Nat) : Int) = y at *
                    generalize at0 L 0 = x at *
                    clear hx hlen
                    go_wp2_with fail
                    go_quiet (fail)
                    go_wp2_with fail
                    go_roundw
                    case rel => exact ⟨k + 1 + 1, by omega, by go_num, by rw [HS.out], by rw [HS.out]; exact hown.drewN _, below_drewN hb _⟩
                    case measure => simp [intOf] <;> omega
            · have q2 : ¬ (k : Int) ≤ (n : Int) := by omega
              go_wp2_with fail
              have hk' : k = n + 1 := by omega
              have hgd := HGd.out.zfold HE.out (k := n + 1) (by omega)
              have hrf := round_folds n E l
              obtain ⟨X, hX⟩ : ∃ X, zfold l k = X := ⟨_, rfl⟩
              rw [show zfold l (n + 1) = X by rw [← hk', hX]] at hgd hrf
              rw [hX] at hown ⊢
              have HX := Lib.hid hrf
              have HGd2 := Lib.hid hgd
              clear hX hrf hk' hgd hk hlt
              obtain ⟨wo3, rfl⟩ : ∃ wo3 : World, wo3 = wr := ⟨_, rfl⟩
              go_loopw [11, 13] (fun t i wr => ∃ k : Nat, k ≤ E.length ∧ i = .int .i64 k ∧ t = .bool (efold E X k).2 ∧ OwnI wr w.heap.size w.heap.size (n + 1) (efold E X k).1 ∧ Below w.heap.size w wr) (fun _ i _ => E.length - (intOf i).toNat)
              case atStart => exact ⟨0, by omega, rfl, rfl, hown, hb⟩
              case round =>
                clear hown hb
                obtain ⟨k, hk, rfl, rfl, hown, hb⟩ := hrel
                by_cases hlt : k < E.length
                · have hro := HE.out _ (List.getElem_mem hlt)
                  have hgd := HGd2.out.efold HE.out k
                  have htk : (E.take k).length = k := by rw [List.length_take]; omega
                  rw [htk] at hgd
                  obtain ⟨b, o, rfl, hb0, hc⟩ := (hA.below hb).at_ (by rw [ordsV_len]; omega)
                  have s0 := hc (k * 3) _ (ordsV_get0 hlt)
                  have s1 := hc (k * 3 + 1) _ (ordsV_get1 hlt)
                  have s2 := hc (k * 3 + 2) _ (ordsV_get2 hlt)
                  rw [← Nat.add_assoc] at s1 s2
                  have hz := efold_succ X hlt
                  generalize E[k] = x at *
                  obtain ⟨lo, ad, hi⟩ := x
                  unfold RightO at hro
                  simp only at s0 s1 s2 hro hz
                  obtain ⟨⟨hlo0, hlo1⟩, ⟨hhi0, hhi1⟩, had0, had1⟩ := hro
                  obtain ⟨i, rfl⟩ : ∃ i : Nat, lo = i := ⟨lo.toNat, by omega⟩
                  obtain ⟨j, rfl⟩ : ∃ j : Nat, hi = j := ⟨hi.toNat, by omega⟩
                  have hw0 := hgd.way i (by omega) (by omega)
                  have hyes : at0 (efold E X k).1 i ≠ -1000000000 → at0 (efold E X k).1 j < at0 (efold E X k).1 i + ad → efold E X (k + 1) = ((efold E X k).1.set j (at0 (efold E X k).1 i + ad), true) := fun h1 h2 => by
                    rw [hz, relaxT_yes (fires_iff.2 ⟨h1, h2⟩)]; simp
                  have hno : ¬ (at0 (efold E X k).1 i ≠ -1000000000 ∧ at0 (efold E X k).1 j < at0 (efold E X k).1 i + ad) → efold E X (k + 1) = efold E X k := fun h => by
                    rw [hz, relaxT_no (by
                      cases hf : fires (efold E X k).1 (i, ad, j)
                      · rfl
                      · exact absurd (fires_iff.1 hf) h)]
                  have HY := Lib.hid hyes
                  have HN := Lib.hid hno
                  have hbx : at0 (efold E X k).1 i ≠ -1000000000 → -10000000 ≤ at0 (efold E X k).1 i ∧ at0 (efold E X k).1 i ≤ 10000000 := fun h => by
                    have := (hw0 h).2
                    have hr18 : r ≤ 18 := by omega
                    omega
                  clear hyes hno hz hgd hw0 hc htk
                  generalize efold E X k = Z at *
                  obtain ⟨L, T⟩ := Z
                  simp only at hown hbx HY HN ⊢
                  have t0 := (hown.alloc (.cells #[.int .i64 i, .int .i64 ad, .int .i64 j] 53)).cell (i := i) (by omega)
                  have t1 := (hown.alloc (.cells #[.int .i64 i, .int .i64 ad, .int .i64 j] 53)).cell (i := j) (by omega)
                  have t2 := (hown.alloc (.cells #[.int .i64 i, .int .i64 ad, .int .i64 j] 53)).frozen j
                  have c0 := hown.cell (i := i) (by omega)
                  have c1 := hown.cell (i := j) (by omega)
                  have hgl := hown.lt
                  by_cases hx : at0 L i = -1000000000
                  · have hxb : (at0 L i != -1000000000) = false := by simp [hx]
                    have HS := Lib.hid (HN.out (fun h => h.1 hx))
                    clear hbx
                    generalize at0 L j = y at *
                    generalize at0 L i = x at *
                    clear hx
                    go_wp2_with fail
                    go_quiet (fail)
                    go_wp2_with fail
                    go_roundw
                    case rel => exact ⟨k + 1, by omega, by go_num, by rw [HS.out], by rw [HS.out]; exact (hown.alloc _).drewN _, below_drewN (hb.alloc hb.size _) _⟩
                    case measure => simp [intOf] <;> omega
                  · have hxb : (at0 L i != -1000000000) = true := by simpa using hx
                    have hbb := hbx hx
                    have e1 : IntKind.i64.wrap (at0 L i + ad) = at0 L i + ad := IntWalk.i64_in _ (by omega)
                    by_cases hcc : at0 L j < at0 L i + ad
                    · have HS := Lib.hid (HY.out hx hcc)
                      have hset := Lib.hid fun q => ((hown.alloc (.cells #[.int .i64 i, .int .i64 ad, .int .i64 j] 53)).drewN q).set_ j (at0 L i + ad)
                      generalize at0 L j = y at *
                      generalize at0 L i = x at *
                      clear hx hbx
                      go_wp2_with fail
                      go_quiet (fail)
                      go_wp2_with fail
                      go_region
                      go_wp2_with fail
                      exact ⟨⟨k + 1, by omega, by go_num, by rw [HS.out], by rw [HS.out]; exact hset.out _, (below_drewN (hb.alloc hb.size _) _).setCell (Nat.le_refl _) _⟩, by simp [intOf] <;> omega⟩
                    · have HS := Lib.hid (HN.out (fun h => hcc h.2))
                      generalize at0 L j = y at *
                      generalize at0 L i = x at *
                      clear hx hbx
                      go_wp2_with fail
                      go_quiet (fail)
                      go_wp2_with fail
                      go_roundw
                      case rel => exact ⟨k + 1, by omega, by go_num, by rw [HS.out], by rw [HS.out]; exact (hown.alloc _).drewN _, below_drewN (hb.alloc hb.size _) _⟩
                      case measure => simp [intOf] <;> omega
                · have hk' : k = E.length := by omega
                  have hsl : (steps n E).length ≤ 81 := by simp [steps, zeros]; omega
                  have hgn : Good n E i0 (81000 * (r + 1 : Nat)) (roundT (steps n E) l).1 := good_mono (Good.fold HE.out (steps n E) (81000 * r) (l, false) (fun _ hs => hs) HGd.out) (by omega)
                  have hfr : fromS n E i0 = if (roundT (steps n E) l).2 then roundsT (steps n E) (n + 2 - (r + 1)) (roundT (steps n E) l).1 else some (roundT (steps n E) l).1 := by
                    rw [HF.out, show n + 2 - r = (n + 2 - (r + 1)) + 1 by omega]; rfl
                  obtain ⟨Z, hZ⟩ : ∃ Z, efold E X k = Z := ⟨_, rfl⟩
                  rw [HX.out, show efold E X E.length = Z by rw [← hk', hZ]] at hgn hfr
                  rw [hZ] at hown
                  obtain ⟨L, T⟩ := Z
                  simp only at hgn hfr hown
                  have HG2 := Lib.hid hgn
                  have HF2 := Lib.hid hfr
                  have HZ := Lib.hid hZ
                  clear hZ hgn hfr hsl hk'
                  cases T with
                  | true =>
                    have HF3 := Lib.hid (HF2.out.trans (if_pos rfl))
                    have HT : Hid ((efold E X k).2 = true) := show _ = _ by rw [HZ.out]
                    have hT : (efold E X k).2 = true := HT.out
                    go_wp2_with fail
                    go_roundw
                    case rel => exact ⟨r + 1, L, by omega, by go_num, hown, HG2.out, HF3.out, hb⟩
                    case measure => simp [intOf] <;> omega
                  | false =>
                    have HF3 := Lib.hid (HF2.out.trans (if_neg (by simp)))
                    have hT : (efold E X k).2 = false := by rw [HZ.out]
                    go_wp2_with fail
                    go_ret2
                    exact .yes _ _ L HF3.out hown hb
        · have HN : Hid (fromS n E i0 = none) := show _ = _ by rw [HF.out, show n + 2 - r = 0 by omega]; rfl
          have q1 : ¬ (r : Int) ≤ (n : Int) + 1 := by omega
          go_wp2_with fail
          go_ret2
          exact .no _ HN.out hb
end Go.Proofs.Ytdpannjnhhjicaa
