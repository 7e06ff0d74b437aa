/- merge of the program. -/
import Derived.Test.YtdpannjnhhjicaaLConcat
namespace Go.Proofs.Ytdpannjnhhjicaa
open Go.RowKit

/-- Where the rest of a slice begins: behind the last element the address stays. -/
def tailA (b o c : Nat) : Option Addr := if c = 1 then some ⟨b, o, none⟩ else some ⟨b, o + 2, none⟩
theorem tail_run (b o k c : Nat) (w : World) : (Instr.slice 23 (.slice (some ⟨b, o, none⟩) (k + 1) c) (some (.int .i64 1)) none none).run Try.prog w = .ok (.slice (tailA b o c) k (c - 1)) w := by
  have hz : (sizeOf (Try.prog.elem 23)).run Try.prog w = .ok 2 w := by kernel_rfl
  rw [run_slice_l (P := Try.prog) (t := 23) (len := k + 1) (cap := c) (ht := by kernel_rfl) (kl := .i64) (l := 1) (h0 := by omega) (h1 := by omega), hz]
  have e : (1 : Int).toNat = 1 := rfl
  simp only [Result.andThen, sliced, e, tailA]
  by_cases h : c = 1
  · simp [h]
  · simp [h, add_off]
theorem tail_at {w : World} {b o k c : Nat} {x : Atom2} {l : List Atom2} (h : LevelAt w (some ⟨b, o, none⟩) (k + 1) c (x :: l)) : LevelAt w (tailA b o c) k (c - 1) l := by
  obtain ⟨h1, h2, h3⟩ := h
  have hk : l.length = k := by simpa using h1
  have hc := h2.1
  have hc2 := h2.2.1
  refine ⟨hk, ⟨by omega, by omega, fun e => ?_⟩, fun hn => ?_⟩
  · unfold tailA at e; split at e <;> cases e
  · rw [atomsV_len] at hn
    unfold tailA
    rw [if_neg (by omega)]
    refine ⟨b, o + 2, rfl, fun j u hu => ?_⟩
    have := h3.cell (j := j + 2) (u := u) (by rw [atomsV_cons, List.getElem?_append_right (by simp [atomV])]; simpa [atomV] using hu)
    rwa [show o + 2 + j = o + (j + 2) by omega]
/-- A pointer to an atom of one's own. -/
def AtomAt (w : World) (g : Nat) (x : Atom2) : Prop := w.cell? ⟨g, 0, none⟩ = some (.int .i64 x.1) ∧ w.cell? ⟨g, 1, none⟩ = some (.int .i64 x.2) ∧ w.frozen? ⟨g, 1, none⟩ = false
theorem cell_set_same {w : World} {g i : Nat} {v : Value} (u : Value) (h : w.cell? ⟨g, i, none⟩ = some v) : (w.setCell ⟨g, i, none⟩ u).cell? ⟨g, i, none⟩ = some u := World.cell?_setCell_same _ _ _ h
theorem cell_set_other {w : World} {g i j : Nat} {v : Value} (u : Value) (hij : j ≠ i) (h : w.cell? ⟨g, j, none⟩ = some v) : (w.setCell ⟨g, i, none⟩ u).cell? ⟨g, j, none⟩ = some v := by
  rw [World.cell?_setCell_other]
  · exact h
  · intro e; cases e; omega
theorem grown_set (w : World) (g i : Nat) (u : Value) : w.grownBy (w.setCell ⟨g, i, none⟩ u) (some g) := ⟨rfl, rfl, rfl, by simp [World.setCell], fun k _ hk => Below.heap_setCell _ _ _ _ (fun e => hk (by rw [e]))⟩
def lenV : Value → Nat
  | .slice _ n _ => n
  | _ => 0
/-- What holds at the head of each round: what is done, and what is left. -/
def MergeAt (w : World) (N : Nat) (a b : List Atom2) (s t v : Value) (wr : World) : Prop := ∃ (A' B' : Option Addr) (n' m' c' d' : Nat) (a' b' o : List Atom2), s = .slice A' n' c' ∧ t = .slice B' m' d' ∧ LevelAt w A' n' c' a' ∧ LevelAt w B' m' d' b' ∧ o.length + n' + m' ≤ N ∧ OwnA wr w.heap.size v o ∧ Hid (mergeS a b = o ++ mergeS a' b') ∧ Below w.heap.size w wr
theorem own_snoc {w : World} {base g cap : Nat} {o : List Atom2} {x : Atom2} (h : w.ownsRow base 57 2 (.slice (some ⟨g, 0, none⟩) (o.length + 1) cap) (o.length + 1) (atomsV o ++ [.int .i64 x.1, .int .i64 x.2])) : OwnA w base (.slice (some ⟨g, 0, none⟩) (o.length + 1) cap) (o ++ [x]) := by
  unfold OwnA
  rw [List.length_append, atomsV_append]
  exact h
set_option maxHeartbeats 8000000 in
theorem merge_loop (A B : Option Addr) (n m c d : Nat) (a b : List Atom2) (w : World) (hA : LevelAt w A n c a) (hB : LevelAt w B m d b) (hn : n ≤ 4) (hm : m ≤ 4) (hp : 0 < (mergeS a b).length) :
    Calls Try.prog 34 #[.slice A n c, .slice B m d] w (ConcatPost (mergeS a b) w) := by
  obtain ⟨i0, hi0, hz0, hz1, hz2⟩ := info_parts infoAtom
  have HP := Lib.hid hp
  clear hp
  go_enter Try.func34, Try.ntmps34
  go_wp2_with fail
  go_loopw [0, 1, 5] (fun s t v wr => MergeAt w (n + m) a b s t v wr) (fun s t _ _ => lenV s + lenV t)
  case atStart => exact ⟨A, B, n, m, c, d, a, b, [], rfl, rfl, hA, hB, by simp, OwnA.nil _ _, rfl, Below.refl _ _⟩
  case round =>
    clear hA hB
    obtain ⟨A', B', n', m', c', d', a', b', o, rfl, rfl, hA', hB', ho, hown, HK, hb⟩ := hrel
    cases a' with
    | nil =>
      obtain rfl : n' = 0 := by have := hA'.1; simpa using this.symm
      have HT : Hid (mergeS a b = o ++ [] ++ b') := show _ = _ by rw [HK.out]; simp [mergeS]
      obtain ⟨Ao, co, rfl, hlo⟩ := hown.level
      have hpo := congrArg List.length HT.out
      have hpp := HP.out
      have hla := hA'.1
      have hlb := hB'.1
      simp only [List.length_append] at hpo
      rw [hpo] at hpp
      have HPP := Lib.hid hpp
      have HLA := Lib.hid hla
      have HLB := Lib.hid hlb
      have HC := Lib.hid (concat_any wr.heap.size Ao A' B' o.length 0 m' co c' d' o [] b' (wr.alloc (.cells #[.slice Ao o.length co, .slice A' 0 c', .slice B' m' d'] 23)) (holds_at wr _ _ _ rfl) (hlo.alloc _) ((hA'.below hb).alloc _) ((hB'.below hb).alloc _) (by simp at *; omega) (by simp at *; omega))
      have hb' := hb.alloc hb.size (.cells #[.slice Ao o.length co, .slice A' 0 c', .slice B' m' d'] 23)
      clear hpo hpp hla hlb
      go_wp2_with fail
      refine HC.out.mono ?_
      rintro e w1 ⟨v, rfl, hv, hb1⟩
      have hb2 := below_step hb' hb1
      have hv2 : OwnA w1 w.heap.size v (mergeS a b) := by
        rw [HT.out]
        exact own_base hv hb'.size
      clear hv hb1 hb' hb
      go_wp2_with fail
      go_ret
      exact ⟨v, rfl, hv2, hb2⟩
    | cons x a' =>
      cases b' with
      | nil =>
        obtain rfl : m' = 0 := by have := hB'.1; simpa using this.symm
        have HT : Hid (mergeS a b = o ++ (x :: a') ++ []) := show _ = _ by rw [HK.out]; simp [mergeS_nil]
        obtain ⟨k, rfl⟩ : ∃ k, n' = k + 1 := ⟨a'.length, by simpa using hA'.1.symm⟩
        have p1 : (0 : Int) < (k : Int) + 1 := by omega
        obtain ⟨Ao, co, rfl, hlo⟩ := hown.level
        have hpo := congrArg List.length HT.out
        have hpp := HP.out
        have hla := hA'.1
        have hlb := hB'.1
        simp only [List.length_append] at hpo
        rw [hpo] at hpp
        have HPP := Lib.hid hpp
        have HLA := Lib.hid hla
        have HLB := Lib.hid hlb
        have HC := Lib.hid (concat_any wr.heap.size Ao A' B' o.length (k + 1) 0 co c' d' o (x :: a') [] (wr.alloc (.cells #[.slice Ao o.length co, .slice A' (k + 1) c', .slice B' 0 d'] 23)) (holds_at wr _ _ _ rfl) (hlo.alloc _) ((hA'.below hb).alloc _) ((hB'.below hb).alloc _) (by simp at *; omega) (by simp at *; omega))
        have hb' := hb.alloc hb.size (.cells #[.slice Ao o.length co, .slice A' (k + 1) c', .slice B' 0 d'] 23)
        clear hpo hpp hla hlb
        go_wp2_with fail
        refine HC.out.mono ?_
        rintro e w1 ⟨v, rfl, hv, hb1⟩
        have hb2 := below_step hb' hb1
        have hv2 : OwnA w1 w.heap.size v (mergeS a b) := by
          rw [HT.out]
          exact own_base hv hb'.size
        clear hv hb1 hb' hb
        go_wp2_with fail
        go_ret
        exact ⟨v, rfl, hv2, hb2⟩
      | cons y b' =>
        have HA0 := Lib.hid hA'
        have HB0 := Lib.hid hB'
        obtain ⟨hl1, hs1, hh1⟩ := hA'.below hb
        obtain ⟨hl2, hs2, hh2⟩ := hB'.below hb
        clear hA' hB'
        obtain ⟨b1, o1, rfl, hb1, hc1⟩ := hh1.at_ (by rw [atomsV_len]; simp)
        obtain ⟨b2, o2, rfl, hb2, hc2⟩ := hh2.at_ (by rw [atomsV_len]; simp)
        have s0 := hc1 0 _ (atomsV_get0 (j := 0) (by simp))
        have s1 := hc1 1 _ (atomsV_get1 (j := 0) (by simp))
        have t0 := hc2 0 _ (atomsV_get0 (j := 0) (by simp))
        have t1 := hc2 1 _ (atomsV_get1 (j := 0) (by simp))
        simp only [Nat.add_zero, List.getElem_cons_zero] at s0 s1 t0 t1
        obtain ⟨k, rfl⟩ : ∃ k, n' = k + 1 := ⟨a'.length, by simpa using hl1.symm⟩
        obtain ⟨q, rfl⟩ : ∃ q, m' = q + 1 := ⟨b'.length, by simpa using hl2.symm⟩
        have p1 : (0 : Int) < (k : Int) + 1 := by omega
        have p2 : (0 : Int) < (q : Int) + 1 := by omega
        have hsl1 := tail_run b1 o1 k c'
        have hsl2 := tail_run b2 o2 q d'
        clear hc1 hc2 hh1 hh2 hl1 hl2 hs1 hs2
        obtain ⟨u1, u2⟩ := x
        obtain ⟨v1, v2⟩ := y
        simp only at s0 s1 t0 t1
        go_upto_region 3 with fail
        go_cut [6, 7] from 8 to 59 (fun s6 s7 wx => ∃ gl gh : Nat, s6 = .pointer (some ⟨gl, 0, none⟩) ∧ s7 = .pointer (some ⟨gh, 0, none⟩) ∧ wr.heap.size ≤ gl ∧ wr.heap.size ≤ gh ∧ gl < wx.heap.size ∧ gh < wx.heap.size ∧ gl ≠ gh ∧ AtomAt wx gl (u1, u2) ∧ AtomAt wx gh (v1, v2) ∧ Below wr.heap.size wr wx)
        case first =>
          go_region
          · go_wp2_with fail
            go_meet
            exact ⟨wr.heap.size, wr.heap.size + 1, rfl, rfl, by omega, by omega, by simp; omega, by simp, by omega, ⟨by simp, by simp, by simp⟩, ⟨by simp, by simp, by simp⟩, (((Below.refl _ _).alloc (Nat.le_refl _) _).alloc (by simp) _).drew⟩
          · go_wp2_with fail
            go_meet
            exact ⟨wr.heap.size + 1, wr.heap.size, rfl, rfl, by omega, by omega, by simp, by simp; omega, by omega, ⟨by simp, by simp, by simp⟩, ⟨by simp, by simp, by simp⟩, (((Below.refl _ _).alloc (Nat.le_refl _) _).alloc (by simp) _).drew⟩
        case rest =>
          obtain ⟨gl, gh, rfl, rfl, gl0, gh0, gl1, gh1, gne, ⟨x0, x1, xf⟩, ⟨y0, y1, yf⟩, hbx⟩ := hcut
          have hown1 := hown.below hbx
          have hbx' := below_step hb hbx
          have hfl : u5.ownBlock ≠ some gl := fun e => by have := (hown.lt _ e).2; omega
          have hfh : u5.ownBlock ≠ some gh := fun e => by have := (hown.lt _ e).2; omega
          have hbw := hb.size
          clear s0 s1 t0 t1 hb1 hb2 hb hown
          simp only at x0 x1 y0 y1
          by_cases hlt : u1 < v1
          · have HM := Lib.hid (merge_lo (x := (u1, u2)) (y := (v1, v2)) (a := a') (b := b') hlt)
            go_wp2_with fail
            go_region_held3 (fun w' => w'.cell? ⟨gl, 0, none⟩ = some (.int .i64 u1) ∧ w'.cell? ⟨gl, 1, none⟩ = some (.int .i64 u2))
              (first
                | go_keep
                | (go_split_ands
                   refine ⟨?_, ?_⟩
                   · (rw [hgrow.cell_far _ (by simp; omega) (Ne.symm hfl)]; assumption)
                   · (rw [hgrow.cell_far _ (by simp; omega) (Ne.symm hfl)]; assumption)))
              ((refine step_append_lies _ (by rfl) _ _ _ (by rfl) w.heap.size 57 i0 _ 2 16 Try.underlying23 hi0 hz0 hz1 hz2 rfl (by omega) u5 o.length (atomsV o) (by rfl) ((hown1.alloc _).drew)
                  ⟨wc.heap.size, 0, none⟩ 1 1 [.int .i64 u1, .int .i64 u2] (by rfl) (by rfl) (World.news_of_block (cs := #[.int .i64 u1, .int .i64 u2]) (t := 57) (fr := (0, 0)) (heap_alloc_new wc _)) (by simp [Value.oneCell'])
                  (by omega) (by unfold maxLen; omega) (by omega) (by have := hbx'.size; simp; omega) (wc.heap.size + 1) (by simp) ?_; intro gg cap w1 hown2 hgrow hat hlt2))
            go_wp2_with fail
            have hbe := (hbx'.alloc hbx'.size (.cells #[.int .i64 u1, .int .i64 u2] 57)).drew.grown hgrow (by have := hbx'.size; simp; omega) (fun k hk => (hown1.lt k hk).1)
            go_roundw
            case rel => exact ⟨_, _, _, _, _, _, a', (v1, v2) :: b', o ++ [(u1, u2)], rfl, rfl, tail_at HA0.out, HB0.out, by simp only [List.length_append, List.length_singleton]; omega, own_snoc hown2, show _ = _ by rw [HK.out, HM.out, List.append_assoc]; rfl, hbe⟩
            case measure => simp [lenV]
          · by_cases hgt : v1 < u1
            · have HM := Lib.hid (merge_hi (x := (u1, u2)) (y := (v1, v2)) (a := a') (b := b') hgt)
              go_wp2_with fail
              go_region_held3 (fun w' => w'.cell? ⟨gh, 0, none⟩ = some (.int .i64 v1) ∧ w'.cell? ⟨gh, 1, none⟩ = some (.int .i64 v2))
                (first
                  | go_keep
                  | (go_split_ands
                     refine ⟨?_, ?_⟩
                     · (rw [hgrow.cell_far _ (by simp; omega) (Ne.symm hfh)]; assumption)
                     · (rw [hgrow.cell_far _ (by simp; omega) (Ne.symm hfh)]; assumption)))
                ((refine step_append_lies _ (by rfl) _ _ _ (by rfl) w.heap.size 57 i0 _ 2 16 Try.underlying23 hi0 hz0 hz1 hz2 rfl (by omega) u5 o.length (atomsV o) (by rfl) ((hown1.alloc _).drew)
                    ⟨wc.heap.size, 0, none⟩ 1 1 [.int .i64 v1, .int .i64 v2] (by rfl) (by rfl) (World.news_of_block (cs := #[.int .i64 v1, .int .i64 v2]) (t := 57) (fr := (0, 0)) (heap_alloc_new wc _)) (by simp [Value.oneCell'])
                    (by omega) (by unfold maxLen; omega) (by omega) (by have := hbx'.size; simp; omega) (wc.heap.size + 1) (by simp) ?_; intro gg cap w1 hown2 hgrow hat hlt2))
              go_wp2_with fail
              have hbe := (hbx'.alloc hbx'.size (.cells #[.int .i64 v1, .int .i64 v2] 57)).drew.grown hgrow (by have := hbx'.size; simp; omega) (fun k hk => (hown1.lt k hk).1)
              go_roundw
              case rel => exact ⟨_, _, _, _, _, _, (u1, u2) :: a', b', o ++ [(v1, v2)], rfl, rfl, HA0.out, tail_at HB0.out, by simp only [List.length_append, List.length_singleton]; omega, own_snoc hown2, show _ = _ by rw [HK.out, HM.out, List.append_assoc]; rfl, hbe⟩
              case measure => simp [lenV]
            · have HM := Lib.hid (merge_eq (x := (u1, u2)) (y := (v1, v2)) (a := a') (b := b') (by simp only; omega))
              go_upto_region 5 with fail
              generalize hzz : (if u2 < v2 then v2 else u2) = z
              have hz : z = max u2 v2 := by rw [← hzz]; split <;> omega
              have HZ := Lib.hid hz
              clear hzz hz
              have z0 := cell_set_other (w := wc) (g := gl) (i := 1) (j := 0) (.int .i64 z) (by omega) x0
              have z1 := cell_set_same (w := wc) (g := gl) (i := 1) (.int .i64 z) x1
              have hgz := grown_set wc gl 1 (.int .i64 z)
              have hownz : OwnA (wc.setCell ⟨gl, 1, none⟩ (.int .i64 z)) w.heap.size u5 o := World.ownsRow.kept hown1 hgz (Or.inr hfl)
              have hbz : Below w.heap.size w (wc.setCell ⟨gl, 1, none⟩ (.int .i64 z)) := hbx'.setCell (by show w.heap.size ≤ gl; omega) _
              have hsz : gl < (wc.setCell ⟨gl, 1, none⟩ (.int .i64 z)).heap.size := World.block_lt_of_cell? _ _ z0
              clear x0 x1 xf y0 y1 yf hgz
              generalize wc.setCell ⟨gl, 1, none⟩ (.int .i64 z) = wz at *
              go_region_held3 (fun w' => w'.cell? ⟨gl, 0, none⟩ = some (.int .i64 u1) ∧ w'.cell? ⟨gl, 1, none⟩ = some (.int .i64 z))
                (first
                  | go_keep
                  | (go_split_ands
                     refine ⟨?_, ?_⟩
                     · (rw [hgrow.cell_far _ (by simp; omega) (Ne.symm hfl)]; assumption)
                     · (rw [hgrow.cell_far _ (by simp; omega) (Ne.symm hfl)]; assumption)))
                ((refine step_append_lies _ (by rfl) _ _ _ (by rfl) w.heap.size 57 i0 _ 2 16 Try.underlying23 hi0 hz0 hz1 hz2 rfl (by omega) u5 o.length (atomsV o) (by rfl) ((hownz.alloc _).drew)
                    ⟨wz.heap.size, 0, none⟩ 1 1 [.int .i64 u1, .int .i64 z] (by rfl) (by rfl) (World.news_of_block (cs := #[.int .i64 u1, .int .i64 z]) (t := 57) (fr := (0, 0)) (heap_alloc_new wz _)) (by simp [Value.oneCell'])
                    (by omega) (by unfold maxLen; omega) (by omega) (by have := hbz.size; simp; omega) (wz.heap.size + 1) (by simp) ?_; intro gg cap w1 hown2 hgrow hat hlt2))
              go_wp2_with fail
              have hbe := (hbz.alloc hbz.size (.cells #[.int .i64 u1, .int .i64 z] 57)).drew.grown hgrow (by have := hbz.size; simp; omega) (fun k hk => (hownz.lt k hk).1)
              go_roundw
              case rel => exact ⟨_, _, _, _, _, _, a', b', o ++ [(u1, z)], rfl, rfl, tail_at HA0.out, tail_at HB0.out, by simp only [List.length_append, List.length_singleton]; omega, own_snoc hown2, show _ = _ by rw [HK.out, HM.out, HZ.out, List.append_assoc]; rfl, hbe⟩
              case measure => simp [lenV] <;> omega
end Go.Proofs.Ytdpannjnhhjicaa
