/- A reader in memory. -/
import Derived.Test.YtbpbokdomdmclaaOParse
namespace Go.Proofs.Ytbpbokdomdmclaa
open Go.RowKit

/-- What a method of the object at block g may have changed: that block, and new ones. -/
def Touch (g : Nat) (w w' : World) : Prop := w.grownBy w' (some g)
namespace Touch
variable {g : Nat} {a w w' : World}
theorem refl (g : Nat) (w : World) : Touch g w w := World.grownBy.refl w _
theorem trans (h : Touch g a w) (k : Touch g w w') : Touch g a w' :=
  ⟨k.os.trans h.os, k.tape.trans h.tape, k.output.trans h.output, Nat.le_trans h.size k.size, fun i hi hne => (k.block i (Nat.lt_of_lt_of_le hi h.size) hne).trans (h.block i hi hne)⟩
theorem of_below (h : Below w.heap.size w w') : Touch g w w' := ⟨h.os, h.tape, h.output, h.size, fun k hk _ => h.block k hk⟩
theorem set_ (h : Touch g a w) (i : Nat) (u : Value) : Touch g a (w.setCell ⟨g, i, none⟩ u) :=
  h.trans ⟨rfl, rfl, rfl, by simp [World.setCell], fun k _ hne => Below.heap_setCell _ _ _ _ (fun e => hne (by rw [e]))⟩
theorem cell (h : Touch g w w') {p : Addr} (hp : p.block < w.heap.size) (hg : p.block ≠ g) : w'.cell? p = w.cell? p :=
  World.cell?_of_block (h.block p.block hp (fun e => hg (Option.some.inj e)))
theorem holds {lo : Nat} (h : Touch g w w') {A : Option Addr} {vs : List Value} (hA : Holds w A vs) (hg : ∀ b o, A = some ⟨b, o, none⟩ → lo ≤ b ∧ b < g) : Holds w' A vs := fun hn => by
  obtain ⟨b, o, e, hb, hc⟩ := hA.at_ hn
  exact ⟨b, o, e, fun j u hu => (h.cell (p := ⟨b, o + j, none⟩) hb (Nat.ne_of_lt (hg b o e).2)).trans (hc j u hu)⟩
theorem below {B : Nat} {w0 : World} (h : Touch g w w') (hb : Below B w0 w) (hB : B ≤ w.heap.size) (hg : B ≤ g) : Below B w0 w' := hb.grown h hB (fun k hk => by cases hk; exact hg)
end Touch
/-- A block that is known whole. -/
def Whole (w : World) (g : Nat) (cs : Array Value) (t : TypeId) : Prop := w.heap[g]? = some (.cells cs t (0, 0))
namespace Whole
variable {g : Nat} {w w' : World} {cs : Array Value} {t : TypeId}
theorem lt (h : Whole w g cs t) : g < w.heap.size := by
  rcases Nat.lt_or_ge g w.heap.size with h1 | h1
  · exact h1
  · unfold Whole at h; rw [Array.getElem?_eq_none h1] at h; cases h
theorem cell (h : Whole w g cs t) (i : Nat) : w.cell? ⟨g, i, none⟩ = cs[i]? := by
  unfold Whole at h
  simp [World.cell?, h]
theorem frozen (h : Whole w g cs t) (i : Nat) : w.frozen? ⟨g, i, none⟩ = false := by
  unfold Whole at h
  simp [World.frozen?, h]
theorem set_ (h : Whole w g cs t) (i : Nat) (u : Value) : Whole (w.setCell ⟨g, i, none⟩ u) g (cs.setIfInBounds i u) t := by
  unfold Whole at h ⊢
  simp [World.setCell, Array.getElem?_modify, h]
theorem keep (h : Whole w g cs t) (e : w'.heap[g]? = w.heap[g]?) : Whole w' g cs t := e.trans h
theorem below {B : Nat} (h : Whole w g cs t) (hb : Below B w w') (hg : g < B) : Whole w' g cs t := h.keep (hb.block g hg)
theorem touch {g' : Nat} (h : Whole w g cs t) (hb : Touch g' w w') (hne : g ≠ g') : Whole w' g cs t := h.keep (hb.block g h.lt (fun e => hne (Option.some.inj e)))
theorem new (w : World) (cs : Array Value) (t : TypeId) : Whole (w.alloc (.cells cs t)) w.heap.size cs t := heap_alloc_new w _
end Whole

/-- The reader at block g (of type t) is in state s. -/
def Rd (t : TypeId × Nat) (w : World) (g : Nat) (s : St) : Prop :=
  ∃ A c, Whole w g #[.slice A s.1.length c, .int .i64 (s.2 : Int)] t.1 ∧ Slice A s.1.length c ∧ Holds w A (bytesV s.1) ∧ (∀ b o, A = some ⟨b, o, none⟩ → t.2 ≤ b ∧ b < g) ∧ Bytes s.1 ∧ s.1.length ≤ 1000000
namespace Rd
variable {t : TypeId × Nat} {w w' : World} {g : Nat} {s : St}
theorem lt (h : Rd t w g s) : g < w.heap.size := by obtain ⟨_, _, h, _⟩ := h; exact h.lt
theorem below (h : Rd t w g s) (hb : Below w.heap.size w w') : Rd t w' g s := by
  obtain ⟨A, c, h1, h2, h3, h4⟩ := h
  exact ⟨A, c, h1.below hb h1.lt, h2, h3.below hb, h4⟩
theorem grown (h : Rd t w g s) {row : Option Nat} (hb : w.grownBy w' row) (hr : ∀ k, row = some k → k ≠ g ∧ (k < t.2 ∨ g ≤ k)) : Rd t w' g s := by
  obtain ⟨A, c, h1, h2, h3, h4, h5⟩ := h
  refine ⟨A, c, h1.keep (hb.block g h1.lt fun e => (hr g e.symm).1 rfl), h2, fun hn => ?_, h4, h5⟩
  obtain ⟨b, o, e, hlt, hc⟩ := h3.at_ hn
  have h6 := h4 b o e
  refine ⟨b, o, e, fun j u hu => ?_⟩
  rw [← hc j u hu]
  exact World.cell?_of_block (a := ⟨b, o + j, none⟩) (hb.block b hlt fun e' => by have := hr b e'.symm; omega)
theorem drewN (h : Rd t w g s) (n : Nat) : Rd t (w.drewN n) g s := h
theorem fault (h : Rd t w g s) (f : Nat) : Rd t (w.setCell ⟨g, 1, none⟩ (.int .i64 (f : Int))) g (s.1, f) := by
  obtain ⟨A, c, h1, h2, h3, h4, h5⟩ := h
  exact ⟨A, c, h1.set_ 1 _, h2, ((Touch.refl g w).set_ 1 _).holds h3 h4, h4, h5⟩
end Rd

/-- What a read answers. -/
def ReadPost (t : TypeId × Nat) (g : Nat) (w : World) (v : Value) (s : St) (e : Ending) (w' : World) : Prop := e = .returned v ∧ Rd t w' g s ∧ Touch g w w'

theorem ofail_keep (t : TypeId × Nat) (g f : Nat) (s : St) (w : World) (h : Rd t w g s) (h0 : s.2 ≠ 0) : Calls Try.prog 36 #[.pointer (some ⟨g, 0, none⟩), .int .i64 f] w fun e w' => e = .returned (.tuple #[]) ∧ w = w' := by
  obtain ⟨A, c, h1, _⟩ := h
  have c1 : w.cell? ⟨g, 1, none⟩ = some (.int .i64 (s.2 : Int)) := by rw [h1.cell]; rfl
  generalize s.2 = m at *
  have hm : ((m : Int) == 0) = false := by simp; omega
  clear h1
  go_enter Try.func36, Try.ntmps36
  go_wp2_with fail
  go_end0
  exact ⟨rfl, rfl⟩
theorem ofail_set (t : TypeId × Nat) (g f : Nat) (s : St) (w : World) (h : Rd t w g s) (h0 : s.2 = 0) : Calls Try.prog 36 #[.pointer (some ⟨g, 0, none⟩), .int .i64 f] w fun e w' => e = .returned (.tuple #[]) ∧ w.setCell ⟨g, 1, none⟩ (.int .i64 f) = w' := by
  obtain ⟨A, c, h1, _⟩ := h
  have c1 : w.cell? ⟨g, 1, none⟩ = some (.int .i64 (s.2 : Int)) := by rw [h1.cell]; rfl
  have f1 : w.frozen? ⟨g, 1, none⟩ = false := h1.frozen 1
  rw [h0] at c1
  clear h1 h0
  go_enter Try.func36, Try.ntmps36
  go_wp2_with fail
  go_end0
  exact ⟨rfl, rfl⟩
theorem scan_ways (b : List Nat) (most : Nat) : ((scan b most).2.2 = 0 ∧ 0 < (scan b most).2.1 ∧ (scan b most).2.1 ≤ b.length) ∨ ∃ f, 0 < f ∧ f ≤ 4 ∧ scan b most = (0, 0, f) := by
  by_cases h : ∃ n, Found b most n
  · obtain ⟨n, hn⟩ := h
    rw [scan_found hn]
    exact .inl ⟨rfl, leb_pos n, hn.2.length_le⟩
  · by_cases k : ∃ n, Cut b most n
    · rw [scan_cut h k]; exact .inr ⟨4, by decide, by decide, rfl⟩
    · rw [scan_form h k]; exact .inr ⟨3, by decide, by decide, rfl⟩

set_option maxHeartbeats 1000000 in
theorem onext_any (t : TypeId × Nat) (g most : Nat) (s : St) (w : World) (h : Rd t w g s) (hm : most < 18446744073709551616) :
    Calls Try.prog 34 #[.pointer (some ⟨g, 0, none⟩), .int .u64 most] w (ReadPost t g w (.int .u64 (nextS most s).1) (nextS most s).2) := by
  have H := Lib.hid h
  obtain ⟨b, f⟩ := s
  obtain ⟨A, c, h1, hs, hA, hg, hb, hl⟩ := h
  simp only at h1 hs hA hb hl
  have c0 : w.cell? ⟨g, 0, none⟩ = some (.slice A b.length c) := by rw [h1.cell]; rfl
  have c1 : w.cell? ⟨g, 1, none⟩ = some (.int .i64 (f : Int)) := by rw [h1.cell]; rfl
  have f0 : w.frozen? ⟨g, 0, none⟩ = false := h1.frozen 0
  have HB := Lib.hid hb
  have HG := Lib.hid hg
  have HW := Lib.hid h1
  clear hb hg h1
  by_cases hf : f = 0
  · subst hf
    have HC := Lib.hid (parse_any A c b most w hA HB.out (by omega) hm)
    have hn : nextS most (b, 0) = ((scan b most).1, (b.drop (scan b most).2.1, (scan b most).2.2)) := by unfold nextS; rw [if_neg (by simp)]
    have HN := Lib.hid hn
    clear hn hm
    rcases scan_ways b most with ⟨hz, hp, hle⟩ | ⟨f, hf0, hf4, hsc⟩
    · generalize scan b most = r at *
      obtain ⟨v, z, f⟩ := r
      simp only at hz hp hle HC HN
      subst hz
      have hlp : 0 < b.length := by omega
      have hlb : b.length ≤ c := hs.1
      have hcb : c ≤ 9223372036854775807 := hs.2.1
      obtain ⟨bb, o, rfl, hc⟩ := hA (by rw [bytesV_len]; exact hlp)
      have HH := Lib.hid hA
      have HLD : Hid ((b.drop z).length = b.length - z) := List.length_drop ..
      clear hc hA hs
      by_cases hcz : c = z
      · have hlz : b.length = z := by omega
        have hR : ∀ w', w.setCell ⟨g, 0, none⟩ (.slice (some ⟨bb, o, none⟩) 0 0) = w' → Rd t w' g (b.drop z, 0) := by
          rintro w' rfl
          refine ⟨some ⟨bb, o, none⟩, 0, ?_, ⟨by rw [HLD.out]; omega, by omega, fun h => (by cases h)⟩, ?_, HG.out, fun x hx => HB.out x (List.mem_of_mem_drop hx), by rw [HLD.out]; omega⟩
          · have h2 := HW.out.set_ 0 (.slice (some ⟨bb, o, none⟩) 0 0)
            rw [HLD.out, hlz, Nat.sub_self]
            exact h2
          · rw [List.drop_of_length_le (by omega)]
            exact Holds.nil _ _
        have HR := Lib.hid hR
        clear hR
        generalize b.length = L at *
        subst hcz hlz
        go_enter Try.func34, Try.ntmps34
        go_wp2_with fail
        refine (HC.out).mono ?_
        rintro e w' ⟨rfl, rfl⟩
        go_wp2_with fail
        go_ret
        rw [HN.out]
        exact ⟨rfl, HR.out _ rfl, (Touch.refl g w).set_ 0 _⟩
      · have hcz' : z < c := by omega
        have hR : ∀ w', w.setCell ⟨g, 0, none⟩ (.slice (some ⟨bb, o + z, none⟩) (b.length - z) (c - z)) = w' → Rd t w' g (b.drop z, 0) := by
          rintro w' rfl
          refine ⟨some ⟨bb, o + z, none⟩, c - z, ?_, ⟨by rw [HLD.out]; omega, by omega, fun h => (by cases h)⟩, ?_, fun b' o' e => (by cases e; exact HG.out bb o rfl), fun x hx => HB.out x (List.mem_of_mem_drop hx), by rw [HLD.out]; omega⟩
          · have h2 := HW.out.set_ 0 (.slice (some ⟨bb, o + z, none⟩) (b.length - z) (c - z))
            rw [HLD.out]
            exact h2
          · have h3 := ((Touch.refl g w).set_ 0 (.slice (some ⟨bb, o + z, none⟩) (b.length - z) (c - z))).holds HH.out HG.out
            intro hn
            obtain ⟨b', o', e, hc⟩ := h3 (by rw [bytesV_len]; exact hlp)
            cases e
            refine ⟨bb, o + z, rfl, fun j u hu => ?_⟩
            rw [Nat.add_assoc]
            refine hc (z + j) u ?_
            unfold bytesV at hu ⊢
            rw [← hu, List.map_drop, List.getElem?_drop]
        have HR := Lib.hid hR
        have hne : ((c : Int) == (z : Int)) = false := by simp; omega
        clear hR
        generalize b.length = L at *
        go_enter Try.func34, Try.ntmps34
        go_wp2_with fail
        refine (HC.out).mono ?_
        rintro e w' ⟨rfl, rfl⟩
        go_wp2_with fail
        go_ret
        rw [HN.out]
        exact ⟨rfl, HR.out _ rfl, (Touch.refl g w).set_ 0 _⟩
    · rw [hsc] at HC HN
      have hfz : ((f : Int) != 0) = true := by simp; omega
      have HF := Lib.hid (ofail_set t g f _ w H.out rfl)
      clear hsc
      go_enter Try.func34, Try.ntmps34
      go_wp2_with fail
      refine (HC.out).mono ?_
      rintro e w' ⟨rfl, rfl⟩
      go_wp2_with fail
      refine (HF.out).mono ?_
      rintro e w' ⟨rfl, rfl⟩
      go_wp2_with fail
      go_ret
      rw [HN.out]
      exact ⟨rfl, H.out.fault f, (Touch.refl g w).set_ 1 _⟩
  · have hfz : ((f : Int) != 0) = true := by simp; omega
    have HN := Lib.hid (nextS_stays (most := most) (s := (b, f)) hf)
    clear hf hm
    go_enter Try.func34, Try.ntmps34
    go_wp2_with fail
    go_ret
    rw [HN.out]
    exact ⟨rfl, H.out, Touch.refl _ _⟩
end Go.Proofs.Ytbpbokdomdmclaa
