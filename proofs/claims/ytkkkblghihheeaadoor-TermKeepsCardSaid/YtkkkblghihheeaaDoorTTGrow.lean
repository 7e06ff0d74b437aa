/- A tree that grows: its box, its own row of kids, the kids' trees in other blocks. -/
import Derived.Test.YtkkkblghihheeaaDoorTGreat
import Derived.Test.YtkkkblghihheeaaDoorTFold3
import Derived.Test.YtkkkblghihheeaaDoorTGrow
import Derived.Test.YtkkkblghihheeaaDoorTRegion2
namespace Go.Proofs.YtkkkblghihheeaaDoor
open Go.RowKit

theorem infoTree : (Tryd.prog.info? 59).map (fun i => (i.zero, i.size, i.bytes)) = some (some (.agg #[.int .i64 0, .int .i64 0, .int .i64 0, .slice none 0 0, .slice none 0 0, .slice none 0 0]), 6, 96) := by kernel_rfl
/-- The tree in block bo has these kids so far; K is their row. -/
structure TGrow (w : World) (G : Nat → Prop) (bo : Nat) (n : Node3) (P : Option Addr) (na ca : Nat) (F : Option Addr) (nf cf : Nat) (K : Value) (os : List (TV × Ann)) : Prop where
  whole : Whole w bo #[.int .i64 n.1, .int .i64 n.2.1, .int .i64 n.2.2, K, .slice P na ca, .slice F nf cf] 59
  own : w.ownsRow 0 59 6 K os.length (treesV (os.map Prod.fst))
  kb : ∀ k, K.ownBlock = some k → bo < k
  sub : ∀ p, p ∈ os → TreeAt w (fun k => (G k ∨ bo < k) ∧ K.ownBlock ≠ some k) p.1 p.2
section
variable {w w1 w2 w3 : World} {G : Nat → Prop} {bo : Nat} {n : Node3} {P F : Option Addr} {na ca nf cf : Nat} {K K' : Value} {os : List (TV × Ann)} {vk : TV} {ak : Ann}
theorem TGrow.next (h : TGrow w G bo n P na ca F nf cf K os) (hb : Below w.heap.size w w1) : TGrow w1 G bo n P na ca F nf cf K os :=
  ⟨h.whole.below hb h.whole.lt, own_below h.own hb, h.kb, fun p hp => (h.sub p hp).next hb⟩
theorem TGrow.step (h : TGrow w G bo n P na ca F nf cf K os) (hG : ∀ k, G k → k < bo) (hb : Below w.heap.size w w1) (hk : TreeAt w1 (fun k => G k ∨ w.heap.size ≤ k) vk ak) (hb2 : Below w1.heap.size w1 w2)
    (hown : w3.ownsRow 0 59 6 K' (os.length + 1) (treesV (os.map Prod.fst) ++ vk.cells)) (hmv : Moves w2 K w3 K') :
    TGrow (w3.setCell ⟨bo, 3, none⟩ K') G bo n P na ca F nf cf K' (os ++ [(vk, ak)]) ∧ Below bo w (w3.setCell ⟨bo, 3, none⟩ K') := by
  have hlt := h.whole.lt
  have h02 := below_step hb hb2
  have s1 := hb.size
  have s2 := hb2.size
  have s3 := hmv.only.size
  have hkl : ∀ k, K.ownBlock = some k → k < w.heap.size := fun k hk => (World.ownsRow.lt h.own k hk).2
  have hK' : ∀ k, K'.ownBlock = some k → K.ownBlock = some k ∨ w2.heap.size ≤ k := hmv.next
  have hne : ∀ k, K'.ownBlock = some k → bo < k := fun k hk => by
    rcases hK' k hk with h' | h'
    · exact h.kb k h'
    · omega
  have ho3 : Only (fun k => k = bo) w3 (w3.setCell ⟨bo, 3, none⟩ K') := (Only.refl (fun k => k = bo) w3).set_ (.inl rfl) 3 _
  have hw3 : Whole w3 bo #[.int .i64 n.1, .int .i64 n.2.1, .int .i64 n.2.2, K, .slice P na ca, .slice F nf cf] 59 := (h.whole.below h02 hlt).only hmv.only fun e => by have := h.kb bo e; omega
  have hkeep : ∀ k, k < w2.heap.size → K.ownBlock ≠ some k → k ≠ bo → (w3.setCell ⟨bo, 3, none⟩ K').heap[k]? = w2.heap[k]? := fun k hk h1 h2 =>
    (ho3.block k (by omega) h2).trans (hmv.only.block k hk h1)
  refine ⟨⟨?_, ?_, hne, ?_⟩, ?_⟩
  · exact hw3.set_ 3 K'
  · rw [List.map_append, List.length_append]
    have : treesV (os.map Prod.fst ++ [(vk, ak)].map Prod.fst) = treesV (os.map Prod.fst) ++ vk.cells := treesV_snoc _ _
    rw [this]
    exact own_only hown ho3 fun k hk e => by have := hne k hk; omega
  · intro p hp
    rcases List.mem_append.1 hp with hp | hp
    · have t1 := (h.sub p hp).mono (G' := fun k => ((G k ∨ bo < k) ∧ K.ownBlock ≠ some k) ∧ k < w.heap.size) fun k hk hl => ⟨hk, hl⟩
      have t2 := t1.keep (w' := w3.setCell ⟨bo, 3, none⟩ K') fun k hk hl => (hkeep k (by omega) hk.1.2 (by rcases hk.1.1 with h' | h'; have := hG k h'; omega; omega)).trans (h02.block k hl)
      refine t2.mono fun k hk _ => ⟨hk.1.1, fun e => ?_⟩
      rcases hK' k e with h' | h'
      · exact hk.1.2 h'
      · omega
    · rw [List.mem_singleton] at hp
      subst hp
      have t1 := hk.mono (G' := fun k => (G k ∨ w.heap.size ≤ k) ∧ k < w1.heap.size) fun k hk hl => ⟨hk, hl⟩
      have hno : ∀ k, G k ∨ w.heap.size ≤ k → K.ownBlock ≠ some k := fun k hk e => by
        have := h.kb k e
        have := hkl k e
        rcases hk with h' | h'
        · have := hG k h'; omega
        · omega
      have t2 := t1.keep (w' := w3.setCell ⟨bo, 3, none⟩ K') fun k hk hl => (hkeep k (by omega) (hno k hk.1) (by rcases hk.1 with h' | h'; have := hG k h'; omega; omega)).trans (hb2.block k hl)
      refine t2.mono fun k hk _ => ⟨hk.1.imp id fun h' => by omega, fun e => ?_⟩
      rcases hK' k e with h' | h'
      · exact hno k hk.1 h'
      · omega
  · exact (h02.mono (by omega)).trans ((hmv.below (B := bo) (by omega) fun g hg => by have := h.kb g hg; omega).trans (ho3.below (by omega) fun k hk e => by omega))
theorem TGrow.done {Ko : Option Addr} {m ck : Nat} (h : TGrow w G bo n P na ca F nf cf (.slice Ko m ck) os) (hm : os.length = m) {ats fs : List Node3} (hs : Sound ⟨n, Ko, m, ck, P, na, ca, F, nf, cf⟩ os.length ats.length fs.length) (hA : HoldsG w G P (nodesV ats)) (hF : HoldsG w G F (nodesV fs)) (hv : ∀ x, x ∈ ats ∨ x ∈ fs → x.1 ≠ 1) :
    TreeAt w (fun k => G k ∨ bo < k) ⟨n, Ko, m, ck, P, na, ca, F, nf, cf⟩ (treeA n ats fs (os.map Prod.snd)) := by
  subst hm
  have hg := own_slice h.own
  obtain ⟨A, c, e, hsl, hat⟩ := hg
  cases e
  refine .mk ⟨n, Ko, os.length, ck, P, na, ca, F, nf, cf⟩ os ats fs hs ⟨own_holds h.own, fun b o e hp => ?_⟩ (hA.mono fun k hk _ => .inl hk) (hF.mono fun k hk _ => .inl hk) hv fun p hp => (h.sub p hp).mono fun k hk _ => hk.1
  subst e
  have := hat b o rfl
  refine .inr (h.kb b ?_)
  simp [Value.ownBlock]
end
end Go.Proofs.YtkkkblghihheeaaDoor
