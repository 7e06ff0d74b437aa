/- A tree that is read: its box, its own rows of kids, atoms and functions, the kids' trees in other blocks. -/
import Derived.Test.YtkkkblghihheeaaDoorTTGrow
import Derived.Test.YtkkkblghihheeaaDoorTReadP
namespace Go.Proofs.YtkkkblghihheeaaDoor
open Go.RowKit

structure RdGrow (w : World) (bo : Nat) (n : Node3) (Kv Av Fv : Value) (os : List (TV × Ann)) (ats fs : List Node3) : Prop where
  whole : Whole w bo #[.int .i64 n.1, .int .i64 n.2.1, .int .i64 n.2.2, Kv, Av, Fv] 59
  ownK : w.ownsRow 0 59 6 Kv os.length (treesV (os.map Prod.fst))
  ownA : w.ownsRow 0 53 3 Av ats.length (nodesV ats)
  ownF : w.ownsRow 0 53 3 Fv fs.length (nodesV fs)
  kK : ∀ k, Kv.ownBlock = some k → bo < k
  kA : ∀ k, Av.ownBlock = some k → bo < k
  kF : ∀ k, Fv.ownBlock = some k → bo < k
  dKA : ∀ k, Kv.ownBlock = some k → Av.ownBlock ≠ some k
  dKF : ∀ k, Kv.ownBlock = some k → Fv.ownBlock ≠ some k
  dAF : ∀ k, Av.ownBlock = some k → Fv.ownBlock ≠ some k
  tms : ∀ p, p ∈ os → isT p.2
  sub : ∀ p, p ∈ os → TreeR w (fun k => bo < k ∧ Kv.ownBlock ≠ some k ∧ Av.ownBlock ≠ some k ∧ Fv.ownBlock ≠ some k) p.1 p.2
section
variable {w w1 w2 w3 : World} {bo : Nat} {n : Node3} {Kv Av Fv X X' : Value} {os : List (TV × Ann)} {ats fs : List Node3} {vk : TV} {ak : Ann}
theorem moved (hb : Below w.heap.size w w2) (hmv : Moves w2 X w3 X') (i : Nat) (u : Value) : Only (fun k => X.ownBlock = some k ∨ k = bo) w (w3.setCell ⟨bo, i, none⟩ u) :=
  (((Only.of_below (F := fun k => X.ownBlock = some k ∨ k = bo) hb).trans hmv.only fun _ _ e => .inl e).trans ((Only.refl (fun k => k = bo) w3).set_ (.inl rfl) i u) fun _ _ e => .inr e)
theorem moved_next (hb : Below w.heap.size w w2) (hmv : Moves w2 X w3 X') {k : Nat} (hk : X'.ownBlock = some k) : X.ownBlock = some k ∨ w.heap.size ≤ k := (hmv.next k hk).imp id fun h => Nat.le_trans hb.size h
theorem RdGrow.next (h : RdGrow w bo n Kv Av Fv os ats fs) (hb : Below w.heap.size w w1) : RdGrow w1 bo n Kv Av Fv os ats fs :=
  ⟨h.whole.below hb h.whole.lt, own_below h.ownK hb, own_below h.ownA hb, own_below h.ownF hb, h.kK, h.kA, h.kF, h.dKA, h.dKF, h.dAF, h.tms, fun p hp => (h.sub p hp).next hb⟩
theorem RdGrow.addA (h : RdGrow w bo n Kv Av Fv os ats fs) {x : Node3} {A' : Value} (hb : Below w.heap.size w w2) (hown : w3.ownsRow 0 53 3 A' (ats.length + 1) (nodesV ats ++ nodesV [x])) (hmv : Moves w2 Av w3 A') :
    RdGrow (w3.setCell ⟨bo, 4, none⟩ A') bo n Kv A' Fv os (ats ++ [x]) fs ∧ Below bo w (w3.setCell ⟨bo, 4, none⟩ A') := by
  have hlt := h.whole.lt
  have ho := moved (bo := bo) hb hmv 4 A'
  have ho3 : Only (fun k => k = bo) w3 (w3.setCell ⟨bo, 4, none⟩ A') := (Only.refl (fun k => k = bo) w3).set_ (.inl rfl) 4 _
  have hK : ∀ k, Kv.ownBlock = some k → k < w.heap.size := fun k hk => (World.ownsRow.lt h.ownK k hk).2
  have hF : ∀ k, Fv.ownBlock = some k → k < w.heap.size := fun k hk => (World.ownsRow.lt h.ownF k hk).2
  have hA' : ∀ k, A'.ownBlock = some k → bo < k := fun k hk => by
    rcases moved_next hb hmv hk with h' | h'
    · exact h.kA k h'
    · omega
  refine ⟨⟨?_, ?_, ?_, ?_, h.kK, hA', h.kF, ?_, h.dKF, ?_, h.tms, ?_⟩, ?_⟩
  · exact (((h.whole.below hb hlt).only hmv.only fun e => by have := h.kA bo e; omega).set_ 4 A')
  · exact own_only h.ownK ho fun k hk => by rintro (e | e); exact h.dKA k hk e; have := h.kK k hk; omega
  · rw [List.length_append, nodesV_append]
    exact own_only hown ho3 fun k hk e => by have := hA' k hk; omega
  · exact own_only h.ownF ho fun k hk => by rintro (e | e); exact h.dAF k e hk; have := h.kF k hk; omega
  · intro k hk e
    rcases moved_next hb hmv e with h' | h'
    · exact h.dKA k hk h'
    · have := hK k hk; omega
  · intro k hk e
    rcases moved_next hb hmv hk with h' | h'
    · exact h.dAF k h' e
    · have := hF k e; omega
  · intro p hp
    have t1 := (h.sub p hp).mono (G' := fun k => (bo < k ∧ Kv.ownBlock ≠ some k ∧ Av.ownBlock ≠ some k ∧ Fv.ownBlock ≠ some k) ∧ k < w.heap.size) fun k hk hl => ⟨hk, hl⟩
    have t2 := t1.keep (w' := w3.setCell ⟨bo, 4, none⟩ A') fun k hk hl => ho.block k hl (by rintro (e | e); exact hk.1.2.2.1 e; have := hk.1.1; omega)
    refine t2.mono fun k hk _ => ⟨hk.1.1, hk.1.2.1, fun e => ?_, hk.1.2.2.2⟩
    rcases moved_next hb hmv e with h' | h'
    · exact hk.1.2.2.1 h'
    · omega
  · exact ho.below (by omega) fun k hk => by rintro (e | e); have := h.kA k e; omega; omega
theorem RdGrow.addF (h : RdGrow w bo n Kv Av Fv os ats fs) {x : Node3} {F' : Value} (hb : Below w.heap.size w w2) (hown : w3.ownsRow 0 53 3 F' (fs.length + 1) (nodesV fs ++ nodesV [x])) (hmv : Moves w2 Fv w3 F') :
    RdGrow (w3.setCell ⟨bo, 5, none⟩ F') bo n Kv Av F' os ats (fs ++ [x]) ∧ Below bo w (w3.setCell ⟨bo, 5, none⟩ F') := by
  have hlt := h.whole.lt
  have ho := moved (bo := bo) hb hmv 5 F'
  have ho3 : Only (fun k => k = bo) w3 (w3.setCell ⟨bo, 5, none⟩ F') := (Only.refl (fun k => k = bo) w3).set_ (.inl rfl) 5 _
  have hK : ∀ k, Kv.ownBlock = some k → k < w.heap.size := fun k hk => (World.ownsRow.lt h.ownK k hk).2
  have hA : ∀ k, Av.ownBlock = some k → k < w.heap.size := fun k hk => (World.ownsRow.lt h.ownA k hk).2
  have hF' : ∀ k, F'.ownBlock = some k → bo < k := fun k hk => by
    rcases moved_next hb hmv hk with h' | h'
    · exact h.kF k h'
    · omega
  refine ⟨⟨?_, ?_, ?_, ?_, h.kK, h.kA, hF', h.dKA, ?_, ?_, h.tms, ?_⟩, ?_⟩
  · exact (((h.whole.below hb hlt).only hmv.only fun e => by have := h.kF bo e; omega).set_ 5 F')
  · exact own_only h.ownK ho fun k hk => by rintro (e | e); exact h.dKF k hk e; have := h.kK k hk; omega
  · exact own_only h.ownA ho fun k hk => by rintro (e | e); exact h.dAF k hk e; have := h.kA k hk; omega
  · rw [List.length_append, nodesV_append]
    exact own_only hown ho3 fun k hk e => by have := hF' k hk; omega
  · intro k hk e
    rcases moved_next hb hmv e with h' | h'
    · exact h.dKF k hk h'
    · have := hK k hk; omega
  · intro k hk e
    rcases moved_next hb hmv e with h' | h'
    · exact h.dAF k hk h'
    · have := hA k hk; omega
  · intro p hp
    have t1 := (h.sub p hp).mono (G' := fun k => (bo < k ∧ Kv.ownBlock ≠ some k ∧ Av.ownBlock ≠ some k ∧ Fv.ownBlock ≠ some k) ∧ k < w.heap.size) fun k hk hl => ⟨hk, hl⟩
    have t2 := t1.keep (w' := w3.setCell ⟨bo, 5, none⟩ F') fun k hk hl => ho.block k hl (by rintro (e | e); exact hk.1.2.2.2 e; have := hk.1.1; omega)
    refine t2.mono fun k hk _ => ⟨hk.1.1, hk.1.2.1, hk.1.2.2.1, fun e => ?_⟩
    rcases moved_next hb hmv e with h' | h'
    · exact hk.1.2.2.2 h'
    · omega
  · exact ho.below (by omega) fun k hk => by rintro (e | e); have := h.kF k e; omega; omega
theorem RdGrow.addK (h : RdGrow w bo n Kv Av Fv os ats fs) {K' : Value} (hb : Below w.heap.size w w1) (hk : TreeR w1 (fun k => w.heap.size ≤ k) vk ak) (hkt : isT ak) (hb2 : Below w1.heap.size w1 w2) (hown : w3.ownsRow 0 59 6 K' (os.length + 1) (treesV (os.map Prod.fst) ++ vk.cells)) (hmv : Moves w2 Kv w3 K') :
    RdGrow (w3.setCell ⟨bo, 3, none⟩ K') bo n K' Av Fv (os ++ [(vk, ak)]) ats fs ∧ Below bo w (w3.setCell ⟨bo, 3, none⟩ K') := by
  have hlt := h.whole.lt
  have h02 := below_step hb hb2
  have s1 := hb.size
  have s2 := hb2.size
  have s3 := hmv.only.size
  have ho := moved (bo := bo) h02 hmv 3 K'
  have ho1 := moved (bo := bo) hb2 hmv 3 K'
  have ho3 : Only (fun k => k = bo) w3 (w3.setCell ⟨bo, 3, none⟩ K') := (Only.refl (fun k => k = bo) w3).set_ (.inl rfl) 3 _
  have hKl : ∀ k, Kv.ownBlock = some k → k < w.heap.size := fun k hk => (World.ownsRow.lt h.ownK k hk).2
  have hA : ∀ k, Av.ownBlock = some k → k < w.heap.size := fun k hk => (World.ownsRow.lt h.ownA k hk).2
  have hF : ∀ k, Fv.ownBlock = some k → k < w.heap.size := fun k hk => (World.ownsRow.lt h.ownF k hk).2
  have hK' : ∀ k, K'.ownBlock = some k → bo < k := fun k hk => by
    rcases moved_next h02 hmv hk with h' | h'
    · exact h.kK k h'
    · omega
  refine ⟨⟨?_, ?_, ?_, ?_, hK', h.kA, h.kF, ?_, ?_, h.dAF, fun p hp => ?_, ?_⟩, ?_⟩
  · exact (((h.whole.below h02 hlt).only hmv.only fun e => by have := h.kK bo e; omega).set_ 3 K')
  · rw [List.map_append, List.length_append]
    have : treesV (os.map Prod.fst ++ [(vk, ak)].map Prod.fst) = treesV (os.map Prod.fst) ++ vk.cells := treesV_snoc _ _
    rw [this]
    exact own_only hown ho3 fun k hk e => by have := hK' k hk; omega
  · exact own_only h.ownA ho fun k hk => by rintro (e | e); exact h.dKA k e hk; have := h.kA k hk; omega
  · exact own_only h.ownF ho fun k hk => by rintro (e | e); exact h.dKF k e hk; have := h.kF k hk; omega
  · intro k hk e
    rcases moved_next h02 hmv hk with h' | h'
    · exact h.dKA k h' e
    · have := hA k e; omega
  · intro k hk e
    rcases moved_next h02 hmv hk with h' | h'
    · exact h.dKF k h' e
    · have := hF k e; omega
  · rcases List.mem_append.1 hp with hp | hp
    · exact h.tms p hp
    · rw [List.mem_singleton] at hp; subst hp; exact hkt
  · intro p hp
    rcases List.mem_append.1 hp with hp | hp
    · have t1 := (h.sub p hp).mono (G' := fun k => (bo < k ∧ Kv.ownBlock ≠ some k ∧ Av.ownBlock ≠ some k ∧ Fv.ownBlock ≠ some k) ∧ k < w.heap.size) fun k hk hl => ⟨hk, hl⟩
      have t2 := t1.keep (w' := w3.setCell ⟨bo, 3, none⟩ K') fun k hk hl => ho.block k hl (by rintro (e | e); exact hk.1.2.1 e; have := hk.1.1; omega)
      refine t2.mono fun k hk _ => ⟨hk.1.1, fun e => ?_, hk.1.2.2⟩
      rcases moved_next h02 hmv e with h' | h'
      · exact hk.1.2.1 h'
      · omega
    · rw [List.mem_singleton] at hp
      subst hp
      have t1 := hk.mono (G' := fun k => w.heap.size ≤ k ∧ k < w1.heap.size) fun k hk hl => ⟨hk, hl⟩
      have t2 := t1.keep (w' := w3.setCell ⟨bo, 3, none⟩ K') fun k hk hl => ho1.block k hl (by rintro (e | e); have := hKl k e; omega; omega)
      refine t2.mono fun k hk _ => ⟨by omega, fun e => ?_, fun e => by have := hA k e; omega, fun e => by have := hF k e; omega⟩
      rcases moved_next hb2 hmv e with h' | h'
      · have := hKl k h'; omega
      · omega
  · exact ho.below (by omega) fun k hk => by rintro (e | e); have := h.kK k e; omega; omega
end
end Go.Proofs.YtkkkblghihheeaaDoor
