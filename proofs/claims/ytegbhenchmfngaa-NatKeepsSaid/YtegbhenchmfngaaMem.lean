/- Own rows of words, worlds that part in one block alone, and the answers that are new memory. -/
import Derived.Test.YtegbhenchmfngaaRows
import Derived.Test.YtegbhenchmfngaaBase
import Derived.WalkSpells
import Derived.WalkLawsBesides
import Derived.Laws.CopyOwn
import Derived.Deep.QuietTactic
import Derived.BigQuiet
namespace Go.Proofs.Ytegbhenchmfngaa
open Go.RowKit

theorem info44 : (Try.prog.info? 44).map (fun i => (i.zero, i.size, i.bytes)) = some (some (.int .u32 0), 1, 4) := by kernel_rfl

/-- Worlds that part in block g alone. -/
structure Only (g : Nat) (w w' : World) : Prop where
  os : w'.os = w.os
  tape : w'.tape = w.tape
  output : w'.output = w.output
  size : w'.heap.size = w.heap.size
  block : ∀ k, k ≠ g → w'.heap[k]? = w.heap[k]?
namespace Only
variable {g : Nat} {a b c w w' : World}
theorem refl (g : Nat) (w : World) : Only g w w := ⟨rfl, rfl, rfl, rfl, fun _ _ => rfl⟩
theorem trans (h : Only g a b) (k : Only g b c) : Only g a c := ⟨k.os.trans h.os, k.tape.trans h.tape, k.output.trans h.output, k.size.trans h.size, fun i hi => (k.block i hi).trans (h.block i hi)⟩
theorem drew (h : Only g a w) : Only g a w.drew := ⟨h.os, h.tape, h.output, h.size, h.block⟩
theorem drewN (h : Only g a w) (n : Nat) : Only g a (w.drewN n) := ⟨h.os, h.tape, h.output, h.size, h.block⟩
theorem set_ (h : Only g a w) (o : Nat) (u : Value) : Only g a (w.setCell ⟨g, o, none⟩ u) :=
  h.trans ⟨rfl, rfl, rfl, by simp [World.setCell], fun k hk => Below.heap_setCell _ _ _ _ hk⟩
theorem cell (h : Only g w w') {p : Addr} (hp : p.block ≠ g) : w'.cell? p = w.cell? p := World.cell?_of_block (w := w) (h.block p.block hp)
theorem frozen (h : Only g w w') {p : Addr} (hp : p.block ≠ g) : w'.frozen? p = w.frozen? p := World.frozen?_of_block (w := w) (h.block p.block hp)
theorem nat (h : Only g w w') {A : Option Addr} {n N : Nat} (hA : IsNat w A n N) (hg : 0 < n → ∀ b o, A = some ⟨b, o, none⟩ → b ≠ g) : IsNat w' A n N :=
  ⟨hA.1, fun hn => by
    obtain ⟨b, o, e, hc⟩ := hA.2 hn
    exact ⟨b, o, e, fun j hj => (h.cell (p := ⟨b, o + j, none⟩) (hg hn b o e)).trans (hc j hj)⟩⟩
theorem grownBy (h : Only g w w') : w.grownBy w' (some g) := ⟨h.os, h.tape, h.output, by rw [h.size]; exact Nat.le_refl _, fun k _ hk => h.block k (fun e => hk (by rw [e]))⟩
theorem below {B : Nat} {w0 : World} (h : Only g w w') (hb : Below B w0 w) (hB : B ≤ g) : Below B w0 w' :=
  hb.trans ⟨h.os, h.tape, h.output, by rw [h.size]; exact Nat.le_refl _, fun k hk => h.block k (by omega)⟩
end Only

/-- What lies below a block is not in it. -/
theorem far_of {w : World} {A : Option Addr} {n N g : Nat} (h : IsNat w A n N) (hg : w.heap.size ≤ g) : 0 < n → ∀ b o, A = some ⟨b, o, none⟩ → b ≠ g := fun hn b o e => by
  obtain ⟨b', o', e', hb, _⟩ := h.at_ hn
  rw [e] at e'
  cases e'
  omega

/-- Block g is a row of L words of 32 bits, F j at place j. -/
def RowN (w : World) (g L : Nat) (F : Nat → Nat) : Prop := w.rowIs g 44 L (fun j => .int .u32 (F j))
namespace RowN
variable {w w' : World} {g L o k : Nat} {F G D : Nat → Nat}
theorem cell (h : RowN w g L F) {i : Nat} (hi : i < L) : w.cell? ⟨g, i, none⟩ = some (.int .u32 (F i)) := World.rowIs.cell h hi
theorem frozen (h : RowN w g L F) (i : Nat) : w.frozen? ⟨g, i, none⟩ = false := World.rowIs.frozen h i
theorem lt (h : RowN w g L F) : g < w.heap.size := World.rowIs.lt h
theorem congr (h : RowN w g L F) (e : ∀ i, i < L → F i = G i) : RowN w g L G := World.rowIs.congr h fun i hi => by rw [e i hi]
theorem set_ (h : RowN w g L F) (i v : Nat) : RowN (w.setCell ⟨g, i, none⟩ (.int .u32 v)) g L (fun j => if j = i then v else F j) :=
  World.rowIs.congr (World.rowIs.set h i (.int .u32 v)) fun j _ => by by_cases e : j = i <;> simp [e]
theorem of_block (h : RowN w g L F) (e : w'.heap[g]? = w.heap[g]?) : RowN w' g L F := World.rowIs.of_block h e
theorem drew (h : RowN w g L F) : RowN w.drew g L F := h
theorem drewN (h : RowN w g L F) (n : Nat) : RowN (w.drewN n) g L F := h
theorem alloc (h : RowN w g L F) (o : Obj) : RowN (w.alloc o) g L F := World.rowIs.alloc h o
theorem below (h : RowN w g L F) (hb : Below w.heap.size w w') : RowN w' g L F := h.of_block (hb.block g h.lt)
theorem only {g' : Nat} (h : RowN w g L F) (hb : Only g' w w') (hne : g ≠ g') : RowN w' g L F := h.of_block (hb.block g hne)
theorem made (w : World) (n : Nat) : RowN (w.alloc (.cells (madeCells #[.int .u32 0] n) 44)) w.heap.size n (fun _ => 0) := World.rowIs_made w (.int .u32 0) n 44
/-- The words from o on are those of N. -/
theorem nat (h : RowN w g L F) {o n N : Nat} (hN : N < Nt.pw n) (hl : o + n ≤ L) (hF : ∀ j, j < n → F (o + j) = Nt.dig N j) : IsNat w (some ⟨g, o, none⟩) n N :=
  ⟨hN, fun _ => ⟨g, o, rfl, fun j hj => by rw [h.cell (by omega), hF j hj]⟩⟩
/-- A row that is filled from o on, one word more. -/
theorem step (h : RowN w g L (fun j => if o ≤ j ∧ j < o + k then D (j - o) else F j)) {D' : Nat → Nat} {v : Nat} (hv : D' k = v) (hD : ∀ j, j < k → D' j = D j) :
    RowN (w.setCell ⟨g, o + k, none⟩ (.int .u32 v)) g L (fun j => if o ≤ j ∧ j < o + (k + 1) then D' (j - o) else F j) :=
  (h.set_ (o + k) v).congr fun j _ => by
    by_cases e : j = o + k
    · subst e
      rw [if_pos rfl, if_pos (by omega), Nat.add_sub_cancel_left, hv]
    · rw [if_neg e]
      by_cases h : o ≤ j ∧ j < o + k
      · rw [if_pos h, if_pos (by omega), hD _ (by omega)]
      · rw [if_neg h, if_neg (by omega)]
end RowN

/-- The slice A, n, c is new memory (from block B on) and holds N. -/
structure Own (B : Nat) (w' : World) (A : Option Addr) (n c N : Nat) : Prop where
  nat : IsNat w' A n N
  le : n ≤ c
  small : c ≤ 1152921504606846976
  fresh : (A = none ∧ c = 0) ∨ ∃ g F, A = some ⟨g, 0, none⟩ ∧ B ≤ g ∧ RowN w' g c F
namespace Own
variable {B : Nat} {w w' : World} {A : Option Addr} {n c N : Nat}
theorem none_ (B : Nat) (w : World) : Own B w none 0 0 0 := ⟨IsNat.nil w _, Nat.le_refl _, by omega, .inl ⟨rfl, rfl⟩⟩
theorem of_row {g L : Nat} {F : Nat → Nat} (h : RowN w g L F) (hB : B ≤ g) (hL : L ≤ 1152921504606846976) (hn : n ≤ L) (hN : N < Nt.pw n) (hF : ∀ j, j < n → F j = Nt.dig N j) : Own B w (some ⟨g, 0, none⟩) n L N :=
  ⟨h.nat hN (by omega) fun j hj => by rw [Nat.zero_add]; exact hF j hj, hn, hL, .inr ⟨g, F, rfl, hB, h⟩⟩
theorem keep (h : Own B w A n c N) (hb : Below w.heap.size w w') : Own B w' A n c N :=
  ⟨h.nat.below hb, h.le, h.small, h.fresh.imp id fun ⟨g, F, e, hg, hr⟩ => ⟨g, F, e, hg, hr.below hb⟩⟩
theorem trim (h : Own B w A n c N) : Own B w A (Nt.wlen N) c N := ⟨h.nat.trim, Nat.le_trans h.nat.wl h.le, h.small, h.fresh⟩
theorem row (h : Own B w A n c N) (hn : 0 < n) : ∃ g F, A = some ⟨g, 0, none⟩ ∧ B ≤ g ∧ RowN w g c F ∧ ∀ j, j < n → F j = Nt.dig N j := by
  rcases h.fresh with ⟨_, h0⟩ | ⟨g, F, e, hg, hr⟩
  · have := h.le; omega
  · refine ⟨g, F, e, hg, hr, fun j hj => ?_⟩
    obtain ⟨b, o, e', hc⟩ := h.nat.2 hn
    rw [e] at e'
    cases e'
    have h1 := hc j hj
    rw [Nat.zero_add, hr.cell (Nat.lt_of_lt_of_le hj h.le)] at h1
    injection h1 with h1
    injection h1 with _ h1
    omega
theorem mono {B' : Nat} (h : Own B w A n c N) (hB : B' ≤ B) : Own B' w A n c N := ⟨h.nat, h.le, h.small, h.fresh.imp id fun ⟨g, F, e, hg, hr⟩ => ⟨g, F, e, by omega, hr⟩⟩
theorem drewN (h : Own B w A n c N) (k : Nat) : Own B (w.drewN k) A n c N := ⟨h.nat, h.le, h.small, h.fresh⟩
theorem drew (h : Own B w A n c N) : Own B w.drew A n c N := ⟨h.nat, h.le, h.small, h.fresh⟩
/-- What is grown elsewhere (a row of another type) leaves it alone. -/
theorem grown (h : Own B w A n c N) {row : Option Nat} (hg : w.grownBy w' row) (hr : ∀ g F, RowN w g c F → some g ≠ row) : Own B w' A n c N := by
  rcases Nat.eq_zero_or_pos c with h0 | h0
  · have hn : n = 0 := by have := h.le; omega
    subst hn
    refine ⟨⟨h.nat.1, fun h => absurd h (by omega)⟩, h.le, h.small, ?_⟩
    rcases h.fresh with h1 | ⟨g, F, e, hB, hrow⟩
    · exact .inl h1
    · exact .inr ⟨g, F, e, hB, hrow.of_block (hg.block g hrow.lt (hr g F hrow))⟩
  · rcases h.fresh with ⟨_, h1⟩ | ⟨g, F, e, hB, hrow⟩
    · omega
    · have hb := hg.block g hrow.lt (hr g F hrow)
      refine ⟨⟨h.nat.1, fun hn => ?_⟩, h.le, h.small, .inr ⟨g, F, e, hB, hrow.of_block hb⟩⟩
      obtain ⟨b, o, e', hc⟩ := h.nat.2 hn
      rw [e] at e'
      cases e'
      exact ⟨g, 0, e, fun j hj => (World.cell?_of_block (a := ⟨g, 0 + j, none⟩) hb).trans (hc j hj)⟩
end Own
theorem own_ne_row {w : World} {base : Nat} {e : TypeId} {size n : Nat} {v : Value} {xs : List Value} {g L : Nat} {F : Nat → Nat} (h : w.ownsRow base e size v n xs) (hr : RowN w g L F) (hne : e ≠ 44) : some g ≠ v.ownBlock := by
  obtain ⟨c, hg, _, _⟩ := hr
  rcases h.2 with ⟨rfl, _⟩ | ⟨g', cap, cur, rfl, _, hh, _⟩
  · simp [Value.ownBlock]
  · intro he
    have : g = g' := by simpa [Value.ownBlock] using he
    subst this
    rw [hg] at hh
    injection hh with hh
    injection hh with _ ht
    exact hne ht.symm

theorem quiet_add_same {P : Program} {f : FuncId} {args : Array Value} {w : World} {a n : Nat} {v : Value}
    (h : Calls P f args (w.drewN (a + n)) fun e w' => e = .returned v ∧ w' = w.drewN (a + n)) :
    Calls P f args (w.drewN (a + n)) fun e w'' => e = .returned v ∧ ∃ m, w'' = w.drewN (a + m) :=
  h.mono fun _ _ ⟨he, hm⟩ => ⟨he, n, hm⟩
theorem quiet_add_left {P : Program} {f : FuncId} {args : Array Value} {w : World} {a n : Nat} {v : Value}
    (h : Calls P f args (w.drewN (a + n)) fun e w' => e = .returned v ∧ w.drewN (a + n) = w') :
    Calls P f args (w.drewN (a + n)) fun e w'' => e = .returned v ∧ ∃ m, w'' = w.drewN (a + m) :=
  h.mono fun _ _ ⟨he, hm⟩ => ⟨he, n, hm.symm⟩
theorem quiet_left {P : Program} {f : FuncId} {args : Array Value} {w : World} {n : Nat} {v : Value}
    (h : Calls P f args (w.drewN n) fun e w' => e = .returned v ∧ w.drewN n = w') : Calls P f args (w.drewN n) fun e w'' => e = .returned v ∧ ∃ m, w'' = w.drewN m :=
  h.mono fun _ _ ⟨he, hm⟩ => ⟨he, n, hm.symm⟩
theorem or_u64_word {a y : Nat} (ha : a < 4294967296) (hy : y < 4294967296) : bits .or .u64 ((a : Int) * 4294967296) (y : Int) = ((a * 4294967296 + y : Nat) : Int) := by
  have h := u64_or_nat (a * 4294967296) y (by omega) (by omega)
  rw [Nt.or_word hy] at h
  rw [← h]
  simp
theorem or_u64_word' {a y : Nat} (ha : a < 4294967296) (hy : y < 4294967296) : bits .or .u64 (y : Int) ((a : Int) * 4294967296) = ((a * 4294967296 + y : Nat) : Int) := by
  have h := u64_or_nat y (a * 4294967296) (by omega) (by omega)
  rw [Nat.or_comm, Nt.or_word hy] at h
  rw [← h]
  simp
theorem or_u64_zero {y : Nat} (hy : y < 4294967296) : bits .or .u64 0 (y : Int) = (y : Int) := by
  have h := u64_or_nat 0 y (by omega) (by omega)
  rw [Nat.zero_or] at h
  exact h
theorem make_words (z : Nat) (hz : z ≤ 1152921504606846976) (x : Int) (hx : x = (z : Int)) (hb : 4 * z ≤ 281474976710656) (w : World) : (Instr.makeSlice 23 (.int .i64 x) (.int .i64 x)).run Try.prog w =
    .ok (.slice (some ⟨w.heap.size, 0, none⟩) z z) (w.alloc (.cells (madeCells #[.int .u32 0] z) 44)) := by
  subst hx
  exact run_make_row' (P := Try.prog) 23 44 (.int .u32 0) 4 Try.underlying23 info44 rfl .i64 .i64 z (by omega) (by omega) w
theorem news_one (w : World) (x : Value) (t : TypeId) : ∀ j u, [x][j]? = some u → (w.alloc (.cells #[x] t)).cell? ((⟨w.heap.size, 0, none⟩ : Addr).add j) = some u := fun j u h => by
  match j, h with
  | 0, h =>
    have e : u = x := by simpa using h.symm
    subst e
    show (w.alloc (.cells #[u] t)).cell? ⟨w.heap.size, 0, none⟩ = some u
    rw [World.cell?_alloc_at _ _ _ _ rfl]; rfl
  | j + 1, h => simp at h
theorem below_drewN {B : Nat} {a w : World} (h : Below B a w) (n : Nat) : Below B a (w.drewN n) := ⟨h.os, h.tape, h.output, h.size, h.block⟩
theorem below_step {w w1 w2 : World} (h : Below w.heap.size w w1) (k : Below w1.heap.size w1 w2) : Below w.heap.size w w2 := h.trans (k.mono h.size)
theorem below_alloc {w w1 : World} (h : Below w.heap.size w w1) (o : Obj) : Below w.heap.size w (w1.alloc o) := h.alloc h.size o
theorem splice_get {α : Type} (L : List α) (off : Nat) (cs : List α) (h : off + cs.length ≤ L.length) (j : Nat) :
    (splice L off cs)[j]? = if off ≤ j ∧ j < off + cs.length then cs[j - off]? else L[j]? := by
  unfold splice
  have ht : (L.take off).length = off := by simp; omega
  by_cases h1 : j < off
  · rw [List.getElem?_append_left (by omega), if_neg (by omega), List.getElem?_take, if_pos h1]
  · rw [List.getElem?_append_right (by omega), ht]
    by_cases h2 : j < off + cs.length
    · rw [if_pos ⟨by omega, h2⟩, List.getElem?_append_left (by omega)]
    · rw [if_neg (by omega), List.getElem?_append_right (by omega), List.getElem?_drop]
      congr 1
      omega

/-- The words of N as cells. -/
def cellsOf (N n : Nat) : List Value := (List.range n).map fun j => .int .u32 (Nt.dig N j)
theorem cellsOf_get {N n j : Nat} : (cellsOf N n)[j]? = if j < n then some (.int .u32 (Nt.dig N j)) else none := by
  unfold cellsOf
  rw [List.getElem?_map]
  by_cases h : j < n
  · rw [if_pos h, List.getElem?_range h]; rfl
  · rw [if_neg h, List.getElem?_eq_none (by simpa using h)]; rfl
theorem add_off (b o j : Nat) : (⟨b, o, none⟩ : Addr).add j = ⟨b, o + j, none⟩ := by unfold Addr.add; split <;> simp_all

/-- copy into an own row, from whatever slice that holds a number. -/
theorem wpList_copy_nat {P : Program} {w : World} {ops : Array Oper} {rest : List Oper} {o : Oper} {a : Act} {Q : Exit → Act → World → Prop} (hgd : o.guard = none) (d s : Operand) (dT sT : TypeId)
    (ho : o.op = .call { callee := .builtin .copy, args := #[d, s], argTypes := #[dT, sT] }) (elem : TypeId) (hu : P.underlying dT = some (.slice elem)) (hsz : (P.info? elem).map (·.size) = some 1)
    (g off L dn dc : Nat) (F : Nat → Nat) (A : Option Addr) (sn sc N : Nat) (hd : a.eval d = .slice (some ⟨g, off, none⟩) dn dc) (hs : a.eval s = .slice A sn sc) (hr : RowN w g L F) (hN : IsNat w A sn N) (hfit : off + dn ≤ L)
    (B : Nat) (w0 : World) (hb : Below B w0 w) (hBg : B ≤ g)
    (h : ∀ w', RowN w' g L (fun j => if off ≤ j ∧ j < off + min sn dn then Nt.dig N (j - off) else F j) → Below B w0 w' → wpList P ops Q rest (a.put o.dst (goInt ((min sn dn : Nat) : Int))) w') :
    wpList P ops Q (o :: rest) a w := by
  obtain ⟨c, hg, hcs, hci⟩ := hr
  have hl : (cellsOf N (min sn dn)).length = min sn dn := by simp [cellsOf]
  refine wpList_copy_splice hgd d s dT sT ho elem hu hsz _ _ _ _ _ _ hd hs g off c.toList 44 (by simpa using hg) (cellsOf N (min sn dn)) hl ?_ (by rw [hl, Array.length_toList]; omega) ?_ B w0 hb hBg ?_
  · intro hp
    rw [hl] at hp
    obtain ⟨b', o', rfl, hc⟩ := hN.2 (by omega)
    refine ⟨rfl, _, rfl, fun j v hv => ?_⟩
    rw [cellsOf_get] at hv
    by_cases hj : j < min sn dn
    · rw [if_pos hj] at hv
      rw [add_off, hc j (by omega), hv]
    · rw [if_neg hj] at hv; cases hv
  · intro v hv
    obtain ⟨j, _, rfl⟩ := List.mem_map.1 hv
    rfl
  · intro w' hg' hb'
    have e : goInt ((cellsOf N (min sn dn)).length : Int) = goInt ((min sn dn : Nat) : Int) := by rw [hl]
    rw [e]
    refine h w' ⟨_, hg'.out, by simp only [List.size_toArray]; rw [length_splice _ _ _ (by rw [hl, Array.length_toList]; omega), Array.length_toList, hcs], fun i hi => ?_⟩ hb'
    rw [List.getElem?_toArray, splice_get _ _ _ (by rw [hl, Array.length_toList]; omega), hl, cellsOf_get]
    by_cases h1 : off ≤ i ∧ i < off + min sn dn
    · simp only [if_pos h1]
      rw [if_pos (by omega)]
    · simp only [if_neg h1]
      rw [Array.getElem?_toList, hci i hi]
end Go.Proofs.Ytegbhenchmfngaa
