/- The way to the laws of books: BBack to BThere. -/
import Derived.Test.YtfeodppdmbideaaGreatDoorBA24
import Derived.Test.YtfeodppdmbideaaGreatDoorBA27
namespace Go.Proofs.YtfeodppdmbideaaGreatDoor
open Go.RowKit

/-- A read stays at an error. -/
def Stay {α : Type} (rd : St → α × St) : Prop := ∀ s, s.2 ≠ 0 → (rd s).2.2 = s.2
/-- These bytes are read as x; what begins them asks for more. -/
structure GoodR {α : Type} (rd : St → α × St) (x : α) (ws : List Nat) : Prop where
  eat : ∀ r, rd (ws ++ r, 0) = (x, (r, 0))
  cut : ∀ c, c <+: ws → c ≠ ws → (rd (c, 0)).2.2 = 4
theorem GoodR.bind {α β : Type} {rd : St → α × St} {k : α → St → β × St} {x : α} {y : β} {a b : List Nat} (h : GoodR rd x a) (hs : ∀ z, Stay (k z)) (hk : GoodR (k x) y b) : GoodR (fun s => k (rd s).1 (rd s).2) y (a ++ b) where
  eat := fun r => by
    rw [List.append_assoc]
    simp only [h.eat]
    exact hk.eat r
  cut := fun c hc hn => by
    rcases List.prefix_or_prefix_of_prefix hc (List.prefix_append a b) with h1 | h1
    · by_cases e : c = a
      · subst e
        have := h.eat []
        rw [List.append_nil] at this
        simp only [this]
        refine hk.cut [] (List.nil_prefix) fun e => hn ?_
        rw [← e, List.append_nil]
      · have := h.cut c h1 e
        exact (hs _ _ (by rw [this]; decide)).trans this
    · obtain ⟨d, rfl⟩ := h1
      simp only [h.eat]
      exact hk.cut d ((List.prefix_append_right_inj a).1 hc) fun e => hn (by rw [e])
theorem GoodR.map {α β : Type} {rd : St → α × St} {x : α} {a : List Nat} (h : GoodR rd x a) (f : α → β) : GoodR (fun s => (f (rd s).1, (rd s).2)) (f x) a where
  eat := fun r => by simp only [h.eat]
  cut := fun c hc hn => h.cut c hc hn
theorem GoodR.pure {β : Type} (y : β) : GoodR (fun s : St => (y, s)) y [] where
  eat := fun _ => rfl
  cut := fun _ hc hn => absurd (List.prefix_nil.1 hc) hn
theorem Stay.bind {α β : Type} {rd : St → α × St} {k : α → St → β × St} (h : Stay rd) (hk : ∀ z, Stay (k z)) : Stay (fun s => k (rd s).1 (rd s).2) := fun s hs => by
  have h1 := h s hs
  exact (hk _ _ (by rw [h1]; exact hs)).trans h1
theorem stay2 {α α2 β : Type} {a : St → α × St} {b : St → α2 × St} {f : St → β} (ha : Stay a) (hb : Stay b) : Stay (fun s => (f s, (b (a s).2).2)) := fun s h => by
  have h1 := ha s h
  exact (hb _ (by rw [h1]; exact h)).trans h1
theorem stay3 {α α2 α3 β : Type} {a : St → α × St} {b : St → α2 × St} {c : St → α3 × St} {f : St → β} (ha : Stay a) (hb : Stay b) (hc : Stay c) : Stay (fun s => (f s, (c (b (a s).2).2).2)) := fun s h => by
  have h1 := stay2 (f := fun _ => ()) ha hb s h
  exact (hc _ (by simp only at h1; rw [h1]; exact h)).trans h1
theorem stay4 {α α2 α3 α4 β : Type} {a : St → α × St} {b : St → α2 × St} {c : St → α3 × St} {d : St → α4 × St} {f : St → β} (ha : Stay a) (hb : Stay b) (hc : Stay c) (hd : Stay d) : Stay (fun s => (f s, (d (c (b (a s).2).2).2).2)) := fun s h => by
  have h1 := stay3 (f := fun _ => ()) ha hb hc s h
  exact (hd _ (by simp only at h1; rw [h1]; exact h)).trans h1
theorem Stay.pure {β : Type} (y : β) : Stay (fun s : St => (y, s)) := fun _ _ => rfl

theorem num_stay (m : Int) : Stay (numS m) := fun s h => by rw [numS_stays h]
theorem signed_stay : Stay signedS := fun s h => by rw [signedS_stays h]
theorem row_stay : Stay rowS := fun s h => by rw [rowS_stays h]
theorem many_stay {β : Type} {rd : St → β × St} (h : Stay rd) : ∀ (n : Nat) (l : List β), Stay (manyS rd n l)
  | 0, _ => fun _ _ => rfl
  | n + 1, l => (Stay.bind h fun z => many_stay h n (l ++ [z]) : Stay (fun s => manyS rd n (l ++ [(rd s).1]) (rd s).2))
theorem all_stay {β : Type} {rd : St → β × St} (h : Stay rd) : Stay (allS rd) := Stay.bind (num_stay 255) fun n => many_stay h n []

theorem scan_short {b : List Nat} {n most : Nat} (hm : n ≤ most) (hb : b <+: leb n) (hn : b ≠ leb n) : scan b most = (0, 0, 4) := by
  refine scan_cut (fun ⟨m, h⟩ => ?_) ⟨n, hm, hb⟩
  have h1 : m = n := found_one (b := leb n) (most := most) ⟨h.1, h.2.trans hb⟩ ⟨hm, List.prefix_refl _⟩
  subst h1
  exact hn (hb.eq_of_length (Nat.le_antisymm hb.length_le h.2.length_le))
theorem next_good {n most : Nat} (hm : n ≤ most) : GoodR (nextS most) n (leb n) where
  eat := fun r => nextS_leb hm r
  cut := fun c hc hn => by unfold nextS; rw [if_neg (by simp)]; simp only [scan_short hm hc hn]
theorem num_good {n : Nat} {most : Int} (hm : (n : Int) ≤ most) : GoodR (numS most) n (leb n) where
  eat := fun r => numS_leb hm r
  cut := fun c hc hn => by
    unfold numS
    rw [if_neg (by omega)]
    exact (next_good (by omega)).cut c hc hn
theorem signed_good {n : Int} (h1 : -9223372036854775808 ≤ n) (h2 : n ≤ 9223372036854775807) : GoodR signedS n (leb (fold n)) where
  eat := fun r => signedS_leb h1 h2 r
  cut := fun c hc hn => (next_good (by unfold fold; split <;> omega)).cut c hc hn
theorem node_stay : Stay nodeS := stay3 (num_stay 255) (num_stay 1048576) (num_stay 1048576)
theorem node_good {x : Node3} (h : ONodeOk x) : GoodR nodeS x (leb x.1.toNat ++ (leb x.2.1.toNat ++ leb x.2.2.toNat)) := by
  obtain ⟨a, b, c⟩ := x
  obtain ⟨⟨a1, a2⟩, ⟨b1, b2⟩, c1, c2⟩ := h
  simp only at a1 a2 b1 b2 c1 c2
  obtain ⟨a, rfl⟩ : ∃ n : Nat, a = n := ⟨a.toNat, by omega⟩
  obtain ⟨b, rfl⟩ : ∃ n : Nat, b = n := ⟨b.toNat, by omega⟩
  obtain ⟨c, rfl⟩ : ∃ n : Nat, c = n := ⟨c.toNat, by omega⟩
  simp only [Int.toNat_natCast]
  have h3 := (num_good (most := 1048576) (by omega : (c : Int) ≤ _)).map fun c => (((a : Int), (b : Int), (c : Int)) : Node3)
  have h2 := (num_good (most := 1048576) (by omega : (b : Int) ≤ _)).bind (k := fun (b : Nat) s => ((((a : Int), (b : Int), ((numS 1048576 s).1 : Int)) : Node3), (numS 1048576 s).2)) (fun b => (num_stay 1048576)) h3
  exact (num_good (most := 255) (by omega : (a : Int) ≤ _)).bind (k := fun (a : Nat) s => ((((a : Int), ((numS 1048576 s).1 : Int), ((numS 1048576 (numS 1048576 s).2).1 : Int)) : Node3), (numS 1048576 (numS 1048576 s).2).2)) (fun a => stay2 (num_stay 1048576) (num_stay 1048576)) h2
theorem orow_stay : ∀ (n : Nat) (t : List Node3), Stay (orowA n t)
  | 0, _ => fun _ _ => rfl
  | n + 1, t => fun s h => by
    rw [orowA]
    have := node_stay s h
    rw [if_pos (by rw [this]; exact h)]
    exact this
theorem orow_good : ∀ (l acc : List Node3), (∀ x ∈ l, ONodeOk x) → GoodR (orowA l.length acc) (acc ++ l) (lebs (flatT l))
  | [], acc, _ => by
    rw [List.append_nil]
    exact GoodR.pure acc
  | x :: l, acc, h => by
    have h1 := node_good (h x List.mem_cons_self)
    have h2 := orow_good l (acc ++ [x]) fun y hy => h y (List.mem_cons_of_mem _ hy)
    have h3 : GoodR (fun s => orowA l.length (acc ++ [(nodeS s).1]) (nodeS s).2) ((acc ++ [x]) ++ l) _ := h1.bind (k := fun y s => orowA l.length (acc ++ [y]) s) (fun y => orow_stay _ _) h2
    have e : lebs (flatT (x :: l)) = (leb x.1.toNat ++ (leb x.2.1.toNat ++ leb x.2.2.toNat)) ++ lebs (flatT l) := by
      unfold flatT
      rw [List.flatMap_cons, lebs_append]
      simp [lebs]
    rw [e]
    refine ⟨fun r => ?_, fun c hc hn => ?_⟩
    · have h4 := h3.eat r
      have h5 := h1.eat (lebs (flatT l) ++ r)
      rw [← List.append_assoc] at h5
      rw [List.length_cons, orowA, if_neg (by rw [h5]; simp)]
      rw [h4]
      simp
    · have h4 := h3.cut c hc hn
      rw [List.length_cons, orowA]
      split
      · rename_i h5
        have h6 := orow_stay l.length (acc ++ [(nodeS (c, 0)).1]) _ h5
        simp only at h4 ⊢
        rw [← h6]; exact h4
      · exact h4
theorem row_good {t : List Node3} (h : ∀ x ∈ t, ONodeOk x) (hl : t.length ≤ 4096) : GoodR rowS t (lebT t) := by
  have h1 := orow_good t [] h
  rw [List.nil_append] at h1
  exact (num_good (most := 4096) (by omega : (t.length : Int) ≤ _)).bind (k := fun n s => orowA n [] s) (fun n => orow_stay n []) h1
theorem many_good {β : Type} {rd : St → β × St} {wr : β → List Nat} (hs : Stay rd) : ∀ (xs l : List β), (∀ x ∈ xs, GoodR rd x (wr x)) → GoodR (manyS rd xs.length l) (l ++ xs) (xs.flatMap wr)
  | [], l, _ => by rw [List.append_nil]; exact GoodR.pure l
  | x :: xs, l, h => by
    have h2 := many_good hs xs (l ++ [x]) fun y hy => h y (List.mem_cons_of_mem _ hy)
    have h3 := (h x List.mem_cons_self).bind (k := fun y s => manyS rd xs.length (l ++ [y]) s) (fun y => many_stay hs _ _) h2
    rw [List.flatMap_cons]
    rw [show l ++ x :: xs = l ++ [x] ++ xs by simp]
    exact h3
/-- What is written, with no row left out. -/
def outAll {α : Type} (f : α → List Nat) (l : List α) : List Nat := leb l.length ++ l.flatMap f
def outO (x : Node3) : List Nat := leb x.1.toNat ++ (leb (fold x.2.1) ++ leb x.2.2.toNat)
def outC (c : CtorP) : List Nat := outAll lebT c.args ++ outAll lebT c.out
def outE (x : EntP) : List Nat := leb x.kind.toNat ++ if x.kind = 2 then lebT x.typ ++ lebT x.body else lebT x.sort ++ (outAll lebT x.pars ++ (outAll lebT x.inds ++ outAll outC x.ctors))
def outP (x : Int × Int) : List Nat := leb x.1.toNat ++ leb x.2.toNat
def outB (b : BookP) : List Nat := leb b.vars.toNat ++ (outAll outO b.ords ++ (outAll outE b.ents ++ (leb (b.nat + 1).toNat ++ outAll outP b.prims)))
def outG (p : ProgP) : List Nat := outB p.book ++ (lebT p.main ++ lebT p.typ)
theorem all_good {β : Type} {rd : St → β × St} {wr : β → List Nat} (hs : Stay rd) {xs : List β} (h : ∀ x ∈ xs, GoodR rd x (wr x)) (hl : xs.length ≤ 255) : GoodR (allS rd) xs (outAll wr xs) := by
  have h1 := many_good hs xs [] h
  rw [List.nil_append] at h1
  exact (num_good (most := 255) (by omega : (xs.length : Int) ≤ _)).bind (k := fun n s => manyS rd n [] s) (fun n => many_stay hs n []) h1
/-- What may be written. -/
def RowG (t : List Node3) : Prop := (∀ x ∈ t, ONodeOk x) ∧ t.length ≤ 4096
def RowsG (l : List (List Node3)) : Prop := l.length ≤ 255 ∧ ∀ t ∈ l, RowG t
def Low (x : Int) : Prop := 0 ≤ x ∧ x ≤ 255
def OrdG (x : Node3) : Prop := Low x.1 ∧ (-9223372036854775808 ≤ x.2.1 ∧ x.2.1 ≤ 9223372036854775807) ∧ Low x.2.2
structure FamG (x : EntP) : Prop where
  kind : x.kind = 1
  sort : RowG x.sort
  pars : RowsG x.pars
  inds : RowsG x.inds
  many : x.ctors.length ≤ 255
  ctors : ∀ c ∈ x.ctors, RowsG c.args ∧ RowsG c.out
  typ : x.typ = []
  body : x.body = []
structure DefG (x : EntP) : Prop where
  kind : x.kind = 2
  sort : x.sort = []
  pars : x.pars = []
  inds : x.inds = []
  ctors : x.ctors = []
  typ : RowG x.typ
  body : RowG x.body
structure BookG (b : BookP) : Prop where
  vars : Low b.vars
  ords : ∀ x ∈ b.ords, OrdG x
  nords : b.ords.length ≤ 255
  ents : ∀ x ∈ b.ents, FamG x ∨ DefG x
  nents : b.ents.length ≤ 255
  nat : Low (b.nat + 1)
  prims : ∀ x ∈ b.prims, Low x.1 ∧ Low x.2
  nprims : b.prims.length ≤ 255
structure ProgG (p : ProgP) : Prop where
  book : BookG p.book
  main : RowG p.main
  typ : RowG p.typ
theorem RowG.good {t : List Node3} (h : RowG t) : GoodR rowS t (lebT t) := row_good h.1 h.2
theorem RowsG.good {l : List (List Node3)} (h : RowsG l) : GoodR (allS rowS) l (outAll lebT l) := all_good row_stay (fun t ht => (h.2 t ht).good) h.1
theorem low_nat {x : Int} (h : Low x) : ∃ n : Nat, x = n ∧ n ≤ 255 := ⟨x.toNat, by unfold Low at h; omega, by unfold Low at h; omega⟩
theorem prim_stay : Stay primS := stay2 (num_stay 255) (num_stay 255)
theorem ord_stay : Stay ordS := stay3 (num_stay 255) signed_stay (num_stay 255)
theorem ctor_stay : Stay ctorS := stay2 (all_stay row_stay) (all_stay row_stay)
theorem fam_stay : Stay entFam := stay4 row_stay (all_stay row_stay) (all_stay row_stay) (all_stay ctor_stay)
theorem def_stay : Stay entDef := stay2 row_stay row_stay
theorem kind_stay (k : Nat) : Stay (fun s => if k = 1 then entFam s else if k = 2 then entDef s else ((⟨0, [], [], [], [], [], []⟩ : EntP), (numS (-1) s).2)) := by
  intro s h
  by_cases h1 : k = 1
  · simp only [if_pos h1]; exact fam_stay s h
  · by_cases h2 : k = 2
    · simp only [if_neg h1, if_pos h2]; exact def_stay s h
    · simp only [if_neg h1, if_neg h2]; exact num_stay _ s h
theorem ent_stay : Stay entS := Stay.bind (num_stay 2) kind_stay
theorem prim_good {x : Int × Int} (h : Low x.1 ∧ Low x.2) : GoodR primS x (outP x) := by
  obtain ⟨a, b⟩ := x
  obtain ⟨h1, h2⟩ := h
  obtain ⟨a, rfl, ha⟩ := low_nat h1
  obtain ⟨b, rfl, hb⟩ := low_nat h2
  unfold outP
  simp only [Int.toNat_natCast]
  exact (num_good (most := 255) (by omega : (a : Int) ≤ _)).bind (k := fun (a : Nat) s => (((a : Int), ((numS 255 s).1 : Int)), (numS 255 s).2)) (fun _ => num_stay 255) ((num_good (most := 255) (by omega : (b : Int) ≤ _)).map fun b => ((a : Int), (b : Int)))
theorem ord_good {x : Node3} (h : OrdG x) : GoodR ordS x (outO x) := by
  obtain ⟨a, b, c⟩ := x
  obtain ⟨h1, h2, h3⟩ := h
  obtain ⟨a, rfl, ha⟩ := low_nat h1
  obtain ⟨c, rfl, hc⟩ := low_nat h3
  unfold outO
  simp only [Int.toNat_natCast]
  have g3 := (num_good (most := 255) (by omega : (c : Int) ≤ _)).map fun c => (((a : Int), b, (c : Int)) : Node3)
  have g2 := (signed_good h2.1 h2.2).bind (k := fun (b : Int) s => ((((a : Int), b, ((numS 255 s).1 : Int)) : Node3), (numS 255 s).2)) (fun _ => num_stay 255) g3
  exact (num_good (most := 255) (by omega : (a : Int) ≤ _)).bind (k := fun (a : Nat) s => ((((a : Int), (signedS s).1, ((numS 255 (signedS s).2).1 : Int)) : Node3), (numS 255 (signedS s).2).2)) (fun _ => stay2 signed_stay (num_stay 255)) g2
theorem ctor_good {c : CtorP} (h : RowsG c.args ∧ RowsG c.out) : GoodR ctorS c (outC c) := by
  obtain ⟨a, o⟩ := c
  exact h.1.good.bind (k := fun a s => ((⟨a, (allS rowS s).1⟩ : CtorP), (allS rowS s).2)) (fun _ => all_stay row_stay) (h.2.good.map fun o => (⟨a, o⟩ : CtorP))
theorem fam_good {x : EntP} (h : FamG x) : GoodR entFam x (lebT x.sort ++ (outAll lebT x.pars ++ (outAll lebT x.inds ++ outAll outC x.ctors))) := by
  obtain ⟨k, s, p, i, c, t, b⟩ := x
  obtain ⟨h1, h2, h3, h4, h5, h6, h7, h8⟩ := h
  simp only at h1 h2 h3 h4 h5 h6 h7 h8 ⊢
  subst h1 h7 h8
  have g4 := (all_good ctor_stay (fun c hc => ctor_good (h6 c hc)) h5).map fun c => (⟨1, s, p, i, c, [], []⟩ : EntP)
  have g3 := h4.good.bind (k := fun i r => ((⟨1, s, p, i, (allS ctorS r).1, [], []⟩ : EntP), (allS ctorS r).2)) (fun _ => all_stay ctor_stay) g4
  have g2 := h3.good.bind (k := fun p r => ((⟨1, s, p, (allS rowS r).1, (allS ctorS (allS rowS r).2).1, [], []⟩ : EntP), (allS ctorS (allS rowS r).2).2)) (fun _ => stay2 (all_stay row_stay) (all_stay ctor_stay)) g3
  exact h2.good.bind (k := fun s r => ((⟨1, s, (allS rowS r).1, (allS rowS (allS rowS r).2).1, (allS ctorS (allS rowS (allS rowS r).2).2).1, [], []⟩ : EntP), (allS ctorS (allS rowS (allS rowS r).2).2).2)) (fun _ => stay3 (all_stay row_stay) (all_stay row_stay) (all_stay ctor_stay)) g2
theorem def_good {x : EntP} (h : DefG x) : GoodR entDef x (lebT x.typ ++ lebT x.body) := by
  obtain ⟨k, s, p, i, c, t, b⟩ := x
  obtain ⟨h1, h2, h3, h4, h5, h6, h7⟩ := h
  simp only at h1 h2 h3 h4 h5 h6 h7 ⊢
  subst h1 h2 h3 h4 h5
  exact h6.good.bind (k := fun t r => ((⟨2, [], [], [], [], t, (rowS r).1⟩ : EntP), (rowS r).2)) (fun _ => row_stay) (h7.good.map fun b => (⟨2, [], [], [], [], t, b⟩ : EntP))
theorem ent_good {x : EntP} (h : FamG x ∨ DefG x) : GoodR entS x (outE x) := by
  unfold outE
  rcases h with h | h
  · have hk := h.kind
    rw [if_neg (by omega), show x.kind.toNat = 1 by omega]
    exact (num_good (n := 1) (most := 2) (by omega)).bind (k := fun (k : Nat) s => if k = 1 then entFam s else if k = 2 then entDef s else ((⟨0, [], [], [], [], [], []⟩ : EntP), (numS (-1) s).2)) kind_stay (fam_good h)
  · have hk := h.kind
    rw [if_pos hk, show x.kind.toNat = 2 by omega]
    exact (num_good (n := 2) (most := 2) (by omega)).bind (k := fun (k : Nat) s => if k = 1 then entFam s else if k = 2 then entDef s else ((⟨0, [], [], [], [], [], []⟩ : EntP), (numS (-1) s).2)) kind_stay (def_good h)
theorem book_good {b : BookP} (h : BookG b) : GoodR bookS b (outB b) := by
  obtain ⟨v, o, e, n, p⟩ := b
  obtain ⟨h1, h2, h3, h4, h5, h6, h7, h8⟩ := h
  simp only at h1 h2 h3 h4 h5 h6 h7 h8
  obtain ⟨v, rfl, hv⟩ := low_nat h1
  obtain ⟨m, hm, hn⟩ := low_nat h6
  obtain rfl : n = (m : Int) - 1 := by omega
  unfold outB
  simp only [Int.toNat_natCast, Int.sub_add_cancel]
  have g5 := (all_good prim_stay (fun x hx => prim_good (h7 x hx)) h8).map fun p => (⟨v, o, e, (m : Int) - 1, p⟩ : BookP)
  have g4 := (num_good (most := 255) (by omega : (m : Int) ≤ _)).bind (k := fun (m : Nat) s => ((⟨v, o, e, (m : Int) - 1, (allS primS s).1⟩ : BookP), (allS primS s).2)) (fun _ => all_stay prim_stay) g5
  have g3 := (all_good ent_stay (fun x hx => ent_good (h4 x hx)) h5).bind (k := fun e s => ((⟨v, o, e, ((numS 255 s).1 : Int) - 1, (allS primS (numS 255 s).2).1⟩ : BookP), (allS primS (numS 255 s).2).2)) (fun _ => stay2 (num_stay 255) (all_stay prim_stay)) g4
  have g2 := (all_good ord_stay (fun x hx => ord_good (h2 x hx)) h3).bind (k := fun o s => ((⟨v, o, (allS entS s).1, ((numS 255 (allS entS s).2).1 : Int) - 1, (allS primS (numS 255 (allS entS s).2).2).1⟩ : BookP), (allS primS (numS 255 (allS entS s).2).2).2)) (fun _ => stay3 (all_stay ent_stay) (num_stay 255) (all_stay prim_stay)) g3
  exact (num_good (most := 255) (by omega : (v : Int) ≤ _)).bind (k := fun (v : Nat) s => ((⟨v, (allS ordS s).1, (allS entS (allS ordS s).2).1, ((numS 255 (allS entS (allS ordS s).2).2).1 : Int) - 1, (allS primS (numS 255 (allS entS (allS ordS s).2).2).2).1⟩ : BookP), (allS primS (numS 255 (allS entS (allS ordS s).2).2).2).2)) (fun _ => stay4 (all_stay ord_stay) (all_stay ent_stay) (num_stay 255) (all_stay prim_stay)) g2
theorem prog_good {p : ProgP} (h : ProgG p) : GoodR progS p (outG p) := by
  obtain ⟨b, m, t⟩ := p
  obtain ⟨h1, h2, h3⟩ := h
  have g3 := h3.good.map fun t => (⟨b, m, t⟩ : ProgP)
  have g2 := h2.good.bind (k := fun m s => ((⟨b, m, (rowS s).1⟩ : ProgP), (rowS s).2)) (fun _ => row_stay) g3
  exact (book_good h1).bind (k := fun b s => ((⟨b, (rowS s).1, (rowS (rowS s).2).1⟩ : ProgP), (rowS (rowS s).2).2)) (fun _ => stay2 row_stay row_stay) g2
end Go.Proofs.YtfeodppdmbideaaGreatDoor
namespace Go.Proofs.YtfeodppdmbideaaGreatDoor
open Go.RowKit

/-- What was read stood there. -/
def Onto {α : Type} (rd : St → α × St) (wr : α → List Nat) : Prop := ∀ s, (rd s).2.2 = 0 → s.2 = 0 ∧ wr (rd s).1 ++ (rd s).2.1 = s.1
theorem num_onto (m : Int) : Onto (numS m) leb := fun _ h => ⟨(numS_ok h).2.1, (numS_ok h).2.2.1⟩
theorem signed_onto : Onto signedS fun x => leb (fold x) := fun s h => by
  unfold signedS at h ⊢
  simp only at h ⊢
  rw [fold_unfold]
  exact nextS_ok h
theorem node_onto : Onto nodeS fun x => leb x.1.toNat ++ (leb x.2.1.toNat ++ leb x.2.2.toNat) := fun s h => by
  obtain ⟨h1, e1⟩ := num_onto 1048576 (numS 1048576 (numS 255 s).2).2 h
  obtain ⟨h2, e2⟩ := num_onto 1048576 (numS 255 s).2 h1
  obtain ⟨h3, e3⟩ := num_onto 255 s h2
  refine ⟨h3, ?_⟩
  show leb (((numS 255 s).1 : Nat) : Int).toNat ++ (leb (((numS 1048576 (numS 255 s).2).1 : Nat) : Int).toNat ++ leb (((numS 1048576 (numS 1048576 (numS 255 s).2).2).1 : Nat) : Int).toNat) ++ (numS 1048576 (numS 1048576 (numS 255 s).2).2).2.1 = s.1
  simp only [Int.toNat_natCast]
  rw [List.append_assoc, List.append_assoc, e1, e2, e3]
theorem orow_onto : ∀ (n : Nat) (acc : List Node3) (s : St), s.2 = 0 → (orowA n acc s).2.2 = 0 → ∃ l, (orowA n acc s).1 = acc ++ l ∧ l.length = n ∧ lebs (flatT l) ++ (orowA n acc s).2.1 = s.1
  | 0, acc, s, _, _ => ⟨[], by rw [orowA, List.append_nil], rfl, rfl⟩
  | n + 1, acc, s, h0, h => by
    rw [orowA] at h ⊢
    by_cases h1 : (nodeS s).2.2 ≠ 0
    · rw [if_pos h1] at h
      exact absurd h h1
    · rw [if_neg h1] at h ⊢
      have h2 : (nodeS s).2.2 = 0 := by simpa using h1
      obtain ⟨-, e0⟩ := node_onto s h2
      obtain ⟨l, e1, e2, e3⟩ := orow_onto n _ _ h2 h
      refine ⟨(nodeS s).1 :: l, by rw [e1]; simp, by rw [List.length_cons, e2], ?_⟩
      have ef : lebs (flatT ((nodeS s).1 :: l)) = (leb (nodeS s).1.1.toNat ++ (leb (nodeS s).1.2.1.toNat ++ leb (nodeS s).1.2.2.toNat)) ++ lebs (flatT l) := by
        unfold flatT
        rw [List.flatMap_cons, lebs_append]
        simp [lebs]
      rw [ef, List.append_assoc, e3, e0]
theorem row_onto : Onto rowS lebT := fun s h => by
  have h1 : (numS 4096 s).2.2 = 0 := by
    by_cases h1 : (numS 4096 s).2.2 = 0
    · exact h1
    · exact absurd ((orow_stay _ _ _ h1).symm.trans h) h1
  obtain ⟨h2, e2⟩ := num_onto 4096 s h1
  obtain ⟨l, e3, e4, e5⟩ := orow_onto _ _ _ h1 h
  refine ⟨h2, ?_⟩
  unfold rowS
  rw [e3, List.nil_append]
  unfold lebT
  rw [e4, List.append_assoc, e5, e2]
theorem many_onto {β : Type} {rd : St → β × St} {wr : β → List Nat} (ho : Onto rd wr) : ∀ (n : Nat) (acc : List β) (s : St), (manyS rd n acc s).2.2 = 0 → s.2 = 0 ∧ ∃ l, (manyS rd n acc s).1 = acc ++ l ∧ l.length = n ∧ l.flatMap wr ++ (manyS rd n acc s).2.1 = s.1
  | 0, acc, s, h => ⟨h, [], by rw [manyS, List.append_nil], rfl, rfl⟩
  | n + 1, acc, s, h => by
    rw [manyS] at h ⊢
    obtain ⟨h1, l, e1, e2, e3⟩ := many_onto ho n _ _ h
    obtain ⟨h2, e4⟩ := ho s h1
    refine ⟨h2, (rd s).1 :: l, by rw [e1]; simp, by rw [List.length_cons, e2], ?_⟩
    rw [List.flatMap_cons, List.append_assoc, e3, e4]
theorem all_onto {β : Type} {rd : St → β × St} {wr : β → List Nat} (ho : Onto rd wr) : Onto (allS rd) (outAll wr) := fun s h => by
  obtain ⟨h1, l, e1, e2, e3⟩ := many_onto ho _ _ _ h
  obtain ⟨h2, e4⟩ := num_onto 255 s h1
  refine ⟨h2, ?_⟩
  unfold allS
  rw [e1, List.nil_append]
  unfold outAll
  rw [e2, List.append_assoc, e3, e4]
theorem prim_onto : Onto primS outP := fun s h => by
  obtain ⟨h1, e1⟩ := num_onto 255 (numS 255 s).2 h
  obtain ⟨h2, e2⟩ := num_onto 255 s h1
  refine ⟨h2, ?_⟩
  show leb (((numS 255 s).1 : Nat) : Int).toNat ++ leb (((numS 255 (numS 255 s).2).1 : Nat) : Int).toNat ++ (numS 255 (numS 255 s).2).2.1 = s.1
  simp only [Int.toNat_natCast]
  rw [List.append_assoc, e1, e2]
theorem ord_onto : Onto ordS outO := fun s h => by
  obtain ⟨h1, e1⟩ := num_onto 255 (signedS (numS 255 s).2).2 h
  obtain ⟨h2, e2⟩ := signed_onto (numS 255 s).2 h1
  obtain ⟨h3, e3⟩ := num_onto 255 s h2
  refine ⟨h3, ?_⟩
  show leb (((numS 255 s).1 : Nat) : Int).toNat ++ (leb (fold (signedS (numS 255 s).2).1) ++ leb (((numS 255 (signedS (numS 255 s).2).2).1 : Nat) : Int).toNat) ++ (numS 255 (signedS (numS 255 s).2).2).2.1 = s.1
  simp only [Int.toNat_natCast]
  rw [List.append_assoc, List.append_assoc, e1, e2, e3]
theorem ctor_onto : Onto ctorS outC := fun s h => by
  obtain ⟨h1, e1⟩ := all_onto row_onto (allS rowS s).2 h
  obtain ⟨h2, e2⟩ := all_onto row_onto s h1
  refine ⟨h2, ?_⟩
  show outAll lebT (allS rowS s).1 ++ outAll lebT (allS rowS (allS rowS s).2).1 ++ (allS rowS (allS rowS s).2).2.1 = s.1
  rw [List.append_assoc, e1, e2]
theorem fam_onto (s : St) (h : (entFam s).2.2 = 0) : s.2 = 0 ∧ outE (entFam s).1 ++ (entFam s).2.1 = leb 1 ++ s.1 := by
  obtain ⟨h1, e1⟩ := all_onto ctor_onto (allS rowS (allS rowS (rowS s).2).2).2 h
  obtain ⟨h2, e2⟩ := all_onto row_onto (allS rowS (rowS s).2).2 h1
  obtain ⟨h3, e3⟩ := all_onto row_onto (rowS s).2 h2
  obtain ⟨h4, e4⟩ := row_onto s h3
  refine ⟨h4, ?_⟩
  unfold outE entFam
  simp only
  rw [if_neg (by decide), show (1 : Int).toNat = 1 from rfl]
  rw [List.append_assoc, List.append_assoc, List.append_assoc, List.append_assoc, e1, e2, e3, e4]
theorem def_onto (s : St) (h : (entDef s).2.2 = 0) : s.2 = 0 ∧ outE (entDef s).1 ++ (entDef s).2.1 = leb 2 ++ s.1 := by
  obtain ⟨h1, e1⟩ := row_onto (rowS s).2 h
  obtain ⟨h2, e2⟩ := row_onto s h1
  refine ⟨h2, ?_⟩
  unfold outE entDef
  simp only
  rw [if_pos trivial, show (2 : Int).toNat = 2 from rfl]
  rw [List.append_assoc, List.append_assoc, e1, e2]
theorem ent_onto : Onto entS outE := fun s h => by
  unfold entS at h ⊢
  by_cases h1 : (numS 2 s).1 = 1
  · rw [if_pos h1] at h ⊢
    obtain ⟨h2, e2⟩ := fam_onto _ h
    obtain ⟨h3, e3⟩ := num_onto 2 s h2
    rw [h1] at e3
    exact ⟨h3, by rw [e2, e3]⟩
  · rw [if_neg h1] at h ⊢
    by_cases h2 : (numS 2 s).1 = 2
    · rw [if_pos h2] at h ⊢
      obtain ⟨h2', e2⟩ := def_onto _ h
      obtain ⟨h3, e3⟩ := num_onto 2 s h2'
      rw [h2] at e3
      exact ⟨h3, by rw [e2, e3]⟩
    · rw [if_neg h2] at h
      have := (numS_ok h).1
      omega
theorem book_onto : Onto bookS outB := fun s h => by
  obtain ⟨h1, e1⟩ := all_onto prim_onto (numS 255 (allS entS (allS ordS (numS 255 s).2).2).2).2 h
  obtain ⟨h2, e2⟩ := num_onto 255 (allS entS (allS ordS (numS 255 s).2).2).2 h1
  obtain ⟨h3, e3⟩ := all_onto ent_onto (allS ordS (numS 255 s).2).2 h2
  obtain ⟨h4, e4⟩ := all_onto ord_onto (numS 255 s).2 h3
  obtain ⟨h5, e5⟩ := num_onto 255 s h4
  refine ⟨h5, ?_⟩
  unfold bookS outB
  simp only [Int.sub_add_cancel, Int.toNat_natCast]
  rw [List.append_assoc, List.append_assoc, List.append_assoc, List.append_assoc, e1, e2, e3, e4, e5]
theorem prog_onto : Onto progS outG := fun s h => by
  unfold progS at h ⊢
  simp only at h ⊢
  generalize hb : bookS s = B at *
  generalize hm : rowS B.2 = M at *
  have k1 := row_onto M.2 h
  have k2 := row_onto B.2 (hm ▸ k1.1)
  have k3 := book_onto s (hb ▸ k2.1)
  refine ⟨k3.1, ?_⟩
  have e2 := k2.2
  have e3 := k3.2
  rw [hm] at e2
  rw [hb] at e3
  unfold outG
  simp only
  rw [List.append_assoc, List.append_assoc, k1.2, e2, e3]

/-- The same, or too many both. -/
def Like (a b : List Nat) : Prop := a = b ∨ (65536 < a.length ∧ 65536 < b.length)
theorem Like.more {a b c : List Nat} (h : Like a b) : Like (a ++ c) (b ++ c) := by
  rcases h with rfl | ⟨h1, h2⟩
  · exact .inl rfl
  · exact .inr ⟨by rw [List.length_append]; omega, by rw [List.length_append]; omega⟩
/-- A writer that leaves out nothing but what is too much. -/
def Writes {α : Type} (f : List Nat → α → List Nat) (wr : α → List Nat) (x : α) : Prop := ∀ a b, Like a b → Like (f a x) (b ++ wr x)
theorem row_writes (t : List Node3) : Writes encR lebT t := fun a b h => by
  unfold encR
  rcases h with rfl | ⟨h1, h2⟩
  · split
    · exact .inr ⟨by omega, by rw [List.length_append]; omega⟩
    · exact .inl rfl
  · rw [if_pos h1]
    exact .inr ⟨h1, by rw [List.length_append]; omega⟩
theorem fold_writes {α : Type} {f : List Nat → α → List Nat} {wr : α → List Nat} : ∀ (l : List α), (∀ x ∈ l, Writes f wr x) → ∀ a b, Like a b → Like (l.foldl f a) (b ++ l.flatMap wr)
  | [], _, a, b, h => by rw [List.flatMap_nil, List.append_nil]; exact h
  | x :: l, hl, a, b, h => by
    rw [List.foldl_cons, List.flatMap_cons, ← List.append_assoc]
    exact fold_writes l (fun y hy => hl y (List.mem_cons_of_mem _ hy)) _ _ (hl x List.mem_cons_self a b h)
theorem all_writes {α : Type} {f : List Nat → α → List Nat} {wr : α → List Nat} (l : List α) (hl : ∀ x ∈ l, Writes f wr x) : Writes (encAll f) (outAll wr) l := fun a b h => by
  unfold encAll outAll
  rw [← List.append_assoc]
  refine fold_writes l hl _ _ ?_
  have : lebs [(l.length : Int)] = leb l.length := by simp [lebs]
  rw [this]
  exact h.more
theorem rows_writes (l : List (List Node3)) : Writes (encAll encR) (outAll lebT) l := all_writes l fun t _ => row_writes t
theorem ord_writes (x : Node3) : Writes encO outO x := fun a b h => by
  unfold encO outO
  rw [show lebs [x.1] = leb x.1.toNat by simp [lebs], show lebs [x.2.2] = leb x.2.2.toNat by simp [lebs], List.append_assoc, List.append_assoc]
  exact h.more
theorem prim_writes (x : Int × Int) : Writes encP outP x := fun a b h => by
  unfold encP outP
  rw [show lebs [x.1, x.2] = leb x.1.toNat ++ leb x.2.toNat by simp [lebs]]
  exact h.more
theorem ctor_writes (c : CtorP) : Writes encC outC c := fun a b h => by
  unfold encC outC
  rw [← List.append_assoc]
  exact rows_writes c.out _ _ (rows_writes c.args _ _ h)
theorem ent_writes (x : EntP) : Writes encE outE x := fun a b h => by
  unfold encE outE
  rw [show lebs [x.kind] = leb x.kind.toNat by simp [lebs]]
  split
  · rw [← List.append_assoc, ← List.append_assoc]
    exact row_writes _ _ _ (row_writes _ _ _ h.more)
  · rw [← List.append_assoc, ← List.append_assoc, ← List.append_assoc, ← List.append_assoc]
    exact all_writes _ (fun c _ => ctor_writes c) _ _ (rows_writes _ _ _ (rows_writes _ _ _ (row_writes _ _ _ h.more)))
theorem book_writes (x : BookP) : Writes encB outB x := fun a b h => by
  unfold encB outB
  rw [show lebs [x.vars] = leb x.vars.toNat by simp [lebs], show lebs [x.nat + 1] = leb (x.nat + 1).toNat by simp [lebs], ← List.append_assoc, ← List.append_assoc, ← List.append_assoc, ← List.append_assoc]
  exact all_writes _ (fun p _ => prim_writes p) _ _ (all_writes _ (fun e _ => ent_writes e) _ _ (all_writes _ (fun o _ => ord_writes o) _ _ h.more)).more
theorem prog_like (p : ProgP) : Like (encG p) (outG p) := by
  unfold encG outG
  rw [← List.append_assoc]
  have := book_writes p.book [] [] (.inl rfl)
  rw [List.nil_append] at this
  exact row_writes _ _ _ (row_writes _ _ _ this)
end Go.Proofs.YtfeodppdmbideaaGreatDoor
namespace Go.Proofs.YtfeodppdmbideaaGreatDoor
open Go.RowKit

theorem ent_G {v : Int} {ents : List EntP} {i : Nat} {x : EntP} (h : entE v ents i x = 0) : FamG x ∨ DefG x := by
  unfold entE at h
  split at h
  · rename_i h0
    obtain ⟨⟨h1, h2⟩, ⟨h3, h4, h5⟩, h6, -, h7, h8⟩ := famE_zero h
    have hall : ∀ t ∈ x.pars ++ x.inds, RowG t := fun t ht => by
      obtain ⟨j, hj, rfl⟩ := List.getElem_of_mem ht
      exact row_right (h7 j hj)
    refine .inl ⟨h0, row_right h6, ⟨by omega, fun t ht => hall t (List.mem_append_left _ ht)⟩, ⟨by omega, fun t ht => hall t (List.mem_append_right _ ht)⟩, by omega, fun c hc => ?_, h1, h2⟩
    obtain ⟨k1, k2, k3, k4⟩ := ctorE_zero (h8 c hc)
    refine ⟨⟨by omega, fun t ht => ?_⟩, by omega, fun t ht => row_right (k4 t ht)⟩
    obtain ⟨j, hj, rfl⟩ := List.getElem_of_mem ht
    exact row_right (k3 j hj)
  · split at h
    · rename_i h0
      obtain ⟨⟨h1, h2, h3, h4⟩, h5, h6⟩ := defE_zero h
      exact .inr ⟨h0, h1, h2, h3, h4, row_right h5, row_right h6⟩
    · cases h
theorem book_G {b : BookP} (h : rightE b = 0) : BookG b := by
  unfold rightE at h
  split at h
  · rename_i h1; exact absurd h h1
  rename_i h1
  split at h
  · cases h
  rename_i h2
  split at h
  · rename_i h3; exact absurd h h3
  rename_i h3
  split at h
  · rename_i h4
    rw [Bool.and_eq_true] at h4
    obtain ⟨h4, h5⟩ := h4
    unfold primsB at h5
    rw [Bool.and_eq_true] at h5
    obtain ⟨h6, h7⟩ := prims_few _ _ h5.1
    have hf : faultS b.vars b.ords = 0 := by
      by_cases hf : faultS b.vars b.ords = 0
      · exact hf
      · exact absurd (err_fault hf ▸ Classical.not_not.1 h1 : faultS b.vars b.ords = 0) hf
    unfold faultS at hf
    split at hf
    · rename_i hwi
      split at hf
      · cases hf
      rename_i hlen
      split at hf
      · rename_i hall
        have hv : 0 ≤ b.vars ∧ b.vars ≤ 16 := by simpa [withinB] using hwi
        refine ⟨⟨hv.1, by omega⟩, fun x hx => ?_, by omega, fun x hx => ?_, by omega, ?_, fun x hx => ?_, ?_⟩
        · have := List.all_eq_true.1 hall x hx
          simp only [okO, withinB, Bool.and_eq_true, decide_eq_true_eq] at this
          unfold OrdG Low
          omega
        · obtain ⟨j, hj, rfl⟩ := List.getElem_of_mem hx
          exact ent_G (firstE_zero (f := fun i x => entE b.vars b.ents i x) (Classical.not_not.1 h3) j hj)
        · unfold natB at h4
          rw [Bool.or_eq_true, decide_eq_true_eq, Bool.and_eq_true] at h4
          unfold Low
          rcases h4 with e | ⟨e, -⟩
          · omega
          · have := kind_lt e
            omega
        · obtain ⟨k1, k2⟩ := h7 x hx
          unfold Low
          omega
        · have h10 : freeIds [] ≤ 3 := by decide
          omega
      · cases hf
    · cases hf
  · cases h
theorem prog_zero {p : ProgP} (h : progE p = 0) : rightE p.book = 0 ∧ fitsE p.book 0 p.main = 0 ∧ fitsE p.book 0 p.typ = 0 := by
  unfold progE at h
  split at h
  · rename_i h1; exact absurd h h1
  rename_i h1
  have h1 := Classical.not_not.1 h1
  have h2 := firstE_all h
  have f : ∀ t, rowE (thereN p.book.vars p.book.ents p.book.ents.length (-1)) 0 t = 0 → fitsE p.book 0 t = 0 := fun t ht => by
    unfold fitsE
    rw [if_neg (fun e => e h1), if_neg (by omega)]
    exact ht
  exact ⟨h1, f _ (h2 _ (by simp)), f _ (h2 _ (by simp))⟩
theorem prog_G {p : ProgP} (h : progE p = 0) : ProgG p := by
  unfold progE at h
  split at h
  · rename_i h1; exact absurd h h1
  rename_i h1
  have h2 := firstE_all h
  exact ⟨book_G (Classical.not_not.1 h1), row_right (h2 _ (by simp)), row_right (h2 _ (by simp))⟩
/-- What is written: all of it. -/
theorem encode_out {p : ProgP} {b : List Nat} (h : encodeS p = (b, 0)) : progE p = 0 ∧ b = outG p ∧ b.length ≤ 65536 := by
  unfold encodeS at h
  split at h
  · rename_i h1
    simp only [Prod.mk.injEq] at h
    exact absurd h.2 h1
  rename_i h1
  split at h
  · simp at h
  rename_i h2
  simp only [Prod.mk.injEq, and_true] at h
  subst h
  refine ⟨Classical.not_not.1 h1, ?_, by omega⟩
  rcases prog_like p with e | ⟨e, -⟩
  · exact e
  · omega
theorem encode_of {p : ProgP} (h : progE p = 0) (hl : (outG p).length ≤ 65536) : encodeS p = (outG p, 0) := by
  unfold encodeS
  rw [if_neg (fun e => e h)]
  rcases prog_like p with e | ⟨-, e⟩
  · rw [e, if_neg (by omega)]
  · omega
theorem encode_large {p : ProgP} (h : progE p = 0) (hl : 65536 < (outG p).length) : encodeS p = ([], 6) := by
  unfold encodeS
  rw [if_neg (fun e => e h)]
  rcases prog_like p with e | ⟨e, -⟩
  · rw [e, if_pos hl]
  · rw [if_pos e]
theorem decode_encode {p : ProgP} {b : List Nat} (h : encodeS p = (b, 0)) : decodeS b = (p, 0) := by
  obtain ⟨h1, h2, h3⟩ := encode_out h
  have h4 := (prog_good (prog_G h1)).eat []
  rw [List.append_nil, ← h2] at h4
  unfold decodeS
  rw [h4, if_neg (by omega), if_neg (by simp), if_neg (by simp)]
  exact if_neg fun e => e h1
theorem decode_cut {p : ProgP} {b : List Nat} (h : encodeS p = (b, 0)) {k : Nat} (hk : k < b.length) : decodeS (b.take k) = (progN, 4) := by
  obtain ⟨h1, h2, h3⟩ := encode_out h
  have hn : b.take k ≠ outG p := fun e => by
    have := congrArg List.length e
    rw [← h2, List.length_take] at this
    omega
  have h4 := (prog_good (prog_G h1)).cut (b.take k) (by rw [← h2]; exact List.take_prefix k b) hn
  unfold decodeS
  rw [if_neg (by rw [List.length_take]; omega), if_pos (by rw [h4]; simp), h4]
  rfl
theorem decode_more {p : ProgP} {b : List Nat} (h : encodeS p = (b, 0)) : decodeS (b ++ [0]) = (progN, 3) ∨ decodeS (b ++ [0]) = (progN, 6) := by
  obtain ⟨h1, h2, h3⟩ := encode_out h
  have h4 := (prog_good (prog_G h1)).eat [0]
  rw [← h2] at h4
  unfold decodeS
  by_cases h5 : 65536 < (b ++ [0]).length
  · exact .inr (if_pos h5)
  · rw [if_neg h5, h4, if_neg (by simp), if_pos (by simp)]
    exact .inl rfl
theorem decode_fault {b : List Nat} {p : ProgP} {e : Int} (h : decodeS b = (p, e)) (he : e ≠ 0) : p = progN := by
  unfold decodeS at h
  split at h
  · simp only [Prod.mk.injEq] at h; exact h.1.symm
  split at h
  · simp only [Prod.mk.injEq] at h; exact h.1.symm
  split at h
  · simp only [Prod.mk.injEq] at h; exact h.1.symm
  split at h
  · simp only [Prod.mk.injEq] at h; exact h.1.symm
  · simp only [Prod.mk.injEq] at h; exact absurd h.2.symm he
theorem encode_decode {b : List Nat} {p : ProgP} (h : decodeS b = (p, 0)) : encodeS p = (b, 0) ∧ progE p = 0 := by
  unfold decodeS at h
  split at h
  · simp at h
  rename_i h1
  split at h
  · rename_i h2
    simp only [Prod.mk.injEq] at h
    omega
  rename_i h2
  split at h
  · simp at h
  rename_i h3
  split at h
  · rename_i h4
    simp only [Prod.mk.injEq] at h
    exact absurd h.2 h4
  rename_i h4
  simp only [Prod.mk.injEq, and_true] at h
  subst h
  obtain ⟨-, h5⟩ := prog_onto (b, 0) (Classical.not_not.1 h2)
  have h6 : (progS (b, 0)).2.1 = [] := List.length_eq_zero_iff.1 (by omega)
  rw [h6, List.append_nil] at h5
  simp only at h5
  have h7 := Classical.not_not.1 h4
  exact ⟨by rw [encode_of h7 (by rw [h5]; omega), h5], h7⟩
end Go.Proofs.YtfeodppdmbideaaGreatDoor
