/- The way to the laws of books: BRead to BRall. -/
import Derived.Test.YtfeodppdmbideaaGreatDoorBA15
import Derived.Test.YtfeodppdmbideaaGreatDoorBA16
import Derived.Test.YtfeodppdmbideaaGreatDoorBA19
import Derived.Test.YtfeodppdmbideaaGreatDoorBA8
namespace Go.Proofs.YtfeodppdmbideaaGreatDoor
open Go.RowKit

/-- A thing in memory of its own: its cells, and that what it holds lies in blocks that F names. -/
structure Thing (α : Type) where
  cells : α → List Value
  own : (Nat → Prop) → World → α → Prop
  only : ∀ {F G : Nat → Prop} {w w' : World} {x : α}, own F w x → Only G w w' → (∀ k, F k → ¬ G k) → own F w' x
  fit : ∀ {F F2 : Nat → Prop} {w : World} {x : α}, own F w x → (∀ k, F k → k < w.heap.size → F2 k) → own F2 w x
/-- A list of things, all in memory of its own, none in the list's block. -/
def OwnL {α : Type} (T : Thing α) (E sz : Nat) (F : Nat → Prop) (w : World) (x : Option Addr × Nat × List α) : Prop :=
  w.ownsRow 0 E sz (.slice x.1 x.2.2.length x.2.1) x.2.2.length (x.2.2.flatMap T.cells) ∧ (∀ k, (Value.slice x.1 x.2.2.length x.2.1).ownBlock = some k → F k) ∧
  ∀ y ∈ x.2.2, T.own (fun k => F k ∧ (Value.slice x.1 x.2.2.length x.2.1).ownBlock ≠ some k) w y
theorem OwnL.only {α : Type} {T : Thing α} {E sz : Nat} {F G : Nat → Prop} {w w' : World} {x : Option Addr × Nat × List α} (h : OwnL T E sz F w x) (ho : Only G w w') (hF : ∀ k, F k → ¬ G k) : OwnL T E sz F w' x :=
  ⟨own_only h.1 ho fun k hk => hF k (h.2.1 k hk), h.2.1, fun y hy => T.only (h.2.2 y hy) ho fun k hk => hF k hk.1⟩
theorem OwnL.fit {α : Type} {T : Thing α} {E sz : Nat} {F F2 : Nat → Prop} {w : World} {x : Option Addr × Nat × List α} (h : OwnL T E sz F w x) (hF : ∀ k, F k → k < w.heap.size → F2 k) : OwnL T E sz F2 w x :=
  ⟨h.1, fun k hk => hF k (h.2.1 k hk) (World.ownsRow.lt h.1 k hk).2, fun y hy => T.fit (h.2.2 y hy) fun k hk hl => ⟨hF k hk.1 hl, hk.2⟩⟩
/-- A row of nodes of its own. -/
def OwnT (F : Nat → Prop) (w : World) (x : RowT) : Prop := w.ownsRow 0 67 3 (.slice x.1 x.2.2.length x.2.1) x.2.2.length (nodesV x.2.2) ∧ ∀ k, (Value.slice x.1 x.2.2.length x.2.1).ownBlock = some k → F k
def tRow : Thing RowT where
  cells := fun x => [rowV x]
  own := OwnT
  only := fun h ho hF => ⟨own_only h.1 ho fun k hk => hF k (h.2 k hk), h.2⟩
  fit := fun h hF => ⟨h.1, fun k hk => hF k (h.2 k hk) (World.ownsRow.lt h.1 k hk).2⟩
def tOrd : Thing Node3 where
  cells := ordV
  own := fun _ _ _ => True
  only := fun _ _ _ => trivial
  fit := fun _ _ => trivial
def tPrim : Thing (Int × Int) where
  cells := atomV
  own := fun _ _ _ => True
  only := fun _ _ _ => trivial
  fit := fun _ _ => trivial
abbrev OwnTs := OwnL tRow 28 1
def tCtor : Thing CtorT where
  cells := CtorT.cells
  own := fun F w c => OwnTs F w c.args ∧ OwnTs F w c.out
  only := fun h ho hF => ⟨h.1.only ho hF, h.2.only ho hF⟩
  fit := fun h hF => ⟨h.1.fit hF, h.2.fit hF⟩
abbrev OwnCs := OwnL tCtor 62 2
structure OwnE (F : Nat → Prop) (w : World) (x : EntT) : Prop where
  sort : OwnT F w x.sort
  pars : OwnTs F w x.pars
  inds : OwnTs F w x.inds
  ctors : OwnCs F w x.ctors
  typ : OwnT F w x.typ
  body : OwnT F w x.body
def tEnt : Thing EntT where
  cells := EntT.cells
  own := OwnE
  only := fun h ho hF => ⟨tRow.only h.sort ho hF, h.pars.only ho hF, h.inds.only ho hF, h.ctors.only ho hF, tRow.only h.typ ho hF, tRow.only h.body ho hF⟩
  fit := fun h hF => ⟨tRow.fit h.sort hF, h.pars.fit hF, h.inds.fit hF, h.ctors.fit hF, tRow.fit h.typ hF, tRow.fit h.body hF⟩
abbrev OwnEs := OwnL tEnt 60 7
abbrev OwnOs := OwnL tOrd 118 3
abbrev OwnPs := OwnL tPrim 80 2
theorem own_nil {α : Type} (T : Thing α) (E sz : Nat) (F : Nat → Prop) (w : World) : OwnL T E sz F w (none, 0, []) := ⟨⟨by simp, .inl ⟨rfl, rfl⟩⟩, fun _ hk => (by cases hk), fun _ hy => (by cases hy)⟩
theorem own_nilT (F : Nat → Prop) (w : World) : OwnT F w (none, 0, []) := ⟨⟨rfl, .inl ⟨rfl, rfl⟩⟩, fun _ hk => (by cases hk)⟩
theorem Touch.only {g : Nat} {w w' : World} (h : Touch g w w') : Only (fun k => k = g) w w' := ⟨h.os, h.tape, h.output, h.size, fun k hk hn => h.block k hk fun e => hn (Option.some.inj e)⟩

/-- So many things are read, behind those that are there. -/
noncomputable def manyS {β : Type} (rd : St → β × St) : Nat → List β → St → List β × St
  | 0, l, s => (l, s)
  | n + 1, l, s => manyS rd n (l ++ [(rd s).1]) (rd s).2
noncomputable def allS {β : Type} (rd : St → β × St) (s : St) : List β × St := manyS rd (numS 255 s).1 [] (numS 255 s).2
theorem manyS_succ {β : Type} (rd : St → β × St) : ∀ (n : Nat) (l : List β) (s : St), manyS rd (n + 1) l s = ((manyS rd n l s).1 ++ [(rd (manyS rd n l s).2).1], (rd (manyS rd n l s).2).2)
  | 0, _, _ => rfl
  | n + 1, l, s => by
    rw [manyS, manyS_succ rd n]
    rfl
/-- What is asked of the function that reads one thing. -/
structure VisR {α β : Type} (t : TypeId × Nat) (g : Nat) (Vf : FuncId) (rcv : Array Value) (T : Thing α) (val : α → Value) (rep : α → β) (rd : St → β × St) : Prop where
  enters : ∀ args w, (callFunc Vf args).run Tryz.prog w = .ok (.enter Vf args) w
  call : ∀ W s, Rd t W g s → Calls Tryz.prog Vf rcv W (fun e W' => ∃ x, e = .returned (val x) ∧ rep x = (rd s).1 ∧ T.own (fun k => W.heap.size ≤ k) W' x ∧ Rd t W' g (rd s).2 ∧ Touch g W W')
/-- A list that is answered by a read. -/
def ReadL {α β : Type} (T : Thing α) (E sz : Nat) (rep : α → β) (t : TypeId × Nat) (g : Nat) (r : List β × St) (w : World) (e : Ending) (w' : World) : Prop :=
  ∃ x : Option Addr × Nat × List α, e = .returned (.slice x.1 x.2.2.length x.2.1) ∧ x.2.2.map rep = r.1 ∧ OwnL T E sz (fun k => w.heap.size ≤ k) w' x ∧ Rd t w' g r.2 ∧ Touch g w w'
/-- Behind the append of what was read. -/
theorem OwnL.snoc {α : Type} {T : Thing α} {E sz B : Nat} {w1 w2 w3 : World} {A A' : Option Addr} {n c c' : Nat} {l : List α} {y : α} {v' : Value} (h : OwnL T E sz (fun k => B ≤ k) w1 (A, c, l)) (hn : l.length = n) (hB : B ≤ w1.heap.size) {g : Nat} (hg : g < B) (ht : Touch g w1 w2) (hy : T.own (fun k => w1.heap.size ≤ k) w2 y)
    (hown : w3.ownsRow 0 E sz (.slice A' (n + 1) c') (n + 1) (l.flatMap T.cells ++ T.cells y)) (hv : v' = .slice A' (n + 1) c') (hmv : Moves w2 (.slice A n c) w3 v') : OwnL T E sz (fun k => B ≤ k) w3 (A', c', l ++ [y]) := by
  subst hv
  subst hn
  have hlt : ∀ k, (Value.slice A l.length c).ownBlock = some k → k < w1.heap.size := fun k hk => (World.ownsRow.lt h.1 k hk).2
  have hs := ht.size
  have hl : (l ++ [y]).length = l.length + 1 := by simp
  refine ⟨?_, ?_, ?_⟩
  · simp only [hl]
    rw [List.flatMap_append, List.flatMap_cons, List.flatMap_nil, List.append_nil]
    exact hown
  · simp only [hl]
    intro k hk
    rcases hmv.next k hk with h1 | h1
    · exact h.2.1 k h1
    · omega
  · simp only [hl]
    intro z hz
    have hfin : ∀ k, (Value.slice A l.length c).ownBlock ≠ some k → k < w2.heap.size → (Value.slice A' (l.length + 1) c').ownBlock ≠ some k := fun k hk hl2 e => by
      rcases hmv.next k e with h1 | h1
      · exact hk h1
      · omega
    rcases List.mem_append.1 hz with hz | hz
    · have h1 := T.only (h.2.2 z hz) ht.only fun k hk e => by have := hk.1; omega
      have h2 : T.own (fun k => (B ≤ k ∧ (Value.slice A l.length c).ownBlock ≠ some k) ∧ k < w2.heap.size) w2 z := T.fit h1 fun k hk hl2 => ⟨hk, hl2⟩
      exact T.fit (T.only h2 hmv.only fun k hk e => hk.1.2 e) fun k hk _ => ⟨hk.1.1, hfin k hk.1.2 hk.2⟩
    · rw [List.mem_singleton] at hz
      subst hz
      have h2 : T.own (fun k => w1.heap.size ≤ k ∧ k < w2.heap.size) w2 z := T.fit hy fun k hk hl2 => ⟨hk, hl2⟩
      refine T.fit (T.only h2 hmv.only fun k hk e => ?_) fun k hk _ => ⟨by omega, hfin k (fun e => ?_) hk.2⟩
      · have := hlt k e; omega
      · have := hlt k e; omega
end Go.Proofs.YtfeodppdmbideaaGreatDoor
namespace Go.Proofs.YtfeodppdmbideaaGreatDoor
open Go.RowKit

theorem infoCtor : (Tryz.prog.info? 62).map (fun i => (i.zero, i.size, i.bytes)) = some (some ctorZ, 2, 48) := by kernel_rfl
theorem infoEnt : (Tryz.prog.info? 60).map (fun i => (i.zero, i.size, i.bytes)) = some (some entZ, 7, 152) := by kernel_rfl
theorem infoPrimB : (Tryz.prog.info? 80).map (fun i => (i.zero, i.size, i.bytes)) = some (some (.agg #[.int .i64 0, .int .i64 0]), 2, 16) := by kernel_rfl
theorem infoOrdB : (Tryz.prog.info? 118).map (fun i => (i.zero, i.size, i.bytes)) = some (some (.agg #[.int .i64 0, .int .i64 0, .int .i64 0]), 3, 24) := by kernel_rfl
theorem infoRowB : (Tryz.prog.info? 28).map (fun i => (i.zero, i.size, i.bytes)) = some (some (.slice none 0 0), 1, 24) := by kernel_rfl
theorem manyS_len {β : Type} (rd : St → β × St) : ∀ (n : Nat) (l : List β) (s : St), (manyS rd n l s).1.length = l.length + n
  | 0, _, _ => rfl
  | n + 1, l, s => by rw [manyS, manyS_len rd n, List.length_append]; simp; omega
/-- Between two rounds: k things are read. -/
structure ReadAt {α β : Type} (T : Thing α) (E sz : Nat) (rep : α → β) (rd : St → β × St) (t : TypeId × Nat) (g k : Nat) (s : St) (w wr : World) (A : Option Addr) (c : Nat) (l : List α) : Prop where
  len : l.length = k
  rep : l.map rep = (manyS rd k [] s).1
  own : OwnL T E sz (fun k => w.heap.size ≤ k) wr (A, c, l)
  rd : Rd t wr g (manyS rd k [] s).2
  touch : Touch g w wr
/-- The round's end. -/
theorem ReadAt.next {α β : Type} {T : Thing α} {E sz : Nat} {rep : α → β} {rd : St → β × St} {t : TypeId × Nat} {g k : Nat} {s : St} {w wr w2 w3 w4 : World} {A A' : Option Addr} {c c' : Nat} {l : List α} {y : α}
    (h : ReadAt T E sz rep rd t g k s w wr A c l) (hg : g < w.heap.size) (hrep : rep y = (rd (manyS rd k [] s).2).1) (hy : T.own (fun k => wr.heap.size ≤ k) w2 y) (hrd : Rd t w2 g (rd (manyS rd k [] s).2).2) (ht : Touch g wr w2) (hb : Below w2.heap.size w2 w3)
    (hown : w4.ownsRow 0 E sz (.slice A' (k + 1) c') (k + 1) (l.flatMap T.cells ++ T.cells y)) (hmv : Moves w3 (.slice A k c) w4 (.slice A' (k + 1) c')) : ReadAt T E sz rep rd t g (k + 1) s w w4 A' c' (l ++ [y]) := by
  have ht3 : Touch g wr w3 := ht.trans (Touch.of_below hb)
  have hy3 := T.only (G := fun _ => False) hy (Only.of_below hb) fun _ _ e => e
  have hsz := h.touch.size
  have hlist : ∀ k', (Value.slice A k c).ownBlock = some k' → w.heap.size ≤ k' ∧ k' < wr.heap.size := fun k' hk => by
    have h0 := h.own.2.1 k'
    have h1 := World.ownsRow.lt h.own.1 k'
    simp only [h.len] at h0 h1
    exact ⟨h0 hk, (h1 hk).2⟩
  refine ⟨by rw [List.length_append, h.len]; rfl, ?_, ?_, ?_, ?_⟩
  · rw [List.map_append, h.rep, manyS_succ, List.map_cons, List.map_nil, hrep]
  · exact OwnL.snoc h.own h.len hsz hg ht3 hy3 hown rfl hmv
  · rw [manyS_succ]
    have h1 := hrd.below hb
    exact h1.grown ⟨hmv.only.os, hmv.only.tape, hmv.only.output, hmv.only.size, fun k' hk' hn => hmv.only.block k' hk' fun e => hn e.symm⟩ fun k' hk' => by
      have := hlist k' hk'
      omega
  · have h0 := h.touch.trans ht3
    refine ⟨hmv.only.os.trans h0.os, hmv.only.tape.trans h0.tape, hmv.only.output.trans h0.output, Nat.le_trans h0.size hmv.only.size, fun k' hk' hn => (hmv.only.block k' (Nat.lt_of_lt_of_le hk' h0.size) fun e => ?_).trans (h0.block k' hk' hn)⟩
    have := hlist k' e
    omega
set_option maxRecDepth 100000 in
set_option maxHeartbeats 4000000 in
theorem rallT_any {β : Type} (t : TypeId × Nat) (g : Nat) (Vf : FuncId) (rcv : Array Value) (rep : RowT → β) (rd : St → β × St) (s : St) (w : World) (V : VisR t g Vf rcv tRow (fun x : RowT => rowV x) rep rd) (h : Rd t w g s) :
    Calls Tryz.prog 191 #[.agg #[.pointer (some ⟨g, 0, none⟩)], .func (.func Vf) rcv #[]] w (ReadL tRow 28 1 rep t g (allS rd s) w) := by
  have hen := V.enters
  have HV := Lib.hid V
  have hb1 : Below w.heap.size w (w.alloc (.cells #[.pointer (some ⟨g, 0, none⟩)] 105)) := (Below.refl _ _).alloc (Nat.le_refl _) _
  have HB1 := Lib.hid (Touch.of_below (g := g) hb1)
  have HN := Lib.hid (onum_any t g 255 s _ (h.below hb1) (by omega) (by omega))
  have hn := numS_le 255 s
  have HG := Lib.hid (show g < w.heap.size from h.lt)
  obtain ⟨n, s1, hns⟩ : ∃ n s1, numS 255 s = (n, s1) := ⟨_, _, rfl⟩
  have HA : Hid (allS rd s = manyS rd n [] s1) := Lib.hid (by unfold allS; rw [hns])
  rw [hns] at HN hn
  simp only at hn HN
  rw [HA.out]
  clear V h hb1 hns HA
  have hn255 : n ≤ 255 := by simpa using hn
  clear hn
  go_enter Tryz.func191, Tryz.ntmps191
  go_wp2_with fail
  refine (HN.out).mono ?_
  rintro e w1 ⟨rfl, hr1, ht1⟩
  have HR1 := Lib.hid (show ReadAt tRow 28 1 rep rd t g 0 s1 w w1 none 0 [] from ⟨rfl, rfl, own_nil _ _ _ _ _, hr1, HB1.out.trans ht1⟩)
  clear hr1 ht1 HB1 HN
  go_wp2_with fail
  go_loopw [5, 11] (fun v i wr => ∃ (k : Nat) (A : Option Addr) (c : Nat) (l : List RowT), i = .int .i64 (k : Int) ∧ k ≤ n ∧ v = .slice A k c ∧ Hid (ReadAt tRow 28 1 rep rd t g k s1 w wr A c l)) (fun _ i _ => n - (intOf i).toNat)
  case atStart => exact ⟨0, none, 0, [], rfl, Nat.zero_le _, rfl, HR1⟩
  case round =>
    obtain ⟨k, A, c, l, rfl, hk, rfl, HR⟩ := hrel
    by_cases hlt : k < n
    · have HC := Lib.hid (HV.out.call wr _ HR.out.rd)
      have HO := Lib.hid (show wr.ownsRow 0 28 1 (.slice A k c) k (l.flatMap (tRow).cells) from by have := HR.out.own.1; simp only [HR.out.len] at this; exact this)
      have HNX := Lib.hid fun (w2 w3 w4 : World) (A' : Option Addr) (c' : Nat) y => HR.out.next (w2 := w2) (w3 := w3) (w4 := w4) (A' := A') (c' := c') (y := y) HG.out
      have HLK := Lib.hid (show ∀ k', (Value.slice A k c).ownBlock = some k' → w.heap.size ≤ k' from fun k' hk' => by have := HR.out.own.2.1 k'; simp only [HR.out.len] at this; exact this hk')
      go_wp2_with fail
      refine (HC.out).mono ?_
      rintro e w2 ⟨x, rfl, hrep, hown, hrd, ht⟩
      have HO2 := Lib.hid (own_only HO.out ht.only fun k' hk' e => by have := HLK.out k' hk'; have := HG.out; omega)
      obtain ⟨xA, xc, xt⟩ := x
      simp only [rowV] at *
      have hb3 : Below w2.heap.size w2 (w2.alloc (.cells #[.slice xA xt.length xc] 28)) := (Below.refl _ _).alloc (Nat.le_refl _) _
      have HO3 := Lib.hid (own_below HO2.out hb3)
      have HH := Lib.hid (holds_lit w2 [.slice xA xt.length xc] 28)
      have HNY := Lib.hid fun w4 A' c' => HNX.out w2 _ w4 A' c' _ hrep hown hrd ht hb3
      clear hrep hown hrd ht hb3 HC
      go_wp2_with (at_builtin; go_must (refine wpList_append_tx rfl (.tmp 13) (.tmp 16) _ _ _ rfl Tryz.underlying40 28 _ 1 24 infoRowB rfl (by decide) Tryz.underlying40 (.slice A k c) k 1 _ [.slice xA xt.length xc] rfl HO3.out _ 1 rfl (slice_lit w2 1 (by omega)) HH.out rfl (by simp [Value.oneCell']) (by omega) (by decide) ?_); intro v' w4 hown' hmv'; obtain ⟨A', c', rfl, -, -⟩ := own_slice hown'; have HX := Lib.hid (HNY.out w4 A' c' hown' hmv'); clear hown' hmv')
      go_roundw
      case rel => exact ⟨k + 1, A', c', _, by go_num, by omega, rfl, HX⟩
      case measure => simp [intOf] <;> omega
    · obtain rfl : k = n := by omega
      go_wp2_with fail
      go_ret
      exact ⟨(A, c, l), by simp only [HR.out.len]; rfl, HR.out.rep, HR.out.own, HR.out.rd, HR.out.touch⟩
set_option maxRecDepth 100000 in
set_option maxHeartbeats 4000000 in
theorem rallO_any {β : Type} (t : TypeId × Nat) (g : Nat) (Vf : FuncId) (rcv : Array Value) (rep : Node3 → β) (rd : St → β × St) (s : St) (w : World) (V : VisR t g Vf rcv tOrd (fun x : Node3 => .agg #[.int .i64 x.1, .int .i64 x.2.1, .int .i64 x.2.2]) rep rd) (h : Rd t w g s) :
    Calls Tryz.prog 159 #[.agg #[.pointer (some ⟨g, 0, none⟩)], .func (.func Vf) rcv #[]] w (ReadL tOrd 118 3 rep t g (allS rd s) w) := by
  have hen := V.enters
  have HV := Lib.hid V
  have hb1 : Below w.heap.size w (w.alloc (.cells #[.pointer (some ⟨g, 0, none⟩)] 105)) := (Below.refl _ _).alloc (Nat.le_refl _) _
  have HB1 := Lib.hid (Touch.of_below (g := g) hb1)
  have HN := Lib.hid (onum_any t g 255 s _ (h.below hb1) (by omega) (by omega))
  have hn := numS_le 255 s
  have HG := Lib.hid (show g < w.heap.size from h.lt)
  obtain ⟨n, s1, hns⟩ : ∃ n s1, numS 255 s = (n, s1) := ⟨_, _, rfl⟩
  have HA : Hid (allS rd s = manyS rd n [] s1) := Lib.hid (by unfold allS; rw [hns])
  rw [hns] at HN hn
  simp only at hn HN
  rw [HA.out]
  clear V h hb1 hns HA
  have hn255 : n ≤ 255 := by simpa using hn
  clear hn
  go_enter Tryz.func159, Tryz.ntmps159
  go_wp2_with fail
  refine (HN.out).mono ?_
  rintro e w1 ⟨rfl, hr1, ht1⟩
  have HR1 := Lib.hid (show ReadAt tOrd 118 3 rep rd t g 0 s1 w w1 none 0 [] from ⟨rfl, rfl, own_nil _ _ _ _ _, hr1, HB1.out.trans ht1⟩)
  clear hr1 ht1 HB1 HN
  go_wp2_with fail
  go_loopw [5, 11] (fun v i wr => ∃ (k : Nat) (A : Option Addr) (c : Nat) (l : List Node3), i = .int .i64 (k : Int) ∧ k ≤ n ∧ v = .slice A k c ∧ Hid (ReadAt tOrd 118 3 rep rd t g k s1 w wr A c l)) (fun _ i _ => n - (intOf i).toNat)
  case atStart => exact ⟨0, none, 0, [], rfl, Nat.zero_le _, rfl, HR1⟩
  case round =>
    obtain ⟨k, A, c, l, rfl, hk, rfl, HR⟩ := hrel
    by_cases hlt : k < n
    · have HC := Lib.hid (HV.out.call wr _ HR.out.rd)
      have HO := Lib.hid (show wr.ownsRow 0 118 3 (.slice A k c) k (l.flatMap (tOrd).cells) from by have := HR.out.own.1; simp only [HR.out.len] at this; exact this)
      have HNX := Lib.hid fun (w2 w3 w4 : World) (A' : Option Addr) (c' : Nat) y => HR.out.next (w2 := w2) (w3 := w3) (w4 := w4) (A' := A') (c' := c') (y := y) HG.out
      have HLK := Lib.hid (show ∀ k', (Value.slice A k c).ownBlock = some k' → w.heap.size ≤ k' from fun k' hk' => by have := HR.out.own.2.1 k'; simp only [HR.out.len] at this; exact this hk')
      go_wp2_with fail
      refine (HC.out).mono ?_
      rintro e w2 ⟨x, rfl, hrep, hown, hrd, ht⟩
      have HO2 := Lib.hid (own_only HO.out ht.only fun k' hk' e => by have := HLK.out k' hk'; have := HG.out; omega)
      obtain ⟨xa, xb, xc⟩ := x
      have hb3 : Below w2.heap.size w2 (w2.alloc (.cells #[.int .i64 xa, .int .i64 xb, .int .i64 xc] 118)) := (Below.refl _ _).alloc (Nat.le_refl _) _
      have HO3 := Lib.hid (own_below HO2.out hb3)
      have HH := Lib.hid (holds_lit w2 [.int .i64 xa, .int .i64 xb, .int .i64 xc] 118)
      have HNY := Lib.hid fun w4 A' c' => HNX.out w2 _ w4 A' c' _ hrep hown hrd ht hb3
      clear hrep hown hrd ht hb3 HC
      go_wp2_with (at_builtin; go_must (refine wpList_append_tx rfl (.tmp 13) (.tmp 16) _ _ _ rfl Tryz.underlying22 118 _ 3 24 infoOrdB rfl (by decide) Tryz.underlying22 (.slice A k c) k 1 _ [.int .i64 xa, .int .i64 xb, .int .i64 xc] rfl HO3.out _ 1 rfl (slice_lit w2 1 (by omega)) HH.out rfl (by simp [Value.oneCell']) (by omega) (by decide) ?_); intro v' w4 hown' hmv'; obtain ⟨A', c', rfl, -, -⟩ := own_slice hown'; have HX := Lib.hid (HNY.out w4 A' c' hown' hmv'); clear hown' hmv')
      go_roundw
      case rel => exact ⟨k + 1, A', c', _, by go_num, by omega, rfl, HX⟩
      case measure => simp [intOf] <;> omega
    · obtain rfl : k = n := by omega
      go_wp2_with fail
      go_ret
      exact ⟨(A, c, l), by simp only [HR.out.len]; rfl, HR.out.rep, HR.out.own, HR.out.rd, HR.out.touch⟩
set_option maxRecDepth 100000 in
set_option maxHeartbeats 4000000 in
theorem rallP_any {β : Type} (t : TypeId × Nat) (g : Nat) (Vf : FuncId) (rcv : Array Value) (rep : (Int × Int) → β) (rd : St → β × St) (s : St) (w : World) (V : VisR t g Vf rcv tPrim (fun x : Int × Int => .agg #[.int .i64 x.1, .int .i64 x.2]) rep rd) (h : Rd t w g s) :
    Calls Tryz.prog 163 #[.agg #[.pointer (some ⟨g, 0, none⟩)], .func (.func Vf) rcv #[]] w (ReadL tPrim 80 2 rep t g (allS rd s) w) := by
  have hen := V.enters
  have HV := Lib.hid V
  have hb1 : Below w.heap.size w (w.alloc (.cells #[.pointer (some ⟨g, 0, none⟩)] 105)) := (Below.refl _ _).alloc (Nat.le_refl _) _
  have HB1 := Lib.hid (Touch.of_below (g := g) hb1)
  have HN := Lib.hid (onum_any t g 255 s _ (h.below hb1) (by omega) (by omega))
  have hn := numS_le 255 s
  have HG := Lib.hid (show g < w.heap.size from h.lt)
  obtain ⟨n, s1, hns⟩ : ∃ n s1, numS 255 s = (n, s1) := ⟨_, _, rfl⟩
  have HA : Hid (allS rd s = manyS rd n [] s1) := Lib.hid (by unfold allS; rw [hns])
  rw [hns] at HN hn
  simp only at hn HN
  rw [HA.out]
  clear V h hb1 hns HA
  have hn255 : n ≤ 255 := by simpa using hn
  clear hn
  go_enter Tryz.func163, Tryz.ntmps163
  go_wp2_with fail
  refine (HN.out).mono ?_
  rintro e w1 ⟨rfl, hr1, ht1⟩
  have HR1 := Lib.hid (show ReadAt tPrim 80 2 rep rd t g 0 s1 w w1 none 0 [] from ⟨rfl, rfl, own_nil _ _ _ _ _, hr1, HB1.out.trans ht1⟩)
  clear hr1 ht1 HB1 HN
  go_wp2_with fail
  go_loopw [5, 11] (fun v i wr => ∃ (k : Nat) (A : Option Addr) (c : Nat) (l : List (Int × Int)), i = .int .i64 (k : Int) ∧ k ≤ n ∧ v = .slice A k c ∧ Hid (ReadAt tPrim 80 2 rep rd t g k s1 w wr A c l)) (fun _ i _ => n - (intOf i).toNat)
  case atStart => exact ⟨0, none, 0, [], rfl, Nat.zero_le _, rfl, HR1⟩
  case round =>
    obtain ⟨k, A, c, l, rfl, hk, rfl, HR⟩ := hrel
    by_cases hlt : k < n
    · have HC := Lib.hid (HV.out.call wr _ HR.out.rd)
      have HO := Lib.hid (show wr.ownsRow 0 80 2 (.slice A k c) k (l.flatMap (tPrim).cells) from by have := HR.out.own.1; simp only [HR.out.len] at this; exact this)
      have HNX := Lib.hid fun (w2 w3 w4 : World) (A' : Option Addr) (c' : Nat) y => HR.out.next (w2 := w2) (w3 := w3) (w4 := w4) (A' := A') (c' := c') (y := y) HG.out
      have HLK := Lib.hid (show ∀ k', (Value.slice A k c).ownBlock = some k' → w.heap.size ≤ k' from fun k' hk' => by have := HR.out.own.2.1 k'; simp only [HR.out.len] at this; exact this hk')
      go_wp2_with fail
      refine (HC.out).mono ?_
      rintro e w2 ⟨x, rfl, hrep, hown, hrd, ht⟩
      have HO2 := Lib.hid (own_only HO.out ht.only fun k' hk' e => by have := HLK.out k' hk'; have := HG.out; omega)
      obtain ⟨xa, xb⟩ := x
      have hb3 : Below w2.heap.size w2 (w2.alloc (.cells #[.int .i64 xa, .int .i64 xb] 80)) := (Below.refl _ _).alloc (Nat.le_refl _) _
      have HO3 := Lib.hid (own_below HO2.out hb3)
      have HH := Lib.hid (holds_lit w2 [.int .i64 xa, .int .i64 xb] 80)
      have HNY := Lib.hid fun w4 A' c' => HNX.out w2 _ w4 A' c' _ hrep hown hrd ht hb3
      clear hrep hown hrd ht hb3 HC
      go_wp2_with (at_builtin; go_must (refine wpList_append_tx rfl (.tmp 13) (.tmp 16) _ _ _ rfl Tryz.underlying24 80 _ 2 16 infoPrimB rfl (by decide) Tryz.underlying24 (.slice A k c) k 1 _ [.int .i64 xa, .int .i64 xb] rfl HO3.out _ 1 rfl (slice_lit w2 1 (by omega)) HH.out rfl (by simp [Value.oneCell']) (by omega) (by decide) ?_); intro v' w4 hown' hmv'; obtain ⟨A', c', rfl, -, -⟩ := own_slice hown'; have HX := Lib.hid (HNY.out w4 A' c' hown' hmv'); clear hown' hmv')
      go_roundw
      case rel => exact ⟨k + 1, A', c', _, by go_num, by omega, rfl, HX⟩
      case measure => simp [intOf] <;> omega
    · obtain rfl : k = n := by omega
      go_wp2_with fail
      go_ret
      exact ⟨(A, c, l), by simp only [HR.out.len]; rfl, HR.out.rep, HR.out.own, HR.out.rd, HR.out.touch⟩
set_option maxRecDepth 100000 in
set_option maxHeartbeats 4000000 in
theorem rallC_any {β : Type} (t : TypeId × Nat) (g : Nat) (Vf : FuncId) (rcv : Array Value) (rep : CtorT → β) (rd : St → β × St) (s : St) (w : World) (V : VisR t g Vf rcv tCtor (fun x : CtorT => x.val) rep rd) (h : Rd t w g s) :
    Calls Tryz.prog 192 #[.agg #[.pointer (some ⟨g, 0, none⟩)], .func (.func Vf) rcv #[]] w (ReadL tCtor 62 2 rep t g (allS rd s) w) := by
  have hen := V.enters
  have HV := Lib.hid V
  have hb1 : Below w.heap.size w (w.alloc (.cells #[.pointer (some ⟨g, 0, none⟩)] 105)) := (Below.refl _ _).alloc (Nat.le_refl _) _
  have HB1 := Lib.hid (Touch.of_below (g := g) hb1)
  have HN := Lib.hid (onum_any t g 255 s _ (h.below hb1) (by omega) (by omega))
  have hn := numS_le 255 s
  have HG := Lib.hid (show g < w.heap.size from h.lt)
  obtain ⟨n, s1, hns⟩ : ∃ n s1, numS 255 s = (n, s1) := ⟨_, _, rfl⟩
  have HA : Hid (allS rd s = manyS rd n [] s1) := Lib.hid (by unfold allS; rw [hns])
  rw [hns] at HN hn
  simp only at hn HN
  rw [HA.out]
  clear V h hb1 hns HA
  have hn255 : n ≤ 255 := by simpa using hn
  clear hn
  go_enter Tryz.func192, Tryz.ntmps192
  go_wp2_with fail
  refine (HN.out).mono ?_
  rintro e w1 ⟨rfl, hr1, ht1⟩
  have HR1 := Lib.hid (show ReadAt tCtor 62 2 rep rd t g 0 s1 w w1 none 0 [] from ⟨rfl, rfl, own_nil _ _ _ _ _, hr1, HB1.out.trans ht1⟩)
  clear hr1 ht1 HB1 HN
  go_wp2_with fail
  go_loopw [5, 11] (fun v i wr => ∃ (k : Nat) (A : Option Addr) (c : Nat) (l : List CtorT), i = .int .i64 (k : Int) ∧ k ≤ n ∧ v = .slice A k c ∧ Hid (ReadAt tCtor 62 2 rep rd t g k s1 w wr A c l)) (fun _ i _ => n - (intOf i).toNat)
  case atStart => exact ⟨0, none, 0, [], rfl, Nat.zero_le _, rfl, HR1⟩
  case round =>
    obtain ⟨k, A, c, l, rfl, hk, rfl, HR⟩ := hrel
    by_cases hlt : k < n
    · have HC := Lib.hid (HV.out.call wr _ HR.out.rd)
      have HO := Lib.hid (show wr.ownsRow 0 62 2 (.slice A k c) k (l.flatMap (tCtor).cells) from by have := HR.out.own.1; simp only [HR.out.len] at this; exact this)
      have HNX := Lib.hid fun (w2 w3 w4 : World) (A' : Option Addr) (c' : Nat) y => HR.out.next (w2 := w2) (w3 := w3) (w4 := w4) (A' := A') (c' := c') (y := y) HG.out
      have HLK := Lib.hid (show ∀ k', (Value.slice A k c).ownBlock = some k' → w.heap.size ≤ k' from fun k' hk' => by have := HR.out.own.2.1 k'; simp only [HR.out.len] at this; exact this hk')
      go_wp2_with fail
      refine (HC.out).mono ?_
      rintro e w2 ⟨x, rfl, hrep, hown, hrd, ht⟩
      have HO2 := Lib.hid (own_only HO.out ht.only fun k' hk' e => by have := HLK.out k' hk'; have := HG.out; omega)
      obtain ⟨⟨xA, xc, xt⟩, ⟨yA, yc, yt⟩⟩ := x
      have hb3 : Below w2.heap.size w2 (w2.alloc (.cells #[.slice xA xt.length xc, .slice yA yt.length yc] 62)) := (Below.refl _ _).alloc (Nat.le_refl _) _
      have HO3 := Lib.hid (own_below HO2.out hb3)
      have HH := Lib.hid (holds_lit w2 [.slice xA xt.length xc, .slice yA yt.length yc] 62)
      have HNY := Lib.hid fun w4 A' c' => HNX.out w2 _ w4 A' c' _ hrep hown hrd ht hb3
      clear hrep hown hrd ht hb3 HC
      go_wp2_with (at_builtin; go_must (refine wpList_append_tx rfl (.tmp 13) (.tmp 16) _ _ _ rfl Tryz.underlying58 62 _ 2 48 infoCtor rfl (by decide) Tryz.underlying58 (.slice A k c) k 1 _ [.slice xA xt.length xc, .slice yA yt.length yc] rfl HO3.out _ 1 rfl (slice_lit w2 1 (by omega)) HH.out rfl (by simp [Value.oneCell']) (by omega) (by decide) ?_); intro v' w4 hown' hmv'; obtain ⟨A', c', rfl, -, -⟩ := own_slice hown'; have HX := Lib.hid (HNY.out w4 A' c' hown' hmv'); clear hown' hmv')
      go_roundw
      case rel => exact ⟨k + 1, A', c', _, by go_num, by omega, rfl, HX⟩
      case measure => simp [intOf] <;> omega
    · obtain rfl : k = n := by omega
      go_wp2_with fail
      go_ret
      exact ⟨(A, c, l), by simp only [HR.out.len]; rfl, HR.out.rep, HR.out.own, HR.out.rd, HR.out.touch⟩
set_option maxRecDepth 100000 in
set_option maxHeartbeats 4000000 in
theorem rallE_any {β : Type} (t : TypeId × Nat) (g : Nat) (Vf : FuncId) (rcv : Array Value) (rep : EntT → β) (rd : St → β × St) (s : St) (w : World) (V : VisR t g Vf rcv tEnt (fun x : EntT => x.val) rep rd) (h : Rd t w g s) :
    Calls Tryz.prog 161 #[.agg #[.pointer (some ⟨g, 0, none⟩)], .func (.func Vf) rcv #[]] w (ReadL tEnt 60 7 rep t g (allS rd s) w) := by
  have hen := V.enters
  have HV := Lib.hid V
  have hb1 : Below w.heap.size w (w.alloc (.cells #[.pointer (some ⟨g, 0, none⟩)] 105)) := (Below.refl _ _).alloc (Nat.le_refl _) _
  have HB1 := Lib.hid (Touch.of_below (g := g) hb1)
  have HN := Lib.hid (onum_any t g 255 s _ (h.below hb1) (by omega) (by omega))
  have hn := numS_le 255 s
  have HG := Lib.hid (show g < w.heap.size from h.lt)
  obtain ⟨n, s1, hns⟩ : ∃ n s1, numS 255 s = (n, s1) := ⟨_, _, rfl⟩
  have HA : Hid (allS rd s = manyS rd n [] s1) := Lib.hid (by unfold allS; rw [hns])
  rw [hns] at HN hn
  simp only at hn HN
  rw [HA.out]
  clear V h hb1 hns HA
  have hn255 : n ≤ 255 := by simpa using hn
  clear hn
  go_enter Tryz.func161, Tryz.ntmps161
  go_wp2_with fail
  refine (HN.out).mono ?_
  rintro e w1 ⟨rfl, hr1, ht1⟩
  have HR1 := Lib.hid (show ReadAt tEnt 60 7 rep rd t g 0 s1 w w1 none 0 [] from ⟨rfl, rfl, own_nil _ _ _ _ _, hr1, HB1.out.trans ht1⟩)
  clear hr1 ht1 HB1 HN
  go_wp2_with fail
  go_loopw [5, 11] (fun v i wr => ∃ (k : Nat) (A : Option Addr) (c : Nat) (l : List EntT), i = .int .i64 (k : Int) ∧ k ≤ n ∧ v = .slice A k c ∧ Hid (ReadAt tEnt 60 7 rep rd t g k s1 w wr A c l)) (fun _ i _ => n - (intOf i).toNat)
  case atStart => exact ⟨0, none, 0, [], rfl, Nat.zero_le _, rfl, HR1⟩
  case round =>
    obtain ⟨k, A, c, l, rfl, hk, rfl, HR⟩ := hrel
    by_cases hlt : k < n
    · have HC := Lib.hid (HV.out.call wr _ HR.out.rd)
      have HO := Lib.hid (show wr.ownsRow 0 60 7 (.slice A k c) k (l.flatMap (tEnt).cells) from by have := HR.out.own.1; simp only [HR.out.len] at this; exact this)
      have HNX := Lib.hid fun (w2 w3 w4 : World) (A' : Option Addr) (c' : Nat) y => HR.out.next (w2 := w2) (w3 := w3) (w4 := w4) (A' := A') (c' := c') (y := y) HG.out
      have HLK := Lib.hid (show ∀ k', (Value.slice A k c).ownBlock = some k' → w.heap.size ≤ k' from fun k' hk' => by have := HR.out.own.2.1 k'; simp only [HR.out.len] at this; exact this hk')
      go_wp2_with fail
      refine (HC.out).mono ?_
      rintro e w2 ⟨x, rfl, hrep, hown, hrd, ht⟩
      have HO2 := Lib.hid (own_only HO.out ht.only fun k' hk' e => by have := HLK.out k' hk'; have := HG.out; omega)
      obtain ⟨kd, ⟨sA, sc, ts⟩, ⟨pA, pc, lp⟩, ⟨jA, jc, lj⟩, ⟨cA, cc, lc⟩, ⟨tA, tc, tt⟩, ⟨bA, bc, tb⟩⟩ := x
      have hb3 : Below w2.heap.size w2 (w2.alloc (.cells #[.int .i64 kd, .slice sA ts.length sc, .slice pA lp.length pc, .slice jA lj.length jc, .slice cA lc.length cc, .slice tA tt.length tc, .slice bA tb.length bc] 60)) := (Below.refl _ _).alloc (Nat.le_refl _) _
      have HO3 := Lib.hid (own_below HO2.out hb3)
      have HH := Lib.hid (holds_lit w2 [.int .i64 kd, .slice sA ts.length sc, .slice pA lp.length pc, .slice jA lj.length jc, .slice cA lc.length cc, .slice tA tt.length tc, .slice bA tb.length bc] 60)
      have HNY := Lib.hid fun w4 A' c' => HNX.out w2 _ w4 A' c' _ hrep hown hrd ht hb3
      clear hrep hown hrd ht hb3 HC
      go_wp2_with (at_builtin; go_must (refine wpList_append_tx rfl (.tmp 13) (.tmp 16) _ _ _ rfl Tryz.underlying23 60 _ 7 152 infoEnt rfl (by decide) Tryz.underlying23 (.slice A k c) k 1 _ [.int .i64 kd, .slice sA ts.length sc, .slice pA lp.length pc, .slice jA lj.length jc, .slice cA lc.length cc, .slice tA tt.length tc, .slice bA tb.length bc] rfl HO3.out _ 1 rfl (slice_lit w2 1 (by omega)) HH.out rfl (by simp [Value.oneCell']) (by omega) (by decide) ?_); intro v' w4 hown' hmv'; obtain ⟨A', c', rfl, -, -⟩ := own_slice hown'; have HX := Lib.hid (HNY.out w4 A' c' hown' hmv'); clear hown' hmv')
      go_roundw
      case rel => exact ⟨k + 1, A', c', _, by go_num, by omega, rfl, HX⟩
      case measure => simp [intOf] <;> omega
    · obtain rfl : k = n := by omega
      go_wp2_with fail
      go_ret
      exact ⟨(A, c, l), by simp only [HR.out.len]; rfl, HR.out.rep, HR.out.own, HR.out.rd, HR.out.touch⟩
end Go.Proofs.YtfeodppdmbideaaGreatDoor
