/- The way to the laws of books: BWrite to BWctor. -/
import Derived.Test.YtfeodppdmbideaaGreatDoorBA12
import Derived.Test.YtfeodppdmbideaaGreatDoorBA15
import Derived.Test.YtfeodppdmbideaaGreatDoorBA18
import Derived.Test.YtfeodppdmbideaaGreatDoorBA24
import Derived.Test.YtfeodppdmbideaaGreatDoorBA8
namespace Go.Proofs.YtfeodppdmbideaaGreatDoor
open Go.RowKit

/-- The writer at block g holds bs; what K names is none of its blocks; of world w0 nothing has turned. -/
structure WrK (w0 : World) (K : Nat → Prop) (w : World) (g : Nat) (bs : List Nat) (v : Value) : Prop where
  whole : Whole w g #[v] 99
  own : w.ownsRow 0 5 1 v bs.length (bytesV bs)
  ne : v.ownBlock ≠ some g
  free : ∀ k, GrowF g v k → ¬ K k
  lt : ∀ k, K k → k < w.heap.size
  old : ∀ k, k < w0.heap.size → K k
  below : Below w0.heap.size w0 w
/-- What the writer's methods do. -/
def WPost (w0 : World) (K : Nat → Prop) (g : Nat) (bs : List Nat) (w : World) (e : Ending) (w' : World) : Prop := e = .returned (.tuple #[]) ∧ (∃ v, WrK w0 K w' g bs v) ∧ Only (fun k => ¬ K k) w w'
variable {w0 w w' w2 : World} {K : Nat → Prop} {g : Nat} {bs : List Nat} {v : Value}
theorem WrK.lts (h : WrK w0 K w g bs v) : ∀ k, GrowF g v k → k < w.heap.size := by
  rintro k (rfl | hk)
  · exact h.whole.lt
  · exact (World.ownsRow.lt h.own k hk).2
/-- New blocks may be named too. -/
theorem WrK.more (h : WrK w0 K w g bs v) (hb : Below w.heap.size w w') : WrK w0 (fun k => K k ∨ (w.heap.size ≤ k ∧ k < w'.heap.size)) w' g bs v where
  whole := h.whole.keep (hb.block g h.whole.lt)
  own := own_below h.own hb
  ne := h.ne
  free := fun k hk hn => by
    rcases hn with hn | hn
    · exact h.free k hk hn
    · have := h.lts k hk; omega
  lt := fun k hk => by
    rcases hk with hk | hk
    · exact Nat.lt_of_lt_of_le (h.lt k hk) hb.size
    · exact hk.2
  old := fun k hk => .inl (h.old k hk)
  below := h.below.trans (hb.mono h.below.size)
theorem WrK.less {K2 : Nat → Prop} (h : WrK w0 K w g bs v) (hK : ∀ k, K2 k → K k) (ho : ∀ k, k < w0.heap.size → K2 k) : WrK w0 K2 w g bs v := ⟨h.whole, h.own, h.ne, fun k hk hn => h.free k hk (hK k hn), fun k hk => h.lt k (hK k hk), ho, h.below⟩
theorem WrK.next (h : WrK w0 K w g bs v) (hb : Below w.heap.size w w') : WrK w0 K w' g bs v := (h.more hb).less (fun _ hk => .inl hk) h.old
theorem WPost.fit {e : Ending} (h : WPost w0 (fun k => K k ∨ (w.heap.size ≤ k ∧ k < w'.heap.size)) g bs w' e w2) (hb : Below w.heap.size w w') (ho : ∀ k, k < w0.heap.size → K k) : WPost w0 K g bs w e w2 := by
  obtain ⟨h1, ⟨v, h2⟩, h3⟩ := h
  refine ⟨h1, ⟨v, h2.less (fun _ hk => .inl hk) ho⟩, (Only.of_below (F := fun k => ¬ K k) hb).trans h3 fun k hk hn h4 => hn (.inl h4)⟩
/-- Behind an append, and the store. -/
theorem WrK.put {w1 : World} {r : List Nat} {m : Nat} {v' : Value} (h : WrK w0 K w g bs v) (hb : Below w.heap.size w w1) (hm : r.length = m) (hown : w2.ownsRow 0 5 1 v' (bs.length + m) (bytesV bs ++ bytesV r)) (hmv : Moves w1 v w2 v') :
    WPost w0 K g (bs ++ r) w (.returned (.tuple #[])) (w2.setCell ⟨g, 0, none⟩ v') := by
  have h1 := h.next hb
  have hK : ∀ k, K k → ¬ (k = g ∨ v.ownBlock = some k) := fun k hk hg => h.free k hg hk
  have hv' : ∀ k, v'.ownBlock = some k → v.ownBlock = some k ∨ w1.heap.size ≤ k := hmv.next
  have hne : v'.ownBlock ≠ some g := fun e => by
    rcases hv' g e with h' | h'
    · exact h.ne h'
    · have := h1.whole.lt; omega
  have ho2 : Only (fun k => ¬ K k) w1 w2 := hmv.only.mono fun k e hk => hK k hk (.inr e)
  have ho3 : Only (fun k => k = g) w2 (w2.setCell ⟨g, 0, none⟩ v') := (Only.refl (fun k => k = g) w2).set_ (.inl rfl) 0 _
  have ho4 : Only (fun k => ¬ K k) w1 (w2.setCell ⟨g, 0, none⟩ v') := ho2.trans ho3 fun k _ e hk => hK k hk (.inl e)
  refine ⟨rfl, ⟨v', ⟨?_, ?_, hne, ?_, fun k hk => Nat.lt_of_lt_of_le (h1.lt k hk) ho4.size, h.old, ?_⟩⟩, (Only.of_below hb).trans ho4 fun _ _ e => e⟩
  · exact (h1.whole.only hmv.only h.ne).set_ 0 v'
  · rw [List.length_append, hm, bytesV_append]
    exact own_only hown ho3 fun k hk e => hne (e ▸ hk)
  · rintro k (rfl | hk) hn
    · exact hK k hn (.inl rfl)
    · rcases hv' k hk with h' | h'
      · exact hK k hn (.inr h')
      · have := h1.lt k hn; omega
  · exact h1.below.trans (ho4.below h1.below.size fun k hk hn => hn (h.old k hk))
set_option maxHeartbeats 2000000 in
theorem nums_any (w0 : World) (K : Nat → Prop) (g : Nat) (bs : List Nat) (v : Value) (A : Option Addr) (n c : Nat) (l : List Int) (w : World) (h : WrK w0 K w g bs v) (hn : l.length = n) (hA : Holds w A (intsV l)) (hl : Wide l) (h0 : ∀ x ∈ l, 0 ≤ x) (hl1 : n ≤ 1000000) (hb : bs.length ≤ 400000000) :
    Calls Tryz.prog 147 #[.pointer (some ⟨g, 0, none⟩), .slice A n c] w (WPost w0 K g (bs ++ lebs l) w) := by
  subst hn
  have hll := lebs_len hl
  have HP := Lib.hid (oput_any none A 0 c [] l w ⟨Nat.le_refl _, by omega, fun _ => ⟨rfl, rfl⟩⟩ (Holds.nil _ _) hA hl (by simp) hl1)
  have PR := Lib.hid fun w1 w2 v' (hb : Below w.heap.size w w1) => WrK.put (w1 := w1) (w2 := w2) (v' := v') (r := lebs l) h hb rfl
  have HX := Lib.hid h
  have H0 := Lib.hid h0
  clear h h0 hA hl
  go_enter Tryz.func147, Tryz.ntmps147
  go_wp2_with fail
  refine (HP.out).mono ?_
  rintro e w1 (⟨-, A1, c1, rfl, hown, hs, hb1⟩ | ⟨hno, -⟩)
  · rw [List.nil_append] at hown hs
    have h1 := HX.out.next hb1
    have c0 : w1.cell? ⟨g, 0, none⟩ = some v := h1.whole.cell 0
    have HO := Lib.hid h1.own
    have HN := Lib.hid (own_holds hown)
    have HW := Lib.hid h1.whole
    have HNE := Lib.hid h1.ne
    have HB := Lib.hid hb1
    have HS := Lib.hid hs
    have hbig : bs.length + (lebs l).length ≤ 1000000000 := by omega
    clear h1 hown hs hb1
    simp only [List.nil_append]
    go_wp2_with (at_builtin; go_must (refine wpList_append_tx rfl (.tmp 15) (.tmp 16) _ _ _ rfl Tryz.underlying47 5 _ 1 1 info8 rfl (by decide) Tryz.underlying47 v bs.length (lebs l).length _ (bytesV (lebs l)) rfl HO.out A1 c1 rfl HS.out HN.out (by rw [bytesV_len, Nat.mul_one]) bytesV_one hbig (by decide) ?_); intro v' w2 hown' hmv'; obtain ⟨A', c', rfl, -, -⟩ := own_slice hown'; have c02 : w2.cell? ⟨g, 0, none⟩ = some v := (HW.out.only hmv'.only HNE.out).cell 0; have f02 : w2.frozen? ⟨g, 0, none⟩ = false := (HW.out.only hmv'.only HNE.out).frozen 0; have HO' := Lib.hid hown'; have HM' := Lib.hid hmv'; clear hown' hmv')
    go_end0
    exact PR.out w1 w2 _ HB.out HO'.out HM'.out
  · exact absurd H0.out hno
theorem over_any (w0 : World) (K : Nat → Prop) (g : Nat) (bs : List Nat) (v : Value) (w : World) (h : WrK w0 K w g bs v) : Calls Tryz.prog 60 #[.pointer (some ⟨g, 0, none⟩)] w fun e w' => e = .returned (.bool (decide (65536 < bs.length))) ∧ w = w' := by
  obtain ⟨A, c, rfl, -, -⟩ := own_slice h.own
  have c0 : w.cell? ⟨g, 0, none⟩ = some (.slice A bs.length c) := h.whole.cell 0
  clear h
  by_cases h1 : 65536 < bs.length
  · have h2 : (65536 : Int) < (bs.length : Int) := by omega
    rw [decide_eq_true h1]
    go_enter Tryz.func60, Tryz.ntmps60
    go_wp2_with fail
    go_ret
    exact ⟨rfl, rfl⟩
  · have h2 : ¬ (65536 : Int) < (bs.length : Int) := by omega
    rw [decide_eq_false h1]
    go_enter Tryz.func60, Tryz.ntmps60
    go_wp2_with fail
    go_ret
    exact ⟨rfl, rfl⟩
set_option maxHeartbeats 2000000 in
theorem wrow_any (w0 : World) (K : Nat → Prop) (g : Nat) (bs : List Nat) (v : Value) (A : Option Addr) (n c : Nat) (t : List Node3) (w : World) (h : WrK w0 K w g bs v) (hn : t.length = n) (hA : Holds w0 A (nodesV t)) (hl : WideT t) (h0 : ∀ x ∈ t, ONodeOk x) (h4 : n ≤ 4096) :
    Calls Tryz.prog 109 #[.pointer (some ⟨g, 0, none⟩), .slice A n c] w (WPost w0 K g (encR bs t) w) := by
  subst hn
  have HOV := Lib.hid (over_any w0 K g bs v w h)
  by_cases ho : 65536 < bs.length
  · have HE : Hid (encR bs t = bs) := Lib.hid (by unfold encR; rw [if_pos ho])
    rw [decide_eq_true ho] at HOV
    rw [HE.out]
    have HX := Lib.hid h
    clear h hA hl h0 ho
    go_enter Tryz.func109, Tryz.ntmps109
    go_wp2_with fail
    refine (HOV.out).mono ?_
    rintro e w1 ⟨rfl, rfl⟩
    go_wp2_with fail
    go_end0
    exact ⟨rfl, ⟨v, HX.out⟩, Only.refl _ _⟩
  rw [decide_eq_false ho] at HOV
  have HE : Hid (encR bs t = bs ++ lebT t) := Lib.hid (by unfold encR; rw [if_neg ho])
  rw [HE.out]
  have hll := lebT_len hl h4
  have HP := Lib.hid (orow_any none A 0 c [] t w ⟨Nat.le_refl _, by omega, fun _ => ⟨rfl, rfl⟩⟩ (Holds.nil _ _) (hA.below h.below) hl (by simp))
  have PR := Lib.hid fun w1 w2 v' (hb : Below w.heap.size w w1) => WrK.put (w1 := w1) (w2 := w2) (v' := v') (r := lebT t) h hb rfl
  have HX := Lib.hid h
  have H0 := Lib.hid h0
  clear h h0 hA hl
  go_enter Tryz.func109, Tryz.ntmps109
  go_wp2_with fail
  refine (HOV.out).mono ?_
  rintro e w1 ⟨rfl, rfl⟩
  go_wp2_with fail
  refine (HP.out).mono ?_
  rintro e w1 (⟨hno, -⟩ | ⟨-, -, A1, c1, rfl, hown, hs, hb1⟩ | ⟨-, hno, -⟩)
  · omega
  · rw [List.nil_append] at hown hs
    have h1 := HX.out.next hb1
    have c0 : w1.cell? ⟨g, 0, none⟩ = some v := h1.whole.cell 0
    have HO := Lib.hid h1.own
    have HN := Lib.hid (own_holds hown)
    have HW := Lib.hid h1.whole
    have HNE := Lib.hid h1.ne
    have HB := Lib.hid hb1
    have HS := Lib.hid hs
    have hbig : bs.length + (lebT t).length ≤ 1000000000 := by omega
    clear h1 hown hs hb1
    simp only [List.nil_append]
    go_wp2_with (at_builtin; go_must (refine wpList_append_tx rfl (.tmp 17) (.tmp 18) _ _ _ rfl Tryz.underlying47 5 _ 1 1 info8 rfl (by decide) Tryz.underlying47 v bs.length (lebT t).length _ (bytesV (lebT t)) rfl HO.out A1 c1 rfl HS.out HN.out (by rw [bytesV_len, Nat.mul_one]) bytesV_one hbig (by decide) ?_); intro v' w2 hown' hmv'; obtain ⟨A', c', rfl, -, -⟩ := own_slice hown'; have c02 : w2.cell? ⟨g, 0, none⟩ = some v := (HW.out.only hmv'.only HNE.out).cell 0; have f02 : w2.frozen? ⟨g, 0, none⟩ = false := (HW.out.only hmv'.only HNE.out).frozen 0; have HO' := Lib.hid hown'; have HM' := Lib.hid hmv'; clear hown' hmv')
    go_end0
    exact PR.out w1 w2 _ HB.out HO'.out HM'.out
  · exact absurd H0.out hno
end Go.Proofs.YtfeodppdmbideaaGreatDoor
namespace Go.Proofs.YtfeodppdmbideaaGreatDoor
open Go.RowKit

/-- What is asked of the method that writes one thing. -/
structure VisW {α : Type} (w0 : World) (K : Nat → Prop) (g : Nat) (Vf : FuncId) (val : α → Value) (fs : List Nat → α → List Nat) (lim q : Nat) (l : List α) : Prop where
  enters : ∀ args w, (callFunc Vf args).run Tryz.prog w = .ok (.enter Vf args) w
  call : ∀ i (h : i < l.length) bs v W, WrK w0 K W g bs v → Cap lim bs → Calls Tryz.prog Vf #[.pointer (some ⟨g, 0, none⟩), val l[i]] W (WPost w0 K g (fs bs l[i]) W)
  cap : ∀ x ∈ l, ∀ m bs, Cap m bs → Cap (m + q) (fs bs x)
theorem cap_part {α : Type} {fs : List Nat → α → List Nat} {q : Nat} {l : List α} (hf : ∀ x ∈ l, ∀ m bs, Cap m bs → Cap (m + q) (fs bs x)) {m : Nat} {b0 : List Nat} (h0 : Cap m b0) : ∀ k, k ≤ l.length → Cap (m + q * k) ((l.take k).foldl fs b0)
  | 0, _ => by simpa using h0
  | k + 1, h => by
    rw [encAll_take (by omega)]
    have := hf _ (List.getElem_mem (l := l) (n := k) (by omega)) _ _ (cap_part hf h0 k (by omega))
    exact this.mono (by rw [Nat.mul_add]; omega)
theorem ords_cells {w : World} {b o : Nat} {l : List Node3} (h : Holds w (some ⟨b, o, none⟩) (ordsV l)) {k : Nat} (hk : k < l.length) :
    w.cell? ⟨b, o + k * 3, none⟩ = some (.int .i64 l[k].1) ∧ w.cell? ⟨b, o + k * 3 + 1, none⟩ = some (.int .i64 l[k].2.1) ∧ w.cell? ⟨b, o + k * 3 + 2, none⟩ = some (.int .i64 l[k].2.2) := by
  have g : ∀ f (hf : f < 3) (u : Value), (ordV l[k])[f]? = some u → w.cell? ⟨b, o + k * 3 + f, none⟩ = some u := fun f hf u hu => by
    have := h.cell (j := k * 3 + f) (u := u) (by rw [ordsV_get hk hf]; exact hu)
    rwa [← Nat.add_assoc] at this
  exact ⟨g 0 (by omega) _ rfl, g 1 (by omega) _ rfl, g 2 (by omega) _ rfl⟩
theorem prims_cells {w : World} {b o : Nat} {l : List (Int × Int)} (h : Holds w (some ⟨b, o, none⟩) (atomsV l)) {k : Nat} (hk : k < l.length) :
    w.cell? ⟨b, o + k * 2, none⟩ = some (.int .i64 l[k].1) ∧ w.cell? ⟨b, o + k * 2 + 1, none⟩ = some (.int .i64 l[k].2) := by
  have r0 := h.cell (atomsV_get0 hk)
  have r1 := h.cell (atomsV_get1 hk)
  rw [← Nat.add_assoc] at r1
  exact ⟨r0, r1⟩
set_option maxRecDepth 100000 in
set_option maxHeartbeats 4000000 in
theorem wallT_any (w0 : World) (K : Nat → Prop) (g : Nat) (Vf : FuncId) (lim q : Nat) (bs : List Nat) (v : Value) (A : Option Addr) (n c m : Nat) (l : List RowT) (w : World) (V : VisW w0 K g Vf (fun x : RowT => .slice x.1 x.2.2.length x.2.1) (fun bs (x : RowT) => encR bs x.2.2) lim q l) (h : WrK w0 K w g bs v) (hn : l.length = n) (hnb : n ≤ 1000000) (hA : Holds w0 A (l.map rowV)) (hc : Cap m bs) (hm : m + 1 + q * n ≤ lim) (hlim : lim ≤ 30000000) :
    Calls Tryz.prog 184 #[.pointer (some ⟨g, 0, none⟩), .slice A n c, .func (.func Vf) #[.pointer (some ⟨g, 0, none⟩)] #[]] w (WPost w0 K g (encAll (fun bs (x : RowT) => encR bs x.2.2) bs l) w) := by
  have hen := V.enters
  have HV := Lib.hid V
  have HA := Lib.hid hA
  have HL := Lib.hid hn
  have HO := Lib.hid h.old
  have HM := Lib.hid hm
  have hwn : Wide [(n : Int)] := fun x hx => by
    simp only [List.mem_singleton] at hx
    subst hx
    omega
  have hpn : ∀ x ∈ [(n : Int)], 0 ≤ x := fun x hx => by
    simp only [List.mem_singleton] at hx
    subst hx
    omega
  have hb1 : Below w.heap.size w (w.alloc (.cells #[.int .i64 (n : Int)] 3)) := (Below.refl _ _).alloc (Nat.le_refl _) _
  have hcb : bs.length ≤ 400000000 := by unfold Cap at hc; omega
  have hc1 : Cap (m + 1) (bs ++ lebs [(n : Int)]) := hc.num hwn
  have HN := Lib.hid (nums_any w0 K g bs v (some ⟨w.heap.size, 0, none⟩) 1 1 [(n : Int)] _ (h.next hb1) rfl (holds_lit w (intsV [(n : Int)]) 3) hwn hpn (by omega) hcb)
  have HB1 := Lib.hid (Only.of_below (F := fun k => ¬ K k) hb1)
  have HC1 := Lib.hid hc1
  have HE : Hid (encAll (fun bs (x : RowT) => encR bs x.2.2) bs l = (l.take n).foldl (fun bs (x : RowT) => encR bs x.2.2) (bs ++ lebs [(n : Int)])) := Lib.hid (by rw [← hn, List.take_length]; rfl)
  generalize bs ++ lebs [(n : Int)] = b0 at *
  clear V h hA hn hwn hpn hb1 hc hcb hc1 hm
  go_enter Tryz.func184, Tryz.ntmps184
  go_wp2_with fail
  refine (HN.out).mono ?_
  rintro en w1 ⟨rfl, hw1, ho1⟩
  have HW1 := Lib.hid hw1
  have HO1 := Lib.hid (HB1.out.trans ho1 fun _ _ e => e)
  clear hw1 ho1
  go_wp2_with fail
  go_loopw [15] (fun i wr => ∃ k : Nat, i = .int .i64 (k : Int) ∧ k ≤ n ∧ Hid (∃ v, WrK w0 K wr g ((l.take k).foldl (fun bs (x : RowT) => encR bs x.2.2) b0) v) ∧ Hid (Only (fun k => ¬ K k) w wr)) (fun i _ => n - (intOf i).toNat)
  case atStart => exact ⟨0, rfl, Nat.zero_le _, HW1, HO1⟩
  case round =>
    obtain ⟨k, rfl, hk, HW, HB⟩ := hrel
    by_cases hlt : k < n
    · have hkl : k < l.length := by have := HL.out; omega
      obtain ⟨v, hw⟩ := HW.out
      have hA2 := HA.out.below hw.below
      obtain ⟨b, o, rfl, -, -⟩ := hA2.at_ (by rw [List.length_map]; omega)
      have r0 := rows_cell hA2 hkl
      have hq : q * k ≤ q * n := Nat.mul_le_mul_left q hk
      have hcap : Cap lim ((l.take k).foldl (fun bs (x : RowT) => encR bs x.2.2) b0) := (cap_part HV.out.cap HC1.out k (by omega)).mono (by have := HM.out; omega)
      have HC := Lib.hid (HV.out.call k hkl _ v wr hw hcap)
      have HT := Lib.hid (encAll_take (f := (fun bs (x : RowT) => encR bs x.2.2)) (b0 := b0) hkl)
      clear hA2 hw hcap hq
      generalize ((fun bs (x : RowT) => encR bs x.2.2)) ((l.take k).foldl (fun bs (x : RowT) => encR bs x.2.2) b0) l[k] = b2 at *
      generalize l[k] = x at *
      obtain ⟨xA, xc, xt⟩ := x
      obtain ⟨xn, hxn⟩ : ∃ xn, xt.length = xn := ⟨_, rfl⟩
      simp only [hxn] at r0 HC
      clear hxn
      go_wp2_with fail
      refine (HC.out).mono ?_
      rintro en w2 ⟨rfl, hw2, ho2⟩
      have HO2 := Lib.hid (HB.out.trans ho2 fun _ _ e => e)
      have HW2 := Lib.hid hw2
      clear hw2 ho2
      go_wp2_with fail
      go_roundw
      case rel => exact ⟨k + 1, by go_num, by omega, Lib.hid (by rw [HT.out]; exact HW2.out), HO2⟩
      case measure => simp [intOf] <;> omega
    · obtain rfl : k = n := by omega
      go_wp2_with fail
      go_end0
      exact ⟨rfl, by rw [HE.out]; exact HW.out, HB.out⟩
set_option maxRecDepth 100000 in
set_option maxHeartbeats 4000000 in
theorem wallO_any (w0 : World) (K : Nat → Prop) (g : Nat) (Vf : FuncId) (lim q : Nat) (bs : List Nat) (v : Value) (A : Option Addr) (n c m : Nat) (l : List Node3) (w : World) (V : VisW w0 K g Vf (fun x : Node3 => .agg #[.int .i64 x.1, .int .i64 x.2.1, .int .i64 x.2.2]) encO lim q l) (h : WrK w0 K w g bs v) (hn : l.length = n) (hnb : n ≤ 1000000) (hA : Holds w0 A (ordsV l)) (hc : Cap m bs) (hm : m + 1 + q * n ≤ lim) (hlim : lim ≤ 30000000) :
    Calls Tryz.prog 148 #[.pointer (some ⟨g, 0, none⟩), .slice A n c, .func (.func Vf) #[.pointer (some ⟨g, 0, none⟩)] #[]] w (WPost w0 K g (encAll encO bs l) w) := by
  have hen := V.enters
  have HV := Lib.hid V
  have HA := Lib.hid hA
  have HL := Lib.hid hn
  have HO := Lib.hid h.old
  have HM := Lib.hid hm
  have hwn : Wide [(n : Int)] := fun x hx => by
    simp only [List.mem_singleton] at hx
    subst hx
    omega
  have hpn : ∀ x ∈ [(n : Int)], 0 ≤ x := fun x hx => by
    simp only [List.mem_singleton] at hx
    subst hx
    omega
  have hb1 : Below w.heap.size w (w.alloc (.cells #[.int .i64 (n : Int)] 3)) := (Below.refl _ _).alloc (Nat.le_refl _) _
  have hcb : bs.length ≤ 400000000 := by unfold Cap at hc; omega
  have hc1 : Cap (m + 1) (bs ++ lebs [(n : Int)]) := hc.num hwn
  have HN := Lib.hid (nums_any w0 K g bs v (some ⟨w.heap.size, 0, none⟩) 1 1 [(n : Int)] _ (h.next hb1) rfl (holds_lit w (intsV [(n : Int)]) 3) hwn hpn (by omega) hcb)
  have HB1 := Lib.hid (Only.of_below (F := fun k => ¬ K k) hb1)
  have HC1 := Lib.hid hc1
  have HE : Hid (encAll encO bs l = (l.take n).foldl encO (bs ++ lebs [(n : Int)])) := Lib.hid (by rw [← hn, List.take_length]; rfl)
  generalize bs ++ lebs [(n : Int)] = b0 at *
  clear V h hA hn hwn hpn hb1 hc hcb hc1 hm
  go_enter Tryz.func148, Tryz.ntmps148
  go_wp2_with fail
  refine (HN.out).mono ?_
  rintro en w1 ⟨rfl, hw1, ho1⟩
  have HW1 := Lib.hid hw1
  have HO1 := Lib.hid (HB1.out.trans ho1 fun _ _ e => e)
  clear hw1 ho1
  go_wp2_with fail
  go_loopw [15] (fun i wr => ∃ k : Nat, i = .int .i64 (k : Int) ∧ k ≤ n ∧ Hid (∃ v, WrK w0 K wr g ((l.take k).foldl encO b0) v) ∧ Hid (Only (fun k => ¬ K k) w wr)) (fun i _ => n - (intOf i).toNat)
  case atStart => exact ⟨0, rfl, Nat.zero_le _, HW1, HO1⟩
  case round =>
    obtain ⟨k, rfl, hk, HW, HB⟩ := hrel
    by_cases hlt : k < n
    · have hkl : k < l.length := by have := HL.out; omega
      obtain ⟨v, hw⟩ := HW.out
      have hA2 := HA.out.below hw.below
      obtain ⟨b, o, rfl, -, -⟩ := hA2.at_ (by rw [ordsV_len]; omega)
      obtain ⟨r0, r1, r2⟩ := ords_cells hA2 hkl
      have hq : q * k ≤ q * n := Nat.mul_le_mul_left q hk
      have hcap : Cap lim ((l.take k).foldl encO b0) := (cap_part HV.out.cap HC1.out k (by omega)).mono (by have := HM.out; omega)
      have HC0 := Lib.hid (fun W (hb : Below wr.heap.size wr W) => HV.out.call k hkl _ v W (hw.next hb) hcap)
      have HT := Lib.hid (encAll_take (f := encO) (b0 := b0) hkl)
      clear hA2 hw hcap hq
      generalize (encO) ((l.take k).foldl encO b0) l[k] = b2 at *
      generalize l[k] = x at *
      obtain ⟨xa, xb, xc⟩ := x
      try simp only at r0 r1 r2 HC0
      have HBA := Lib.hid (show Below wr.heap.size wr (wr.alloc (.cells #[.int .i64 xa, .int .i64 xb, .int .i64 xc] 118)) from (Below.refl _ _).alloc (Nat.le_refl _) _)
      have HC := Lib.hid (HC0.out _ HBA.out)
      clear HC0
      go_wp2_with fail
      refine (HC.out).mono ?_
      rintro en w2 ⟨rfl, hw2, ho2⟩
      have HO2 := Lib.hid ((HB.out.trans (Only.of_below (F := fun k => ¬ K k) HBA.out) fun _ _ e => e).trans ho2 fun _ _ e => e)
      have HW2 := Lib.hid hw2
      clear hw2 ho2
      go_wp2_with fail
      go_roundw
      case rel => exact ⟨k + 1, by go_num, by omega, Lib.hid (by rw [HT.out]; exact HW2.out), HO2⟩
      case measure => simp [intOf] <;> omega
    · obtain rfl : k = n := by omega
      go_wp2_with fail
      go_end0
      exact ⟨rfl, by rw [HE.out]; exact HW.out, HB.out⟩
set_option maxRecDepth 100000 in
set_option maxHeartbeats 4000000 in
theorem wallP_any (w0 : World) (K : Nat → Prop) (g : Nat) (Vf : FuncId) (lim q : Nat) (bs : List Nat) (v : Value) (A : Option Addr) (n c m : Nat) (l : List (Int × Int)) (w : World) (V : VisW w0 K g Vf (fun x : Int × Int => .agg #[.int .i64 x.1, .int .i64 x.2]) encP lim q l) (h : WrK w0 K w g bs v) (hn : l.length = n) (hnb : n ≤ 1000000) (hA : Holds w0 A (atomsV l)) (hc : Cap m bs) (hm : m + 1 + q * n ≤ lim) (hlim : lim ≤ 30000000) :
    Calls Tryz.prog 152 #[.pointer (some ⟨g, 0, none⟩), .slice A n c, .func (.func Vf) #[.pointer (some ⟨g, 0, none⟩)] #[]] w (WPost w0 K g (encAll encP bs l) w) := by
  have hen := V.enters
  have HV := Lib.hid V
  have HA := Lib.hid hA
  have HL := Lib.hid hn
  have HO := Lib.hid h.old
  have HM := Lib.hid hm
  have hwn : Wide [(n : Int)] := fun x hx => by
    simp only [List.mem_singleton] at hx
    subst hx
    omega
  have hpn : ∀ x ∈ [(n : Int)], 0 ≤ x := fun x hx => by
    simp only [List.mem_singleton] at hx
    subst hx
    omega
  have hb1 : Below w.heap.size w (w.alloc (.cells #[.int .i64 (n : Int)] 3)) := (Below.refl _ _).alloc (Nat.le_refl _) _
  have hcb : bs.length ≤ 400000000 := by unfold Cap at hc; omega
  have hc1 : Cap (m + 1) (bs ++ lebs [(n : Int)]) := hc.num hwn
  have HN := Lib.hid (nums_any w0 K g bs v (some ⟨w.heap.size, 0, none⟩) 1 1 [(n : Int)] _ (h.next hb1) rfl (holds_lit w (intsV [(n : Int)]) 3) hwn hpn (by omega) hcb)
  have HB1 := Lib.hid (Only.of_below (F := fun k => ¬ K k) hb1)
  have HC1 := Lib.hid hc1
  have HE : Hid (encAll encP bs l = (l.take n).foldl encP (bs ++ lebs [(n : Int)])) := Lib.hid (by rw [← hn, List.take_length]; rfl)
  generalize bs ++ lebs [(n : Int)] = b0 at *
  clear V h hA hn hwn hpn hb1 hc hcb hc1 hm
  go_enter Tryz.func152, Tryz.ntmps152
  go_wp2_with fail
  refine (HN.out).mono ?_
  rintro en w1 ⟨rfl, hw1, ho1⟩
  have HW1 := Lib.hid hw1
  have HO1 := Lib.hid (HB1.out.trans ho1 fun _ _ e => e)
  clear hw1 ho1
  go_wp2_with fail
  go_loopw [15] (fun i wr => ∃ k : Nat, i = .int .i64 (k : Int) ∧ k ≤ n ∧ Hid (∃ v, WrK w0 K wr g ((l.take k).foldl encP b0) v) ∧ Hid (Only (fun k => ¬ K k) w wr)) (fun i _ => n - (intOf i).toNat)
  case atStart => exact ⟨0, rfl, Nat.zero_le _, HW1, HO1⟩
  case round =>
    obtain ⟨k, rfl, hk, HW, HB⟩ := hrel
    by_cases hlt : k < n
    · have hkl : k < l.length := by have := HL.out; omega
      obtain ⟨v, hw⟩ := HW.out
      have hA2 := HA.out.below hw.below
      obtain ⟨b, o, rfl, -, -⟩ := hA2.at_ (by rw [atomsV_len]; omega)
      obtain ⟨r0, r1⟩ := prims_cells hA2 hkl
      have hq : q * k ≤ q * n := Nat.mul_le_mul_left q hk
      have hcap : Cap lim ((l.take k).foldl encP b0) := (cap_part HV.out.cap HC1.out k (by omega)).mono (by have := HM.out; omega)
      have HC0 := Lib.hid (fun W (hb : Below wr.heap.size wr W) => HV.out.call k hkl _ v W (hw.next hb) hcap)
      have HT := Lib.hid (encAll_take (f := encP) (b0 := b0) hkl)
      clear hA2 hw hcap hq
      generalize (encP) ((l.take k).foldl encP b0) l[k] = b2 at *
      generalize l[k] = x at *
      obtain ⟨xa, xb⟩ := x
      try simp only at r0 r1 HC0
      have HBA := Lib.hid (show Below wr.heap.size wr (wr.alloc (.cells #[.int .i64 xa, .int .i64 xb] 80)) from (Below.refl _ _).alloc (Nat.le_refl _) _)
      have HC := Lib.hid (HC0.out _ HBA.out)
      clear HC0
      go_wp2_with fail
      refine (HC.out).mono ?_
      rintro en w2 ⟨rfl, hw2, ho2⟩
      have HO2 := Lib.hid ((HB.out.trans (Only.of_below (F := fun k => ¬ K k) HBA.out) fun _ _ e => e).trans ho2 fun _ _ e => e)
      have HW2 := Lib.hid hw2
      clear hw2 ho2
      go_wp2_with fail
      go_roundw
      case rel => exact ⟨k + 1, by go_num, by omega, Lib.hid (by rw [HT.out]; exact HW2.out), HO2⟩
      case measure => simp [intOf] <;> omega
    · obtain rfl : k = n := by omega
      go_wp2_with fail
      go_end0
      exact ⟨rfl, by rw [HE.out]; exact HW.out, HB.out⟩
set_option maxRecDepth 100000 in
set_option maxHeartbeats 4000000 in
theorem wallC_any (w0 : World) (K : Nat → Prop) (g : Nat) (Vf : FuncId) (lim q : Nat) (bs : List Nat) (v : Value) (A : Option Addr) (n c m : Nat) (l : List CtorT) (w : World) (V : VisW w0 K g Vf (fun x : CtorT => x.val) (fun bs (x : CtorT) => encC bs x.p) lim q l) (h : WrK w0 K w g bs v) (hn : l.length = n) (hnb : n ≤ 1000000) (hA : Holds w0 A (ctorsCV l)) (hc : Cap m bs) (hm : m + 1 + q * n ≤ lim) (hlim : lim ≤ 30000000) :
    Calls Tryz.prog 185 #[.pointer (some ⟨g, 0, none⟩), .slice A n c, .func (.func Vf) #[.pointer (some ⟨g, 0, none⟩)] #[]] w (WPost w0 K g (encAll (fun bs (x : CtorT) => encC bs x.p) bs l) w) := by
  have hen := V.enters
  have HV := Lib.hid V
  have HA := Lib.hid hA
  have HL := Lib.hid hn
  have HO := Lib.hid h.old
  have HM := Lib.hid hm
  have hwn : Wide [(n : Int)] := fun x hx => by
    simp only [List.mem_singleton] at hx
    subst hx
    omega
  have hpn : ∀ x ∈ [(n : Int)], 0 ≤ x := fun x hx => by
    simp only [List.mem_singleton] at hx
    subst hx
    omega
  have hb1 : Below w.heap.size w (w.alloc (.cells #[.int .i64 (n : Int)] 3)) := (Below.refl _ _).alloc (Nat.le_refl _) _
  have hcb : bs.length ≤ 400000000 := by unfold Cap at hc; omega
  have hc1 : Cap (m + 1) (bs ++ lebs [(n : Int)]) := hc.num hwn
  have HN := Lib.hid (nums_any w0 K g bs v (some ⟨w.heap.size, 0, none⟩) 1 1 [(n : Int)] _ (h.next hb1) rfl (holds_lit w (intsV [(n : Int)]) 3) hwn hpn (by omega) hcb)
  have HB1 := Lib.hid (Only.of_below (F := fun k => ¬ K k) hb1)
  have HC1 := Lib.hid hc1
  have HE : Hid (encAll (fun bs (x : CtorT) => encC bs x.p) bs l = (l.take n).foldl (fun bs (x : CtorT) => encC bs x.p) (bs ++ lebs [(n : Int)])) := Lib.hid (by rw [← hn, List.take_length]; rfl)
  generalize bs ++ lebs [(n : Int)] = b0 at *
  clear V h hA hn hwn hpn hb1 hc hcb hc1 hm
  go_enter Tryz.func185, Tryz.ntmps185
  go_wp2_with fail
  refine (HN.out).mono ?_
  rintro en w1 ⟨rfl, hw1, ho1⟩
  have HW1 := Lib.hid hw1
  have HO1 := Lib.hid (HB1.out.trans ho1 fun _ _ e => e)
  clear hw1 ho1
  go_wp2_with fail
  go_loopw [15] (fun i wr => ∃ k : Nat, i = .int .i64 (k : Int) ∧ k ≤ n ∧ Hid (∃ v, WrK w0 K wr g ((l.take k).foldl (fun bs (x : CtorT) => encC bs x.p) b0) v) ∧ Hid (Only (fun k => ¬ K k) w wr)) (fun i _ => n - (intOf i).toNat)
  case atStart => exact ⟨0, rfl, Nat.zero_le _, HW1, HO1⟩
  case round =>
    obtain ⟨k, rfl, hk, HW, HB⟩ := hrel
    by_cases hlt : k < n
    · have hkl : k < l.length := by have := HL.out; omega
      obtain ⟨v, hw⟩ := HW.out
      have hA2 := HA.out.below hw.below
      obtain ⟨b, o, rfl, -, -⟩ := hA2.at_ (by rw [ctorsCV_len]; omega)
      obtain ⟨r0, r1⟩ := ctors_cells hA2 hkl
      have hq : q * k ≤ q * n := Nat.mul_le_mul_left q hk
      have hcap : Cap lim ((l.take k).foldl (fun bs (x : CtorT) => encC bs x.p) b0) := (cap_part HV.out.cap HC1.out k (by omega)).mono (by have := HM.out; omega)
      have HC0 := Lib.hid (fun W (hb : Below wr.heap.size wr W) => HV.out.call k hkl _ v W (hw.next hb) hcap)
      have HT := Lib.hid (encAll_take (f := (fun bs (x : CtorT) => encC bs x.p)) (b0 := b0) hkl)
      clear hA2 hw hcap hq
      generalize ((fun bs (x : CtorT) => encC bs x.p)) ((l.take k).foldl (fun bs (x : CtorT) => encC bs x.p) b0) l[k] = b2 at *
      generalize l[k] = x at *
      obtain ⟨⟨xA, xc, xt⟩, ⟨yA, yc, yt⟩⟩ := x
      obtain ⟨xn, hxn⟩ : ∃ xn, xt.length = xn := ⟨_, rfl⟩
      obtain ⟨yn, hyn⟩ : ∃ yn, yt.length = yn := ⟨_, rfl⟩
      simp only [CtorT.val, rowsV, hxn, hyn] at r0 r1 HC0
      clear hxn hyn
      have HBA := Lib.hid (show Below wr.heap.size wr (wr.alloc (.cells #[.slice xA xn xc, .slice yA yn yc] 62)) from (Below.refl _ _).alloc (Nat.le_refl _) _)
      have HC := Lib.hid (HC0.out _ HBA.out)
      clear HC0
      go_wp2_with fail
      refine (HC.out).mono ?_
      rintro en w2 ⟨rfl, hw2, ho2⟩
      have HO2 := Lib.hid ((HB.out.trans (Only.of_below (F := fun k => ¬ K k) HBA.out) fun _ _ e => e).trans ho2 fun _ _ e => e)
      have HW2 := Lib.hid hw2
      clear hw2 ho2
      go_wp2_with fail
      go_roundw
      case rel => exact ⟨k + 1, by go_num, by omega, Lib.hid (by rw [HT.out]; exact HW2.out), HO2⟩
      case measure => simp [intOf] <;> omega
    · obtain rfl : k = n := by omega
      go_wp2_with fail
      go_end0
      exact ⟨rfl, by rw [HE.out]; exact HW.out, HB.out⟩
set_option maxRecDepth 100000 in
set_option maxHeartbeats 4000000 in
theorem wallE_any (w0 : World) (K : Nat → Prop) (g : Nat) (Vf : FuncId) (lim q : Nat) (bs : List Nat) (v : Value) (A : Option Addr) (n c m : Nat) (l : List EntT) (w : World) (V : VisW w0 K g Vf (fun x : EntT => x.val) (fun bs (x : EntT) => encE bs x.p) lim q l) (h : WrK w0 K w g bs v) (hn : l.length = n) (hnb : n ≤ 1000000) (hA : Holds w0 A (entsCV l)) (hc : Cap m bs) (hm : m + 1 + q * n ≤ lim) (hlim : lim ≤ 30000000) :
    Calls Tryz.prog 150 #[.pointer (some ⟨g, 0, none⟩), .slice A n c, .func (.func Vf) #[.pointer (some ⟨g, 0, none⟩)] #[]] w (WPost w0 K g (encAll (fun bs (x : EntT) => encE bs x.p) bs l) w) := by
  have hen := V.enters
  have HV := Lib.hid V
  have HA := Lib.hid hA
  have HL := Lib.hid hn
  have HO := Lib.hid h.old
  have HM := Lib.hid hm
  have hwn : Wide [(n : Int)] := fun x hx => by
    simp only [List.mem_singleton] at hx
    subst hx
    omega
  have hpn : ∀ x ∈ [(n : Int)], 0 ≤ x := fun x hx => by
    simp only [List.mem_singleton] at hx
    subst hx
    omega
  have hb1 : Below w.heap.size w (w.alloc (.cells #[.int .i64 (n : Int)] 3)) := (Below.refl _ _).alloc (Nat.le_refl _) _
  have hcb : bs.length ≤ 400000000 := by unfold Cap at hc; omega
  have hc1 : Cap (m + 1) (bs ++ lebs [(n : Int)]) := hc.num hwn
  have HN := Lib.hid (nums_any w0 K g bs v (some ⟨w.heap.size, 0, none⟩) 1 1 [(n : Int)] _ (h.next hb1) rfl (holds_lit w (intsV [(n : Int)]) 3) hwn hpn (by omega) hcb)
  have HB1 := Lib.hid (Only.of_below (F := fun k => ¬ K k) hb1)
  have HC1 := Lib.hid hc1
  have HE : Hid (encAll (fun bs (x : EntT) => encE bs x.p) bs l = (l.take n).foldl (fun bs (x : EntT) => encE bs x.p) (bs ++ lebs [(n : Int)])) := Lib.hid (by rw [← hn, List.take_length]; rfl)
  generalize bs ++ lebs [(n : Int)] = b0 at *
  clear V h hA hn hwn hpn hb1 hc hcb hc1 hm
  go_enter Tryz.func150, Tryz.ntmps150
  go_wp2_with fail
  refine (HN.out).mono ?_
  rintro en w1 ⟨rfl, hw1, ho1⟩
  have HW1 := Lib.hid hw1
  have HO1 := Lib.hid (HB1.out.trans ho1 fun _ _ e => e)
  clear hw1 ho1
  go_wp2_with fail
  go_loopw [15] (fun i wr => ∃ k : Nat, i = .int .i64 (k : Int) ∧ k ≤ n ∧ Hid (∃ v, WrK w0 K wr g ((l.take k).foldl (fun bs (x : EntT) => encE bs x.p) b0) v) ∧ Hid (Only (fun k => ¬ K k) w wr)) (fun i _ => n - (intOf i).toNat)
  case atStart => exact ⟨0, rfl, Nat.zero_le _, HW1, HO1⟩
  case round =>
    obtain ⟨k, rfl, hk, HW, HB⟩ := hrel
    by_cases hlt : k < n
    · have hkl : k < l.length := by have := HL.out; omega
      obtain ⟨v, hw⟩ := HW.out
      have hA2 := HA.out.below hw.below
      obtain ⟨b, o, rfl, -, -⟩ := hA2.at_ (by rw [entsCV_len]; omega)
      obtain ⟨r0, r1, r2, r3, r4, r5, r6⟩ := ents_cells hA2 hkl
      have hq : q * k ≤ q * n := Nat.mul_le_mul_left q hk
      have hcap : Cap lim ((l.take k).foldl (fun bs (x : EntT) => encE bs x.p) b0) := (cap_part HV.out.cap HC1.out k (by omega)).mono (by have := HM.out; omega)
      have HC0 := Lib.hid (fun W (hb : Below wr.heap.size wr W) => HV.out.call k hkl _ v W (hw.next hb) hcap)
      have HT := Lib.hid (encAll_take (f := (fun bs (x : EntT) => encE bs x.p)) (b0 := b0) hkl)
      clear hA2 hw hcap hq
      generalize ((fun bs (x : EntT) => encE bs x.p)) ((l.take k).foldl (fun bs (x : EntT) => encE bs x.p) b0) l[k] = b2 at *
      generalize l[k] = x at *
      obtain ⟨kd, ⟨sA, sc, ts⟩, ⟨pA, pc, lp⟩, ⟨jA, jc, lj⟩, ⟨cA, cc, lc⟩, ⟨tA, tc, tt⟩, ⟨bA, bc, tb⟩⟩ := x
      obtain ⟨sn, hsn⟩ : ∃ sn, ts.length = sn := ⟨_, rfl⟩
      obtain ⟨pn, hpn⟩ : ∃ pn, lp.length = pn := ⟨_, rfl⟩
      obtain ⟨jn, hjn⟩ : ∃ jn, lj.length = jn := ⟨_, rfl⟩
      obtain ⟨cn, hcn⟩ : ∃ cn, lc.length = cn := ⟨_, rfl⟩
      obtain ⟨tn, htn⟩ : ∃ tn, tt.length = tn := ⟨_, rfl⟩
      obtain ⟨bn, hbn⟩ : ∃ bn, tb.length = bn := ⟨_, rfl⟩
      simp only [EntT.val, rowV, rowsV, ctorsV, hsn, hpn, hjn, hcn, htn, hbn] at r0 r1 r2 r3 r4 r5 r6 HC0
      clear hsn hpn hjn hcn htn hbn
      have HBA := Lib.hid (show Below wr.heap.size wr (wr.alloc (.cells #[.int .i64 kd, .slice sA sn sc, .slice pA pn pc, .slice jA jn jc, .slice cA cn cc, .slice tA tn tc, .slice bA bn bc] 60)) from (Below.refl _ _).alloc (Nat.le_refl _) _)
      have HC := Lib.hid (HC0.out _ HBA.out)
      clear HC0
      go_wp2_with fail
      refine (HC.out).mono ?_
      rintro en w2 ⟨rfl, hw2, ho2⟩
      have HO2 := Lib.hid ((HB.out.trans (Only.of_below (F := fun k => ¬ K k) HBA.out) fun _ _ e => e).trans ho2 fun _ _ e => e)
      have HW2 := Lib.hid hw2
      clear hw2 ho2
      go_wp2_with fail
      go_roundw
      case rel => exact ⟨k + 1, by go_num, by omega, Lib.hid (by rw [HT.out]; exact HW2.out), HO2⟩
      case measure => simp [intOf] <;> omega
    · obtain rfl : k = n := by omega
      go_wp2_with fail
      go_end0
      exact ⟨rfl, by rw [HE.out]; exact HW.out, HB.out⟩
end Go.Proofs.YtfeodppdmbideaaGreatDoor
namespace Go.Proofs.YtfeodppdmbideaaGreatDoor
open Go.RowKit

/-- A row that may be written. -/
def RowW (t : List Node3) : Prop := (∀ x ∈ t, ONodeOk x) ∧ t.length ≤ 4096
theorem RowW.wide {t : List Node3} (h : RowW t) : WideT t := fun x hx => by
  obtain ⟨h1, h2, h3⟩ := h.1 x hx
  omega
def RowsW (l : List RowT) : Prop := l.length ≤ 16 ∧ ∀ x ∈ l, RowW x.2.2
theorem row_vis (w0 : World) (K : Nat → Prop) (g lim : Nat) (l : List RowT) (hok : RowsOk w0 l) (hw : RowsW l) : VisW w0 K g 109 (fun x : RowT => .slice x.1 x.2.2.length x.2.1) (fun bs (x : RowT) => encR bs x.2.2) lim 0 l where
  enters := fun args w => by simp [go_sem]
  call := fun i h bs v W hk _ => by
    have hin := List.getElem_mem h
    exact wrow_any w0 K g bs v _ _ _ _ W hk rfl (hok _ hin).2 (hw.2 _ hin).wide (hw.2 _ hin).1 (hw.2 _ hin).2
  cap := fun x hx m bs h => h.row (hw.2 x hx).wide (hw.2 x hx).2
set_option maxRecDepth 100000 in
set_option maxHeartbeats 4000000 in
theorem wprim_any (w0 : World) (K : Nat → Prop) (g : Nat) (bs : List Nat) (v : Value) (a b : Int) (w : World) (h : WrK w0 K w g bs v) (ha : I64 a) (hb : I64 b) (h0 : 0 ≤ a) (h1 : 0 ≤ b) (hc : bs.length ≤ 400000000) :
    Calls Tryz.prog 153 #[.pointer (some ⟨g, 0, none⟩), .agg #[.int .i64 a, .int .i64 b]] w (WPost w0 K g (encP bs (a, b)) w) := by
  have hb1 : Below w.heap.size w ((w.alloc (.cells #[.int .i64 a, .int .i64 b] 80)).alloc (.cells #[.int .i64 a, .int .i64 b] 3)) := ((Below.refl _ _).alloc (Nat.le_refl _) _).alloc (by simp) _
  have hA := holds_lit (w.alloc (.cells #[.int .i64 a, .int .i64 b] 80)) (intsV [a, b]) 3
  rw [World.size_alloc] at hA
  have hN := nums_any w0 K g bs v (some ⟨w.heap.size + 1, 0, none⟩) 2 2 [a, b] _ (h.next hb1) rfl hA (fun x hx => by
    simp only [List.mem_cons, List.not_mem_nil, or_false] at hx
    rcases hx with rfl | rfl
    · exact ha
    · exact hb) (fun x hx => by
    simp only [List.mem_cons, List.not_mem_nil, or_false] at hx
    rcases hx with rfl | rfl
    · exact h0
    · exact h1) (by omega) hc
  have HN := Lib.hid hN
  have HB := Lib.hid (Only.of_below (F := fun k => ¬ K k) hb1)
  clear h hA hN hb1 hc
  go_enter Tryz.func153, Tryz.ntmps153
  go_wp2_with fail
  refine (HN.out).mono ?_
  rintro en w2 ⟨rfl, hw, ho⟩
  go_wp2_with fail
  go_end0
  exact ⟨rfl, hw, HB.out.trans ho fun _ _ e => e⟩
set_option maxRecDepth 100000 in
set_option maxHeartbeats 4000000 in
theorem wctor_any (w0 : World) (K : Nat → Prop) (g m : Nat) (bs : List Nat) (v : Value) (x : CtorT) (w : World) (h : WrK w0 K w g bs v) (hx : CtorIn w0 x) (h1 : RowsW x.args.2.2) (h2 : RowsW x.out.2.2) (hc : Cap m bs) (hm : m ≤ 2000000) :
    Calls Tryz.prog 186 #[.pointer (some ⟨g, 0, none⟩), x.val] w (WPost w0 K g (encC bs x.p) w) := by
  obtain ⟨⟨xA, xc, lx⟩, ⟨yA, yc, ly⟩⟩ := x
  obtain ⟨⟨hx1, hx2, hx3⟩, ⟨hy1, hy2, hy3⟩⟩ := hx
  simp only at hx1 hx2 hx3 hy1 hy2 hy3 h1 h2
  obtain ⟨xn, hxn⟩ : ∃ n, lx.length = n := ⟨_, rfl⟩
  obtain ⟨yn, hyn⟩ : ∃ n, ly.length = n := ⟨_, rfl⟩
  have hE : encC bs (CtorT.p ⟨(xA, xc, lx), (yA, yc, ly)⟩) = encAll (fun bs (x : RowT) => encR bs x.2.2) (encAll (fun bs (x : RowT) => encR bs x.2.2) bs lx) ly := by
    simp only [encC, encAll, CtorT.p, rowsP, List.length_map, List.foldl_map]
  have hcx : Cap (m + 1) (encAll (fun bs (x : RowT) => encR bs x.2.2) bs lx) := (Cap.all (k := 0) (fun y hy m bs h => h.row (h1.2 y hy).wide (h1.2 y hy).2) (by have := h1.1; omega) hc).mono (by omega)
  have hb1 : Below w.heap.size w (w.alloc (.cells #[.slice xA xn xc, .slice yA yn yc] 62)) := (Below.refl _ _).alloc (Nat.le_refl _) _
  obtain ⟨K1, hKK⟩ : ∃ K1 : Nat → Prop, K1 = fun k => K k ∨ (w.heap.size ≤ k ∧ k < ((w.alloc (.cells #[.slice xA xn xc, .slice yA yn yc] 62))).heap.size) := ⟨_, rfl⟩
  have hk1 : WrK w0 K1 (w.alloc (.cells #[.slice xA xn xc, .slice yA yn yc] 62)) g bs v := by rw [hKK]; exact h.more hb1
  have hbx := holds_at w #[.slice xA xn xc, .slice yA yn yc] 62 _ rfl
  have HF := Lib.hid (show ∀ bs' e w2, WPost w0 K1 g bs' (w.alloc (.cells #[.slice xA xn xc, .slice yA yn yc] 62)) e w2 → WPost w0 K g bs' w e w2 from fun bs' e w2 hp => by
    rw [hKK] at hp
    exact hp.fit hb1 h.old)
  have h16x := h1.1
  have h16y := h2.1
  have hK1 : ∀ bs v' W, WrK w0 K1 W g bs v' → Cap (m + 1) bs → Calls Tryz.prog 184 #[.pointer (some ⟨g, 0, none⟩), .slice yA yn yc, .func (.func 109) #[.pointer (some ⟨g, 0, none⟩)] #[]] W (WPost w0 K1 g (encAll (fun bs (x : RowT) => encR bs x.2.2) bs ly) W) := fun bs v' W hW hc' =>
    wallT_any w0 _ g _ 3000000 0 bs v' yA yn yc (m + 1) ly W (row_vis w0 _ g _ ly hy3 h2) hW hyn (by omega) hy2 hc' (by omega) (by omega)
  have hK0 := wallT_any w0 _ g _ 3000000 0 bs v xA xn xc m lx _ (row_vis w0 _ g _ lx hx3 h1) hk1 hxn (by omega) hx2 hc (by omega) (by omega)
  have hst : ∀ W, Only (fun k => ¬ K1 k) (w.alloc (.cells #[.slice xA xn xc, .slice yA yn yc] 62)) W → W.cell? ⟨w.heap.size, 1, none⟩ = some (.slice yA yn yc) := fun W ho => by
    have := (hbx.only ho fun b o e hn => hn (by rw [hKK]; exact .inr (by cases e; simp))).cell (j := 1) rfl
    rwa [Nat.zero_add] at this
  have HK0 := Lib.hid hK0
  have HK1 := Lib.hid hK1
  have HST := Lib.hid hst
  have HCX := Lib.hid hcx
  rw [hE]
  simp only [CtorT.val, rowsV, hxn, hyn]
  clear h hx1 hx2 hx3 hy1 hy2 hy3 h1 h2 hE hc hcx hk1 hbx hK0 hK1 hst hxn hyn hb1 h16x h16y hKK
  go_enter Tryz.func186, Tryz.ntmps186
  go_wp2_with fail
  refine (HK0.out).mono ?_
  rintro en w2 ⟨rfl, ⟨v2, hw2⟩, ho2⟩
  have c1 := HST.out w2 ho2
  have HK2 := Lib.hid (HK1.out _ _ _ hw2 HCX.out)
  have HO2 := Lib.hid ho2
  clear hw2 ho2
  go_wp2_with fail
  refine (HK2.out).mono ?_
  rintro en w3 ⟨rfl, hw3, ho3⟩
  go_wp2_with fail
  go_end0
  exact HF.out _ _ _ ⟨rfl, hw3, HO2.out.trans ho3 fun _ _ e => e⟩
end Go.Proofs.YtfeodppdmbideaaGreatDoor
