/- LevelKeeps: what is handed in stays, spare room too; what is answered is new memory. -/
import Derived.Test.YtdpannjnhhjicaaLKeepsA
namespace Go.Proofs.Ytdpannjnhhjicaa
open Go.RowKit

set_option maxRecDepth 100000 in
set_option maxHeartbeats 16000000 in
theorem lkeeps_some (A B C D : Option Addr) (n c k f nb b' nd d' : Nat) (x lo hi : Int) (E : List Ord3) (a b : List Atom2) (w : World) (h1 : nb + nd ≤ 50) (h2 : n ≤ 100) (hn : E.length = n) (hs : Slice A n c) (hA : Holds w A (ordsV E)) (hB : LevelAt w B nb b' a) (hWa : WideA a) (hD : LevelAt w D nd d' b) (hWb : WideA b) :
    Calls Try.prog 10 #[.slice B nb b', .slice D nd d', ordAgg x A C n c k f lo hi] w fun e w' => e = .returned (.bool true) ∧ Below w.heap.size w w' := by
  have hb0 := (Below.refl w.heap.size w).alloc (Nat.le_refl _) (ordBox x A C n c k f lo hi)
  have hx := holds_at w #[.int .i64 x, .slice A n c, .slice C k f, .int .i64 lo, .int .i64 hi] 39 _ rfl
  have e1 : wrap64 ((nb : Int) + (nd : Int)) = (nb : Int) + (nd : Int) := IntWalk.wrap64_in _ (by omega)
  have t1 : ¬ (50 : Int) < (nb : Int) + (nd : Int) := by omega
  have t2 : ¬ (100 : Int) < (n : Int) := by omega
  have MX := Lib.hid fun w B b' D d' (hB : LevelAt w B nb b' a) (hD : LevelAt w D nd d' b) => (max_any B D nb nd b' d' a b w hB hD).mono fun _ _ => maxPost_le
  have RMX := Lib.hid fun w (hB : LevelAt w B nb b' a) (hD : LevelAt w D nd d' b) => (rmax_any B D nb nd b' d' a b w hB hD).mono fun _ _ => maxPost_le
  have UP := Lib.hid fun w B b' (hB : LevelAt w B nb b' a) => (up_any B nb b' a 1 w hB).mono fun _ _ => upPost_le
  have UN := Lib.hid fun w A c B b' D d' hA (hB : LevelAt w B nb b' a) (hD : LevelAt w D nd d' b) => under_l x A B D c n nb b' nd d' E a b w hn hA (by omega) hB hD hWa hWb _ rfl
  have LE := Lib.hid fun w A c hA => (pleast_n x A c n E w hn hA (by omega)).mono fun _ _ => leastPost_own
  have RLE := Lib.hid fun w A c hA => (rleast_n x A c n E w hn hA (by omega)).mono fun _ _ => rleast_ie
  have HN := Lib.hid hn
  have HNB := Lib.hid hB.1
  have HND := Lib.hid hD.1
  have HZ1 : ∃ z, underS x E a b = z := ⟨_, rfl⟩
  obtain ⟨zu, hzu⟩ := HZ1
  rw [hzu] at UN
  clear hn hWa hWb hzu
  generalize maxRes a b = mr at *
  generalize maxErr a b = me at *
  generalize upRes 1 a = ur at *
  generalize upErr 1 a = ue at *
  have hle := leastRes_len x E
  generalize leastRes x E = lr at *
  generalize errS x E = le at *
  go_enter Try.func10, Try.ntmps10
  go_wp2_with fail
  refine (awake_any _).mono ?_
  rintro e w1 ⟨rfl, hb1⟩
  have hb := below_step hb0 hb1
  have HX := hx.below hb1
  clear hb0 hb1 hx
  have c0 : w1.cell? ⟨w.heap.size, 0, none⟩ = some (.int .i64 x) := HX.cell (j := 0) rfl
  have c1 : w1.cell? ⟨w.heap.size, 1, none⟩ = some (.slice A n c) := HX.cell (j := 1) rfl
  have c2 : w1.cell? ⟨w.heap.size, 2, none⟩ = some (.slice C k f) := HX.cell (j := 2) rfl
  have c3 : w1.cell? ⟨w.heap.size, 3, none⟩ = some (.int .i64 lo) := HX.cell (j := 3) rfl
  have c4 : w1.cell? ⟨w.heap.size, 4, none⟩ = some (.int .i64 hi) := HX.cell (j := 4) rfl
  replace hA := hA.below hb
  replace hB := hB.below hb
  replace hD := hD.below hb
  have oe := OwnA.empty w1
  have hbe := (Below.refl w1.heap.size w1).alloc (Nat.le_refl _) (.cells #[] 57)
  have xe := hB.alloc (.cells #[] 57)
  go_wp2_with (first
    | (at_builtin; refine wpList_append_atoms rfl (.tmp 39) (.tmp 40) _ rfl Try.underlying23 w1.heap.size _ [] a rfl oe B nb b' rfl xe (by simp only [List.length_nil]; omega) w1 hbe hbe.size ?_; intro va w2 oa hba hza _ _; rw [List.nil_append] at oa)
    | (at_builtin; refine wpList_push_atom rfl (.tmp 41) (.tmp 43) _ rfl Try.underlying23 w1.heap.size _ a (77, 0) nb HNB.out rfl oa rfl (by omega) w1 hba hza ?_; intro gl cl w3 hL hgl hcl hcl2 gb _; clear c0 c1 c2 c3 c4; have oe2 := OwnA.empty w3; have hbe2 := (Below.refl w3.heap.size w3).alloc (Nat.le_refl _) (.cells #[] 57); have xe2 := (hD.below gb).alloc (.cells #[] 57))
    | (at_builtin; refine wpList_append_atoms rfl (.tmp 45) (.tmp 46) _ rfl Try.underlying23 w3.heap.size _ [] b rfl oe2 D nd d' rfl xe2 (by simp only [List.length_nil]; omega) w3 hbe2 hbe2.size ?_; intro vb w4 ob hbb hzb _ _; rw [List.nil_append] at ob)
    | (at_builtin; refine wpList_push_atom rfl (.tmp 47) (.tmp 49) _ rfl Try.underlying23 w3.heap.size _ b (78, 0) nd HND.out rfl ob rfl (by omega) w3 hbb hzb ?_; intro gk ck w5 hK hgk hck hck2 gb2 _; have c1 : (w5.alloc (.cells #[] 53)).cell? ⟨w.heap.size, 1, none⟩ = some (.slice A n c) := (((HX.below gb).below gb2).alloc _).cell (j := 1) rfl; have oe3 := OwnO.empty w5 w5.heap.size (Nat.le_refl _); have hbe3 := (Below.refl w5.heap.size w5).alloc (Nat.le_refl _) (.cells #[] 53); have xe3 := ((hA.below gb).below gb2).alloc (.cells #[] 53))
    | (at_builtin; refine wpList_append_orders rfl (.tmp 51) (.tmp 53) _ rfl Try.underlying37 w5.heap.size _ [] E rfl oe3 A n c rfl HN.out hs xe3 n (by simp only [List.length_nil]; omega) (by omega) w5 hbe3 hbe3.size ?_; intro vc cc w6 oc sc hbc hzc; rw [List.nil_append] at oc)
    | (at_builtin; refine wpList_push_order rfl (.tmp 54) (.tmp 56) _ rfl Try.underlying37 w5.heap.size _ E (79, 0, 0) n HN.out rfl oc rfl (by omega) w5 hbc hzc ?_; intro go co w7 hO hgo hco hco2 gb3 _))
  have hb7 := below_step (below_step (below_step hb gb) gb2) gb3
  replace HX := ((HX.below gb).below gb2).below gb3
  replace hA := ((hA.below gb).below gb2).below gb3
  replace hB := ((hB.below gb).below gb2).below gb3
  replace hD := ((hD.below gb).below gb2).below gb3
  replace hL := (hL.below gb2).below gb3
  replace hK := hK.below gb3
  clear hb gb gb2 gb3 oe hbe xe oe2 hbe2 xe2 oe3 hbe3 xe3 c1 oa hba hza ob hbb hzb oc sc hbc hzc hgl hgk hgo
  have hLp := hL.pre HNB.out
  have hKp := hK.pre HND.out
  have hOp := orders_pre hO
  have sl := cut_atoms gl nb (nb + 1) cl (by omega)
  have sk := cut_atoms gk nd (nd + 1) ck (by omega)
  have so := cut_orders go n (n + 1) co (by omega)
  have q77 := hL.last
  have q78 := hK.last
  have q79 := orders_last HN.out hO
  have c1 : w7.cell? ⟨w.heap.size, 1, none⟩ = some (.slice A n c) := HX.cell (j := 1) rfl
  refine region_begin (S := fun w' => w'.cell? ⟨w.heap.size, 1, none⟩ = some (.slice A n c)) (by kernel_rfl) (c1) (fun hHeld => ?_)
  refine region_take 0 ?_ rfl (by kernel_rfl) (by rfl) hHeld ?_ ?_
  rotate_left
  · intro w hSw
    (try dsimp only at hSw)
    go_simp
    try with_reducible rfl
  try simp only [Act.put, List.setIfInBounds_toArray, List.set_cons_zero, List.set_cons_succ]
  refine region_take 1 ?_ rfl (by kernel_rfl) (by rfl) hHeld ?_ ?_
  rotate_left
  · intro w hSw
    (try dsimp only at hSw)
    go_simp
    try with_reducible rfl
  try simp only [Act.put, List.setIfInBounds_toArray, List.set_cons_zero, List.set_cons_succ]
  refine region_take 2 ?_ rfl (by kernel_rfl) (by rfl) hHeld ?_ ?_
  rotate_left
  · intro w hSw
    (try dsimp only at hSw)
    go_simp
    try with_reducible rfl
  try simp only [Act.put, List.setIfInBounds_toArray, List.set_cons_zero, List.set_cons_succ]
  refine region_take 3 ?_ rfl (by kernel_rfl) (by rfl) hHeld ?_ ?_
  rotate_left
  · intro w hSw
    (try dsimp only at hSw)
    go_simp
    try with_reducible rfl
  try simp only [Act.put, List.setIfInBounds_toArray, List.set_cons_zero, List.set_cons_succ]
  refine region_take 4 ?_ rfl (by kernel_rfl) (by rfl) hHeld ?_ ?_
  rotate_left
  · intro w hSw
    (try dsimp only at hSw)
    go_simp
    try with_reducible rfl
  try simp only [Act.put, List.setIfInBounds_toArray, List.set_cons_zero, List.set_cons_succ]
  refine region_take 5 ?_ rfl (by kernel_rfl) (by rfl) hHeld ?_ ?_
  rotate_left
  · intro w hSw
    (try dsimp only at hSw)
    go_simp
    try with_reducible rfl
  try simp only [Act.put, List.setIfInBounds_toArray, List.set_cons_zero, List.set_cons_succ]
  refine region_take 6 ?_ rfl (by kernel_rfl) (by rfl) hHeld ?_ ?_
  rotate_left
  · intro w hSw
    (try dsimp only at hSw)
    go_simp
    try with_reducible rfl
  try simp only [Act.put, List.setIfInBounds_toArray, List.set_cons_zero, List.set_cons_succ]
  refine region_take 7 ?_ rfl (by kernel_rfl) (by rfl) hHeld ?_ ?_
  rotate_left
  · intro w hSw
    (try dsimp only at hSw)
    go_simp
    try with_reducible rfl
  try simp only [Act.put, List.setIfInBounds_toArray, List.set_cons_zero, List.set_cons_succ]
  refine region_call 8 rfl (by kernel_rfl) (by rfl) (fun K hK => ?_)
  go_simp
  (go_at_call 13; (with_reducible refine (MX.out w7.drew _ _ _ _ hLp.drew hKp.drew).mono ?_); rintro e w8 ⟨M, nm, cm, rfl, hM, _, g⟩)
  refine hK.out _ _ ((HX.drew.below g).cell (j := 1) rfl) (fun hHeld => ?_)
  clear hK K
  try simp only [Act.put, List.setIfInBounds_toArray, List.set_cons_zero, List.set_cons_succ]
  refine region_take 9 ?_ rfl (by kernel_rfl) (by rfl) hHeld ?_ ?_
  rotate_left
  · intro w hSw
    (try dsimp only at hSw)
    go_simp
    try with_reducible rfl
  try simp only [Act.put, List.setIfInBounds_toArray, List.set_cons_zero, List.set_cons_succ]
  refine region_take 10 ?_ rfl (by kernel_rfl) (by rfl) hHeld ?_ ?_
  rotate_left
  · intro w hSw
    (try dsimp only at hSw)
    go_simp
    try with_reducible rfl
  try simp only [Act.put, List.setIfInBounds_toArray, List.set_cons_zero, List.set_cons_succ]
  refine region_take 11 ?_ rfl (by kernel_rfl) (by rfl) hHeld ?_ ?_
  rotate_left
  · intro w hSw
    (try dsimp only at hSw)
    go_simp
    try with_reducible rfl
  try simp only [Act.put, List.setIfInBounds_toArray, List.set_cons_zero, List.set_cons_succ]
  refine region_take 12 ?_ rfl (by kernel_rfl) (by rfl) hHeld ?_ ?_
  rotate_left
  · intro w hSw
    (try dsimp only at hSw)
    go_simp
    try with_reducible rfl
  try simp only [Act.put, List.setIfInBounds_toArray, List.set_cons_zero, List.set_cons_succ]
  refine region_take 13 ?_ rfl (by kernel_rfl) (by rfl) hHeld ?_ ?_
  rotate_left
  · intro w hSw
    (try dsimp only at hSw)
    go_simp
    try with_reducible rfl
  try simp only [Act.put, List.setIfInBounds_toArray, List.set_cons_zero, List.set_cons_succ]
  refine region_done (by kernel_rfl) ?_
  clear hHeld c1
  have gg : Below w7.heap.size w7 w8 := below_step (below_drewN (Below.refl _ _) 1) g
  clear g
  have hb8 := below_step hb7 gg
  replace HX := HX.below gg
  replace hA := hA.below gg
  replace hB := hB.below gg
  replace hD := hD.below gg
  replace hLp := hLp.below gg
  replace hKp := hKp.below gg
  replace hOp := hOp.below gg
  have FL := Lib.hid fun w' (g : Below w8.heap.size w8 w') => hLp.below g
  have FK := Lib.hid fun w' (g : Below w8.heap.size w8 w') => hKp.below g
  have FO := Lib.hid fun w' (g : Below w8.heap.size w8 w') => hOp.below g
  have FM := Lib.hid fun w' (g : Below w8.heap.size w8 w') => hM.below g
  have FA := Lib.hid fun w' (g : Below w8.heap.size w8 w') => hA.below g
  have FB := Lib.hid fun w' (g : Below w8.heap.size w8 w') => hB.below g
  have FD := Lib.hid fun w' (g : Below w8.heap.size w8 w') => hD.below g
  have FW := Lib.hid fun w' (g : Below w8.heap.size w8 w') => below_step hb8 g
  have FX0 := Lib.hid fun w' (g : Below w8.heap.size w8 w') => (show w'.cell? ⟨w.heap.size, 0, none⟩ = some (.int .i64 x) from (HX.below g).cell (j := 0) rfl)
  have FX1 := Lib.hid fun w' (g : Below w8.heap.size w8 w') => (show w'.cell? ⟨w.heap.size, 1, none⟩ = some (.slice A n c) from (HX.below g).cell (j := 1) rfl)
  have p77 : w8.cell? ⟨gl, nb * 2, none⟩ = some (.int .i64 77) := (gg.cell (World.block_lt_of_cell? _ _ q77)).trans q77
  have p78 : w8.cell? ⟨gk, nd * 2, none⟩ = some (.int .i64 78) := (gg.cell (World.block_lt_of_cell? _ _ q78)).trans q78
  have p79 : w8.cell? ⟨go, n * 3, none⟩ = some (.int .i64 79) := (gg.cell (World.block_lt_of_cell? _ _ q79)).trans q79
  have F77 := Lib.hid fun w' (g : Below w8.heap.size w8 w') => (g.cell (World.block_lt_of_cell? _ _ p77)).trans p77
  have F78 := Lib.hid fun w' (g : Below w8.heap.size w8 w') => (g.cell (World.block_lt_of_cell? _ _ p78)).trans p78
  have F79 := Lib.hid fun w' (g : Below w8.heap.size w8 w') => (g.cell (World.block_lt_of_cell? _ _ p79)).trans p79
  have g8 := Below.refl w8.heap.size w8
  clear q77 q78 q79 p77 p78 p79 gg hb7 hb8 HX hA hB hD hLp hKp hOp hM hL hK hO
  go_wp2_with fail
  refine (UP.out _ _ _ (FL.out _ g8)).mono ?_
  rintro e w9 ⟨U, nu, cu, rfl, hu, hou, g⟩
  replace g8 := below_step g8 g
  have hun : nu ≤ 9223372036854775807 := Nat.le_trans hu.2.1.1 hu.2.1.2.1
  have hU : RowAt w9 w8.heap.size 57 2 U nu cu := ⟨_, by have h := hou; unfold OwnA at h; rw [hu.1] at h; exact h⟩
  clear hu hou g
  have c0 := FX0.out _ g8
  have c1 := FX1.out _ g8
  go_wp2_with fail
  have g8d : Below w8.heap.size w8 w9.drew := below_drewN g8 1
  refine region_begin (S := fun w' => w'.cell? ⟨w.heap.size, 0, none⟩ = some (.int .i64 x) ∧ w'.cell? ⟨w.heap.size, 1, none⟩ = some (.slice A n c)) (by kernel_rfl) (⟨c0, c1⟩) (fun hHeld => ?_)
  refine region_take 0 ?_ rfl (by kernel_rfl) (by rfl) hHeld ?_ ?_
  rotate_left
  · intro w hSw
    (try dsimp only at hSw)
    go_simp
    try with_reducible rfl
  try simp only [Act.put, List.setIfInBounds_toArray, List.set_cons_zero, List.set_cons_succ]
  refine region_take 1 ?_ rfl (by kernel_rfl) (by rfl) hHeld ?_ ?_
  rotate_left
  · intro w hSw
    (try dsimp only at hSw)
    go_simp
    try with_reducible rfl
  try simp only [Act.put, List.setIfInBounds_toArray, List.set_cons_zero, List.set_cons_succ]
  refine region_take 2 ?_ rfl (by kernel_rfl) (by rfl) hHeld ?_ ?_
  rotate_left
  · intro w hSw
    (try dsimp only at hSw)
    go_simp
    try with_reducible rfl
  try simp only [Act.put, List.setIfInBounds_toArray, List.set_cons_zero, List.set_cons_succ]
  refine region_take 3 ?_ rfl (by kernel_rfl) (by rfl) hHeld ?_ ?_
  rotate_left
  · intro w hSw
    (try dsimp only at hSw)
    go_simp
    try with_reducible rfl
  try simp only [Act.put, List.setIfInBounds_toArray, List.set_cons_zero, List.set_cons_succ]
  refine region_take 4 ?_ rfl (by kernel_rfl) (by rfl) hHeld ?_ ?_
  rotate_left
  · intro w hSw
    (try dsimp only at hSw)
    go_simp
    try with_reducible rfl
  try simp only [Act.put, List.setIfInBounds_toArray, List.set_cons_zero, List.set_cons_succ]
  refine region_take 5 ?_ rfl (by kernel_rfl) (by rfl) hHeld ?_ ?_
  rotate_left
  · intro w hSw
    (try dsimp only at hSw)
    go_simp
    try with_reducible rfl
  try simp only [Act.put, List.setIfInBounds_toArray, List.set_cons_zero, List.set_cons_succ]
  refine region_take 6 ?_ rfl (by kernel_rfl) (by rfl) hHeld ?_ ?_
  rotate_left
  · intro w hSw
    (try dsimp only at hSw)
    go_simp
    try with_reducible rfl
  try simp only [Act.put, List.setIfInBounds_toArray, List.set_cons_zero, List.set_cons_succ]
  refine region_take 7 ?_ rfl (by kernel_rfl) (by rfl) hHeld ?_ ?_
  rotate_left
  · intro w hSw
    (try dsimp only at hSw)
    go_simp
    try with_reducible rfl
  try simp only [Act.put, List.setIfInBounds_toArray, List.set_cons_zero, List.set_cons_succ]
  refine region_take 8 ?_ rfl (by kernel_rfl) (by rfl) hHeld ?_ ?_
  rotate_left
  · intro w hSw
    (try dsimp only at hSw)
    go_simp
    try with_reducible rfl
  try simp only [Act.put, List.setIfInBounds_toArray, List.set_cons_zero, List.set_cons_succ]
  refine region_take 9 ?_ rfl (by kernel_rfl) (by rfl) hHeld ?_ ?_
  rotate_left
  · intro w hSw
    (try dsimp only at hSw)
    go_simp
    try with_reducible rfl
  try simp only [Act.put, List.setIfInBounds_toArray, List.set_cons_zero, List.set_cons_succ]
  refine region_take 10 ?_ rfl (by kernel_rfl) (by rfl) hHeld ?_ ?_
  rotate_left
  · intro w hSw
    (try dsimp only at hSw)
    go_simp
    try with_reducible rfl
  try simp only [Act.put, List.setIfInBounds_toArray, List.set_cons_zero, List.set_cons_succ]
  refine region_take 11 ?_ rfl (by kernel_rfl) (by rfl) hHeld ?_ ?_
  rotate_left
  · intro w hSw
    (try dsimp only at hSw)
    go_simp
    try with_reducible rfl
  try simp only [Act.put, List.setIfInBounds_toArray, List.set_cons_zero, List.set_cons_succ]
  refine region_take 12 ?_ rfl (by kernel_rfl) (by rfl) hHeld ?_ ?_
  rotate_left
  · intro w hSw
    (try dsimp only at hSw)
    go_simp
    try with_reducible rfl
  try simp only [Act.put, List.setIfInBounds_toArray, List.set_cons_zero, List.set_cons_succ]
  refine region_take 13 ?_ rfl (by kernel_rfl) (by rfl) hHeld ?_ ?_
  rotate_left
  · intro w hSw
    (try dsimp only at hSw)
    go_simp
    try with_reducible rfl
  try simp only [Act.put, List.setIfInBounds_toArray, List.set_cons_zero, List.set_cons_succ]
  refine region_take 14 ?_ rfl (by kernel_rfl) (by rfl) hHeld ?_ ?_
  rotate_left
  · intro w hSw
    (try dsimp only at hSw)
    go_simp
    try with_reducible rfl
  try simp only [Act.put, List.setIfInBounds_toArray, List.set_cons_zero, List.set_cons_succ]
  refine region_call 15 rfl (by kernel_rfl) (by rfl) (fun K hK => ?_)
  go_simp
  (go_at_call 30; (with_reducible refine (UN.out w9.drew _ _ _ _ _ _ (FO.out _ g8d) (FL.out _ g8d) (FK.out _ g8d)).mono ?_); rintro e w10 ⟨rfl, g⟩)
  refine hK.out _ _ (⟨FX0.out _ (below_step g8d g), FX1.out _ (below_step g8d g)⟩) (fun hHeld => ?_)
  clear hK K
  try simp only [Act.put, List.setIfInBounds_toArray, List.set_cons_zero, List.set_cons_succ]
  refine region_done (by kernel_rfl) ?_
  clear hHeld c0 c1
  have gg : Below w9.heap.size w9 w10 := below_step (below_drewN (Below.refl _ _) 1) g
  clear g g8d
  replace g8 := below_step g8 gg
  replace hU := hU.below gg
  clear gg
  have c0 := FX0.out _ g8
  have c1 := FX1.out _ g8
  go_wp2_with fail
  have hz10 := g8.size
  have g8d : Below w8.heap.size w8 w10.drew := below_drewN g8 1
  refine region_begin (S := fun w' => w'.cell? ⟨w.heap.size, 0, none⟩ = some (.int .i64 x) ∧ w'.cell? ⟨w.heap.size, 1, none⟩ = some (.slice A n c)) (by kernel_rfl) (⟨c0, c1⟩) (fun hHeld => ?_)
  refine region_take 0 ?_ rfl (by kernel_rfl) (by rfl) hHeld ?_ ?_
  rotate_left
  · intro w hSw
    (try dsimp only at hSw)
    go_simp
    try with_reducible rfl
  try simp only [Act.put, List.setIfInBounds_toArray, List.set_cons_zero, List.set_cons_succ]
  refine region_take 1 ?_ rfl (by kernel_rfl) (by rfl) hHeld ?_ ?_
  rotate_left
  · intro w hSw
    (try dsimp only at hSw)
    go_simp
    try with_reducible rfl
  try simp only [Act.put, List.setIfInBounds_toArray, List.set_cons_zero, List.set_cons_succ]
  refine region_take 2 ?_ rfl (by kernel_rfl) (by rfl) hHeld ?_ ?_
  rotate_left
  · intro w hSw
    (try dsimp only at hSw)
    go_simp
    try with_reducible rfl
  try simp only [Act.put, List.setIfInBounds_toArray, List.set_cons_zero, List.set_cons_succ]
  refine region_take 3 ?_ rfl (by kernel_rfl) (by rfl) hHeld ?_ ?_
  rotate_left
  · intro w hSw
    (try dsimp only at hSw)
    go_simp
    try with_reducible rfl
  try simp only [Act.put, List.setIfInBounds_toArray, List.set_cons_zero, List.set_cons_succ]
  refine region_take 4 ?_ rfl (by kernel_rfl) (by rfl) hHeld ?_ ?_
  rotate_left
  · intro w hSw
    (try dsimp only at hSw)
    go_simp
    try with_reducible rfl
  try simp only [Act.put, List.setIfInBounds_toArray, List.set_cons_zero, List.set_cons_succ]
  refine region_take 5 ?_ rfl (by kernel_rfl) (by rfl) hHeld ?_ ?_
  rotate_left
  · intro w hSw
    (try dsimp only at hSw)
    go_simp
    try with_reducible rfl
  try simp only [Act.put, List.setIfInBounds_toArray, List.set_cons_zero, List.set_cons_succ]
  refine region_take 6 ?_ rfl (by kernel_rfl) (by rfl) hHeld ?_ ?_
  rotate_left
  · intro w hSw
    (try dsimp only at hSw)
    go_simp
    try with_reducible rfl
  try simp only [Act.put, List.setIfInBounds_toArray, List.set_cons_zero, List.set_cons_succ]
  refine region_call 7 rfl (by kernel_rfl) (by rfl) (fun K hK => ?_)
  go_simp
  (go_at_call 22; (with_reducible refine (LE.out w10.drew _ _ (FO.out _ g8d)).mono ?_); rintro e w11 ⟨V, nv, cv, rfl, hvn, hov, g⟩)
  refine hK.out _ _ (⟨FX0.out _ (below_step g8d g), FX1.out _ (below_step g8d g)⟩) (fun hHeld => ?_)
  clear hK K
  try simp only [Act.put, List.setIfInBounds_toArray, List.set_cons_zero, List.set_cons_succ]
  refine region_take 8 ?_ rfl (by kernel_rfl) (by rfl) hHeld ?_ ?_
  rotate_left
  · intro w hSw
    (try dsimp only at hSw)
    go_simp
    try with_reducible rfl
  try simp only [Act.put, List.setIfInBounds_toArray, List.set_cons_zero, List.set_cons_succ]
  refine region_take 9 ?_ rfl (by kernel_rfl) (by rfl) hHeld ?_ ?_
  rotate_left
  · intro w hSw
    (try dsimp only at hSw)
    go_simp
    try with_reducible rfl
  try simp only [Act.put, List.setIfInBounds_toArray, List.set_cons_zero, List.set_cons_succ]
  refine region_take 10 ?_ rfl (by kernel_rfl) (by rfl) hHeld ?_ ?_
  rotate_left
  · intro w hSw
    (try dsimp only at hSw)
    go_simp
    try with_reducible rfl
  try simp only [Act.put, List.setIfInBounds_toArray, List.set_cons_zero, List.set_cons_succ]
  refine region_take 11 ?_ rfl (by kernel_rfl) (by rfl) hHeld ?_ ?_
  rotate_left
  · intro w hSw
    (try dsimp only at hSw)
    go_simp
    try with_reducible rfl
  try simp only [Act.put, List.setIfInBounds_toArray, List.set_cons_zero, List.set_cons_succ]
  refine region_take 12 ?_ rfl (by kernel_rfl) (by rfl) hHeld ?_ ?_
  rotate_left
  · intro w hSw
    (try dsimp only at hSw)
    go_simp
    try with_reducible rfl
  try simp only [Act.put, List.setIfInBounds_toArray, List.set_cons_zero, List.set_cons_succ]
  refine region_done (by kernel_rfl) ?_
  clear hHeld c0 c1
  have gg : Below w10.heap.size w10 w11 := below_step (below_drewN (Below.refl _ _) 1) g
  clear g g8d
  replace g8 := below_step g8 gg
  have HUB := Lib.hid fun (h : 0 < nu) => hU.block h
  replace hU := hU.below gg
  have hV : RowAt w11 w10.heap.size 3 1 V nv cv := ⟨_, hov⟩
  clear gg hov
  go_wp2_with fail
  go_loopw [16] (fun i wr => ∃ k : Nat, i = .int .i64 k ∧ k ≤ nu ∧ RowAt wr w8.heap.size 57 2 U nu cu ∧ RowAt wr w10.heap.size 3 1 V nv cv ∧ Below w8.heap.size w8 wr) (fun i _ => nu - (intOf i).toNat)
  case atStart => exact ⟨0, rfl, Nat.zero_le _, hU, hV, g8⟩
  case round =>
    clear hU hV g8
    obtain ⟨k, rfl, hk, hU, hV, g8⟩ := hrel
    by_cases hlt : k < nu
    · obtain ⟨g, rfl, hg, hg2⟩ := HUB.out (by omega)
      obtain ⟨u0, s0, f0⟩ := hU.cell (j := k * 2) (by omega)
      obtain ⟨u1, s1, f1⟩ := hU.cell (j := k * 2 + 1) (by omega)
      go_wp2_with fail
      go_roundw
      case rel => exact ⟨k + 1, by go_num, by omega, (hU.set_ _ _).set_ _ _, (hV.off hg2 _ _).off hg2 _ _, (g8.setCell (by show w8.heap.size ≤ g; omega) _).setCell (by show w8.heap.size ≤ g; omega) _⟩
      case measure => simp [intOf]; omega
    · clear hU
      go_wp2_with fail
      clear hk hlt
      obtain ⟨wo, rfl⟩ : ∃ wo : World, wo = wr := ⟨_, rfl⟩
      go_loopw [17] (fun i wr => ∃ k : Nat, i = .int .i64 k ∧ k ≤ nv ∧ RowAt wr w10.heap.size 3 1 V nv cv ∧ Below w8.heap.size w8 wr) (fun i _ => nv - (intOf i).toNat)
      case atStart => exact ⟨0, rfl, Nat.zero_le _, hV, g8⟩
      case round =>
        clear hV g8
        obtain ⟨k, rfl, hk, hV, g8⟩ := hrel
        by_cases hlt : k < nv
        · obtain ⟨g, rfl, hg, _⟩ := hV.block (by omega)
          obtain ⟨u0, s0, f0⟩ := hV.cell (j := k) (by omega)
          go_wp2_with fail
          go_roundw
          case rel => exact ⟨k + 1, by go_num, by omega, hV.set_ _ _, g8.setCell (by show w8.heap.size ≤ g; omega) _⟩
          case measure => simp [intOf]; omega
        · clear hV
          go_wp2_with fail
          clear hk hlt
          refine (RMX.out _ (FB.out _ g8) (FD.out _ g8)).mono ?_
          rintro e w12 ⟨N, nn, cn, rfl, hN, _, g⟩
          replace g8 := below_step g8 g
          clear g
          go_wp2_with fail
          refine (same_yes M N nm nn cm cn mr _ (FM.out _ g8) hN).mono ?_
          rintro e w13 ⟨rfl, g⟩
          replace g8 := below_step g8 g
          clear g hN
          go_wp2_with fail
          refine (same_yes (some ⟨gl, 0, none⟩) B nb nb cl b' a _ (FL.out _ g8) (FB.out _ g8)).mono ?_
          rintro e w14 ⟨rfl, g⟩
          replace g8 := below_step g8 g
          clear g
          go_wp2_with fail
          refine (same_yes (some ⟨gk, 0, none⟩) D nd nd ck d' b _ (FK.out _ g8) (FD.out _ g8)).mono ?_
          rintro e w15 ⟨rfl, g⟩
          replace g8 := below_step g8 g
          clear g
          have r77 := F77.out _ g8
          have r78 := F78.out _ g8
          have r79 := F79.out _ g8
          have c1 := FX1.out _ g8
          go_wp2_with fail
          clear r77 r78 r79 c1
          go_loopw [20] (fun i wr => ∃ k : Nat, i = .int .i64 k ∧ k ≤ n ∧ Below w8.heap.size w8 wr) (fun i _ => n - (intOf i).toNat)
          case atStart => exact ⟨0, rfl, Nat.zero_le _, g8⟩
          case round =>
            clear g8
            obtain ⟨k, rfl, hk, g8⟩ := hrel
            have c1 := FX1.out _ g8
            by_cases hlt : k < n
            · have hkl : k < E.length := by rw [HN.out]; exact hlt
              have o0 : wr.cell? ⟨go, 0 + k * 3, none⟩ = some (.int .i64 E[k].1) := (FO.out _ g8).cell (ordsV_get0 hkl)
              have o1 : wr.cell? ⟨go, 0 + (k * 3 + 1), none⟩ = some (.int .i64 E[k].2.1) := (FO.out _ g8).cell (ordsV_get1 hkl)
              have o2 : wr.cell? ⟨go, 0 + (k * 3 + 2), none⟩ = some (.int .i64 E[k].2.2) := (FO.out _ g8).cell (ordsV_get2 hkl)
              rw [Nat.zero_add] at o0 o1 o2
              obtain ⟨bA, oA, rfl, _, hc⟩ := (FA.out _ g8).at_ (by rw [ordsV_len]; omega)
              have s0 := hc (k * 3) _ (ordsV_get0 hkl)
              have s1 := hc (k * 3 + 1) _ (ordsV_get1 hkl)
              have s2 := hc (k * 3 + 2) _ (ordsV_get2 hkl)
              rw [← Nat.add_assoc] at s1 s2
              generalize E[k] = z at *
              obtain ⟨z1, z2, z3⟩ := z
              simp only at o0 o1 o2 s0 s1 s2
              clear hc hkl
              have hk1 : k < n + 1 := by omega
              go_wp2_with fail
              go_quiet (fail)
              go_wp2_with fail
              go_roundw
              case rel => exact ⟨k + 1, by go_num, by omega, below_drewN g8 _⟩
              case measure => simp [intOf]; omega
            · clear hz10
              have c0 := FX0.out _ g8
              obtain ⟨w16, rfl⟩ : ∃ z : World, z = wr := ⟨_, rfl⟩
              go_wp2_with fail
              have g8d : Below w8.heap.size w8 w16.drew := below_drewN g8 1
              refine region_begin (S := fun w' => w'.cell? ⟨w.heap.size, 0, none⟩ = some (.int .i64 x) ∧ w'.cell? ⟨w.heap.size, 1, none⟩ = some (.slice A n c)) (by kernel_rfl) (⟨c0, c1⟩) (fun hHeld => ?_)
              refine region_take 0 ?_ rfl (by kernel_rfl) (by rfl) hHeld ?_ ?_
              rotate_left
              · intro w hSw
                (try dsimp only at hSw)
                go_simp
                try with_reducible rfl
              try simp only [Act.put, List.setIfInBounds_toArray, List.set_cons_zero, List.set_cons_succ]
              refine region_take 1 ?_ rfl (by kernel_rfl) (by rfl) hHeld ?_ ?_
              rotate_left
              · intro w hSw
                (try dsimp only at hSw)
                go_simp
                try with_reducible rfl
              try simp only [Act.put, List.setIfInBounds_toArray, List.set_cons_zero, List.set_cons_succ]
              refine region_take 2 ?_ rfl (by kernel_rfl) (by rfl) hHeld ?_ ?_
              rotate_left
              · intro w hSw
                (try dsimp only at hSw)
                go_simp
                try with_reducible rfl
              try simp only [Act.put, List.setIfInBounds_toArray, List.set_cons_zero, List.set_cons_succ]
              refine region_take 3 ?_ rfl (by kernel_rfl) (by rfl) hHeld ?_ ?_
              rotate_left
              · intro w hSw
                (try dsimp only at hSw)
                go_simp
                try with_reducible rfl
              try simp only [Act.put, List.setIfInBounds_toArray, List.set_cons_zero, List.set_cons_succ]
              refine region_take 4 ?_ rfl (by kernel_rfl) (by rfl) hHeld ?_ ?_
              rotate_left
              · intro w hSw
                (try dsimp only at hSw)
                go_simp
                try with_reducible rfl
              try simp only [Act.put, List.setIfInBounds_toArray, List.set_cons_zero, List.set_cons_succ]
              refine region_take 5 ?_ rfl (by kernel_rfl) (by rfl) hHeld ?_ ?_
              rotate_left
              · intro w hSw
                (try dsimp only at hSw)
                go_simp
                try with_reducible rfl
              try simp only [Act.put, List.setIfInBounds_toArray, List.set_cons_zero, List.set_cons_succ]
              refine region_take 6 ?_ rfl (by kernel_rfl) (by rfl) hHeld ?_ ?_
              rotate_left
              · intro w hSw
                (try dsimp only at hSw)
                go_simp
                try with_reducible rfl
              try simp only [Act.put, List.setIfInBounds_toArray, List.set_cons_zero, List.set_cons_succ]
              refine region_call 7 rfl (by kernel_rfl) (by rfl) (fun K hK => ?_)
              go_simp
              (go_at_call 22; (with_reducible refine (LE.out w16.drew _ _ (FO.out _ g8d)).mono ?_); rintro e w17 ⟨Y, ny, cy, rfl, hyn, hoy, g⟩)
              refine hK.out _ _ (⟨FX0.out _ (below_step g8d g), FX1.out _ (below_step g8d g)⟩) (fun hHeld => ?_)
              clear hK K
              try simp only [Act.put, List.setIfInBounds_toArray, List.set_cons_zero, List.set_cons_succ]
              refine region_take 8 ?_ rfl (by kernel_rfl) (by rfl) hHeld ?_ ?_
              rotate_left
              · intro w hSw
                (try dsimp only at hSw)
                go_simp
                try with_reducible rfl
              try simp only [Act.put, List.setIfInBounds_toArray, List.set_cons_zero, List.set_cons_succ]
              refine region_take 9 ?_ rfl (by kernel_rfl) (by rfl) hHeld ?_ ?_
              rotate_left
              · intro w hSw
                (try dsimp only at hSw)
                go_simp
                try with_reducible rfl
              try simp only [Act.put, List.setIfInBounds_toArray, List.set_cons_zero, List.set_cons_succ]
              refine region_take 10 ?_ rfl (by kernel_rfl) (by rfl) hHeld ?_ ?_
              rotate_left
              · intro w hSw
                (try dsimp only at hSw)
                go_simp
                try with_reducible rfl
              try simp only [Act.put, List.setIfInBounds_toArray, List.set_cons_zero, List.set_cons_succ]
              refine region_take 11 ?_ rfl (by kernel_rfl) (by rfl) hHeld ?_ ?_
              rotate_left
              · intro w hSw
                (try dsimp only at hSw)
                go_simp
                try with_reducible rfl
              try simp only [Act.put, List.setIfInBounds_toArray, List.set_cons_zero, List.set_cons_succ]
              refine region_take 12 ?_ rfl (by kernel_rfl) (by rfl) hHeld ?_ ?_
              rotate_left
              · intro w hSw
                (try dsimp only at hSw)
                go_simp
                try with_reducible rfl
              try simp only [Act.put, List.setIfInBounds_toArray, List.set_cons_zero, List.set_cons_succ]
              refine region_done (by kernel_rfl) ?_
              clear hHeld c0 c1
              have gg : Below w16.heap.size w16 w17 := below_step (below_drewN (Below.refl _ _) 1) g
              clear g g8d
              replace g8 := below_step g8 gg
              have hY := own_holds hoy
              have hYl : lr.length = ny := by have h := hoy.1; rw [intsV_len] at h; omega
              clear gg hoy
              have c0 := FX0.out _ g8
              have c1 := FX1.out _ g8
              go_wp2_with fail
              refine (RLE.out _ _ _ (FA.out _ g8)).mono ?_
              rintro e w18 ⟨Z, nz, cz, rfl, hZl, hZ, g⟩
              replace g8 := below_step g8 g
              replace hY := hY.below g
              clear g c0 c1
              have HYL := Lib.hid hYl
              have HZL := Lib.hid hZl
              clear hYl hZl
              go_wp2_with fail
              refine (sameI_yes Y Z ny nz cy cz lr _ HYL.out HZL.out hY hZ (by omega)).mono ?_
              rintro e w19 ⟨rfl, g⟩
              replace g8 := below_step g8 g
              have hb := FW.out _ g8
              go_wp2_with fail
              go_ret
              exact ⟨rfl, hb⟩
theorem lkeeps_any (A B C D : Option Addr) (n c k f nb b' nd d' : Nat) (x lo hi : Int) (E : List Ord3) (a b : List Atom2) (w : World) (hr : nb + nd ≤ 9223372036854775807) (hn : E.length = n) (hs : Slice A n c) (hA : Holds w A (ordsV E)) (hB : LevelAt w B nb b' a) (hWa : WideA a) (hD : LevelAt w D nd d' b) (hWb : WideA b) :
    Calls Try.prog 10 #[.slice B nb b', .slice D nd d', ordAgg x A C n c k f lo hi] w fun e w' => e = .returned (.bool true) ∧ Below w.heap.size w w' := by
  by_cases h1 : 50 < nb + nd
  · exact lkeeps_long0 A B C D n c k f nb b' nd d' x lo hi w hr h1
  · by_cases h2 : 100 < n
    · exact lkeeps_long1 A B C D n c k f nb b' nd d' x lo hi w (by omega) h2
    · exact lkeeps_some A B C D n c k f nb b' nd d' x lo hi E a b w (by omega) (by omega) hn hs hA hB hWa hD hWb
end Go.Proofs.Ytdpannjnhhjicaa
