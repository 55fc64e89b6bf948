/- Layer 8: the ten cases of play (gen_kd.py wrote it). Conditions: those that each theorem names. -/
import Derived.Test.YtmhoebbdapjpeaaDoorKc
namespace Go.Proofs.YtmhoebbdapjpeaaDoor
open Go.RowKit Go.Maps
set_option linter.all false

theorem calls_at {P : Program} {f : FuncId} {args : Array Value} {w : World} {Q : Ending → World → Prop} (S : World → Prop) (hS : S w) (h : ∀ W, S W → Calls P f args W Q) : Calls P f args w Q := h w hS
theorem PS.callCells {N h c B : Nat} {kd : Nat} {i n : Int} {k : List UInt8} {vk : Int} {vn : Nat} {vt : List UInt8} {vr : Int} {iv : Value} {w0 w : World} (H : PS N h c B (callC kd i n k vk vn vt vr iv) w0 w) :
    w.cell? ⟨B, 0, none⟩ = some (.int .u8 (kd : Int)) ∧ w.cell? ⟨B, 1, none⟩ = some (.int .i64 i) ∧ w.cell? ⟨B, 2, none⟩ = some (.int .i64 n) ∧ w.cell? ⟨B, 3, none⟩ = some (.string (bs k)) ∧ w.cell? ⟨B, 4, none⟩ = some (.int .i64 vk) ∧ w.cell? ⟨B, 5, none⟩ = some (.float .f64 vn) ∧ w.cell? ⟨B, 6, none⟩ = some (.string (bs vt)) ∧ w.cell? ⟨B, 7, none⟩ = some (.int .i64 vr) ∧ w.cell? ⟨B, 8, none⟩ = some iv :=
  ⟨blk_cell H.c0 0 _ rfl, blk_cell H.c0 1 _ rfl, blk_cell H.c0 2 _ rfl, blk_cell H.c0 3 _ rfl, blk_cell H.c0 4 _ rfl, blk_cell H.c0 5 _ rfl, blk_cell H.c0 6 _ rfl, blk_cell H.c0 7 _ rfl, blk_cell H.c0 8 _ rfl⟩
set_option maxRecDepth 100000 in
set_option maxHeartbeats 8000000 in
theorem play_0 {N h c N' : Nat} {A : Hp} {L : List Nat} {w0 w : World} (H : Hv N h A L w0 w) (K : A.Ok c) (kd : Nat) (i n : Int) (k : List UInt8) (hk : k.length ≤ 200) (vk : Int) (vn : Nat) (vt : List UInt8) (ht : vt.length ≤ maxLen) (vr : Int) (l : List V) (iv : Value) (hl : l.length ≤ 60)
    (hR : ∀ W, Below N w0 W → RowAt W iv l.length (itemCells l)) (hvb : l ≠ [] → ∀ x ∈ iv.ownBlock.toList, x < N) (hts : ∀ u ∈ l, u.t.length ≤ maxLen) (hT : ∀ W, Below N w0 W → Tb N' W) (hz : (kd : Int) % 10 = 0) :
    Calls Tryd.prog 15 #[.pointer (some ⟨h, 0, none⟩), .agg (callC kd i n k vk vn vt vr iv)] w fun e w' => (∃ r, e = .returned r) ∧ Pl N h c [] w0 w w' := by
  have hst := store_float
  have HP0 := Lib.hid (PS.start H K (callC kd i n k vk vn vt vr iv))
  have HKL := Lib.hid hk
  have HTL := Lib.hid ht
  have HLN := Lib.hid hl
  have HR := Lib.hid hR
  have HVB := Lib.hid hvb
  have HTS := Lib.hid hts
  have HTB := Lib.hid hT
  clear hk ht hl hR hvb hts hT H K
  go_enter Tryd.func15, Tryd.ntmps15
  go_wp2_with fail
  refine calls_at (PS N h c w.heap.size (callC kd i n k vk vn vt vr iv) w0) ?_ ?_
  · repeat' refine PS.set2 ?_ _ _ ?_
    all_goals first | exact HP0.out | exact ⟨_, rfl⟩ | exact ⟨_, _, _, rfl⟩
  intro W0 hp
  obtain ⟨A1, K1, hv⟩ := hp.hp
  refine (plain_p hv K1 _).mono ?_
  rintro e w1 ⟨⟨a, b, rfl⟩, hn⟩
  have HP1 := Lib.hid (hp.call hn)
  clear hp hn hv K1
  obtain ⟨⟨_, _, _, _, _, _, _, _, _, _, _, x0, x1, x2, x3, x4, x5, x6, x7, x8, x9, xa⟩, xf⟩ := HP1.out.r1.cells
  obtain ⟨⟨_, _, _, _, _, _, _, _, _, _, _, _, _, _, _, y0, y1, y2, y3, y4, y5, y6, y7, y8, y9, ya⟩, yf⟩ := HP1.out.r2.cells
  go_wp2
  refine play_done (C := callC kd i n k vk vn vt vr iv) ?_ _ _ _ _ _ _ _ _ _ _ _ _ ?_
  · repeat' refine PS.set2 ?_ _ _ ?_
    all_goals first | exact HP1.out | exact ⟨_, rfl⟩ | exact ⟨_, _, _, rfl⟩
  · rfl
set_option maxRecDepth 100000 in
set_option maxHeartbeats 8000000 in
theorem play_1 {N h c N' : Nat} {A : Hp} {L : List Nat} {w0 w : World} (H : Hv N h A L w0 w) (K : A.Ok c) (kd : Nat) (i n : Int) (k : List UInt8) (hk : k.length ≤ 200) (vk : Int) (vn : Nat) (vt : List UInt8) (ht : vt.length ≤ maxLen) (vr : Int) (l : List V) (iv : Value) (hl : l.length ≤ 60)
    (hR : ∀ W, Below N w0 W → RowAt W iv l.length (itemCells l)) (hvb : l ≠ [] → ∀ x ∈ iv.ownBlock.toList, x < N) (hts : ∀ u ∈ l, u.t.length ≤ maxLen) (hT : ∀ W, Below N w0 W → Tb N' W) (hz : (kd : Int) % 10 = 1) :
    Calls Tryd.prog 15 #[.pointer (some ⟨h, 0, none⟩), .agg (callC kd i n k vk vn vt vr iv)] w fun e w' => (∃ r, e = .returned r) ∧ Pl N h c [] w0 w w' := by
  have hst := store_float
  have HP0 := Lib.hid (PS.start H K (callC kd i n k vk vn vt vr iv))
  have HKL := Lib.hid hk
  have HTL := Lib.hid ht
  have HLN := Lib.hid hl
  have HR := Lib.hid hR
  have HVB := Lib.hid hvb
  have HTS := Lib.hid hts
  have HTB := Lib.hid hT
  clear hk ht hl hR hvb hts hT H K
  go_enter Tryd.func15, Tryd.ntmps15
  go_wp2_with fail
  refine calls_at (PS N h c w.heap.size (callC kd i n k vk vn vt vr iv) w0) ?_ ?_
  · repeat' refine PS.set2 ?_ _ _ ?_
    all_goals first | exact HP0.out | exact ⟨_, rfl⟩ | exact ⟨_, _, _, rfl⟩
  intro W0 hp
  obtain ⟨A1, K1, hv⟩ := hp.hp
  refine (array_p hv K1 l iv (by have := HLN.out; omega) (HR.out _ hv.loc.1) (fun hne x hx => Or.inr (HVB.out hne x hx)) HTS.out).mono ?_
  rintro e w1 ⟨⟨a, b, rfl⟩, hn⟩
  have HP1 := Lib.hid (hp.call hn)
  clear hp hn hv K1
  obtain ⟨⟨_, _, _, _, _, _, _, _, _, _, _, x0, x1, x2, x3, x4, x5, x6, x7, x8, x9, xa⟩, xf⟩ := HP1.out.r1.cells
  obtain ⟨⟨_, _, _, _, _, _, _, _, _, _, _, _, _, _, _, y0, y1, y2, y3, y4, y5, y6, y7, y8, y9, ya⟩, yf⟩ := HP1.out.r2.cells
  go_wp2
  refine play_done (C := callC kd i n k vk vn vt vr iv) ?_ _ _ _ _ _ _ _ _ _ _ _ _ ?_
  · repeat' refine PS.set2 ?_ _ _ ?_
    all_goals first | exact HP1.out | exact ⟨_, rfl⟩ | exact ⟨_, _, _, rfl⟩
  · rfl
set_option maxRecDepth 100000 in
set_option maxHeartbeats 8000000 in
theorem play_2 {N h c N' : Nat} {A : Hp} {L : List Nat} {w0 w : World} (H : Hv N h A L w0 w) (K : A.Ok c) (kd : Nat) (i n : Int) (k : List UInt8) (hk : k.length ≤ 200) (vk : Int) (vn : Nat) (vt : List UInt8) (ht : vt.length ≤ maxLen) (vr : Int) (l : List V) (iv : Value) (hl : l.length ≤ 60)
    (hR : ∀ W, Below N w0 W → RowAt W iv l.length (itemCells l)) (hvb : l ≠ [] → ∀ x ∈ iv.ownBlock.toList, x < N) (hts : ∀ u ∈ l, u.t.length ≤ maxLen) (hT : ∀ W, Below N w0 W → Tb N' W) (hz : (kd : Int) % 10 = 2) :
    Calls Tryd.prog 15 #[.pointer (some ⟨h, 0, none⟩), .agg (callC kd i n k vk vn vt vr iv)] w fun e w' => (∃ r, e = .returned r) ∧ Pl N h c [] w0 w w' := by
  have hst := store_float
  have HP0 := Lib.hid (PS.start H K (callC kd i n k vk vn vt vr iv))
  have HKL := Lib.hid hk
  have HTL := Lib.hid ht
  have HLN := Lib.hid hl
  have HR := Lib.hid hR
  have HVB := Lib.hid hvb
  have HTS := Lib.hid hts
  have HTB := Lib.hid hT
  clear hk ht hl hR hvb hts hT H K
  go_enter Tryd.func15, Tryd.ntmps15
  go_wp2_with fail
  refine calls_at (PS N h c w.heap.size (callC kd i n k vk vn vt vr iv) w0) ?_ ?_
  · repeat' refine PS.set2 ?_ _ _ ?_
    all_goals first | exact HP0.out | exact ⟨_, rfl⟩ | exact ⟨_, _, _, rfl⟩
  intro W0 hp
  obtain ⟨A1, K1, hv⟩ := hp.hp
  refine (function_p hv K1 _ _ _).mono ?_
  rintro e w1 ⟨⟨a, b, rfl⟩, hn⟩
  have HP1 := Lib.hid (hp.call hn)
  clear hp hn hv K1
  obtain ⟨⟨_, _, _, _, _, _, _, _, _, _, _, x0, x1, x2, x3, x4, x5, x6, x7, x8, x9, xa⟩, xf⟩ := HP1.out.r1.cells
  obtain ⟨⟨_, _, _, _, _, _, _, _, _, _, _, _, _, _, _, y0, y1, y2, y3, y4, y5, y6, y7, y8, y9, ya⟩, yf⟩ := HP1.out.r2.cells
  go_wp2
  refine play_done (C := callC kd i n k vk vn vt vr iv) ?_ _ _ _ _ _ _ _ _ _ _ _ _ ?_
  · repeat' refine PS.set2 ?_ _ _ ?_
    all_goals first | exact HP1.out | exact ⟨_, rfl⟩ | exact ⟨_, _, _, rfl⟩
  · rfl
set_option maxRecDepth 100000 in
set_option maxHeartbeats 8000000 in
theorem play_3 {N h c N' : Nat} {A : Hp} {L : List Nat} {w0 w : World} (H : Hv N h A L w0 w) (K : A.Ok c) (kd : Nat) (i n : Int) (k : List UInt8) (hk : k.length ≤ 200) (vk : Int) (vn : Nat) (vt : List UInt8) (ht : vt.length ≤ maxLen) (vr : Int) (l : List V) (iv : Value) (hl : l.length ≤ 60)
    (hR : ∀ W, Below N w0 W → RowAt W iv l.length (itemCells l)) (hvb : l ≠ [] → ∀ x ∈ iv.ownBlock.toList, x < N) (hts : ∀ u ∈ l, u.t.length ≤ maxLen) (hT : ∀ W, Below N w0 W → Tb N' W) (hz : (kd : Int) % 10 = 3) :
    Calls Tryd.prog 15 #[.pointer (some ⟨h, 0, none⟩), .agg (callC kd i n k vk vn vt vr iv)] w fun e w' => (∃ r, e = .returned r) ∧ Pl N h c [] w0 w w' := by
  have hst := store_float
  have HP0 := Lib.hid (PS.start H K (callC kd i n k vk vn vt vr iv))
  have HKL := Lib.hid hk
  have HTL := Lib.hid ht
  have HLN := Lib.hid hl
  have HR := Lib.hid hR
  have HVB := Lib.hid hvb
  have HTS := Lib.hid hts
  have HTB := Lib.hid hT
  clear hk ht hl hR hvb hts hT H K
  go_enter Tryd.func15, Tryd.ntmps15
  go_wp2_with fail
  refine calls_at (PS N h c w.heap.size (callC kd i n k vk vn vt vr iv) w0) ?_ ?_
  · repeat' refine PS.set2 ?_ _ _ ?_
    all_goals first | exact HP0.out | exact ⟨_, rfl⟩ | exact ⟨_, _, _, rfl⟩
  intro W0 hp
  obtain ⟨A1, K1, hv⟩ := hp.hp
  refine (put_p hv K1 _ k (by have := HKL.out; omega) _ _ vt HTL.out _).mono ?_
  rintro e w1 ⟨⟨a, rfl⟩, hn⟩
  have HP1 := Lib.hid (hp.call hn)
  clear hp hn hv K1
  obtain ⟨⟨_, _, _, _, _, _, _, _, _, _, _, x0, x1, x2, x3, x4, x5, x6, x7, x8, x9, xa⟩, xf⟩ := HP1.out.r1.cells
  obtain ⟨⟨_, _, _, _, _, _, _, _, _, _, _, _, _, _, _, y0, y1, y2, y3, y4, y5, y6, y7, y8, y9, ya⟩, yf⟩ := HP1.out.r2.cells
  go_wp2
  refine play_done (C := callC kd i n k vk vn vt vr iv) ?_ _ _ _ _ _ _ _ _ _ _ _ _ ?_
  · repeat' refine PS.set2 ?_ _ _ ?_
    all_goals first | exact HP1.out | exact ⟨_, rfl⟩ | exact ⟨_, _, _, rfl⟩
  · rfl
set_option maxRecDepth 100000 in
set_option maxHeartbeats 8000000 in
theorem play_4 {N h c N' : Nat} {A : Hp} {L : List Nat} {w0 w : World} (H : Hv N h A L w0 w) (K : A.Ok c) (kd : Nat) (i n : Int) (k : List UInt8) (hk : k.length ≤ 200) (vk : Int) (vn : Nat) (vt : List UInt8) (ht : vt.length ≤ maxLen) (vr : Int) (l : List V) (iv : Value) (hl : l.length ≤ 60)
    (hR : ∀ W, Below N w0 W → RowAt W iv l.length (itemCells l)) (hvb : l ≠ [] → ∀ x ∈ iv.ownBlock.toList, x < N) (hts : ∀ u ∈ l, u.t.length ≤ maxLen) (hT : ∀ W, Below N w0 W → Tb N' W) (hz : (kd : Int) % 10 = 4) :
    Calls Tryd.prog 15 #[.pointer (some ⟨h, 0, none⟩), .agg (callC kd i n k vk vn vt vr iv)] w fun e w' => (∃ r, e = .returned r) ∧ Pl N h c [] w0 w w' := by
  have hst := store_float
  have HP0 := Lib.hid (PS.start H K (callC kd i n k vk vn vt vr iv))
  have HKL := Lib.hid hk
  have HTL := Lib.hid ht
  have HLN := Lib.hid hl
  have HR := Lib.hid hR
  have HVB := Lib.hid hvb
  have HTS := Lib.hid hts
  have HTB := Lib.hid hT
  clear hk ht hl hR hvb hts hT H K
  go_enter Tryd.func15, Tryd.ntmps15
  go_wp2_with fail
  refine calls_at (PS N h c w.heap.size (callC kd i n k vk vn vt vr iv) w0) ?_ ?_
  · repeat' refine PS.set2 ?_ _ _ ?_
    all_goals first | exact HP0.out | exact ⟨_, rfl⟩ | exact ⟨_, _, _, rfl⟩
  intro W0 hp
  obtain ⟨A1, K1, hv⟩ := hp.hp
  refine (put_p hv K1 _ k (by have := HKL.out; omega) _ _ vt HTL.out _).mono ?_
  rintro e w1 ⟨⟨a, rfl⟩, hn⟩
  have HP1 := Lib.hid (hp.call hn)
  clear hp hn hv K1
  obtain ⟨⟨_, _, _, _, _, _, _, _, _, _, _, x0, x1, x2, x3, x4, x5, x6, x7, x8, x9, xa⟩, xf⟩ := HP1.out.r1.cells
  obtain ⟨⟨_, _, _, _, _, _, _, _, _, _, _, _, _, _, _, y0, y1, y2, y3, y4, y5, y6, y7, y8, y9, ya⟩, yf⟩ := HP1.out.r2.cells
  go_wp2
  refine play_done (C := callC kd i n k vk vn vt vr iv) ?_ _ _ _ _ _ _ _ _ _ _ _ _ ?_
  · repeat' refine PS.set2 ?_ _ _ ?_
    all_goals first | exact HP1.out | exact ⟨_, rfl⟩ | exact ⟨_, _, _, rfl⟩
  · rfl
set_option maxRecDepth 100000 in
set_option maxHeartbeats 8000000 in
theorem play_5 {N h c N' : Nat} {A : Hp} {L : List Nat} {w0 w : World} (H : Hv N h A L w0 w) (K : A.Ok c) (kd : Nat) (i n : Int) (k : List UInt8) (hk : k.length ≤ 200) (vk : Int) (vn : Nat) (vt : List UInt8) (ht : vt.length ≤ maxLen) (vr : Int) (l : List V) (iv : Value) (hl : l.length ≤ 60)
    (hR : ∀ W, Below N w0 W → RowAt W iv l.length (itemCells l)) (hvb : l ≠ [] → ∀ x ∈ iv.ownBlock.toList, x < N) (hts : ∀ u ∈ l, u.t.length ≤ maxLen) (hT : ∀ W, Below N w0 W → Tb N' W) (hz : (kd : Int) % 10 = 5) :
    Calls Tryd.prog 15 #[.pointer (some ⟨h, 0, none⟩), .agg (callC kd i n k vk vn vt vr iv)] w fun e w' => (∃ r, e = .returned r) ∧ Pl N h c [] w0 w w' := by
  have hst := store_float
  have HP0 := Lib.hid (PS.start H K (callC kd i n k vk vn vt vr iv))
  have HKL := Lib.hid hk
  have HTL := Lib.hid ht
  have HLN := Lib.hid hl
  have HR := Lib.hid hR
  have HVB := Lib.hid hvb
  have HTS := Lib.hid hts
  have HTB := Lib.hid hT
  clear hk ht hl hR hvb hts hT H K
  go_enter Tryd.func15, Tryd.ntmps15
  go_wp2_with fail
  refine calls_at (PS N h c w.heap.size (callC kd i n k vk vn vt vr iv) w0) ?_ ?_
  · repeat' refine PS.set2 ?_ _ _ ?_
    all_goals first | exact HP0.out | exact ⟨_, rfl⟩ | exact ⟨_, _, _, rfl⟩
  intro W0 hp
  obtain ⟨A1, K1, hv⟩ := hp.hp
  refine (set_p hv K1 _ k (by have := HKL.out; omega) _ _ vt HTL.out _).mono ?_
  rintro e w1 ⟨⟨a, b, rfl⟩, hn⟩
  have HP1 := Lib.hid (hp.call hn)
  clear hp hn hv K1
  obtain ⟨⟨_, _, _, _, _, _, _, _, _, _, _, x0, x1, x2, x3, x4, x5, x6, x7, x8, x9, xa⟩, xf⟩ := HP1.out.r1.cells
  obtain ⟨⟨_, _, _, _, _, _, _, _, _, _, _, _, _, _, _, y0, y1, y2, y3, y4, y5, y6, y7, y8, y9, ya⟩, yf⟩ := HP1.out.r2.cells
  go_wp2
  refine play_done (C := callC kd i n k vk vn vt vr iv) ?_ _ _ _ _ _ _ _ _ _ _ _ _ ?_
  · repeat' refine PS.set2 ?_ _ _ ?_
    all_goals first | exact HP1.out | exact ⟨_, rfl⟩ | exact ⟨_, _, _, rfl⟩
  · rfl
set_option maxRecDepth 100000 in
set_option maxHeartbeats 8000000 in
theorem play_6 {N h c N' : Nat} {A : Hp} {L : List Nat} {w0 w : World} (H : Hv N h A L w0 w) (K : A.Ok c) (kd : Nat) (i n : Int) (k : List UInt8) (hk : k.length ≤ 200) (vk : Int) (vn : Nat) (vt : List UInt8) (ht : vt.length ≤ maxLen) (vr : Int) (l : List V) (iv : Value) (hl : l.length ≤ 60)
    (hR : ∀ W, Below N w0 W → RowAt W iv l.length (itemCells l)) (hvb : l ≠ [] → ∀ x ∈ iv.ownBlock.toList, x < N) (hts : ∀ u ∈ l, u.t.length ≤ maxLen) (hT : ∀ W, Below N w0 W → Tb N' W) (hz : (kd : Int) % 10 = 6) :
    Calls Tryd.prog 15 #[.pointer (some ⟨h, 0, none⟩), .agg (callC kd i n k vk vn vt vr iv)] w fun e w' => (∃ r, e = .returned r) ∧ Pl N h c [] w0 w w' := by
  have hst := store_float
  have HP0 := Lib.hid (PS.start H K (callC kd i n k vk vn vt vr iv))
  have HKL := Lib.hid hk
  have HTL := Lib.hid ht
  have HLN := Lib.hid hl
  have HR := Lib.hid hR
  have HVB := Lib.hid hvb
  have HTS := Lib.hid hts
  have HTB := Lib.hid hT
  clear hk ht hl hR hvb hts hT H K
  go_enter Tryd.func15, Tryd.ntmps15
  go_wp2_with fail
  refine calls_at (PS N h c w.heap.size (callC kd i n k vk vn vt vr iv) w0) ?_ ?_
  · repeat' refine PS.set2 ?_ _ _ ?_
    all_goals first | exact HP0.out | exact ⟨_, rfl⟩ | exact ⟨_, _, _, rfl⟩
  intro W0 hp
  obtain ⟨A1, K1, hv⟩ := hp.hp
  refine (drop_p hv K1 _ k (by have := HKL.out; omega)).mono ?_
  rintro e w1 ⟨⟨a, rfl⟩, hn⟩
  have HP1 := Lib.hid (hp.call hn)
  clear hp hn hv K1
  obtain ⟨⟨_, _, _, _, _, _, _, _, _, _, _, x0, x1, x2, x3, x4, x5, x6, x7, x8, x9, xa⟩, xf⟩ := HP1.out.r1.cells
  obtain ⟨⟨_, _, _, _, _, _, _, _, _, _, _, _, _, _, _, y0, y1, y2, y3, y4, y5, y6, y7, y8, y9, ya⟩, yf⟩ := HP1.out.r2.cells
  go_wp2
  refine play_done (C := callC kd i n k vk vn vt vr iv) ?_ _ _ _ _ _ _ _ _ _ _ _ _ ?_
  · repeat' refine PS.set2 ?_ _ _ ?_
    all_goals first | exact HP1.out | exact ⟨_, rfl⟩ | exact ⟨_, _, _, rfl⟩
  · rfl
set_option maxRecDepth 100000 in
set_option maxHeartbeats 8000000 in
theorem play_7 {N h c N' : Nat} {A : Hp} {L : List Nat} {w0 w : World} (H : Hv N h A L w0 w) (K : A.Ok c) (kd : Nat) (i n : Int) (k : List UInt8) (hk : k.length ≤ 200) (vk : Int) (vn : Nat) (vt : List UInt8) (ht : vt.length ≤ maxLen) (vr : Int) (l : List V) (iv : Value) (hl : l.length ≤ 60)
    (hR : ∀ W, Below N w0 W → RowAt W iv l.length (itemCells l)) (hvb : l ≠ [] → ∀ x ∈ iv.ownBlock.toList, x < N) (hts : ∀ u ∈ l, u.t.length ≤ maxLen) (hT : ∀ W, Below N w0 W → Tb N' W) (hz : (kd : Int) % 10 = 7) :
    Calls Tryd.prog 15 #[.pointer (some ⟨h, 0, none⟩), .agg (callC kd i n k vk vn vt vr iv)] w fun e w' => (∃ r, e = .returned r) ∧ Pl N h c [] w0 w w' := by
  have hst := store_float
  have HP0 := Lib.hid (PS.start H K (callC kd i n k vk vn vt vr iv))
  have HKL := Lib.hid hk
  have HTL := Lib.hid ht
  have HLN := Lib.hid hl
  have HR := Lib.hid hR
  have HVB := Lib.hid hvb
  have HTS := Lib.hid hts
  have HTB := Lib.hid hT
  clear hk ht hl hR hvb hts hT H K
  go_enter Tryd.func15, Tryd.ntmps15
  go_wp2_with fail
  refine calls_at (PS N h c w.heap.size (callC kd i n k vk vn vt vr iv) w0) ?_ ?_
  · repeat' refine PS.set2 ?_ _ _ ?_
    all_goals first | exact HP0.out | exact ⟨_, rfl⟩ | exact ⟨_, _, _, rfl⟩
  intro W0 hp
  obtain ⟨A1, K1, hv⟩ := hp.hp
  refine (get_p hv K1 _ k (by have := HKL.out; omega)).mono ?_
  rintro e w1 ⟨⟨a1, a2, a3, a4, a5, rfl⟩, hn⟩
  have HP1 := Lib.hid (hp.call hn)
  clear hp hn hv K1
  obtain ⟨⟨_, _, _, _, _, _, _, _, _, _, _, x0, x1, x2, x3, x4, x5, x6, x7, x8, x9, xa⟩, xf⟩ := HP1.out.r1.cells
  obtain ⟨⟨_, _, _, _, _, _, _, _, _, _, _, _, _, _, _, y0, y1, y2, y3, y4, y5, y6, y7, y8, y9, ya⟩, yf⟩ := HP1.out.r2.cells
  go_wp2
  refine play_done (C := callC kd i n k vk vn vt vr iv) ?_ _ _ _ _ _ _ _ _ _ _ _ _ ?_
  · repeat' refine PS.set2 ?_ _ _ ?_
    all_goals first | exact HP1.out | exact ⟨_, rfl⟩ | exact ⟨_, _, _, rfl⟩
  · rfl
set_option maxRecDepth 100000 in
set_option maxHeartbeats 8000000 in
theorem play_8 {N h c N' : Nat} {A : Hp} {L : List Nat} {w0 w : World} (H : Hv N h A L w0 w) (K : A.Ok c) (kd : Nat) (i n : Int) (k : List UInt8) (hk : k.length ≤ 200) (vk : Int) (vn : Nat) (vt : List UInt8) (ht : vt.length ≤ maxLen) (vr : Int) (l : List V) (iv : Value) (hl : l.length ≤ 60)
    (hR : ∀ W, Below N w0 W → RowAt W iv l.length (itemCells l)) (hvb : l ≠ [] → ∀ x ∈ iv.ownBlock.toList, x < N) (hts : ∀ u ∈ l, u.t.length ≤ maxLen) (hT : ∀ W, Below N w0 W → Tb N' W) (hz : (kd : Int) % 10 = 8) :
    Calls Tryd.prog 15 #[.pointer (some ⟨h, 0, none⟩), .agg (callC kd i n k vk vn vt vr iv)] w fun e w' => (∃ r, e = .returned r) ∧ Pl N h c [] w0 w w' := by
  have hst := store_float
  have HP0 := Lib.hid (PS.start H K (callC kd i n k vk vn vt vr iv))
  have HKL := Lib.hid hk
  have HTL := Lib.hid ht
  have HLN := Lib.hid hl
  have HR := Lib.hid hR
  have HVB := Lib.hid hvb
  have HTS := Lib.hid hts
  have HTB := Lib.hid hT
  clear hk ht hl hR hvb hts hT H K
  go_enter Tryd.func15, Tryd.ntmps15
  go_wp2_with fail
  refine calls_at (PS N h c w.heap.size (callC kd i n k vk vn vt vr iv) w0) ?_ ?_
  · repeat' refine PS.set2 ?_ _ _ ?_
    all_goals first | exact HP0.out | exact ⟨_, rfl⟩ | exact ⟨_, _, _, rfl⟩
  intro W0 hp
  obtain ⟨A1, K1, hv⟩ := hp.hp
  refine (own_p hv K1 _ k (by have := HKL.out; omega)).mono ?_
  rintro e w1 ⟨⟨a1, a2, a3, a4, a5, rfl⟩, hn⟩
  have HP1 := Lib.hid (hp.call hn)
  clear hp hn hv K1
  obtain ⟨⟨_, _, _, _, _, _, _, _, _, _, _, x0, x1, x2, x3, x4, x5, x6, x7, x8, x9, xa⟩, xf⟩ := HP1.out.r1.cells
  obtain ⟨⟨_, _, _, _, _, _, _, _, _, _, _, _, _, _, _, y0, y1, y2, y3, y4, y5, y6, y7, y8, y9, ya⟩, yf⟩ := HP1.out.r2.cells
  obtain ⟨z0, z1, z2, z3, z4, z5, z6, z7, z8⟩ := HP1.out.callCells
  go_wp2_with fail
  refine calls_at (PS N h c w.heap.size (callC kd i n k vk vn vt vr iv) w0) ?_ ?_
  · repeat' refine PS.set2 ?_ _ _ ?_
    all_goals first | exact HP1.out | exact ⟨_, rfl⟩ | exact ⟨_, _, _, rfl⟩
  intro W1 hp
  obtain ⟨A1, K1, hv⟩ := hp.hp
  refine (keys_p hv K1 N' (HTB.out _ hv.loc.1) _).mono ?_
  rintro e w2 ⟨⟨p1, z1, cap1, rfl⟩, hn⟩
  have HP2 := Lib.hid (hp.call hn)
  clear hp hn hv K1
  obtain ⟨⟨_, _, _, _, _, _, _, _, _, _, _, x0, x1, x2, x3, x4, x5, x6, x7, x8, x9, xa⟩, xf⟩ := HP2.out.r1.cells
  obtain ⟨⟨_, _, _, _, _, _, _, _, _, _, _, _, _, _, _, y0, y1, y2, y3, y4, y5, y6, y7, y8, y9, ya⟩, yf⟩ := HP2.out.r2.cells
  obtain ⟨z0, z1, z2, z3, z4, z5, z6, z7, z8⟩ := HP2.out.callCells
  go_wp2_with fail
  refine calls_at (PS N h c w.heap.size (callC kd i n k vk vn vt vr iv) w0) ?_ ?_
  · repeat' refine PS.set2 ?_ _ _ ?_
    all_goals first | exact HP2.out | exact ⟨_, rfl⟩ | exact ⟨_, _, _, rfl⟩
  intro W2 hp
  obtain ⟨A1, K1, hv⟩ := hp.hp
  refine (kind_p hv K1 _).mono ?_
  rintro e w3 ⟨⟨g2, rfl⟩, hn⟩
  have HP3 := Lib.hid (hp.call hn)
  clear hp hn hv K1
  obtain ⟨⟨_, _, _, _, _, _, _, _, _, _, _, x0, x1, x2, x3, x4, x5, x6, x7, x8, x9, xa⟩, xf⟩ := HP3.out.r1.cells
  obtain ⟨⟨_, _, _, _, _, _, _, _, _, _, _, _, _, _, _, y0, y1, y2, y3, y4, y5, y6, y7, y8, y9, ya⟩, yf⟩ := HP3.out.r2.cells
  obtain ⟨z0, z1, z2, z3, z4, z5, z6, z7, z8⟩ := HP3.out.callCells
  go_wp2_with fail
  refine calls_at (PS N h c w.heap.size (callC kd i n k vk vn vt vr iv) w0) ?_ ?_
  · repeat' refine PS.set2 ?_ _ _ ?_
    all_goals first | exact HP3.out | exact ⟨_, rfl⟩ | exact ⟨_, _, _, rfl⟩
  intro W3 hp
  obtain ⟨A1, K1, hv⟩ := hp.hp
  refine (proto_p hv K1 _).mono ?_
  rintro e w4 ⟨⟨b, rfl⟩, hn⟩
  have HP4 := Lib.hid (hp.call hn)
  clear hp hn hv K1
  obtain ⟨⟨_, _, _, _, _, _, _, _, _, _, _, x0, x1, x2, x3, x4, x5, x6, x7, x8, x9, xa⟩, xf⟩ := HP4.out.r1.cells
  obtain ⟨⟨_, _, _, _, _, _, _, _, _, _, _, _, _, _, _, y0, y1, y2, y3, y4, y5, y6, y7, y8, y9, ya⟩, yf⟩ := HP4.out.r2.cells
  go_wp2
  refine play_done (C := callC kd i n k vk vn vt vr iv) ?_ _ _ _ _ _ _ _ _ _ _ _ _ ?_
  · repeat' refine PS.set2 ?_ _ _ ?_
    all_goals first | exact HP4.out | exact ⟨_, rfl⟩ | exact ⟨_, _, _, rfl⟩
  · rfl
set_option maxRecDepth 100000 in
set_option maxHeartbeats 8000000 in
theorem play_9 {N h c N' : Nat} {A : Hp} {L : List Nat} {w0 w : World} (H : Hv N h A L w0 w) (K : A.Ok c) (kd : Nat) (i n : Int) (k : List UInt8) (hk : k.length ≤ 200) (vk : Int) (vn : Nat) (vt : List UInt8) (ht : vt.length ≤ maxLen) (vr : Int) (l : List V) (iv : Value) (hl : l.length ≤ 60)
    (hR : ∀ W, Below N w0 W → RowAt W iv l.length (itemCells l)) (hvb : l ≠ [] → ∀ x ∈ iv.ownBlock.toList, x < N) (hts : ∀ u ∈ l, u.t.length ≤ maxLen) (hT : ∀ W, Below N w0 W → Tb N' W) (hz : (kd : Int) % 10 = 9) :
    Calls Tryd.prog 15 #[.pointer (some ⟨h, 0, none⟩), .agg (callC kd i n k vk vn vt vr iv)] w fun e w' => (∃ r, e = .returned r) ∧ Pl N h c [] w0 w w' := by
  have hst := store_float
  have HP0 := Lib.hid (PS.start H K (callC kd i n k vk vn vt vr iv))
  have HKL := Lib.hid hk
  have HTL := Lib.hid ht
  have HLN := Lib.hid hl
  have HR := Lib.hid hR
  have HVB := Lib.hid hvb
  have HTS := Lib.hid hts
  have HTB := Lib.hid hT
  clear hk ht hl hR hvb hts hT H K
  go_enter Tryd.func15, Tryd.ntmps15
  go_wp2_with fail
  refine calls_at (PS N h c w.heap.size (callC kd i n k vk vn vt vr iv) w0) ?_ ?_
  · repeat' refine PS.set2 ?_ _ _ ?_
    all_goals first | exact HP0.out | exact ⟨_, rfl⟩ | exact ⟨_, _, _, rfl⟩
  intro W0 hp
  obtain ⟨A1, K1, hv⟩ := hp.hp
  refine (items_p hv K1 _).mono ?_
  rintro e w1 ⟨⟨p, z, cap, b0, rfl⟩, hn⟩
  have HP1 := Lib.hid (hp.call hn)
  clear hp hn hv K1
  obtain ⟨⟨_, _, _, _, _, _, _, _, _, _, _, x0, x1, x2, x3, x4, x5, x6, x7, x8, x9, xa⟩, xf⟩ := HP1.out.r1.cells
  obtain ⟨⟨_, _, _, _, _, _, _, _, _, _, _, _, _, _, _, y0, y1, y2, y3, y4, y5, y6, y7, y8, y9, ya⟩, yf⟩ := HP1.out.r2.cells
  obtain ⟨z0, z1, z2, z3, z4, z5, z6, z7, z8⟩ := HP1.out.callCells
  go_wp2_with fail
  refine calls_at (PS N h c w.heap.size (callC kd i n k vk vn vt vr iv) w0) ?_ ?_
  · repeat' refine PS.set2 ?_ _ _ ?_
    all_goals first | exact HP1.out | exact ⟨_, rfl⟩ | exact ⟨_, _, _, rfl⟩
  intro W1 hp
  obtain ⟨A1, K1, hv⟩ := hp.hp
  refine (code_p hv K1 _).mono ?_
  rintro e w2 ⟨⟨g1, b, d, f, rfl⟩, hn⟩
  have HP2 := Lib.hid (hp.call hn)
  clear hp hn hv K1
  obtain ⟨⟨_, _, _, _, _, _, _, _, _, _, _, x0, x1, x2, x3, x4, x5, x6, x7, x8, x9, xa⟩, xf⟩ := HP2.out.r1.cells
  obtain ⟨⟨_, _, _, _, _, _, _, _, _, _, _, _, _, _, _, y0, y1, y2, y3, y4, y5, y6, y7, y8, y9, ya⟩, yf⟩ := HP2.out.r2.cells
  go_wp2
  refine play_done (C := callC kd i n k vk vn vt vr iv) ?_ _ _ _ _ _ _ _ _ _ _ _ _ ?_
  · repeat' refine PS.set2 ?_ _ _ ?_
    all_goals first | exact HP2.out | exact ⟨_, rfl⟩ | exact ⟨_, _, _, rfl⟩
  · rfl
theorem play_any {N h c N' : Nat} {A : Hp} {L : List Nat} {w0 w : World} (H : Hv N h A L w0 w) (K : A.Ok c) (kd : Nat) (i n : Int) (k : List UInt8) (hk : k.length ≤ 200) (vk : Int) (vn : Nat) (vt : List UInt8) (ht : vt.length ≤ maxLen) (vr : Int) (l : List V) (iv : Value) (hl : l.length ≤ 60)
    (hR : ∀ W, Below N w0 W → RowAt W iv l.length (itemCells l)) (hvb : l ≠ [] → ∀ x ∈ iv.ownBlock.toList, x < N) (hts : ∀ u ∈ l, u.t.length ≤ maxLen) (hT : ∀ W, Below N w0 W → Tb N' W) (hkd : kd < 256) :
    Calls Tryd.prog 15 #[.pointer (some ⟨h, 0, none⟩), .agg (callC kd i n k vk vn vt vr iv)] w fun e w' => (∃ r, e = .returned r) ∧ Pl N h c [] w0 w w' := by
  have h10 : kd % 10 < 10 := Nat.mod_lt _ (by decide)
  have hz : (kd : Int) % 10 = ((kd % 10 : Nat) : Int) := rfl
  generalize kd % 10 = m at h10 hz
  match m, h10 with
  | 0, _ => exact play_0 H K kd i n k hk vk vn vt ht vr l iv hl hR hvb hts hT hz
  | 1, _ => exact play_1 H K kd i n k hk vk vn vt ht vr l iv hl hR hvb hts hT hz
  | 2, _ => exact play_2 H K kd i n k hk vk vn vt ht vr l iv hl hR hvb hts hT hz
  | 3, _ => exact play_3 H K kd i n k hk vk vn vt ht vr l iv hl hR hvb hts hT hz
  | 4, _ => exact play_4 H K kd i n k hk vk vn vt ht vr l iv hl hR hvb hts hT hz
  | 5, _ => exact play_5 H K kd i n k hk vk vn vt ht vr l iv hl hR hvb hts hT hz
  | 6, _ => exact play_6 H K kd i n k hk vk vn vt ht vr l iv hl hR hvb hts hT hz
  | 7, _ => exact play_7 H K kd i n k hk vk vn vt ht vr l iv hl hR hvb hts hT hz
  | 8, _ => exact play_8 H K kd i n k hk vk vn vt ht vr l iv hl hR hvb hts hT hz
  | 9, _ => exact play_9 H K kd i n k hk vk vn vt ht vr l iv hl hR hvb hts hT hz
end Go.Proofs.YtmhoebbdapjpeaaDoor
