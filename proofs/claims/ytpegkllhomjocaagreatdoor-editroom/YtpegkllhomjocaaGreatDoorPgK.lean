/- Programs: wrongProgram. -/
import Derived.Test.YtpegkllhomjocaaGreatDoorPgH
import Derived.Test.YtpegkllhomjocaaGreatDoorPgJ
namespace Go.Proofs.YtpegkllhomjocaaGreatDoor
open Go Go.RowKit Go.Sort

set_option maxHeartbeats 4000000 in
theorem Max_any (g o n cap : Nat) (f : Nat → Int) (w : World) (hn : 1 ≤ n) (hl : n ≤ 1000) (hc : ∀ k, k < n → w.cell? ⟨g, o + k, none⟩ = some (.int .i64 (f k))) :
    Calls Tryz.prog 98 #[.slice (some ⟨g, o, none⟩) n cap] w fun e w' => (∃ m, e = .returned (.int .i64 m) ∧ ∀ c, c < m ↔ ∃ k, k < n ∧ c < f k) ∧ w' = w := by
  have HC := Lib.hid hc
  have c0 := hc 0 hn
  replace c0 : w.cell? ⟨g, o, none⟩ = some (.int .i64 (f 0)) := c0
  have hn1 : (1 : Int) ≤ (n : Int) := by omega
  clear hc
  go_enter Tryz.func98, Tryz.ntmps98
  go_wp2
  go_loop [3, 4] (fun m i => ∃ (q : Nat) (z : Int), 1 ≤ q ∧ q ≤ n ∧ i = .int .i64 q ∧ m = .int .i64 z ∧ Hid (∀ c, c < z ↔ ∃ k, k < q ∧ c < f k)) (fun _ i => n - (intOf i).toNat)
  case atStart =>
    refine ⟨1, f 0, by omega, hn, rfl, rfl, Lib.hid fun c => ⟨fun h => ⟨0, by omega, h⟩, fun ⟨k, hk, h⟩ => ?_⟩⟩
    obtain rfl : k = 0 := by omega
    exact h
  case round =>
    obtain ⟨q, z, hq1, hq, rfl, rfl, hz⟩ := hrel
    by_cases hlt : q < n
    · have cq := HC.out q hlt
      have hqi : (q : Int) < (n : Int) := by omega
      obtain ⟨y, hy⟩ : ∃ y, f q = y := ⟨_, rfl⟩
      rw [hy] at cq
      have HY := Lib.hid hy
      clear hy c0
      by_cases hzy : z < y
      · go_wp2
        refine ⟨⟨q + 1, y, by omega, by omega, by go_num, by simp; omega, Lib.hid fun c => ⟨fun h => ⟨q, by omega, by rw [HY.out]; exact h⟩, fun ⟨k, hk, h⟩ => ?_⟩⟩, by simp [intOf]; omega⟩
        rcases Nat.lt_succ_iff_lt_or_eq.1 hk with hk | rfl
        · have := (hz.out c).2 ⟨k, hk, h⟩
          omega
        · rw [← HY.out]; exact h
      · have hzy' : y ≤ z := by omega
        go_wp2
        refine ⟨⟨q + 1, z, by omega, by omega, by go_num, by simp; omega, Lib.hid fun c => ⟨fun h => ?_, fun ⟨k, hk, h⟩ => ?_⟩⟩, by simp [intOf]; omega⟩
        · obtain ⟨k, hk, h2⟩ := (hz.out c).1 h
          exact ⟨k, by omega, h2⟩
        · rcases Nat.lt_succ_iff_lt_or_eq.1 hk with hk | rfl
          · exact (hz.out c).2 ⟨k, hk, h⟩
          · rw [HY.out] at h
            omega
    · obtain rfl : q = n := by omega
      go_wp2
      go_ret
      exact ⟨⟨_, rfl, hz.out⟩, rfl⟩

theorem nodup_count (l : List Int) (h : ∀ x ∈ l, 0 ≤ x ∧ x < 96) : (¬ ∃ k : Nat, k < 96 ∧ (1 : Int) < ((l.count (k : Int) : Nat) : Int)) ↔ l.Nodup := by
  rw [List.nodup_iff_count]
  constructor
  · intro hn a
    by_cases ha : a ∈ l
    · obtain ⟨k, rfl⟩ := Int.eq_ofNat_of_zero_le (h a ha).1
      have hk := (h _ ha).2
      rcases Nat.lt_or_ge 1 (l.count (k : Int)) with g | g
      · exact absurd ⟨k, by omega, by omega⟩ hn
      · exact g
    · rw [List.count_eq_zero_of_not_mem ha]; omega
  · rintro hn ⟨k, hk, h1⟩
    have := hn (k : Int)
    omega
theorem ids_ok {p : Pg} (h : fdsOk p) : ∀ i ∈ p.ins, 0 ≤ i.id ∧ i.id < 96 := by
  intro i hi
  obtain ⟨f, hf, hi⟩ := List.mem_flatMap.1 hi
  obtain ⟨b, hb, hi⟩ := List.mem_flatMap.1 hi
  obtain ⟨k, hk, rfl⟩ := mem_fdAt hf
  obtain ⟨j, hj, rfl⟩ := mem_blkAt hb
  obtain ⟨n, hn, rfl⟩ := mem_insAt hi
  have := (((h k hk).2 j hj).2.2.2 n hn).1
  exact ⟨this.2.2.1, Int.lt_of_le_of_lt this.2.2.2.1 (by decide)⟩

set_option maxRecDepth 100000 in
set_option maxHeartbeats 8000000 in
theorem wrongProgram_any (p : Pg) (w : World) (hp : PgIs w.heap.size w p) (hT : KTab w) (hfew : p.few) :
    Calls Tryz.prog 63 #[p.val] w fun e w' => ∃ v, e = .returned v ∧ ToldD 3 p.sane v ∧ Below w.heap.size w w' := by
  have HW := Lib.hid (below1 w (.cells [.slice p.pa p.funs.length p.pc].toArray 24))
  have HB := Lib.hid (BoxL.new w [.slice p.pa p.funs.length p.pc] 24)
  have HP := Lib.hid (fun part => wrongPartF_any part p w.heap.size _ (hp.on HW.out) (hT.on HW.out) HB.out hfew _ rfl)
  have HI := Lib.hid (fun W (h : Below w.heap.size w W) (hid : fdsOk p) => idTimes_any p W (hp.on h) hfew (ids_ok hid))
  have HOK : Hid (p.sane ↔ p.funs.length ≤ 6 ∧ fdsOk p ∧ (p.ins.map Ins.id).Nodup) := Lib.hid Iff.rfl
  have HND : Hid (fdsOk p → ((¬ ∃ k : Nat, k < 96 ∧ (1 : Int) < (((p.ins.map Ins.id).count (k : Int) : Nat) : Int)) ↔ (p.ins.map Ins.id).Nodup)) := Lib.hid fun h => nodup_count _ (fun x hx => by
    obtain ⟨i, hi, rfl⟩ := List.mem_map.1 hx
    exact ids_ok h i hi)
  obtain ⟨ok, hok⟩ : ∃ ok, p.sane = ok := ⟨_, rfl⟩
  obtain ⟨fo, hfo⟩ : ∃ fo, fdsOk p = fo := ⟨_, rfl⟩
  obtain ⟨ids, hids⟩ : ∃ ids, p.ins.map Ins.id = ids := ⟨_, rfl⟩
  have hlen := hfew.1
  simp only [hok, hfo, hids] at HOK HP HI HND ⊢
  clear hok hfo hids hp hT hfew
  unfold Pg.val at *
  obtain ⟨PL, hPL⟩ : ∃ PL, p.funs.length = PL := ⟨_, rfl⟩
  simp only [hPL] at HW HB HP HI HOK hlen ⊢
  clear hPL
  generalize hE : w.alloc (.cells (List.toArray [.slice p.pa PL p.pc]) 24) = W at HB HW HP
  have hE' : w.alloc (.cells #[.slice p.pa PL p.pc] 24) = W := hE
  clear hE
  obtain ⟨g, hg⟩ : ∃ g, w.heap.size = g := ⟨_, rfl⟩
  have HGL := Lib.hid HW.out.size
  have HLT := Lib.hid (HB.out.lt (Nat.zero_lt_succ _))
  rw [hg] at HB HW HGL HP HI HLT ⊢
  have k0 := (HB.out 0 _ rfl).1
  by_cases h6 : 6 < PL
  · have h6' : (6 : Int) < (PL : Int) := by omega
    clear HP HI HND
    go_enter Tryz.func63, Tryz.ntmps63
    go_wp2_with fail
    go_ret
    refine ⟨_, rfl, .inr ⟨fun h => ?_, 0, by omega, EV.fault _⟩, HW.out⟩
    have := (HOK.out.1 h).1
    omega
  have h6' : (PL : Int) ≤ 6 := by omega
  have H6 := Lib.hid h6
  clear h6
  go_enter Tryz.func63, Tryz.ntmps63
  go_wp2_with (go_at_call 95; refine (HP.out _).mono ?_; rintro e wa ⟨v, rfl, hv, hba⟩; have HW2 := Lib.hid (HW.out.trans (hba.mono HGL.out)); have HB2 := Lib.hid (HB.out.below hba HLT.out); have HG2 := Lib.hid (Nat.le_trans HGL.out hba.size); clear hba HB k0; have k0 := (HB2.out 0 _ rfl).1; obtain ⟨hv1, rfl⟩ | ⟨hv1, d, hd, hev⟩ := hv)
  · have HV1 := Lib.hid hv1
    clear hv1
    refine (HI.out wa HW2.out HV1.out).mono ?_
    rintro e wb ⟨rfl, hbb⟩
    have HW3 := Lib.hid (HW2.out.trans (hbb.mono HG2.out))
    have HG3 := Lib.hid (Nat.le_trans HG2.out hbb.size)
    clear hbb k0
    obtain ⟨cs, hcse⟩ : ∃ cs, idCells ids = cs := ⟨_, rfl⟩
    have hcs : cs.size = 96 := by rw [← hcse]; exact idCells_size _
    have hall : cs.all (·.oneCell') = true := by rw [← hcse]; simp [idCells, Value.oneCell']
    have hz : Tryz.zeroCells92.size = 96 := by rw [← idCells_nil]; exact idCells_size _
    have HAT : Hid (∀ k, k < 96 → cs[k]? = some (.int .i64 ((ids.count (k : Int) : Nat) : Int))) := Lib.hid fun k hk => by rw [← hcse]; exact idCells_at _ k hk
    rw [hcse]
    clear hcse
    go_wp2_with fail
    rw [run_storeCells_new (P := Tryz.prog) wb 92 Tryz.zeroCells92 cs (by rw [hcs]; kernel_rfl) (by rw [hcs, hz]) hall]
    have HW4 := Lib.hid (HW3.out.trans ((below1 wb (.cells cs 92)).mono HG3.out))
    have HMX := Lib.hid (Max_any wb.heap.size 0 96 96 (fun k => ((ids.count (k : Int) : Nat) : Int)) (wb.alloc (.cells cs 92)) (by decide) (by decide) (fun k hk => by
      rw [Nat.zero_add, cell_of_row _ _ k cs 92 (0, 0) (heap_alloc_new wb _)]
      exact HAT.out k hk))
    clear hall hz HAT hcs
    go_wp2_with (go_at_call 98; refine HMX.out.mono ?_; rintro e wc ⟨⟨m, rfl, hm⟩, rfl⟩; have HM := Lib.hid (hm 1); clear hm; by_cases hm1 : 1 < m)
    · go_wp2_with fail
      go_ret
      refine ⟨_, rfl, .inr ⟨fun h => ?_, 0, by omega, EV.fault _⟩, HW4.out⟩
      exact (HND.out HV1.out).2 (HOK.out.1 h).2.2 (HM.out.1 hm1)
    · have hm1' : m ≤ 1 := by omega

      clear hm1
      go_wp2_with fail
      go_ret
      refine ⟨_, rfl, .inl ⟨HOK.out.2 ⟨by have := H6.out; omega, HV1.out, (HND.out HV1.out).1 fun h => by have := HM.out.2 h; omega⟩, rfl⟩, HW4.out⟩
  · obtain ⟨t, u, rfl⟩ := hev.iface
    have HEV := Lib.hid hev
    have HV1 := Lib.hid hv1
    clear hev hv1 HI
    simp only [eqGuard_at_iface, Sem.run_pure, Result.andThen, neqErr]
    go_wp2_with fail
    go_ret
    exact ⟨_, rfl, .inr ⟨fun h => HV1.out (HOK.out.1 h).2.1, d, hd, HEV.out⟩, HW2.out⟩
end Go.Proofs.YtpegkllhomjocaaGreatDoor
