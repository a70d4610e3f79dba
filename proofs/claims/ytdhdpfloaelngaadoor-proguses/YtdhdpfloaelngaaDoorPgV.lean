/- Programs: NewId; the document's example. -/
import Derived.Test.YtdhdpfloaelngaaDoorPgU
namespace Go.Proofs.YtdhdpfloaelngaaDoor
open Go Go.RowKit Go.Sort

/-- What NewId tells. -/
def NewIdIs (p : Pg) (z : Int) : Prop := (p.sane ∧ First 96 (fun k => (p.ins.map Ins.id).count (k : Int) = 0) z) ∨ (¬ p.sane ∧ z = -1)

set_option maxRecDepth 100000 in
set_option maxHeartbeats 4000000 in
theorem NewId_any (p : Pg) (w : World) (hp : PgIs w.heap.size w p) (hT : KTab w) (hE : ETab w) (hfew : p.few) :
    Calls Tryd.prog 13 #[p.val] w fun e w' => (∃ z : Int, e = .returned (.int .i64 z) ∧ NewIdIs p z) ∧ Below w.heap.size w w' := by
  have HB1 := Lib.hid (below1 w (.cells #[.slice p.pa p.funs.length p.pc] 24))
  have HX : Hid (BoxL (w.alloc (.cells #[.slice p.pa p.funs.length p.pc] 24)) w.heap.size [.slice p.pa p.funs.length p.pc]) := Lib.hid (BoxL.new w [.slice p.pa p.funs.length p.pc] 24)
  have HS := Lib.hid (fun s hs => Sane_any p _ (hp.on HB1.out) (hT.on HB1.out) (hE.on HB1.out) hfew s hs)
  have HI := Lib.hid (fun W (h : Below w.heap.size w W) (hid : p.sane) => idTimes_any p W (hp.on h) hfew (ids_ok hid.2.1))
  unfold NewIdIs
  obtain ⟨ok, hok⟩ : ∃ ok, p.sane = ok := ⟨_, rfl⟩
  obtain ⟨ids, hids⟩ : ∃ ids, p.ins.map Ins.id = ids := ⟨_, rfl⟩
  simp only [hok, hids] at HS HI ⊢
  clear hok hids hp hT hE hfew
  unfold Pg.val at *
  obtain ⟨PL, hPL⟩ : ∃ PL, p.funs.length = PL := ⟨_, rfl⟩
  simp only [hPL] at HB1 HX HS HI ⊢
  clear hPL
  generalize hE : w.alloc (.cells #[.slice p.pa PL p.pc] 24) = W at HB1 HX HS
  obtain ⟨g, hg⟩ : ∃ g, w.heap.size = g := ⟨_, rfl⟩
  have HGL := Lib.hid HB1.out.size
  have HLT := Lib.hid (HX.out.lt (Nat.zero_lt_succ _))
  rw [hg] at HB1 HX HGL HLT HI ⊢
  have k0 := (HX.out 0 _ rfl).1
  by_cases hk : ok
  rotate_left
  · have HC := Lib.hid (HS.out false (by simp [hk]))
    have HK := Lib.hid hk
    clear HS HI hk
    go_enter Tryd.func13, Tryd.ntmps13
    go_wp2_with (go_at_call 9; refine HC.out.mono ?_; rintro e wa ⟨rfl, hba⟩; have HW2 := Lib.hid (HB1.out.trans (hba.mono HGL.out)); clear hba)
    go_ret
    exact ⟨⟨_, rfl, .inr ⟨HK.out, rfl⟩⟩, HW2.out⟩
  have HC := Lib.hid (HS.out true (by simp [hk]))
  have HK := Lib.hid hk
  clear HS hk
  go_enter Tryd.func13, Tryd.ntmps13
  go_wp2_with (first | (go_at_call 9; refine HC.out.mono ?_; rintro e wa ⟨rfl, hba⟩; have HW2 := Lib.hid (HB1.out.trans (hba.mono HGL.out)); have HB2 := Lib.hid (HX.out.below hba HLT.out); have HG2 := Lib.hid (Nat.le_trans HGL.out hba.size); clear hba HX k0; have k0 := (HB2.out 0 _ rfl).1) | (go_at_call 26; refine (HI.out wa HW2.out HK.out).mono ?_; rintro e wb ⟨rfl, hbb⟩; have HW3 := Lib.hid (HW2.out.trans (hbb.mono HG2.out)); have HG3 := Lib.hid (Nat.le_trans HG2.out hbb.size); clear hbb k0; obtain ⟨cs, hcse⟩ : ∃ cs, idCells ids = cs := ⟨_, rfl⟩; have hcs : cs.size = 96 := by { rw [← hcse]; exact idCells_size _ }; have hall : cs.all (·.oneCell') = true := by { rw [← hcse]; simp [idCells, Value.oneCell'] }; have hz : Tryd.zeroCells64.size = 96 := by { rw [← idCells_nil]; exact idCells_size _ }; have HAT : Hid (∀ k, k < 96 → cs[k]? = some (.int .i64 ((ids.count (k : Int) : Nat) : Int))) := Lib.hid (fun k hk => by { rw [← hcse]; exact idCells_at _ k hk }); rw [hcse]; clear hcse))
  rw [run_storeCells_new (P := Tryd.prog) wb 64 Tryd.zeroCells64 cs (by rw [hcs]; kernel_rfl) (by rw [hcs, hz]) hall]
  have HW4 := Lib.hid (HW3.out.trans ((below1 wb (.cells cs 64)).mono HG3.out))
  have HMX := Lib.hid (IndexR_any wb.heap.size 0 96 96 (fun k => ((ids.count (k : Int) : Nat) : Int)) 0 (wb.alloc (.cells cs 64)) (by decide) (fun k hk => by
    rw [Nat.zero_add, cell_of_row _ _ k cs 64 (0, 0) (heap_alloc_new wb _)]
    exact HAT.out k hk))
  clear hall hz HAT hcs
  go_wp2_with (go_at_call 27; refine HMX.out.mono ?_; rintro e wc ⟨⟨m, rfl, hm⟩, rfl⟩; have HM := Lib.hid hm; clear hm)
  go_ret
  refine ⟨⟨_, rfl, .inl ⟨HK.out, ?_⟩⟩, HW4.out⟩
  rcases HM.out with ⟨h1, h2⟩ | ⟨k, h1, h2, h3, h4⟩
  · exact .inl ⟨h1, fun k hk h => h2 k hk (by omega)⟩
  · exact .inr ⟨k, h1, h2, by omega, fun j hj h => h4 j hj (by omega)⟩

/-- The document's example, at the places a and b. -/
def pg1 (a b : Addr) : Pg := ⟨some a, 1, [⟨0, 0, some b, 1, [⟨true, none, 0, [], none, 0, []⟩]⟩]⟩
theorem pg1_few (a b : Addr) : (pg1 a b).few := by
  refine ⟨by simp [pg1], fun k hk => ?_⟩
  obtain rfl : k = 0 := by simp [pg1] at hk; omega
  refine ⟨by simp [pg1, fdAt], fun j hj => ?_⟩
  obtain rfl : j = 0 := by simp [pg1, fdAt] at hj; omega
  exact ⟨by simp [pg1, fdAt, blkAt], by simp [pg1, fdAt, blkAt]⟩
theorem pg1_sane (a b : Addr) : (pg1 a b).sane := by
  refine ⟨by simp [pg1], fun k hk => ?_, by simp [pg1, Pg.ins, Fd.ins, Blk.ins]⟩
  obtain rfl : k = 0 := by simp [pg1] at hk; omega
  refine ⟨by simp [pg1, fdAt, headOk, blkAt], fun j hj => ?_⟩
  obtain rfl : j = 0 := by simp [pg1, fdAt] at hj; omega
  exact ⟨by simp [pg1, fdAt, blkAt], by simp [pg1, fdAt, blkAt], fun k hk => by simp [pg1, fdAt, blkAt] at hk, fun k hk => by simp [pg1, fdAt, blkAt] at hk⟩
theorem pg1_funB (a b : Addr) : funB (pg1 a b) 0 = true := by
  unfold funB
  rw [(saneB_iff _).2 (pg1_sane a b)]
  simp [pg1]
theorem pg1_funR (a b : Addr) : funR (pg1 a b) 0 = ⟨0, 0, some b, 1, [⟨true, none, 0, [], none, 0, []⟩]⟩ := by
  unfold funR
  rw [pg1_funB]
  simp [pg1, fdAt]
theorem pg1_newBlk (a b : Addr) {z : Int} (h : NewBlkIs (pg1 a b) 0 z) : z = 1 := by
  unfold NewBlkIs at h
  rw [pg1_funB, pg1_funR] at h
  simp only [if_true] at h
  refine h.one (.inr ⟨1, by decide, rfl, ?_, fun j hj => ?_⟩)
  · intro h2; have := h2.2.1; simp at this
  · obtain rfl : j = 0 := by omega
    exact fun h2 => h2 ⟨by simp, by simp, by simp [blkAt]⟩
theorem pg1_newId (a b : Addr) {z : Int} (h : NewIdIs (pg1 a b) z) : z = 0 := by
  rcases h with ⟨-, h⟩ | ⟨h, -⟩
  · exact h.one (.inr ⟨0, by decide, rfl, by simp [pg1, Pg.ins, Fd.ins, Blk.ins], fun j hj => absurd hj (Nat.not_lt_zero _)⟩)
  · exact absurd (pg1_sane a b) h
end Go.Proofs.YtdhdpfloaelngaaDoor
