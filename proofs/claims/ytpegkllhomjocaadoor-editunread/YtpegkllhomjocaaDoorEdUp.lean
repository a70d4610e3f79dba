/- EditUnread: the pure side. -/
import Derived.Test.YtpegkllhomjocaaDoorEdM
namespace Go.Proofs.YtpegkllhomjocaaDoor
open Go Go.RowKit Go.Sort

theorem chk_unread (p : Pg) (e x : Ed) (hop : x.op = e.op) (hf : e.op ≠ 0 → x.f = e.f) (hb : e.op ≠ 1 → x.b = e.b) (ht : e.op = 0 ∨ e.op = 3 ∨ e.op = 4 ∨ e.op = 5 → x.tob = e.tob) (ho : e.op = 5 → x.other = e.other) (hp : e.op = 6 ∨ e.op = 7 → x.pos = e.pos) (hi : e.op = 6 → x.i = e.i) : chk p x = chk p e := by
  have h1 : opE p x = opE p e := by
    unfold opE
    rw [hop]
    by_cases h0 : e.op = 0
    · rw [if_pos h0, if_pos h0, hb (by omega), ht (by omega)]
    · rw [if_neg h0, if_neg h0, hf h0]
      have h2 : inFunE p x = inFunE p e := by
        unfold inFunE
        rw [hop, hf h0]
        by_cases g1 : e.op = 1
        · simp only [g1, if_true]
        · rw [if_neg g1, if_neg g1, hb g1]
          by_cases g2 : e.op = 2
          · simp only [g2, if_true]
          · rw [if_neg g2, if_neg g2]
            by_cases g3 : e.op = 3
            · rw [if_pos g3, if_pos g3, ht (by omega)]
            · rw [if_neg g3, if_neg g3]
              by_cases g4 : e.op = 4
              · rw [if_pos g4, if_pos g4, ht (by omega)]
              · rw [if_neg g4, if_neg g4]
                by_cases g5 : e.op = 5
                · rw [if_pos g5, if_pos g5, ht (by omega), ho g5]
                · rw [if_neg g5, if_neg g5]
                  by_cases g6 : e.op = 6
                  · rw [if_pos g6, if_pos g6, hp (by omega), hi g6]
                  · rw [if_neg g6, if_neg g6]
                    by_cases g7 : e.op = 7
                    · rw [if_pos g7, if_pos g7, hp (by omega)]
                    · rw [if_neg g7, if_neg g7]
      rw [h2]
  unfold chk
  rw [h1, hop]

end Go.Proofs.YtpegkllhomjocaaDoor
