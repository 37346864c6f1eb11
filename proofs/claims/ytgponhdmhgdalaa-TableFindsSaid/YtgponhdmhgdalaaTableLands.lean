/-
  What the program's functions of layer 11 keep, together. Over the program's own text.
-/
import Derived.Test.YtgponhdmhgdalaaTableLandsB
import Derived.Test.YtgponhdmhgdalaaTableLandsC
namespace Go.Proofs.Ytgponhdmhgdalaa

theorem kept_table : KeptTable rowR11 seenR11 findR11 where
  lay := fun b d id l v hrm hf hB h0 h1 h2 h3 h4 h5 h6 => lay_any b d id l v hrm hf hB h0 h1 h2 h3 h4 h5 h6
  kill := fun b d v hrm hf hB h0 h1 h2 h3 h4 => kill_any b d v hrm hf hB h0 h1 h2 h3 h4
  row := fun b d hrm hf hB h0 h1 h2 h3 => row_any b d hrm hf hB h0 h1 h2 h3
  seen := fun b n v hrm hf hB h0 h1 h2 h3 _ => seen_any b n v hrm hf hB h0 h1 h2 h3
  find := fun b n x hrm hf hB h0 h1 h2 h3 _ => find_any b n x hrm hf hB h0 h1 h2 h3
  rowD := fun cs b d hb hl => rowD11 cs b d hb hl
  seenD := fun cs b n v hb hl => seenD11 cs b n v hb hl
  findD := fun cs b n x hb hl => findD11 cs b n x hb hl
end Go.Proofs.Ytgponhdmhgdalaa
