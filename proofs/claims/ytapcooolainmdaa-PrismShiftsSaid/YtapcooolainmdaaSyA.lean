/- Two bodies of knowledge put together. -/
import Derived.Test.YtapcooolainmdaaSy5
namespace Go.Proofs.Ytapcooolainmdaa.Ev
open Go.RowKit
variable {ρ : Env} {P : Program}
def Orc.app (a b : Orc) : Orc := { bin := a.bin ++ b.bin, un := a.un ++ b.un, conv := a.conv ++ b.conv, bi := a.bi ++ b.bi, calls := a.calls ++ b.calls, lds := a.lds ++ b.lds, ixa := a.ixa ++ b.ixa, idx := a.idx ++ b.idx, sli := a.sli ++ b.sli, loops := a.loops ++ b.loops, lens := a.lens ++ b.lens, laps := a.laps ++ b.laps, lat := a.lat ++ b.lat, llen := a.llen ++ b.llen, memo := a.memo ++ b.memo, fad := a.fad ++ b.fad, ext := a.ext ++ b.ext, own := a.own ++ b.own }
theorem all_app {α : Type _} {p : α → Prop} {l m : List α} (h1 : ∀ e ∈ l, p e) (h2 : ∀ e ∈ m, p e) : ∀ e ∈ l ++ m, p e := by
  intro e he
  rcases List.mem_append.1 he with h | h
  · exact h1 e h
  · exact h2 e h
theorem Know.app {a b : Orc} (x : Know ρ P a) (y : Know ρ P b) : Know ρ P (a.app b) :=
  ⟨all_app x.bin y.bin, all_app x.un y.un, all_app x.conv y.conv, all_app x.bi y.bi, all_app x.calls y.calls, all_app x.lds y.lds, all_app x.ixa y.ixa, all_app x.idx y.idx, all_app x.sli y.sli, all_app x.loops y.loops, all_app x.lens y.lens, all_app x.laps y.laps, all_app x.lat y.lat, all_app x.llen y.llen, all_app x.memo y.memo, all_app x.fad y.fad, all_app x.ext y.ext, all_app x.own y.own⟩
end Go.Proofs.Ytapcooolainmdaa.Ev
