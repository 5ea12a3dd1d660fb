/- The regions' laws with a goal behind a structure, so that no tactic opens it on the way. -/
import Derived.Test.YtobfbjfajdnhaaaRegionT
namespace Go.Proofs.Ytobfbjfajdnhaaa
open Go Go.RowKit
structure Later (p : Prop) : Prop where
  out : p

section
variable {P : Program} {Q : Exit → Act → World → Prop}

theorem region_lastqL {id : Nat} {full : List Oper} {z : Oper} {S : World → Prop} (n : Nat) (Vs : List (World → Value → Prop)) {a0 : Act} {w0 : World} (hz : full.drop n = [z]) (hm : P.follows .mixedOrders = true)
    (hg : goodOps (full.take n) a0.tmps.size = true) (hu : uniq (full.take n) = true) (hga : goodAfter (full.take n ++ [z]) = true) (hzg : z.guard = none)
    (hcov : ((List.range (full.take n).length).all fun j => z.after.any fun e => e.on == j && Region.binds .any e) = true) (hS : S w0.drew) (hpers : PersAll Vs)
    (hsteps : StepsOk P Q (full.take n) S (fun i => Vs.getD i (fun _ _ => True)) a0 (full.take n) 0)
    (hlast : ∀ (vals : Nat → Value) (w : World) (K : Act → World → Prop), S w → (∀ i, i < n → Vs.getD i (fun _ _ => True) w (vals i)) → (∀ a' w', Q .normal a' w' → K a' w') → Later (Oper.wp P z ⟨setN n full vals 0 a0.tmps, a0.defers⟩ w K Q)) : (Code.region id full.toArray true).wp P Q a0 w0 :=
  region_lastq n Vs hz hm hg hu hga hzg hcov hS hpers hsteps (fun vals w K h1 h2 h3 => (hlast vals w K h1 h2 h3).out)
theorem region_lastqgL {id : Nat} {full : List Oper} {z : Oper} {S : World → Prop} (n : Nat) (Vs : List (World → Value → Prop)) {a0 : Act} {w0 : World} (hz : full.drop n = [z]) (hm : P.follows .mixedOrders = true)
    (hg : goodOpsG (full.take n) a0.tmps.size = true) (hu : uniq (full.take n) = true) (hga : goodAfter (full.take n ++ [z]) = true) (hzg : z.guard = none)
    (hcov : ((List.range (full.take n).length).all fun j => z.after.any fun e => e.on == j && Region.binds .any e) = true) (hS : S w0.drew) (hpers : PersAll Vs)
    (hsteps : StepsOkG P Q (full.take n) S (fun i => Vs.getD i (fun _ _ => True)) a0 (full.take n) 0)
    (hlast : ∀ (vals : Nat → Value) (w : World) (K : Act → World → Prop), S w → (∀ i, i < n → Vs.getD i (fun _ _ => True) w (vals i)) → (∀ a' w', Q .normal a' w' → K a' w') → Later (Oper.wp P z ⟨setN n full vals 0 a0.tmps, a0.defers⟩ w K Q)) : (Code.region id full.toArray true).wp P Q a0 w0 :=
  region_lastqg n Vs hz hm hg hu hga hzg hcov hS hpers hsteps (fun vals w K h1 h2 h3 => (hlast vals w K h1 h2 h3).out)
theorem region_twoL {id : Nat} {full : List Oper} {y z : Oper} {S : World → Prop} (n : Nat) (A : Nat → Bool) (Vs : List (World → Value → Prop)) {a0 : Act} {w0 : World} (hz : full.drop n = [y, z]) (hm : P.follows .mixedOrders = true)
    (hg : goodOpsG (full.take n) a0.tmps.size = true) (hu : uniq (full.take n) = true) (hga : goodAfter (full.take n ++ [y, z]) = true) (hyg : y.guard = none) (hzg : z.guard = none)
    (hcy : ((List.range (full.take n).length).all fun j => (clos (full.take n) 3 (bound y)).contains j) = true)
    (hcz : ((List.range (full.take n).length).all fun j => (clos (full.take n) 3 (bound z)).contains j) = true)
    (hyz : (z.after.any fun e => e.on == (full.take n).length && Region.binds .any e) = true) (hS : S w0.drew) (hpers : PersAll Vs)
    (hsteps : StepsOkA P Q (full.take n) A S (fun i => Vs.getD i (fun _ _ => True)) a0 (full.take n) 0)
    (hlast : ∀ (vals : Nat → Value) (w : World) (K : Act → World → Prop), S w → (∀ i, i < n → Vs.getD i (fun _ _ => True) w (vals i)) → (∀ i j, i < n → j < n → i ≠ j → A i = true → A j = true → vals i ≠ vals j) → (∀ a' w', (∀ K' : Act → World → Prop, (∀ a'' w'', Q .normal a'' w'' → K' a'' w'') → Oper.wp P z a' w' K' Q) → K a' w') → Later (Oper.wp P y ⟨setN n full vals 0 a0.tmps, a0.defers⟩ w K Q)) : (Code.region id full.toArray true).wp P Q a0 w0 :=
  region_two n A Vs hz hm hg hu hga hyg hzg hcy hcz hyz hS hpers hsteps (fun vals w K h1 h2 h3 h4 => (hlast vals w K h1 h2 h3 h4).out)
end
end Go.Proofs.Ytobfbjfajdnhaaa
