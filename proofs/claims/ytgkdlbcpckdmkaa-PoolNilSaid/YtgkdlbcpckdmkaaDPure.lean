/-
  The plain disk: what each call answers, and what there is behind it. Nothing here names the program.
-/
namespace Go.Proofs.Ytgkdlbcpckdmkaa

/-- A disk: how many sectors, what lasts (nothing: no bytes), what waits, whether the power is gone, a fuse. -/
structure PS where
  size : Nat
  L : Int → List UInt8
  W : Int → Option (List UInt8)
  down : Bool
  fused : Bool
  fuse : Nat

namespace PS
def new (n : Nat) : PS := ⟨n, fun _ => [], fun _ => none, false, false, 0⟩
def has (s : PS) (n : Int) : Bool := decide (0 ≤ n ∧ n < (s.size : Int))
def held (s : PS) (n : Int) : List UInt8 := (s.W n).getD (s.L n)
def readE (s : PS) (n : Int) : Int := if s.down then 40 else if s.has n then 0 else 41
def readB (s : PS) (n : Int) : List UInt8 := if s.down then [] else if s.has n then s.held n else []
/-- May an act be done? -/
def may (s : PS) : Bool := !s.fused || s.fuse != 0
/-- Behind it. -/
def acted (s : PS) : PS := if s.fused then (if s.fuse = 0 then { s with down := true } else { s with fuse := s.fuse - 1 }) else s
def bad (s : PS) (n : Int) (l : List UInt8) : Bool := !s.has n || decide (1024 < l.length)
def writeE (s : PS) (n : Int) (l : List UInt8) : Int := if s.down then 40 else if s.bad n l then 41 else if s.may then 0 else 40
def lay (s : PS) (n : Int) (l : List UInt8) : PS := { s with W := fun j => if j = n then some l else s.W j }
def written (s : PS) (n : Int) (l : List UInt8) : PS := if s.down then s else if s.bad n l then s else if s.may then s.acted.lay n l else s.acted
def flushE (s : PS) : Int := if s.down then 40 else if s.may then 0 else 40
/-- What waits in a sector lasts. -/
def settled (s : PS) (n : Int) : PS := { s with L := fun j => if j = n then s.held n else s.L j }
def all (s : PS) : PS := { s with L := s.held, W := fun _ => none }
def flushed (s : PS) : PS := if s.down then s else if s.may then s.acted.all else s.acted
def fusing (s : PS) (k : Int) : PS := { s with fused := decide (0 ≤ k), fuse := k.toNat }
def kept (s : PS) (keep : List Int) : PS := { s with L := fun j => if j ∈ keep then s.held j else s.L j }
def restarted (s : PS) (keep : List Int) : PS := { s.kept keep with W := fun _ => none, down := false, fused := false, fuse := 0 }
def turnE (s : PS) (n at_ : Int) : Int := if s.has n then (if s.held n = [] ∨ at_ < 0 then 1 else 0) else 41
/-- The bytes, one turned. -/
def twist (l : List UInt8) (at_ : Int) (by_ : UInt8) : List UInt8 := l.modify (at_ % (l.length : Int)).toNat (· ^^^ by_)
def turned (s : PS) (n at_ : Int) (by_ : UInt8) : PS :=
  if s.has n then (if s.held n = [] ∨ at_ < 0 then s else
    match s.W n with
    | some l => s.lay n (twist l at_ by_)
    | none => { s with L := fun j => if j = n then twist (s.L n) at_ by_ else s.L j }) else s

/-- What may be: sectors that are there hold bytes alone, not too many. -/
structure Ok (s : PS) : Prop where
  l : ∀ i, s.L i ≠ [] → 0 ≤ i ∧ i < (s.size : Int)
  w : ∀ i, s.W i ≠ none → 0 ≤ i ∧ i < (s.size : Int)
  ll : ∀ i, (s.L i).length ≤ 1024
  wl : ∀ i l, s.W i = some l → l.length ≤ 1024

def lastsOf (s : PS) : List (Int × List UInt8) := ((List.range s.size).map fun k : Nat => ((k : Int), s.L (k : Int))).filter fun p => !p.2.isEmpty
def waitsOf (s : PS) : List (Int × List UInt8) := (List.range s.size).filterMap fun k : Nat => (s.W (k : Int)).map fun l => ((k : Int), l)

end PS
end Go.Proofs.Ytgkdlbcpckdmkaa
