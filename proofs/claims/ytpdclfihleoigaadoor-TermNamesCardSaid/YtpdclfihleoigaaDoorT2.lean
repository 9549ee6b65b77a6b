/- What Check tells of a tree: plain. No condition but those that each theorem names. -/
import Derived.Test.YtpdclfihleoigaaDoorT1
namespace Go.Proofs.YtpdclfihleoigaaDoor

/-- Are the fields those of the kind? -/
def fieldsOk (t : Tm) : Bool :=
  decide (1 ≤ t.kind) && decide (t.kind ≤ 5) && (decide (t.kind = 2) || decide (t.kind = 5) || t.name.toList.isEmpty) && (decide (t.kind = 3) || t.num.toList.isEmpty) && (decide (t.kind = 4) || decide (t.bits = 0)) &&
    (decide (t.kind = 1) || decide (t.var = 0)) && decide (0 ≤ t.var) && (if t.kind = 5 then decide (0 < t.args.length) && decide (t.args.length ≤ 64) else decide (t.args.length = 0))
section
variable (vn vi : ByteArray → Bool) (vb : Int → Bool)
/-- What is wrong with a node: vn tells of names, vi of an integer's text, vb of a float's bits. -/
def nodeErr (t : Tm) : Int :=
  if fieldsOk t = false then 20 else if (decide (t.name.size ≤ 1000) && vn t.name) = false then 21 else if t.kind = 3 ∧ vi t.num = false then 22 else if t.kind = 4 ∧ vb t.bits = false then 23 else 0
mutual
def treeErr : Tm → Int
  | .mk k n u b v l => if nodeErr vn vi vb (.mk k n u b v l) = 0 then rowErr l else nodeErr vn vi vb (.mk k n u b v l)
def rowErr : List Tm → Int
  | [] => 0
  | t :: l => if treeErr t = 0 then rowErr l else treeErr t
end
theorem treeErr_args (t : Tm) : treeErr vn vi vb t = if nodeErr vn vi vb t = 0 then rowErr vn vi vb t.args else nodeErr vn vi vb t := by
  cases t; simp [treeErr, Tm.args]
theorem rowErr_drop : ∀ (l : List Tm) (k : Nat) (h : k < l.length), rowErr vn vi vb (l.drop k) = if treeErr vn vi vb l[k] = 0 then rowErr vn vi vb (l.drop (k + 1)) else treeErr vn vi vb l[k]
  | [], k, h => by simp at h
  | t :: l, 0, _ => by simp [rowErr]
  | t :: l, k + 1, h => by
    have := rowErr_drop l k (by simpa using h)
    simpa using this
/-- What Check tells. -/
def checkErr (t : Tm) : Int := if 4000 < nodes t then 24 else treeErr vn vi vb t
/-- The first that is wrong. -/
def checksErr : List Tm → Int
  | [] => 0
  | t :: l => if checkErr vn vi vb t = 0 then checksErr l else checkErr vn vi vb t
theorem checksErr_drop : ∀ (l : List Tm) (k : Nat) (h : k < l.length), checksErr vn vi vb (l.drop k) = if checkErr vn vi vb l[k] = 0 then checksErr vn vi vb (l.drop (k + 1)) else checkErr vn vi vb l[k]
  | [], k, h => by simp at h
  | t :: l, 0, _ => by simp [checksErr]
  | t :: l, k + 1, h => by
    have := checksErr_drop l k (by simpa using h)
    simpa using this
end
end Go.Proofs.YtpdclfihleoigaaDoor
