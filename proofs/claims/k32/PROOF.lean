import PyProof.Rows.All
import Wide.All
import OpenK.AllK
import Wide.FinOn
import HandS.Base
import HandS.Call
import HandS.List
import HandS.Comp
import HandS.Ends
import HandS.Iter
import HandS.Text
import HandS.Words
import HandS.WordsList
import HandS.IsInst
import HandS.Defaults
import HandS.TupLe
import HandS.Wide
import HandS.Lambda
import HandS.TupAny
import HandS.Deep
import HandS.Sort
import HandS.Style
import HandS.SortRule
import KE.KxText
import HandS.NoneIn
import HandS.SortKw
import HandS.MakeKwOnly
import HandS.FStr
import KE.DataCmp
import HandS.Exc
import HandS.ExcOwn
import HandS.ExcInit
import HandS.ExcField
import HandS.ExcIs
import HandS.WordsExc
import KE.KExcIs
import HandS.Zip
import KE.GoesEnumKw
import KE.GoesEnum
import HandS.Codes
import PyProof.StrBlock2
import HandS.Flow
import HandS.Dict
import HandS.Replace
import PyProof.PureStr
import KE.GoesMore
import HandS.SetFor
import HandS.Strs
import HandS.DictComp
import KE.SortKeyHeap
import HandS.JoinGen
import HandS.EndTab
import HandS.NestedK
import KE.KNestM
import PySem.Challenge.RW_oldways_k32_sheets_asked
set_option Elab.async false
set_option linter.all false
set_option maxRecDepth 100000
namespace DL
open PySem PySem.Spec PyProof.Rows L2
/-- the tables of code objects that may grow, and the name that all of a table's code objects bear -/
class Tbl where
  T : List (Addr × Str)
variable [Tbl]

/-! ### data -/
inductive D where
  | non | bl (b : Bool) | int (i : Int) | str (x : Str) | lst (xs : List D) | tup (xs : List D) | obj (C : Addr) (fs : List (Str × D))
mutual
def D.py : D → PyData
  | .non => .none
  | .bl b => .bool b
  | .int i => .int i
  | .str x => .str x
  | .lst xs => .list (D.pyAll xs)
  | .tup xs => .tuple (D.pyAll xs)
  | .obj _ _ => .none
def D.pyAll : List D → List PyData
  | [] => []
  | d :: ds => D.py d :: D.pyAll ds
end
mutual
def D.plain : D → Bool
  | .non => true
  | .bl _ => true
  | .int _ => true
  | .str _ => true
  | .lst xs => D.plainAll xs
  | .tup xs => D.plainAll xs
  | .obj _ _ => false
def D.plainAll : List D → Bool
  | [] => true
  | d :: ds => D.plain d && D.plainAll ds
end

abbrev AP := Addr → Prop
def AP.add (M : AP) (a : Addr) : AP := fun b => M b ∨ b = a
def MutO : HO → Prop
  | .lst _ => True
  | .ins _ _ _ => True
  | .tbl _ => True
  | _ => False

/-- tuples stay -/
structure TK (K : PySem.W.Frag) (H H' : Hp) : Prop where
  t : ∀ a vs, H a = some (.tup vs) → H' a = some (.tup vs)
  s : ∀ a vs, SqT K H a vs → SqT K H' a vs
theorem TK.refl (K : PySem.W.Frag) (H : Hp) : TK K H H := ⟨fun _ _ h => h, fun _ _ h => h⟩
/-- a tuple of the module's own objects, as it stands in K -/
def TupK (K : PySem.W.Frag) (a : Addr) (xs : List V) : Prop := ∃ o its n, K.lookup a = some o ∧ o.cls = .type "tuple" ∧ o.data = .seq its n ∧ its.size ≤ sizeLine ∧ Vals xs its.toList
def D.txt : List D → Bool
  | [] => true
  | .str _ :: ds => D.txt ds
  | _ :: _ => false
mutual
inductive Is (K : PySem.W.Frag) (M : AP) (H : Hp) : V → D → Prop
  | non : Is K M H .non .non
  | bl (b : Bool) : Is K M H (.bl b) (.bl b)
  | int (i : Int) : Is K M H (.int i) (.int i)
  | str (x : Str) : Is K M H (.str x) (.str x)
  | lst {a : Addr} {vs : List V} {ds : List D} : H a = some (.lst vs) → ¬ M a → IsAll K M H vs ds → Is K M H (.ref a) (.lst ds)
  | tup {a : Addr} {vs : List V} {ds : List D} : H a = some (.tup vs) → IsAll K M H vs ds → Is K M H (.ref a) (.tup ds)
  | tup0 {a : Addr} : SqT K H a [] → Is K M H (.ref a) (.tup [])
  | tupK {a : Addr} {vs : List V} {ds : List D} : TupK K a vs → IsAll K M H vs ds → D.txt ds = true → Is K M H (.ref a) (.tup ds)
  | obj {a C dx : Addr} {fs : List (Str × V)} {ds : List (Str × D)} : H a = some (.ins C dx fs) → ¬ M a → IsFs K M H fs ds → Is K M H (.ref a) (.obj C ds)
inductive IsAll (K : PySem.W.Frag) (M : AP) (H : Hp) : List V → List D → Prop
  | nil : IsAll K M H [] []
  | cons {v : V} {vs : List V} {d : D} {ds : List D} : Is K M H v d → IsAll K M H vs ds → IsAll K M H (v :: vs) (d :: ds)
inductive IsFs (K : PySem.W.Frag) (M : AP) (H : Hp) : List (Str × V) → List (Str × D) → Prop
  | nil : IsFs K M H [] []
  | cons {x : Str} {v : V} {vs : List (Str × V)} {d : D} {ds : List (Str × D)} : Is K M H v d → IsFs K M H vs ds → IsFs K M H ((x, v) :: vs) ((x, d) :: ds)
end
section
variable {K : PySem.W.Frag} {M M' : AP} {H H' : Hp}
mutual
theorem Is.chg (k1 : ∀ a o, H a = some o → ¬ M a → H' a = some o ∧ ¬ M' a) (k2 : TK K H H') : ∀ (d : D) (v : V), Is K M H v d → Is K M' H' v d
  | .non, _, h => by cases h; exact .non
  | .bl _, _, h => by cases h; exact .bl _
  | .int _, _, h => by cases h; exact .int _
  | .str _, _, h => by cases h; exact .str _
  | .lst ds, _, h => by
    cases h with
    | lst h1 h2 h3 => exact .lst (k1 _ _ h1 h2).1 (k1 _ _ h1 h2).2 (IsAll.chg k1 k2 ds _ h3)
  | .tup ds, _, h => by
    cases h with
    | tup h1 h3 => exact .tup (k2.t _ _ h1) (IsAll.chg k1 k2 ds _ h3)
    | tup0 h1 => exact .tup0 (k2.s _ _ h1)
    | tupK h1 h3 h4 => exact .tupK h1 (IsAll.chg k1 k2 ds _ h3) h4
  | .obj C ds, _, h => by
    cases h with
    | obj h1 h2 h3 => exact .obj (k1 _ _ h1 h2).1 (k1 _ _ h1 h2).2 (IsFs.chg k1 k2 ds _ h3)
theorem IsAll.chg (k1 : ∀ a o, H a = some o → ¬ M a → H' a = some o ∧ ¬ M' a) (k2 : TK K H H') : ∀ (ds : List D) (vs : List V), IsAll K M H vs ds → IsAll K M' H' vs ds
  | [], _, h => by cases h; exact .nil
  | d :: ds, _, h => by
    cases h with
    | cons h1 h2 => exact .cons (Is.chg k1 k2 d _ h1) (IsAll.chg k1 k2 ds _ h2)
theorem IsFs.chg (k1 : ∀ a o, H a = some o → ¬ M a → H' a = some o ∧ ¬ M' a) (k2 : TK K H H') : ∀ (ds : List (Str × D)) (vs : List (Str × V)), IsFs K M H vs ds → IsFs K M' H' vs ds
  | [], _, h => by cases h; exact .nil
  | (x, d) :: ds, _, h => by
    cases h with
    | cons h1 h2 => exact .cons (Is.chg k1 k2 d _ h1) (IsFs.chg k1 k2 ds _ h2)
end
mutual
theorem Is.dp : ∀ (d : D) (v : V), Is K M H v d → d.plain = true → Dp K H v d.py
  | .non, _, h, _ => by cases h; exact .non
  | .bl _, _, h, _ => by cases h; exact .bl _
  | .int _, _, h, _ => by cases h; exact .int _
  | .str _, _, h, _ => by cases h; exact .str _
  | .lst ds, _, h, p => by
    cases h with
    | lst h1 h2 h3 => exact .lst (.inl (.inl h1)) (IsAll.dp ds _ h3 p)
  | .tup ds, _, h, p => by
    cases h with
    | tup h1 h3 => exact .tup (.inl (.inl h1)) (IsAll.dp ds _ h3 p)
    | tup0 h1 => exact .tup h1 .nil
    | tupK h1 h3 _ => exact .tup (.inr h1) (IsAll.dp ds _ h3 p)
  | .obj C ds, _, h, p => by cases p
theorem IsAll.dp : ∀ (ds : List D) (vs : List V), IsAll K M H vs ds → D.plainAll ds = true → DpAll K H vs (D.pyAll ds)
  | [], _, h, _ => by cases h; exact .nil
  | d :: ds, _, h, p => by
    have p' : (D.plain d && D.plainAll ds) = true := p
    rw [Bool.and_eq_true] at p'
    cases h with
    | cons h1 h2 => exact .cons (Is.dp d _ h1 p'.1) (IsAll.dp ds _ h2 p'.2)
end
theorem IsAll.len : ∀ {ds : List D} {vs : List V}, IsAll K M H vs ds → vs.length = ds.length
  | _, _, .nil => rfl
  | _, _, .cons _ h => congrArg (· + 1) h.len
theorem IsAll.get : ∀ {ds : List D} {vs : List V} {i : Nat} {d : D}, IsAll K M H vs ds → ds[i]? = some d → ∃ v, vs[i]? = some v ∧ Is K M H v d
  | _, _, _, _, .nil, e => by simp at e
  | _, _, 0, _, .cons h _, e => by simp at e; subst e; exact ⟨_, rfl, h⟩
  | _, _, i + 1, _, .cons _ h, e => by
    obtain ⟨v, h1, h2⟩ := IsAll.get (i := i) h (by simpa using e)
    exact ⟨v, by simpa using h1, h2⟩
theorem IsAll.getV {ds : List D} {vs : List V} {i : Nat} {v : V} (h : IsAll K M H vs ds) (e : vs[i]? = some v) : ∃ d, ds[i]? = some d ∧ Is K M H v d := by
  have hi : i < ds.length := by
    have := (List.getElem?_eq_some_iff.mp e).1
    rw [h.len] at this
    exact this
  obtain ⟨w, e1, h1⟩ := h.get (List.getElem?_eq_getElem hi)
  rw [e] at e1
  cases e1
  exact ⟨_, List.getElem?_eq_getElem hi, h1⟩
theorem IsAll.append : ∀ {ds es : List D} {vs ws : List V}, IsAll K M H vs ds → IsAll K M H ws es → IsAll K M H (vs ++ ws) (ds ++ es)
  | _, _, _, _, .nil, s => s
  | _, _, _, _, .cons r t, s => .cons r (IsAll.append t s)
theorem IsAll.take : ∀ {ds : List D} {vs : List V} (n : Nat), IsAll K M H vs ds → IsAll K M H (vs.take n) (ds.take n)
  | _, _, 0, _ => .nil
  | _, _, _ + 1, .nil => .nil
  | _, _, n + 1, .cons r t => .cons r (IsAll.take n t)
theorem IsAll.drop : ∀ {ds : List D} {vs : List V} (n : Nat), IsAll K M H vs ds → IsAll K M H (vs.drop n) (ds.drop n)
  | _, _, 0, r => r
  | _, _, _ + 1, .nil => .nil
  | _, _, n + 1, .cons _ t => IsAll.drop n t
theorem IsAll.set {d : D} {v : V} (r : Is K M H v d) : ∀ {ds : List D} {vs : List V} (i : Nat), IsAll K M H vs ds → IsAll K M H (vs.set i v) (ds.set i d)
  | _, _, _, .nil => .nil
  | _, _, 0, .cons _ t => .cons r t
  | _, _, i + 1, .cons q t => .cons q (IsAll.set r i t)
theorem IsAll.ints : ∀ (ns : List Int), IsAll K M H (ns.map V.int) (ns.map D.int)
  | [] => .nil
  | n :: ns => .cons (.int n) (IsAll.ints ns)
theorem IsAll.ofInts : ∀ {ns : List Int} {vs : List V}, IsAll K M H vs (ns.map D.int) → vs = ns.map V.int
  | [], _, h => by cases h; rfl
  | n :: ns, _, h => by
    cases h with
    | cons h1 h2 =>
      cases h1
      rw [List.map_cons, IsAll.ofInts h2]
theorem IsAll.ofStrs : ∀ {ns : List Str} {vs : List V}, IsAll K M H vs (ns.map D.str) → vs = ns.map V.str
  | [], _, h => by cases h; rfl
  | n :: ns, _, h => by
    cases h with
    | cons h1 h2 =>
      cases h1
      rw [List.map_cons, IsAll.ofStrs h2]
theorem IsAll.ofBls : ∀ {ns : List Bool} {vs : List V}, IsAll K M H vs (ns.map D.bl) → vs = ns.map V.bl
  | [], _, h => by cases h; rfl
  | n :: ns, _, h => by
    cases h with
    | cons h1 h2 =>
      cases h1
      rw [List.map_cons, IsAll.ofBls h2]
theorem IsFs.look {f : Str} : ∀ {ds : List (Str × D)} {vs : List (Str × V)} {d : D}, IsFs K M H vs ds → ds.lookup f = some d → ∃ v, vs.lookup f = some v ∧ Is K M H v d
  | _, _, _, .nil, e => by simp at e
  | _, _, _, .cons (x := x) h t, e => by
    rw [List.lookup_cons] at e
    rw [List.lookup_cons]
    cases hx : (f == x) with
    | true =>
      rw [hx] at e
      cases e
      exact ⟨_, rfl, h⟩
    | false =>
      rw [hx] at e
      exact IsFs.look t e
theorem IsFs.lookN {f : Str} : ∀ {ds : List (Str × D)} {vs : List (Str × V)}, IsFs K M H vs ds → ds.lookup f = none → vs.lookup f = none
  | _, _, .nil, e => rfl
  | _, _, .cons (x := x) h t, e => by
    rw [List.lookup_cons] at e
    rw [List.lookup_cons]
    cases hx : (f == x) with
    | true =>
      rw [hx] at e
      cases e
    | false =>
      rw [hx] at e
      exact IsFs.lookN t e
end

/-! ### bags, what is kept -/
/-- a bag of the law's, or a table -/
def BagAt (H : Hp) (a : Addr) : Prop := ((∃ g m : Int, H a = some (.lst [.int g, .int m])) ∧ ∀ q, (a, q) ∉ Tbl.T) ∨ ∃ q, (a, q) ∈ Tbl.T ∧ LamX.TabS H a q
theorem BagAt.some {H : Hp} {a : Addr} (h : BagAt H a) : ∃ o, H a = some o ∧ MutO o ∧ ((∃ g m : Int, o = .lst [.int g, .int m]) ∨ ∃ ps, o = .tbl ps) := by
  rcases h with ⟨⟨g, m, h⟩, _⟩ | ⟨q, _, ps, h, _⟩
  · exact ⟨_, h, trivial, .inl ⟨g, m, rfl⟩⟩
  · exact ⟨_, h, trivial, .inr ⟨ps, rfl⟩⟩
theorem BagAt.ne {H : Hp} {a : Addr} (h : BagAt H a) (e : H a = none) : False := by
  obtain ⟨o, h, _⟩ := h.some
  rw [e] at h
  cases h
theorem BagAt.no {H : Hp} {a : Addr} {o : HO} (h : BagAt H a) (e : H a = Option.some o) (n1 : ∀ g m : Int, o ≠ .lst [.int g, .int m]) (n2 : ∀ ps, o ≠ .tbl ps) : False := by
  obtain ⟨o', h, _, h2⟩ := h.some
  rw [e] at h
  cases h
  rcases h2 with ⟨g, m, h2⟩ | ⟨ps, h2⟩
  · exact n1 g m h2
  · exact n2 ps h2
theorem BagAt.keep {H H' : Hp} {a : Addr} (h : BagAt H a) (k : H' a = H a) (kc : ∀ c q, H c = Option.some (LamX.CodeO c q) → H' c = Option.some (LamX.CodeO c q)) : BagAt H' a := by
  rcases h with ⟨⟨g, m, h⟩, nt⟩ | ⟨q, hq, ps, h, h2, h3⟩
  · exact .inl ⟨⟨g, m, k.trans h⟩, nt⟩
  · refine .inr ⟨q, hq, ps, k.trans h, h2, fun pos cv hc => ?_⟩
    obtain ⟨c, e1, e2⟩ := h3 pos cv hc
    exact ⟨c, e1, kc c q e2⟩
/-- another object is written, no code object -/
theorem BagAt.upd {H : Hp} {a b : Addr} {o : HO} (h : BagAt H b) (ne : b ≠ a) (nc : ∀ q, H a ≠ Option.some (LamX.CodeO a q)) : BagAt (L2.upd H a o) b :=
  h.keep (upd_ne ne) fun c q e => by rw [upd_ne (fun z => nc q (by rw [← z]; exact e))]; exact e
theorem BagAt.bag {H : Hp} {a : Addr} (h : BagAt H a) (n : ∀ q, (a, q) ∉ Tbl.T) : ∃ g m : Int, H a = Option.some (.lst [.int g, .int m]) := by
  rcases h with h | ⟨q, hq, _⟩
  · exact h.1
  · exact absurd hq (n q)
theorem BagAt.tab {H : Hp} {a : Addr} {q : Str} (h : BagAt H a) (hq : (a, q) ∈ Tbl.T) (one : ∀ q', (a, q') ∈ Tbl.T → q' = q) : LamX.TabS H a q := by
  rcases h with h | ⟨q', h', t⟩
  · exact absurd hq (h.2 q)
  · rw [one q' h'] at t
    exact t
theorem nc_lst {H : Hp} {a : Addr} {vs : List V} (h : H a = Option.some (.lst vs)) (q : Str) : H a ≠ Option.some (LamX.CodeO a q) := fun e => by
  rw [h] at e
  unfold LamX.CodeO at e
  cases e
theorem nc_dk {H : Hp} {a : Addr} {vs : List (Key × V)} (h : H a = Option.some (.dK vs)) (q : Str) : H a ≠ Option.some (LamX.CodeO a q) := fun e => by
  rw [h] at e
  unfold LamX.CodeO at e
  cases e
theorem nc_non {H : Hp} {a : Addr} (h : H a = none) (q : Str) : H a ≠ Option.some (LamX.CodeO a q) := fun e => by
  rw [h] at e
  cases e
structure Kp (L : AP) (H H' : Hp) : Prop where
  k : ∀ a o, ¬ L a → H a = some o → H' a = some o
  b : ∀ a, L a → BagAt H' a
structure Bs (L M : AP) (H : Hp) : Prop where
  lm : ∀ a, L a → M a
  tr : ∀ a o, M a → H a = some o → MutO o
  tk : ∀ a, M a → ∃ o, H a = some o
  bag : ∀ a, L a → BagAt H a
  tb : ∀ a q, (a, q) ∈ Tbl.T → L a
theorem sqt_keep {K : PySem.W.Frag} {M : AP} {H H' : Hp} (k : ∀ a o, ¬ M a → H a = some o → H' a = some o) (tr : ∀ a o, M a → H a = some o → MutO o) : TK K H H' := by
  have kt : ∀ a vs, H a = some (.tup vs) → H' a = some (.tup vs) := fun a vs h => k a _ (fun m => tr a _ m h) h
  refine ⟨kt, fun a vs h => ?_⟩
  rcases h with (h | ⟨o, h⟩) | h
  · exact .inl (.inl (kt a vs h))
  · exact .inl (.inr ⟨o, k a _ (fun m => tr a _ m h) h⟩)
  · exact .inr h
/-- a tuple as it is read -/
theorem Is.tupS {K : PySem.W.Frag} {M : AP} {H : Hp} {v : V} {ds : List D} (h : Is K M H v (.tup ds)) : ∃ a vs, v = .ref a ∧ SqT K H a vs ∧ IsAll K M H vs ds := by
  cases h with
  | tup h1 h2 => exact ⟨_, _, rfl, .inl (.inl h1), h2⟩
  | tup0 h1 => exact ⟨_, _, rfl, h1, .nil⟩
  | tupK h1 h2 _ => exact ⟨_, _, rfl, .inr h1, h2⟩
section
variable {K : PySem.W.Frag} {L M M' : AP} {H H1 H2 H' : Hp}
theorem Kp.refl (bs : Bs L M H) : Kp L H H := ⟨fun _ _ _ h => h, bs.bag⟩
theorem Kp.trans (a : Kp L H H1) (b : Kp L H1 H2) : Kp L H H2 := ⟨fun x o l h => b.k x o l (a.k x o l h), b.b⟩
theorem Kp.bs (k : Kp L H H') (bs : Bs L M H) : Bs L M H' where
  lm := bs.lm
  tb := bs.tb
  tr := fun a o m e => by
    by_cases l : L a
    · obtain ⟨o', q, mo, _⟩ := (k.b a l).some
      rw [q] at e; cases e; exact mo
    · obtain ⟨o', q⟩ := bs.tk a m
      have q' := k.k a o' l q
      rw [q'] at e; cases e; exact bs.tr a _ m q
  tk := fun a m => by
    by_cases l : L a
    · obtain ⟨o', q, _⟩ := (k.b a l).some
      exact ⟨_, q⟩
    · obtain ⟨o', q⟩ := bs.tk a m
      exact ⟨_, k.k a o' l q⟩
  bag := k.b
theorem Kp.was (k : Kp L H H') {a : Addr} (h : H' a = none) : H a = none := by
  cases q : H a with
  | none => rfl
  | some o =>
    by_cases l : L a
    · exact ((k.b a l).ne h).elim
    · rw [k.k a o l q] at h; cases h
theorem Kp.new (bs : Bs L M H) {p : Addr} {o : HO} (h : H p = none) : Kp L H (upd H p o) := ⟨fun a u _ e => by
    rw [upd_ne (ne_of_none e h)]; exact e, fun a l => by
    exact (bs.bag a l).upd (fun z => (bs.bag a l).ne (by rw [z]; exact h)) (nc_non h)⟩
theorem Is.kp (k : Kp L H H') (bs : Bs L M H) {d : D} {v : V} (h : Is K M H v d) : Is K M H' v d :=
  Is.chg (fun a o e m => ⟨k.k a o (fun l => m (bs.lm a l)) e, m⟩) (sqt_keep (M := M) (fun a o m e => k.k a o (fun l => m (bs.lm a l)) e) bs.tr) d v h
theorem IsAll.kp (k : Kp L H H') (bs : Bs L M H) {d : List D} {v : List V} (h : IsAll K M H v d) : IsAll K M H' v d :=
  IsAll.chg (fun a o e m => ⟨k.k a o (fun l => m (bs.lm a l)) e, m⟩) (sqt_keep (M := M) (fun a o m e => k.k a o (fun l => m (bs.lm a l)) e) bs.tr) d v h
/-- other mutable ones, the heap as it is -/
theorem Is.sub (h : ∀ a, M' a → M a) {d : D} {v : V} (x : Is K M H v d) : Is K M' H v d := Is.chg (fun a o e m => ⟨e, fun q => m (h a q)⟩) (TK.refl K H) d v x
theorem IsAll.sub (h : ∀ a, M' a → M a) {d : List D} {v : List V} (x : IsAll K M H v d) : IsAll K M' H v d := IsAll.chg (fun a o e m => ⟨e, fun q => m (h a q)⟩) (TK.refl K H) d v x
theorem Is.add {a : Addr} (h : H a = none) {d : D} {v : V} (x : Is K M H v d) : Is K (M.add a) H v d := Is.chg (fun b o e m => ⟨e, fun q => q.elim m fun z => by subst z; rw [h] at e; cases e⟩) (TK.refl K H) d v x
theorem IsAll.add {a : Addr} (h : H a = none) {d : List D} {v : List V} (x : IsAll K M H v d) : IsAll K (M.add a) H v d := IsAll.chg (fun b o e m => ⟨e, fun q => q.elim m fun z => by subst z; rw [h] at e; cases e⟩) (TK.refl K H) d v x
theorem AP.sub_add {a : Addr} : ∀ b, M b → (M.add a) b := fun _ h => .inl h
theorem Bs.add (bs : Bs L M H) {a : Addr} {xs : List V} (h : H a = some (.lst xs)) : Bs L (M.add a) H where
  lm := fun b l => .inl (bs.lm b l)
  tr := fun b o m e => m.elim (fun z => bs.tr b o z e) fun z => by subst z; rw [h] at e; cases e; exact True.intro
  tk := fun b m => m.elim (fun z => bs.tk b z) fun z => by subst z; exact ⟨_, h⟩
  bag := bs.bag
  tb := bs.tb
end

/-! ### what a name holds -/
inductive SV where
  | d (x : D) | own (xs : List D) | new (xs : List D) | bag | scr (ns : List Int) | rng (lo hi : Int) | ty (n : String) | cls (C : Addr) | dic (kvs : List (Str × Str)) | dcd (kvs : List (Int × D))
/-- the script: locked, or one of the module's lists -/
def Scr (K : PySem.W.Frag) (H : Hp) (a : Addr) (ns : List Int) : Prop := (∃ o, H a = some (.frz o (.lst (ns.map V.int)))) ∨ SqL K (fun _ => none) a (ns.map V.int)
theorem Scr.sql {K : PySem.W.Frag} {H : Hp} {a : Addr} {ns : List Int} (h : Scr K H a ns) : SqL K H a (ns.map V.int) := by
  rcases h with ⟨o, h⟩ | (h | ⟨o, h⟩) | h
  · exact .inl (.inr ⟨o, h⟩)
  · cases h
  · cases h
  · exact .inr h
theorem Scr.keep {K : PySem.W.Frag} {H H' : Hp} {a : Addr} {ns : List Int} (k : ∀ b o u, H b = some (.frz o u) → H' b = some (.frz o u)) (h : Scr K H a ns) : Scr K H' a ns := by
  rcases h with ⟨o, h⟩ | h
  · exact .inl ⟨o, k _ _ _ h⟩
  · exact .inr h
def dicV (kvs : List (Str × Str)) : List (Key × V) := kvs.map fun kv => (Sum.inr kv.1, V.str kv.2)
/-- a dict at a with ints as keys, its values data -/
def DcdOk (K : PySem.W.Frag) (M : AP) (H : Hp) (a : Addr) (kvs : List (Int × D)) : Prop := ∃ ps : List (Int × V), H a = some (.dK (ps.map fun p => ((Sum.inl p.1 : Key), p.2))) ∧ ps.map Prod.fst = kvs.map Prod.fst ∧ IsAll K M H (ps.map Prod.snd) (kvs.map Prod.snd)
def SvOk (K : PySem.W.Frag) (N M L : AP) (H0 H : Hp) (v : V) : SV → Prop
  | .d x => Is K M H v x
  | .own xs => ∃ a vs, v = .ref a ∧ M a ∧ N a ∧ ¬ L a ∧ H a = some (.lst vs) ∧ IsAll K M H vs xs
  | .new xs => ∃ a vs, v = .ref a ∧ H0 a = none ∧ H a = some (.lst vs) ∧ IsAll K (M.add a) H vs xs
  | .bag => ∃ a, v = .ref a ∧ L a ∧ ∀ q, (a, q) ∉ Tbl.T
  | .scr ns => ∃ a, v = .ref a ∧ Scr K H a ns
  | .rng lo hi => ∃ a, v = .ref a ∧ H a = some (.rng lo hi)
  | .dic kvs => ∃ a, v = .ref a ∧ H a = some (.dK (dicV kvs))
  | .dcd kvs => ∃ a, v = .ref a ∧ DcdOk K M H a kvs
  | .ty n => v = .ty n
  | .cls C => v = .ref C
/-- a list or a tuple that a loop goes over -/
structure Pin where
  a : Addr
  vs : List V
  ds : List D
  tup : Bool
def PinOk (K : PySem.W.Frag) (M : AP) (H : Hp) (p : Pin) : Prop := (if p.tup = true then SqT K H p.a p.vs else H p.a = some (.lst p.vs) ∧ ¬ M p.a) ∧ IsAll K M H p.vs p.ds
theorem PinOk.chg {K : PySem.W.Frag} {M M' : AP} {H H' : Hp} (k1 : ∀ a o, H a = some o → ¬ M a → H' a = some o ∧ ¬ M' a) (k2 : TK K H H') {p : Pin} (h : PinOk K M H p) : PinOk K M' H' p := by
  refine ⟨?_, IsAll.chg k1 k2 _ _ h.2⟩
  have h1 := h.1
  by_cases t : p.tup = true
  · rw [if_pos t] at h1 ⊢
    exact k2.s _ _ h1
  · rw [if_neg t] at h1 ⊢
    exact k1 _ _ h1.1 h1.2
abbrev Env' := List (Option SV)
structure Sts (K : PySem.W.Frag) (P : List Pin) (N M L : AP) (σ : L2.St) (H : Hp) (es : Env') : Prop where
  bs : Bs L M H
  len : σ.length = es.length
  ok : ∀ (i : Nat) (s : SV), es[i]? = some (some s) → ∃ v, σ[i]? = some (some v) ∧ SvOk K N M L H H v s
  pin : ∀ p ∈ P, PinOk K M H p
  sep : ∀ (i j : Nat) (a : Addr) (xs ys : List D), i ≠ j → es[i]? = some (some (.own xs)) → es[j]? = some (some (.own ys)) → σ[i]? = some (some (.ref a)) → σ[j]? ≠ some (some (.ref a))
section
variable {K : PySem.W.Frag} {N L M M' : AP} {H0 H H1 H2 H' : Hp}
theorem frz_keep (k : Kp L H H') (bs : Bs L M H) : ∀ b o u, H b = some (.frz o u) → H' b = some (.frz o u) := fun b o u e => k.k b _ (fun l => bs.tr b _ (bs.lm b l) e) e
theorem SvOk.kp (bs0 : Bs L M H0) (k0 : Kp L H0 H) (k : Kp L H H') {v : V} {s : SV} (h : SvOk K N M L H0 H v s) : SvOk K N M L H0 H' v s := by
  have bs := k0.bs bs0
  cases s with
  | d x => exact Is.kp k bs h
  | own xs =>
    obtain ⟨a, vs, e, m, n, l, h1, h2⟩ := h
    exact ⟨a, vs, e, m, n, l, k.k _ _ l h1, IsAll.kp k bs h2⟩
  | new xs =>
    obtain ⟨a, vs, e, n, h1, h2⟩ := h
    have l : ¬ L a := fun l => by
      exact (bs0.bag a l).ne n
    exact ⟨a, vs, e, n, k.k _ _ l h1, IsAll.kp k (bs.add h1) h2⟩
  | bag => exact h
  | scr ns =>
    obtain ⟨a, e, h1⟩ := h
    exact ⟨a, e, h1.keep (frz_keep k bs)⟩
  | rng lo hi =>
    obtain ⟨a, e, h1⟩ := h
    exact ⟨a, e, k.k _ _ (fun l => (bs.bag a l).no h1 (fun _ _ z => by cases z) (fun _ z => by cases z)) h1⟩
  | dic kvs =>
    obtain ⟨a, e, h1⟩ := h
    exact ⟨a, e, k.k _ _ (fun l => (bs.bag a l).no h1 (fun _ _ z => by cases z) (fun _ z => by cases z)) h1⟩
  | dcd kvs =>
    obtain ⟨a, e, ps, h1, h2, h3⟩ := h
    exact ⟨a, e, ps, k.k _ _ (fun l => (bs.bag a l).no h1 (fun _ _ z => by cases z) (fun _ z => by cases z)) h1, h2, IsAll.kp k bs h3⟩
  | ty n => exact h
  | cls C => exact h
/-- a base farther back -/
theorem SvOk.back (k0 : Kp L H0 H1) {v : V} {s : SV} (h : SvOk K N M L H1 H v s) : SvOk K N M L H0 H v s := by
  cases s with
  | new xs =>
    obtain ⟨a, vs, e, n, h1, h2⟩ := h
    exact ⟨a, vs, e, k0.was n, h1, h2⟩
  | _ => exact h
theorem Sts.kp (S : Sts K P N M L σ H es) (k : Kp L H H') : Sts K P N M L σ H' es where
  bs := k.bs S.bs
  len := S.len
  ok := fun i s e => by
    obtain ⟨v, h1, h2⟩ := S.ok i s e
    refine ⟨v, h1, ?_⟩
    have := SvOk.kp S.bs (Kp.refl S.bs) k h2
    cases s with
    | new xs =>
      obtain ⟨a, vs, e, n, h1, h2⟩ := h2
      rw [n] at h1; cases h1
    | _ => exact this
  pin := fun p hp => PinOk.chg (fun a o e m => ⟨k.k a o (fun l => m (S.bs.lm a l)) e, m⟩) (sqt_keep (M := M) (fun a o m e => k.k a o (fun l => m (S.bs.lm a l)) e) S.bs.tr) (S.pin p hp)
  sep := S.sep
end

/-! ### the judgements over data -/
def DE (K : PySem.W.Frag) (te : TE) (es : Env') (Q : SV → Prop) : Prop :=
  ∀ P N M L σ H, Sts K P N M L σ H es → ∀ R : VK, (∀ s v H', Kp L H H' → SvOk K N M L H H' v s → Q s → R v H') → te σ H R
def DT (K : PySem.W.Frag) (tt : TT) (es : Env') (Q : Bool → Prop) : Prop :=
  ∀ P N M L σ H, Sts K P N M L σ H es → ∀ R : Bool → Hp → Prop, (∀ b H', Kp L H H' → Q b → R b H') → tt σ H R
inductive SvAll (K : PySem.W.Frag) (N M L : AP) (H0 H : Hp) : List V → List SV → Prop
  | nil : SvAll K N M L H0 H [] []
  | cons {v : V} {s : SV} {vs : List V} {ss : List SV} : SvOk K N M L H0 H v s → SvAll K N M L H0 H vs ss → SvAll K N M L H0 H (v :: vs) (s :: ss)
def DA (K : PySem.W.Frag) (ta : TA) (es : Env') (Q : List SV → Prop) : Prop :=
  ∀ P N M L σ H, Sts K P N M L σ H es → ∀ R : List V → Hp → Prop, (∀ ss vs H', Kp L H H' → SvAll K N M L H H' vs ss → Q ss → R vs H') → ta σ H R
/-- operators, calls by values -/
def RR (K : PySem.W.Frag) (r : R2) (s1 s2 : SV) (Q : SV → Prop) : Prop :=
  ∀ N M L H0 H v1 v2, Bs L M H0 → Kp L H0 H → SvOk K N M L H0 H v1 s1 → SvOk K N M L H0 H v2 s2 → ∀ R : VK, (∀ s v H', Kp L H H' → SvOk K N M L H0 H' v s → Q s → R v H') → r v1 v2 H R
def RU (K : PySem.W.Frag) (r : V → Hp → VK → Prop) (s1 : SV) (Q : SV → Prop) : Prop :=
  ∀ N M L H0 H v1, Bs L M H0 → Kp L H0 H → SvOk K N M L H0 H v1 s1 → ∀ R : VK, (∀ s v H', Kp L H H' → SvOk K N M L H0 H' v s → Q s → R v H') → r v1 H R
def RC (K : PySem.W.Frag) (r : List V → Hp → VK → Prop) (ss : List SV) (Q : SV → Prop) : Prop :=
  ∀ N M L H0 H vs, Bs L M H0 → Kp L H0 H → SvAll K N M L H0 H vs ss → ∀ R : VK, (∀ s v H', Kp L H H' → SvOk K N M L H0 H' v s → Q s → R v H') → r vs H R
section
variable {K : PySem.W.Frag} {N L M : AP} {H0 H1 H H' : Hp} {σ : L2.St} {es : Env'} {ta tb tc te : TE} {tt tu : TT} {Q : SV → Prop}
theorem SvAll.kp (bs0 : Bs L M H0) (k0 : Kp L H0 H) (k : Kp L H H') : ∀ {vs : List V} {ss : List SV}, SvAll K N M L H0 H vs ss → SvAll K N M L H0 H' vs ss
  | _, _, .nil => .nil
  | _, _, .cons h t => .cons (h.kp bs0 k0 k) (SvAll.kp bs0 k0 k t)
theorem SvAll.back (k0 : Kp L H0 H1) : ∀ {vs : List V} {ss : List SV}, SvAll K N M L H1 H vs ss → SvAll K N M L H0 H vs ss
  | _, _, .nil => .nil
  | _, _, .cons h t => .cons (h.back k0) (SvAll.back k0 t)
theorem DE.mono {Q' : SV → Prop} (h : DE K te es Q) (q : ∀ s, Q s → Q' s) : DE K te es Q' := fun P N M L σ H S R r => h P N M L σ H S R fun s v H' k o z => r s v H' k o (q s z)
theorem DT.mono {Q Q' : Bool → Prop} (h : DT K tt es Q) (q : ∀ s, Q s → Q' s) : DT K tt es Q' := fun P N M L σ H S R r => h P N M L σ H S R fun s H' k z => r s H' k (q s z)
theorem de_var {i : Nat} {s : SV} (e : es[i]? = some (some s)) (q : Q s) : DE K (tVar i) es Q := fun P N M L σ H S R r => by
  obtain ⟨v, h1, h2⟩ := S.ok i s e
  exact ⟨v, h1, r s v H (Kp.refl S.bs) h2 q⟩
theorem de_int {i : Int} (q : Q (.d (.int i))) : DE K (tC (.int i)) es Q := fun P N M L σ H S R r => r (.d (.int i)) _ H (Kp.refl S.bs) (Is.int i) q
theorem de_bl {i : Bool} (q : Q (.d (.bl i))) : DE K (tC (.bl i)) es Q := fun P N M L σ H S R r => r (.d (.bl i)) _ H (Kp.refl S.bs) (Is.bl i) q
theorem de_str {i : Str} (q : Q (.d (.str i))) : DE K (tC (.str i)) es Q := fun P N M L σ H S R r => r (.d (.str i)) _ H (Kp.refl S.bs) (Is.str i) q
theorem de_non (q : Q (.d .non)) : DE K (tC .non) es Q := fun P N M L σ H S R r => r (.d .non) _ H (Kp.refl S.bs) Is.non q
theorem de_op {r : R2} (h : DE K ta es fun x => DE K tb es fun y => RR K r x y Q) : DE K (tOp r ta tb) es Q := fun P N M L σ H S R k => by
  refine h P N M L σ H S _ fun x v1 H1 k1 o1 q1 => ?_
  refine q1 P N M L σ H1 (S.kp k1) _ fun y v2 H2 k2 o2 q2 => ?_
  exact q2 N M L H H2 v1 v2 S.bs (k1.trans k2) (o1.kp S.bs k1 k2) (o2.back k1) R fun s v H' k3 o3 q3 => k s v H' ((k1.trans k2).trans k3) o3 q3
theorem de_un {r : V → Hp → VK → Prop} (h : DE K ta es fun x => RU K r x Q) : DE K (tUn r ta) es Q := fun P N M L σ H S R k => by
  refine h P N M L σ H S _ fun x v1 H1 k1 o1 q1 => ?_
  exact q1 N M L H H1 v1 S.bs k1 o1 R fun s v H' k3 o3 q3 => k s v H' (k1.trans k3) o3 q3
theorem de_chain {r r' : R2} (h : DE K ta es fun x => DE K tb es fun y => RR K r x y fun z => ∃ k, z = .d (.bl k) ∧ if k = true then DE K tc es fun w => RR K r' y w Q else Q (.d (.bl false))) : DE K (tChain r r' ta tb tc) es Q := fun P N M L σ H S R k => by
  refine h P N M L σ H S _ fun x v1 H1 k1 o1 q1 => ?_
  refine q1 P N M L σ H1 (S.kp k1) _ fun y v2 H2 k2 o2 q2 => ?_
  refine q2 N M L H H2 v1 v2 S.bs (k1.trans k2) (o1.kp S.bs k1 k2) (o2.back k1) _ fun s v H3 k3 o3 q3 => ?_
  obtain ⟨b, rfl, q4⟩ := q3
  cases o3
  refine ⟨b, rfl, ?_⟩
  have k13 := (k1.trans k2).trans k3
  cases b with
  | true =>
    rw [if_pos rfl] at q4 ⊢
    refine q4 P N M L σ H3 (S.kp k13) _ fun w v4 H4 k4 o4 q5 => ?_
    exact q5 N M L H H4 v2 v4 S.bs (k13.trans k4) ((o2.back k1).kp S.bs (k1.trans k2) (k3.trans k4)) (o4.back k13) R fun s v H' k6 o6 q6 => k s v H' ((k13.trans k4).trans k6) o6 q6
  | false =>
    rw [if_neg Bool.false_ne_true] at q4 ⊢
    exact k (.d (.bl false)) _ H3 k13 (Is.bl false) q4
theorem dt_test {Q : Bool → Prop} (h : DE K te es fun s => ∃ b, s = .d (.bl b) ∧ Q b) : DT K (tTest te) es Q := fun P N M L σ H S R k => by
  refine h P N M L σ H S _ fun x v1 H1 k1 o1 q1 => ?_
  obtain ⟨b, rfl, q⟩ := q1
  cases o1
  exact ⟨b, rfl, k b H1 k1 q⟩
theorem dt_B {Q : Bool → Prop} (h : DE K te es fun s => ∃ b, s = .d (.bl b) ∧ Q b) : DT K (tB te) es Q := dt_test h
theorem dt_not {Q : Bool → Prop} (h : DT K tt es fun b => Q (!b)) : DT K (tNot tt) es Q := fun P N M L σ H S R k => h P N M L σ H S _ fun b H1 k1 q => k _ H1 k1 q
theorem dt_and {Q : Bool → Prop} (h : DT K tt es fun b => if b = true then DT K tu es Q else Q false) : DT K (tAnd tt tu) es Q := fun P N M L σ H S R k => by
  refine h P N M L σ H S _ fun b H1 k1 q => ?_
  cases b with
  | true =>
    rw [if_pos rfl] at q ⊢
    exact q P N M L σ H1 (S.kp k1) R fun b H2 k2 q2 => k b H2 (k1.trans k2) q2
  | false =>
    rw [if_neg Bool.false_ne_true] at q ⊢
    exact k _ H1 k1 q
theorem dt_or {Q : Bool → Prop} (h : DT K tt es fun b => if b = true then Q true else DT K tu es Q) : DT K (tOr tt tu) es Q := fun P N M L σ H S R k => by
  refine h P N M L σ H S _ fun b H1 k1 q => ?_
  cases b with
  | false =>
    rw [if_neg Bool.false_ne_true] at q ⊢
    exact q P N M L σ H1 (S.kp k1) R fun b H2 k2 q2 => k b H2 (k1.trans k2) q2
  | true =>
    rw [if_pos rfl] at q ⊢
    exact k _ H1 k1 q
theorem de_andV (h : DE K ta es fun s => ∃ b, s = .d (.bl b) ∧ if b = true then DE K tb es Q else Q (.d (.bl false))) : DE K (tAndV ta tb) es Q := fun P N M L σ H S R k => by
  refine h P N M L σ H S _ fun x v1 H1 k1 o1 q1 => ?_
  obtain ⟨b, rfl, q⟩ := q1
  cases o1
  refine ⟨b, rfl, ?_⟩
  cases b with
  | true =>
    rw [if_pos rfl] at q ⊢
    exact q P N M L σ H1 (S.kp k1) R fun s v H2 k2 o2 q2 => k s v H2 (k1.trans k2) (o2.back k1) q2
  | false =>
    rw [if_neg Bool.false_ne_true] at q ⊢
    exact k (.d (.bl false)) _ H1 k1 (Is.bl false) q
theorem de_orV (h : DE K ta es fun s => ∃ b, s = .d (.bl b) ∧ if b = true then Q (.d (.bl true)) else DE K tb es Q) : DE K (tOrV ta tb) es Q := fun P N M L σ H S R k => by
  refine h P N M L σ H S _ fun x v1 H1 k1 o1 q1 => ?_
  obtain ⟨b, rfl, q⟩ := q1
  cases o1
  refine ⟨b, rfl, ?_⟩
  cases b with
  | false =>
    rw [if_neg Bool.false_ne_true] at q ⊢
    exact q P N M L σ H1 (S.kp k1) R fun s v H2 k2 o2 q2 => k s v H2 (k1.trans k2) (o2.back k1) q2
  | true =>
    rw [if_pos rfl] at q ⊢
    exact k (.d (.bl true)) _ H1 k1 (Is.bl true) q
theorem de_notV (h : DE K ta es fun s => ∃ b, s = .d (.bl b) ∧ Q (.d (.bl (!b)))) : DE K (tNotV ta) es Q := fun P N M L σ H S R k => by
  refine h P N M L σ H S _ fun x v1 H1 k1 o1 q1 => ?_
  obtain ⟨b, rfl, q⟩ := q1
  cases o1
  exact ⟨b, rfl, k (.d (.bl (!b))) _ H1 k1 (Is.bl _) q⟩
theorem de_if (h : DT K tt es fun b => if b = true then DE K ta es Q else DE K tb es Q) : DE K (tIf tt ta tb) es Q := fun P N M L σ H S R k => by
  refine h P N M L σ H S _ fun b H1 k1 q => ?_
  cases b with
  | true =>
    rw [if_pos rfl] at q ⊢
    exact q P N M L σ H1 (S.kp k1) R fun s v H2 k2 o2 q2 => k s v H2 (k1.trans k2) (o2.back k1) q2
  | false =>
    rw [if_neg Bool.false_ne_true] at q ⊢
    exact q P N M L σ H1 (S.kp k1) R fun s v H2 k2 o2 q2 => k s v H2 (k1.trans k2) (o2.back k1) q2
theorem da_nil {Q : List SV → Prop} (q : Q []) : DA K tNil es Q := fun P N M L σ H S R k => k _ _ H (Kp.refl S.bs) .nil q
theorem da_cons {Q : List SV → Prop} {tr : TA} (h : DE K ta es fun s => DA K tr es fun ss => Q (s :: ss)) : DA K (tCons ta tr) es Q := fun P N M L σ H S R k => by
  refine h P N M L σ H S _ fun x v1 H1 k1 o1 q1 => ?_
  refine q1 P N M L σ H1 (S.kp k1) _ fun ss vs H2 k2 o2 q2 => ?_
  exact k _ _ H2 (k1.trans k2) (.cons (o1.kp S.bs k1 k2) (o2.back k1)) q2
end
end DL

namespace DL
open PySem PySem.Spec PyProof.Rows L2
variable [Tbl]

def SV.rd : SV → Option D
  | .d x => some x
  | .own xs => some (.lst xs)
  | .new xs => some (.lst xs)
  | .scr ns => some (.lst (ns.map D.int))
  | _ => none
def SV.dat : SV → Option D
  | .d x => some x
  | .new xs => some (.lst xs)
  | _ => none
section
variable {K : PySem.W.Frag} {N L M : AP} {H0 H1 H H' : Hp} {σ : L2.St} {es : Env'} {ta tb tc te : TE} {tt tu : TT} {Q : SV → Prop}
/-- how a thing that is read stands -/
theorem fresh_nm (bs0 : Bs L M H0) {a : Addr} (n : H0 a = none) : ¬ M a := fun m => by
  obtain ⟨o, e⟩ := bs0.tk a m
  rw [n] at e; cases e
theorem SvOk.data (bs0 : Bs L M H0) {v : V} {s : SV} {x : D} (h : SvOk K N M L H0 H v s) (e : s.dat = some x) : Is K M H v x := by
  cases s with
  | d y => cases e; exact h
  | new ys =>
    cases e
    obtain ⟨a, vs, rfl, n, h1, h2⟩ := h
    exact .lst h1 (fresh_nm bs0 n) (h2.sub AP.sub_add)
  | _ => cases e
/-- a list that is read: its items -/
theorem SvOk.list (bs0 : Bs L M H0) {v : V} {s : SV} {xs : List D} (h : SvOk K N M L H0 H v s) (e : s.rd = some (.lst xs)) : ∃ a vs, v = .ref a ∧ SqL K H a vs ∧ IsAll K M H vs xs := by
  cases s with
  | d y =>
    cases e
    cases h with
    | lst h1 h2 h3 => exact ⟨_, _, rfl, .inl (.inl h1), h3⟩
  | own ys =>
    cases e
    obtain ⟨a, vs, rfl, m, n, l, h1, h2⟩ := h
    exact ⟨a, vs, rfl, .inl (.inl h1), h2⟩
  | new ys =>
    cases e
    obtain ⟨a, vs, rfl, n, h1, h2⟩ := h
    exact ⟨a, vs, rfl, .inl (.inl h1), h2.sub AP.sub_add⟩
  | scr ns =>
    cases e
    obtain ⟨a, rfl, h1⟩ := h
    exact ⟨a, _, rfl, h1.sql, IsAll.ints ns⟩
  | _ => cases e
theorem SvOk.lst (bs0 : Bs L M H0) {v : V} {s : SV} {xs : List D} (h : SvOk K N M L H0 H v s) (e : s.rd = some (.lst xs)) (ns : ∀ n, s ≠ .scr n) : ∃ a vs, v = .ref a ∧ H a = some (.lst vs) ∧ IsAll K M H vs xs := by
  cases s with
  | d y =>
    cases e
    cases h with
    | lst h1 h2 h3 => exact ⟨_, _, rfl, h1, h3⟩
  | own ys =>
    cases e
    obtain ⟨a, vs, rfl, m, n, l, h1, h2⟩ := h
    exact ⟨a, vs, rfl, h1, h2⟩
  | new ys =>
    cases e
    obtain ⟨a, vs, rfl, n, h1, h2⟩ := h
    exact ⟨a, vs, rfl, h1, h2.sub AP.sub_add⟩
  | scr n => exact absurd rfl (ns n)
  | _ => cases e
theorem SvOk.dp (bs0 : Bs L M H0) {v : V} {s : SV} {x : D} (h : SvOk K N M L H0 H v s) (e : s.rd = some x) (p : x.plain = true) : Dp K H v x.py := by
  cases s with
  | d y => cases e; exact Is.dp _ _ h p
  | own ys =>
    cases e
    obtain ⟨a, vs, rfl, h1, h2⟩ := SvOk.list bs0 h rfl
    exact .lst h1 (IsAll.dp _ _ h2 p)
  | new ys =>
    cases e
    obtain ⟨a, vs, rfl, h1, h2⟩ := SvOk.list bs0 h rfl
    exact .lst h1 (IsAll.dp _ _ h2 p)
  | scr ns =>
    cases e
    obtain ⟨a, vs, rfl, h1, h2⟩ := SvOk.list bs0 h rfl
    exact .lst h1 (IsAll.dp _ _ h2 p)
  | _ => cases e

/-! ### operators -/
theorem rr_i {g : Int → Int → Int} {i j : Int} (q : Q (.d (.int (g i j)))) : RR K (rI0 fun i j => .int (g i j)) (.d (.int i)) (.d (.int j)) Q := fun N M L H0 H v1 v2 b k o1 o2 R r => by
  cases o1
  cases o2
  exact ⟨i, j, rfl, rfl, r (.d (.int (g i j))) _ H (Kp.refl (k.bs b)) (Is.int _) q⟩
theorem rr_b {g : Int → Int → Bool} {i j : Int} (q : Q (.d (.bl (g i j)))) : RR K (rI0 fun i j => .bl (g i j)) (.d (.int i)) (.d (.int j)) Q := fun N M L H0 H v1 v2 b k o1 o2 R r => by
  cases o1
  cases o2
  exact ⟨i, j, rfl, rfl, r (.d (.bl (g i j))) _ H (Kp.refl (k.bs b)) (Is.bl _) q⟩
theorem rr_ic {C : Int → Int → Prop} {g : Int → Int → Int} {i j : Int} (c : C i j) (q : Q (.d (.int (g i j)))) : RR K (rI C fun i j => .int (g i j)) (.d (.int i)) (.d (.int j)) Q := fun N M L H0 H v1 v2 b k o1 o2 R r => by
  cases o1
  cases o2
  exact ⟨i, j, rfl, rfl, c, r (.d (.int (g i j))) _ H (Kp.refl (k.bs b)) (Is.int _) q⟩
theorem ru_neg {i : Int} (q : Q (.d (.int (-i)))) : RU K (L2.rU fun i => .int (-i)) (.d (.int i)) Q := fun N M L H0 H v1 b k o1 R r => by
  cases o1
  exact ⟨i, rfl, r (.d (.int (-i))) _ H (Kp.refl (k.bs b)) (Is.int _) q⟩
theorem rr_or1 {r r' : R2} {s1 s2 : SV} (h : RR K r s1 s2 Q) : RR K (fun x y H Q => r x y H Q ∨ r' x y H Q) s1 s2 Q := fun N M L H0 H v1 v2 b k o1 o2 R q => .inl (h N M L H0 H v1 v2 b k o1 o2 R q)
theorem rr_or2 {r r' : R2} {s1 s2 : SV} (h : RR K r' s1 s2 Q) : RR K (fun x y H Q => r x y H Q ∨ r' x y H Q) s1 s2 Q := fun N M L H0 H v1 v2 b k o1 o2 R q => .inr (h N M L H0 H v1 v2 b k o1 o2 R q)
theorem rr_addS {x y : Str} (z : x.length + y.length ≤ sizeLine) (q : Q (.d (.str (x ++ y)))) : RR K (fun x y H Q => ∃ i j, x = .str i ∧ y = .str j ∧ i.length + j.length ≤ sizeLine ∧ Q (.str (i ++ j)) H) (.d (.str x)) (.d (.str y)) Q := fun N M L H0 H v1 v2 b k o1 o2 R r => by
  cases o1
  cases o2
  exact ⟨x, y, rfl, rfl, z, r (.d (.str (x ++ y))) _ H (Kp.refl (k.bs b)) (Is.str _) q⟩
theorem rr_leS {x y : Str} (q : Q (.d (.bl (!decide (y.cps.toList < x.cps.toList))))) : RR K (fun x y H Q => ∃ i j, x = .str i ∧ y = .str j ∧ Q (.bl (!decide (j.cps.toList < i.cps.toList))) H) (.d (.str x)) (.d (.str y)) Q := fun N M L H0 H v1 v2 b k o1 o2 R r => by
  cases o1
  cases o2
  exact ⟨x, y, rfl, rfl, r (.d (.bl _)) _ H (Kp.refl (k.bs b)) (Is.bl _) q⟩
theorem rr_eq {s1 s2 : SV} {x y : D} (e1 : s1.rd = some x) (e2 : s2.rd = some y) (p1 : x.plain = true) (p2 : y.plain = true) (z1 : SeqAt.shaped x.py = true) (z2 : SeqAt.shaped y.py = true) (q : Q (.d (.bl (PyData.eqv x.py y.py)))) : RR K (rEqD K) s1 s2 Q := fun N M L H0 H v1 v2 b k o1 o2 R r =>
  ⟨x.py, y.py, o1.dp b e1 p1, o2.dp b e2 p2, z1, z2, r (.d (.bl _)) _ H (Kp.refl (k.bs b)) (Is.bl _) q⟩
theorem rr_ne {s1 s2 : SV} {x y : D} (e1 : s1.rd = some x) (e2 : s2.rd = some y) (p1 : x.plain = true) (p2 : y.plain = true) (z1 : SeqAt.shaped x.py = true) (z2 : SeqAt.shaped y.py = true) (q : Q (.d (.bl (!PyData.eqv x.py y.py)))) : RR K (rNeD K) s1 s2 Q := fun N M L H0 H v1 v2 b k o1 o2 R r =>
  ⟨x.py, y.py, o1.dp b e1 p1, o2.dp b e2 p2, z1, z2, r (.d (.bl _)) _ H (Kp.refl (k.bs b)) (Is.bl _) q⟩
theorem rr_isB {a b : Bool} (q : Q (.d (.bl (decide (a = b))))) : RR K (fun x y H Q => ∃ a b, x = .bl a ∧ y = .bl b ∧ Q (.bl (decide (a = b))) H) (.d (.bl a)) (.d (.bl b)) Q := fun N M L H0 H v1 v2 bb k o1 o2 R r => by
  cases o1
  cases o2
  exact ⟨a, b, rfl, rfl, r (.d (.bl _)) _ H (Kp.refl (k.bs bb)) (Is.bl _) q⟩
theorem rr_isnotB {a b : Bool} (q : Q (.d (.bl (!decide (a = b))))) : RR K (fun x y H Q => ∃ a b, x = .bl a ∧ y = .bl b ∧ Q (.bl (!decide (a = b))) H) (.d (.bl a)) (.d (.bl b)) Q := fun N M L H0 H v1 v2 bb k o1 o2 R r => by
  cases o1
  cases o2
  exact ⟨a, b, rfl, rfl, r (.d (.bl _)) _ H (Kp.refl (k.bs bb)) (Is.bl _) q⟩
def D.isNon : D → Bool
  | .non => true
  | _ => false
theorem Is.isNon {v : V} {x : D} (h : Is K M H v x) : decide (v = .non) = x.isNon := by
  cases h <;> first | rfl | exact decide_eq_false (fun z => nomatch z)
theorem rr_isN {x : D} (q : Q (.d (.bl x.isNon))) : RR K (fun x y H Q => y = .non ∧ Q (.bl (decide (x = .non))) H) (.d x) (.d .non) Q := fun N M L H0 H v1 v2 b k o1 o2 R r => by
  cases o2
  exact ⟨rfl, r (.d (.bl _)) _ H (Kp.refl (k.bs b)) (by rw [Is.isNon o1]; exact Is.bl _) q⟩
theorem rr_isnotN {x : D} (q : Q (.d (.bl (!x.isNon)))) : RR K (fun x y H Q => y = .non ∧ Q (.bl (!decide (x = .non))) H) (.d x) (.d .non) Q := fun N M L H0 H v1 v2 b k o1 o2 R r => by
  cases o2
  exact ⟨rfl, r (.d (.bl _)) _ H (Kp.refl (k.bs b)) (by rw [Is.isNon o1]; exact Is.bl _) q⟩
/-- an item -/
theorem at_len {α β : Type} {xs : List α} {ys : List β} (h : xs.length = ys.length) {i : Int} {y : β} (e : atI ys i = some y) : ∃ j : Nat, ys[j]? = some y ∧ ∀ x, xs[j]? = some x → atI xs i = some x := by
  unfold atI at e ⊢
  rw [h]
  cases q : ixN ys.length i with
  | none => rw [q] at e; cases e
  | some j =>
    rw [q] at e
    exact ⟨j, e, fun x hx => hx⟩
theorem rr_ixL {s : SV} {xs : List D} {i : Int} {x : D} (e : s.rd = some (.lst xs)) (ha : atI xs i = some x) (q : Q (.d x)) : RR K (rIxL K) s (.d (.int i)) Q := fun N M L H0 H v1 v2 b k o1 o2 R r => by
  cases o2
  obtain ⟨a, vs, rfl, h1, h2⟩ := o1.list b e
  obtain ⟨j, hj, f⟩ := at_len h2.len ha
  obtain ⟨v, hv, iv⟩ := h2.get hj
  exact ⟨a, vs, i, v, rfl, rfl, h1, f v hv, r (.d x) v H (Kp.refl (k.bs b)) iv q⟩
theorem rr_ixT {xs : List D} {i : Int} {x : D} (ha : atI xs i = some x) (q : Q (.d x)) : RR K (rIxT K) (.d (.tup xs)) (.d (.int i)) Q := fun N M L H0 H v1 v2 b k o1 o2 R r => by
  cases o2
  obtain ⟨_, _, rfl, h1, h2⟩ := Is.tupS o1
  · obtain ⟨j, hj, f⟩ := at_len h2.len ha
    obtain ⟨v, hv, iv⟩ := h2.get hj
    exact ⟨_, _, i, v, rfl, rfl, h1, f v hv, r (.d x) v H (Kp.refl (k.bs b)) iv q⟩
theorem rr_ixS {z : Str} {i : Int} {c : Nat} (hz : z.length ≤ sizeLine) (ha : atI z.cps.toList i = some c) (q : Q (.d (.str ⟨#[c]⟩))) : RR K rIxS (.d (.str z)) (.d (.int i)) Q := fun N M L H0 H v1 v2 b k o1 o2 R r => by
  cases o2
  cases o1
  exact ⟨z, i, c, rfl, rfl, hz, ha, r (.d (.str ⟨#[c]⟩)) _ H (Kp.refl (k.bs b)) (Is.str _) q⟩
theorem rr_xL {s : SV} {xs : List D} {i : Int} {x : D} (e : s.rd = some (.lst xs)) (ha : atI xs i = some x) (q : Q (.d x)) : RR K (rIx K) s (.d (.int i)) Q := fun N M L H0 H v1 v2 b k o1 o2 R r => .inl (rr_ixL e ha q N M L H0 H v1 v2 b k o1 o2 R r)
theorem rr_xT {xs : List D} {i : Int} {x : D} (ha : atI xs i = some x) (q : Q (.d x)) : RR K (rIx K) (.d (.tup xs)) (.d (.int i)) Q := fun N M L H0 H v1 v2 b k o1 o2 R r => .inr (.inl (rr_ixT ha q N M L H0 H v1 v2 b k o1 o2 R r))
theorem rr_xS {z : Str} {i : Int} {c : Nat} (hz : z.length ≤ sizeLine) (ha : atI z.cps.toList i = some c) (q : Q (.d (.str ⟨#[c]⟩))) : RR K (rIx K) (.d (.str z)) (.d (.int i)) Q := fun N M L H0 H v1 v2 b k o1 o2 R r => .inr (.inr (rr_ixS hz ha q N M L H0 H v1 v2 b k o1 o2 R r))

/-! ### new ones -/
theorem SvAll.datas (bs0 : Bs L M H0) : ∀ {ss : List SV} {vs : List V} {ds : List D}, SvAll K N M L H0 H vs ss → ss.map SV.dat = ds.map some → IsAll K M H vs ds
  | [], _, [], h, _ => by cases h; exact .nil
  | [], _, _ :: _, _, e => by cases e
  | _ :: _, _, [], _, e => by cases e
  | s :: ss, _, d :: ds, h, e => by
    cases h with
    | cons h1 h2 =>
      have e' : s.dat :: ss.map SV.dat = some d :: ds.map some := e
      injection e' with e1 e2
      exact .cons (h1.data bs0 e1) (SvAll.datas bs0 h2 e2)
theorem SvAll.len : ∀ {ss : List SV} {vs : List V}, SvAll K N M L H0 H vs ss → vs.length = ss.length
  | _, _, .nil => rfl
  | _, _, .cons _ t => congrArg (· + 1) t.len
theorem dats_len {ss : List SV} {ds : List D} (e : ss.map SV.dat = ds.map some) : ss.length = ds.length := by
  have := congrArg List.length e
  simpa using this
theorem de_tup {tr : TA} (h : DA K tr es fun ss => ∃ ds, ss.map SV.dat = ds.map some ∧ ds.length ≤ 100000 ∧ Q (.d (.tup ds))) : DE K (tTup tr) es Q := fun P N M L σ H S R k => by
  refine h P N M L σ H S _ fun ss vs H1 k1 o1 q1 => ?_
  obtain ⟨ds, e, z, q⟩ := q1
  have hl : vs.length = ds.length := o1.len.trans (dats_len e)
  refine ⟨by rw [hl]; exact Nat.le_trans z (by decide), fun p hp => ?_⟩
  have bs1 := k1.bs S.bs
  have kn := Kp.new (o := .tup vs) bs1 hp
  exact k (.d (.tup ds)) _ _ (k1.trans kn) (.tup upd_same ((o1.datas S.bs e).kp kn bs1)) q
theorem de_lst {tr : TA} (h : DA K tr es fun ss => ∃ ds, ss.map SV.dat = ds.map some ∧ ds.length ≤ 100000 ∧ Q (.new ds)) : DE K (tLst tr) es Q := fun P N M L σ H S R k => by
  refine h P N M L σ H S _ fun ss vs H1 k1 o1 q1 => ?_
  obtain ⟨ds, e, z, q⟩ := q1
  have hl : vs.length = ds.length := o1.len.trans (dats_len e)
  refine ⟨by rw [hl]; exact Nat.le_trans z (by decide), fun p hp => ?_⟩
  have bs1 := k1.bs S.bs
  have kn := Kp.new (o := .lst vs) bs1 hp
  refine k (.new ds) _ _ (k1.trans kn) ⟨p, vs, rfl, k1.was hp, upd_same, ?_⟩ q
  have i1 : IsAll K (M.add p) H1 vs ds := (o1.datas S.bs e).add hp
  refine IsAll.chg (fun a o q m => ⟨?_, m⟩) ?_ _ _ i1
  · rw [upd_ne (ne_of_none q hp)]; exact q
  · exact sqt_keep (M := M) (fun a o m q => by rw [upd_ne (ne_of_none q hp)]; exact q) bs1.tr
/-- a new list with items that are read off -/
theorem new_of (bs0 : Bs L M H0) (k1 : Kp L H0 H1) {p : Addr} {vs : List V} {ds : List D} (hp : H1 p = none) (i : IsAll K M H1 vs ds) : Kp L H1 (upd H1 p (.lst vs)) ∧ SvOk K N M L H0 (upd H1 p (.lst vs)) (.ref p) (.new ds) := by
  have bs1 := k1.bs bs0
  have kn := Kp.new (o := .lst vs) bs1 hp
  refine ⟨kn, p, vs, rfl, k1.was hp, upd_same, ?_⟩
  refine IsAll.chg (fun a o q m => ⟨?_, m⟩) ?_ _ _ (i.add hp)
  · rw [upd_ne (ne_of_none q hp)]; exact q
  · exact sqt_keep (M := M) (fun a o m q => by rw [upd_ne (ne_of_none q hp)]; exact q) bs1.tr
theorem newT_of (bs0 : Bs L M H0) (k1 : Kp L H0 H1) {p : Addr} {vs : List V} {ds : List D} (hp : H1 p = none) (i : IsAll K M H1 vs ds) : Kp L H1 (upd H1 p (.tup vs)) ∧ SvOk K N M L H0 (upd H1 p (.tup vs)) (.ref p) (.d (.tup ds)) := by
  have bs1 := k1.bs bs0
  have kn := Kp.new (o := .tup vs) bs1 hp
  exact ⟨kn, .tup upd_same (i.kp kn bs1)⟩
theorem rr_cat {s1 s2 : SV} {xs ys : List D} (e1 : s1.rd = some (.lst xs)) (e2 : s2.rd = some (.lst ys)) (n1 : ∀ n, s1 ≠ .scr n) (n2 : ∀ n, s2 ≠ .scr n) (z : xs.length + ys.length ≤ 100000) (q : Q (.new (xs ++ ys))) : RR K rCat s1 s2 Q := fun N M L H0 H v1 v2 b k o1 o2 R r => by
  obtain ⟨a, vs, rfl, h1, i1⟩ := o1.lst b e1 n1
  obtain ⟨c, ws, rfl, h2, i2⟩ := o2.lst b e2 n2
  refine ⟨a, c, vs, ws, rfl, rfl, h1, h2, by rw [i1.len, i2.len]; exact Nat.le_trans z (by decide), fun p hp => ?_⟩
  obtain ⟨kn, ok⟩ := new_of (N := N) b k hp (i1.append i2)
  exact r _ _ _ kn ok q
theorem rr_catT {xs ys : List D} (z : xs.length + ys.length ≤ 100000) (q : Q (.d (.tup (xs ++ ys)))) : RR K (rCatA K) (.d (.tup xs)) (.d (.tup ys)) Q := fun N M L H0 H v1 v2 b k o1 o2 R r => by
  have bs := k.bs b
  have o1' := o1
  have o2' := o2
  obtain ⟨a, vs, rfl, h1, i1⟩ := Is.tupS o1
  · obtain ⟨c, ws, rfl, h2, i2⟩ := Is.tupS o2
    · refine ⟨a, c, vs, ws, rfl, rfl, h1, h2, by rw [i1.len, i2.len]; exact Nat.le_trans z (by decide), fun ev => ?_, fun ev ew => ?_, fun ev ew p hp => ?_⟩
      · subst ev
        cases i1
        exact r (.d (.tup ([] ++ ys))) _ H (Kp.refl bs) o2' q
      · subst ew
        cases i2
        exact r (.d (.tup (xs ++ []))) _ H (Kp.refl bs) (by rw [List.append_nil]; exact o1') q
      · obtain ⟨kn, ok⟩ := newT_of (N := N) b k hp (i1.append i2)
        exact r _ _ _ kn ok q
/-! ### slices -/
def cutD (xs : List D) (lo hi : Option Int) : List D := (xs.drop (HT.sIx xs.length 0 lo)).take (HT.sIx xs.length xs.length hi - HT.sIx xs.length 0 lo)
theorem cut_all {vs : List V} {xs : List D} (h : IsAll K M H vs xs) (lo hi : Option Int) : IsAll K M H (cutV vs lo hi) (cutD xs lo hi) := by
  unfold cutV cutD
  rw [h.len]
  exact (h.drop _).take _
def DO (K : PySem.W.Frag) (to : TO) (es : Env') (Q : Option Int → Prop) : Prop :=
  ∀ P N M L σ H, Sts K P N M L σ H es → ∀ R : Option Int → Hp → Prop, (∀ o H', Kp L H H' → Q o → R o H') → to σ H R
theorem do_none {Q : Option Int → Prop} (q : Q none) : DO K tNoPart es Q := fun P N M L σ H S R k => k _ _ (Kp.refl S.bs) q
theorem do_some {Q : Option Int → Prop} (h : DE K te es fun s => ∃ i, s = .d (.int i) ∧ Q (some i)) : DO K (tPart te) es Q := fun P N M L σ H S R k => by
  refine h P N M L σ H S _ fun s v H1 k1 o1 q1 => ?_
  obtain ⟨i, rfl, q⟩ := q1
  cases o1
  exact ⟨i, rfl, k _ _ k1 q⟩
def RS (K : PySem.W.Frag) (r : V → Option Int → Option Int → Hp → VK → Prop) (s1 : SV) (lo hi : Option Int) (Q : SV → Prop) : Prop :=
  ∀ N M L H0 H v1, Bs L M H0 → Kp L H0 H → SvOk K N M L H0 H v1 s1 → ∀ R : VK, (∀ s v H', Kp L H H' → SvOk K N M L H0 H' v s → Q s → R v H') → r v1 lo hi H R
theorem de_sl {r : V → Option Int → Option Int → Hp → VK → Prop} {tl th : TO} (h : DE K te es fun x => DO K tl es fun lo => DO K th es fun hi => RS K r x lo hi Q) : DE K (tSl r te tl th) es Q := fun P N M L σ H S R k => by
  refine h P N M L σ H S _ fun x v1 H1 k1 o1 q1 => ?_
  refine q1 P N M L σ H1 (S.kp k1) _ fun lo H2 k2 q2 => ?_
  have k12 := k1.trans k2
  refine q2 P N M L σ H2 (S.kp k12) _ fun hi H3 k3 q3 => ?_
  have k13 := k12.trans k3
  exact q3 N M L H H3 v1 S.bs k13 (o1.kp S.bs k1 (k2.trans k3)) R fun s v H' k4 o4 q4 => k s v H' (k13.trans k4) o4 q4
theorem rs_L {s : SV} {xs : List D} {lo hi : Option Int} (e : s.rd = some (.lst xs)) (q : Q (.new (cutD xs lo hi))) : RS K (rSlL K) s lo hi Q := fun N M L H0 H v1 b k o1 R r => by
  obtain ⟨a, vs, rfl, h1, i1⟩ := o1.list b e
  refine ⟨a, vs, rfl, h1, fun p hp => ?_⟩
  obtain ⟨kn, ok⟩ := new_of (N := N) b k hp (cut_all i1 lo hi)
  exact r _ _ _ kn ok q
theorem rs_T {xs : List D} {lo hi : Option Int} (q : Q (.d (.tup (cutD xs lo hi)))) : RS K (rSlA K) (.d (.tup xs)) lo hi Q := fun N M L H0 H v1 b k o1 R r => by
  have o1' := o1
  obtain ⟨a, vs, rfl, h1, i1⟩ := Is.tupS o1
  · refine ⟨a, vs, rfl, h1, fun ⟨w1, w2⟩ => ?_, fun _ p hp => ?_⟩
    · have e : cutD xs lo hi = xs := by
        unfold cutD
        rw [← i1.len, w1, w2, List.drop_zero, Nat.sub_zero, i1.len, List.take_length]
      rw [e] at q
      exact r (.d (.tup xs)) _ H (Kp.refl (k.bs b)) o1' q
    · obtain ⟨kn, ok⟩ := newT_of (N := N) b k hp (cut_all i1 lo hi)
      exact r _ _ _ kn ok q
theorem rs_S {z : Str} {lo hi : Option Int} (hz : z.length ≤ sizeLine) (q : Q (.d (.str (cutS z lo hi)))) : RS K rSlS (.d (.str z)) lo hi Q := fun N M L H0 H v1 b k o1 R r => by
  cases o1
  exact ⟨z, rfl, hz, r (.d (.str _)) _ H (Kp.refl (k.bs b)) (Is.str _) q⟩
theorem rs_or1 {r r' : V → Option Int → Option Int → Hp → VK → Prop} {s1 : SV} {lo hi : Option Int} (h : RS K r s1 lo hi Q) : RS K (fun x lo hi H Q => r x lo hi H Q ∨ r' x lo hi H Q) s1 lo hi Q := fun N M L H0 H v1 b k o1 R q => .inl (h N M L H0 H v1 b k o1 R q)
theorem rs_or2 {r r' : V → Option Int → Option Int → Hp → VK → Prop} {s1 : SV} {lo hi : Option Int} (h : RS K r' s1 lo hi Q) : RS K (fun x lo hi H Q => r x lo hi H Q ∨ r' x lo hi H Q) s1 lo hi Q := fun N M L H0 H v1 b k o1 R q => .inr (h N M L H0 H v1 b k o1 R q)

/-! ### calls of built-ins -/
theorem de_cb {r : List V → Hp → VK → Prop} {tr : TA} (h : DA K tr es fun ss => RC K r ss Q) : DE K (tCB r tr) es Q := fun P N M L σ H S R k => by
  refine h P N M L σ H S _ fun ss vs H1 k1 o1 q1 => ?_
  exact q1 N M L H H1 vs S.bs k1 o1 R fun s v H' k3 o3 q3 => k s v H' (k1.trans k3) o3 q3
theorem SvAll.one {s : SV} {vs : List V} (h : SvAll K N M L H0 H vs [s]) : ∃ v, vs = [v] ∧ SvOk K N M L H0 H v s := by
  cases h with
  | cons h t =>
    cases t
    exact ⟨_, rfl, h⟩
theorem SvAll.two {s t : SV} {vs : List V} (h : SvAll K N M L H0 H vs [s, t]) : ∃ v w, vs = [v, w] ∧ SvOk K N M L H0 H v s ∧ SvOk K N M L H0 H w t := by
  cases h with
  | cons h r =>
    obtain ⟨w, rfl, hw⟩ := r.one
    exact ⟨_, w, rfl, h, hw⟩
theorem rc_abs {i : Int} (q : Q (.d (.int (if i < 0 then -i else i)))) : RC K (fun xs H Q => ∃ i, xs = [.int i] ∧ Q (.int (if i < 0 then -i else i)) H) [.d (.int i)] Q := fun N M L H0 H vs b k o R r => by
  obtain ⟨v, rfl, hv⟩ := o.one
  cases hv
  exact ⟨i, rfl, r (.d (.int _)) _ H (Kp.refl (k.bs b)) (Is.int _) q⟩
theorem rc_max {i j : Int} (q : Q (.d (.int (if j > i then j else i)))) : RC K (fun xs H Q => ∃ i j, xs = [.int i, .int j] ∧ Q (.int (if j > i then j else i)) H) [.d (.int i), .d (.int j)] Q := fun N M L H0 H vs b k o R r => by
  obtain ⟨v, w, rfl, hv, hw⟩ := o.two
  cases hv
  cases hw
  exact ⟨i, j, rfl, r (.d (.int _)) _ H (Kp.refl (k.bs b)) (Is.int _) q⟩
theorem rc_min {i j : Int} (q : Q (.d (.int (if j < i then j else i)))) : RC K (fun xs H Q => ∃ i j, xs = [.int i, .int j] ∧ Q (.int (if j < i then j else i)) H) [.d (.int i), .d (.int j)] Q := fun N M L H0 H vs b k o R r => by
  obtain ⟨v, w, rfl, hv, hw⟩ := o.two
  cases hv
  cases hw
  exact ⟨i, j, rfl, r (.d (.int _)) _ H (Kp.refl (k.bs b)) (Is.int _) q⟩
/-- how long -/
def D.len : D → Option Nat
  | .str x => if x.length ≤ sizeLine then some x.length else none
  | .lst xs => some xs.length
  | .tup xs => some xs.length
  | _ => none
theorem rc_len {s : SV} {x : D} {n : Nat} (e : s.rd = some x) (hn : x.len = some n) (q : Q (.d (.int n))) : RC K (fun xs H Q => ∃ x n, xs = [x] ∧ LenV K x H n ∧ Q (.int n) H) [s] Q := fun N M L H0 H vs b k o R r => by
  obtain ⟨v, rfl, hv⟩ := o.one
  have fin : LenV K v H n := by
    cases x with
    | str z =>
      cases s with
      | d y =>
        cases e
        cases hv
        have hn' : (if z.length ≤ sizeLine then some z.length else none) = some n := hn
        by_cases hz : z.length ≤ sizeLine
        · rw [if_pos hz] at hn'
          cases hn'
          exact ⟨hz, rfl⟩
        · rw [if_neg hz] at hn'
          cases hn'
      | _ => cases e
    | lst xs =>
      cases hn
      obtain ⟨a, vs, rfl, h1, h2⟩ := hv.list b e
      exact .inl ⟨vs, h1, h2.len.symm⟩
    | tup xs =>
      cases hn
      cases s with
      | d y =>
        cases e
        obtain ⟨_, _, rfl, h1, h2⟩ := Is.tupS hv
        exact .inr ⟨_, h1, h2.len.symm⟩
      | _ => cases e
    | _ => cases hn
  exact ⟨v, n, rfl, fin, r (.d (.int n)) _ H (Kp.refl (k.bs b)) (Is.int _) q⟩
theorem rc_list {s : SV} {xs : List D} (e : s.rd = some (.lst xs)) (q : Q (.new xs)) : RC K (fun vs H Q => ∃ p ys, vs = [.ref p] ∧ (SqL K H p ys ∨ SqT K H p ys) ∧ ∀ l, H l = none → Q (.ref l) (upd H l (.lst ys))) [s] Q := fun N M L H0 H vs b k o R r => by
  obtain ⟨v, rfl, hv⟩ := o.one
  obtain ⟨a, vs, rfl, h1, h2⟩ := hv.list b e
  refine ⟨a, vs, rfl, .inl h1, fun p hp => ?_⟩
  obtain ⟨kn, ok⟩ := new_of (N := N) b k hp h2
  exact r _ _ _ kn ok q
theorem rc_listT {xs : List D} (q : Q (.new xs)) : RC K (fun vs H Q => ∃ p ys, vs = [.ref p] ∧ (SqL K H p ys ∨ SqT K H p ys) ∧ ∀ l, H l = none → Q (.ref l) (upd H l (.lst ys))) [.d (.tup xs)] Q := fun N M L H0 H vs b k o R r => by
  obtain ⟨v, rfl, hv⟩ := o.one
  obtain ⟨a, vs, rfl, h1, h2⟩ := Is.tupS hv
  · refine ⟨a, vs, rfl, .inr h1, fun p hp => ?_⟩
    obtain ⟨kn, ok⟩ := new_of (N := N) b k hp h2
    exact r _ _ _ kn ok q
theorem rc_tuple {s : SV} {xs : List D} (e : s.rd = some (.lst xs)) (q : Q (.d (.tup xs))) : RC K (fun vs H Q => ∃ p ys, vs = [.ref p] ∧ ((SqL K H p ys ∧ ∀ l, H l = none → Q (.ref l) (upd H l (.tup ys))) ∨ (SqT K H p ys ∧ Q (.ref p) H))) [s] Q := fun N M L H0 H vs b k o R r => by
  obtain ⟨v, rfl, hv⟩ := o.one
  obtain ⟨a, vs, rfl, h1, h2⟩ := hv.list b e
  refine ⟨a, vs, rfl, .inl ⟨h1, fun p hp => ?_⟩⟩
  obtain ⟨kn, ok⟩ := newT_of (N := N) b k hp h2
  exact r _ _ _ kn ok q
theorem rc_all {s : SV} {bs : List Bool} (e : s.rd = some (.lst (bs.map D.bl))) (q : Q (.d (.bl (bs.all id)))) : RC K (rAll K) [s] Q := fun N M L H0 H vs b k o R r => by
  obtain ⟨v, rfl, hv⟩ := o.one
  obtain ⟨a, vs, rfl, h1, h2⟩ := hv.list b e
  exact ⟨a, bs, rfl, by rw [h2.ofBls] at h1; exact h1, r (.d (.bl _)) _ H (Kp.refl (k.bs b)) (Is.bl _) q⟩
theorem rc_any {s : SV} {bs : List Bool} (e : s.rd = some (.lst (bs.map D.bl))) (q : Q (.d (.bl (bs.any id)))) : RC K (rAny K) [s] Q := fun N M L H0 H vs b k o R r => by
  obtain ⟨v, rfl, hv⟩ := o.one
  obtain ⟨a, vs, rfl, h1, h2⟩ := hv.list b e
  exact ⟨a, bs, rfl, by rw [h2.ofBls] at h1; exact h1, r (.d (.bl _)) _ H (Kp.refl (k.bs b)) (Is.bl _) q⟩
theorem rc_strI {i : Int} (hi : i.natAbs.log2 < 1920) (q : Q (.d (.str (toString i)))) : RC K (fun xs H Q => ∃ i, xs = [.int i] ∧ i.natAbs.log2 < 1920 ∧ Q (.str (toString i)) H) [.d (.int i)] Q := fun N M L H0 H vs b k o R r => by
  obtain ⟨v, rfl, hv⟩ := o.one
  cases hv
  exact ⟨i, rfl, hi, r (.d (.str _)) _ H (Kp.refl (k.bs b)) (Is.str _) q⟩
end
end DL

/-! defs that know that no repr is under way around them: FnG beside FnOk -/
namespace DL
open PySem PySem.Spec PyProof.Rows L2
variable [Tbl]

structure FnG (P : Program) (w : World) (K : PySem.W.Frag) (mg : Str → Option Value) (base : Heap) (k : Nat) (f : Addr) (fd : FuncData) (ps : List Str) (sp : Sp) : Prop where
  len : ∀ vs H Q E, sp vs H Q E → vs.length = ps.length
  run : ∀ (A : Around) (fr : List Env) (s : Shared) (H : Hp) (ar : Args) (us : List Value) (vs : List V) (Q : VK), A.guards = some [] → Room k A → Env0 P w K mg base A fr s H →
    BindsTo s fd ar (ps.zip us) → Vals vs us → sp vs H Q E0 → codeAny (model P w) A (.call (.ref f) ar) (CR CX0 fr P w H s Q E0) s
section
variable {P : Program} {w : World} {K : PySem.W.Frag} {mg : Str → Option Value} {base : Heap}
theorem FnG.of {k : Nat} {f : Addr} {fd : FuncData} {ps : List Str} {sp : Sp} (F : FnOk P w K mg base CX0 k f fd ps sp) : FnG P w K mg base k f fd ps sp :=
  ⟨F.len, fun A fr s H ar us vs Q _ hr e0 hb rv h => F.run A fr s H ar us vs Q E0 hr e0 hb rv h⟩
theorem FnG.mono {j k : Nat} {f : Addr} {fd : FuncData} {ps : List Str} {sp : Sp} (F : FnG P w K mg base j f fd ps sp) (h : j ≤ k) : FnG P w K mg base k f fd ps sp :=
  ⟨F.len, fun A fr s H ar us vs Q hg hr => F.run A fr s H ar us vs Q hg (hr.mono h)⟩

/-- the code of the function at f, as K tells it -/
def codeV (K : PySem.W.Frag) (f : Addr) : Value := match K.lookup f with
  | some ⟨_, _, .func fd, _⟩ => fd.code
  | _ => .none
def codeOf (K : PySem.W.Frag) (f : Addr) : Addr := match codeV K f with
  | .ref c => c
  | _ => 0
def codeIs (K : PySem.W.Frag) (f : Addr) : Bool := match codeV K f with
  | .ref _ => true
  | _ => false
/-- a def of the text, its body read where no repr is under way -/
theorem okGc {x qual : Str} {st : Stmt} {f : Addr} {fd : FuncData} {N ps : List Str} {k : Nat} {sp : Sp} (F : Fun K x qual st f fd) (S : FnScope N ps (defScope st)) (len : ∀ vs H Q E, sp vs H Q E → vs.length = ps.length)
    (hb : ∀ (cdv : Value), (codeIs K f = true → cdv = .ref (codeOf K f)) → ∀ (A : Around) (fr : List Env) (s : Shared) (H : Hp) (vs : List V) (Q : VK), A.guards = some [] → Room k (A.deeper (envOfC qual (defScope st) s.heap.objs.size f cdv)) → sp vs H Q E0 →
      ∃ t, PSs (cxOf CX0 P w K mg base N qual (defScope st) f cdv A fr s H E0).nox (defBody st) t ∧ t { nx := fun _ H' => Q .non H', rt := Q } (start N vs) H) : FnG P w K mg base (k + 1) f fd ps sp := by
  obtain ⟨oc, od, kV, doc, pm, an, cdv, ct, osl, rfl, lk, hcd⟩ := F.ex
  have ecd : codeIs K f = true → cdv = .ref (codeOf K f) := fun h1 => by
    have ev : codeV K f = cdv := by
      unfold codeV
      rw [lk]
    unfold codeIs at h1
    unfold codeOf
    rw [ev] at h1 ⊢
    clear ev lk hcd hb
    cases cdv <;> first | rfl | (cases h1; done)
  constructor
  · exact len
  intro A fr s H ar us vs Q hg hr e0 hbi rv hsp
  have up : ∀ b o, base.get? b = some o → s.heap.get? b = some o := fun b o e => (e0.bs b o e).1
  have kin : K.In s.heap := e0.mod.kin.keeps up
  have room := hr.deeper (envOfC qual (defScope st) s.heap.objs.size f cdv)
  refine codeAny_call_function hr.depth (kin f _ lk) rfl S.co S.gen rfl (PySem.W.codeRec_of kin hcd) ?_
  refine hbi _ _ _ _ ?_
  have kinds : ∀ y ∈ ps.zip us, (defScope st).names.lookup y.1 = some .local ∨ ((defScope st).names.lookup y.1 = some .cell ∧ ((cellsFrom (s.heap.objs.size + 1) (defScope st).names []).lookup y.1).isSome = true) := by
    rintro ⟨n, v⟩ hy
    have hn := S.par n (List.of_mem_zip hy).1
    exact hn.imp id fun q => ⟨q, PySem.W.cellsFrom_some _ _ _ (.inl q)⟩
  refine wpAny_newFunctionEnv_cells S.kind kinds ?_
  rintro env rfl s1 x
  constructor
  · exact (e0.mod.nolimit.keeps up).keeps x.toInCall.keep
  refine codeAny_func ?_
  obtain ⟨t, ht, hq⟩ := hb cdv ecd A fr s H vs Q hg room hsp
  have inv := inv_start (CX := CX0) (E := E0) (cd := cdv) (f := f) S hr.hd e0 (len vs H Q E0 hsp) rv x
  refine wpAny_mono (ht.nox.run [] s1 (start N vs) H _ inv hq) ?_ (fun _ _ h => h)
  intro fl s2 h2
  match fl, h2 with
  | .ret u, h2 =>
    obtain ⟨v, σ2, H2, J, r2, q⟩ := h2
    exact ⟨v, H2, J.os, J.bare, J.base, J.hok, r2, q⟩
  | .next, h2 =>
    obtain ⟨σ2, H2, J, q⟩ := h2
    exact ⟨V.non, H2, J.os, J.bare, J.base, J.hok, rfl, q⟩
  | .brk, h2 =>
    obtain ⟨_, _, _, q⟩ := h2
    exact q.elim
  | .cont, h2 =>
    obtain ⟨_, _, _, q⟩ := h2
    exact q.elim
theorem okG {x qual : Str} {st : Stmt} {f : Addr} {fd : FuncData} {N ps : List Str} {k : Nat} {sp : Sp} (F : Fun K x qual st f fd) (S : FnScope N ps (defScope st)) (len : ∀ vs H Q E, sp vs H Q E → vs.length = ps.length)
    (hb : ∀ (cdv : Value) (A : Around) (fr : List Env) (s : Shared) (H : Hp) (vs : List V) (Q : VK), A.guards = some [] → Room k (A.deeper (envOfC qual (defScope st) s.heap.objs.size f cdv)) → sp vs H Q E0 →
      ∃ t, PSs (cxOf CX0 P w K mg base N qual (defScope st) f cdv A fr s H E0).nox (defBody st) t ∧ t { nx := fun _ H' => Q .non H', rt := Q } (start N vs) H) : FnG P w K mg base (k + 1) f fd ps sp :=
  okGc F S len fun cdv _ => hb cdv
theorem okGT {x qual : Str} {st : Stmt} {f c : Addr} {fd : FuncData} {N ps : List Str} {k : Nat} {sp : Sp} (F : Fun K x qual st f fd) (hc : codeIs K f = true ∧ codeOf K f = c) (S : FnScope N ps (defScope st)) (len : ∀ vs H Q E, sp vs H Q E → vs.length = ps.length)
    (hb : ∀ (A : Around) (fr : List Env) (s : Shared) (H : Hp) (vs : List V) (Q : VK), A.guards = some [] → Room k (A.deeper (envOfC qual (defScope st) s.heap.objs.size f (.ref c))) → sp vs H Q E0 →
      ∃ t, PSs (cxOf CX0 P w K mg base N qual (defScope st) f (.ref c) A fr s H E0).nox (defBody st) t ∧ t { nx := fun _ H' => Q .non H', rt := Q } (start N vs) H) : FnG P w K mg base (k + 1) f fd ps sp :=
  okGc F S len fun cdv e A fr s H vs Q gu hr h => by
    obtain rfl := (e hc.1).trans (congrArg Value.ref hc.2)
    exact hb A fr s H vs Q gu hr h
end
section
variable {X : Cx} {k : Nat} {f : Addr} {fd : FuncData} {ps : List Str} {sp : Sp} {x : Str} {p pos : Pos} {e : Expr} {es : List Expr} {t : TA}
theorem runG {pins : List (Addr × Obj)} {σ : L2.St} {H : Hp} {s : Shared} {Q : VK} {us us' : List Value} {vs : List V} {kw : List (Str × Value)} (F : FnG X.prog X.w X.K X.mg X.base k f fd ps sp) (hr : Room k X.A) (gu : X.A.guards = some [])
    (I : Inv X pins σ H s) (hb : BindsTo s fd ⟨us', kw⟩ (ps.zip us)) (r : Vals vs us) (h : sp vs H Q E0) : wpAny (model X.prog X.w) X.A (call (.ref f) us' kw) (EP X pins σ Q) X.xe s := by
  refine wpAny_call (codeAny_mono (F.run X.A X.stack s H _ us vs Q gu hr I.env0 hb r h) ?_)
  intro res s' hq
  match res, hq with
  | .ok (.ret u), hq => exact I.after hq
  | .ok .next, hq => exact hq.elim
  | .ok .brk, hq => exact hq.elim
  | .ok .cont, hq => exact hq.elim
  | .error e, hq => exact hq.elim
/-- f(..), all by place -/
theorem pe_callG (F : FnG X.prog X.w X.K X.mg X.base k f fd ps sp) (hr : Room k X.A) (gu : X.A.guards = some []) (hg : Gl X x) (hm : X.mg x = some (.ref f)) (hk : PySem.W.keepIn X.K (.ref f) = true) (hb : Binds X.K fd ps [])
    (ha : PA X (e :: es) t) (hdb : (x == ("__debug__" : Str)) = false := by decide) (he : starEach (e :: es) X.env = (false, eval e X.env) :: starEach es X.env := by rfl) (hpl : (backTo pos (starEach es X.env)).any (·.1) = false := by rfl) :
    PE X (.Call (.Name x p) (e :: es) [] pos) (tCall sp [] E0 t) := by
  constructor
  intro pins s σ H Q I h
  refine wpAny_Call_Name_kw (ld_glob I hg hm ?_ hdb)
  refine PySem.W.callWith_K (h₀ := X.base) I.ok.mod.kin hk (thn (ha.run pos pins s σ H _ I h) ?_) he hpl
  rintro us s1 ⟨vs, H1, I1, r, q⟩
  refine ⟨I1.kIn, ?_⟩
  have q' : sp vs H1 Q E0 := by rw [List.append_nil] at q; exact q
  have hl : (us ++ []).length = ps.length := by rw [List.append_nil, ← r.length]; exact F.len _ _ _ _ q'
  refine runG F hr gu I1 (hb s1 us I1.kIn hl) (us := us ++ []) ?_ q'
  rw [List.append_nil]; exact r
/-- f(k = e, ..): keywords alone; g puts them in the parameters' order -/
def tCallKw (n : Nat) (sp : Sp) (g : List V → List V) (tk : TA) : TE := fun σ H Q => tk σ H fun zs H2 => zs.length = n ∧ sp (g zs) H2 Q E0
structure KwB (fd : FuncData) (ps ks : List Str) (g : {α : Type} → List α → List α) : Prop where
  to : ∀ (s : Shared) (ws : List Value), ws.length = ks.length → BindsTo s fd ⟨[], ks.zip ws⟩ (ps.zip (g ws))
  rel : ∀ {zs : List V} {ws : List Value}, Vals zs ws → Vals (g zs) (g ws)
theorem pe_callGK {ks : List Str} {g : {α : Type} → List α → List α} {kws : List Keyword} {tk : TA} (F : FnG X.prog X.w X.K X.mg X.base k f fd ps sp) (hr : Room k X.A) (gu : X.A.guards = some []) (hg : Gl X x) (hm : X.mg x = some (.ref f)) (hk : PySem.W.keepIn X.K (.ref f) = true)
    (hb : KwB fd ps ks g) (hkw : PK X kws tk) (hall : (backToKw pos (keywordEach kws X.env)).all (·.1.isSome) = true := by rfl) (hks : (backToKw pos (keywordEach kws X.env)).filterMap (·.1) = ks := by rfl) (hdb : (x == ("__debug__" : Str)) = false := by decide)
    (hpl : ((backTo pos (starEach [] X.env)).any (·.1) || (backToKw pos (keywordEach kws X.env)).any (·.1.isNone)) = false := by rfl) : PE X (.Call (.Name x p) [] kws pos) (tCallKw ks.length sp g tk) := by
  constructor
  intro pins s σ H Q I h
  refine wpAny_Call_Name_kw (ld_glob I hg hm ?_ hdb)
  refine PySem.W.callWith_KW0 (h₀ := X.base) I.ok.mod.kin hk hall ?_ hpl
  refine thn (hkw.run pos pins s σ H _ I h) ?_
  rintro ws s2 ⟨zs, H2, I2, rz, l2, q2⟩
  refine ⟨I2.kIn, ?_⟩
  rw [hks]
  exact runG F hr gu I2 (hb.to s2 ws (rz.length.symm.trans l2)) (hb.rel rz) q2
end

/-- the head -/
theorem lawG {P : Program} {w : World} {K : PySem.W.Frag} {mg mb : Str → Option Value} {k : Nat} {fa a : Addr} {fd : FuncData} {x : Str} {sp : Sp} {s₁ : Shared} {vs : List Value} {ns : List Int}
    (kin : K.In s₁.heap) (n1 : s₁.heap.Ns mainGlobals mg) (n2 : s₁.heap.Ns builtinsNs mb) (n3 : ∀ x : Str, x ≠ "__name__" → mb x = bootBuiltins x) (lim : s₁.heap.NoLimit) (gens : s₁.gens = #[])
    (ha : s₁.heap.get? a = some { cls := .type "list", data := .seq vs.toArray }) (hi : IntsAre vs ns) (hl : ns.length ≤ sizeLine) (hr : Room k callerA)
    (F : ∀ base : Heap, K.In base → base.Ns mainGlobals mg → FnG P w K mg base k fa fd [x] sp) (hbind : ∀ (s : Shared) (u : Value), BindsTo s fd ⟨[u], []⟩ [(x, u)])
    (hsp : ∀ H : Hp, Only H → SqL K H a (ns.map V.int) → sp [.ref a] H (fun v _ => v = .bl true) E0) :
    codeAny (model P w) callerA (.call (.ref fa) ⟨[.ref a], []⟩) (fun r s' => r = .ok (.ret (.bool true)) ∧ OldK s₁.heap s'.heap ∧ s'.os = s₁.os ∧ AllBare s'.gens) s₁ := by
  have rv := vals_ints hi
  have go : ∀ H : Hp, Only H → SqL K H a (ns.map V.int) → HOk P w H s₁.heap → (∀ b u, H b = some u → b = a ∧ K.lookup a = none) →
      codeAny (model P w) callerA (.call (.ref fa) ⟨[.ref a], []⟩) (fun r s' => r = .ok (.ret (.bool true)) ∧ OldK s₁.heap s'.heap ∧ s'.os = s₁.os ∧ AllBare s'.gens) s₁ := by
    intro H only sq ok one
    have keep : ∀ {b : Addr} {m : Str → Option Value}, s₁.heap.Ns b m → (hidT s₁.heap H).Ns b m := by
      rintro b m ⟨o, es, ep, e, d, r⟩
      refine ⟨o, es, ep, hidT_get e ?_, d, r⟩
      cases q : H b with
      | none => rfl
      | some u =>
        obtain ⟨rfl, _⟩ := one b u q
        rw [ha] at e
        cases e
        cases (show Data.seq vs.toArray _ = Data.dict es ep from d)
    have kb : K.In (hidT s₁.heap H) := by
      intro b o e
      refine hidT_get (kin b o e) ?_
      cases q : H b with
      | none => rfl
      | some u =>
        obtain ⟨rfl, z⟩ := one b u q
        rw [z] at e
        cases e
    obtain ⟨mc, l1, l2⟩ := lim
    have e0 : Env0 P w K mg (hidT s₁.heap H) callerA [] s₁ H := {
      frames := rfl
      mod := ⟨kb, keep n1, ⟨mb, keep n2, n3⟩, mc, keep l1, l2⟩
      bs := fun _ _ e => of_hidT e
      bsz := Nat.le_of_eq (hidT_size _ _)
      funs := trivial
      frf := fun b hb => by cases (show b ∈ ([] : List Addr) from hb)
      hok := ok
      bare := .of_eq gens }
    refine codeAny_mono ((F _ kb (keep n1)).run callerA [] s₁ H ⟨[.ref a], []⟩ [.ref a] [.ref a] (fun v _ => v = .bl true) rfl hr e0 (hbind s₁ (.ref a)) (.cons rfl .nil) (hsp H only sq)) ?_
    intro r s' h
    match r, h with
    | .error e, h => exact h.elim
    | .ok .next, h => exact h.elim
    | .ok .brk, h => exact h.elim
    | .ok .cont, h => exact h.elim
    | .ok (.ret u), h =>
      obtain ⟨v, H', os, bare, un, hok', r', rfl⟩ := h
      cases (show u = Value.bool true from r')
      refine ⟨rfl, OldK.of_keep ?_, os, bare⟩
      intro b o e
      have nob : b ∉ ([] : List Addr) := by simp
      rcases only b with z | ⟨ob, xs, z⟩
      · exact un.keep b o e z nob nob
      · have z2 := (hok' b _ (un.frzs b ob _ z)).1
        rw [(ok b _ z).1] at e
        cases e
        exact z2
  cases hk : K.lookup a with
  | some o =>
    have e := kin a o hk
    rw [ha] at e
    cases e
    refine go (fun _ => none) (fun _ => .inl rfl) (.inr ⟨_, vs.toArray, _, hk, rfl, rfl, rfl, ?_, by simpa using rv⟩) (fun b u z => by cases z) (fun b u z => by cases z)
    rw [List.size_toArray, hi.length]; exact hl
  | none =>
    have pick : ∀ {b : Addr} {u : HO}, (if b = a then some (HO.frz { cls := .type "list", data := .seq vs.toArray } (.lst (ns.map V.int))) else none) = some u → b = a ∧ u = HO.frz { cls := .type "list", data := .seq vs.toArray } (.lst (ns.map V.int)) := by
      intro b u z
      by_cases hb : b = a
      · rw [if_pos hb] at z; exact ⟨hb, (Option.some.inj z).symm⟩
      · rw [if_neg hb] at z; cases z
    refine go (fun b => if b = a then some (.frz { cls := .type "list", data := .seq vs.toArray } (.lst (ns.map V.int))) else none) (fun b => ?_) (.inl (.inr ⟨_, if_pos rfl⟩)) (fun b u z => ?_) (fun b u z => ⟨(pick z).1, hk⟩)
    · by_cases hb : b = a
      · exact .inr ⟨_, _, if_pos hb⟩
      · exact .inl (if_neg hb)
    · obtain ⟨rfl, rfl⟩ := pick z
      exact ⟨ha, by rw [List.length_map]; exact hl, vs, _, rv, ha⟩
theorem walkG {l : PySem.W.OpenLaw} {n k : Nat} {q : Program} {loose : List Str} {XP : (Str → Option Value) → Heap → Prop} {YP : World → Heap → Prop} {d : DefRec} {K : Params → PySem.W.Frag} {sp : PySem.W.Frag → Sp} {x : Str}
    (hn : l.most = some n) (hz : n ≤ sizeLine) (hdf : d.params.defaults = []) (hr : Room k callerA) (hY : ∀ (w : World) (h : Heap), YP w h → (K w.params).In h)
    (F : ∀ (w : World) (mg : Str → Option Value) (fa : Addr) (h : Heap), (K w.params).In h → h.Ns mainGlobals mg → mg d.name = some (.ref fa) →
      ∃ fd : FuncData, (∀ (s : Shared) (u : Value), BindsTo s fd ⟨[u], []⟩ [(x, u)]) ∧ ∀ base : Heap, (K w.params).In base → base.Ns mainGlobals mg → FnG l.prog w (K w.params) mg base k fa fd [x] (sp (K w.params)))
    (hsp : ∀ (K : PySem.W.Frag) (H : Hp) (a : Addr) (ns : List Int), ns.length ≤ n → Only H → SqL K H a (ns.map V.int) → sp K [.ref a] H (fun v _ => v = .bl true) E0) :
    PySem.W.WalkO q loose XP YP l.row.toRowW d [] (fun f vs => PySem.call f vs) := by
  refine Att.attach_call hn hdf ?_
  intro w s₀ s₁ mg mb fa o pm cd doc a vs ns G Y ho hd hcd hmg hobj hints hlen hg
  have kin := hY w _ Y
  obtain ⟨fd, hb, hF⟩ := F w mg fa _ kin G.T.g hmg
  exact lawG kin G.T.g G.T.b G.T.builtins G.T.nolimit hg hobj hints (Nat.le_trans hlen hz) hr hF hb fun H hO hS => hsp (K w.params) H a ns hlen hO hS
end DL

namespace DL
open PySem PySem.Spec PyProof.Rows L2
variable [Tbl]

/-! ### statements -/
structure Fr where
  M0 : AP
  L : AP
  H0 : Hp
structure Stf (K : PySem.W.Frag) (F : Fr) (P : List Pin) (M L : AP) (σ : L2.St) (H : Hp) (es : Env') : Prop where
  st : Sts K P (fun a => F.H0 a = none) M L σ H es
  bs0 : Bs F.L F.M0 F.H0
  kp : Kp F.L F.H0 H
  m0 : ∀ a, F.M0 a → M a
  lo : ∀ a, F.L a → L a
  ln : ∀ a, L a → F.L a ∨ F.H0 a = none
structure DEnds where
  nx : Env' → Prop
  rt : SV → Prop
  bk : Env' → Prop := fun _ => False
  ct : Env' → Prop := fun _ => False
  xo : Fr → Prop := fun _ => True
abbrev NO : AP := fun _ => False
structure EOk (K : PySem.W.Frag) (F : Fr) (P : List Pin) (B : DEnds) (E : Ends) : Prop where
  nx : ∀ es M L σ H, Stf K F P M L σ H es → B.nx es → E.nx σ H
  rt : ∀ s v H, Kp F.L F.H0 H → SvOk K NO F.M0 F.L F.H0 H v s → B.rt s → E.rt v H
  bk : ∀ es M L σ H, Stf K F P M L σ H es → B.bk es → E.bk σ H
  ct : ∀ es M L σ H, Stf K F P M L σ H es → B.ct es → E.ct σ H
  xo : B.xo F
def DS (K : PySem.W.Frag) (ts : TS) (es : Env') (B : DEnds) : Prop :=
  ∀ F P M L σ H, Stf K F P M L σ H es → ∀ E : Ends, EOk K F P B E → ts E σ H
def SV.out : SV → SV
  | .own xs => .new xs
  | s => s
def SV.ret : SV → Prop
  | .bag => False
  | _ => True
def SV.sto : SV → SV
  | .new xs => .own xs
  | s => s
def SV.nown : SV → Prop
  | .own _ => False
  | _ => True
section
variable {K : PySem.W.Frag} {F : Fr} {P : List Pin} {N L M : AP} {H0 H1 H H' : Hp} {σ : L2.St} {es : Env'} {ta tb tc te : TE} {tt tu : TT} {Q : SV → Prop} {t u : TS} {B : DEnds}
theorem Stf.up (S : Stf K F P M L σ H es) (k : Kp L H H') : Kp F.L F.H0 H' := ⟨fun a o l e => k.k a o (fun z => (S.ln a z).elim l fun n => by rw [n] at e; cases e) (S.kp.k a o l e), fun a l => k.b a (S.lo a l)⟩
theorem Stf.kp' (S : Stf K F P M L σ H es) (k : Kp L H H') : Stf K F P M L σ H' es := ⟨S.st.kp k, S.bs0, S.up k, S.m0, S.lo, S.ln⟩
theorem Stf.was (S : Stf K F P M L σ H es) {a : Addr} (n : H a = none) : F.H0 a = none := S.kp.was n
/-- what goes out of a frame -/
theorem SvOk.leave (S : Stf K F P M L σ H es) (k : Kp L H H') {s : SV} {v : V} (h : SvOk K (fun a => F.H0 a = none) M L H H' v s) (r : s.ret) : SvOk K NO F.M0 F.L F.H0 H' v s.out := by
  cases s with
  | d x => exact Is.sub S.m0 h
  | own xs =>
    obtain ⟨a, vs, e, m, n, l, h1, h2⟩ := h
    exact ⟨a, vs, e, n, h1, h2.sub fun b q => q.elim (S.m0 b) fun z => by rw [z]; exact m⟩
  | new xs =>
    obtain ⟨a, vs, e, n, h1, h2⟩ := h
    exact ⟨a, vs, e, S.kp.was n, h1, h2.sub fun b q => q.elim (fun z => .inl (S.m0 b z)) .inr⟩
  | bag => exact r.elim
  | scr ns => exact h
  | rng lo hi => exact h
  | dic kvs => exact h
  | dcd kvs =>
    obtain ⟨a, e, ps, h1, h2, h3⟩ := h
    exact ⟨a, e, ps, h1, h2, IsAll.sub S.m0 h3⟩
  | ty n => exact h
  | cls C => exact h
theorem ds_next (q : B.nx es) : DS K tNext es B := fun F P M L σ H S E o => o.nx es M L σ H S q
theorem ds_brk (q : B.bk es) : DS K tBreak es B := fun F P M L σ H S E o => o.bk es M L σ H S q
theorem ds_cont (q : B.ct es) : DS K tCont es B := fun F P M L σ H S E o => o.ct es M L σ H S q
theorem ds_seq (h : DS K t es { B with nx := fun e => DS K u e B }) : DS K (tSeq t u) es B := fun F P M L σ H S E o =>
  h F P M L σ H S { E with nx := u E } ⟨fun e M L σ H S q => q F P M L σ H S E o, o.rt, o.bk, o.ct, o.xo⟩
theorem ds_ret (h : DE K te es fun s => s.ret ∧ B.rt s.out) : DS K (tRet te) es B := fun F P M L σ H S E o =>
  h P _ M L σ H S.st _ fun s v H' k ok q => o.rt s.out v H' (S.up k) (ok.leave S k q.1) q.2
theorem ds_retN (q : B.rt (.d .non)) : DS K tRetN es B := fun F P M L σ H S E o => o.rt (.d .non) .non H S.kp Is.non q
theorem ds_if (h : DT K tt es fun b => if b = true then DS K t es B else DS K u es B) : DS K (tIfS tt t u) es B := fun F P M L σ H S E o =>
  h P _ M L σ H S.st _ fun b H' k q => by
    cases b with
    | true =>
      rw [if_pos rfl] at q ⊢
      exact q F P M L σ H' (S.kp' k) E o
    | false =>
      rw [if_neg Bool.false_ne_true] at q ⊢
      exact q F P M L σ H' (S.kp' k) E o
theorem ds_drop (h : DE K te es fun _ => B.nx es) : DS K (tDrop te) es B := fun F P M L σ H S E o =>
  h P _ M L σ H S.st _ fun s v H' k ok q => o.nx es M L σ H' (S.kp' k) q
theorem set_some {α : Type} {xs : List α} {i j : Nat} {x y : α} (h : (xs.set i x)[j]? = some y) : (i = j ∧ y = x) ∨ (i ≠ j ∧ xs[j]? = some y) := by
  by_cases e : i = j
  · subst e
    have hl := (List.getElem?_eq_some_iff.mp h).1
    rw [List.length_set] at hl
    rw [List.getElem?_set_self hl] at h
    exact .inl ⟨rfl, (Option.some.inj h).symm⟩
  · rw [List.getElem?_set_ne e] at h
    exact .inr ⟨e, h⟩
/-- a thing that stood ahead, when a new list is claimed -/
theorem SvOk.lift {a : Addr} {N : AP} (bs : Bs L M H) (k : Kp L H H') (n : H a = none) {w : V} {z : SV} (q : SvOk K N M L H H w z) : SvOk K N (M.add a) L H' H' w z := by
  have k1 : ∀ b o, H b = some o → ¬ (M.add a) b → H' b = some o ∧ ¬ (M.add a) b := fun b o e m => ⟨k.k b o (fun l => m (.inl (bs.lm b l))) e, m⟩
  have k2 := sqt_keep (K := K) (M := M) (fun b o m e => k.k b o (fun l => m (bs.lm b l)) e) bs.tr
  cases z with
  | d x => exact Is.chg k1 k2 _ _ (Is.add n q)
  | own ys =>
    obtain ⟨b, ws, e, m, nn, l, g1, g2⟩ := q
    exact ⟨b, ws, e, .inl m, nn, l, k.k _ _ l g1, IsAll.chg k1 k2 _ _ (g2.add n)⟩
  | new ys =>
    obtain ⟨b, ws, e, nn, g1, g2⟩ := q
    rw [nn] at g1; cases g1
  | bag => exact q
  | scr ns => exact (show SvOk K NO M L H H' w (.scr ns) from SvOk.kp (N := NO) bs (Kp.refl bs) k (show SvOk K NO M L H H w (.scr ns) from q))
  | rng lo hi => exact (show SvOk K NO M L H H' w (.rng lo hi) from SvOk.kp (N := NO) bs (Kp.refl bs) k (show SvOk K NO M L H H w (.rng lo hi) from q))
  | dic kvs => exact (show SvOk K NO M L H H' w (.dic kvs) from SvOk.kp (N := NO) bs (Kp.refl bs) k (show SvOk K NO M L H H w (.dic kvs) from q))
  | dcd kvs =>
    obtain ⟨b, e, ps, h1, h2, h3⟩ := q
    exact ⟨b, e, ps, k.k _ _ (fun l => (bs.bag b l).no h1 (fun _ _ z => by cases z) (fun _ z => by cases z)) h1, h2, IsAll.chg k1 k2 _ _ (h3.add n)⟩
  | ty n => exact q
  | cls C => exact q
theorem Stf.claim (S : Stf K F P M L σ H es) (k : Kp L H H') {a : Addr} {vs : List V} (n : H a = none) (h1 : H' a = some (.lst vs)) :
    Stf K F P (M.add a) L σ H' es ∧ ∀ (j : Nat) (zs : List D), es[j]? = some (some (.own zs)) → σ[j]? ≠ some (some (.ref a)) := by
  have bs := S.st.bs
  refine ⟨⟨⟨(k.bs bs).add h1, S.st.len, fun j z ez => ?_, fun p hp => ?_, S.st.sep⟩, S.bs0, S.up k, fun b m => .inl (S.m0 b m), S.lo, S.ln⟩, fun j zs e q => ?_⟩
  · obtain ⟨w, g1, g2⟩ := S.st.ok j z ez
    exact ⟨w, g1, g2.lift bs k n⟩
  · refine PinOk.chg (fun b o e m => ?_) (sqt_keep (M := M) (fun b o m e => k.k b o (fun l => m (bs.lm b l)) e) bs.tr) (S.st.pin p hp)
    exact ⟨k.k b o (fun l => m (bs.lm b l)) e, fun q => q.elim m fun z => by rw [z, n] at e; cases e⟩
  · obtain ⟨w, g1, b', ws, g2, m, nn, l, g3, g4⟩ := S.st.ok j _ e
    rw [g1] at q
    cases q
    cases g2
    rw [n] at g3; cases g3
theorem set_lt {i : Nat} {α : Type} {β : Type} {xs : List α} {ys : List β} {x : β} {z : β} (l : xs.length = ys.length) (e : (ys.set i x)[i]? = some z) : i < xs.length := by
  have := (List.getElem?_eq_some_iff.mp e).1
  rw [List.length_set] at this
  rw [l]; exact this
theorem Sts.setp {N : AP} (S : Sts K P N M L σ H es) {i : Nat} {s : SV} {v : V} (h : SvOk K N M L H H v s) (no : s.nown) : Sts K P N M L (σ.set i (some v)) H (es.set i (some s)) := by
  refine ⟨S.bs, ?_, fun j z ez => ?_, S.pin, fun j1 j2 a xs ys hne e1 e2 e3 => ?_⟩
  · rw [List.length_set, List.length_set]; exact S.len
  · rcases set_some ez with ⟨rfl, e'⟩ | ⟨hij, e'⟩
    · cases e'
      exact ⟨v, List.getElem?_set_self (set_lt S.len ez), h⟩
    · obtain ⟨w, h1, h2⟩ := S.ok j z e'
      exact ⟨w, by rw [List.getElem?_set_ne hij]; exact h1, h2⟩
  · rcases set_some e1 with ⟨rfl, e'⟩ | ⟨h1, e'⟩
    · cases s with
      | own xs => exact no.elim
      | _ => cases e'
    · rcases set_some e2 with ⟨rfl, e''⟩ | ⟨h2, e''⟩
      · cases s with
        | own xs => exact no.elim
        | _ => cases e''
      · rw [List.getElem?_set_ne h1] at e3
        rw [List.getElem?_set_ne h2]
        exact S.sep j1 j2 a xs ys hne e' e'' e3
theorem Stf.setp (S : Stf K F P M L σ H es) {i : Nat} {s : SV} {v : V} (h : SvOk K (fun a => F.H0 a = none) M L H H v s) (no : s.nown) : Stf K F P M L (σ.set i (some v)) H (es.set i (some s)) :=
  ⟨S.st.setp h no, S.bs0, S.kp, S.m0, S.lo, S.ln⟩
/-- slots forgotten -/
theorem Sts.wipe1 {N : AP} (S : Sts K P N M L σ H es) (i : Nat) : Sts K P N M L (σ.set i none) H (es.set i none) := by
  refine ⟨S.bs, ?_, fun j z ez => ?_, S.pin, fun j1 j2 a xs ys hne e1 e2 e3 => ?_⟩
  · rw [List.length_set, List.length_set]; exact S.len
  · rcases set_some ez with ⟨rfl, e'⟩ | ⟨hij, e'⟩
    · cases e'
    · obtain ⟨w, h1, h2⟩ := S.ok j z e'
      exact ⟨w, by rw [List.getElem?_set_ne hij]; exact h1, h2⟩
  · rcases set_some e1 with ⟨rfl, e'⟩ | ⟨h1, e'⟩
    · cases e'
    · rcases set_some e2 with ⟨rfl, e''⟩ | ⟨h2, e''⟩
      · cases e''
      · rw [List.getElem?_set_ne h1] at e3
        rw [List.getElem?_set_ne h2]
        exact S.sep j1 j2 a xs ys hne e' e'' e3
theorem Sts.claim {N : AP} (S : Sts K P N M L σ H es) (k : Kp L H H') {a : Addr} {vs : List V} (n : H a = none) (h1 : H' a = some (.lst vs)) :
    Sts K P N (M.add a) L σ H' es ∧ ∀ (j : Nat) (zs : List D), es[j]? = some (some (.own zs)) → σ[j]? ≠ some (some (.ref a)) := by
  have bs := S.bs
  refine ⟨⟨(k.bs bs).add h1, S.len, fun j z ez => ?_, fun p hp => ?_, S.sep⟩, fun j zs e q => ?_⟩
  · obtain ⟨w, g1, g2⟩ := S.ok j z ez
    exact ⟨w, g1, g2.lift bs k n⟩
  · refine PinOk.chg (fun b o e m => ?_) (sqt_keep (M := M) (fun b o m e => k.k b o (fun l => m (bs.lm b l)) e) bs.tr) (S.pin p hp)
    exact ⟨k.k b o (fun l => m (bs.lm b l)) e, fun q => q.elim m fun z => by rw [z, n] at e; cases e⟩
  · obtain ⟨w, g1, b', ws, g2, m, nn, l, g3, g4⟩ := S.ok j _ e
    rw [g1] at q
    cases q
    cases g2
    rw [n] at g3; cases g3
/-- a claimed list that no name holds is changed -/
theorem Sts.updD {N : AP} (S : Sts K P N M L σ H es) {a : Addr} {vs ws : List V} (m : M a) (l : ¬ L a) (h1 : H a = some (.lst vs)) (old : ∀ (j : Nat) (zs : List D), es[j]? = some (some (.own zs)) → σ[j]? ≠ some (some (.ref a))) :
    Sts K P N M L σ (L2.upd H a (.lst ws)) es ∧ ∀ {us : List V} {ds : List D}, IsAll K M H us ds → IsAll K M (L2.upd H a (.lst ws)) us ds := by
  have bs := S.bs
  have kn : ∀ b o, ¬ M b → H b = some o → L2.upd H a (.lst ws) b = some o := fun b o q z => by rw [upd_ne (fun y => q (by rw [y]; exact m))]; exact z
  have kt := sqt_keep (K := K) (M := M) kn bs.tr
  have ki : ∀ {w : V} {x : D}, Is K M H w x → Is K M (L2.upd H a (.lst ws)) w x := fun {w x} q => Is.chg (fun b o z q => ⟨kn b o q z, q⟩) kt _ _ q
  have kia : ∀ {w : List V} {x : List D}, IsAll K M H w x → IsAll K M (L2.upd H a (.lst ws)) w x := fun {w x} q => IsAll.chg (fun b o z q => ⟨kn b o q z, q⟩) kt _ _ q
  have frz : ∀ b o u, H b = some (.frz o u) → L2.upd H a (.lst ws) b = some (.frz o u) := fun b o u z => by rw [upd_ne (fun y => by rw [y, h1] at z; cases z)]; exact z
  refine ⟨⟨⟨bs.lm, fun b o q z => ?_, fun b q => ?_, fun b q => ?_, bs.tb⟩, S.len, fun j z ez => ?_, fun p hp => PinOk.chg (fun b o z q => ⟨kn b o q z, q⟩) kt (S.pin p hp), S.sep⟩, kia⟩
  · by_cases y : b = a
    · rw [y, upd_same] at z; cases z; exact True.intro
    · rw [upd_ne y] at z; exact bs.tr b o q z
  · by_cases y : b = a
    · rw [y]; exact ⟨_, upd_same⟩
    · rw [upd_ne y]; exact bs.tk b q
  · exact (bs.bag b q).upd (fun y => l (by rw [← y]; exact q)) (nc_lst h1)
  · obtain ⟨w, g1, g2⟩ := S.ok j z ez
    refine ⟨w, g1, ?_⟩
    cases z with
    | d x => exact ki g2
    | own zs =>
      obtain ⟨b, us, rfl, m', n', l', k1, k2⟩ := g2
      refine ⟨b, us, rfl, m', n', l', ?_, kia k2⟩
      rw [upd_ne]
      · exact k1
      · intro y
        subst y
        exact old j zs ez g1
    | new zs =>
      obtain ⟨b, us, _, n', k1, k2⟩ := g2
      rw [n'] at k1; cases k1
    | bag => exact g2
    | scr ns =>
      obtain ⟨b, z, y⟩ := g2
      exact ⟨b, z, y.keep frz⟩
    | rng lo hi =>
      obtain ⟨b, z, y⟩ := g2
      exact ⟨b, z, by rw [upd_ne (fun q => by rw [q, h1] at y; cases y)]; exact y⟩
    | dic kvs =>
      obtain ⟨b, z, y⟩ := g2
      exact ⟨b, z, by rw [upd_ne (fun q => by rw [q, h1] at y; cases y)]; exact y⟩
    | dcd kvs =>
      obtain ⟨b, z, ps, y, y2, y3⟩ := g2
      exact ⟨b, z, ps, by rw [upd_ne (fun q => by rw [q, h1] at y; cases y)]; exact y, y2, kia y3⟩
    | ty n => exact g2
    | cls C => exact g2
theorem Stf.seto (S : Stf K F P M L σ H es) {i : Nat} {a : Addr} {vs : List V} {xs : List D} (m : M a) (n : F.H0 a = none) (l : ¬ L a) (h1 : H a = some (.lst vs)) (h2 : IsAll K M H vs xs)
    (old : ∀ (j : Nat) (zs : List D), j ≠ i → es[j]? = some (some (.own zs)) → σ[j]? ≠ some (some (.ref a))) : Stf K F P M L (σ.set i (some (.ref a))) H (es.set i (some (.own xs))) := by
  refine ⟨⟨S.st.bs, ?_, fun j z ez => ?_, S.st.pin, fun j1 j2 b xs' ys' hne e1 e2 e3 => ?_⟩, S.bs0, S.kp, S.m0, S.lo, S.ln⟩
  · rw [List.length_set, List.length_set]; exact S.st.len
  · rcases set_some ez with ⟨rfl, e'⟩ | ⟨hij, e'⟩
    · cases e'
      exact ⟨_, List.getElem?_set_self (set_lt S.st.len ez), a, vs, rfl, m, n, l, h1, h2⟩
    · obtain ⟨w, g1, g2⟩ := S.st.ok j z e'
      exact ⟨w, by rw [List.getElem?_set_ne hij]; exact g1, g2⟩
  · rcases set_some e1 with ⟨rfl, e'⟩ | ⟨g1, e'⟩
    · rcases set_some e2 with ⟨rfl, e''⟩ | ⟨g2, e''⟩
      · exact absurd rfl hne
      · rw [List.getElem?_set_self (set_lt S.st.len e1)] at e3
        cases e3
        rw [List.getElem?_set_ne g2]
        exact old j2 _ (Ne.symm g2) e''
    · rcases set_some e2 with ⟨rfl, e''⟩ | ⟨g2, e''⟩
      · rw [List.getElem?_set_ne g1] at e3
        rw [List.getElem?_set_self (set_lt S.st.len e2)]
        intro z
        cases z
        exact old j1 _ (Ne.symm g1) e' e3
      · rw [List.getElem?_set_ne g1] at e3
        rw [List.getElem?_set_ne g2]
        exact S.st.sep j1 j2 b xs' ys' hne e' e'' e3
theorem SV.sto_plain {s : SV} (h : ∀ xs, s ≠ .new xs) : s.sto = s := by
  cases s with
  | new xs => exact absurd rfl (h xs)
  | _ => rfl
theorem SvOk.plain {N : AP} {s : SV} {v : V} (h : ∀ xs, s ≠ .new xs) (q : SvOk K N M L H0 H v s) : SvOk K N M L H1 H v s := by
  cases s with
  | new xs => exact absurd rfl (h xs)
  | _ => exact q
/-- a name is given a thing (base H: what was ahead) -/
theorem Stf.store (S : Stf K F P M L σ H es) (k : Kp L H H') {i : Nat} {s : SV} {v : V} (h : SvOk K (fun a => F.H0 a = none) M L H H' v s) (no : s.nown) : ∃ M', Stf K F P M' L (σ.set i (some v)) H' (es.set i (some s.sto)) := by
  by_cases hn : ∃ xs, s = .new xs
  · obtain ⟨xs, rfl⟩ := hn
    obtain ⟨a, vs, rfl, n, h1, h2⟩ := h
    obtain ⟨S1, old⟩ := S.claim k n h1
    exact ⟨M.add a, S1.seto (.inr rfl) (S.kp.was n) (fun l => fresh_nm S.st.bs n (S.st.bs.lm a l)) h1 h2 fun j zs _ => old j zs⟩
  · have hp : ∀ xs, s ≠ .new xs := fun xs e => hn ⟨xs, e⟩
    rw [SV.sto_plain hp]
    exact ⟨M, (S.kp' k).setp (h.plain hp) no⟩
theorem ds_set {i : Nat} (h : DE K te es fun s => s.nown ∧ B.nx (es.set i (some s.sto))) : DS K (tAsg te (gName i)) es B := fun F P M L σ H S E o =>
  h P _ M L σ H S.st _ fun s v H' k ok q => by
    obtain ⟨M', S'⟩ := S.store (i := i) k ok q.1
    exact o.nx _ _ _ _ _ S' q.2
/-- an owned list becomes a thing like others -/
theorem Stf.freeze (S : Stf K F P M L σ H es) {i : Nat} {xs : List D} (e : es[i]? = some (some (.own xs))) : ∃ M', Stf K F P M' L σ H (es.set i (some (.d (.lst xs)))) := by
  obtain ⟨v, hv, a, vs, rfl, m, n, l, h1, h2⟩ := S.st.ok i _ e
  have sub : ∀ b, (M b ∧ b ≠ a) → M b := fun b h => h.1
  refine ⟨fun b => M b ∧ b ≠ a, ⟨⟨fun b q => ⟨S.st.bs.lm b q, fun z => l (by rw [← z]; exact q)⟩, fun b o q e => S.st.bs.tr b o q.1 e, fun b q => S.st.bs.tk b q.1, S.st.bs.bag, S.st.bs.tb⟩, ?_, fun j z ez => ?_, fun p hp => PinOk.chg (fun b o e m => ⟨e, fun q => m q.1⟩) (TK.refl _ _) (S.st.pin p hp), fun j1 j2 b xs' ys' hne e1 e2 e3 => ?_⟩, S.bs0, S.kp, fun b q => ⟨S.m0 b q, fun z => ?_⟩, S.lo, S.ln⟩
  · rw [List.length_set]; exact S.st.len
  · rcases set_some ez with ⟨rfl, e'⟩ | ⟨hij, e'⟩
    · cases e'
      exact ⟨_, hv, Is.lst h1 (fun q => q.2 rfl) (h2.sub sub)⟩
    · obtain ⟨w, g1, g2⟩ := S.st.ok j z e'
      refine ⟨w, g1, ?_⟩
      cases z with
      | d x => exact Is.sub sub g2
      | own ys =>
        obtain ⟨b, ws, rfl, m', n', l', k1, k2⟩ := g2
        refine ⟨b, ws, rfl, ⟨m', fun z => ?_⟩, n', l', k1, k2.sub sub⟩
        subst z
        exact S.st.sep i j b xs ys hij e e' hv g1
      | new ys =>
        obtain ⟨b, ws, _, n', k1, k2⟩ := g2
        rw [n'] at k1; cases k1
      | bag => exact g2
      | scr ns => exact g2
      | rng lo hi => exact g2
      | dic kvs => exact g2
      | dcd kvs =>
        obtain ⟨b, z, ps, y, y2, y3⟩ := g2
        exact ⟨b, z, ps, y, y2, y3.sub sub⟩
      | ty n => exact g2
      | cls C => exact g2
  · rcases set_some e1 with ⟨rfl, e'⟩ | ⟨g1, e'⟩
    · cases e'
    · rcases set_some e2 with ⟨rfl, e''⟩ | ⟨g2, e''⟩
      · cases e''
      · exact S.st.sep j1 j2 b xs' ys' hne e' e'' e3
  · obtain ⟨o, q'⟩ := S.bs0.tk b q
    rw [z, n] at q'; cases q'
theorem ds_freeze {i : Nat} {xs : List D} (e : es[i]? = some (some (.own xs))) (h : DS K t (es.set i (some (.d (.lst xs)))) B) : DS K t es B := fun F P M L σ H S E o => by
  obtain ⟨M', S'⟩ := S.freeze e
  exact h F P M' L σ H S' E o
/-- an owned list is changed -/
theorem Stf.upd (S : Stf K F P M L σ H es) {i : Nat} {xs ys : List D} {a : Addr} {ws : List V} (e : es[i]? = some (some (.own xs))) (hv : σ[i]? = some (some (.ref a))) (hw : IsAll K M H ws ys) : Stf K F P M L σ (L2.upd H a (.lst ws)) (es.set i (some (.own ys))) := by
  obtain ⟨v, hv', a', vs, rfl, m, n, l, h1, h2⟩ := S.st.ok i _ e
  rw [hv] at hv'
  cases hv'
  have bs := S.st.bs
  have kn : ∀ b o, ¬ M b → H b = some o → L2.upd H a (.lst ws) b = some o := fun b o q z => by rw [upd_ne (fun y => q (by rw [y]; exact m))]; exact z
  have kt := sqt_keep (K := K) (M := M) kn bs.tr
  have ki : ∀ {w : V} {x : D}, Is K M H w x → Is K M (L2.upd H a (.lst ws)) w x := fun {w x} q => Is.chg (fun b o z q => ⟨kn b o q z, q⟩) kt _ _ q
  have kia : ∀ {w : List V} {x : List D}, IsAll K M H w x → IsAll K M (L2.upd H a (.lst ws)) w x := fun {w x} q => IsAll.chg (fun b o z q => ⟨kn b o q z, q⟩) kt _ _ q
  have frz : ∀ b o u, H b = some (.frz o u) → L2.upd H a (.lst ws) b = some (.frz o u) := fun b o u z => by rw [upd_ne (fun y => by rw [y, h1] at z; cases z)]; exact z
  refine ⟨⟨⟨bs.lm, fun b o q z => ?_, fun b q => ?_, fun b q => ?_, bs.tb⟩, ?_, fun j z ez => ?_, fun p hp => PinOk.chg (fun b o z q => ⟨kn b o q z, q⟩) kt (S.st.pin p hp), fun j1 j2 b xs' ys' hne e1 e2 e3 => ?_⟩, S.bs0, ⟨fun b o q z => ?_, fun b q => ?_⟩, S.m0, S.lo, S.ln⟩
  · by_cases y : b = a
    · rw [y, upd_same] at z; cases z; exact True.intro
    · rw [upd_ne y] at z; exact bs.tr b o q z
  · by_cases y : b = a
    · rw [y]; exact ⟨_, upd_same⟩
    · rw [upd_ne y]; exact bs.tk b q
  · exact (bs.bag b q).upd (fun y => l (by rw [← y]; exact q)) (nc_lst h1)
  · rw [List.length_set]; exact S.st.len
  · rcases set_some ez with ⟨rfl, e'⟩ | ⟨hij, e'⟩
    · cases e'
      exact ⟨_, hv, a, ws, rfl, m, n, l, upd_same, kia hw⟩
    · obtain ⟨w, g1, g2⟩ := S.st.ok j z e'
      refine ⟨w, g1, ?_⟩
      cases z with
      | d x => exact ki g2
      | own zs =>
        obtain ⟨b, us, rfl, m', n', l', k1, k2⟩ := g2
        refine ⟨b, us, rfl, m', n', l', ?_, kia k2⟩
        rw [upd_ne]
        · exact k1
        · intro y
          subst y
          exact S.st.sep i j b xs zs hij e e' hv g1
      | new zs =>
        obtain ⟨b, us, _, n', k1, k2⟩ := g2
        rw [n'] at k1; cases k1
      | bag => exact g2
      | scr ns =>
        obtain ⟨b, z, y⟩ := g2
        exact ⟨b, z, y.keep frz⟩
      | rng lo hi =>
        obtain ⟨b, z, y⟩ := g2
        exact ⟨b, z, by rw [upd_ne (fun q => by rw [q, h1] at y; cases y)]; exact y⟩
      | dic kvs =>
        obtain ⟨b, z, y⟩ := g2
        exact ⟨b, z, by rw [upd_ne (fun q => by rw [q, h1] at y; cases y)]; exact y⟩
      | dcd kvs =>
        obtain ⟨b, z, ps, y, y2, y3⟩ := g2
        exact ⟨b, z, ps, by rw [upd_ne (fun q => by rw [q, h1] at y; cases y)]; exact y, y2, kia y3⟩
      | ty n => exact g2
      | cls C => exact g2
  · rcases set_some e1 with ⟨rfl, e'⟩ | ⟨g1, e'⟩
    · rcases set_some e2 with ⟨rfl, e''⟩ | ⟨g2, e''⟩
      · exact absurd rfl hne
      · exact S.st.sep _ j2 b xs ys' hne e e'' e3
    · rcases set_some e2 with ⟨rfl, e''⟩ | ⟨g2, e''⟩
      · exact S.st.sep j1 _ b xs' xs hne e' e e3
      · exact S.st.sep j1 j2 b xs' ys' hne e' e'' e3
  · rw [upd_ne (fun y => by rw [y, n] at z; cases z)]
    exact S.kp.k b o q z
  · have q := S.lo b q
    exact (bs.bag b q).upd (fun y => l (by rw [← y]; exact q)) (nc_lst h1)
theorem tyL {a : Addr} {H : Hp} {vs : List V} (h : H a = some (.lst vs)) : tyV K "list" (.ref a) H := .inl ⟨rfl, vs, .inl (.inl h)⟩
/-- an owned pair of numbers becomes a bag -/
theorem ds_tobag {i : Nat} {g m : Int} (e : es[i]? = some (some (.own [.int g, .int m]))) (h : DS K t (es.set i (some .bag)) B) : DS K t es B := fun F P M L σ H S E o => by
  obtain ⟨v, hv, a, vs, rfl, mm, n, l, h1, h2⟩ := S.st.ok i _ e
  have ev : vs = [.int g, .int m] := IsAll.ofInts (ns := [g, m]) h2
  subst ev
  refine h F P M (L.add a) σ H ⟨⟨⟨fun b q => q.elim (S.st.bs.lm b) fun z => by rw [z]; exact mm, S.st.bs.tr, S.st.bs.tk, fun b q => q.elim (S.st.bs.bag b) fun z => .inl ⟨⟨g, m, by rw [z]; exact h1⟩, fun q h => l (S.st.bs.tb a q (by rw [← z]; exact h))⟩, fun b q h => .inl (S.st.bs.tb b q h)⟩, ?_, fun j z ez => ?_, S.st.pin, fun j1 j2 b xs' ys' hne e1 e2 e3 => ?_⟩, S.bs0, S.kp, S.m0, fun b q => .inl (S.lo b q), fun b q => q.elim (S.ln b) fun z => .inr (by rw [z]; exact n)⟩ E o
  · rw [List.length_set]; exact S.st.len
  · rcases set_some ez with ⟨rfl, e'⟩ | ⟨hij, e'⟩
    · cases e'
      exact ⟨_, hv, a, rfl, .inr rfl, fun q h => l (S.st.bs.tb a q h)⟩
    · obtain ⟨w, g1, g2⟩ := S.st.ok j z e'
      refine ⟨w, g1, ?_⟩
      cases z with
      | own ys =>
        obtain ⟨b, ws, rfl, m', n', l', k1, k2⟩ := g2
        refine ⟨b, ws, rfl, m', n', fun q => q.elim l' fun z => ?_, k1, k2⟩
        subst z
        exact S.st.sep i j b _ ys hij e e' hv g1
      | bag =>
        obtain ⟨b, q1, q2, q3⟩ := g2
        exact ⟨b, q1, .inl q2, q3⟩
      | d x => exact g2
      | new ys => exact g2
      | scr ns => exact g2
      | rng lo hi => exact g2
      | dic kvs => exact g2
      | dcd kvs => exact g2
      | ty n => exact g2
      | cls C => exact g2
  · rcases set_some e1 with ⟨rfl, e'⟩ | ⟨g1, e'⟩
    · cases e'
    · rcases set_some e2 with ⟨rfl, e''⟩ | ⟨g2, e''⟩
      · cases e''
      · exact S.st.sep j1 j2 b xs' ys' hne e' e'' e3
/-- found.append(e) -/
theorem ds_app {i : Nat} {xs : List D} (e : es[i]? = some (some (.own xs))) (h : DE K te es fun s => ∃ x, s.dat = some x ∧ xs.length < 100000 ∧ B.nx (es.set i (some (.own (xs ++ [x]))))) :
    DS K (tDrop (tBM K "list" rAppend (tVar i) (tCons te tNil))) es B := fun F P M L σ H S E o => by
  obtain ⟨v, hv, a, vs, rfl, m, n, l, h1, h2⟩ := S.st.ok i _ e
  refine ⟨.ref a, hv, tyL h1, h P _ M L σ H S.st _ fun s w H' k ok q => ?_⟩
  obtain ⟨x, ex, hz, q⟩ := q
  have h1' := k.k _ _ l h1
  have S' := S.kp' k
  have ia := IsAll.kp k S.st.bs h2
  have ix : Is K M H' w x := ok.data S.st.bs ex
  refine ⟨a, vs, w, rfl, rfl, h1', by rw [h2.len]; exact Nat.lt_of_lt_of_le hz (by decide), ?_⟩
  exact o.nx _ _ _ _ _ (S'.upd e hv (ia.append (.cons ix .nil))) q
/-- found[k] = e -/
theorem ds_put {i : Nat} {xs : List D} {ti : TE} (e : es[i]? = some (some (.own xs))) (h : DE K te es fun s => ∃ x, s.dat = some x ∧ DE K ti es fun z => ∃ n j, z = .d (.int n) ∧ ixN xs.length n = some j ∧ B.nx (es.set i (some (.own (xs.set j x))))) :
    DS K (tAsg te (gSub (tVar i) ti rSetL)) es B := fun F P M L σ H S E o => by
  obtain ⟨v, hv, a, vs, rfl, m, n, l, h1, h2⟩ := S.st.ok i _ e
  refine h P _ M L σ H S.st _ fun s w H1 k1 ok q => ?_
  obtain ⟨x, ex, q⟩ := q
  have ix : Is K M H1 w x := ok.data S.st.bs ex
  refine ⟨.ref a, hv, q P _ M L σ H1 (S.kp' k1).st _ fun z u H2 k2 oz q2 => ?_⟩
  obtain ⟨nn, j, rfl, hj, q2⟩ := q2
  cases oz
  have k12 := k1.trans k2
  have S' := S.kp' k12
  refine ⟨a, vs, nn, j, rfl, rfl, k12.k _ _ l h1, by rw [h2.len]; exact hj, ?_⟩
  exact o.nx _ _ _ _ _ (S'.upd e hv ((IsAll.kp k12 S.st.bs h2).set (Is.kp k2 (k1.bs S.st.bs) ix) j)) q2
/-- x, y = e, e' -/
theorem ds_par {i j : Nat} (hij : i ≠ j) (h : DE K ta es fun s => DE K tb es fun z => s.nown ∧ z.nown ∧ B.nx ((es.set i (some s.sto)).set j (some z.sto))) : DS K (tPar i j (tCons ta (tCons tb tNil))) es B := fun F P M L σ H S E o => by
  refine h P _ M L σ H S.st _ fun s v H1 k1 o1 q1 => ?_
  by_cases hn : ∃ xs, s = .new xs
  · obtain ⟨xs, rfl⟩ := hn
    obtain ⟨a, vs, rfl, n, h1, h2⟩ := o1
    obtain ⟨S1, old⟩ := S.claim k1 n h1
    have la : ¬ L a := fun l => fresh_nm S.st.bs n (S.st.bs.lm a l)
    refine q1 P _ _ L σ H1 S1.st _ fun z w H2 k2 o2 q2 => ?_
    obtain ⟨n1, n2, q⟩ := q2
    refine ⟨.ref a, w, rfl, ?_⟩
    have h1' := k2.k _ _ la h1
    have h2' := IsAll.kp k2 S1.st.bs h2
    by_cases hm : ∃ ys, z = .new ys
    · obtain ⟨ys, rfl⟩ := hm
      obtain ⟨b, us, rfl, nb, g1, g2⟩ := o2
      obtain ⟨S2, old2⟩ := S1.claim k2 nb g1
      have ab : a ≠ b := fun e => by rw [← e, h1] at nb; cases nb
      have h2'' : IsAll K ((M.add a).add b) H2 vs xs := IsAll.chg (fun b' o' e m => ⟨k2.k b' o' (fun l => m (.inl (S1.st.bs.lm b' l))) e, m⟩) (sqt_keep (M := M.add a) (fun b' o' m e => k2.k b' o' (fun l => m (S1.st.bs.lm b' l)) e) S1.st.bs.tr) _ _ (h2.add nb)
      have S3 := S2.seto (i := i) (.inl (.inr rfl)) (S.kp.was n) la h1' h2'' fun j zs _ => old j zs
      refine o.nx _ _ _ _ _ (S3.seto (i := j) (.inr rfl) (S1.kp.was nb) (fun l => fresh_nm S1.st.bs nb (S1.st.bs.lm b l)) g1 g2 fun j' zs hj e => ?_) q
      rcases set_some e with ⟨rfl, _⟩ | ⟨hij', e'⟩
      · have hl : i < σ.length := by
          have := (List.getElem?_eq_some_iff.mp e).1
          rw [List.length_set] at this
          rw [S.st.len]; exact this
        rw [List.getElem?_set_self hl]
        intro zz
        cases zz
        exact ab rfl
      · rw [List.getElem?_set_ne hij']
        exact old2 j' zs e'
    · have hp : ∀ xs, z ≠ .new xs := fun xs e => hm ⟨xs, e⟩
      rw [SV.sto_plain hp] at q
      have S3 := (S1.kp' k2).seto (i := i) (.inr rfl) (S.kp.was n) la h1' h2' fun j zs _ => old j zs
      exact o.nx _ _ _ _ _ (S3.setp (o2.plain hp) n2) q
  · have hp : ∀ xs, s ≠ .new xs := fun xs e => hn ⟨xs, e⟩
    refine q1 P _ M L σ H1 (S.kp' k1).st _ fun z w H2 k2 o2 q2 => ?_
    obtain ⟨n1, n2, q⟩ := q2
    rw [SV.sto_plain hp] at q
    refine ⟨v, w, rfl, ?_⟩
    have S1 := S.kp' k1
    by_cases hm : ∃ ys, z = .new ys
    · obtain ⟨ys, rfl⟩ := hm
      obtain ⟨b, us, rfl, nb, g1, g2⟩ := o2
      obtain ⟨S2, old2⟩ := S1.claim k2 nb g1
      have S3 := S2.setp (i := i) ((o1.plain (H1 := H1) hp).lift S1.st.bs k2 nb) n1
      refine o.nx _ _ _ _ _ (S3.seto (i := j) (.inr rfl) (S1.kp.was nb) (fun l => fresh_nm S1.st.bs nb (S1.st.bs.lm b l)) g1 g2 fun j' zs hj e => ?_) q
      rcases set_some e with ⟨rfl, e'⟩ | ⟨hij', e'⟩
      · cases s with
        | own xs => exact n1.elim
        | _ => cases e'
      · rw [List.getElem?_set_ne hij']
        exact old2 j' zs e'
    · have hq : ∀ xs, z ≠ .new xs := fun xs e => hm ⟨xs, e⟩
      rw [SV.sto_plain hq] at q
      have o1' : SvOk K (fun a => F.H0 a = none) M L H2 H2 v s := (SvOk.kp (H0 := H1) S1.st.bs (Kp.refl S1.st.bs) k2 (o1.plain hp)).plain hp
      exact o.nx _ _ _ _ _ (((S1.kp' k2).setp (i := i) o1' n1).setp (o2.plain hq) n2) q
end
end DL

namespace DL
open PySem PySem.Spec PyProof.Rows L2
variable [Tbl]

/-! ### repr of data -/
def rRepr (K : PySem.W.Frag) : List V → Hp → VK → Prop := fun vs H Q => ∃ (v : V) (d : PyData), vs = [v] ∧ Dp K H v d ∧ d.showable = true ∧ d.hasDict = false ∧ d.shown.length ≤ sizeLine ∧ d.depth ≤ 60 ∧ Q (.str d.shown) H
theorem call_repr {X : Cx} (gu : X.A.guards = some []) (hu : X.A.units + 64 < cLine) : CallR X (.builtin "repr") (rRepr X.K) := by
  intro pins s σ H xs us Q I r h
  obtain ⟨v, d, rfl, hd, hs, hk, hz, hp, q⟩ := h
  obtain ⟨u, rfl, ru⟩ := vals1 r
  have rd := Dp.reads I d v u hd ru
  have fin : ∀ (h' : Heap) (t tk : Nat), (∀ b o, s.heap.get? b = some o → h'.get? b = some o) → EP X pins σ Q (.str d.shown t) { s with heap := h', toks := tk } := fun h' t tk k => ⟨.str d.shown, H, I.kept k, ⟨t, rfl⟩, q⟩
  cases hd with
  | non =>
    cases ru
    exact PySem.P.repr_of_none (fin _ _ _ fun _ _ e => e)
  | bl b =>
    cases ru
    exact PySem.P.repr_of_bool (fin _ _ _ fun _ _ e => e)
  | int i =>
    obtain ⟨t, rfl⟩ := ru
    exact PySem.P.repr_of_int (of_decide_eq_true hs) (fin _ _ _ fun _ _ e => e)
  | str x =>
    obtain ⟨t, rfl⟩ := ru
    exact PySem.P.repr_of_str (fin _ _ _ fun _ _ e => e) hz
  | lst h1 h2 =>
    cases ru
    obtain ⟨as, rd⟩ := rd
    exact repr_of_reads' rd hs (PyData.noDict_hsm hk) gu (by omega) (fun _ _ e => e) (fun h' u tk k => fin h' u tk k) hz
  | tup h1 h2 =>
    cases ru
    obtain ⟨as, rd⟩ := rd
    exact repr_of_reads' rd hs (PyData.noDict_hsm hk) gu (by omega) (fun _ _ e => e) (fun h' u tk k => fin h' u tk k) hz
/-- the text that repr tells -/
def D.shown (d : D) : Str := d.py.shown
/-! what may be shown and compared: no object, texts of signs, numbers within 2^1900, so deep, so heavy -/
mutual
def D.fine : D → Bool
  | .non => true
  | .bl _ => true
  | .int i => decide (i.natAbs.log2 < 1900)
  | .str x => x.cps.all (· < 0x110000)
  | .lst xs => D.fineAll xs
  | .tup xs => D.fineAll xs
  | .obj _ _ => false
def D.fineAll : List D → Bool
  | [] => true
  | d :: ds => D.fine d && D.fineAll ds
end
mutual
def D.wt : D → Nat
  | .non => 8
  | .bl _ => 8
  | .int i => i.natAbs.log2 + 8
  | .str x => 10 * x.length + 8
  | .lst xs => 8 + D.wtAll xs
  | .tup xs => 8 + D.wtAll xs
  | .obj _ _ => 0
def D.wtAll : List D → Nat
  | [] => 0
  | d :: ds => D.wt d + 2 + D.wtAll ds
end
mutual
def D.dep : D → Nat
  | .lst xs => D.depAll xs + 1
  | .tup xs => D.depAll xs + 1
  | _ => 0
def D.depAll : List D → Nat
  | [] => 0
  | d :: ds => max (D.dep d) (D.depAll ds)
end
/-- fit to be shown: weight n, depth k -/
structure Fit (n k : Nat) (d : D) : Prop where
  f : d.fine = true
  w : d.wt ≤ n
  d : d.dep ≤ k
structure FitA (n k : Nat) (ds : List D) : Prop where
  f : D.fineAll ds = true
  w : D.wtAll ds ≤ n
  d : D.depAll ds ≤ k
theorem log2_le_of_lt {n m : Nat} (h : n < 2 ^ m) (hm : 0 < m) : n.log2 < m := by
  by_cases hn : n = 0
  · subst hn; simpa using hm
  · exact (Nat.log2_lt hn).mpr h
theorem FitA.nil : FitA 0 0 [] := ⟨rfl, Nat.le_refl _, Nat.le_refl _⟩
theorem FitA.cons {n m k j : Nat} {d : D} {ds : List D} (h : Fit n k d) (t : FitA m j ds) : FitA (n + 2 + m) (max k j) (d :: ds) := ⟨by
  show (D.fine d && D.fineAll ds) = true
  rw [h.f, t.f]; rfl, by
  show D.wt d + 2 + D.wtAll ds ≤ _
  have := h.w; have := t.w; omega, by
  show max (D.dep d) (D.depAll ds) ≤ _
  have := h.d; have := t.d; omega⟩
theorem FitA.of {n k : Nat} : ∀ {m : Nat} {ds : List D}, (∀ d ∈ ds, Fit n k d) → ds.length ≤ m → FitA (m * (n + 2)) k ds
  | m, [], _, _ => ⟨rfl, Nat.zero_le _, Nat.zero_le _⟩
  | 0, d :: ds, _, l => by simp at l
  | m + 1, d :: ds, h, l => by
    have h1 := h d List.mem_cons_self
    have h2 := FitA.of (m := m) (fun x hx => h x (List.mem_cons_of_mem _ hx)) (by simpa using l)
    have h3 := FitA.cons h1 h2
    refine ⟨h3.f, Nat.le_trans h3.w ?_, Nat.le_trans h3.d (by omega)⟩
    rw [Nat.succ_mul]; omega
theorem Fit.non : Fit 8 0 .non := ⟨rfl, Nat.le_refl _, Nat.le_refl _⟩
theorem Fit.bl (b : Bool) : Fit 8 0 (.bl b) := ⟨rfl, Nat.le_refl _, Nat.le_refl _⟩
theorem Fit.int {m : Nat} {i : Int} (h : i.natAbs < 2 ^ m) (hm : 0 < m) (hz : m ≤ 1900) : Fit (m + 8) 0 (.int i) := ⟨by
  show decide (i.natAbs.log2 < 1900) = true
  have := log2_le_of_lt h hm
  exact decide_eq_true (by omega), by
  show i.natAbs.log2 + 8 ≤ _
  have := log2_le_of_lt h hm
  omega, Nat.le_refl _⟩
theorem Fit.str {m : Nat} {x : Str} (h : x.cps.all (· < 0x110000) = true) (l : x.length ≤ m) : Fit (10 * m + 8) 0 (.str x) := ⟨h, by
  show 10 * x.length + 8 ≤ _
  omega, Nat.le_refl _⟩
theorem Fit.lst {n k : Nat} {ds : List D} (h : FitA n k ds) : Fit (8 + n) (k + 1) (.lst ds) := ⟨h.f, Nat.add_le_add_left h.w _, Nat.succ_le_succ h.d⟩
theorem Fit.tup {n k : Nat} {ds : List D} (h : FitA n k ds) : Fit (8 + n) (k + 1) (.tup ds) := ⟨h.f, Nat.add_le_add_left h.w _, Nat.succ_le_succ h.d⟩
theorem Fit.mono {n m k j : Nat} {d : D} (h : Fit n k d) (a : n ≤ m) (b : k ≤ j) : Fit m j d := ⟨h.f, Nat.le_trans h.w a, Nat.le_trans h.d b⟩
mutual
theorem fine_plain : ∀ d : D, d.fine = true → d.plain = true
  | .non, _ => rfl
  | .bl _, _ => rfl
  | .int _, _ => rfl
  | .str _, _ => rfl
  | .lst xs, h => fineAll_plain xs h
  | .tup xs, h => fineAll_plain xs h
theorem fineAll_plain : ∀ ds : List D, D.fineAll ds = true → D.plainAll ds = true
  | [], _ => rfl
  | d :: ds, h => by
    have h' := Bool.and_eq_true_iff.mp (show (D.fine d && D.fineAll ds) = true from h)
    show (D.plain d && D.plainAll ds) = true
    rw [fine_plain d h'.1, fineAll_plain ds h'.2]; rfl
end
mutual
theorem fine_lay : ∀ d : D, d.fine = true → d.py.canLay0 = true
  | .non, _ => rfl
  | .bl _, _ => rfl
  | .int _, _ => rfl
  | .str _, h => h
  | .lst xs, h => fineAll_lay xs h
  | .tup xs, h => fineAll_lay xs h
theorem fineAll_lay : ∀ ds : List D, D.fineAll ds = true → PyData.canLayAll0 (D.pyAll ds) = true
  | [], _ => rfl
  | d :: ds, h => by
    have h' := Bool.and_eq_true_iff.mp (show (D.fine d && D.fineAll ds) = true from h)
    show (PyData.canLay0 d.py && PyData.canLayAll0 (D.pyAll ds)) = true
    rw [fine_lay d h'.1, fineAll_lay ds h'.2]; rfl
end
mutual
theorem fine_show : ∀ d : D, d.fine = true → d.py.showable = true
  | .non, _ => rfl
  | .bl _, _ => rfl
  | .int i, h => by
    have h' : i.natAbs.log2 < 1900 := of_decide_eq_true h
    exact decide_eq_true (by omega)
  | .str _, h => rfl
  | .lst xs, h => fineAll_show xs h
  | .tup xs, h => fineAll_show xs h
theorem fineAll_show : ∀ ds : List D, D.fineAll ds = true → PyData.showableAll (D.pyAll ds) = true
  | [], _ => rfl
  | d :: ds, h => by
    have h' := Bool.and_eq_true_iff.mp (show (D.fine d && D.fineAll ds) = true from h)
    show (PyData.showable d.py && PyData.showableAll (D.pyAll ds)) = true
    rw [fine_show d h'.1, fineAll_show ds h'.2]; rfl
end
mutual
theorem py_dict : ∀ d : D, d.py.hasDict = false
  | .non => rfl
  | .bl _ => rfl
  | .int _ => rfl
  | .str _ => rfl
  | .lst xs => pyAll_dict xs
  | .tup xs => pyAll_dict xs
  | .obj _ _ => rfl
theorem pyAll_dict : ∀ ds : List D, PyData.hasDictAll (D.pyAll ds) = false
  | [] => rfl
  | d :: ds => by
    show (PyData.hasDict d.py || PyData.hasDictAll (D.pyAll ds)) = false
    rw [py_dict d, pyAll_dict ds]; rfl
end
mutual
theorem py_depth : ∀ d : D, d.py.depth ≤ d.dep + 1
  | .non => by simp [D.py, PyData.depth]
  | .bl _ => by simp [D.py, PyData.depth]
  | .int _ => by simp [D.py, PyData.depth]
  | .str _ => by simp [D.py, PyData.depth]
  | .lst xs => by
    have := pyAll_depth xs
    show PyData.depth (.list (D.pyAll xs)) ≤ D.depAll xs + 1 + 1
    simp only [PyData.depth]; omega
  | .tup xs => by
    have := pyAll_depth xs
    show PyData.depth (.tuple (D.pyAll xs)) ≤ D.depAll xs + 1 + 1
    simp only [PyData.depth]; omega
  | .obj _ _ => by simp [D.py, PyData.depth]
theorem pyAll_depth : ∀ ds : List D, PyData.depthAll (D.pyAll ds) ≤ D.depAll ds + 1
  | [] => by simp [D.pyAll, PyData.depthAll]
  | d :: ds => by
    have h1 := py_depth d
    have h2 := pyAll_depth ds
    show PyData.depthAll (d.py :: D.pyAll ds) ≤ max (D.dep d) (D.depAll ds) + 1
    simp only [PyData.depthAll]; omega
end
theorem textFrom_up : ∀ (ts : List Str) (k : Nat) (acc : Str), (textFrom k acc ts).length ≤ acc.length + piled ts
  | [], _, acc => by show acc.length ≤ _; omega
  | t :: r, k, acc => by
    have h := textFrom_up r (k + 1) (acc ++ (if k > 0 then ", " else "" : String) ++ t)
    rw [piled_cons]
    have e : (acc ++ (if k > 0 then ", " else "" : String) ++ t).length ≤ acc.length + 2 + t.length := by
      rw [strLen_append, strLen_append]
      split
      · exact Nat.le_refl _
      · show acc.length + 0 + t.length ≤ _
        omega
    show (textFrom (k + 1) (acc ++ (if k > 0 then ", " else "" : String) ++ t) r).length ≤ _
    omega
end DL

namespace DL
open PySem PySem.Spec PyProof.Rows L2
variable [Tbl]
theorem listText_up (ts : List Str) : (listText ts).length ≤ 2 + piled ts := by
  unfold listText
  have h := textFrom_up ts 0 "["
  rw [strLen_append]
  have e1 : (("[" : String) : Str).length = 1 := rfl
  have e2 : (("]" : String) : Str).length = 1 := rfl
  rw [e1] at h
  rw [e2]; omega
theorem tupleText_up (ts : List Str) : (tupleText ts).length ≤ 3 + piled ts := by
  unfold tupleText
  rw [strLen_append, strLen_append]
  have e1 : (("(" : String) : Str).length = 1 := rfl
  have e2 : ((if ts.length == 1 then ",)" else ")" : String) : Str).length ≤ 2 := by split <;> decide
  have e3 : (Str.join ", " ts).length ≤ piled ts := by
    by_cases h : ts = []
    · subst h; exact Nat.zero_le _
    · have := join_length_add ts h; omega
  rw [e1]; omega
theorem cps_all {x : Str} (h : x.cps.all (· < 0x110000) = true) : ∀ c ∈ x.cps.toList, c < 16 ^ 8 := fun c hc => by
  have h' := (Array.all_eq_true_iff_forall_mem.mp h) c (by simpa using hc)
  have := of_decide_eq_true h'
  omega
mutual
theorem shown_wt : ∀ d : D, d.fine = true → d.py.shown.length ≤ d.wt
  | .non, _ => by decide
  | .bl b, _ => by cases b <;> decide
  | .int i, _ => by
    show (Str.ofString (toString i)).length ≤ i.natAbs.log2 + 8
    rw [PySem.ofString_length]
    have := int_text_length_le (a := i) (k := i.natAbs.log2 + 1) (Nat.succ_pos _) (Nat.lt_succ_self _)
    omega
  | .str x, h => by
    show (reprText x).length ≤ 10 * x.length + 8
    have := StrLaws.reprText_len x (cps_all h)
    omega
  | .lst xs, h => by
    have := shownAll_wt xs h
    show (listText (PyData.shownAll (D.pyAll xs))).length ≤ 8 + D.wtAll xs
    have := listText_up (PyData.shownAll (D.pyAll xs))
    omega
  | .tup xs, h => by
    have := shownAll_wt xs h
    show (tupleText (PyData.shownAll (D.pyAll xs))).length ≤ 8 + D.wtAll xs
    have := tupleText_up (PyData.shownAll (D.pyAll xs))
    omega
theorem shownAll_wt : ∀ ds : List D, D.fineAll ds = true → piled (PyData.shownAll (D.pyAll ds)) ≤ D.wtAll ds
  | [], _ => Nat.le_refl _
  | d :: ds, h => by
    have h' := Bool.and_eq_true_iff.mp (show (D.fine d && D.fineAll ds) = true from h)
    have h1 := shown_wt d h'.1
    have h2 := shownAll_wt ds h'.2
    show piled (PyData.shown d.py :: PyData.shownAll (D.pyAll ds)) ≤ D.wt d + 2 + D.wtAll ds
    rw [piled_cons]; omega
end
theorem Fit.shaped {n k : Nat} {d : D} (h : Fit n k d) (hk : k ≤ 40) : SeqAt.shaped d.py = true := by
  show (PyData.canLay0 d.py && decide (d.py.depth ≤ 64)) = true
  rw [fine_lay d h.f, Bool.true_and]
  have := py_depth d
  have := h.d
  exact decide_eq_true (by omega)
mutual
theorem eqv_self : ∀ d : D, d.fine = true → PyData.eqv d.py d.py = true
  | .non, _ => rfl
  | .bl b, _ => by show (b == b) = true; simp
  | .int i, _ => by show (i == i) = true; simp
  | .str x, _ => by show (x == x) = true; simp
  | .lst xs, h => eqvAll_self xs h
  | .tup xs, h => eqvAll_self xs h
theorem eqvAll_self : ∀ ds : List D, D.fineAll ds = true → PyData.eqvAll (D.pyAll ds) (D.pyAll ds) = true
  | [], _ => rfl
  | d :: ds, h => by
    have h' := Bool.and_eq_true_iff.mp (show (D.fine d && D.fineAll ds) = true from h)
    show (PyData.eqv d.py d.py && PyData.eqvAll (D.pyAll ds) (D.pyAll ds)) = true
    rw [eqv_self d h'.1, eqvAll_self ds h'.2]; rfl
end
section
variable {K : PySem.W.Frag} {N L M : AP} {H0 H1 H H' : Hp} {σ : L2.St} {es : Env'} {ta tb tc te : TE} {tt tu : TT} {Q : SV → Prop} {t u : TS} {B : DEnds}
theorem rc_repr {s : SV} {x : D} {n k : Nat} (e : s.rd = some x) (h : Fit n k x) (hn : n ≤ 16000000) (hk : k ≤ 40) (q : Q (.d (.str x.shown))) : RC K (rRepr K) [s] Q := fun N M L H0 H vs b kk o R r => by
  obtain ⟨v, rfl, hv⟩ := o.one
  refine ⟨v, x.py, rfl, hv.dp b e (fine_plain x h.f), fine_show x h.f, py_dict x, ?_, ?_, r (.d (.str x.shown)) _ H (Kp.refl (kk.bs b)) (Is.str _) q⟩
  · rw [sizeLine_eq]
    have := shown_wt x h.f
    have := h.w
    omega
  · have := py_depth x
    have := h.d
    omega
/-- == of two that are fit -/
theorem rr_eqF {s1 s2 : SV} {x y : D} {n1 n2 k1 k2 : Nat} (e1 : s1.rd = some x) (e2 : s2.rd = some y) (h1 : Fit n1 k1 x) (h2 : Fit n2 k2 y) (l1 : k1 ≤ 40) (l2 : k2 ≤ 40) (q : Q (.d (.bl (PyData.eqv x.py y.py)))) : RR K (rEqD K) s1 s2 Q :=
  rr_eq e1 e2 (fine_plain x h1.f) (fine_plain y h2.f) (h1.shaped l1) (h2.shaped l2) q
theorem rr_neF {s1 s2 : SV} {x y : D} {n1 n2 k1 k2 : Nat} (e1 : s1.rd = some x) (e2 : s2.rd = some y) (h1 : Fit n1 k1 x) (h2 : Fit n2 k2 y) (l1 : k1 ≤ 40) (l2 : k2 ≤ 40) (q : Q (.d (.bl (!PyData.eqv x.py y.py)))) : RR K (rNeD K) s1 s2 Q :=
  rr_ne e1 e2 (fine_plain x h1.f) (fine_plain y h2.f) (h1.shaped l1) (h2.shaped l2) q

/-! ### isinstance -/
def D.tyN : D → String
  | .non => "NoneType"
  | .bl _ => "bool"
  | .int _ => "int"
  | .str _ => "str"
  | .lst _ => "list"
  | .tup _ => "tuple"
  | .obj _ _ => "object"
theorem Is.ty {v : V} {x : D} (h : Is K M H v x) (p : x.plain = true) : TyX K H v (.type x.tyN) := by
  cases h with
  | non => exact .base .non
  | bl b => exact .base (.bl b)
  | int i => exact .base (.int i)
  | str y => exact .base (.str y)
  | lst h1 h2 h3 => exact .base (.lst h1)
  | tup h1 h3 => exact .base (.tup h1)
  | tupK h1 h3 h4 =>
    obtain ⟨o, its, m, h, hc, _⟩ := h1
    exact .kTuple h hc
  | tup0 h1 =>
    rcases h1 with (h | ⟨o, h⟩) | ⟨o, its, m, h, hc, _⟩
    · exact .base (.tup h)
    · exact .fTuple h
    · exact .kTuple h hc
  | obj h1 h2 h3 => cases p
theorem rc_isi {x : D} {T : String} {b : Bool} (p : x.plain = true) (hk : kitB x.tyN T = some b) (q : Q (.d (.bl b))) : RC K (rIsi K) [.d x, .ty T] Q := fun N M L H0 H vs bb k o R r => by
  obtain ⟨v, w, rfl, hv, hw⟩ := o.two
  have hw' : w = V.ty T := hw
  subst hw'
  exact ⟨v, .ty T, .type x.tyN, .type T, b, rfl, .ty T, Is.ty hv p, kit_ty hk, r (.d (.bl b)) _ H (Kp.refl (k.bs bb)) (Is.bl b) q⟩
theorem de_ty {n : String} (q : Q (.ty n)) : DE K (tC (.ty n)) es Q := fun P N M L σ H S R r => r (.ty n) _ H (Kp.refl S.bs) rfl q
/-! ### range as a value, in -/
theorem rc_rng {i j : Int} (q : Q (.rng i j)) : RC K (fun vs H Q => ∃ i j, vs = [V.int i, V.int j] ∧ ∀ p, H p = none → Q (.ref p) (upd H p (.rng i j))) [.d (.int i), .d (.int j)] Q := fun N M L H0 H vs b k o R r => by
  obtain ⟨v, w, rfl, hv, hw⟩ := o.two
  cases hv
  cases hw
  exact ⟨i, j, rfl, fun p hp => r (.rng i j) _ _ (Kp.new (k.bs b) hp) ⟨p, rfl, upd_same⟩ q⟩
theorem rr_inR {i lo hi : Int} (q : Q (.d (.bl (decide (lo ≤ i ∧ i < hi))))) : RR K (fun x y H Q => ∃ i a lo hi, x = V.int i ∧ y = V.ref a ∧ H a = some (.rng lo hi) ∧ Q (.bl (decide (lo ≤ i ∧ i < hi))) H) (.d (.int i)) (.rng lo hi) Q := fun N M L H0 H v1 v2 b k o1 o2 R r => by
  cases o1
  obtain ⟨a, rfl, h⟩ := o2
  exact ⟨i, a, lo, hi, rfl, rfl, h, r (.d (.bl _)) _ H (Kp.refl (k.bs b)) (Is.bl _) q⟩
/-- not in a range -/
def rNotInR : R2 := fun x y H Q => ∃ i a lo hi, x = V.int i ∧ y = V.ref a ∧ H a = some (.rng lo hi) ∧ Q (.bl (!decide (lo ≤ i ∧ i < hi))) H
theorem op_notInR {X : Cx} : OpR X (compareOp .NotIn) rNotInR := by
  intro pins s σ H x y v u Q I rx ry h
  obtain ⟨i, a, lo, hi, rfl, rfl, ha, q⟩ := h
  obtain ⟨k, rfl⟩ := rx
  cases (show u = Value.ref a from ry)
  obtain ⟨t1, t2, t3, ho⟩ := I.hok a _ ha
  show wpAny _ _ (do return Value.bool (!(← contains (Value.ref a) (Value.int i k)))) _ _ s
  refine wpAny_bind (wpAny_contains_slot (T := "range") ⟨_, ho, rfl⟩ F.slot_range_contains ?_)
  refine call_meets F.slot_range_contains ⟨_, ho, rfl⟩ F.entry_range_contains (F.args_range_contains_2 _ _) (q_contains a lo hi i t1 t2 t3 k) ⟨ho, ?_⟩
  refine wpAny_truthy_bool (wpAny_pure ⟨.bl _, H, I, rfl, ?_⟩)
  rw [place1]
  exact q
theorem rr_notInR {i lo hi : Int} (q : Q (.d (.bl (!decide (lo ≤ i ∧ i < hi))))) : RR K rNotInR (.d (.int i)) (.rng lo hi) Q := fun N M L H0 H v1 v2 b k o1 o2 R r => by
  cases o1
  obtain ⟨a, rfl, h⟩ := o2
  exact ⟨i, a, lo, hi, rfl, rfl, h, r (.d (.bl _)) _ H (Kp.refl (k.bs b)) (Is.bl _) q⟩
end
end DL

namespace DL
open PySem PySem.Spec PyProof.Rows L2
variable [Tbl]
/-! ### defs -/
def nownAll : List SV → Prop
  | [] => True
  | s :: ss => s.nown ∧ nownAll ss
def SV.arg : SV → SV
  | .new xs => .d (.lst xs)
  | s => s
def spD (K : PySem.W.Frag) (n : Nat) (pre : List SV → Prop) (post : List SV → SV → Prop) : Sp := fun vs H Q _ => ∃ M L ss, Bs L M H ∧ SvAll K NO M L H H vs ss ∧ ss.length = n ∧ pre ss ∧ ∀ r v H', Kp L H H' → SvOk K NO M L H H' v r → post ss r → Q v H'
section
variable {K : PySem.W.Frag} {N L M : AP} {H0 H1 H H' : Hp} {σ : L2.St} {es : Env'} {ta tb tc te : TE} {tt tu : TT} {Q : SV → Prop} {t u : TS} {B : DEnds} {pre : List SV → Prop} {post : List SV → SV → Prop}
theorem spD.len {n : Nat} {vs : List V} {Q : VK} {E : XK} (h : spD K n pre post vs H Q E) : vs.length = n := by
  obtain ⟨M, L, ss, _, h2, h3, _⟩ := h
  rw [h2.len, h3]
theorem SvAll.get : ∀ {ss : List SV} {vs : List V} {i : Nat} {s : SV}, SvAll K N M L H0 H vs ss → ss[i]? = some s → ∃ v, vs[i]? = some v ∧ SvOk K N M L H0 H v s
  | _, _, _, _, .nil, e => by simp at e
  | _, _, 0, _, .cons h _, e => by simp at e; subst e; exact ⟨_, rfl, h⟩
  | _, _, i + 1, _, .cons _ h, e => by
    obtain ⟨v, h1, h2⟩ := SvAll.get (i := i) h (by simpa using e)
    exact ⟨v, by simpa using h1, h2⟩
theorem SvOk.noN {v : V} {s : SV} (h : SvOk K NO M L H0 H v s) : SvOk K N M L H0 H v s := by
  cases s with
  | own xs =>
    obtain ⟨_, _, _, _, n, _⟩ := h
    exact n.elim
  | _ => exact h
/-- the slots at a def's entry -/
def startE (n : Nat) (ss : List SV) : Env' := ss.map some ++ List.replicate (n - ss.length) none
theorem body_of {n : Nat} {names : List Str} {vs : List V} {R : VK} {E : XK} (h : spD K n pre post vs H R E) (hb : ∀ ss, ss.length = n → pre ss → DS K t (startE names.length ss) { nx := fun _ => post ss (.d .non), rt := post ss }) :
    t { nx := fun _ H' => R .non H', rt := R } (L2.start names vs) H := by
  obtain ⟨M, L, ss, bs, hv, hl, hp, q⟩ := h
  have no_ : ∀ (i : Nat) (s : SV), (startE names.length ss)[i]? = some (some s) → ss[i]? = some s := fun i s e => by
    unfold startE at e
    by_cases hi : i < ss.length
    · rw [List.getElem?_append_left (by simpa using hi), List.getElem?_map] at e
      cases z : ss[i]? with
      | none => rw [z] at e; cases e
      | some y => rw [z] at e; cases e; rfl
    · rw [List.getElem?_append_right (by simpa using hi), List.getElem?_replicate] at e
      split at e <;> cases e
  have nown : ∀ (i : Nat) (xs : List D), ss[i]? ≠ some (.own xs) := fun i xs e => by
    obtain ⟨v, _, _, _, _, _, n, _⟩ := hv.get e
    exact n
  have sl : ∀ (i : Nat) (v : V), vs[i]? = some v → (L2.start names vs)[i]? = some (some v) := fun i v e => by
    have hi := (List.getElem?_eq_some_iff.mp e).1
    unfold L2.start
    rw [List.getElem?_append_left (by simpa using hi), List.getElem?_map, e]
    rfl
  have S : Stf K ⟨M, L, H⟩ [] M L (L2.start names vs) H (startE names.length ss) := by
    refine ⟨⟨bs, ?_, fun i s e => ?_, fun p hp => absurd hp (by simp), fun i j a xs ys _ e _ _ => absurd (no_ i _ e) (nown i xs)⟩, bs, Kp.refl bs, fun _ h => h, fun _ h => h, fun _ h => .inl h⟩
    · unfold L2.start startE
      rw [List.length_append, List.length_append, List.length_map, List.length_map, List.length_replicate, List.length_replicate, hv.len]
    · obtain ⟨v, h1, h2⟩ := hv.get (no_ i s e)
      exact ⟨v, sl i v h1, h2.noN⟩
  refine hb ss hl hp ⟨M, L, H⟩ [] M L _ H S _ ⟨fun e M' L' σ' H' S' z => ?_, fun s v H' k ok z => q s v H' k ok z, fun _ _ _ _ _ _ z => z, fun _ _ _ _ _ _ z => z, trivial⟩
  exact q (.d .non) .non H' S'.kp Is.non z
theorem SvAll.args (bs0 : Bs L M H0) (k : Kp L H0 H) : ∀ {vs : List V} {ss : List SV}, SvAll K N M L H0 H vs ss → nownAll ss → SvAll K NO M L H H vs (ss.map SV.arg)
  | _, _, .nil, _ => .nil
  | _, _, .cons (s := s) h t, ⟨n1, n2⟩ => by
    refine .cons ?_ (SvAll.args bs0 k t n2)
    cases s with
    | new xs =>
      obtain ⟨a, vs, rfl, n, h1, h2⟩ := h
      exact Is.lst h1 (fresh_nm bs0 n) (h2.sub AP.sub_add)
    | own xs => exact n1.elim
    | d x => exact h
    | bag => exact h
    | scr ns => exact h
    | rng lo hi => exact h
    | dic kvs => exact h
    | dcd kvs => exact h
    | ty n => exact h
    | cls C => exact h
theorem de_call {n : Nat} {tr : TA} {E : XK} (h : DA K tr es fun ss => nownAll ss ∧ ss.length = n ∧ pre (ss.map SV.arg) ∧ ∀ r, post (ss.map SV.arg) r → Q r) : DE K (tCall (spD K n pre post) [] E tr) es Q := fun P N M L σ H S R k => by
  refine h P N M L σ H S _ fun ss vs H1 k1 o1 q1 => ?_
  obtain ⟨hn, hl, hp, q⟩ := q1
  rw [List.append_nil]
  refine ⟨M, L, ss.map SV.arg, k1.bs S.bs, o1.args S.bs k1 hn, by rw [List.length_map]; exact hl, hp, fun r v H' k2 o2 q2 => ?_⟩
  exact k r v H' (k1.trans k2) ((SvOk.noN o2).back k1) (q r q2)
theorem de_callKw {n m : Nat} {tr : TA} {g : {α : Type} → List α → List α} (hg : ∀ {vs : List V} {ss : List SV} {N M L : AP} {H0 H : Hp}, SvAll K N M L H0 H vs ss → SvAll K N M L H0 H (g vs) (g ss))
    (h : DA K tr es fun ss => nownAll ss ∧ ss.length = m ∧ (g (ss.map SV.arg)).length = n ∧ pre (g (ss.map SV.arg)) ∧ ∀ r, post (g (ss.map SV.arg)) r → Q r) : DE K (tCallKw m (spD K n pre post) g tr) es Q := fun P N M L σ H S R k => by
  refine h P N M L σ H S _ fun ss vs H1 k1 o1 q1 => ?_
  obtain ⟨hn, hl, hl2, hp, q⟩ := q1
  refine ⟨by rw [o1.len]; exact hl, M, L, g (ss.map SV.arg), k1.bs S.bs, hg (o1.args S.bs k1 hn), hl2, hp, fun r v H' k2 o2 q2 => ?_⟩
  exact k r v H' (k1.trans k2) ((SvOk.noN o2).back k1) (q r q2)

/-! ### targets; js: the slots that are set -/
def Same' (js : List Nat) (σ σ' : L2.St) : Prop := σ'.length = σ.length ∧ ∀ k : Nat, k ∉ js → σ'[k]? = σ[k]?
def DG (K : PySem.W.Frag) (g : TG) (x : D) (js : List Nat) (es : Env') (Q : Env' → Prop) : Prop :=
  ∀ P N M L σ H v, Sts K P N M L σ H es → Is K M H v x → ∀ R : L2.St → Hp → Prop, (∀ es' σ', Sts K P N M L σ' H es' → Same' js σ σ' → Q es' → R σ' H) → g v σ H R
theorem Same'.set (σ : L2.St) (i : Nat) (v : Option V) : Same' [i] σ (σ.set i v) := ⟨List.length_set, fun k hk => List.getElem?_set_ne (fun e => hk (by rw [e]; simp))⟩
theorem Same'.trans {js ks : List Nat} {σ σ1 σ2 : L2.St} (a : Same' js σ σ1) (b : Same' ks σ1 σ2) : Same' (js ++ ks) σ σ2 := ⟨b.1.trans a.1, fun k hk => by
  rw [List.mem_append, not_or] at hk
  rw [b.2 k hk.2, a.2 k hk.1]⟩
theorem dg_name {i : Nat} {x : D} {Q : Env' → Prop} (q : Q (es.set i (some (.d x)))) : DG K (gName i) x [i] es Q := fun P N M L σ H v S o R k => k _ _ (S.setp (s := .d x) o trivial) (Same'.set σ i _) q
def DGs (K : PySem.W.Frag) (g : TGs) (xs : List D) (js : List Nat) (es : Env') (Q : Env' → Prop) : Prop :=
  ∀ P N M L σ H vs, Sts K P N M L σ H es → IsAll K M H vs xs → ∀ R : L2.St → Hp → Prop, (∀ es' σ', Sts K P N M L σ' H es' → Same' js σ σ' → Q es' → R σ' H) → g vs σ H R
theorem dgs_nil {Q : Env' → Prop} (q : Q es) : DGs K gNil [] [] es Q := fun P N M L σ H vs S o R k => by
  cases o
  exact ⟨rfl, k _ _ S ⟨rfl, fun _ _ => rfl⟩ q⟩
theorem dgs_cons {g : TG} {gs : TGs} {x : D} {xs : List D} {js ks : List Nat} {Q : Env' → Prop} (h : DG K g x js es fun es' => DGs K gs xs ks es' Q) : DGs K (gCons g gs) (x :: xs) (js ++ ks) es Q := fun P N M L σ H vs S o R k => by
  cases o with
  | @cons v vs _ _ h1 h2 =>
    exact ⟨v, vs, rfl, h P N M L σ H v S h1 _ fun es' σ' S' w q => q P N M L σ' H vs S' h2 R fun e2 σ2 S2 w2 => k e2 σ2 S2 (w.trans w2)⟩
theorem dg_tup {n : Nat} {gs : TGs} {xs : List D} {js : List Nat} {Q : Env' → Prop} (l : xs.length = n) (h : DGs K gs xs js es Q) : DG K (gTup K n gs) (.tup xs) js es Q := fun P N M L σ H v S o R k => by
  obtain ⟨a, vs, rfl, h1, h2⟩ := Is.tupS o
  exact ⟨a, vs, rfl, h1, h2.len.trans l, h P N M L σ H vs S h2 R k⟩
theorem DG.stf {F : Fr} {P : List Pin} {g : TG} {x : D} {js : List Nat} {Q : Env' → Prop} (h : DG K g x js es Q) {v : V} (S : Stf K F P M L σ H es) (o : Is K M H v x) (R : L2.St → Hp → Prop) (k : ∀ es' σ', Stf K F P M L σ' H es' → Q es' → R σ' H) : g v σ H R :=
  h P _ M L σ H v S.st o R fun es' σ' S' _ q => k es' σ' ⟨S', S.bs0, S.kp, S.m0, S.lo, S.ln⟩ q
/-- a, b = e, e a tuple -/
theorem ds_unp {g : TG} (h : DE K te es fun s => ∃ x js, s = .d x ∧ DG K g x js es B.nx) : DS K (tAsg te g) es B := fun F P M L σ H S E o =>
  h P _ M L σ H S.st _ fun s v H' k ok q => by
    obtain ⟨x, js, rfl, q⟩ := q
    exact q.stf (S.kp' k) ok E.nx fun es' σ' S' z => o.nx _ _ _ _ _ S' z

/-! ### loops: I i es ahead of turn i -/
theorem EOk.turn {F : Fr} {P : List Pin} {E : Ends} {I : Env' → Prop} (o : EOk K F P B E) (Nx : L2.St → Hp → Prop) (hN : ∀ es M L σ H, Stf K F P M L σ H es → I es → Nx σ H) : EOk K F P ⟨I, B.rt, B.nx, I, B.xo⟩ { E with nx := Nx, ct := Nx, bk := E.nx } :=
  ⟨hN, o.rt, o.nx, hN, o.xo⟩
theorem ds_for1 {j : Nat} {tr : TA} (h : DA K tr es fun ss => ∃ n : Int, ss = [.d (.int n)] ∧ -(2 ^ 62) ≤ n ∧ n < 2 ^ 62 ∧ ∃ I : Nat → Env' → Prop, I 0 es ∧
    (∀ (i : Nat) es', (i : Int) < n → I i es' → DS K t (es'.set j (some (.d (.int i)))) ⟨I (i + 1), B.rt, B.nx, I (i + 1), B.xo⟩) ∧ ∀ es', I n.toNat es' → B.nx es') : DS K (tFor (iRng1 tr) (gName j) t) es B := fun F P M L σ H S E o => by
  refine h P _ M L σ H S.st _ fun ss vs H1 k1 o1 q1 => ?_
  obtain ⟨n, rfl, b1, b2, I, h0, hs, hd⟩ := q1
  obtain ⟨v, rfl, hv⟩ := o1.one
  cases hv
  refine ⟨n, rfl, b1, b2, for_range (lo := 0) (n := n.toNat) (fun i σ H => ∃ es' M' L', Stf K F P M' L' σ H es' ∧ I i es') ⟨es, M, L, S.kp' k1, h0⟩ ?_ ?_⟩
  · rintro i σ' H' hi ⟨es', M', L', S', hI⟩
    have e0 : (0 : Int) + (i : Int) = (i : Int) := Int.zero_add _
    show t _ (σ'.set j (some (.int ((0 : Int) + (i : Int))))) H'
    rw [e0]
    exact hs i es' (by omega) hI F P M' L' _ H' (S'.setp (s := .d (.int i)) (Is.int _) trivial) _ (o.turn (fun σ H => ∃ es' M' L', Stf K F P M' L' σ H es' ∧ I (i + 1) es') fun e M'' L'' σ'' H'' S'' z => ⟨e, M'', L'', S'', z⟩)
  · rintro σ' H' ⟨es', M', L', S', hI⟩
    exact o.nx _ _ _ _ _ S' (hd es' hI)
theorem ds_for2 {j : Nat} {tr : TA} (h : DA K tr es fun ss => ∃ lo n : Int, ss = [.d (.int lo), .d (.int n)] ∧ (-(2 ^ 62) ≤ lo ∧ lo < 2 ^ 62 ∧ -(2 ^ 62) ≤ n ∧ n < 2 ^ 62) ∧ ∃ I : Nat → Env' → Prop, I 0 es ∧
    (∀ (i : Nat) es', lo + (i : Int) < n → I i es' → DS K t (es'.set j (some (.d (.int (lo + i))))) ⟨I (i + 1), B.rt, B.nx, I (i + 1), B.xo⟩) ∧ ∀ es', I (n - lo).toNat es' → B.nx es') : DS K (tFor (iRng2 tr) (gName j) t) es B := fun F P M L σ H S E o => by
  refine h P _ M L σ H S.st _ fun ss vs H1 k1 o1 q1 => ?_
  obtain ⟨lo, n, rfl, b1, I, h0, hs, hd⟩ := q1
  obtain ⟨v, w, rfl, hv, hw⟩ := o1.two
  cases hv
  cases hw
  refine ⟨lo, n, rfl, b1, for_range (lo := lo) (n := (n - lo).toNat) (fun i σ H => ∃ es' M' L', Stf K F P M' L' σ H es' ∧ I i es') ⟨es, M, L, S.kp' k1, h0⟩ ?_ ?_⟩
  · rintro i σ' H' hi ⟨es', M', L', S', hI⟩
    exact hs i es' (by omega) hI F P M' L' _ H' (S'.setp (s := .d (.int (lo + i))) (Is.int _) trivial) _ (o.turn (fun σ H => ∃ es' M' L', Stf K F P M' L' σ H es' ∧ I (i + 1) es') fun e M'' L'' σ'' H'' S'' z => ⟨e, M'', L'', S'', z⟩)
  · rintro σ' H' ⟨es', M', L', S', hI⟩
    exact o.nx _ _ _ _ _ S' (hd es' hI)
/-- a thing pinned through a loop -/
theorem Stf.pin {F : Fr} {P : List Pin} {p : Pin} (S : Stf K F P M L σ H es) (h : PinOk K M H p) : Stf K F (p :: P) M L σ H es :=
  ⟨⟨S.st.bs, S.st.len, S.st.ok, fun q hp => by
    rcases List.mem_cons.mp hp with rfl | hp
    · exact h
    · exact S.st.pin q hp, S.st.sep⟩, S.bs0, S.kp, S.m0, S.lo, S.ln⟩
theorem Stf.unpin {F : Fr} {P : List Pin} {p : Pin} (S : Stf K F (p :: P) M L σ H es) : Stf K F P M L σ H es :=
  ⟨⟨S.st.bs, S.st.len, S.st.ok, fun q hq => S.st.pin q (List.mem_cons_of_mem _ hq), S.st.sep⟩, S.bs0, S.kp, S.m0, S.lo, S.ln⟩
theorem EOk.pinned {F : Fr} {P : List Pin} {p : Pin} {E : Ends} (o : EOk K F P B E) : EOk K F (p :: P) B E :=
  ⟨fun e M L σ H S => o.nx e M L σ H S.unpin, o.rt, fun e M L σ H S => o.bk e M L σ H S.unpin, fun e M L σ H S => o.ct e M L σ H S.unpin, o.xo⟩
/-- over a list (a name's that is no own one, or a new one) -/
theorem ds_forL {g : TG} {tl : TE} (h : DE K tl es fun s => ∃ xs, s.dat = some (.lst xs) ∧ ∃ I : Nat → Env' → Prop, I 0 es ∧
    (∀ (i : Nat) x es', xs[i]? = some x → I i es' → ∃ js, DG K g x js es' fun e2 => DS K t e2 ⟨I (i + 1), B.rt, B.nx, I (i + 1), B.xo⟩) ∧ ∀ es', I xs.length es' → B.nx es') : DS K (tFor (iList K tl) g t) es B := fun F P M L σ H S E o => by
  refine h P _ M L σ H S.st _ fun s v H1 k1 o1 q1 => ?_
  obtain ⟨xs, e, I, h0, hs, hd⟩ := q1
  have hx : Is K M H1 v (.lst xs) := o1.data S.st.bs e
  cases hx with
  | @lst a vs _ g1 g2 g3 =>
    refine ⟨a, rfl, ⟨vs, .inl (.inl g1)⟩, for_list (K := K) (a := a) (xs := vs) (fun i σ H => ∃ es' M' L', Stf K F (⟨a, vs, xs, false⟩ :: P) M' L' σ H es' ∧ I i es') ⟨es, M, L, (S.kp' k1).pin ⟨⟨g1, g2⟩, g3⟩, h0⟩ ?_ ?_ ?_⟩
    · rintro i σ' H' hi ⟨es', M', L', S', hI⟩
      exact .inl (.inl (S'.st.pin _ List.mem_cons_self).1.1)
    · rintro i w σ' H' hw ⟨es', M', L', S', hI⟩
      obtain ⟨x, hx, ix⟩ := (S'.st.pin _ List.mem_cons_self).2.getV hw
      obtain ⟨js, dg⟩ := hs i x es' hx hI
      refine dg.stf S' ix _ fun e2 σ2 S2 q => ?_
      refine q F _ M' L' σ2 H' S2 _ ?_
      exact o.pinned.turn (fun σ H => ∃ es' M' L', Stf K F (⟨a, vs, xs, false⟩ :: P) M' L' σ H es' ∧ I (i + 1) es') fun e3 M3 L3 σ3 H3 S3 z => ⟨e3, M3, L3, S3, z⟩
    · rintro σ' H' ⟨es', M', L', S', hI⟩
      rw [g3.len] at hI
      exact o.nx _ _ _ _ _ S'.unpin (hd es' hI)
/-- over a tuple -/
theorem ds_forT {g : TG} {tl : TE} (h : DE K tl es fun s => ∃ xs, s = .d (.tup xs) ∧ ∃ I : Nat → Env' → Prop, I 0 es ∧
    (∀ (i : Nat) x es', xs[i]? = some x → I i es' → ∃ js, DG K g x js es' fun e2 => DS K t e2 ⟨I (i + 1), B.rt, B.nx, I (i + 1), B.xo⟩) ∧ ∀ es', I xs.length es' → B.nx es') : DS K (tFor (iTup K tl) g t) es B := fun F P M L σ H S E o => by
  refine h P _ M L σ H S.st _ fun s v H1 k1 o1 q1 => ?_
  obtain ⟨xs, rfl, I, h0, hs, hd⟩ := q1
  have hx : Is K M H1 v (.tup xs) := o1
  obtain ⟨a, vs, rfl, g1, g3⟩ := Is.tupS hx
  · refine ⟨a, rfl, ⟨vs, g1⟩, for_tup (K := K) (a := a) (xs := vs) (fun i σ H => ∃ es' M' L', Stf K F (⟨a, vs, xs, true⟩ :: P) M' L' σ H es' ∧ I i es') ⟨es, M, L, (S.kp' k1).pin ⟨g1, g3⟩, h0⟩ ?_ ?_ ?_⟩
    · rintro i σ' H' hi ⟨es', M', L', S', hI⟩
      exact (S'.st.pin _ List.mem_cons_self).1
    · rintro i w σ' H' hw ⟨es', M', L', S', hI⟩
      obtain ⟨x, hx, ix⟩ := (S'.st.pin _ List.mem_cons_self).2.getV hw
      obtain ⟨js, dg⟩ := hs i x es' hx hI
      refine dg.stf S' ix _ fun e2 σ2 S2 q => ?_
      refine q F _ M' L' σ2 H' S2 _ ?_
      exact o.pinned.turn (fun σ H => ∃ es' M' L', Stf K F (⟨a, vs, xs, true⟩ :: P) M' L' σ H es' ∧ I (i + 1) es') fun e3 M3 L3 σ3 H3 S3 z => ⟨e3, M3, L3, S3, z⟩
    · rintro σ' H' ⟨es', M', L', S', hI⟩
      rw [g3.len] at hI
      exact o.nx _ _ _ _ _ S'.unpin (hd es' hI)
end
end DL

namespace DL
open PySem PySem.Spec PyProof.Rows L2
variable [Tbl]
/-! ### list comprehensions -/
theorem wipe_get : ∀ (vs : List Nat) (σ : L2.St) (k : Nat), (wipe σ vs)[k]? = if k ∈ vs ∧ k < σ.length then some none else σ[k]?
  | [], σ, k => by simp [wipe]
  | v :: vs, σ, k => by
    unfold wipe
    have ih := wipe_get vs σ k
    by_cases hk : v = k
    · subst hk
      by_cases hl : v < σ.length
      · rw [List.getElem?_set_self (by rw [wipe_length]; exact hl), if_pos ⟨by simp, hl⟩]
      · rw [List.getElem?_eq_none (by rw [List.length_set, wipe_length]; omega), if_neg (fun h => hl h.2), List.getElem?_eq_none (by omega)]
    · rw [List.getElem?_set_ne hk, ih]
      simp [Ne.symm hk]
theorem wipe_same {vs : List Nat} {σ σ' : L2.St} (h : Same' vs (wipe σ vs) σ') : wipe σ' vs = wipe σ vs := by
  apply List.ext_getElem?
  intro k
  rw [wipe_get, wipe_get]
  have hl : σ'.length = σ.length := by rw [h.1, wipe_length]
  rw [hl]
  by_cases hk : k ∈ vs
  · by_cases hl : k < σ.length
    · rw [if_pos ⟨hk, hl⟩, if_pos ⟨hk, hl⟩]
    · rw [if_neg (fun z => hl z.2), if_neg (fun z => hl z.2), List.getElem?_eq_none (by omega), List.getElem?_eq_none (by omega)]
  · rw [if_neg (fun z => hk z.1), if_neg (fun z => hk z.1), h.2 k hk, wipe_get, if_neg (fun z => hk z.1)]
def wipeE (es : Env') : List Nat → Env'
  | [] => es
  | v :: vs => (wipeE es vs).set v none
section
variable {K : PySem.W.Frag} {P : List Pin} {N L M : AP} {H0 H1 H H' : Hp} {σ : L2.St} {es : Env'} {ta tb tc te : TE} {tt tu : TT} {Q : SV → Prop} {t u : TS} {B : DEnds}
theorem Sts.wipes (S : Sts K P N M L σ H es) : ∀ vs : List Nat, Sts K P N M L (wipe σ vs) H (wipeE es vs)
  | [] => S
  | v :: vs => (S.wipes vs).wipe1 v
/-- what holds ahead of turn i: the new list stands at D -/
structure LcP (K : PySem.W.Frag) (P : List Pin) (N M L : AP) (σ : L2.St) (es : Env') (H1 : Hp) (D0 : Addr) (J : Nat → List D → Prop) (i : Nat) (H : Hp) : Prop where
  st : Sts K P N (M.add D0) L σ H es
  kp : Kp L H1 H
  acc : ∃ vs ds, H D0 = some (.lst vs) ∧ IsAll K (M.add D0) H vs ds ∧ J i ds ∧ ds.length ≤ i
/-- one turn, in data -/
def LcT (K : PySem.W.Frag) (g : TG) (tt : TT) (te : TE) (vs : List Nat) (es : Env') (J : Nat → List D → Prop) (i : Nat) (x : D) : Prop :=
  ∀ ds, J i ds → ds.length ≤ i → DG K g x vs (wipeE es vs) fun e2 => DT K tt e2 fun b => if b = true then DE K te e2 fun s => ∃ y, s.dat = some y ∧ J (i + 1) (ds ++ [y]) else J (i + 1) ds
theorem lc_turn {g : TG} {vs : List Nat} {D0 : Addr} {J : Nat → List D → Prop} {i : Nat} {v : V} {x : D} (old : ∀ (j : Nat) (zs : List D), es[j]? = some (some (.own zs)) → σ[j]? ≠ some (some (.ref D0))) (nl : ¬ L D0) (hD : H1 D0 = none) (hi : i < 100000)
    (h : LcP K P N M L σ es H1 D0 J i H) (ix : Is K (M.add D0) H v x) (body : LcT K g tt te vs es J i x) :
    g v (wipe σ vs) H fun σ2 H2 => wipe σ2 vs = wipe σ vs ∧ tt σ2 H2 fun b H3 => if b = true then te σ2 H3 fun y H4 => ∃ acc, H4 D0 = some (.lst acc) ∧ acc.length < sizeLine ∧ LcP K P N M L σ es H1 D0 J (i + 1) (upd H4 D0 (.lst (acc ++ [y]))) else LcP K P N M L σ es H1 D0 J (i + 1) H3 := by
  obtain ⟨ws, ds, hw, iw, hj, hl⟩ := h.acc
  refine body ds hj hl P N _ L _ H v (h.st.wipes vs) ix _ fun e2 σ2 S2 sm q => ⟨wipe_same sm, ?_⟩
  refine q P N _ L σ2 H S2 _ fun b H3 k3 q3 => ?_
  have S3 := h.st.kp k3
  cases b with
  | false =>
    rw [if_neg Bool.false_ne_true] at q3 ⊢
    exact ⟨S3, h.kp.trans k3, ws, ds, k3.k _ _ nl hw, IsAll.kp k3 h.st.bs iw, q3, Nat.le_succ_of_le hl⟩
  | true =>
    rw [if_pos rfl] at q3 ⊢
    refine q3 P N _ L σ2 H3 (S2.kp k3) _ fun s y H4 k4 o4 q4 => ?_
    obtain ⟨z, ez, hz⟩ := q4
    have k34 := k3.trans k4
    have hw4 := k34.k _ _ nl hw
    have iw4 := IsAll.kp k34 h.st.bs iw
    have iz : Is K (M.add D0) H4 y z := o4.data (k3.bs h.st.bs) ez
    refine ⟨ws, hw4, by rw [iw4.len]; exact Nat.lt_of_le_of_lt hl (Nat.lt_of_lt_of_le hi (by decide)), ?_⟩
    obtain ⟨S5, up⟩ := (h.st.kp k34).updD (ws := ws ++ [y]) (.inr rfl) nl hw4 old
    refine ⟨S5, ⟨fun a o l e => ?_, S5.bs.bag⟩, ws ++ [y], ds ++ [z], upd_same, up (iw4.append (.cons iz .nil)), hz, by rw [List.length_append, List.length_singleton]; omega⟩
    rw [upd_ne (fun e' => by rw [e', hD] at e; cases e)]
    exact (h.kp.trans k34).k a o l e
theorem lc_start {D0 : Addr} {J : Nat → List D → Prop} (S : Sts K P N M L σ H1 es) (hD : H1 D0 = none) (h0 : J 0 []) :
    LcP K P N M L σ es H1 D0 J 0 (upd H1 D0 (.lst [])) ∧ (∀ (j : Nat) (zs : List D), es[j]? = some (some (.own zs)) → σ[j]? ≠ some (some (.ref D0))) ∧ ¬ L D0 := by
  have kn := Kp.new (o := .lst []) S.bs hD
  obtain ⟨S1, old⟩ := S.claim kn hD upd_same
  exact ⟨⟨S1, kn, [], [], upd_same, .nil, h0, Nat.le_refl _⟩, old, fun l => fresh_nm S.bs hD (S.bs.lm _ l)⟩
theorem lc_end {D0 : Addr} {J : Nat → List D → Prop} {i : Nat} (k1 : Kp L H0 H1) (hD : H1 D0 = none) (h : LcP K P N M L σ es H1 D0 J i H) (hd : ∀ ds, J i ds → ds.length ≤ i → Q (.new ds)) : Kp L H0 H ∧ ∃ ds, SvOk K N M L H0 H (.ref D0) (.new ds) ∧ Q (.new ds) := by
  obtain ⟨ws, ds, hw, iw, hj, hl⟩ := h.acc
  exact ⟨k1.trans h.kp, ds, ⟨D0, ws, rfl, k1.was hD, hw, iw⟩, hd ds hj hl⟩
/-- [e for x in range(n) if t] -/
theorem de_lc1 {g : TG} {vs : List Nat} {tr : TA} (h : DA K tr es fun ss => ∃ n : Int, ss = [.d (.int n)] ∧ -(2 ^ 62) ≤ n ∧ n ≤ 100000 ∧ ∃ J : Nat → List D → Prop, J 0 [] ∧
    (∀ i : Nat, (i : Int) < n → LcT K g tt te vs es J i (.int i)) ∧ ∀ ds, J n.toNat ds → ds.length ≤ n.toNat → Q (.new ds)) : DE K (tLc (iRng1 tr) g tt te vs) es Q := fun P N M L σ H S R k => by
  refine h P N M L σ H S _ fun ss us H1 k1 o1 q1 => ?_
  obtain ⟨n, rfl, b1, b2, J, h0, hs, hd⟩ := q1
  obtain ⟨v, rfl, hv⟩ := o1.one
  cases hv
  refine ⟨n, rfl, b1, by omega, fun D0 hD => ?_⟩
  obtain ⟨p0, old, nl⟩ := lc_start (S.kp k1) hD h0
  refine lc_range (lo := 0) (n := n.toNat) (LcP K P N M L σ es H1 D0 J) p0 (fun i H hi p => ?_) fun H p => ?_
  · have e0 : (0 : Int) + (i : Int) = (i : Int) := Int.zero_add _
    rw [e0]
    exact lc_turn old nl hD (by omega) p (Is.int _) (hs i (by omega))
  · obtain ⟨kk, ds, ok, q⟩ := lc_end k1 hD p hd
    exact k _ _ _ kk ok q
/-- [e for x in xs if t], xs a list -/
theorem de_lcL {g : TG} {vs : List Nat} {tl : TE} (h : DE K tl es fun s => ∃ xs, s.rd = some (.lst xs) ∧ (∀ n, s ≠ .scr n) ∧ xs.length ≤ 100000 ∧ ∃ J : Nat → List D → Prop, J 0 [] ∧
    (∀ (i : Nat) x, xs[i]? = some x → LcT K g tt te vs es J i x) ∧ ∀ ds, J xs.length ds → ds.length ≤ xs.length → Q (.new ds)) : DE K (tLc (iList K tl) g tt te vs) es Q := fun P N M L σ H S R k => by
  refine h P N M L σ H S _ fun s v H1 k1 o1 q1 => ?_
  obtain ⟨xs, e, ns, b, J, h0, hs, hd⟩ := q1
  obtain ⟨a, ws, rfl, g1, g3⟩ := o1.lst S.bs e ns
  -- the list stays: a thing of the heap ahead that is no bag
  have na : ¬ L a := by
    cases s with
    | d y =>
      cases e
      cases o1 with
      | lst h1 h2 h3 => exact fun l => h2 (S.bs.lm _ l)
    | own ys =>
      obtain ⟨a', _, e', _, _, l, _⟩ := o1
      cases e'
      exact l
    | new ys =>
      obtain ⟨a', _, e', n, _⟩ := o1
      cases e'
      exact fun l => fresh_nm S.bs n (S.bs.lm _ l)
    | scr n => exact absurd rfl (ns n)
    | bag => cases e
    | rng lo hi => cases e
    | dic kvs => cases e
    | dcd kvs => cases e
    | ty n => cases e
    | cls C => cases e
  refine ⟨a, rfl, ⟨ws, .inl (.inl g1)⟩, fun D0 hD => ?_⟩
  obtain ⟨p0, old, nl⟩ := lc_start (S.kp k1) hD h0
  have bs1 := (S.kp k1).bs
  have stay : ∀ {i : Nat} {H : Hp}, LcP K P N M L σ es H1 D0 J i H → H a = some (.lst ws) := fun {i H} p => p.kp.k a _ na g1
  refine lc_list (K := K) (a := a) (xs := ws) (LcP K P N M L σ es H1 D0 J) p0 (fun i H hi p => .inl (.inl (stay p))) (fun i x H hx p => ?_) fun H p => ?_
  · obtain ⟨d, hd', ix⟩ := g3.getV hx
    have ia : Is K (M.add D0) H x d := by
      refine Is.chg (fun b o e m => ⟨p.kp.k b o (fun l => m (.inl (bs1.lm b l))) e, m⟩) (sqt_keep (M := M) (fun b o m e => p.kp.k b o (fun l => m (bs1.lm b l)) e) bs1.tr) _ _ (ix.add hD)
    have hi : i < 100000 := by
      have := (List.getElem?_eq_some_iff.mp hd').1
      omega
    exact lc_turn old nl hD hi p ia (hs i d hd')
  · rw [g3.len] at p
    obtain ⟨kk, ds, ok, q⟩ := lc_end k1 hD p hd
    exact k _ _ _ kk ok q
/-- over a text's signs -/
theorem lc_str {x : Str} {g : TG} {vs : List Nat} {σ : L2.St} {H1 : Hp} {D0 : Addr} {Qd : Hp → Prop} (Pv : Nat → Hp → Prop) (h0 : Pv 0 (upd H1 D0 (.lst [])))
    (hs : ∀ (i : Nat) (c : Nat) (H : Hp), x.cps[i]? = some c → Pv i H → g (.str ⟨#[c]⟩) (wipe σ vs) H fun σ2 H2 => wipe σ2 vs = wipe σ vs ∧ tt σ2 H2 fun b H3 =>
      if b = true then te σ2 H3 fun y H4 => ∃ acc, H4 D0 = some (.lst acc) ∧ acc.length < sizeLine ∧ Pv (i + 1) (upd H4 D0 (.lst (acc ++ [y]))) else Pv (i + 1) H3) (hd : ∀ H, Pv x.cps.size H → Qd H) :
    ∃ W : Nat → Nat → Hp → Prop, (∃ m, W 0 m (upd H1 D0 (.lst []))) ∧ ∀ i m H, W i m H →
      ((Its x).stop i H ∧ Qd H) ∨ ((Its x).go i H ∧ ∃ Nx : Hp → Prop, (∀ H', Nx H' → ∃ m', m' < m ∧ W (i + 1) m' H') ∧ ∀ v H', (Its x).yld i H v H' → g v (wipe σ vs) H' fun σ2 H2 => wipe σ2 vs = wipe σ vs ∧ tt σ2 H2 fun b H3 =>
        if b = true then te σ2 H3 fun y H4 => ∃ acc, H4 D0 = some (.lst acc) ∧ acc.length < sizeLine ∧ Nx (upd H4 D0 (.lst (acc ++ [y]))) else Nx H3) := by
  refine ⟨fun i m H => m = x.cps.size - i ∧ i ≤ x.cps.size ∧ Pv i H, ⟨x.cps.size, by simp, Nat.zero_le _, h0⟩, ?_⟩
  rintro i m H ⟨rfl, hi, p⟩
  by_cases hlt : i < x.cps.size
  · refine .inr ⟨hlt, Pv (i + 1), fun H' p' => ⟨x.cps.size - (i + 1), by omega, rfl, hlt, p'⟩, fun v H' y => ?_⟩
    obtain ⟨rfl, c, hc, rfl⟩ := y
    exact hs i c _ hc p
  · obtain rfl : i = x.cps.size := by omega
    exact .inl ⟨Nat.le_refl _, hd H p⟩
theorem de_lcS {g : TG} {vs : List Nat} {tl : TE} (h : DE K tl es fun s => ∃ x, s = .d (.str x) ∧ x.length ≤ 100000 ∧ ∃ J : Nat → List D → Prop, J 0 [] ∧
    (∀ (i : Nat) c, x.cps[i]? = some c → LcT K g tt te vs es J i (.str ⟨#[c]⟩)) ∧ ∀ ds, J x.length ds → ds.length ≤ x.length → Q (.new ds)) : DE K (tLc (iStr tl) g tt te vs) es Q := fun P N M L σ H S R k => by
  refine h P N M L σ H S _ fun s v H1 k1 o1 q1 => ?_
  obtain ⟨x, rfl, b, J, h0, hs, hd⟩ := q1
  cases o1
  refine ⟨x, rfl, fun D0 hD => ?_⟩
  obtain ⟨p0, old, nl⟩ := lc_start (S.kp k1) hD h0
  refine lc_str (LcP K P N M L σ es H1 D0 J) p0 (fun i c H hc p => ?_) fun H p => ?_
  · have hi : i < 100000 := Nat.lt_of_lt_of_le (Array.getElem?_eq_some_iff.mp hc).1 b
    exact lc_turn old nl hD hi p (Is.str _) (hs i c hc)
  · obtain ⟨kk, ds, ok, q⟩ := lc_end k1 hD p hd
    exact k _ _ _ kk ok q
theorem dt_yes {Q : Bool → Prop} (q : Q true) : DT K tYes es Q := fun P N M L σ H S R k => k true H (Kp.refl S.bs) q
/-- sep.join(texts) -/
theorem de_join {r : V → List V → Hp → VK → Prop} (hr : r = fun x xs H Q => ∃ a p, ∃ ys : List Str, x = .str a ∧ xs = [.ref p] ∧ (SqL K H p (ys.map V.str) ∨ SqT K H p (ys.map V.str)) ∧ (ys.map (·.length)).sum + ys.length * a.length ≤ 16777216 ∧ Q (.str (Txt.join a ys)) H)
    (h : DE K ta es fun s => ∃ a, s = .d (.str a) ∧ DE K te es fun z => ∃ ys : List Str, z.rd = some (.lst (ys.map D.str)) ∧ (ys.map (·.length)).sum + ys.length * a.length ≤ 16777216 ∧ Q (.d (.str (Txt.join a ys)))) : DE K (tM1 r ta te) es Q := fun P N M L σ H S R k => by
  subst hr
  refine h P N M L σ H S _ fun s v H1 k1 o1 q1 => ?_
  obtain ⟨a, rfl, q1⟩ := q1
  cases o1
  refine ⟨⟨a, rfl⟩, q1 P N M L σ H1 (S.kp k1) _ fun z w H2 k2 o2 q2 => ?_⟩
  obtain ⟨ys, e, l, q⟩ := q2
  obtain ⟨p, vs, rfl, h1, h2⟩ := o2.list (k1.bs S.bs) e
  rw [h2.ofStrs] at h1
  exact ⟨a, p, ys, rfl, rfl, .inl h1, l, k (.d (.str _)) _ H2 (k1.trans k2) (Is.str _) q⟩
end
end DL

namespace DL
open PySem PySem.Spec PyProof.Rows L2
variable [Tbl]
/-! ### operators by what stands there -/
def rAddI : R2 := rI0 fun i j => .int (i + j)
def rAddS : R2 := fun x y H Q => ∃ i j, x = .str i ∧ y = .str j ∧ i.length + j.length ≤ sizeLine ∧ Q (.str (i ++ j)) H
def rPlus (K : PySem.W.Frag) : R2 := fun x y H Q => rAddI x y H Q ∨ (rAddS x y H Q ∨ (rCat x y H Q ∨ rCatA K x y H Q))
def rSl3 (K : PySem.W.Frag) : V → Option Int → Option Int → Hp → VK → Prop := fun x lo hi H Q => rSlL K x lo hi H Q ∨ (rSlA K x lo hi H Q ∨ rSlS x lo hi H Q)
def rIsX : R2 := fun x y H Q => (∃ a b, x = .bl a ∧ y = .bl b ∧ Q (.bl (decide (a = b))) H) ∨ (y = .non ∧ Q (.bl (decide (x = .non))) H)
def rNotX : R2 := fun x y H Q => (∃ a b, x = .bl a ∧ y = .bl b ∧ Q (.bl (!decide (a = b))) H) ∨ (y = .non ∧ Q (.bl (!decide (x = .non))) H)
def rLeS : R2 := fun x y H Q => ∃ i j, x = .str i ∧ y = .str j ∧ Q (.bl (!decide (j.cps.toList < i.cps.toList))) H
def rLeI : R2 := rI0 fun i j => .bl (decide (i ≤ j))
def rLe (K : PySem.W.Frag) : R2 := fun x y H Q => rLeI x y H Q ∨ rLeS x y H Q
def rInR : R2 := fun x y H Q => ∃ i a lo hi, x = V.int i ∧ y = V.ref a ∧ H a = some (.rng lo hi) ∧ Q (.bl (decide (lo ≤ i ∧ i < hi))) H
def rInX (K : PySem.W.Frag) : R2 := fun x y H Q => rInR x y H Q ∨ rInD K x y H Q
def rNotInX (K : PySem.W.Frag) : R2 := fun x y H Q => rNotInR x y H Q ∨ rNotInD K x y H Q
def rLenX (K : PySem.W.Frag) : List V → Hp → VK → Prop := fun xs H Q => ∃ x n, xs = [x] ∧ LenV K x H n ∧ Q (.int n) H
def rAbsX : List V → Hp → VK → Prop := fun xs H Q => ∃ i, xs = [.int i] ∧ Q (.int (if i < 0 then -i else i)) H
def rMaxX : List V → Hp → VK → Prop := fun xs H Q => ∃ i j, xs = [.int i, .int j] ∧ Q (.int (if j > i then j else i)) H
def rMinX : List V → Hp → VK → Prop := fun xs H Q => ∃ i j, xs = [.int i, .int j] ∧ Q (.int (if j < i then j else i)) H
def rListX (K : PySem.W.Frag) : List V → Hp → VK → Prop := fun xs H Q => ∃ p ys, xs = [.ref p] ∧ (SqL K H p ys ∨ SqT K H p ys) ∧ ∀ l, H l = none → Q (.ref l) (upd H l (.lst ys))
def rTupleX (K : PySem.W.Frag) : List V → Hp → VK → Prop := fun xs H Q => ∃ p ys, xs = [.ref p] ∧ ((SqL K H p ys ∧ ∀ l, H l = none → Q (.ref l) (upd H l (.tup ys))) ∨ (SqT K H p ys ∧ Q (.ref p) H))
def rRngX : List V → Hp → VK → Prop := fun vs H Q => ∃ i j, vs = [V.int i, V.int j] ∧ ∀ p, H p = none → Q (.ref p) (upd H p (.rng i j))
def rStrX : List V → Hp → VK → Prop := fun xs H Q => ∃ i, xs = [.int i] ∧ i.natAbs.log2 < 1920 ∧ Q (.str (toString i)) H
def rJoinX (K : PySem.W.Frag) : V → List V → Hp → VK → Prop := fun x xs H Q => ∃ a p, ∃ ys : List Str, x = .str a ∧ xs = [.ref p] ∧ (SqL K H p (ys.map V.str) ∨ SqT K H p (ys.map V.str)) ∧ (ys.map (·.length)).sum + ys.length * a.length ≤ 16777216 ∧ Q (.str (Txt.join a ys)) H
def rMul1 : R2 := rI CMul fun i j => .int (i * j)
def rMul2 : R2 := rI CMulW fun i j => .int (i * j)
def rMul : R2 := fun x y H Q => rMul1 x y H Q ∨ rMul2 x y H Q
def rEqX (K : PySem.W.Frag) : R2 := fun x y H Q => rEqD K x y H Q ∨ rEq x y H Q
def rNeX (K : PySem.W.Frag) : R2 := fun x y H Q => rNeD K x y H Q ∨ rNe x y H Q
/-- a test that is a thing's truth -/
def tTruX (K : PySem.W.Frag) (ta : TE) : TT := fun σ H Q => ta σ H fun x H' => ∃ k, TruV K x H' k ∧ Q k H'
def rFdv : R2 := rI CDivW fun i j => .int (i / j)
def rMod : R2 := rI (fun _ j => 0 < j) fun i j => .int (i % j)
def rPow : R2 := rI CPow fun i j => .int (i ^ j.toNat)
def rSubX : R2 := rI0 fun i j => .int (i - j)
def rLt : R2 := rI0 fun i j => .bl (decide (i < j))
def rGt : R2 := rI0 fun i j => .bl (decide (j < i))
def rGe : R2 := rI0 fun i j => .bl (decide (j ≤ i))
def rNeg : V → Hp → VK → Prop := L2.rU fun i => .int (-i)
section
variable {X : Cx}
theorem op_eqX (hu : X.A.units + 64 < cLine) : OpR X (compareOp .Eq) (rEqX X.K) := (op_eqD hu).or op_eq
theorem op_neX (hu : X.A.units + 64 < cLine) : OpR X (compareOp .NotEq) (rNeX X.K) := (op_neD hu).or op_ne
theorem op_plus : OpR X (binaryOp .Add) (rPlus X.K) := op_add.or (op_add_str.or (op_cat.or op_catA))
theorem op_mulX' : OpR X (binaryOp .Mult) rMul := op_mul.or op_mulW
theorem op_fdvX : OpR X (binaryOp .FloorDiv) rFdv := op_fdivW
theorem op_modX : OpR X (binaryOp .Mod) rMod := op_mod
theorem op_powX : OpR X (binaryOp .Pow) rPow := op_pow
theorem op_subX : OpR X (binaryOp .Sub) rSubX := op_sub
theorem op_ltX : OpR X (compareOp .Lt) rLt := op_lt
theorem op_gtX : OpR X (compareOp .Gt) rGt := op_gt
theorem op_geX : OpR X (compareOp .GtE) rGe := op_ge
theorem op_leX : OpR X (compareOp .LtE) (rLe X.K) := op_le.or op_le_str
theorem un_negX : UnR X (unaryOp .USub) rNeg := un_neg
theorem op_isX : OpR X (compareOp .Is) rIsX := op_is_bl.or op_isN
theorem op_isnotX : OpR X (compareOp .IsNot) rNotX := op_isnot_bl.or op_notN
theorem op_inX (hu : X.A.units + 65 < cLine) : OpR X (compareOp .In) (rInX X.K) := op_in_rng.or (op_inD hu)
theorem op_notinX (hu : X.A.units + 65 < cLine) : OpR X (compareOp .NotIn) (rNotInX X.K) := op_notInR.or (op_notInD hu)
theorem sl_3 : SlR X (rSl3 X.K) := sl_list.or (sl_tupA.or sl_str)
theorem call_lenX : CallR X (.builtin "len") (rLenX X.K) := call_len
theorem call_absX : CallR X (.builtin "abs") rAbsX := call_abs
theorem call_maxX (hc : X.calm = true) : CallR X (.builtin "max") rMaxX := call_max2 hc
theorem call_minX (hc : X.calm = true) : CallR X (.builtin "min") rMinX := call_min2 hc
theorem call_listX : CallR X (.type "list") (rListX X.K) := call_list_of
theorem call_tupleX : CallR X (.type "tuple") (rTupleX X.K) := call_tuple_of
theorem call_rngX : CallR X (.type "range") rRngX := cr_range2
theorem call_strX : CallR X (.type "str") rStrX := call_str_int
theorem mt_joinX : MtR X "str.join" (rJoinX X.K) := mt_join
end
theorem room65 {k : Nat} {A : Around} (h : Room k A) : A.units + 65 < cLine := by have := h.un; omega
section
variable {K : PySem.W.Frag} {N L M : AP} {H0 H1 H H' : Hp} {σ : L2.St} {es : Env'} {ta tb tc te : TE} {tt tu : TT} {Q : SV → Prop} {t u : TS} {B : DEnds}
theorem plus_i {i j : Int} (q : Q (.d (.int (i + j)))) : RR K (rPlus K) (.d (.int i)) (.d (.int j)) Q := rr_or1 (rr_i (g := fun i j => i + j) q)
theorem plus_s {x y : Str} (z : x.length + y.length ≤ sizeLine) (q : Q (.d (.str (x ++ y)))) : RR K (rPlus K) (.d (.str x)) (.d (.str y)) Q := rr_or2 (rr_or1 (rr_addS z q))
theorem plus_l {s1 s2 : SV} {xs ys : List D} (e1 : s1.rd = some (.lst xs)) (e2 : s2.rd = some (.lst ys)) (n1 : ∀ n, s1 ≠ .scr n) (n2 : ∀ n, s2 ≠ .scr n) (z : xs.length + ys.length ≤ 100000) (q : Q (.new (xs ++ ys))) : RR K (rPlus K) s1 s2 Q := rr_or2 (rr_or2 (rr_or1 (rr_cat e1 e2 n1 n2 z q)))
theorem plus_t {xs ys : List D} (z : xs.length + ys.length ≤ 100000) (q : Q (.d (.tup (xs ++ ys)))) : RR K (rPlus K) (.d (.tup xs)) (.d (.tup ys)) Q := rr_or2 (rr_or2 (rr_or2 (rr_catT z q)))
theorem mul_i {i j : Int} (c : i.natAbs.log2 + j.natAbs.log2 < 1000000) (q : Q (.d (.int (i * j)))) : RR K rMul (.d (.int i)) (.d (.int j)) Q := rr_or2 (rr_ic (C := CMulW) (g := fun i j => i * j) c q)
theorem mul_r {i j : Int} (c : -(2 ^ 64) < j ∧ j < 2 ^ 64) (q : Q (.d (.int (i * j)))) : RR K rMul (.d (.int i)) (.d (.int j)) Q := rr_or1 (rr_ic (C := CMul) (g := fun i j => i * j) (.inr c) q)
theorem mul_l {i j : Int} (c : -(2 ^ 64) < i ∧ i < 2 ^ 64) (q : Q (.d (.int (i * j)))) : RR K rMul (.d (.int i)) (.d (.int j)) Q := rr_or1 (rr_ic (C := CMul) (g := fun i j => i * j) (.inl c) q)
theorem fdv_i {i j : Int} (c : 0 < j) (c2 : j.natAbs.log2 < 9000) (q : Q (.d (.int (i / j)))) : RR K rFdv (.d (.int i)) (.d (.int j)) Q := rr_ic (C := CDivW) (g := fun i j => i / j) ⟨c, c2⟩ q
theorem mod_i {i j : Int} (c : 0 < j) (q : Q (.d (.int (i % j)))) : RR K rMod (.d (.int i)) (.d (.int j)) Q := rr_ic (C := fun _ j => 0 < j) (g := fun i j => i % j) c q
theorem pow_i {i j : Int} (c : 0 ≤ j) (c1 : j ≤ 1000000) (c2 : i.natAbs < 2 ^ 64) (q : Q (.d (.int (i ^ j.toNat)))) : RR K rPow (.d (.int i)) (.d (.int j)) Q := rr_ic (C := CPow) (g := fun i j => i ^ j.toNat) ⟨c, c1, c2⟩ q
theorem sub_i {i j : Int} (q : Q (.d (.int (i - j)))) : RR K rSubX (.d (.int i)) (.d (.int j)) Q := rr_i (g := fun i j => i - j) q
theorem lt_i {i j : Int} (q : Q (.d (.bl (decide (i < j))))) : RR K rLt (.d (.int i)) (.d (.int j)) Q := rr_b (g := fun i j => decide (i < j)) q
theorem gt_i {i j : Int} (q : Q (.d (.bl (decide (j < i))))) : RR K rGt (.d (.int i)) (.d (.int j)) Q := rr_b (g := fun i j => decide (j < i)) q
theorem ge_i {i j : Int} (q : Q (.d (.bl (decide (j ≤ i))))) : RR K rGe (.d (.int i)) (.d (.int j)) Q := rr_b (g := fun i j => decide (j ≤ i)) q
theorem le_i {i j : Int} (q : Q (.d (.bl (decide (i ≤ j))))) : RR K (rLe K) (.d (.int i)) (.d (.int j)) Q := rr_or1 (rr_b (g := fun i j => decide (i ≤ j)) q)
theorem le_s {x y : Str} (q : Q (.d (.bl (!decide (y.cps.toList < x.cps.toList))))) : RR K (rLe K) (.d (.str x)) (.d (.str y)) Q := rr_or2 (rr_leS q)
theorem neg_i {i : Int} (q : Q (.d (.int (-i)))) : RU K rNeg (.d (.int i)) Q := ru_neg q
theorem is_b {a b : Bool} (q : Q (.d (.bl (decide (a = b))))) : RR K rIsX (.d (.bl a)) (.d (.bl b)) Q := rr_or1 (rr_isB q)
theorem isnot_b {a b : Bool} (q : Q (.d (.bl (!decide (a = b))))) : RR K rNotX (.d (.bl a)) (.d (.bl b)) Q := rr_or1 (rr_isnotB q)
theorem is_n {x : D} (q : Q (.d (.bl x.isNon))) : RR K rIsX (.d x) (.d .non) Q := rr_or2 (rr_isN q)
theorem isnot_n {x : D} (q : Q (.d (.bl (!x.isNon)))) : RR K rNotX (.d x) (.d .non) Q := rr_or2 (rr_isnotN q)
theorem in_r {i lo hi : Int} (q : Q (.d (.bl (decide (lo ≤ i ∧ i < hi))))) : RR K (rInX K) (.d (.int i)) (.rng lo hi) Q := rr_or1 (rr_inR q)
theorem notin_r {i lo hi : Int} (q : Q (.d (.bl (!decide (lo ≤ i ∧ i < hi))))) : RR K (rNotInX K) (.d (.int i)) (.rng lo hi) Q := rr_or1 (rr_notInR q)
theorem sl_l {s : SV} {xs : List D} {lo hi : Option Int} (e : s.rd = some (.lst xs)) (q : Q (.new (cutD xs lo hi))) : RS K (rSl3 K) s lo hi Q := rs_or1 (rs_L e q)
theorem sl_t {xs : List D} {lo hi : Option Int} (q : Q (.d (.tup (cutD xs lo hi)))) : RS K (rSl3 K) (.d (.tup xs)) lo hi Q := rs_or2 (rs_or1 (rs_T q))
theorem sl_s {z : Str} {lo hi : Option Int} (hz : z.length ≤ sizeLine) (q : Q (.d (.str (cutS z lo hi)))) : RS K (rSl3 K) (.d (.str z)) lo hi Q := rs_or2 (rs_or2 (rs_S hz q))
theorem de_joinX (h : DE K ta es fun s => ∃ a, s = .d (.str a) ∧ DE K te es fun z => ∃ ys : List Str, z.rd = some (.lst (ys.map D.str)) ∧ (ys.map (·.length)).sum + ys.length * a.length ≤ 16777216 ∧ Q (.d (.str (Txt.join a ys)))) : DE K (tM1 (rJoinX K) ta te) es Q := de_join rfl h
theorem eqF {s1 s2 : SV} {x y : D} {n1 n2 k1 k2 : Nat} (e1 : s1.rd = some x) (e2 : s2.rd = some y) (h1 : Fit n1 k1 x) (h2 : Fit n2 k2 y) (l1 : k1 ≤ 40) (l2 : k2 ≤ 40) (q : Q (.d (.bl (PyData.eqv x.py y.py)))) : RR K (rEqX K) s1 s2 Q := rr_or1 (rr_eqF e1 e2 h1 h2 l1 l2 q)
theorem neF {s1 s2 : SV} {x y : D} {n1 n2 k1 k2 : Nat} (e1 : s1.rd = some x) (e2 : s2.rd = some y) (h1 : Fit n1 k1 x) (h2 : Fit n2 k2 y) (l1 : k1 ≤ 40) (l2 : k2 ≤ 40) (q : Q (.d (.bl (!PyData.eqv x.py y.py)))) : RR K (rNeX K) s1 s2 Q := rr_or1 (rr_neF e1 e2 h1 h2 l1 l2 q)
theorem eq_ss {x y : Str} (q : Q (.d (.bl (decide (x = y))))) : RR K (rEqX K) (.d (.str x)) (.d (.str y)) Q := fun N M L H0 H v1 v2 b k o1 o2 R r => by
  cases o1
  cases o2
  have e : decide (V.str x = V.str y) = decide (x = y) := by
    by_cases h : x = y
    · subst h; simp
    · rw [decide_eq_false h, decide_eq_false fun z => h (V.str.inj z)]
  exact .inr ⟨rfl, by rw [e]; exact r (.d (.bl _)) _ H (Kp.refl (k.bs b)) (Is.bl _) q⟩
theorem ne_ss {x y : Str} (q : Q (.d (.bl (!decide (x = y))))) : RR K (rNeX K) (.d (.str x)) (.d (.str y)) Q := fun N M L H0 H v1 v2 b k o1 o2 R r => by
  cases o1
  cases o2
  have e : decide (V.str x = V.str y) = decide (x = y) := by
    by_cases h : x = y
    · subst h; simp
    · rw [decide_eq_false h, decide_eq_false fun z => h (V.str.inj z)]
  exact .inr ⟨rfl, by rw [e]; exact r (.d (.bl _)) _ H (Kp.refl (k.bs b)) (Is.bl _) q⟩
/-- one step at an operator or a call -/
theorem len_x {s : SV} {x : D} {n : Nat} (e : s.rd = some x) (hn : x.len = some n) (q : Q (.d (.int n))) : RC K (rLenX K) [s] Q := rc_len e hn q
theorem abs_x {i : Int} (q : Q (.d (.int (if i < 0 then -i else i)))) : RC K rAbsX [.d (.int i)] Q := rc_abs q
theorem max_x {i j : Int} (q : Q (.d (.int (if j > i then j else i)))) : RC K rMaxX [.d (.int i), .d (.int j)] Q := rc_max q
theorem min_x {i j : Int} (q : Q (.d (.int (if j < i then j else i)))) : RC K rMinX [.d (.int i), .d (.int j)] Q := rc_min q
theorem list_x {s : SV} {xs : List D} (e : s.rd = some (.lst xs)) (q : Q (.new xs)) : RC K (rListX K) [s] Q := rc_list e q
theorem list_t {xs : List D} (q : Q (.new xs)) : RC K (rListX K) [.d (.tup xs)] Q := rc_listT q
theorem tuple_x {s : SV} {xs : List D} (e : s.rd = some (.lst xs)) (q : Q (.d (.tup xs))) : RC K (rTupleX K) [s] Q := rc_tuple e q
theorem rng_x {i j : Int} (q : Q (.rng i j)) : RC K rRngX [.d (.int i), .d (.int j)] Q := rc_rng q
theorem str_x {i : Int} (hi : i.natAbs.log2 < 1920) (q : Q (.d (.str (toString i)))) : RC K rStrX [.d (.int i)] Q := rc_strI hi q

/-! ### the bag -/
/-- bag[k], k a written place -/
theorem bag_ix {k : Int} (hk : k = 0 ∨ k = 1) (q : ∀ g, Q (.d (.int g))) : RR K (rIx K) .bag (.d (.int k)) Q := fun N M L H0 H v1 v2 b kk o1 o2 R r => by
  cases o2
  obtain ⟨a, rfl, la, nt⟩ := o1
  obtain ⟨g, m, e⟩ := (kk.b a la).bag nt
  rcases hk with rfl | rfl
  · exact .inl ⟨a, [.int g, .int m], 0, .int g, rfl, rfl, .inl (.inl e), rfl, r (.d (.int g)) _ H (Kp.refl (kk.bs b)) (Is.int g) (q g)⟩
  · exact .inl ⟨a, [.int g, .int m], 1, .int m, rfl, rfl, .inl (.inl e), rfl, r (.d (.int m)) _ H (Kp.refl (kk.bs b)) (Is.int m) (q m)⟩
/-- bag[k] = e -/
theorem ds_bag {i : Nat} {k : Int} (hk : k = 0 ∨ k = 1) (e : es[i]? = some (some .bag)) (h : DE K te es fun s => ∃ g, s = .d (.int g) ∧ B.nx es) : DS K (tAsg te (gSub (tVar i) (tC (.int k)) rSetL)) es B := fun F P M L σ H S E o => by
  refine h P _ M L σ H S.st _ fun s w H1 k1 o1 q1 => ?_
  obtain ⟨g', rfl, q⟩ := q1
  cases o1
  obtain ⟨v, hv, a, rfl, la, nt⟩ := S.st.ok i _ e
  obtain ⟨g, m, ea⟩ := (k1.b a la).bag nt
  have bs1 := k1.bs S.st.bs
  refine ⟨.ref a, hv, ?_⟩
  have fin : ∀ x y : Int, Kp L H1 (upd H1 a (.lst [.int x, .int y])) := fun x y => ⟨fun b o' l z => by rw [upd_ne (fun q => l (by rw [q]; exact la))]; exact z, fun b l => by
    by_cases hb : b = a
    · exact .inl ⟨⟨x, y, by rw [hb, upd_same]⟩, by rw [hb]; exact nt⟩
    · exact (bs1.bag b l).upd hb (nc_lst ea)⟩
  rcases hk with rfl | rfl
  · exact ⟨a, [.int g, .int m], 0, 0, rfl, rfl, ea, rfl, o.nx _ _ _ _ _ ((S.kp' k1).kp' (fin g' m)) q⟩
  · exact ⟨a, [.int g, .int m], 1, 1, rfl, rfl, ea, rfl, o.nx _ _ _ _ _ ((S.kp' k1).kp' (fin g g')) q⟩
end
end DL

namespace DL
open PySem PySem.Spec PyProof.Rows L2
variable [Tbl]
section
variable {K : PySem.W.Frag} {es : Env'} {ta tb tc te : TE} {tt tu : TT} {Q : SV → Prop} {t u : TS} {B : DEnds}
def smallL (n : Nat) : Prop := n ≤ 100000
theorem small_and {A : Prop} {n : Nat} (h : n ≤ 100000) (q : A) : smallL n ∧ A := ⟨h, q⟩
/-- the things of a display -/
def dats : List SV → Option (List D)
  | [] => some []
  | s :: ss => match s.dat, dats ss with
    | some d, some ds => some (d :: ds)
    | _, _ => none
theorem dats_map : ∀ {ss : List SV} {ds : List D}, dats ss = some ds → ss.map SV.dat = ds.map some
  | [], ds, e => by cases e; rfl
  | s :: ss, ds, e => by
    unfold dats at e
    split at e
    · rename_i d ds' e1 e2
      cases e
      rw [List.map_cons, List.map_cons, e1, dats_map e2]
    · cases e
theorem de_tup' {tr : TA} (h : DA K tr es fun ss => ∃ ds, dats ss = some ds ∧ smallL ds.length ∧ Q (.d (.tup ds))) : DE K (tTup tr) es Q :=
  de_tup fun P N M L σ H S R k => h P N M L σ H S R fun ss vs H' k1 o q => k ss vs H' k1 o (by obtain ⟨ds, e, z, q⟩ := q; exact ⟨ds, dats_map e, z, q⟩)
theorem de_lst' {tr : TA} (h : DA K tr es fun ss => ∃ ds, dats ss = some ds ∧ smallL ds.length ∧ Q (.new ds)) : DE K (tLst tr) es Q :=
  de_lst fun P N M L σ H S R k => h P N M L σ H S R fun ss vs H' k1 o q => k ss vs H' k1 o (by obtain ⟨ds, e, z, q⟩ := q; exact ⟨ds, dats_map e, z, q⟩)
theorem atI_in {α : Type} {xs : List α} {i : Int} (h0 : 0 ≤ i) (h1 : i < (xs.length : Int)) : ∃ x ∈ xs, atI xs i = some x := by
  obtain ⟨n, rfl⟩ : ∃ n : Nat, i = (n : Int) := ⟨i.toNat, by omega⟩
  have hn : n < xs.length := by omega
  exact ⟨xs[n], List.getElem_mem hn, atI_nat (List.getElem?_eq_getElem hn)⟩
theorem ixL_any {s : SV} {xs : List D} {i : Int} (e : s.rd = some (.lst xs)) (h0 : 0 ≤ i) (h1 : i < (xs.length : Int)) (q : ∀ x ∈ xs, Q (.d x)) : RR K (rIx K) s (.d (.int i)) Q := by
  obtain ⟨x, hx, e'⟩ := atI_in h0 h1
  exact rr_xL e e' (q x hx)
theorem ixT_any {xs : List D} {i : Int} (h0 : 0 ≤ i) (h1 : i < (xs.length : Int)) (q : ∀ x ∈ xs, Q (.d x)) : RR K (rIx K) (.d (.tup xs)) (.d (.int i)) Q := by
  obtain ⟨x, hx, e'⟩ := atI_in h0 h1
  exact rr_xT e' (q x hx)
theorem ixS_any {z : Str} {i : Int} (hz : z.length ≤ sizeLine) (h0 : 0 ≤ i) (h1 : i < (z.cps.toList.length : Int)) (q : ∀ c ∈ z.cps.toList, Q (.d (.str ⟨#[c]⟩))) : RR K (rIx K) (.d (.str z)) (.d (.int i)) Q := by
  obtain ⟨x, hx, e'⟩ := atI_in h0 h1
  exact rr_xS hz e' (q x hx)
theorem ite_b {A C : Prop} {b : Bool} (h1 : b = true → A) (h2 : b = false → C) : if b = true then A else C := by
  cases b with
  | true => exact h1 rfl
  | false => exact h2 rfl
end
section
variable {A : Prop} {x : D} {xs : List D} {ns : List Int}
theorem sto_d : (SV.d x).sto = .d x := rfl
theorem sto_new : (SV.new xs).sto = .own xs := rfl
theorem sto_bag : SV.bag.sto = .bag := rfl
theorem sto_scr : (SV.scr ns).sto = .scr ns := rfl
theorem out_d : (SV.d x).out = .d x := rfl
theorem out_new : (SV.new xs).out = .new xs := rfl
theorem out_own : (SV.own xs).out = .new xs := rfl
theorem arg_d : (SV.d x).arg = .d x := rfl
theorem arg_new : (SV.new xs).arg = .d (.lst xs) := rfl
theorem arg_bag : SV.bag.arg = .bag := rfl
theorem arg_scr : (SV.scr ns).arg = .scr ns := rfl
theorem nall_d {ss : List SV} (h : nownAll ss ∧ A) : nownAll (.d x :: ss) ∧ A := ⟨⟨trivial, h.1⟩, h.2⟩
theorem nall_new {ss : List SV} (h : nownAll ss ∧ A) : nownAll (.new xs :: ss) ∧ A := ⟨⟨trivial, h.1⟩, h.2⟩
theorem nall_bag {ss : List SV} (h : nownAll ss ∧ A) : nownAll (.bag :: ss) ∧ A := ⟨⟨trivial, h.1⟩, h.2⟩
theorem nall_scr {ss : List SV} (h : nownAll ss ∧ A) : nownAll (.scr ns :: ss) ∧ A := ⟨⟨trivial, h.1⟩, h.2⟩
theorem nown_d (h : A) : (SV.d x).nown ∧ A := ⟨trivial, h⟩
theorem nown_new (h : A) : (SV.new xs).nown ∧ A := ⟨trivial, h⟩
theorem ret_d (h : A) : (SV.d x).ret ∧ A := ⟨trivial, h⟩
theorem ret_new (h : A) : (SV.new xs).ret ∧ A := ⟨trivial, h⟩
theorem ret_own (h : A) : (SV.own xs).ret ∧ A := ⟨trivial, h⟩
theorem nall_nil (h : A) : nownAll [] ∧ A := ⟨trivial, h⟩
end
section
variable {K : PySem.W.Frag} {Q : SV → Prop} {es : Env'}
theorem eq_ii {i j : Int} (q : Q (.d (.bl (i == j)))) : RR K (rEqX K) (.d (.int i)) (.d (.int j)) Q := rr_or1 <| rr_eq rfl rfl rfl rfl (by simp [SeqAt.shaped, D.py, PyData.canLay0, PyData.depth]) (by simp [SeqAt.shaped, D.py, PyData.canLay0, PyData.depth]) q
theorem ne_ii {i j : Int} (q : Q (.d (.bl (!(i == j))))) : RR K (rNeX K) (.d (.int i)) (.d (.int j)) Q := rr_or1 <| rr_ne rfl rfl rfl rfl (by simp [SeqAt.shaped, D.py, PyData.canLay0, PyData.depth]) (by simp [SeqAt.shaped, D.py, PyData.canLay0, PyData.depth]) q
theorem pow_lit {i j k : Int} (e : i ^ j.toNat = k) (c : 0 ≤ j) (c1 : j ≤ 1000000) (c2 : i.natAbs < 2 ^ 64) (q : Q (.d (.int k))) : RR K rPow (.d (.int i)) (.d (.int j)) Q := pow_i c c1 c2 (by rw [e]; exact q)
end
/-- a step -/
local macro_rules | `(tactic| walk_at "dl") => `(tactic| first
  | ((with_reducible refine de_var (s := ?sv) ?hv ?_); (case hv => exact rfl)) | with_reducible refine de_int ?_ | with_reducible refine de_bl ?_ | with_reducible refine de_str ?_ | with_reducible refine de_non ?_ | with_reducible refine de_ty ?_
  | with_reducible refine de_tup' ?_ | with_reducible refine de_lst' ?_ | ((with_reducible refine small_and ?hz ?_); (case hz => exact Nat.le_of_ble_eq_true rfl)) | with_reducible refine nall_d ?_ | with_reducible refine nall_new ?_ | with_reducible refine nall_bag ?_ | with_reducible refine nall_scr ?_ | with_reducible refine nall_nil ?_
  | with_reducible refine de_op ?_ | with_reducible refine de_un ?_ | with_reducible refine de_chain ?_ | with_reducible refine de_cb ?_ | with_reducible refine de_sl ?_
  | with_reducible refine do_none ?_ | with_reducible refine do_some ?_ | with_reducible refine da_cons ?_ | with_reducible refine da_nil ?_
  | with_reducible refine dt_test ?_ | with_reducible refine dt_B ?_ | with_reducible refine dt_not ?_ | with_reducible refine dt_and ?_ | with_reducible refine dt_or ?_ | with_reducible refine dt_yes ?_
  | with_reducible refine de_andV ?_ | with_reducible refine de_orV ?_ | with_reducible refine de_notV ?_
  | with_reducible refine ds_next ?_ | with_reducible refine ds_seq ?_ | with_reducible refine ds_ret ?_ | with_reducible refine ds_retN ?_ | with_reducible refine ds_if ?_ | with_reducible refine ds_brk ?_ | with_reducible refine ds_cont ?_
  | with_reducible refine ds_set ?_
  | with_reducible refine plus_i ?_ | with_reducible refine sub_i ?_ | with_reducible refine lt_i ?_ | with_reducible refine gt_i ?_ | with_reducible refine ge_i ?_ | with_reducible refine le_i ?_ | with_reducible refine le_s ?_ | with_reducible refine neg_i ?_
  | with_reducible refine eq_ii ?_ | with_reducible refine ne_ii ?_ | with_reducible refine eq_ss ?_ | with_reducible refine ne_ss ?_
  | with_reducible refine is_b ?_ | with_reducible refine isnot_b ?_ | with_reducible refine is_n ?_ | with_reducible refine isnot_n ?_ | with_reducible refine in_r ?_ | with_reducible refine notin_r ?_
  | with_reducible refine len_x rfl rfl ?_ | with_reducible refine abs_x ?_ | with_reducible refine max_x ?_ | with_reducible refine min_x ?_ | with_reducible refine rng_x ?_
  | with_reducible refine bag_ix (.inl rfl) (fun g => ?_) | with_reducible refine bag_ix (.inr rfl) (fun g => ?_)
  | with_reducible refine nown_d ?_ | with_reducible refine nown_new ?_ | with_reducible refine ret_d ?_ | with_reducible refine ret_new ?_ | with_reducible refine ret_own ?_
  | with_reducible refine ⟨_, rfl, ?_⟩ | dsimp only [sto_d, sto_new, sto_bag, sto_scr, out_d, out_new, out_own, arg_d, arg_new, arg_bag, arg_scr, List.set, List.map_cons, List.map_nil])
def preTake (ss : List SV) : Prop := ∃ n : Int, ss = [.bag, .d (.int n)] ∧ 0 < n ∧ n.natAbs.log2 < 9000
def postTake (ss : List SV) (r : SV) : Prop := ∃ n d : Int, ss = [.bag, .d (.int n)] ∧ r = .d (.int d) ∧ 0 ≤ d ∧ d < n
def sp__law_take (K : PySem.W.Frag) : Sp := spD K 2 preTake postTake
def rdTake (K : PySem.W.Frag) : TS := (tSeq (tIfS (tTest (tOp rGt (tOp (rIx K) (tVar 0) (tC (.int 0))) (tC (.int 0)))) (tSeq (tAsg (tOp rMod (tOp (rIx K) (tVar 0) (tC (.int 0))) (tVar 1)) (gName 2))
    (tSeq (tAsg (tOp rFdv (tOp (rIx K) (tVar 0) (tC (.int 0))) (tVar 1)) (gSub (tVar 0) (tC (.int 0)) rSetL))
    (tRet (tVar 2)))) tNext)
    (tSeq (tAsg (tOp rMod (tOp rMul (tOp (rIx K) (tVar 0) (tC (.int 1))) (tC (.int 48271))) (tC (.int 2147483647))) (gSub (tVar 0) (tC (.int 1)) rSetL))
    (tRet (tOp rMod (tOp rFdv (tOp rMod (tOp rMul (tOp (rIx K) (tVar 0) (tC (.int 1))) (tC (.int 69621))) (tC (.int 2147483629))) (tOp rPow (tC (.int 16)) (tC (.int 2)))) (tVar 1)))))
theorem semTake {K : PySem.W.Frag} (ss : List SV) (hp : preTake ss) : DS K (rdTake K) (startE 3 ss) { nx := fun _ => postTake ss (.d .non), rt := postTake ss } := by
  obtain ⟨n, rfl, h0, h1⟩ := hp
  show DS K (rdTake K) [some .bag, some (.d (.int n)), none] _
  unfold rdTake
  repeat walk_at "dl"
  refine ite_b (fun _ => ?_) (fun _ => ?_)
  · repeat walk_at "dl"
    refine mod_i h0 ?_
    repeat walk_at "dl"
    refine ds_bag (.inl rfl) rfl ?_
    repeat walk_at "dl"
    refine fdv_i h0 h1 ?_
    repeat walk_at "dl"
    exact ⟨n, _, rfl, rfl, Int.emod_nonneg _ (by omega), Int.emod_lt_of_pos _ h0⟩
  · repeat walk_at "dl"
    refine ds_bag (.inr rfl) rfl ?_
    repeat walk_at "dl"
    refine mul_r (by decide) ?_
    repeat walk_at "dl"
    refine mod_i (by decide) ?_
    repeat walk_at "dl"
    refine mul_r (by decide) ?_
    repeat walk_at "dl"
    refine mod_i (by decide) ?_
    repeat walk_at "dl"
    refine pow_i (by decide) (by decide) (by decide) ?_
    repeat walk_at "dl"
    refine fdv_i (by decide) (by decide) ?_
    repeat walk_at "dl"
    refine mod_i h0 ?_
    repeat walk_at "dl"
    exact ⟨n, _, rfl, rfl, Int.emod_nonneg _ (by omega), Int.emod_lt_of_pos _ h0⟩
def preBag (ss : List SV) : Prop := ∃ (ns : List Int) (k : Nat), ss = [.scr ns, .d (.int k)] ∧ k < 64
def postBag (ss : List SV) (r : SV) : Prop := ∃ g m : Int, r = .new [.int g, .int m]
def sp__law_bag (K : PySem.W.Frag) : Sp := spD K 2 preBag postBag
def rdBag (K : PySem.W.Frag) : TS := (tSeq (tAsg (tTup (tCons (tC (.int 2147483647)) (tCons (tC (.int 2147483629)) (tCons (tC (.int 2147483587)) (tCons (tC (.int 2147483579)) (tCons (tC (.int 2147483563)) (tCons (tC (.int 2147483549)) (tCons (tC (.int 2147483543)) tNil)))))))) (gName 2))
    (tSeq (tAsg (tIf (tTest (tOp rLt (tVar 1) (tCB (rLenX K) (tCons (tVar 0) tNil)))) (tOp (rIx K) (tVar 0) (tVar 1)) (tC (.int 0))) (gName 3))
    (tSeq (tAsg (tIf (tTest (tOp rGe (tCB rAbsX (tCons (tVar 3) tNil)) (tOp rPow (tC (.int 10)) (tC (.int 18))))) (tCB rAbsX (tCons (tVar 3) tNil)) (tC (.int 0))) (gName 4))
    (tSeq (tAsg (tOp rMod (tOp rPow (tOp (rPlus K) (tOp (rPlus K) (tOp rMod (tVar 3) (tC (.int 2305843009213693951))) (tOp rMul (tC (.int 40961)) (tVar 1))) (tC (.int 19))) (tC (.int 3))) (tOp (rIx K) (tVar 2) (tOp rMod (tVar 1) (tC (.int 7))))) (gName 5))
    (tRet (tLst (tCons (tVar 4) (tCons (tOp (rPlus K) (tOp rMod (tOp rMul (tVar 5) (tOp (rPlus K) (tOp (rPlus K) (tOp rFdv (tVar 5) (tC (.int 5))) (tOp rMul (tC (.int 3)) (tVar 1))) (tC (.int 11)))) (tOp (rIx K) (tVar 2) (tOp rMod (tOp (rPlus K) (tVar 1) (tC (.int 2))) (tC (.int 7))))) (tC (.int 1))) tNil))))))))
theorem semBag {K : PySem.W.Frag} (ss : List SV) (hp : preBag ss) : DS K (rdBag K) (startE 6 ss) { nx := fun _ => postBag ss (.d .non), rt := postBag ss } := by
  obtain ⟨ns, k, rfl, hk⟩ := hp
  show DS K (rdBag K) [some (.scr ns), some (.d (.int k)), none, none, none, none] _
  unfold rdBag
  repeat walk_at "dl"
  refine DE.mono (Q := fun s => ∃ c : Int, s = .d (.int c)) ?_ ?_
  · refine de_if ?_
    repeat walk_at "dl"
    refine ite_b (fun hb => ?_) (fun hb => ?_)
    · repeat walk_at "dl"
      have hb' := of_decide_eq_true hb
      refine ixL_any rfl (by omega) hb' (fun x hx => ?_)
      obtain ⟨c, _, rfl⟩ := List.mem_map.mp hx
      exact ⟨c, rfl⟩
    · repeat walk_at "dl"
      exact ⟨_, rfl⟩
  rintro _ ⟨c, rfl⟩
  repeat walk_at "dl"
  refine DE.mono (Q := fun s => ∃ c : Int, s = .d (.int c)) ?_ ?_
  · refine de_if ?_
    repeat walk_at "dl"
    refine pow_i (by decide) (by decide) (by decide) ?_
    repeat walk_at "dl"
    refine ite_b (fun hb => ?_) (fun hb => ?_)
    · repeat walk_at "dl"
      exact ⟨_, rfl⟩
    · repeat walk_at "dl"
      exact ⟨_, rfl⟩
  rintro _ ⟨g, rfl⟩
  repeat walk_at "dl"
  refine mod_i (by decide) ?_
  repeat walk_at "dl"
  refine mul_l (by decide) ?_
  repeat walk_at "dl"
  have h1 := Int.emod_nonneg c (b := 2305843009213693951) (by decide)
  have h2 := Int.emod_lt_of_pos c (b := 2305843009213693951) (by decide)
  refine pow_i (by decide) (by decide) (by omega) ?_
  repeat walk_at "dl"
  refine mod_i (by decide) ?_
  refine ixT_any (Int.emod_nonneg _ (by decide)) (Int.emod_lt_of_pos _ (by decide)) (fun x hx => ?_)
  have prime : ∀ {y : D}, y ∈ [D.int 2147483647, D.int 2147483629, D.int 2147483587, D.int 2147483579, D.int 2147483563, D.int 2147483549, D.int 2147483543] → ∃ p : Int, y = .int p ∧ 0 < p ∧ p < 2147483648 := by
    intro y hy
    simp only [List.mem_cons, List.not_mem_nil, or_false] at hy
    rcases hy with rfl | rfl | rfl | rfl | rfl | rfl | rfl <;> exact ⟨_, rfl, by decide, by decide⟩
  obtain ⟨p, rfl, p0, p1⟩ := prime hx
  refine mod_i p0 ?_
  generalize hm : (c % 2305843009213693951 + 40961 * (k : Int) + 19) ^ (3 : Int).toNat % p = m
  have m0 : 0 ≤ m := by rw [← hm]; exact Int.emod_nonneg _ (by omega)
  have m1 : m < 2147483648 := by have := Int.emod_lt_of_pos ((c % 2305843009213693951 + 40961 * (k : Int) + 19) ^ (3 : Int).toNat) p0; omega
  repeat walk_at "dl"
  refine fdv_i (by decide) (by decide) ?_
  repeat walk_at "dl"
  refine mul_l (by decide) ?_
  repeat walk_at "dl"
  refine mul_l (by omega) ?_
  repeat walk_at "dl"
  refine mod_i (by decide) ?_
  refine ixT_any (Int.emod_nonneg _ (by decide)) (Int.emod_lt_of_pos _ (by decide)) (fun x hx => ?_)
  obtain ⟨p', rfl, p0', p1'⟩ := prime hx
  refine mod_i p0' ?_
  repeat walk_at "dl"
  exact ⟨_, _, rfl⟩
end DL

namespace DL
open PySem PySem.Spec PyProof.Rows L2
variable [Tbl]
/-! ### texts -/
def okS (z : Str) : Prop := z.cps.all (· < 0x110000) = true
theorem okS_iff {z : Str} : okS z ↔ ∀ c ∈ z.cps.toList, c < 0x110000 := by
  unfold okS
  rw [← Array.all_toList, List.all_eq_true]
  constructor
  · intro h c hc
    exact of_decide_eq_true (h c hc)
  · intro h c hc
    exact decide_eq_true (h c hc)
theorem okS_app {x y : Str} (a : okS x) (b : okS y) : okS (x ++ y) := okS_iff.mpr fun c hc => by
  have hc' : c ∈ (x.cps ++ y.cps).toList := hc
  rw [Array.toList_append, List.mem_append] at hc'
  exact hc'.elim (okS_iff.mp a c) (okS_iff.mp b c)
theorem okS_cut {x : Str} {lo hi : Option Int} (a : okS x) : okS (cutS x lo hi) := okS_iff.mpr fun c hc => by
  have hc' : c ∈ ((x.cps.toList.drop (HT.sIx x.length 0 lo)).take (HT.sIx x.length x.length hi - HT.sIx x.length 0 lo)) := by
    have h : c ∈ (((x.cps.toList.drop (HT.sIx x.length 0 lo)).take (HT.sIx x.length x.length hi - HT.sIx x.length 0 lo)).toArray).toList := hc
    simpa using h
  exact okS_iff.mp a c (List.mem_of_mem_drop (List.mem_of_mem_take hc'))
theorem okS_empty : okS ("" : String) := by unfold okS; decide +kernel
theorem okS_join0 : ∀ ys : List Str, (∀ y ∈ ys, okS y) → okS (Str.join (Str.ofString "") ys)
  | [], _ => okS_empty
  | [x], h => h x (by simp)
  | x :: y :: r, h => by
    show okS (x ++ Str.ofString "" ++ Str.join (Str.ofString "") (y :: r))
    exact okS_app (okS_app (h x (by simp)) okS_empty) (okS_join0 (y :: r) fun z hz => h z (List.mem_cons_of_mem _ hz))
theorem okS_join {ys : List Str} (h : ∀ y ∈ ys, okS y) : okS (Txt.join (Str.ofString "") ys) := by
  have e : Txt.join (Str.ofString "") ys = Str.join (Str.ofString "") ys := StrLaws.glued_eq_join _ _
  rw [e]
  exact okS_join0 ys h
theorem len_join0 : ∀ ys : List Str, (Str.join (Str.ofString "") ys).length = (ys.map (·.length)).sum
  | [] => rfl
  | [x] => by
    show x.length = _
    simp
  | x :: y :: r => by
    show (x ++ Str.ofString "" ++ Str.join (Str.ofString "") (y :: r)).length = _
    rw [strLen_append, strLen_append, len_join0 (y :: r), List.map_cons, List.sum_cons]
    rfl
theorem len_join {ys : List Str} : (Txt.join (Str.ofString "") ys).length = (ys.map (·.length)).sum := by
  have e : Txt.join (Str.ofString "") ys = Str.join (Str.ofString "") ys := StrLaws.glued_eq_join _ _
  rw [e]
  exact len_join0 ys
theorem sum_le {α : Type} {f : α → Nat} {b : Nat} : ∀ {xs : List α}, (∀ x ∈ xs, f x ≤ b) → (xs.map f).sum ≤ xs.length * b
  | [], _ => by simp
  | x :: xs, h => by
    rw [List.map_cons, List.sum_cons, List.length_cons, Nat.succ_mul]
    have h1 := h x (by simp)
    have h2 := sum_le (xs := xs) fun y hy => h y (List.mem_cons_of_mem _ hy)
    omega
theorem okS_one {z : Str} {c : Nat} (h : okS z) (hc : c ∈ z.cps.toList) : okS ⟨#[c]⟩ := okS_iff.mpr fun d hd => by
  have : d = c := by simpa using hd
  subst this
  exact okS_iff.mp h d hc
theorem take_get {α : Type} {xs : List α} {i : Nat} {x : α} (h : xs[i]? = some x) : xs.take (i + 1) = xs.take i ++ [x] := by
  rw [List.take_add_one, h]; rfl
theorem cps_len (z : Str) : z.cps.toList.length = z.length := by simp [Str.length]
theorem cps_get {z : Str} {i c : Nat} (h : z.cps[i]? = some c) : z.cps.toList[i]? = some c := by
  rw [← h]; simp
theorem len_s {z : Str} (hz : z.length ≤ 1000) : (D.str z).len = some z.length := by
  show (if z.length ≤ sizeLine then some z.length else none) = some z.length
  rw [if_pos (Nat.le_trans hz (by decide))]
theorem Fit.s {z : Str} (h : okS z) {m : Nat} (l : z.length ≤ m) : Fit (10 * m + 8) 0 (.str z) := Fit.str h l
theorem nil_eq {xs : List D} : PyData.eqv (D.lst xs).py (D.lst []).py = xs.isEmpty := by
  cases xs with
  | nil => rfl
  | cons x xs => rfl
theorem shown_bl (b : Bool) : Fit 100 0 (.str (D.bl b).shown) := by
  cases b
  · exact (Fit.s (m := 5) (by unfold okS; decide +kernel) (by decide)).mono (by decide) (by decide)
  · exact (Fit.s (m := 5) (by unfold okS; decide +kernel) (by decide)).mono (by decide) (by decide)
/-! ### isinstance by types -/
def isInt : D → Bool
  | .int _ => true
  | .bl _ => true
  | _ => false
theorem kit_isInt {x : D} (h : x.plain = true) : kitB x.tyN "int" = some (isInt x) := by
  have h0 : kitB "NoneType" "int" = some false := by decide +kernel
  have h1 : kitB "bool" "int" = some true := by decide +kernel
  have h2 : kitB "int" "int" = some true := by decide +kernel
  have h3 : kitB "str" "int" = some false := by decide +kernel
  have h4 : kitB "list" "int" = some false := by decide +kernel
  have h5 : kitB "tuple" "int" = some false := by decide +kernel
  cases x <;> first | exact h0 | exact h1 | exact h2 | exact h3 | exact h4 | exact h5 | cases h
def isBool : D → Bool
  | .bl _ => true
  | _ => false
theorem kit_isBool {x : D} (h : x.plain = true) : kitB x.tyN "bool" = some (isBool x) := by
  have h0 : kitB "NoneType" "bool" = some false := by decide +kernel
  have h1 : kitB "bool" "bool" = some true := by decide +kernel
  have h2 : kitB "int" "bool" = some false := by decide +kernel
  have h3 : kitB "str" "bool" = some false := by decide +kernel
  have h4 : kitB "list" "bool" = some false := by decide +kernel
  have h5 : kitB "tuple" "bool" = some false := by decide +kernel
  cases x <;> first | exact h0 | exact h1 | exact h2 | exact h3 | exact h4 | exact h5 | cases h
def isStr : D → Bool
  | .str _ => true
  | _ => false
theorem kit_isStr {x : D} (h : x.plain = true) : kitB x.tyN "str" = some (isStr x) := by
  have h0 : kitB "NoneType" "str" = some false := by decide +kernel
  have h1 : kitB "bool" "str" = some false := by decide +kernel
  have h2 : kitB "int" "str" = some false := by decide +kernel
  have h3 : kitB "str" "str" = some true := by decide +kernel
  have h4 : kitB "list" "str" = some false := by decide +kernel
  have h5 : kitB "tuple" "str" = some false := by decide +kernel
  cases x <;> first | exact h0 | exact h1 | exact h2 | exact h3 | exact h4 | exact h5 | cases h
def isTup : D → Bool
  | .tup _ => true
  | _ => false
theorem kit_isTup {x : D} (h : x.plain = true) : kitB x.tyN "tuple" = some (isTup x) := by
  have h0 : kitB "NoneType" "tuple" = some false := by decide +kernel
  have h1 : kitB "bool" "tuple" = some false := by decide +kernel
  have h2 : kitB "int" "tuple" = some false := by decide +kernel
  have h3 : kitB "str" "tuple" = some false := by decide +kernel
  have h4 : kitB "list" "tuple" = some false := by decide +kernel
  have h5 : kitB "tuple" "tuple" = some true := by decide +kernel
  cases x <;> first | exact h0 | exact h1 | exact h2 | exact h3 | exact h4 | exact h5 | cases h
def isLst : D → Bool
  | .lst _ => true
  | _ => false
theorem kit_isLst {x : D} (h : x.plain = true) : kitB x.tyN "list" = some (isLst x) := by
  have h0 : kitB "NoneType" "list" = some false := by decide +kernel
  have h1 : kitB "bool" "list" = some false := by decide +kernel
  have h2 : kitB "int" "list" = some false := by decide +kernel
  have h3 : kitB "str" "list" = some false := by decide +kernel
  have h4 : kitB "list" "list" = some true := by decide +kernel
  have h5 : kitB "tuple" "list" = some false := by decide +kernel
  cases x <;> first | exact h0 | exact h1 | exact h2 | exact h3 | exact h4 | exact h5 | cases h
theorem fit_plain {n k : Nat} {x : D} (h : Fit n k x) : x.plain = true := fine_plain x h.f
theorem call_take {K : PySem.W.Frag} {es : Env'} {i : Nat} {te : TE} {Q : SV → Prop} (e : es[i]? = some (some .bag)) (h : DE K te es fun s => ∃ n : Int, s = .d (.int n) ∧ 0 < n ∧ n.natAbs.log2 < 9000 ∧ ∀ d, 0 ≤ d → d < n → Q (.d (.int d))) :
    DE K (tCall (sp__law_take K) [] E0 (tCons (tVar i) (tCons te tNil))) es Q := by
  refine de_call (da_cons (de_var e (da_cons (DE.mono h ?_))))
  rintro s ⟨n, rfl, h0, h1, q⟩
  refine da_nil ⟨⟨trivial, trivial, trivial⟩, rfl, ⟨n, rfl, h0, h1⟩, ?_⟩
  rintro r ⟨n', d, e', rfl, d0, d1⟩
  injection e' with e1 e2
  injection e2 with e3 e4
  cases e3
  exact q d d0 d1
theorem kw1 {g : {α : Type} → List α → List α} (hg : ∀ {α : Type} (x : α), g [x] = [x]) (hn : ∀ {α : Type}, g ([] : List α) = []) (hm : ∀ {α : Type} (x y : α) (t : List α), g (x :: y :: t) = x :: y :: t) {K : PySem.W.Frag} {vs : List V} {ss : List SV} {N M L : AP} {H0 H : Hp} (h : SvAll K N M L H0 H vs ss) : SvAll K N M L H0 H (g vs) (g ss) := by
  match h with
  | .nil => rw [hn, hn]; exact .nil
  | .cons h .nil => rw [hg, hg]; exact .cons h .nil
  | .cons h (.cons h2 t) => rw [hm, hm]; exact .cons h (.cons h2 t)
/-! the shown text is fit to be compared -/
theorem ne_same {K : PySem.W.Frag} {s1 s2 : SV} {x : D} {n k : Nat} {Q : SV → Prop} (e1 : s1.rd = some x) (e2 : s2.rd = some x) (h : Fit n k x) (hk : k ≤ 40) (q : Q (.d (.bl false))) : RR K (rNeX K) s1 s2 Q :=
  neF e1 e2 h h hk hk (by rw [eqv_self x h.f]; exact q)
theorem eq_same {K : PySem.W.Frag} {s1 s2 : SV} {x : D} {n k : Nat} {Q : SV → Prop} (e1 : s1.rd = some x) (e2 : s2.rd = some x) (h : Fit n k x) (hk : k ≤ 40) (q : Q (.d (.bl true))) : RR K (rEqX K) s1 s2 Q :=
  eqF e1 e2 h h hk hk (by rw [eqv_self x h.f]; exact q)
/-- the law's promise, at the head; tables, where there are any, stand in H -/
theorem law_endT {K : PySem.W.Frag} {H : Hp} {a : Addr} {ns : List Int} {pre : List SV → Prop} {post : List SV → SV → Prop} (tabs : LamX.Tabs Tbl.T H) (sq : (∃ o, H a = some (.frz o (.lst (ns.map V.int)))) ∨ SqL K (fun _ => none) a (ns.map V.int)) (hp : pre [.scr ns]) (hq : ∀ r, post [.scr ns] r → r = .d (.bl true)) :
    spD K 1 pre post [.ref a] H (fun v _ => v = .bl true) E0 := by
  refine ⟨fun b => ∃ q, (b, q) ∈ Tbl.T, fun b => ∃ q, (b, q) ∈ Tbl.T, [.scr ns], ⟨fun _ h => h, ?_, ?_, ?_, fun b q h => ⟨q, h⟩⟩, .cons ⟨a, rfl, sq⟩ .nil, rfl, hp, fun r v H' k o q => ?_⟩
  · rintro b o ⟨q, hq⟩ e
    obtain ⟨ps, z, _⟩ := tabs _ hq
    rw [show H b = some (.tbl ps) from z] at e
    cases e
    trivial
  · rintro b ⟨q, hq⟩
    obtain ⟨ps, z, _⟩ := tabs _ hq
    exact ⟨_, z⟩
  · rintro b ⟨q, hq⟩
    exact .inr ⟨q, hq, tabs _ hq⟩
  · rw [hq r q] at o
    cases o
    rfl
theorem law_end {K : PySem.W.Frag} {H : Hp} {a : Addr} {ns : List Int} {pre : List SV → Prop} {post : List SV → SV → Prop} (only : Only H) (sq : SqL K H a (ns.map V.int)) (hp : pre [.scr ns]) (hq : ∀ r, post [.scr ns] r → r = .d (.bl true)) (tabs : LamX.Tabs Tbl.T H := by intro p hp; cases hp) :
    spD K 1 pre post [.ref a] H (fun v _ => v = .bl true) E0 := by
  refine law_endT tabs ?_ hp hq
  rcases sq with (h | ⟨o, h⟩) | h
  · rcases only a with z | ⟨o, xs, z⟩
    · rw [h] at z; cases z
    · rw [h] at z; cases z
  · exact .inl ⟨o, h⟩
  · exact .inr (.inr h)
end DL

namespace DL
open PySem PySem.Spec PyProof.Rows L2
variable [Tbl]
/-! ### stretches -/
def Cov (ps : List (Int × Int)) (c : Int) : Prop := ∃ p ∈ ps, p.1 ≤ c ∧ c < p.1 + p.2
def Canon (ps : List (Int × Int)) : Prop := (∀ p ∈ ps, 0 < p.2) ∧ ps.Pairwise fun p q => p.1 + p.2 < q.1
theorem cov_cons {p : Int × Int} {ps : List (Int × Int)} {c : Int} : Cov (p :: ps) c ↔ (p.1 ≤ c ∧ c < p.1 + p.2) ∨ Cov ps c := by
  unfold Cov
  simp only [List.mem_cons, exists_eq_or_imp]
theorem cov_nil {c : Int} : ¬ Cov [] c := by
  rintro ⟨p, h, _⟩
  cases h
theorem Canon.tail {p : Int × Int} {ps : List (Int × Int)} (h : Canon (p :: ps)) : Canon ps := ⟨fun q hq => h.1 q (List.mem_cons_of_mem _ hq), (List.pairwise_cons.mp h.2).2⟩
theorem Canon.ge {p : Int × Int} {ps : List (Int × Int)} (h : Canon (p :: ps)) {c : Int} (hc : Cov ps c) : p.1 + p.2 < c := by
  obtain ⟨q, hq, h1, h2⟩ := hc
  have := (List.pairwise_cons.mp h.2).1 q hq
  omega
theorem Canon.head {p q : Int × Int} {ps qs : List (Int × Int)} (h : Canon (p :: ps)) (k : Canon (q :: qs)) (e : ∀ c, Cov (p :: ps) c → Cov (q :: qs) c) : q.1 ≤ p.1 := by
  have hp := h.1 p (by simp)
  have hq := k.1 q (by simp)
  rcases cov_cons.mp (e p.1 (cov_cons.mpr (.inl ⟨Int.le_refl _, by omega⟩))) with z | z
  · exact z.1
  · have := k.ge z
    omega
theorem Canon.last {p q : Int × Int} {ps qs : List (Int × Int)} (h : Canon (p :: ps)) (k : Canon (q :: qs)) (e1 : p.1 = q.1) (e : ∀ c, Cov (q :: qs) c → Cov (p :: ps) c) : q.2 ≤ p.2 := by
  have hp := h.1 p (by simp)
  have hq := k.1 q (by simp)
  refine Int.not_lt.mp fun lt => ?_
  rcases cov_cons.mp (e (p.1 + p.2) (cov_cons.mpr (.inl ⟨by omega, by omega⟩))) with z | z
  · omega
  · have := h.ge z
    omega
theorem canon_uniq : ∀ {ps qs : List (Int × Int)}, Canon ps → Canon qs → (∀ c, Cov ps c ↔ Cov qs c) → ps = qs
  | [], [], _, _, _ => rfl
  | [], q :: qs, _, k, e => by
    have hq := k.1 q (by simp)
    exact absurd ((e q.1).mpr (cov_cons.mpr (.inl ⟨Int.le_refl _, by omega⟩))) cov_nil
  | p :: ps, [], h, _, e => by
    have hp := h.1 p (by simp)
    exact absurd ((e p.1).mp (cov_cons.mpr (.inl ⟨Int.le_refl _, by omega⟩))) cov_nil
  | p :: ps, q :: qs, h, k, e => by
    have a1 := h.head k fun c => (e c).mp
    have a2 := k.head h fun c => (e c).mpr
    have e1 : p.1 = q.1 := by omega
    have b1 := h.last k e1 fun c => (e c).mpr
    have b2 := k.last h e1.symm fun c => (e c).mp
    have e2 : p.2 = q.2 := by omega
    have e0 : p = q := Prod.ext e1 e2
    subst e0
    rw [canon_uniq h.tail k.tail fun c => ⟨fun z => ?_, fun z => ?_⟩]
    · have := h.ge z
      rcases cov_cons.mp ((e c).mp (cov_cons.mpr (.inr z))) with y | y
      · omega
      · exact y
    · have := k.ge z
      rcases cov_cons.mp ((e c).mpr (cov_cons.mpr (.inr z))) with y | y
      · omega
      · exact y
/-! runs: (begin, end), the last one ahead -/
def runStep (rs : List (Int × Int)) (p : Int × Int) : List (Int × Int) :=
  match rs with
  | [] => [(p.1, p.1 + p.2)]
  | (x, y) :: t => if p.1 ≤ y then (x, if p.1 + p.2 > y then p.1 + p.2 else y) :: t else (p.1, p.1 + p.2) :: (x, y) :: t
def CovR (rs : List (Int × Int)) (c : Int) : Prop := ∃ p ∈ rs, p.1 ≤ c ∧ c < p.2
def GoodR (rs : List (Int × Int)) : Prop := (∀ p ∈ rs, p.1 < p.2) ∧ rs.Pairwise fun p q => q.2 < p.1
theorem covr_cons {p : Int × Int} {ps : List (Int × Int)} {c : Int} : CovR (p :: ps) c ↔ (p.1 ≤ c ∧ c < p.2) ∨ CovR ps c := by
  unfold CovR
  simp only [List.mem_cons, exists_eq_or_imp]
theorem runStep_ok {rs : List (Int × Int)} {p : Int × Int} (g : GoodR rs) (hp : 0 < p.2) (hh : ∀ r, rs.head? = some r → r.1 ≤ p.1) :
    GoodR (runStep rs p) ∧ (∀ c, CovR (runStep rs p) c ↔ CovR rs c ∨ (p.1 ≤ c ∧ c < p.1 + p.2)) ∧ ∀ r, (runStep rs p).head? = some r → r.1 ≤ p.1 := by
  cases rs with
  | nil =>
    refine ⟨⟨fun q hq => ?_, List.pairwise_singleton _ _⟩, fun c => ?_, fun r e => ?_⟩
    · obtain rfl : q = _ := List.mem_singleton.mp hq
      show p.1 < p.1 + p.2
      omega
    · show CovR [(p.1, p.1 + p.2)] c ↔ _
      rw [covr_cons]
      constructor
      · rintro (h | h)
        · exact .inr h
        · exact .inl h
      · rintro (h | h)
        · exact .inr h
        · exact .inl h
    · cases e
      exact Int.le_refl _
  | cons r t =>
    obtain ⟨x, y⟩ := r
    have h1 : x ≤ p.1 := hh _ rfl
    have h2 : x < y := g.1 _ (List.mem_cons_self)
    have h3 := List.pairwise_cons.mp g.2
    show GoodR (if p.1 ≤ y then _ else _) ∧ (∀ c, CovR (if p.1 ≤ y then _ else _) c ↔ _) ∧ ∀ r, (if p.1 ≤ y then _ else _ : List (Int × Int)).head? = some r → _
    by_cases hy : p.1 ≤ y
    · rw [if_pos hy]
      refine ⟨⟨fun q hq => ?_, List.pairwise_cons.mpr ⟨h3.1, h3.2⟩⟩, fun c => ?_, fun r e => ?_⟩
      · rcases List.mem_cons.mp hq with rfl | hq
        · show x < if p.1 + p.2 > y then p.1 + p.2 else y
          split <;> omega
        · exact g.1 q (List.mem_cons_of_mem _ hq)
      · rw [covr_cons, covr_cons]
        show (x ≤ c ∧ c < if p.1 + p.2 > y then p.1 + p.2 else y) ∨ _ ↔ ((x ≤ c ∧ c < y) ∨ _) ∨ _
        constructor
        · rintro (⟨a, b⟩ | h)
          · split at b
            · by_cases q : c < y
              · exact .inl (.inl ⟨a, q⟩)
              · exact .inr ⟨by omega, b⟩
            · exact .inl (.inl ⟨a, b⟩)
          · exact .inl (.inr h)
        · rintro ((⟨a, b⟩ | h) | ⟨a, b⟩)
          · refine .inl ⟨a, ?_⟩
            split <;> omega
          · exact .inr h
          · refine .inl ⟨by omega, ?_⟩
            split <;> omega
      · cases e
        exact h1
    · rw [if_neg hy]
      refine ⟨⟨fun q hq => ?_, List.pairwise_cons.mpr ⟨fun q hq => ?_, g.2⟩⟩, fun c => ?_, fun r e => ?_⟩
      · rcases List.mem_cons.mp hq with rfl | hq
        · show p.1 < p.1 + p.2
          omega
        · exact g.1 q hq
      · rcases List.mem_cons.mp hq with rfl | hq
        · show y < p.1
          omega
        · have a := h3.1 q hq
          show q.2 < p.1
          have : q.2 < x := a
          omega
      · rw [covr_cons]
        constructor
        · rintro (h | h)
          · exact .inr h
          · exact .inl h
        · rintro (h | h)
          · exact .inr h
          · exact .inl h
      · cases e
        exact Int.le_refl _
theorem runs_ok : ∀ (qs rs : List (Int × Int)), GoodR rs → (∀ q ∈ qs, 0 < q.2) → (qs.Pairwise fun p q => p.1 ≤ q.1) → (∀ q ∈ qs, ∀ r, rs.head? = some r → r.1 ≤ q.1) →
    GoodR (qs.foldl runStep rs) ∧ ∀ c, CovR (qs.foldl runStep rs) c ↔ CovR rs c ∨ Cov qs c
  | [], rs, g, _, _, _ => ⟨g, fun c => ⟨.inl, fun h => h.elim id fun z => absurd z cov_nil⟩⟩
  | q :: qs, rs, g, hp, hs, hh => by
    obtain ⟨g1, c1, h1⟩ := runStep_ok g (hp q (by simp)) (hh q (by simp))
    have hs' := List.pairwise_cons.mp hs
    obtain ⟨g2, c2⟩ := runs_ok qs (runStep rs q) g1 (fun z hz => hp z (List.mem_cons_of_mem _ hz)) hs'.2 fun z hz r e => Int.le_trans (h1 r e) (hs'.1 z hz)
    refine ⟨g2, fun c => ?_⟩
    show CovR (qs.foldl runStep (runStep rs q)) c ↔ _
    rw [c2, c1, cov_cons, or_assoc]
def runOut (rs : List (Int × Int)) : List (Int × Int) := rs.reverse.map fun p => (p.1, p.2 - p.1)
theorem runOut_ok {rs : List (Int × Int)} (g : GoodR rs) : Canon (runOut rs) ∧ ∀ c, Cov (runOut rs) c ↔ CovR rs c := by
  refine ⟨⟨fun p hp => ?_, ?_⟩, fun c => ⟨?_, ?_⟩⟩
  · obtain ⟨q, hq, rfl⟩ := List.mem_map.mp hp
    have := g.1 q (List.mem_reverse.mp hq)
    show 0 < q.2 - q.1
    omega
  · unfold runOut
    rw [List.pairwise_map, List.pairwise_reverse]
    refine g.2.imp fun {a b} h => ?_
    show b.1 + (b.2 - b.1) < a.1
    omega
  · rintro ⟨p, hp, h1, h2⟩
    obtain ⟨q, hq, rfl⟩ := List.mem_map.mp hp
    refine ⟨q, List.mem_reverse.mp hq, h1, ?_⟩
    have h2' : c < q.1 + (q.2 - q.1) := h2
    omega
  · rintro ⟨q, hq, h1, h2⟩
    refine ⟨_, List.mem_map.mpr ⟨q, List.mem_reverse.mpr hq, rfl⟩, h1, ?_⟩
    show c < q.1 + (q.2 - q.1)
    omega
theorem cov_perm {ps qs : List (Int × Int)} (h : ps.Perm qs) (c : Int) : Cov ps c ↔ Cov qs c := by
  unfold Cov
  constructor
  · rintro ⟨p, hp, z⟩
    exact ⟨p, h.mem_iff.mp hp, z⟩
  · rintro ⟨p, hp, z⟩
    exact ⟨p, h.mem_iff.mpr hp, z⟩
/-- what least tells -/
theorem least_ok {ps qs : List (Int × Int)} (hq : ∀ p ∈ ps, 0 < p.2) (hp : qs.Perm ps) (hs : qs.Pairwise fun p q => p.1 ≤ q.1) : Canon (runOut (qs.foldl runStep [])) ∧ ∀ c, Cov (runOut (qs.foldl runStep [])) c ↔ Cov ps c := by
  obtain ⟨g, c1⟩ := runs_ok qs [] ⟨fun _ h => (by cases h), List.Pairwise.nil⟩ (fun q h => hq q (hp.mem_iff.mp h)) hs fun _ _ _ e => by cases e
  obtain ⟨g2, c2⟩ := runOut_ok g
  refine ⟨g2, fun c => ?_⟩
  rw [c2, c1, cov_perm hp]
  constructor
  · rintro (⟨_, z, _⟩ | h)
    · cases z
    · exact h
  · exact .inr
/-! ### the loop that makes the runs -/
def dPair (p : Int × Int) : D := .tup [.int p.1, .int p.2]
def dPairL (p : Int × Int) : D := .lst [.int p.1, .int p.2]
def keyP (H : Hp) (x : V) : Int × Int :=
  match x with
  | .ref t => (match H t with
    | some (.tup [.int a, .int b]) => (a, b)
    | _ => (0, 0))
  | _ => (0, 0)
theorem keyP_at {H : Hp} {t : Addr} {a b : Int} (h : H t = some (.tup [.int a, .int b])) : keyP H (.ref t) = (a, b) := by
  unfold keyP
  simp only [h]
theorem pair_at {K : PySem.W.Frag} {M : AP} {H : Hp} {v : V} {p : Int × Int} (h : Is K M H v (dPair p)) : ∃ t, v = .ref t ∧ H t = some (.tup [.int p.1, .int p.2]) := by
  cases h with
  | @tup a vs _ h1 h2 =>
    have e : vs = [.int p.1, .int p.2] := IsAll.ofInts (ns := [p.1, p.2]) h2
    subst e
    exact ⟨a, rfl, h1⟩
  | tupK _ _ h => cases h
theorem pairs_at {K : PySem.W.Frag} {M : AP} {H : Hp} : ∀ {ps : List (Int × Int)} {vs : List V}, IsAll K M H vs (ps.map dPair) → (∀ x ∈ vs, ∃ t, x = .ref t ∧ H t = some (.tup [.int (keyP H x).1, .int (keyP H x).2])) ∧ vs.map (keyP H) = ps
  | [], _, h => by
    cases h
    exact ⟨fun _ h => (by cases h), rfl⟩
  | p :: ps, _, h => by
    cases h with
    | cons h1 h2 =>
      obtain ⟨t, rfl, ht⟩ := pair_at h1
      obtain ⟨a, b⟩ := pairs_at h2
      refine ⟨fun x hx => ?_, ?_⟩
      · rcases List.mem_cons.mp hx with rfl | hx
        · exact ⟨t, rfl, by rw [keyP_at ht]; exact ht⟩
        · exact a x hx
      · rw [List.map_cons, b, keyP_at ht]
def RowsAt (H : Hp) : List Addr → List (Int × Int) → Prop
  | [], [] => True
  | b :: bs, p :: ps => H b = some (.lst [.int p.1, .int p.2]) ∧ RowsAt H bs ps
  | _, _ => False
theorem RowsAt.len {H : Hp} : ∀ {bs : List Addr} {ps : List (Int × Int)}, RowsAt H bs ps → bs.length = ps.length
  | [], [], _ => rfl
  | _ :: _, _ :: _, h => congrArg (· + 1) (RowsAt.len h.2)
  | [], _ :: _, h => h.elim
  | _ :: _, [], h => h.elim
theorem RowsAt.chg {H H' : Hp} : ∀ {bs : List Addr} {ps : List (Int × Int)}, (∀ b ∈ bs, H' b = H b) → RowsAt H bs ps → RowsAt H' bs ps
  | [], [], _, _ => trivial
  | b :: bs, p :: ps, k, h => ⟨(k b (by simp)).trans h.1, RowsAt.chg (fun z hz => k z (List.mem_cons_of_mem _ hz)) h.2⟩
  | [], _ :: _, _, h => h.elim
  | _ :: _, [], _, h => h.elim
theorem RowsAt.all {K : PySem.W.Frag} {M : AP} {H : Hp} : ∀ {bs : List Addr} {ps : List (Int × Int)}, (∀ b ∈ bs, ¬ M b) → RowsAt H bs ps → IsAll K M H (bs.reverse.map V.ref) (ps.reverse.map dPairL)
  | [], [], _, _ => .nil
  | b :: bs, p :: ps, k, h => by
    rw [List.reverse_cons, List.reverse_cons, List.map_append, List.map_append]
    exact (RowsAt.all (fun z hz => k z (List.mem_cons_of_mem _ hz)) h.2).append (.cons (.lst h.1 (k b (by simp)) (.cons (.int _) (.cons (.int _) .nil))) .nil)
  | [], _ :: _, _, h => h.elim
  | _ :: _, [], _, h => h.elim
theorem runStep_len (rs : List (Int × Int)) (p : Int × Int) : (runStep rs p).length ≤ rs.length + 1 := by
  cases rs with
  | nil => exact Nat.le_refl _
  | cons r t =>
    show (if p.1 ≤ r.2 then _ else _ : List (Int × Int)).length ≤ _
    split
    · simp
    · simp
theorem runs_len : ∀ (qs rs : List (Int × Int)), (qs.foldl runStep rs).length ≤ rs.length + qs.length
  | [], rs => Nat.le_refl _
  | q :: qs, rs => by
    have a := runs_len qs (runStep rs q)
    have b := runStep_len rs q
    show (qs.foldl runStep (runStep rs q)).length ≤ rs.length + (qs.length + 1)
    omega
structure RunI (H : Hp) (σ0 : L2.St) (r s : Addr) (ys : List V) (rows : List (Int × Int)) (σ : L2.St) (H' : Hp) : Prop where
  up : ∀ a o, a ≠ r → H a = some o → H' a = some o
  sl : Same' [2, 3] σ0 σ
  hs : H' s = some (.lst ys)
  ne : s ≠ r
  rw : ∃ bs : List Addr, H' r = some (.lst (bs.reverse.map V.ref)) ∧ RowsAt H' bs rows ∧ (∀ b ∈ bs, H b = none ∧ b ≠ r ∧ b ≠ s) ∧ bs.Nodup
theorem atI_last {α : Type} {xs : List α} {v : α} : atI (xs ++ [v]) (-1) = some v := by
  unfold atI ixN
  rw [if_neg (by decide), if_pos (by rw [List.length_append, List.length_singleton]; omega)]
  show (xs ++ [v])[((-1 : Int) + ((xs ++ [v]).length : Int)).toNat]? = some v
  have e : ((-1 : Int) + ((xs ++ [v]).length : Int)).toNat = xs.length := by
    rw [List.length_append, List.length_singleton]; omega
  rw [e, List.getElem?_append_right (Nat.le_refl _), Nat.sub_self]
  rfl
theorem Stf.loose {K : PySem.W.Frag} {F : Fr} {P : List Pin} {M L : AP} {σ σ' : L2.St} {H : Hp} {es es' : Env'} (S : Stf K F P M L σ H es) (hl : σ'.length = es'.length) (h : ∀ (i : Nat) (s : SV), es'[i]? = some (some s) → es[i]? = some (some s) ∧ σ'[i]? = σ[i]?) : Stf K F P M L σ' H es' := by
  refine ⟨⟨S.st.bs, hl, fun i s e => ?_, S.st.pin, fun i j a xs ys hne e1 e2 e3 => ?_⟩, S.bs0, S.kp, S.m0, S.lo, S.ln⟩
  · obtain ⟨e', q⟩ := h i s e
    rw [q]
    exact S.st.ok i s e'
  · obtain ⟨e1', q1⟩ := h i _ e1
    obtain ⟨e2', q2⟩ := h j _ e2
    rw [q1] at e3
    rw [q2]
    exact S.st.sep i j a xs ys hne e1' e2' e3
def Val (te : TE) (σ : L2.St) (H : Hp) (v : V) : Prop := ∀ Q : VK, Q v H → te σ H Q
section
variable {K : PySem.W.Frag} {B : DEnds}
abbrev tLast (K : PySem.W.Frag) : TE := tOp (rIx K) (tVar 1) (tUn rNeg (tC (.int 1)))
abbrev tLastE (K : PySem.W.Frag) : TE := tOp (rIx K) (tLast K) (tC (.int 1))
theorem val_last {σ : L2.St} {H : Hp} {r b : Addr} {bt : List Addr} (h1 : σ[1]? = some (some (.ref r))) (hr : H r = some (.lst ((b :: bt).reverse.map V.ref))) : Val (tLast K) σ H (.ref b) := fun Q q => by
  refine ⟨.ref r, h1, 1, rfl, .inl ⟨r, _, -1, .ref b, rfl, rfl, .inl (.inl hr), ?_, q⟩⟩
  rw [List.reverse_cons, List.map_append]
  exact atI_last
theorem val_lastE {σ : L2.St} {H : Hp} {r b : Addr} {bt : List Addr} {x y : Int} (h1 : σ[1]? = some (some (.ref r))) (hr : H r = some (.lst ((b :: bt).reverse.map V.ref))) (hb : H b = some (.lst [.int x, .int y])) : Val (tLastE K) σ H (.int y) := fun Q q =>
  val_last h1 hr _ (.inl ⟨b, _, 1, .int y, rfl, rfl, .inl (.inl hb), rfl, q⟩)
abbrev tRuns (K : PySem.W.Frag) : TS := (tFor (iList K (tCB (rSortedPO K) (tCons (tVar 0) tNil))) (gTup K 2 (gCons (gName 2) (gCons (gName 3) gNil))) (tIfS (tAnd (tTruX K (tVar 1)) (tTest (tOp (rLe K) (tVar 2) (tOp (rIx K) (tOp (rIx K) (tVar 1) (tUn rNeg (tC (.int 1)))) (tC (.int 1)))))) (tAsg (tCB rMaxX (tCons (tOp (rIx K) (tOp (rIx K) (tVar 1) (tUn rNeg (tC (.int 1)))) (tC (.int 1))) (tCons (tOp (rPlus K) (tVar 2) (tVar 3)) tNil))) (gSub (tOp (rIx K) (tVar 1) (tUn rNeg (tC (.int 1)))) (tC (.int 1)) rSetL)) (tDrop (tBM K "list" rAppend (tVar 1) (tCons (tLst (tCons (tVar 2) (tCons (tOp (rPlus K) (tVar 2) (tVar 3)) tNil))) tNil)))))
/-- the body's one turn -/
theorem runs_turn {H : Hp} {σ0 σ' : L2.St} {r s : Addr} {ys : List V} {rows : List (Int × Int)} {H' : Hp} {f m : Int} {D : Ends} (hl0 : 3 < σ0.length) (h01 : σ0[1]? = some (some (.ref r))) (hrH : H r = some (.lst [])) (hz : rows.length < 1000) (p : RunI H σ0 r s ys rows σ' H')
    (hN : ∀ σ2 H2, RunI H σ0 r s ys (runStep rows (f, m)) σ2 H2 → D.nx σ2 H2) :
    (tIfS (tAnd (tTruX K (tVar 1)) (tTest (tOp (rLe K) (tVar 2) (tLastE K)))) (tAsg (tCB rMaxX (tCons (tLastE K) (tCons (tOp (rPlus K) (tVar 2) (tVar 3)) tNil))) (gSub (tLast K) (tC (.int 1)) rSetL)) (tDrop (tBM K "list" rAppend (tVar 1) (tCons (tLst (tCons (tVar 2) (tCons (tOp (rPlus K) (tVar 2) (tVar 3)) tNil))) tNil)))) D ((σ'.set 2 (some (.int f))).set 3 (some (.int m))) H' := by
  obtain ⟨bs, hr, hrow, hbs, nd⟩ := p.rw
  have hl : σ'.length = σ0.length := p.sl.1
  generalize hσ : (σ'.set 2 (some (.int f))).set 3 (some (.int m)) = σ2
  have g1 : σ2[1]? = some (some (.ref r)) := by
    rw [← hσ, List.getElem?_set_ne (by decide), List.getElem?_set_ne (by decide), p.sl.2 1 (by decide)]
    exact h01
  have g2 : σ2[2]? = some (some (.int f)) := by
    rw [← hσ, List.getElem?_set_ne (by decide), List.getElem?_set_self (by omega)]
  have g3 : σ2[3]? = some (some (.int m)) := by
    rw [← hσ, List.getElem?_set_self (by rw [List.length_set]; omega)]
  have sl2 : Same' [2, 3] σ0 σ2 := by
    rw [← hσ]
    refine ⟨by rw [List.length_set, List.length_set]; exact hl, fun k hk => ?_⟩
    have k2 : 2 ≠ k := fun e => hk (by rw [← e]; decide)
    have k3 : 3 ≠ k := fun e => hk (by rw [← e]; decide)
    rw [List.getElem?_set_ne k3, List.getElem?_set_ne k2, p.sl.2 k hk]
  have plus : ∀ (H : Hp) (Q : VK), Q (.int (f + m)) H → tOp (rPlus K) (tVar 2) (tVar 3) σ2 H Q := fun H Q q => ⟨_, g2, _, g3, .inl ⟨f, m, rfl, rfl, q⟩⟩
  -- a new run
  have new : runStep rows (f, m) = (f, f + m) :: rows → tDrop (tBM K "list" rAppend (tVar 1) (tCons (tLst (tCons (tVar 2) (tCons (tOp (rPlus K) (tVar 2) (tVar 3)) tNil))) tNil)) D σ2 H' := by
    intro er
    refine ⟨.ref r, g1, tyL hr, ⟨.int f, g2, plus H' _ ⟨(by show 2 ≤ sizeLine; decide), fun q hq => ?_⟩⟩⟩
    have qr : q ≠ r := fun e => by rw [e, hr] at hq; cases hq
    have qs : q ≠ s := fun e => by rw [e, p.hs] at hq; cases hq
    have hqH : H q = none := by
      cases e : H q with
      | none => rfl
      | some o =>
        have := p.up q o qr e
        rw [hq] at this
        cases this
    have qb : q ∉ bs := fun hb => by
      have : ∀ {bs : List Addr} {ps : List (Int × Int)}, RowsAt H' bs ps → ∀ b ∈ bs, H' b ≠ none := fun {bs} => by
        induction bs with
        | nil => intro ps _ b hb; cases hb
        | cons b0 bs ih =>
          intro ps h b hb
          cases ps with
          | nil => exact h.elim
          | cons p0 ps =>
            rcases List.mem_cons.mp hb with rfl | hb
            · rw [h.1]; exact fun e => by cases e
            · exact ih h.2 b hb
      exact this hrow q hb hq
    refine ⟨r, _, .ref q, rfl, rfl, (upd_ne (Ne.symm qr)).trans hr, ?_, ?_⟩
    · rw [List.length_map, List.length_reverse, hrow.len]
      exact Nat.lt_trans hz (by decide)
    · refine hN _ _ ⟨fun a o n e => ?_, sl2, ?_, p.ne, q :: bs, ?_, ?_, ?_, List.nodup_cons.mpr ⟨qb, nd⟩⟩
      · rw [upd_ne n, upd_ne (fun z => by rw [z, hqH] at e; cases e)]
        exact p.up a o n e
      · have sr := p.ne
        rw [upd_ne sr, upd_ne (Ne.symm qs)]
        exact p.hs
      · rw [upd_same, List.reverse_cons, List.map_append]
        rfl
      · rw [er]
        refine ⟨by rw [upd_ne qr, upd_same], hrow.chg fun b hb => ?_⟩
        rw [upd_ne (hbs b hb).2.1, upd_ne (fun z => qb (by rw [← z]; exact hb))]
      · intro b hb
        rcases List.mem_cons.mp hb with rfl | hb
        · exact ⟨hqH, qr, qs⟩
        · exact hbs b hb
  cases bs with
  | nil =>
    cases rows with
    | cons _ _ => exact hrow.elim
    | nil =>
      refine ⟨.ref r, g1, false, .inl ⟨_, .inl (.inl hr), rfl⟩, ?_⟩
      dsimp only
      rw [if_neg Bool.false_ne_true, if_neg Bool.false_ne_true]
      exact new rfl
  | cons b bt =>
    cases rows with
    | nil => exact hrow.elim
    | cons z tl =>
      obtain ⟨x, y⟩ := z
      obtain ⟨hb, hbt⟩ := hrow
      have hb : H' b = some (.lst [.int x, .int y]) := hb
      refine ⟨.ref r, g1, true, .inl ⟨_, .inl (.inl hr), by simp⟩, ?_⟩
      dsimp only
      rw [if_pos rfl]
      refine ⟨.int f, g2, val_lastE g1 hr hb _ (.inl ⟨f, y, rfl, rfl, _, rfl, ?_⟩)⟩
      by_cases hy : f ≤ y
      · rw [decide_eq_true hy]
        dsimp only
        rw [if_pos rfl]
        have er : runStep ((x, y) :: tl) (f, m) = (x, if f + m > y then f + m else y) :: tl := if_pos hy
        refine val_lastE g1 hr hb _ (plus H' _ ⟨y, f + m, rfl, ?_⟩)
        refine val_last g1 hr _ ⟨b, _, 1, 1, rfl, rfl, hb, rfl, ?_⟩
        have nb := List.nodup_cons.mp nd
        have b1 := hbs b (by simp)
        refine hN _ _ ⟨fun a o n e => ?_, sl2, ?_, p.ne, b :: bt, ?_, ?_, hbs, nd⟩
        · rw [upd_ne (fun z => by rw [z, b1.1] at e; cases e)]
          exact p.up a o n e
        · rw [upd_ne (Ne.symm b1.2.2)]
          exact p.hs
        · rw [upd_ne (Ne.symm b1.2.1)]
          exact hr
        · rw [er]
          refine ⟨upd_same, hbt.chg fun c hc => ?_⟩
          rw [upd_ne (fun z => nb.1 (by rw [← z]; exact hc))]
      · rw [decide_eq_false hy]
        dsimp only
        rw [if_neg Bool.false_ne_true]
        exact new (if_neg hy)
theorem ds_runs {ps : List (Int × Int)} (hn : ps.length < 1000)
    (h : ∀ qs : List (Int × Int), qs.Perm ps → (qs.Pairwise fun p q => p.1 ≤ q.1) → B.nx [some (.d (.lst (ps.map dPair))), some (.d (.lst ((qs.foldl runStep []).reverse.map dPairL))), none, none, none]) :
    DS K (tRuns K) [some (.d (.lst (ps.map dPair))), some (.own []), none, none, none] B := fun F P M L σ H S E o => by
  obtain ⟨v0, hv0, ok0⟩ := S.st.ok 0 _ rfl
  have ok0 : Is K M H v0 (.lst (ps.map dPair)) := ok0
  cases ok0 with
  | @lst a0 vs0 _ h0 m0 hall =>
    obtain ⟨v1, hv1, r, us, rfl, mr, nr, lr, hr, hr2⟩ := S.st.ok 1 _ rfl
    cases hr2
    have hl0 : σ.length = 5 := S.st.len
    obtain ⟨hx, hk⟩ := pairs_at hall
    refine ⟨.ref a0, hv0, a0, vs0, keyP H, rfl, .inl (.inl h0), hx, fun ys s srt stb hs => ?_⟩
    have sr : s ≠ r := fun e => by rw [e, hr] at hs; cases hs
    have perm : (ys.map (keyP H)).Perm ps := by
      have := stb.perm.map (keyP H)
      rw [hk] at this
      exact this
    have srt' : (ys.map (keyP H)).Pairwise fun p q => p.1 ≤ q.1 := by
      rw [List.pairwise_map]
      refine List.Pairwise.imp ?_ srt
      intro a b q
      have := SrtO.lexB_no.mp q
      omega
    have ylen : ys.length < 1000 := by
      have := perm.length_eq
      rw [List.length_map] at this
      omega
    refine ⟨s, rfl, ⟨ys, .inl (.inl upd_same)⟩, for_list (K := K) (a := s) (xs := ys) (fun i σ' H' => RunI H σ r s ys (((ys.map (keyP H)).take i).foldl runStep []) σ' H') ?_ (fun i σ' H' hi p => .inl (.inl p.hs)) ?_ ?_⟩
    · refine ⟨fun a o n e => ?_, ⟨rfl, fun _ _ => rfl⟩, upd_same, sr, [], ?_, trivial, fun b hb => (by cases hb), List.Pairwise.nil⟩
      · rw [upd_ne (fun z => by rw [z, hs] at e; cases e)]
        exact e
      · rw [upd_ne (Ne.symm sr)]
        exact hr
    · intro i x σ' H' hxi p
      have hm : x ∈ vs0 := stb.perm.mem_iff.mp (List.mem_of_getElem? hxi)
      obtain ⟨t, rfl, ht⟩ := hx x hm
      have tr : t ≠ r := fun e => by rw [e, hr] at ht; cases ht
      have ht' := p.up t _ tr ht
      have hi := (List.getElem?_eq_some_iff.mp hxi).1
      refine ⟨t, _, rfl, .inl (.inl ht'), rfl, _, _, rfl, _, _, rfl, rfl, ?_⟩
      refine runs_turn (rows := ((ys.map (keyP H)).take i).foldl runStep []) (by omega) hv1 hr ?_ p fun σ2 H2 q => ?_
      · have := runs_len ((ys.map (keyP H)).take i) []
        rw [List.length_take] at this
        have e0 : ([] : List (Int × Int)).length = 0 := rfl
        omega
      · show RunI H σ r s ys _ σ2 H2
        have e : (ys.map (keyP H)).take (i + 1) = (ys.map (keyP H)).take i ++ [keyP H (.ref t)] := take_get (by rw [List.getElem?_map, hxi]; rfl)
        rw [e, List.foldl_append]
        exact q
    · intro σ' H' p
      have p : RunI H σ r s ys (((ys.map (keyP H)).take ys.length).foldl runStep []) σ' H' := p
      rw [List.take_of_length_le (by rw [List.length_map]; exact Nat.le_refl _)] at p
      obtain ⟨bs, hr', hrow, hbs, nd⟩ := p.rw
      have kx : Kp L H (upd H' r (.lst [])) := by
        refine ⟨fun a o nl e => ?_, fun a la => ?_⟩
        · by_cases ar : a = r
          · rw [ar, hr] at e
            cases e
            rw [ar, upd_same]
          · rw [upd_ne ar]
            exact p.up a o ar e
        · have ar : a ≠ r := fun e => lr (by rw [← e]; exact la)
          have bg := S.st.bs.bag a la
          obtain ⟨oa, ea, _⟩ := bg.some
          refine bg.keep (by rw [upd_ne ar, ea]; exact p.up a _ ar ea) fun c q e => ?_
          rw [upd_ne (fun z => nc_lst hr q (by rw [← z]; exact e))]
          exact p.up c _ (fun z => nc_lst hr q (by rw [← z]; exact e)) e
      have S1 := S.kp' kx
      have hw : IsAll K M (upd H' r (.lst [])) (bs.reverse.map V.ref) (((ys.map (keyP H)).foldl runStep []).reverse.map dPairL) := by
        refine RowsAt.all (fun b hb mb => ?_) (hrow.chg fun b hb => upd_ne (hbs b hb).2.1)
        obtain ⟨o', ho⟩ := S.st.bs.tk b mb
        rw [(hbs b hb).1] at ho
        cases ho
      have S2 := S1.upd (i := 1) (a := r) rfl hv1 hw
      rw [upd_upd] at S2
      have eH : upd H' r (.lst (bs.reverse.map V.ref)) = H' := by
        funext c
        by_cases cr : c = r
        · rw [cr, upd_same, hr']
        · rw [upd_ne cr]
      rw [eH] at S2
      obtain ⟨M', S3⟩ := S2.freeze (i := 1) rfl
      refine o.nx _ M' L σ' H' (S3.loose (by rw [p.sl.1]; exact hl0) fun i z e => ?_) (h _ perm srt')
      match i, e with
      | 0, e => exact ⟨e, p.sl.2 0 (by decide)⟩
      | 1, e => exact ⟨e, p.sl.2 1 (by decide)⟩
      | 2, e => cases e
      | 3, e => cases e
      | 4, e => cases e
/-- for a, b in xs, the items lists -/
theorem dg_unl {es : Env'} {n : Nat} {gs : TGs} {xs : List D} {js : List Nat} {Q : Env' → Prop} (l : xs.length = n) (h : DGs K gs xs js es Q) : DG K (gUnl K n gs) (.lst xs) js es Q := fun P N M L σ H v S o R k => by
  cases o with
  | lst h1 _ h2 => exact ⟨_, _, rfl, .inl (.inl h1), h2.len.trans l, h P N M L σ H _ S h2 R k⟩
end
end DL

namespace DL
open PySem PySem.Spec PyProof.Rows L2
variable [Tbl]
section
variable {K : PySem.W.Frag} {es : Env'} {te : TE} {tt : TT} {t : TS} {B : DEnds}
/-- while: I m es, m falls -/
theorem ds_while (I : Nat → Env' → Prop) (m0 : Nat) (h0 : I m0 es) (hs : ∀ m es', I m es' → DT K tt es' fun b => if b = true then DS K t es' ⟨fun e => ∃ m', m' < m ∧ I m' e, B.rt, B.nx, fun e => ∃ m', m' < m ∧ I m' e, B.xo⟩ else B.nx es') : DS K (tWhile tt t) es B := fun F P M L σ H S E o => by
  refine ⟨fun m σ H => ∃ es' M' L', Stf K F P M' L' σ H es' ∧ I m es', ⟨m0, es, M, L, S, h0⟩, ?_⟩
  rintro m σ' H' ⟨es', M', L', S', hI⟩
  refine hs m es' hI P _ M' L' σ' H' S'.st _ fun b H1 k1 q => ?_
  cases b with
  | false =>
    rw [if_neg Bool.false_ne_true] at q ⊢
    exact o.nx _ _ _ _ _ (S'.kp' k1) q
  | true =>
    rw [if_pos rfl] at q ⊢
    refine ⟨fun σ2 H2 => ∃ m', m' < m ∧ ∃ es2 M2 L2, Stf K F P M2 L2 σ2 H2 es2 ∧ I m' es2, fun σ2 H2 h => h, ?_⟩
    refine q F P M' L' σ' H1 (S'.kp' k1) _ ⟨?_, o.rt, o.nx, ?_, o.xo⟩
    · rintro e M2 L2 σ2 H2 S2 ⟨m', lt, h⟩
      exact ⟨m', lt, e, M2, L2, S2, h⟩
    · rintro e M2 L2 σ2 H2 S2 ⟨m', lt, h⟩
      exact ⟨m', lt, e, M2, L2, S2, h⟩
/-- t, then u from one state -/
theorem ds_cut {u : TS} {e0 : Env'} (h1 : DS K t es { B with nx := fun e => e = e0 }) (h2 : DS K u e0 B) : DS K (tSeq t u) es B := fun F P M L σ H S E o =>
  h1 F P M L σ H S { E with nx := u E } ⟨fun e M L σ H S q => by subst q; exact h2 F P M L σ H S E o, o.rt, o.bk, o.ct, o.xo⟩
/-- x += e, ints -/
theorem ds_aug {i : Nat} {a : Int} (e : es[i]? = some (some (.d (.int a)))) (h : DE K te es fun s => ∃ b : Int, s = .d (.int b) ∧ B.nx (es.set i (some (.d (.int (a + b)))))) : DS K (tAug i te (ipI fun i j => i + j)) es B := fun F P M L σ H S E o => by
  obtain ⟨v, hv, ok⟩ := S.st.ok i _ e
  cases ok
  refine ⟨.int a, hv, h P _ M L σ H S.st _ fun s w H1 k1 ok1 q => ?_⟩
  obtain ⟨b, rfl, q⟩ := q
  cases ok1
  exact ⟨a, b, rfl, rfl, o.nx _ _ _ _ _ ((S.kp' k1).setp (s := .d (.int (a + b))) (Is.int _) trivial) q⟩
end
/-! ### cells of both -/
structure BI (L R A C S : List (Int × Int)) : Prop where
  can : Canon S
  cov : ∀ c, Cov S c ↔ Cov L c ∧ Cov R c ∧ (Cov A c ∨ Cov C c)
  last : ∀ p ∈ S, (∃ q ∈ A, p.1 + p.2 ≤ q.1 + q.2) ∨ ∃ q ∈ C, p.1 + p.2 ≤ q.1 + q.2
  len : S.length ≤ A.length + C.length
theorem BI.swap {L R A C S : List (Int × Int)} (h : BI L R A C S) : BI R L C A S := by
  refine ⟨h.can, fun c => (h.cov c).trans ?_, fun p hp => (h.last p hp).symm, by have := h.len; omega⟩
  constructor
  · rintro ⟨a, b, z⟩
    exact ⟨b, a, z.symm⟩
  · rintro ⟨a, b, z⟩
    exact ⟨b, a, z.symm⟩
theorem cov_app {ps qs : List (Int × Int)} {c : Int} : Cov (ps ++ qs) c ↔ Cov ps c ∨ Cov qs c := by
  unfold Cov
  constructor
  · rintro ⟨p, hp, z⟩
    exact (List.mem_append.mp hp).elim (fun h => .inl ⟨p, h, z⟩) fun h => .inr ⟨p, h, z⟩
  · rintro (⟨p, hp, z⟩ | ⟨p, hp, z⟩)
    · exact ⟨p, List.mem_append_left _ hp, z⟩
    · exact ⟨p, List.mem_append_right _ hp, z⟩
def addS (S : List (Int × Int)) (f e : Int) : List (Int × Int) := if f < e then S ++ [(f, e - f)] else S
def mx (x y : Int) : Int := if y > x then y else x
theorem BI.step {L R A A' C C' S : List (Int × Int)} {l r : Int × Int} (eL : L = A ++ l :: A') (eR : R = C ++ r :: C') (hL : Canon L) (hR : Canon R) (h : BI L R A C S) (hle : l.1 + l.2 ≤ r.1 + r.2) (f : Int) (hf : f = mx l.1 r.1) :
    BI L R (A ++ [l]) C (addS S f (l.1 + l.2)) := by
  have f1 : l.1 ≤ f := by rw [hf]; unfold mx; split <;> omega
  have f2 : r.1 ≤ f := by rw [hf]; unfold mx; split <;> omega
  have f3 : f = l.1 ∨ f = r.1 := by
    rw [hf]; unfold mx; split
    · exact .inr rfl
    · exact .inl rfl
  have pL : (∀ q ∈ A, q.1 + q.2 < l.1) ∧ ∀ q ∈ A', l.1 + l.2 < q.1 := by
    have := hL.2
    rw [eL] at this
    have q := List.pairwise_append.mp this
    exact ⟨fun z hz => q.2.2 z hz l (by simp), (List.pairwise_cons.mp q.2.1).1⟩
  have pR : (∀ q ∈ C, q.1 + q.2 < r.1) ∧ ∀ q ∈ C', r.1 + r.2 < q.1 := by
    have := hR.2
    rw [eR] at this
    have q := List.pairwise_append.mp this
    exact ⟨fun z hz => q.2.2 z hz r (by simp), (List.pairwise_cons.mp q.2.1).1⟩
  have cadd : ∀ c, Cov (addS S f (l.1 + l.2)) c ↔ Cov S c ∨ (f ≤ c ∧ c < l.1 + l.2) := by
    intro c
    unfold addS
    by_cases lt : f < l.1 + l.2
    · rw [if_pos lt, cov_app, cov_cons]
      constructor
      · rintro (z | z | z)
        · exact .inl z
        · have z : f ≤ c ∧ c < f + (l.1 + l.2 - f) := z
          exact .inr ⟨z.1, by omega⟩
        · exact absurd z cov_nil
      · rintro (z | z)
        · exact .inl z
        · exact .inr (.inl ⟨z.1, by show c < f + (l.1 + l.2 - f); omega⟩)
    · rw [if_neg lt]
      constructor
      · exact .inl
      · rintro (z | z)
        · exact z
        · omega
  refine ⟨?_, fun c => ?_, fun p hp => ?_, ?_⟩
  · unfold addS
    by_cases lt : f < l.1 + l.2
    · rw [if_pos lt]
      refine ⟨fun p hp => ?_, List.pairwise_append.mpr ⟨h.can.2, List.pairwise_singleton _ _, fun p hp q hq => ?_⟩⟩
      · rcases List.mem_append.mp hp with hp | hp
        · exact h.can.1 p hp
        · obtain rfl := List.mem_singleton.mp hp
          show 0 < l.1 + l.2 - f
          omega
      · obtain rfl := List.mem_singleton.mp hq
        show p.1 + p.2 < f
        rcases h.last p hp with ⟨q, hq, z⟩ | ⟨q, hq, z⟩
        · have := pL.1 q hq
          omega
        · have := pR.1 q hq
          omega
    · rw [if_neg lt]
      exact h.can
  · rw [cadd, h.cov, cov_app, cov_cons]
    constructor
    · rintro (⟨a, b, z⟩ | z)
      · exact ⟨a, b, z.elim (fun z => .inl (.inl z)) .inr⟩
      · refine ⟨?_, ?_, .inl (.inr (.inl ⟨by omega, z.2⟩))⟩
        · rw [eL, cov_app, cov_cons]
          exact .inr (.inl ⟨by omega, z.2⟩)
        · rw [eR, cov_app, cov_cons]
          exact .inr (.inl ⟨by omega, by omega⟩)
    · rintro ⟨a, b, (z | z | z) | z⟩
      · exact .inl ⟨a, b, .inl z⟩
      · have b' := b
        rw [eR, cov_app, cov_cons] at b'
        rcases b' with y | y | y
        · exact .inl ⟨a, b, .inr y⟩
        · refine .inr ⟨?_, z.2⟩
          rcases f3 with e | e
          · rw [e]; exact z.1
          · rw [e]; exact y.1
        · obtain ⟨q, hq, y1, _⟩ := y
          have := pR.2 q hq
          omega
      · exact absurd z cov_nil
      · exact .inl ⟨a, b, .inr z⟩
  · have old : p ∈ S → (∃ q ∈ A ++ [l], p.1 + p.2 ≤ q.1 + q.2) ∨ ∃ q ∈ C, p.1 + p.2 ≤ q.1 + q.2 := fun hp => by
      rcases h.last p hp with ⟨q, hq, z⟩ | z
      · exact .inl ⟨q, List.mem_append_left _ hq, z⟩
      · exact .inr z
    unfold addS at hp
    by_cases lt : f < l.1 + l.2
    · rw [if_pos lt] at hp
      rcases List.mem_append.mp hp with hp | hp
      · exact old hp
      · obtain rfl := List.mem_singleton.mp hp
        refine .inl ⟨l, List.mem_append_right _ (List.mem_singleton.mpr rfl), ?_⟩
        show f + (l.1 + l.2 - f) ≤ l.1 + l.2
        omega
    · rw [if_neg lt] at hp
      exact old hp
  · have := h.len
    rw [List.length_append, List.length_singleton]
    unfold addS
    split
    · rw [List.length_append, List.length_singleton]
      omega
    · omega
theorem split_at {α : Type} {xs : List α} {i : Nat} {x : α} (h : xs[i]? = some x) : xs = xs.take i ++ x :: xs.drop (i + 1) := by
  have hi := (List.getElem?_eq_some_iff.mp h).1
  have e : xs.drop i = x :: xs.drop (i + 1) := by
    rw [List.drop_eq_getElem_cons hi]
    congr 1
    exact (List.getElem?_eq_some_iff.mp h).2
  rw [← e, List.take_append_drop]
theorem BI.zero (L R : List (Int × Int)) : BI L R [] [] [] := by
  refine ⟨⟨fun p hp => (by cases hp), List.Pairwise.nil⟩, fun c => ⟨fun h => absurd h cov_nil, ?_⟩, fun p hp => (by cases hp), Nat.le_refl _⟩
  rintro ⟨_, _, h | h⟩
  · exact absurd h cov_nil
  · exact absurd h cov_nil
theorem BI.fin {L R A C S : List (Int × Int)} (h : BI L R A C S) (e : A = L ∨ C = R) (c : Int) : Cov S c ↔ Cov L c ∧ Cov R c := by
  rw [h.cov]
  constructor
  · rintro ⟨a, b, _⟩
    exact ⟨a, b⟩
  · rintro ⟨a, b⟩
    refine ⟨a, b, ?_⟩
    rcases e with rfl | rfl
    · exact .inl a
    · exact .inr b
theorem atI_at {α : Type} {xs : List α} {i : Nat} {x : α} (h : xs[i]? = some x) : atI xs (i : Int) = some x := by
  have hi := (List.getElem?_eq_some_iff.mp h).1
  unfold atI ixN
  rw [if_pos (Int.natCast_nonneg i), if_pos (by omega)]
  show xs[(i : Int).toNat]? = some x
  rw [Int.toNat_natCast]
  exact h
/-- what lies between -/
structure GI (rs T G : List (Int × Int)) (b : Int) : Prop where
  pos : ∀ p ∈ G, 0 < p.2
  len : G.length ≤ T.length
  out : ∀ c, Cov G c → ¬ Cov rs c
  all : ∀ c, 0 ≤ c → c < b → ¬ Cov rs c → Cov G c
  hi : ∀ q ∈ T, q.1 + q.2 ≤ b
theorem cov_addS {S : List (Int × Int)} {f e c : Int} : Cov (addS S f e) c ↔ Cov S c ∨ (f ≤ c ∧ c < e) := by
  unfold addS
  by_cases lt : f < e
  · rw [if_pos lt, cov_app, cov_cons]
    constructor
    · rintro (z | z | z)
      · exact .inl z
      · have z : f ≤ c ∧ c < f + (e - f) := z
        exact .inr ⟨z.1, by omega⟩
      · exact absurd z cov_nil
    · rintro (z | z)
      · exact .inl z
      · exact .inr (.inl ⟨z.1, by show c < f + (e - f); omega⟩)
  · rw [if_neg lt]
    constructor
    · exact .inl
    · rintro (z | z)
      · exact z
      · omega
theorem addS_pos {S : List (Int × Int)} {f e : Int} (h : ∀ p ∈ S, 0 < p.2) : ∀ p ∈ addS S f e, 0 < p.2 := by
  intro p hp
  unfold addS at hp
  by_cases lt : f < e
  · rw [if_pos lt] at hp
    rcases List.mem_append.mp hp with hp | hp
    · exact h p hp
    · obtain rfl := List.mem_singleton.mp hp
      show 0 < e - f
      omega
  · rw [if_neg lt] at hp
    exact h p hp
theorem addS_len {S : List (Int × Int)} {f e : Int} : (addS S f e).length ≤ S.length + 1 := by
  unfold addS
  split
  · rw [List.length_append, List.length_singleton]; omega
  · omega
theorem GI.zero (rs : List (Int × Int)) : GI rs [] [] 0 := ⟨fun p hp => (by cases hp), Nat.le_refl _, fun c h => absurd h cov_nil, fun c h0 h1 => by omega, fun p hp => (by cases hp)⟩
theorem GI.step {rs T T' G : List (Int × Int)} {b : Int} {p : Int × Int} (e : rs = T ++ p :: T') (hc : Canon rs) (h : GI rs T G b) : GI rs (T ++ [p]) (addS G b p.1) (p.1 + p.2) := by
  have pp : (∀ q ∈ T, q.1 + q.2 < p.1) ∧ ∀ q ∈ T', p.1 + p.2 < q.1 := by
    have := hc.2
    rw [e] at this
    have q := List.pairwise_append.mp this
    exact ⟨fun z hz => q.2.2 z hz p (by simp), (List.pairwise_cons.mp q.2.1).1⟩
  have p0 : 0 < p.2 := hc.1 p (by rw [e]; simp)
  refine ⟨addS_pos h.pos, ?_, fun c hcv => ?_, fun c h0 h1 hn => ?_, fun q hq => ?_⟩
  · have := addS_len (S := G) (f := b) (e := p.1)
    have := h.len
    rw [List.length_append, List.length_singleton]
    omega
  · rcases cov_addS.mp hcv with z | z
    · exact h.out c z
    · rw [e, cov_app, cov_cons]
      rintro (⟨q, hq, y1, y2⟩ | y | ⟨q, hq, y1, y2⟩)
      · have := h.hi q hq
        omega
      · omega
      · have := pp.2 q hq
        omega
  · rw [cov_addS]
    by_cases cb : c < b
    · exact .inl (h.all c h0 cb hn)
    · by_cases cp : c < p.1
      · exact .inr ⟨by omega, cp⟩
      · exact absurd (by rw [e, cov_app, cov_cons]; exact .inr (.inl ⟨by omega, h1⟩)) hn
  · rcases List.mem_append.mp hq with hq | hq
    · have := pp.1 q hq
      omega
    · obtain rfl := List.mem_singleton.mp hq
      exact Int.le_refl _
theorem GI.fin {rs G : List (Int × Int)} {b e : Int} (h : GI rs rs G b) : (∀ p ∈ addS G b e, 0 < p.2) ∧ (addS G b e).length ≤ rs.length + 1 ∧ (∀ c, Cov (addS G b e) c → ¬ Cov rs c) ∧ ∀ c, 0 ≤ c → c < e → ¬ Cov rs c → Cov (addS G b e) c := by
  refine ⟨addS_pos h.pos, ?_, fun c hcv => ?_, fun c h0 h1 hn => ?_⟩
  · have := addS_len (S := G) (f := b) (e := e)
    have := h.len
    omega
  · rcases cov_addS.mp hcv with z | z
    · exact h.out c z
    · rintro ⟨q, hq, y1, y2⟩
      have := h.hi q hq
      omega
  · rw [cov_addS]
    by_cases cb : c < b
    · exact .inl (h.all c h0 cb hn)
    · exact .inr ⟨by omega, h1⟩
/-- max(xs, default=d), xs ints -/
def rMaxD (K : PySem.W.Frag) : List V → List V → Hp → VK → Prop := fun vs zs H Q => ∃ (a : Addr) (ns : List Int) (d : Int), vs = [.ref a] ∧ zs = [.int d] ∧ SqL K H a (ns.map V.int) ∧ ∀ m : Int, (ns = [] → m = d) → (ns ≠ [] → m ∈ ns) → (∀ x ∈ ns, x ≤ m) → Q (.int m) H
theorem de_maxD {K : PySem.W.Frag} {es : Env'} {Q : SV → Prop} {i : Nat} {ns : List Int} {d : Int} (e : es[i]? = some (some (.d (.lst (ns.map D.int))))) (q : ∀ m : Int, (∀ x ∈ ns, x ≤ m) → Q (.d (.int m))) : DE K (tCKw (rMaxD K) (tCons (tVar i) tNil) (tCons (tC (.int d)) tNil)) es Q := fun P N M L σ H S R k => by
  obtain ⟨v, hv, ok⟩ := S.ok i _ e
  have ok : Is K M H v (.lst (ns.map D.int)) := ok
  cases ok with
  | @lst a vs _ h1 h2 h3 =>
    have ev := IsAll.ofInts h3
    subst ev
    exact ⟨.ref a, hv, ⟨a, ns, d, rfl, rfl, .inl (.inl h1), fun m _ _ h => k (.d (.int m)) _ H (Kp.refl S.bs) (Is.int m) (q m h)⟩⟩
end DL

namespace DL
open PySem PySem.Spec PyProof.Rows
variable [Tbl]
/-! ### max(xs, default=d), the builtin -/
def OldIs (P : Nat → Value → Prop) (bt : Nat → Nat → Bool) (j : Nat) (old : Array Value) : Prop := (j = 0 ∧ old = #[]) ∨ (0 < j ∧ ∃ vb, old = #[vb, vb] ∧ P (argBest bt (j - 1)) vb)
section
variable {prog : Program} {w : World} {A : Around} {R : Result → Shared → Prop} {I : Addr} {fp wr : List Addr} {n : Nat} {P : Nat → Value → Prop} {St : Nat → Heap → Prop}
theorem maxD_loop (W : Walks prog w A.in1 I fp wr n P St) (bt : Nat → Nat → Bool) (hcmp : CmpOf prog w A.in1 .Gt P bt) (S : Addr) (hSf : S ∉ fp) (d : Value) :
    ∀ (k j : Nat) (s : Shared) (old : Array Value) (c : Nat), n - j = k → j ≤ n → St j s.heap → OldIs P bt j old →
    s.heap.get? S = some { cls := .type "list", dict := none, data := .seq old c, slots := #[] } →
    (∀ v h' tk, ((n = 0 ∧ v = d) ∨ (0 < n ∧ P (argBest bt (n - 1)) v)) → (∀ b o, b ∉ wr → b ≠ S → s.heap.get? b = some o → h'.get? b = some o) → R (.ok (.ret v)) { s with heap := h', toks := tk }) →
    codeAny (model prog w) A (.builtin "max.loop" ⟨[.ref I, .none, .ref S], [(Str.ofString "default", d)]⟩) R s := by
  have hSw : S ∉ wr := fun h => hSf (W.sub _ h)
  have hname : (toString "max" ++ toString ".loop" : String) = "max.loop" := by decide
  intro k
  induction k with
  | zero =>
    intro j s old c hk hj hst hold hS hR
    have hin : j = n := by omega
    refine codeAny_builtin F.entry_max_loop ?_
    rw [Around.under_plainId F.plain_max_loop _]
    refine wpAny_bind (wpAny_seqItems hS rfl ?_)
    refine wpAny_bind (wpAny_tryCatch (W.done s _ _ (hin ▸ hst) fun h' tk hk' => ?_))
    have hS' := hk' S _ hSw hS
    rcases hold with ⟨j0, rfl⟩ | ⟨j0, vb, rfl, hP⟩
    · show wpAny _ A.in1 (rule _ >>= fun _ => ret d) _ _ _
      refine wpAny_bind (wpAny_rule (wpAny_pure ?_))
      exact hR d _ tk (.inl ⟨by omega, rfl⟩) fun b o hbw hbS e => hk' b o hbw e
    · refine wpAny_bind ?_
      refine wpAny_updateSeq hS' rfl (wpAny_bind (wpAny_letGo (wpAny_pure ?_)))
      exact hR vb _ tk (.inr ⟨by omega, by rw [← hin]; exact hP⟩) fun b o hbw hbS e => (Heap.get?_update_other _ _ (Ne.symm hbS)).trans (hk' b o hbw e)
  | succ k ih =>
    intro j s old c hk hj hst hold hS hR
    have hlt : j < n := by omega
    refine codeAny_builtin F.entry_max_loop ?_
    rw [Around.under_plainId F.plain_max_loop _]
    refine wpAny_bind (wpAny_seqItems hS rfl ?_)
    refine wpAny_bind (wpAny_tryCatch (W.item j s _ _ hlt hst fun v h' tk hP hst' hk' => ?_))
    have hS' := hk' S _ hSw hS
    have go : ∀ (old' : Array Value) (c' : Nat) (hp : Heap) (tk' : Nat), St (j + 1) hp → OldIs P bt (j + 1) old' → hp.get? S = some { cls := .type "list", dict := none, data := .seq old' c', slots := #[] } →
        (∀ b o, b ∉ wr → b ≠ S → s.heap.get? b = some o → hp.get? b = some o) → codeAny (model prog w) A (.builtin "max.loop" ⟨[.ref I, .none, .ref S], [(Str.ofString "default", d)]⟩) R { s with heap := hp, toks := tk' } := fun old' c' hp tk' h1 h2 h3 h4 =>
      ih (j + 1) _ old' c' (by omega) hlt h1 h2 h3 fun v' h'' tk'' hP' hk'' => hR v' h'' tk'' hP' fun b o hbw hbS e => hk'' b o hbw hbS (h4 b o hbw hbS e)
    rcases hold with ⟨j0, rfl⟩ | ⟨j0, vb, rfl, hPb⟩
    · subst j0
      show wpAny _ A.in1 (updateSeq S (fun _ => #[v, v]) >>= _) _ _ _
      refine wpAny_bind (wpAny_updateSeq hS' rfl ?_)
      rw [hname]
      refine wpAny_pure ⟨plainId_quiet F.plain_max_loop _, go _ _ _ _ (W.frame _ _ _ hst' fun b hbf o e => ?_) (.inr ⟨by omega, v, rfl, hP⟩) (Heap.get?_update_self _ hS' rfl) fun b o hbw hbS e => ?_⟩
      · exact (Heap.get?_update_other _ _ (fun h : S = b => hSf (by rw [h]; exact hbf))).trans e
      · exact (Heap.get?_update_other _ _ (Ne.symm hbS)).trans (hk' b o hbw e)
    · have ej : j = (j - 1) + 1 := by omega
      show wpAny _ A.in1 (tryCatch (holding [v, v] (richCompare .Gt v vb >>= _)) _ >>= _) _ _ _
      refine wpAny_bind (wpAny_tryCatch (wpAny_holding (wpAny_bind (hcmp j (argBest bt (j - 1)) v vb _ _ _ hP hPb ?_))))
      refine wpAny_bind (wpAny_holding (wpAny_truthy_bool ?_))
      refine wpAny_bind (wpAny_letGo (wpAny_pure ?_))
      have eb : argBest bt j = if bt j (argBest bt (j - 1)) then j else argBest bt (j - 1) := by
        rw [ej]
        rfl
      cases hb : bt j (argBest bt (j - 1)) with
      | true =>
        rw [if_pos rfl]
        refine wpAny_bind (wpAny_updateSeq hS' rfl (wpAny_bind (wpAny_letGo ?_)))
        rw [hname]
        refine wpAny_pure ⟨plainId_quiet F.plain_max_loop _, go _ _ _ _ (W.frame _ _ _ hst' fun b hbf o e => ?_) (.inr ⟨by omega, v, rfl, ?_⟩) (Heap.get?_update_self _ hS' rfl) fun b o hbw hbS e => ?_⟩
        · exact (Heap.get?_update_other _ _ (fun h : S = b => hSf (by rw [h]; exact hbf))).trans e
        · show P (argBest bt j) v
          rw [eb, hb, if_pos rfl]
          exact hP
        · exact (Heap.get?_update_other _ _ (Ne.symm hbS)).trans (hk' b o hbw e)
      | false =>
        rw [if_neg Bool.false_ne_true]
        refine wpAny_bind (wpAny_letGo ?_)
        rw [hname]
        refine wpAny_pure ⟨plainId_quiet F.plain_max_loop _, go _ _ _ _ hst' (.inr ⟨by omega, vb, rfl, ?_⟩) hS' fun b o hbw hbS e => hk' b o hbw e⟩
        show P (argBest bt j) vb
        rw [eb, hb, if_neg Bool.false_ne_true]
        exact hPb
end
theorem args_maxD (a d : Value) : argsOk "max" ⟨[a], [(Str.ofString "default", d)]⟩ := by unfold argsOk; kernel_rfl
section
variable {prog : Program} {w : World} {A : Around} {E : Value → Shared → Prop} {s : Shared}
theorem max_dflt {l : Addr} {xs : Array (Int × Tok)} {d : Value} {Q : Value → Shared → Prop} (hh : A.handled = none) (hl : s.heap.IsList l (intItems xs))
    (h : ∀ v h' tk, ((xs.size = 0 ∧ v = d) ∨ (0 < xs.size ∧ (intItems xs)[argBest (fun i j => decide (numAt xs i > numAt xs j)) (xs.size - 1)]? = some v)) → (∀ b o, s.heap.get? b = some o → h'.get? b = some o) → Q v { s with heap := h', toks := tk }) :
    wpAny (model prog w) A (call (.builtin "max") [.ref l] [(Str.ofString "default", d)]) Q E s := by
  have hname : (toString "max" ++ toString ".loop" : String) = "max.loop" := by decide
  refine wpAny_call (codeAny_call_builtin F.plain_max F.entry_max ?_)
  simp only [checkBuiltinCall, F.kind_max]
  have go : wpAny (model prog w) A.in1 (Builtin.«max» ⟨[.ref l], [(Str.ofString "default", d)]⟩) (fun fin s' => match fin with
      | .done f => (match (Except.ok f : Result) with | .ok (.ret v) => Q v s' | .ok _ => False | .error e => E e s')
      | .again c' => c'.quiet = true ∧ codeAny (model prog w) A c' (fun r s' => match r with | .ok (.ret v) => Q v s' | .ok _ => False | .error e => E e s') s') E s := by
    show wpAny _ A.in1 (Builtin.Builtins.bindParams "max" ["key", "default"] 0 ⟨[], [(Str.ofString "default", d)]⟩ >>= _) _ _ s
    refine wpAny_bind (wpAny_of_eq (show Builtin.Builtins.bindParams "max" ["key", "default"] 0 ⟨[], [(Str.ofString "default", d)]⟩ = pure [none, some d] from rfl) ?_)
    refine wpAny_bind (wpAny_pure ?_)
    refine wpAny_bind (PySem.iter_intList hl fun s₂ e st hfp hlI => ?_)
    subst e
    refine wpAny_bind (wpAny_newObj_type ?_)
    have W := Walks.list (prog := prog) (w := w) (A := A.in1) hh s.heap.objs.size l hlI (intItems xs)
    rw [hname]
    refine wpAny_pure ⟨plainId_quiet F.plain_max_loop _, maxD_loop W _ (CmpOf.ints_gt (numAt xs) (fun _ _ => intItems_at)) _ ?_ d _ 0 _ #[] _ rfl (Nat.zero_le _) ?_ (.inl ⟨rfl, rfl⟩) (Heap.get?_push_size _ rfl) fun v h' tk hv hk => ?_⟩
    · exact fun hm => Nat.lt_irrefl _ (hfp _ hm)
    · exact W.frame _ _ _ st fun b _ o e => Heap.get?_push_of_some _ e
    · refine h v h' tk ?_ fun b o e => ?_
      · rcases hv with ⟨a, b⟩ | ⟨a, b⟩
        · exact .inl ⟨by simpa [intItems] using a, b⟩
        · exact .inr ⟨by simpa [intItems] using a, by simpa [intItems] using b⟩
      · have e1 : (s.heap.push { cls := .type "list_iterator", data := .fields #[.ref l, .int 0 0] }).get? b = some o := Heap.get?_push_of_some _ e
        refine hk b o ?_ (Nat.ne_of_lt (Heap.lt_size e1)) (Heap.get?_push_of_some _ e1)
        intro hm
        obtain rfl := List.mem_singleton.mp hm
        exact Nat.lt_irrefl _ (Heap.lt_size e)
  cases hsig : Manifest.signature? "max" with
  | none => exact wpAny_pure go
  | some sig =>
    have ha := args_maxD (.ref l) d
    simp only [argsOk, hsig] at ha
    have h2 : Bind.checkArgs "max" sig ⟨[.ref l], [(Str.ofString "default", d)]⟩ = pure () := ha
    show wpAny _ A.in1 (Bind.checkArgs "max" sig ⟨[.ref l], [(Str.ofString "default", d)]⟩) _ _ s
    rw [h2]; exact wpAny_pure go
end
end DL
namespace DL
open PySem PySem.Spec PyProof.Rows L2
variable [Tbl]
theorem cr_maxD {X : Cx} (hc : X.calm = true) : CallRK X (.builtin "max") [Str.ofString "default"] (rMaxD X.K) := by
  intro pins s σ H vs zs us ws Q I r rz h
  obtain ⟨a, ns, d, rfl, rfl, hs, q⟩ := h
  obtain rfl := Vals.ref1 r
  obtain ⟨w1, rfl, e1⟩ := vals1 rz
  obtain ⟨t, rfl⟩ := e1
  obtain ⟨its, rv, hl, hz⟩ := I.list hs
  obtain ⟨xs, e⟩ := rv.ints.allInts.items
  have hn : numsOf (intItems xs).toList = ns := by rw [← e]; exact rv.ints.numsOf
  rw [nums_intItems] at hn
  have hl' := hl.isList
  rw [e] at hl'
  refine max_dflt (I.ok.hd hc) hl' fun v h' tk hv hk => ?_
  rcases hv with ⟨h0, rfl⟩ | ⟨h0, hv⟩
  · have e0 : ns = [] := by
      rw [← hn, List.map_eq_nil_iff, Array.toList_eq_nil_iff]
      exact Array.eq_empty_of_size_eq_zero h0
    exact ⟨.int d, H, I.kept hk, ⟨_, rfl⟩, q d (fun _ => rfl) (fun z => absurd e0 z) (fun x hx => by rw [e0] at hx; cases hx)⟩
  · obtain ⟨t', rfl⟩ := intItems_at hv
    obtain ⟨h1, h2⟩ := argBest_gt (numAt xs) (xs.size - 1)
    have hne : ns ≠ [] := by
      intro z
      rw [← hn, List.map_eq_nil_iff, Array.toList_eq_nil_iff] at z
      rw [z] at h0
      exact Nat.lt_irrefl _ h0
    refine ⟨.int _, H, I.kept hk, ⟨_, rfl⟩, q _ (fun z => absurd z hne) (fun _ => ?_) (fun x hx => ?_)⟩
    · rw [← hn, numAt_eq]; exact PySem.getD_mem (by rw [List.length_map, Array.length_toList]; omega)
    · rw [← hn] at hx
      obtain ⟨j, hj, rfl⟩ := mem_getD hx
      rw [List.length_map, Array.length_toList] at hj
      rw [← numAt_eq]; exact h2 j (by omega)
end DL

namespace DL
open PySem PySem.Spec PyProof.Rows L2
variable [Tbl]
/-! ### new lists in a list, each changed at last -/
abbrev tSpoil (K : PySem.W.Frag) : TS := tFor (iList K (tVar 8)) (gName 10) (tDrop (tBM K "list" rAppend (tVar 10) (tCons (tTup (tCons (tC (.int 0)) (tCons (tC (.int 1)) tNil))) tNil)))
def ItemsAt (H H' : Hp) (p : Addr) (m : Nat) (vs : List V) : Prop := ∀ v ∈ vs, ∃ (a : Addr) (us : List V), v = .ref a ∧ H a = none ∧ a ≠ p ∧ H' a = some (.lst us) ∧ us.length < m
theorem news_at {K : PySem.W.Frag} {N M L : AP} {H H1 : Hp} (bs : Bs L M H) : ∀ {xs : List (List D)} {vs : List V}, SvAll K N M L H H1 vs (xs.map SV.new) → (∀ x ∈ xs, x.length < 1000) → IsAll K M H1 vs (xs.map D.lst) ∧ ∀ v ∈ vs, ∃ (a : Addr) (us : List V), v = .ref a ∧ H a = none ∧ H1 a = some (.lst us) ∧ us.length < 1000
  | [], _, h, _ => by
    cases h
    exact ⟨.nil, fun v h => (by cases h)⟩
  | x :: xs, _, h, hx => by
    cases h with
    | cons h1 h2 =>
      obtain ⟨a, us, rfl, n, g1, g2⟩ := h1
      obtain ⟨q1, q2⟩ := news_at bs h2 fun y hy => hx y (List.mem_cons_of_mem _ hy)
      refine ⟨.cons (.lst g1 (fresh_nm bs n) (g2.sub AP.sub_add)) q1, fun v hv => ?_⟩
      rcases List.mem_cons.mp hv with rfl | hv
      · exact ⟨a, us, rfl, n, g1, by rw [g2.len]; exact hx x (by simp)⟩
      · exact q2 v hv
structure SpoilI (L : AP) (H : Hp) (σ2 : L2.St) (p : Addr) (vs : List V) (i : Nat) (σ : L2.St) (H' : Hp) : Prop where
  kp : Kp L H H'
  hp : H' p = some (.lst vs)
  it : ItemsAt H H' p (1000 + i) vs
  sl : Same' [10] σ2 σ
theorem spoil_turn {K : PySem.W.Frag} {L M : AP} {H H' : Hp} {σ2 σ' : L2.St} {p : Addr} {vs : List V} {i : Nat} {x : V} {D : Ends} (bs : Bs L M H) (hl : 10 < σ2.length) (hi : i < 2000) (hx : x ∈ vs) (h : SpoilI L H σ2 p vs i σ' H') (hN : ∀ σ3 H3, SpoilI L H σ2 p vs (i + 1) σ3 H3 → D.nx σ3 H3) :
    tDrop (tBM K "list" rAppend (tVar 10) (tCons (tTup (tCons (tC (.int 0)) (tCons (tC (.int 1)) tNil))) tNil)) D (σ'.set 10 (some x)) H' := by
  obtain ⟨a, us, rfl, ha, hap, hus, hul⟩ := h.it x hx
  have g : (σ'.set 10 (some (.ref a)))[10]? = some (some (.ref a)) := List.getElem?_set_self (by rw [h.sl.1]; exact hl)
  refine ⟨.ref a, g, tyL hus, ⟨(by show 2 ≤ sizeLine; decide), fun t ht => ?_⟩⟩
  have hta : a ≠ t := fun e => by rw [← e, hus] at ht; cases ht
  have htp : p ≠ t := fun e => by rw [← e, h.hp] at ht; cases ht
  refine ⟨a, us, .ref t, rfl, rfl, (upd_ne hta).trans hus, Nat.lt_of_lt_of_le hul (Nat.le_trans (by omega : 1000 + i ≤ 3000) (by decide)), ?_⟩
  have old : ∀ b o, H b = some o → H' b = some o → upd (upd H' t (.tup [.int 0, .int 1])) a (.lst (us ++ [.ref t])) b = some o := fun b o e e' => by
    rw [upd_ne (fun z => by rw [z, ha] at e; cases e), upd_ne (fun z => by rw [z, ht] at e'; cases e')]
    exact e'
  refine hN _ _ ⟨⟨fun b o nl e => old b o e (h.kp.k b o nl e), fun b lb => ?_⟩, ?_, fun v hv => ?_, ⟨by rw [List.length_set]; exact h.sl.1, fun k hk => ?_⟩⟩
  · have b1 := h.kp.b b lb
    have b2 := b1.upd (a := t) (o := .tup [.int 0, .int 1]) (fun z => b1.ne (by rw [z]; exact ht)) (nc_non ht)
    exact b2.upd (fun z => (bs.bag b lb).ne (by rw [z]; exact ha)) (nc_lst ((upd_ne hta).trans hus))
  · rw [upd_ne (Ne.symm hap), upd_ne htp]
    exact h.hp
  · obtain ⟨a', us', rfl, ha', hap', hus', hul'⟩ := h.it v hv
    by_cases e : a' = a
    · subst e
      rw [hus] at hus'
      cases hus'
      exact ⟨a', _, rfl, ha', hap', upd_same, by rw [List.length_append, List.length_singleton]; omega⟩
    · refine ⟨a', us', rfl, ha', hap', ?_, by omega⟩
      rw [upd_ne e, upd_ne (fun z => by rw [z, ht] at hus'; cases hus')]
      exact hus'
  · rw [List.getElem?_set_ne (fun e => hk (by rw [← e]; simp))]
    exact h.sl.2 k hk
theorem ds_block {K : PySem.W.Frag} {es : Env'} {B : DEnds} {ta : TA} {tw tr : TE} {tt : TT} (hl : es.length = 13)
    (h : DA K ta es fun ss => ∃ xs : List (List D), ss = xs.map SV.new ∧ (∀ x ∈ xs, x.length < 1000) ∧ xs.length ≤ 1000 ∧
      DE K tw (es.set 8 (some (.d (.lst (xs.map D.lst))))) fun s => ∃ ws, s = .new ws ∧ DT K tt ((es.set 8 (some (.d (.lst (xs.map D.lst))))).set 9 (some (.d (.lst ws)))) fun b => b = false)
    (hn : B.nx (((es.set 8 none).set 9 none).set 10 none)) : DS K (tSeq (tAsg (tLst ta) (gName 8)) (tSeq (tAsg tw (gName 9)) (tSeq (tIfS tt (tRet tr) tNext) (tSpoil K)))) es B := fun F P M L σ H S E o => by
  have hσ : σ.length = 13 := S.st.len.trans hl
  refine h P _ M L σ H S.st _ fun ss vs H1 k1 oss q1 => ?_
  obtain ⟨xs, rfl, hx, hxl, q1⟩ := q1
  obtain ⟨hall, hit⟩ := news_at S.st.bs oss hx
  have hvl : vs.length = xs.length := by rw [hall.len, List.length_map]
  refine ⟨by rw [hvl]; exact Nat.le_trans hxl (by decide), fun p hp => ?_⟩
  have S1 := S.kp' k1
  have kn := Kp.new (o := .lst vs) S1.st.bs hp
  have nmp : ¬ M p := fresh_nm S1.st.bs hp
  have nlp : ¬ L p := fun l => nmp (S1.st.bs.lm p l)
  have S2 := (S1.kp' kn).setp (i := 8) (s := .d (.lst (xs.map D.lst))) (v := .ref p) (Is.lst upd_same nmp (IsAll.kp kn S1.st.bs hall)) trivial
  refine q1 P _ M L _ _ S2.st _ fun s v H2 k2 ok2 q2 => ?_
  obtain ⟨ws, rfl, q2⟩ := q2
  obtain ⟨b, us, rfl, nb, g1, g2⟩ := ok2
  have S3 := (S2.kp' k2).setp (i := 9) (s := .d (.lst ws)) (v := .ref b) (Is.lst g1 (fresh_nm S2.st.bs nb) (g2.sub AP.sub_add)) trivial
  refine q2 P _ M L _ _ S3.st _ fun bb H3 k3 hb => ?_
  subst hb
  rw [if_neg Bool.false_ne_true]
  have k13 := (kn.trans k2).trans k3
  have hp3 : H3 p = some (.lst vs) := k3.k _ _ nlp (k2.k _ _ nlp upd_same)
  generalize hσ2 : (σ.set 8 (some (V.ref p))).set 9 (some (V.ref b)) = σ2
  have l2 : σ2.length = 13 := by rw [← hσ2, List.length_set, List.length_set]; exact hσ
  have g8 : σ2[8]? = some (some (.ref p)) := by
    rw [← hσ2, List.getElem?_set_ne (by decide), List.getElem?_set_self (by omega)]
  refine ⟨.ref p, g8, p, rfl, ⟨vs, .inl (.inl hp3)⟩, for_list (K := K) (a := p) (xs := vs) (fun i σ' H' => SpoilI L H σ2 p vs i σ' H') ?_ (fun i σ' H' hi z => .inl (.inl z.hp)) ?_ ?_⟩
  · refine ⟨k1.trans k13, hp3, fun v hv => ?_, ⟨rfl, fun _ _ => rfl⟩⟩
    obtain ⟨a, us, rfl, na, ga, gl⟩ := hit v hv
    have nla : ¬ L a := fun l => fresh_nm S.st.bs na (S.st.bs.lm a l)
    exact ⟨a, us, rfl, na, fun e => (by rw [e, hp] at ga; cases ga), k13.k _ _ nla ga, gl⟩
  · intro i x σ' H' hxi z
    have hi := (List.getElem?_eq_some_iff.mp hxi).1
    exact spoil_turn S.st.bs (by omega) (by omega) (List.mem_of_getElem? hxi) z fun σ3 H3 q => q
  · intro σ' H' z
    refine o.nx _ M L σ' H' ((S.kp' z.kp).loose (by rw [z.sl.1, List.length_set, List.length_set, List.length_set, l2, hl]) fun i s e => ?_) hn
    rcases set_some e with ⟨_, e'⟩ | ⟨n10, e⟩
    · cases e'
    rcases set_some e with ⟨_, e'⟩ | ⟨n9, e⟩
    · cases e'
    rcases set_some e with ⟨_, e'⟩ | ⟨n8, e⟩
    · cases e'
    refine ⟨e, ?_⟩
    rw [z.sl.2 i (by simp; exact Ne.symm n10), ← hσ2, List.getElem?_set_ne n9, List.getElem?_set_ne n8]
end DL

namespace DL
open PySem PySem.Spec PyProof.Rows L2
variable [Tbl]
/-! ### what is shown is fit to be compared -/
theorem okS_of (s : String) : okS (Str.ofString s) := okS_iff.mpr fun c hc => by
  rw [PySem.Str.ofString_eq_toList] at hc
  simp at hc
  obtain ⟨ch, _, rfl⟩ := hc
  have h := ch.valid
  show ch.val.toNat < 0x110000
  rcases h with h | ⟨_, h⟩
  · have : ch.val.toNat < 0xd800 := h
    omega
  · exact h
theorem okS_joins (sep : Str) (hs : okS sep) : ∀ ys : List Str, (∀ y ∈ ys, okS y) → okS (Str.join sep ys)
  | [], _ => okS_empty
  | [x], h => h x (by simp)
  | x :: y :: r, h => by
    show okS (x ++ sep ++ Str.join sep (y :: r))
    exact okS_app (okS_app (h x (by simp)) hs) (okS_joins sep hs (y :: r) fun z hz => h z (List.mem_cons_of_mem _ hz))
theorem okS_textFrom : ∀ (ts : List Str) (k : Nat) (acc : Str), okS acc → (∀ t ∈ ts, okS t) → okS (textFrom k acc ts)
  | [], _, _, h, _ => h
  | t :: r, k, acc, h, hs => by
    show okS (textFrom (k + 1) (acc ++ (if k > 0 then ", " else "" : String) ++ t) r)
    exact okS_textFrom r (k + 1) _ (okS_app (okS_app h (okS_of _)) (hs t (by simp))) fun z hz => hs z (List.mem_cons_of_mem _ hz)
theorem okS_listText {ts : List Str} (h : ∀ t ∈ ts, okS t) : okS (listText ts) := okS_app (okS_textFrom ts 0 _ (okS_of _) h) (okS_of _)
theorem okS_tupleText {ts : List Str} (h : ∀ t ∈ ts, okS t) : okS (tupleText ts) := okS_app (okS_app (okS_of _) (okS_joins _ (okS_of _) ts h)) (okS_of _)
mutual
def D.nums : D → Bool
  | .int _ => true
  | .bl _ => true
  | .non => true
  | .lst xs => D.numsAll xs
  | .tup xs => D.numsAll xs
  | _ => false
def D.numsAll : List D → Bool
  | [] => true
  | d :: ds => D.nums d && D.numsAll ds
end
mutual
theorem okS_shown : ∀ d : D, d.nums = true → okS d.py.shown
  | .non, _ => okS_of "None"
  | .bl true, _ => okS_of "True"
  | .bl false, _ => okS_of "False"
  | .int i, _ => okS_of (toString i)
  | .str _, h => by cases h
  | .lst xs, h => okS_listText (okS_shownAll xs h)
  | .tup xs, h => okS_tupleText (okS_shownAll xs h)
  | .obj _ _, h => by cases h
theorem okS_shownAll : ∀ ds : List D, D.numsAll ds = true → ∀ t ∈ PyData.shownAll (D.pyAll ds), okS t
  | [], _, t, ht => by cases ht
  | d :: ds, h, t, ht => by
    have h' := Bool.and_eq_true_iff.mp (show (D.nums d && D.numsAll ds) = true from h)
    have ht' : t ∈ PyData.shown d.py :: PyData.shownAll (D.pyAll ds) := ht
    rcases List.mem_cons.mp ht' with rfl | ht'
    · exact okS_shown d h'.1
    · exact okS_shownAll ds h'.2 t ht'
end
theorem fit_shown {n k : Nat} {d : D} (h : Fit n k d) (hd : d.nums = true) : Fit (10 * n + 8) 0 (.str d.shown) := Fit.s (okS_shown d hd) (Nat.le_trans (shown_wt d h.f) h.w)
theorem nums_pairs : ∀ ps : List (Int × Int), D.numsAll (ps.map dPair) = true
  | [] => rfl
  | p :: ps => by
    show (D.nums (dPair p) && D.numsAll (ps.map dPair)) = true
    rw [nums_pairs ps]
    rfl
/-! ### a number among numbers -/
theorem fit_small {k : Int} (h : 0 ≤ k ∧ k < 1000) : Fit 20 0 (.int k) := (Fit.int (m := 10) (by omega) (by decide) (by decide)).mono (by decide) (by decide)
theorem any_ints {k : Int} : ∀ ks : List Int, ((D.pyAll (ks.map D.int)).any fun z => PyData.eqv z (D.int k).py) = decide (k ∈ ks)
  | [] => rfl
  | j :: ks => by
    show (PyData.eqv (.int j) (.int k) || (D.pyAll (ks.map D.int)).any fun z => PyData.eqv z (D.int k).py) = decide (k ∈ j :: ks)
    rw [any_ints ks]
    have e : PyData.eqv (.int j) (.int k) = (j == k) := rfl
    rw [e]
    by_cases h : j = k
    · subst h
      simp
    · have h' : ¬ k = j := fun z => h z.symm
      simp [h, h']
section
variable {K : PySem.W.Frag} {Q : SV → Prop}
theorem in_ints {k : Int} {ks : List Int} (hk : 0 ≤ k ∧ k < 1000) (hs : ∀ j ∈ ks, 0 ≤ j ∧ j < 1000) (hl : ks.length ≤ 1000) (q : Q (.d (.bl (decide (k ∈ ks))))) : RR K (rInX K) (.d (.int k)) (.d (.lst (ks.map D.int))) Q := fun N M L H0 H v1 v2 b kk o1 o2 R r => by
  have f1 := fit_small hk
  have f2 : Fit (8 + 1000 * 22) 1 (.lst (ks.map D.int)) := Fit.lst (FitA.of (n := 20) (k := 0) (fun d hd => by
    obtain ⟨j, hj, rfl⟩ := List.mem_map.mp hd
    exact fit_small (hs j hj)) (by rw [List.length_map]; exact hl))
  refine .inr ⟨(D.int k).py, D.pyAll (ks.map D.int), Is.dp _ _ o1 rfl, Is.dp _ _ o2 (fit_plain f2), f1.shaped (by decide), f2.shaped (by decide), ?_⟩
  rw [any_ints]
  exact r (.d (.bl _)) _ H (Kp.refl (kk.bs b)) (Is.bl _) q
theorem notin_ints {k : Int} {ks : List Int} (hk : 0 ≤ k ∧ k < 1000) (hs : ∀ j ∈ ks, 0 ≤ j ∧ j < 1000) (hl : ks.length ≤ 1000) (q : Q (.d (.bl (!decide (k ∈ ks))))) : RR K (rNotInX K) (.d (.int k)) (.d (.lst (ks.map D.int))) Q := fun N M L H0 H v1 v2 b kk o1 o2 R r => by
  have f1 := fit_small hk
  have f2 : Fit (8 + 1000 * 22) 1 (.lst (ks.map D.int)) := Fit.lst (FitA.of (n := 20) (k := 0) (fun d hd => by
    obtain ⟨j, hj, rfl⟩ := List.mem_map.mp hd
    exact fit_small (hs j hj)) (by rw [List.length_map]; exact hl))
  refine .inr ⟨(D.int k).py, D.pyAll (ks.map D.int), Is.dp _ _ o1 rfl, Is.dp _ _ o2 (fit_plain f2), f1.shaped (by decide), f2.shaped (by decide), ?_⟩
  rw [any_ints]
  exact r (.d (.bl _)) _ H (Kp.refl (kk.bs b)) (Is.bl _) q
end
end DL

namespace DL
open PySem PySem.Spec PyProof.Rows L2
variable [Tbl]
/-! ### objects: == and repr by their own defs -/
section
variable {X : Cx} {k : Nat} {f C : Addr} {fd : FuncData} {ps : List Str} {sp : Sp}
/-- repr(x), x an instance of C, whose __repr__ is at f -/
def rReprOwn (C : Addr) (sp : Sp) : List V → Hp → VK → Prop := fun vs H Q => ∃ (a dx : Addr) (fs : List (Str × V)), vs = [.ref a] ∧ H a = some (.ins C dx fs) ∧ sp [.ref a] H (fun v H' => ∃ z, v = .str z ∧ Q (.str z) H') E0
theorem call_reprOwn (F : FnG X.prog X.w X.K X.mg X.base k f fd ps sp) (hr : Room (k + 1) X.A) (gu : X.A.guards = some []) (hs : PySem.W.findIn X.K (.ref C) "__repr__" = some (some (.ref f))) (hf : PySem.W.isFn X.K (.ref f) = true) (hb : Binds X.K fd ps []) : CallR X (.builtin "repr") (rReprOwn C sp) := by
  intro pins s σ H vs us Q I r h
  obtain ⟨a, dx, fs, rfl, ha, hsp⟩ := h
  obtain rfl := Vals.ref1 r
  obtain ⟨mA, J, _⟩ := ins_get I.hok ha
  obtain ⟨od, J, _⟩ := J.look
  obtain ⟨m, hF⟩ := I.fr
  refine PySem.W.repr_K hr.in1.units0 hF I.ok.mod.kin J hs hf ?_
  have hl := F.len _ _ _ _ hsp
  refine wpAny_call (codeAny_mono (F.run X.A.in1 X.stack s H ⟨[.ref a], []⟩ [.ref a] [.ref a] _ gu hr.in1 I.env0.in1 (by
    have := hb s [.ref a] I.kIn (by simpa using hl)
    simpa using this) (.cons rfl .nil) hsp) fun res s' hq => ?_)
  cases res with
  | error e => exact hq.elim
  | ok fl =>
    cases fl with
    | ret w =>
      obtain ⟨z, H', I', rz, x, ez, q⟩ := I.after hq
      subst ez
      obtain ⟨t, rfl⟩ := rz
      exact ⟨.str x, H', I', ⟨t, rfl⟩, q⟩
    | next => exact False.elim hq
    | brk => exact False.elim hq
    | cont => exact False.elim hq
/-- what the other side of == is -/
inductive YTy (K : PySem.W.Frag) (H : Hp) (C : Addr) : V → Value → Prop
  | ins {b dy : Addr} {gs : List (Str × V)} : H b = some (.ins C dy gs) → YTy K H C (.ref b) (.ref C)
  | tup {b : Addr} {xs : List V} : H b = some (.tup xs) → YTy K H C (.ref b) (.type "tuple")
  | lst {b : Addr} {xs : List V} : H b = some (.lst xs) → YTy K H C (.ref b) (.type "list")
  | str (x : Str) : YTy K H C (.str x) (.type "str")
  | int (x : Int) : YTy K H C (.int x) (.type "int")
  | bl (x : Bool) : YTy K H C (.bl x) (.type "bool")
  | non : YTy K H C .non (.type "NoneType")
  | ktup {b : Addr} {o : Obj} : K.lookup b = some o → o.cls = .type "tuple" → YTy K H C (.ref b) (.type "tuple")
theorem inv_k {X : Cx} {pins : List (Addr × Obj)} {σ : L2.St} {H : Hp} {s : Shared} (I : Inv X pins σ H s) {a : Addr} {o : Obj} (h : X.K.lookup a = some o) : ∃ o', s.heap.get? a = some o' ∧ o'.cls = o.cls ∧ o'.dict = o.dict ∧ o'.data = o.data := by
  have hb := I.ok.mod.kin a o h
  have h0 := I.ok.bs a o hb
  have hx := I.ok.noex a o hb
  by_cases hf : a ∈ X.fs
  · obtain ⟨sl, h1⟩ := I.base.slot a o h0.1 h0.2 hf hx
    exact ⟨_, h1, rfl, rfl, rfl⟩
  · exact ⟨o, I.base.keep a o h0.1 h0.2 hf hx, rfl, rfl, rfl⟩
theorem YTy.looks {pins : List (Addr × Obj)} {σ : L2.St} {H : Hp} {s : Shared} {y : V} {u t : Value} {M : Model} (I : Inv X pins σ H s) (h : YTy X.K H C y t) (r : RelV y u) : PySem.W.Looks M s.heap (typeOf u) t := by
  cases h with
  | ins e =>
    cases r
    obtain ⟨mA, J, _⟩ := ins_get I.hok e
    obtain ⟨od, J, _⟩ := J.look
    exact J.type
  | tup e =>
    cases r
    obtain ⟨_, its, rv, o, ho, hc, _⟩ := (show ObjOk X.prog X.w H s.heap _ (.tup _) from I.hok _ _ e)
    exact hc ▸ (PySem.W.Looks.ld ho).andThen .now
  | lst e =>
    cases r
    obtain ⟨hz, its, n, rv, ho⟩ := (show ObjOk X.prog X.w H s.heap _ (.lst _) from I.hok _ _ e)
    exact (PySem.W.Looks.ld ho).andThen .now
  | ktup e hc =>
    cases r
    obtain ⟨o', ho, c', _⟩ := inv_k I e
    exact (c'.trans hc) ▸ (PySem.W.Looks.ld ho).andThen .now
  | str x =>
    obtain ⟨t, rfl⟩ := r
    exact .now
  | int x =>
    obtain ⟨t, rfl⟩ := r
    exact .now
  | bl x =>
    cases r
    exact .now
  | non =>
    cases r
    exact .now
/-- x == y, x an instance of C, whose __eq__ is at f -/
def rEqOwn (K : PySem.W.Frag) (C : Addr) (sp : Sp) : R2 := fun x y H Q => ∃ (a dx : Addr) (fs : List (Str × V)) (t : Value), x = .ref a ∧ H a = some (.ins C dx fs) ∧ YTy K H C y t ∧ PySem.W.notFirst K C t = true ∧ sp [.ref a, y] H (fun v H' => ∃ b, v = .bl b ∧ Q (.bl b) H') E0
theorem op_eqOwn (F : FnG X.prog X.w X.K X.mg X.base k f fd ps sp) (hr : Room k X.A) (gu : X.A.guards = some []) (hs : PySem.W.findIn X.K (.ref C) "__eq__" = some (some (.ref f))) (hf : PySem.W.isFn X.K (.ref f) = true) (hb : Binds X.K fd ps []) : OpR X (compareOp .Eq) (rEqOwn X.K C sp) := by
  intro pins s σ H x y v u Q I rx ry h
  obtain ⟨a, dx, fs, t, rfl, ha, hy, hn, hsp⟩ := h
  cases rx
  obtain ⟨mA, J, _⟩ := ins_get I.hok ha
  obtain ⟨od, J, _⟩ := J.look
  obtain ⟨m, hF⟩ := I.fr
  show wpAny (model X.prog X.w) X.A (richCompare .Eq (.ref a) u) (EP X pins σ Q) X.xe s
  refine PySem.W.cmp_K (op := .Eq) (tb := t) hr.units0 hF I.ok.mod.kin J (hy.looks I ry) hn hs hf ?_
  have hl := F.len _ _ _ _ hsp
  refine wpAny_call (codeAny_mono (F.run X.A X.stack s H ⟨[.ref a, u], []⟩ [.ref a, u] [.ref a, y] _ gu hr I.env0 (by
    have := hb s [.ref a, u] I.kIn (by simpa using hl)
    simpa using this) (.cons rfl (.cons ry .nil)) hsp) fun res s' hq => ?_)
  cases res with
  | error e => exact hq.elim
  | ok fl =>
    cases fl with
    | ret w =>
      obtain ⟨z, H', I', rz, b, ez, q⟩ := I.after hq
      subst ez
      cases rz
      exact ⟨.bl b, H', I', rfl, q⟩
    | next => exact False.elim hq
    | brk => exact False.elim hq
    | cont => exact False.elim hq
end
end DL

namespace DL
open PySem PySem.Spec PyProof.Rows L2
variable [Tbl]
/-! ### objects that stay as they were made -/
section
variable {K : PySem.W.Frag} {F : Fr} {P : List Pin} {N L M : AP} {H0 H1 H H' : Hp} {σ : L2.St} {es : Env'} {ta te : TE} {tt : TT} {t u t1 : TS} {tr tk : TA} {Q : SV → Prop} {C : Addr} {f m : Str}
/-- o.f -/
theorem de_fld (h : DE K ta es fun s => ∃ C ds d, s = .d (.obj C ds) ∧ Cls K C ∧ NoAttr K C f ∧ ds.lookup f = some d ∧ Q (.d d)) : DE K (tFld K ta f) es Q := fun P N M L σ H S R k => by
  refine h P N M L σ H S _ fun s v H1 k1 ok q => ?_
  obtain ⟨C, ds, d, rfl, cl, na, hl, q⟩ := q
  have ok : Is K M H1 v (.obj C ds) := ok
  cases ok with
  | obj h1 h2 h3 =>
    obtain ⟨w, hw, iw⟩ := h3.look hl
    exact ⟨_, _, _, _, w, rfl, h1, cl, na, hw, k (.d d) w H1 k1 iw q⟩
/-- o.m(..), a method of its class -/
theorem de_meth {n : Nat} {pre : List SV → Prop} {post : List SV → SV → Prop} {E : XK} (h : DE K ta es fun s => ∃ ds, s = .d (.obj C ds) ∧ ds.lookup m = none ∧ DA K tr es fun ss => nownAll ss ∧ ss.length + 1 = n ∧ pre (s :: ss.map SV.arg) ∧ ∀ r, post (s :: ss.map SV.arg) r → Q r) : DE K (tMeth C m (spD K n pre post) [] E ta tr) es Q := fun P N M L σ H S R k => by
  refine h P N M L σ H S _ fun s v H1 k1 ok q => ?_
  obtain ⟨ds, rfl, hl, q⟩ := q
  have ok' : Is K M H1 v (.obj C ds) := ok
  have hv := ok'
  cases ok' with
  | obj h1 h2 h3 =>
    refine ⟨_, _, _, rfl, h1, h3.lookN hl, q P N M L σ H1 (S.kp k1) _ fun ss vs H2 k2 o2 q2 => ?_⟩
    obtain ⟨hn, hlen, hp, q2⟩ := q2
    rw [List.append_nil]
    have bs1 := k1.bs S.bs
    refine ⟨M, L, .d (.obj C ds) :: ss.map SV.arg, k2.bs bs1, .cons (Is.kp k2 bs1 hv) (o2.args bs1 k2 hn), by rw [List.length_cons, List.length_map]; exact hlen, hp, fun r w H3 k3 o3 q3 => ?_⟩
    exact k r w H3 ((k1.trans k2).trans k3) ((SvOk.noN o3).back (k1.trans k2)) (q2 r q3)
/-- what __init__ promises: the fields of the new object -/
def spI (K : PySem.W.Frag) (C : Addr) (n : Nat) (pre : List SV → Prop) (post : List SV → List (Str × D) → Prop) : Sp := fun vs H Q _ => ∃ (H1 : Hp) (M L : AP) (x dx : Addr) (ws : List V) (ss : List SV), vs = .ref x :: ws ∧ Bs L M H1 ∧ H1 x = none ∧ H1 dx = none ∧ dx ≠ x ∧ H = L2.upd (L2.upd H1 dx (.own x)) x (.ins C dx []) ∧
  SvAll K NO M L H1 H1 ws ss ∧ ss.length = n ∧ pre ss ∧ ∀ (ds : List (Str × D)) (fs : List (Str × V)) (H' : Hp), Kp L H1 H' → H' x = some (.ins C dx fs) → IsFs K M H' fs ds → post ss ds → Q .non H'
theorem spI.len {n : Nat} {pre : List SV → Prop} {post : List SV → List (Str × D) → Prop} {vs : List V} {Q : VK} {E : XK} (h : spI K C n pre post vs H Q E) : vs.length = n + 1 := by
  obtain ⟨_, _, _, _, _, ws, ss, rfl, _, _, _, _, _, h2, h3, _⟩ := h
  rw [List.length_cons, h2.len, h3]
/-- C(.., k = v, ..) -/
theorem de_make {n l N' : Nat} {pre : List SV → Prop} {post : List SV → List (Str × D) → Prop} {gV : List V → List V → List V} {gS : List SV → List SV → List SV} {E : XK}
    (hg : ∀ {N M L : AP} {H0 H : Hp} {x : Addr} {vs zs : List V} {ss us : List SV}, SvAll K N M L H0 H vs ss → SvAll K N M L H0 H zs us → ss.length = n → us.length = l → ∃ ws, gV (.ref x :: vs) zs = .ref x :: ws ∧ SvAll K N M L H0 H ws (gS ss us))
    (h : DA K tr es fun ss => DA K tk es fun us => nownAll ss ∧ nownAll us ∧ ss.length = n ∧ us.length = l ∧ (gS (ss.map SV.arg) (us.map SV.arg)).length = N' ∧ pre (gS (ss.map SV.arg) (us.map SV.arg)) ∧ ∀ ds, post (gS (ss.map SV.arg) (us.map SV.arg)) ds → Q (.d (.obj C ds))) :
    DE K (tMakeK C n l (spI K C N' pre post) gV E tr tk) es Q := fun P N M L σ H S R k => by
  refine h P N M L σ H S _ fun ss vs H1 k1 o1 q1 => ?_
  refine q1 P N M L σ H1 (S.kp k1) _ fun us zs H2 k2 o2 q2 => ?_
  obtain ⟨n1, n2, l1, l2, l3, hp, q⟩ := q2
  have k12 := k1.trans k2
  have bs2 := k12.bs S.bs
  refine ⟨by rw [o1.len]; exact l1, by rw [o2.len]; exact l2, fun x dx nx ndx ne => ?_⟩
  have a1 := (o1.kp S.bs k1 k2).args S.bs k12 n1
  have a2 := o2.args (k1.bs S.bs) k2 n2
  obtain ⟨ws, hw, hws⟩ := hg (x := x) a1 a2 (by rw [List.length_map]; exact l1) (by rw [List.length_map]; exact l2)
  refine ⟨H2, M, L, x, dx, ws, _, hw, bs2, nx, ndx, ne, rfl, hws, l3, hp, fun ds fs H' k3 hx hfs hpost => ⟨rfl, ?_⟩⟩
  exact k (.d (.obj C ds)) (.ref x) H' (k12.trans k3) (Is.obj hx (fresh_nm bs2 nx) hfs) (q ds hpost)
/-! ### __init__ -/
theorem IsFs.append' : ∀ {ds : List (Str × D)} {fs : List (Str × V)} {x : Str} {v : V} {d : D}, IsFs K M H fs ds → Is K M H v d → IsFs K M H (fs ++ [(x, v)]) (ds ++ [(x, d)])
  | _, _, _, _, _, .nil, h => .cons h .nil
  | _, _, _, _, _, .cons a b, h => .cons a (IsFs.append' b h)
theorem IsFs.len : ∀ {ds : List (Str × D)} {fs : List (Str × V)}, IsFs K M H fs ds → fs.length = ds.length
  | _, _, .nil => rfl
  | _, _, .cons _ b => congrArg (· + 1) (IsFs.len b)
theorem putF_new {f : Str} {v : V} : ∀ {fs : List (Str × V)}, fs.lookup f = none → putF f v fs = fs ++ [(f, v)]
  | [], _ => rfl
  | (g, x) :: r, h => by
    rw [List.lookup_cons] at h
    have hne : ¬ g = f := fun e => by
      rw [e] at h
      simp at h
    have h' : r.lookup f = none := by
      have hb : (f == g) = false := by
        rw [beq_eq_false_iff_ne]
        exact fun e => hne e.symm
      rw [hb] at h
      exact h
    show (if g = f then (g, v) :: r else (g, x) :: putF f v r) = _
    rw [if_neg hne, putF_new h']
    rfl
/-- a claimed object that no name holds is changed -/
theorem Sts.updX {a : Addr} {C dx : Addr} {fs gs : List (Str × V)} (S : Sts K P N M L σ H es) (m : M a) (l : ¬ L a) (h1 : H a = some (.ins C dx fs)) :
    Sts K P N M L σ (L2.upd H a (.ins C dx gs)) es ∧ ∀ {v : V} {d : D}, Is K M H v d → Is K M (L2.upd H a (.ins C dx gs)) v d := by
  have bs := S.bs
  have kn : ∀ b o, ¬ M b → H b = some o → L2.upd H a (.ins C dx gs) b = some o := fun b o q z => by rw [upd_ne (fun y => q (by rw [y]; exact m))]; exact z
  have kt := sqt_keep (K := K) (M := M) kn bs.tr
  have ki : ∀ {w : V} {x : D}, Is K M H w x → Is K M (L2.upd H a (.ins C dx gs)) w x := fun {w x} q => Is.chg (fun b o z q => ⟨kn b o q z, q⟩) kt _ _ q
  have kia : ∀ {w : List V} {x : List D}, IsAll K M H w x → IsAll K M (L2.upd H a (.ins C dx gs)) w x := fun {w x} q => IsAll.chg (fun b o z q => ⟨kn b o q z, q⟩) kt _ _ q
  have frz : ∀ b o u, H b = some (.frz o u) → L2.upd H a (.ins C dx gs) b = some (.frz o u) := fun b o u z => by rw [upd_ne (fun y => by rw [y, h1] at z; cases z)]; exact z
  refine ⟨⟨⟨bs.lm, fun b o q z => ?_, fun b q => ?_, fun b q => ?_, bs.tb⟩, S.len, fun j z ez => ?_, fun p hp => PinOk.chg (fun b o z q => ⟨kn b o q z, q⟩) kt (S.pin p hp), S.sep⟩, ki⟩
  · by_cases y : b = a
    · rw [y, upd_same] at z; cases z; exact True.intro
    · rw [upd_ne y] at z; exact bs.tr b o q z
  · by_cases y : b = a
    · rw [y]; exact ⟨_, upd_same⟩
    · rw [upd_ne y]; exact bs.tk b q
  · exact (bs.bag b q).upd (fun y => l (by rw [← y]; exact q)) (fun q e => by rw [h1] at e; unfold LamX.CodeO at e; cases e)
  · obtain ⟨w, g1, g2⟩ := S.ok j z ez
    refine ⟨w, g1, ?_⟩
    cases z with
    | d x => exact ki g2
    | own zs =>
      obtain ⟨b, us, rfl, m', n', l', k1, k2⟩ := g2
      exact ⟨b, us, rfl, m', n', l', by rw [upd_ne (fun y => by rw [y, h1] at k1; cases k1)]; exact k1, kia k2⟩
    | new zs =>
      obtain ⟨b, us, _, n', k1, k2⟩ := g2
      rw [n'] at k1; cases k1
    | bag => exact g2
    | scr ns =>
      obtain ⟨b, z, y⟩ := g2
      exact ⟨b, z, y.keep frz⟩
    | rng lo hi =>
      obtain ⟨b, z, y⟩ := g2
      exact ⟨b, z, by rw [upd_ne (fun q => by rw [q, h1] at y; cases y)]; exact y⟩
    | dic kvs =>
      obtain ⟨b, z, y⟩ := g2
      exact ⟨b, z, by rw [upd_ne (fun q => by rw [q, h1] at y; cases y)]; exact y⟩
    | dcd kvs =>
      obtain ⟨b, z, ps, y, y2, y3⟩ := g2
      exact ⟨b, z, ps, by rw [upd_ne (fun q => by rw [q, h1] at y; cases y)]; exact y, y2, kia y3⟩
    | ty n => exact g2
    | cls C => exact g2
/-- within __init__: self stands at x with the fields ds -/
def DI (K : PySem.W.Frag) (x C dx : Addr) (t : TS) (ds : List (Str × D)) (es : Env') (post : List (Str × D) → Prop) : Prop :=
  ∀ F P M L σ H fs, Stf K F P M L σ H es → M x → ¬ L x → F.H0 x = none → H x = some (.ins C dx fs) → IsFs K M H fs ds → ∀ E : Ends,
    (∀ σ' H' fs' ds', Kp F.L F.H0 H' → H' x = some (.ins C dx fs') → IsFs K F.M0 H' fs' ds' → post ds' → E.nx σ' H') → t E σ H
variable {x dx : Addr} {ds : List (Str × D)} {post : List (Str × D) → Prop}
theorem di_next (h : post ds) : DI K x C dx tNext ds es post := fun F P M L σ H fs S m l n hx hf E k => k σ H fs ds S.kp hx (IsFs.chg (fun a o e q => ⟨e, fun z => q (S.m0 a z)⟩) (TK.refl K H) _ _ hf) h
/-- a test that does not refuse -/
theorem di_if (h : DT K tt es fun b => b = false) (hu : DI K x C dx u ds es post) : DI K x C dx (tSeq (tIfS tt t1 tNext) u) ds es post := fun F P M L σ H fs S m l n hx hf E k => by
  refine h P _ M L σ H S.st _ fun b H1 k1 hb => ?_
  subst hb
  rw [if_neg Bool.false_ne_true]
  have hf1 : IsFs K M H1 fs ds := IsFs.chg (fun a o e q => ⟨k1.k a o (fun z => q (S.st.bs.lm a z)) e, q⟩) (sqt_keep (M := M) (fun b o q e => k1.k b o (fun z => q (S.st.bs.lm b z)) e) S.st.bs.tr) _ _ hf
  exact hu F P M L σ H1 fs (S.kp' k1) m l n (k1.k _ _ l hx) hf1 E k
/-- self.f = e -/
theorem di_fld (e0 : es[0]? = some (some (.cls x))) (cl : Cls K C) (na : NoAttr K C f) (hl : ds.length < 1000) (hd : ds.lookup f = none) (h : DE K te es fun s => ∃ d, s = .d d ∧ DI K x C dx u (ds ++ [(f, d)]) es post) : DI K x C dx (tSeq (sFld K (tVar 0) te f) u) ds es post := fun F P M L σ H fs S m l n hx hf E k => by
  refine h P _ M L σ H S.st _ fun s v H1 k1 ok q => ?_
  obtain ⟨d, rfl, q⟩ := q
  have hf1 : IsFs K M H1 fs ds := IsFs.chg (fun a o e q => ⟨k1.k a o (fun z => q (S.st.bs.lm a z)) e, q⟩) (sqt_keep (M := M) (fun b o q e => k1.k b o (fun z => q (S.st.bs.lm b z)) e) S.st.bs.tr) _ _ hf
  have hx1 := k1.k _ _ l hx
  have S1 := S.kp' k1
  obtain ⟨w, hw, ew⟩ := S1.st.ok 0 _ e0
  have ew : w = .ref x := ew
  subst ew
  refine ⟨.ref x, hw, x, C, dx, fs, rfl, hx1, cl, na, by rw [hf1.len]; exact hl, ?_⟩
  rw [putF_new (hf1.lookN hd)]
  obtain ⟨S2, ki⟩ := S1.st.updX (gs := fs ++ [(f, v)]) m l hx1
  have kf : IsFs K M (L2.upd H1 x (.ins C dx (fs ++ [(f, v)]))) fs ds := IsFs.chg (fun a o e q => ⟨by rw [upd_ne (fun y => q (by rw [y]; exact m))]; exact e, q⟩) (sqt_keep (M := M) (fun b o q e => by rw [upd_ne (fun y => q (by rw [y]; exact m))]; exact e) S1.st.bs.tr) _ _ hf1
  have S3 : Stf K F P M L σ (L2.upd H1 x (.ins C dx (fs ++ [(f, v)]))) es := ⟨S2, S1.bs0, ⟨fun b o lb e => by rw [upd_ne (fun y => by rw [y, n] at e; cases e)]; exact S1.kp.k b o lb e, fun b lb => by
    exact (S1.kp.b b lb).upd (fun y => (S1.kp.b b lb).no (by rw [y]; exact hx1) (fun _ _ z => by cases z) (fun _ z => by cases z)) (fun q e => by rw [hx1] at e; unfold LamX.CodeO at e; cases e)⟩, S1.m0, S1.lo, S1.ln⟩
  exact q F P M L σ _ _ S3 m l n upd_same (kf.append' (ki ok)) E k
/-- an __init__'s body -/
theorem init_of {n : Nat} {pre : List SV → Prop} {post : List SV → List (Str × D) → Prop} {names : List Str} {vs : List V} {R : VK} {E : XK} (h : spI K C n pre post vs H R E) (hb : ∀ x dx ss, ss.length = n → pre ss → DI K x C dx t [] (some (.cls x) :: startE (names.length - 1) ss) (post ss)) (hnm : 1 ≤ names.length) :
    t { nx := fun _ H' => R .non H', rt := R } (L2.start names vs) H := by
  obtain ⟨H1, M, L, x, dx, ws, ss, rfl, bs, nx, ndx, ne, rfl, hv, hl, hp, q⟩ := h
  have k1 := Kp.new (o := .own x) bs ndx
  have nx2 : (L2.upd H1 dx (.own x)) x = none := by rw [upd_ne (Ne.symm ne)]; exact nx
  have k2 := Kp.new (o := .ins C dx []) (k1.bs bs) nx2
  have kp := k1.trans k2
  have no_ : ∀ (i : Nat) (s : SV), (startE (names.length - 1) ss)[i]? = some (some s) → ss[i]? = some s := fun i s e => by
    unfold startE at e
    by_cases hi : i < ss.length
    · rw [List.getElem?_append_left (by simpa using hi), List.getElem?_map] at e
      cases z : ss[i]? with
      | none => rw [z] at e; cases e
      | some y => rw [z] at e; cases e; rfl
    · rw [List.getElem?_append_right (by simpa using hi), List.getElem?_replicate] at e
      split at e <;> cases e
  have nown : ∀ (i : Nat) (xs : List D), ss[i]? ≠ some (.own xs) := fun i xs e => by
    obtain ⟨v, _, _, _, _, _, n, _⟩ := hv.get e
    exact n
  have nown2 : ∀ (i : Nat) (xs : List D), (some (SV.cls x) :: startE (names.length - 1) ss)[i]? ≠ some (some (.own xs)) := fun i xs e => by
    cases i with
    | zero => cases e
    | succ i => exact nown i xs (no_ i _ (by simpa using e))
  have sl : ∀ (i : Nat) (v : V), (V.ref x :: ws)[i]? = some v → (L2.start names (V.ref x :: ws))[i]? = some (some v) := fun i v e => by
    have hi := (List.getElem?_eq_some_iff.mp e).1
    unfold L2.start
    rw [List.getElem?_append_left (by simpa using hi), List.getElem?_map, e]
    rfl
  have bsx : Bs L (M.add x) (L2.upd (L2.upd H1 dx (.own x)) x (.ins C dx [])) := by
    have b2 := kp.bs bs
    refine ⟨fun a l => .inl (b2.lm a l), fun a o m e => ?_, fun a m => ?_, b2.bag, b2.tb⟩
    · rcases m with m | rfl
      · exact b2.tr a o m e
      · rw [upd_same] at e
        cases e
        exact True.intro
    · rcases m with m | rfl
      · exact b2.tk a m
      · exact ⟨_, upd_same⟩
  have S : Stf K ⟨M, L, H1⟩ [] (M.add x) L (L2.start names (V.ref x :: ws)) (L2.upd (L2.upd H1 dx (.own x)) x (.ins C dx [])) (some (.cls x) :: startE (names.length - 1) ss) := by
    refine ⟨⟨bsx, ?_, fun i s e => ?_, fun p hp => absurd hp (by simp), fun i j a xs ys _ e _ _ => absurd e (nown2 i xs)⟩, bs, kp, fun _ h => .inl h, fun _ h => h, fun _ h => .inl h⟩
    · unfold L2.start startE
      rw [List.length_append, List.length_map, List.length_replicate, List.length_cons, List.length_cons, List.length_append, List.length_map, List.length_replicate, hv.len]
      omega
    · cases i with
      | zero =>
        cases e
        exact ⟨.ref x, sl 0 _ rfl, rfl⟩
      | succ i =>
        obtain ⟨v, h1, h2⟩ := hv.get (no_ i s (by simpa using e))
        exact ⟨v, sl (i + 1) v (by simpa using h1), (h2.noN).lift bs kp nx⟩
  refine hb x dx ss hl hp ⟨M, L, H1⟩ [] (M.add x) L _ _ [] S (.inr rfl) (fun l => fresh_nm bs nx (bs.lm x l)) nx upd_same .nil _ fun σ' H' fs' ds' k hx hf hpost => q ds' fs' H' k hx hf hpost
end
end DL

namespace DL
open PySem PySem.Spec PyProof.Rows L2
variable [Tbl]
/-! ### methods and objects made, where no repr is under way -/
section
variable {X : Cx} {k n : Nat} {f C : Addr} {fd : FuncData} {ps ks : List Str} {sp : Sp} {x m : Str} {p pos apos : Pos} {e o : Expr} {es : List Expr} {kws : List Keyword} {ta : TE} {t tk : TA} {g : List Value → List Value → List Value} {gV : List V → List V → List V}
theorem run_fnG {pins : List (Addr × Obj)} {σ : L2.St} {H : Hp} {s : Shared} {Q : VK} {us : List Value} {vs : List V} (F : FnG X.prog X.w X.K X.mg X.base k f fd ps sp) (hr : Room k X.A) (gu : X.A.guards = some []) (hb : Binds X.K fd ps [])
    (I : Inv X pins σ H s) (r : Vals vs us) (h : sp (vs ++ []) H Q E0) : wpAny (model X.prog X.w) X.A (call (.ref f) us) (EP X pins σ Q) X.xe s := by
  rw [List.append_nil] at h
  have hl : (us ++ []).length = ps.length := by rw [List.append_nil, ← r.length]; exact F.len _ _ _ _ h
  refine runG F hr gu I (hb s us I.kIn hl) (us := us ++ []) ?_ h
  rw [List.append_nil]
  exact r
/-- o.m(e, ..) -/
theorem pe_methG {pl : Sem Bool} (he : PE X o ta) (c : Cls X.K C) (hm : Meth X.K C m f) (F : FnG X.prog X.w X.K X.mg X.base k f fd ps sp) (hr : Room k X.A) (gu : X.A.guards = some []) (hb : Binds X.K fd ps []) (ha : PA X (e :: es) t)
    (hst : starEach (e :: es) X.env = (false, eval e X.env) :: starEach es X.env := by rfl) (hpl : (backTo pos (starEach es X.env)).any (·.1) = false := by rfl)
    (ht : eval (.Call (.Attribute o m apos) (e :: es) [] pos) X.env = (do
      let ov ← eval o X.env
      standAt apos.atName
      let (f, first) ← holding [ov] (getMethod ov m pl)
      callWith pos f first (backTo pos (starEach (e :: es) X.env)) (backToKw pos (keywordEach [] X.env))) := by rfl) :
    PE X (.Call (.Attribute o m apos) (e :: es) [] pos) (tMeth C m sp [] E0 ta t) := by
  refine ⟨fun pins s σ H Q I h => ?_⟩
  refine PySem.W.methodCall_KW (pl := pl) (thn (he.run pins s σ H _ I h) fun u s1 ⟨y, H1, I1, rx, a, dx, fs, ex, ea, l, q⟩ => ?_) ht
  subst ex
  obtain rfl : u = Value.ref a := rx
  refine getmeth_ok I1 ea c hm l ?_
  refine PySem.W.callWith_K (first := [.ref a]) (h₀ := X.base) I.ok.mod.kin hm.kp (thn (ha.run pos pins s1 σ H1 _ I1 q) fun us s2 ⟨vs, H2, I2, r, q2⟩ => ⟨I2.kIn, ?_⟩) hst hpl
  exact run_fnG (us := .ref a :: us) (vs := .ref a :: vs) F hr gu hb I2 (.cons rfl r) q2
/-- o.m() -/
theorem pe_methG0 {pl : Sem Bool} (he : PE X o ta) (c : Cls X.K C) (hm : Meth X.K C m f) (F : FnG X.prog X.w X.K X.mg X.base k f fd ps sp) (hr : Room k X.A) (gu : X.A.guards = some []) (hb : Binds X.K fd ps [])
    (ht : eval (.Call (.Attribute o m apos) [] [] pos) X.env = (do
      let ov ← eval o X.env
      standAt apos.atName
      let (f, first) ← holding [ov] (getMethod ov m pl)
      callWith pos f first (backTo pos (starEach [] X.env)) (backToKw pos (keywordEach [] X.env))) := by rfl) :
    PE X (.Call (.Attribute o m apos) [] [] pos) (tMeth C m sp [] E0 ta tNil) := by
  refine ⟨fun pins s σ H Q I h => ?_⟩
  refine PySem.W.methodCall_KW (pl := pl) (thn (he.run pins s σ H _ I h) fun u s1 ⟨y, H1, I1, rx, a, dx, fs, ex, ea, l, q⟩ => ?_) ht
  subst ex
  obtain rfl : u = Value.ref a := rx
  refine getmeth_ok I1 ea c hm l ?_
  exact PySem.W.callWith_K0 (first := [.ref a]) I1.kIn hm.kp (run_fnG (us := [.ref a]) (vs := [.ref a]) F hr gu hb I1 (.cons rfl .nil) q)
theorem run_makeKG {pins : List (Addr × Obj)} {σ : L2.St} {H : Hp} {s : Shared} {Q : VK} {us ws : List Value} {vs zs : List V} (M : Mk X.K C f) (F : FnG X.prog X.w X.K X.mg X.base k f fd ps sp) (hr : Room (k + 1) X.A) (gu : X.A.guards = some []) (hb : KBn X.K fd ps (n + 1) ks g gV)
    (I : Inv X pins σ H s) (r : Vals vs us) (rz : Vals zs ws) (l1 : vs.length = n) (l2 : zs.length = ks.length)
    (h : ∀ x dx, H x = none → H dx = none → dx ≠ x → sp (gV (.ref x :: vs) zs) (L2.upd (L2.upd H dx (.own x)) x (.ins C dx [])) (fun v H2 => v = .non ∧ Q (.ref x) H2) E0) :
    wpAny (model X.prog X.w) X.A (call (.ref C) us (ks.zip ws)) (EP X pins σ Q) X.xe s := by
  have hq := h (s.heap.objs.size + 1) s.heap.objs.size (I.hok.fresh (Nat.le_succ _)) (I.hok.fresh (Nat.le_refl _)) (Nat.ne_of_lt (Nat.lt_succ_self _))
  have I2 := Inv.made (C := C) I
  have r1 : Vals (V.ref (s.heap.objs.size + 1) :: vs) (Value.ref (s.heap.objs.size + 1) :: us) := .cons rfl r
  have r2 := hb.rel r1 rz
  have n1 : (Value.ref (s.heap.objs.size + 1) :: us).length = n + 1 := by
    rw [List.length_cons, ← r.length, l1]
  have gu2 : (X.A.under (.builtin "type.__call__" ⟨.ref C :: us, ks.zip ws⟩)).guards = some [] := by
    first | exact gu | (simpa [Around.under, Code.isGuard, guardIds] using gu)
  refine wpAny_call (make_map (f := f) I.kIn M.makes M.init (beq_iff_eq.mp M.fn) (codeAny_mono (F.run _ X.stack _ _ ⟨Value.ref (s.heap.objs.size + 1) :: us, ks.zip ws⟩ (g (Value.ref (s.heap.objs.size + 1) :: us) ws) _ _ gu2 (hr.make C us (ks.zip ws))
    (I2.env0.make C us (ks.zip ws)) (hb.to _ (Value.ref (s.heap.objs.size + 1) :: us) ws I2.kIn n1 (rz.length.symm.trans l2)) r2 hq) fun r s' hq' => ?_))
  cases r with
  | error e => exact hq'.elim
  | ok fl =>
    cases fl with
    | ret u =>
      obtain ⟨v, H', I3, rv, ev, q3⟩ := I2.after hq'
      subst ev
      exact ⟨rv, ⟨V.ref (s.heap.objs.size + 1), H', I3, rfl, q3⟩⟩
    | next => exact False.elim hq'
    | brk => exact False.elim hq'
    | cont => exact False.elim hq'
end
end DL

namespace DL
open PySem PySem.Spec PyProof.Rows L2
variable [Tbl]
section
variable {X : Cx} {k n : Nat} {f C : Addr} {fd : FuncData} {ps ks : List Str} {sp : Sp} {x m : Str} {p pos apos : Pos} {e o : Expr} {es : List Expr} {kws : List Keyword} {ta : TE} {t tk : TA} {g : List Value → List Value → List Value} {gV : List V → List V → List V}
/-- C(e, .., k = v, ..) -/
theorem pe_makeKG (M : Mk X.K C f) (F : FnG X.prog X.w X.K X.mg X.base k f fd ps sp) (hr : Room (k + 1) X.A) (gu : X.A.guards = some []) (hg : Gl X x) (hm : X.mg x = some (.ref C)) (hb : KBn X.K fd ps (n + 1) ks g gV) (ha : PA X (e :: es) t) (hkw : PK X kws tk)
    (hall : (backToKw pos (keywordEach kws X.env)).all (·.1.isSome) = true := by rfl) (hks : (backToKw pos (keywordEach kws X.env)).filterMap (·.1) = ks := by rfl) (hdb : (x == ("__debug__" : Str)) = false := by decide)
    (he : starEach (e :: es) X.env = (false, eval e X.env) :: starEach es X.env := by rfl) (hpl : ((backTo pos (starEach (e :: es) X.env)).any (·.1) || (backToKw pos (keywordEach kws X.env)).any (·.1.isNone)) = false := by rfl) :
    PE X (.Call (.Name x p) (e :: es) kws pos) (tMakeK C n ks.length sp gV E0 t tk) := by
  refine ⟨fun pins s σ H Q I h => ?_⟩
  refine wpAny_Call_Name_kw (ld_glob I hg hm ?_ hdb)
  refine PySem.W.callWith_KW (h₀ := X.base) I.ok.mod.kin M.kp hall (thn (ha.run pos pins s σ H _ I h) fun us s1 ⟨vs, H1, I1, r, q⟩ => ?_) hpl he
  refine thn (hkw.run pos pins s1 σ H1 _ I1 q) fun ws s2 ⟨zs, H2, I2, rz, l1, l2, q2⟩ => ⟨I2.kIn, ?_⟩
  rw [hks]
  exact run_makeKG M F hr gu hb I2 r rz l1 l2 q2
end
/-! ### isinstance(x, C), C of the program -/
structure InsF (K : PySem.W.Frag) (C : Addr) : Prop where
  cl : Cls K C
  ha : PySem.W.findIn K (.ref C) "__class__" = some (some (.builtin "object.__class__"))
  hn : PySem.W.specialIn K (.builtin "object.__class__") "__get__" = some (some (.builtin "getset_descriptor.__get__"))
  htk : PySem.W.takesIn K (.builtin "object.__class__") = some true
  hm : PySem.W.mroIn K C (.type "object") = some true
section
variable {K : PySem.W.Frag} {N L M : AP} {H0 H1 H H' : Hp} {σ : L2.St} {es : Env'} {Q : SV → Prop} {C : Addr}
theorem rc_isiO {ds : List (Str × D)} (i : InsF K C) (q : Q (.d (.bl true))) : RC K (rIsi K) [.d (.obj C ds), .cls C] Q := fun N M L H0 H vs bb k o R r => by
  obtain ⟨v, w, rfl, hv, hw⟩ := o.two
  have hw' : w = V.ref C := hw
  subst hw'
  have hv : Is K M H v (.obj C ds) := hv
  cases hv with
  | obj h1 h2 h3 =>
    refine ⟨_, .ref C, .ref C, .ref C, true, rfl, .own C, .base (.ins h1 i.cl i.ha i.hn i.htk i.hm), ?_, r (.d (.bl true)) _ H (Kp.refl (k.bs bb)) (Is.bl true) q⟩
    unfold PySem.W.kitOne
    rw [if_pos (by simp)]
theorem rc_isiC {x : D} {b : Bool} (p : x.plain = true) (hk : PySem.W.kitOne K (.type x.tyN) (.ref C) = some b) (q : Q (.d (.bl b))) : RC K (rIsi K) [.d x, .cls C] Q := fun N M L H0 H vs bb k o R r => by
  obtain ⟨v, w, rfl, hv, hw⟩ := o.two
  have hw' : w = V.ref C := hw
  subst hw'
  exact ⟨v, .ref C, .type x.tyN, .ref C, b, rfl, .own C, Is.ty hv p, hk, r (.d (.bl b)) _ H (Kp.refl (k.bs bb)) (Is.bl b) q⟩
theorem de_clsC (q : Q (.cls C)) : DE K (tC (.ref C)) es Q := fun P N M L σ H S R r => r (.cls C) _ H (Kp.refl S.bs) rfl q
/-! ### repr(o), o == y by the class's own defs -/
theorem rc_reprOwn {ds : List (Str × D)} {pre : List SV → Prop} {post : List SV → SV → Prop} (hp : pre [.d (.obj C ds)]) (q : ∀ r, post [.d (.obj C ds)] r → ∃ z, r = .d (.str z) ∧ Q (.d (.str z))) : RC K (rReprOwn C (spD K 1 pre post)) [.d (.obj C ds)] Q := fun N M L H0 H vs bb k o R r => by
  obtain ⟨v, rfl, hv⟩ := o.one
  have hv' : Is K M H v (.obj C ds) := hv
  have hv2 := hv'
  cases hv' with
  | obj h1 h2 h3 =>
    refine ⟨_, _, _, rfl, h1, M, L, [.d (.obj C ds)], k.bs bb, .cons hv2 .nil, rfl, hp, fun s w H' k2 o2 q2 => ?_⟩
    obtain ⟨z, rfl, q⟩ := q s q2
    cases o2
    exact ⟨z, rfl, r (.d (.str z)) _ H' k2 (Is.str z) q⟩
theorem YTy.of {v : V} {y : D} (h : Is K M H v y) (ok : (∃ ds, y = .obj C ds) ∨ (y.plain = true ∧ y ≠ .tup [])) : ∃ t, YTy K H C v t ∧ (t = .ref C ∨ t = .type y.tyN) := by
  rcases ok with ⟨ds, rfl⟩ | ⟨p, ne⟩
  · cases h with
    | obj h1 h2 h3 => exact ⟨_, .ins h1, .inl rfl⟩
  · cases h with
    | non => exact ⟨_, .non, .inr rfl⟩
    | bl b => exact ⟨_, .bl b, .inr rfl⟩
    | int i => exact ⟨_, .int i, .inr rfl⟩
    | str z => exact ⟨_, .str z, .inr rfl⟩
    | lst h1 h2 h3 => exact ⟨_, .lst h1, .inr rfl⟩
    | tup h1 h3 => exact ⟨_, .tup h1, .inr rfl⟩
    | tup0 h1 => exact absurd rfl ne
    | tupK h1 h3 h4 =>
      obtain ⟨o, its, m, h, hc, _⟩ := h1
      exact ⟨_, .ktup h hc, .inr rfl⟩
    | obj h1 h2 h3 => cases p
theorem eq_own {ds : List (Str × D)} {y : D} {pre : List SV → Prop} {post : List SV → SV → Prop} (ok : (∃ ds, y = .obj C ds) ∨ (y.plain = true ∧ y ≠ .tup [])) (n1 : PySem.W.notFirst K C (.ref C) = true) (n2 : PySem.W.notFirst K C (.type y.tyN) = true) (hp : pre [.d (.obj C ds), .d y]) (q : ∀ r, post [.d (.obj C ds), .d y] r → ∃ b, r = .d (.bl b) ∧ Q (.d (.bl b))) : RR K (rEqOwn K C (spD K 2 pre post)) (.d (.obj C ds)) (.d y) Q := fun N M L H0 H v1 v2 bb k o1 o2 R r => by
  have hv' : Is K M H v1 (.obj C ds) := o1
  have hv2 := hv'
  obtain ⟨t, ht, e⟩ := YTy.of (C := C) (show Is K M H v2 y from o2) ok
  cases hv' with
  | obj h1 h2 h3 =>
    refine ⟨_, _, _, t, rfl, h1, ht, ?_, M, L, [.d (.obj C ds), .d y], k.bs bb, .cons hv2 (.cons o2 .nil), rfl, hp, fun s w H' k2 o3 q2 => ?_⟩
    · rcases e with rfl | rfl
      · exact n1
      · exact n2
    · obtain ⟨b, rfl, q⟩ := q s q2
      cases o3
      exact ⟨b, rfl, r (.d (.bl b)) _ H' k2 (Is.bl b) q⟩
end
end DL
namespace DL
open PySem PySem.Spec PyProof.Rows L2
variable [Tbl]
/-- an f-string's parts, one behind the other -/
def tJoined (ts : List TE) : TE := fun σ H Q => tJs ts Str.empty σ H fun out H1 => Q (.str out) H1
end DL

namespace DL
open PySem PySem.Spec PyProof.Rows L2
variable [Tbl]
section
variable {K : PySem.W.Frag} {P : List Pin} {N L M : AP} {H0 H1 H H' : Hp} {σ : L2.St} {es : Env'} {te : TE} {tt : TT} {Q : SV → Prop}
/-- an f-string -/
def DJ (K : PySem.W.Frag) : List TE → Str → Env' → (Str → Prop) → Prop
  | [], acc, _, Q => Q acc
  | t :: ts, acc, es, Q => DE K t es fun s => ∃ y : Str, s = .d (.str y) ∧ (acc ++ y).length ≤ sizeLine ∧ DJ K ts (acc ++ y) es Q
theorem js_ok : ∀ (ts : List TE) (acc : Str) (q : Str → Prop), DJ K ts acc es q → ∀ P N M L σ H, Sts K P N M L σ H es → ∀ R : Str → Hp → Prop, (∀ z H', Kp L H H' → q z → R z H') → tJs ts acc σ H R
  | [], acc, q, h, P, N, M, L, σ, H, S, R, k => k acc H (Kp.refl S.bs) h
  | t :: ts, acc, q, h, P, N, M, L, σ, H, S, R, k => by
    refine (show DE K t es _ from h) P N M L σ H S _ fun s v H1 k1 ok q1 => ?_
    obtain ⟨y, rfl, hz, q1⟩ := q1
    cases ok
    exact ⟨y, rfl, hz, js_ok ts (acc ++ y) q q1 P N M L σ H1 (S.kp k1) R fun z H' k2 qz => k z H' (k1.trans k2) qz⟩
theorem de_joined {ts : List TE} (h : DJ K ts Str.empty es fun z => Q (.d (.str z))) : DE K (tJoined ts) es Q := fun P N M L σ H S R k =>
  js_ok ts Str.empty _ h P N M L σ H S _ fun z H' k1 q => k (.d (.str z)) _ H' k1 (Is.str z) q
theorem de_fmtS (h : DE K te es fun s => ∃ y : Str, s = .d (.str y) ∧ y.length ≤ sizeLine ∧ Q (.d (.str y))) : DE K (tFmt te) es Q := fun P N M L σ H S R k => by
  refine h P N M L σ H S _ fun s v H1 k1 ok q => ?_
  obtain ⟨y, rfl, hz, q⟩ := q
  cases ok
  exact .inl ⟨y, rfl, hz, k (.d (.str y)) _ H1 k1 (Is.str y) q⟩
theorem de_fmtI (h : DE K te es fun s => ∃ i : Int, s = .d (.int i) ∧ i.natAbs.log2 < 1920 ∧ Q (.d (.str (toString i)))) : DE K (tFmt te) es Q := fun P N M L σ H S R k => by
  refine h P N M L σ H S _ fun s v H1 k1 ok q => ?_
  obtain ⟨i, rfl, hz, q⟩ := q
  cases ok
  exact .inr ⟨i, rfl, hz, k (.d (.str (toString i))) _ H1 k1 (Is.str _) q⟩
/-- [e for x in xs if t], xs a tuple -/
theorem de_lcT {g : TG} {vs : List Nat} {tl : TE} (h : DE K tl es fun s => ∃ xs, s = .d (.tup xs) ∧ xs.length ≤ 100000 ∧ ∃ J : Nat → List D → Prop, J 0 [] ∧
    (∀ (i : Nat) x, xs[i]? = some x → LcT K g tt te vs es J i x) ∧ ∀ ds, J xs.length ds → ds.length ≤ xs.length → Q (.new ds)) : DE K (tLc (iTup K tl) g tt te vs) es Q := fun P N M L σ H S R k => by
  refine h P N M L σ H S _ fun s v H1 k1 o1 q1 => ?_
  obtain ⟨xs, rfl, b, J, h0, hs, hd⟩ := q1
  have hx : Is K M H1 v (.tup xs) := o1
  obtain ⟨a, ws, rfl, g1, g3⟩ := Is.tupS hx
  refine ⟨a, rfl, ⟨ws, g1⟩, fun D0 hD => ?_⟩
  obtain ⟨p0, old, nl⟩ := lc_start (S.kp k1) hD h0
  have bs1 := (S.kp k1).bs
  have tk : ∀ {i : Nat} {H : Hp}, LcP K P N M L σ es H1 D0 J i H → TK K H1 H := fun {i H} p => sqt_keep (M := M) (fun b o m e => p.kp.k b o (fun l => m (bs1.lm b l)) e) bs1.tr
  refine lc_tup (K := K) (a := a) (xs := ws) (LcP K P N M L σ es H1 D0 J) p0 (fun i H hi p => (tk p).s _ _ g1) (fun i x H hx p => ?_) fun H p => ?_
  · obtain ⟨d, hd', ix⟩ := g3.getV hx
    have ia : Is K (M.add D0) H x d := by
      refine Is.chg (fun b o e m => ⟨p.kp.k b o (fun l => m (.inl (bs1.lm b l))) e, m⟩) (tk p) _ _ (ix.add hD)
    have hi : i < 100000 := by
      have := (List.getElem?_eq_some_iff.mp hd').1
      omega
    exact lc_turn old nl hD hi p ia (hs i d hd')
  · rw [g3.len] at p
    obtain ⟨kk, ds, ok, q⟩ := lc_end k1 hD p hd
    exact k _ _ _ kk ok q
end
theorem kit_own {K : PySem.W.Frag} {C : Addr} {T : String} (h1 : PySem.W.isClsIn K C = true) (h2 : PySem.W.typeIn K (.ref C) = some (.type "type")) (h3 : PySem.W.subIn K (.type T) (.ref C) = some false) : PySem.W.kitOne K (.type T) (.ref C) = some false := by
  have h1' : (PySem.W.clsIn K C).isSome = true := h1
  unfold PySem.W.kitOne
  rw [if_neg (by simp)]
  unfold PySem.W.kitCls
  show (if ((PySem.W.clsIn K C).isSome && PySem.W.typeIn K (.ref C) == some (.type "type")) = true then PySem.W.subIn K (.type T) (.ref C) else none) = some false
  rw [h1', h2, if_pos (by simp)]
  exact h3
end DL

namespace DL
open PySem PySem.Spec PyProof.Rows L2
variable [Tbl]
/-! ### calls with defaults and by names -/
def pick {α : Type} (ix : List Nat) (l : List α) : List α := ix.filterMap fun i => l[i]?
theorem Vals.get' : ∀ {vs : List V} {us : List Value} (i : Nat), Vals vs us → (vs[i]? = none ∧ us[i]? = none) ∨ ∃ v u, vs[i]? = some v ∧ us[i]? = some u ∧ RelV v u
  | _, _, _, .nil => .inl ⟨by simp, by simp⟩
  | _, _, 0, .cons r _ => .inr ⟨_, _, by simp, by simp, r⟩
  | _, _, i + 1, .cons _ t => by
    rcases Vals.get' i t with ⟨a, b⟩ | ⟨v, u, a, b, c⟩
    · exact .inl ⟨by simpa using a, by simpa using b⟩
    · exact .inr ⟨v, u, by simpa using a, by simpa using b, c⟩
theorem Vals.pick {vs : List V} {us : List Value} (r : Vals vs us) : ∀ ix : List Nat, Vals (DL.pick ix vs) (DL.pick ix us)
  | [] => .nil
  | i :: ix => by
    have ih := Vals.pick r ix
    unfold DL.pick at ih ⊢
    rw [List.filterMap_cons, List.filterMap_cons]
    rcases Vals.get' i r with ⟨a, b⟩ | ⟨v, u, a, b, c⟩
    · rw [a, b]; exact ih
    · rw [a, b]; exact .cons c ih
theorem SvAll.getB {K : PySem.W.Frag} {N M L : AP} {H0 H : Hp} : ∀ {vs : List V} {ss : List SV} (i : Nat), SvAll K N M L H0 H vs ss → (vs[i]? = none ∧ ss[i]? = none) ∨ ∃ v s, vs[i]? = some v ∧ ss[i]? = some s ∧ SvOk K N M L H0 H v s
  | _, _, _, .nil => .inl ⟨by simp, by simp⟩
  | _, _, 0, .cons r _ => .inr ⟨_, _, by simp, by simp, r⟩
  | _, _, i + 1, .cons _ t => by
    rcases SvAll.getB i t with ⟨a, b⟩ | ⟨v, u, a, b, c⟩
    · exact .inl ⟨by simpa using a, by simpa using b⟩
    · exact .inr ⟨v, u, by simpa using a, by simpa using b, c⟩
theorem SvAll.pick {K : PySem.W.Frag} {N M L : AP} {H0 H : Hp} {vs : List V} {ss : List SV} (r : SvAll K N M L H0 H vs ss) : ∀ ix : List Nat, SvAll K N M L H0 H (DL.pick ix vs) (DL.pick ix ss)
  | [] => .nil
  | i :: ix => by
    have ih := SvAll.pick r ix
    unfold DL.pick at ih ⊢
    rw [List.filterMap_cons, List.filterMap_cons]
    rcases SvAll.getB i r with ⟨a, b⟩ | ⟨v, u, a, b, c⟩
    · rw [a, b]; exact ih
    · rw [a, b]; exact .cons c ih
theorem SvAll.append {K : PySem.W.Frag} {N M L : AP} {H0 H : Hp} : ∀ {vs ws : List V} {ss us : List SV}, SvAll K N M L H0 H vs ss → SvAll K N M L H0 H ws us → SvAll K N M L H0 H (vs ++ ws) (ss ++ us)
  | _, _, _, _, .nil, s => s
  | _, _, _, _, .cons r t, s => .cons r (SvAll.append t s)
section
variable {P : Program} {w : World} {K : PySem.W.Frag} {mg : Str → Option Value} {base : Heap}
/-- okG for a def with defaults -/
theorem okGD {x qual : Str} {st : Stmt} {f : Addr} {fd : FuncData} {N ps : List Str} {k : Nat} {sp : Sp} {dvs : List V} {kws : List (Str × V)} (F : FunD K x qual (defArgs st) (defBody st) (defScope st) dvs kws f fd) (S : FnScope N ps (defScope st)) (len : ∀ vs H Q E, sp vs H Q E → vs.length = ps.length)
    (hb : ∀ (cdv : Value) (A : Around) (fr : List Env) (s : Shared) (H : Hp) (vs : List V) (Q : VK), A.guards = some [] → Room k (A.deeper (envOfC qual (defScope st) s.heap.objs.size f cdv)) → sp vs H Q E0 →
      ∃ t, PSs (cxOf CX0 P w K mg base N qual (defScope st) f cdv A fr s H E0).nox (defBody st) t ∧ t { nx := fun _ H' => Q .non H', rt := Q } (start N vs) H) : FnG P w K mg base (k + 1) f fd ps sp := by
  obtain ⟨oc, od, dV, kV, doc, pm, an, cdv, ct, osl, rfl, lk, hcd, _, _⟩ := F.ex
  constructor
  · exact len
  intro A fr s H ar us vs Q hg hr e0 hbi rv hsp
  have up : ∀ b o, base.get? b = some o → s.heap.get? b = some o := fun b o e => (e0.bs b o e).1
  have kin : K.In s.heap := e0.mod.kin.keeps up
  have room := hr.deeper (envOfC qual (defScope st) s.heap.objs.size f cdv)
  refine codeAny_call_function hr.depth (kin f _ lk) rfl S.co S.gen rfl (PySem.W.codeRec_of kin hcd) ?_
  refine hbi _ _ _ _ ?_
  have kinds : ∀ y ∈ ps.zip us, (defScope st).names.lookup y.1 = some .local ∨ ((defScope st).names.lookup y.1 = some .cell ∧ ((cellsFrom (s.heap.objs.size + 1) (defScope st).names []).lookup y.1).isSome = true) := by
    rintro ⟨n, v⟩ hy
    have hn := S.par n (List.of_mem_zip hy).1
    exact hn.imp id fun q => ⟨q, PySem.W.cellsFrom_some _ _ _ (.inl q)⟩
  refine wpAny_newFunctionEnv_cells S.kind kinds ?_
  rintro env rfl s1 x
  constructor
  · exact (e0.mod.nolimit.keeps up).keeps x.toInCall.keep
  refine codeAny_func ?_
  obtain ⟨t, ht, hq⟩ := hb cdv A fr s H vs Q hg room hsp
  have inv := inv_start (CX := CX0) (E := E0) (cd := cdv) (f := f) S hr.hd e0 (len vs H Q E0 hsp) rv x
  refine wpAny_mono (ht.nox.run [] s1 (start N vs) H _ inv hq) ?_ (fun _ _ h => h)
  intro fl s2 h2
  match fl, h2 with
  | .ret u, h2 =>
    obtain ⟨v, σ2, H2, J, r2, q⟩ := h2
    exact ⟨v, H2, J.os, J.bare, J.base, J.hok, r2, q⟩
  | .next, h2 =>
    obtain ⟨σ2, H2, J, q⟩ := h2
    exact ⟨V.non, H2, J.os, J.bare, J.base, J.hok, rfl, q⟩
  | .brk, h2 =>
    obtain ⟨_, _, _, q⟩ := h2
    exact q.elim
  | .cont, h2 =>
    obtain ⟨_, _, _, q⟩ := h2
    exact q.elim
end
section
variable {X : Cx} {k n : Nat} {f C : Addr} {fd : FuncData} {ps ks : List Str} {sp : Sp} {x : Str} {p pos : Pos} {e : Expr} {es : List Expr} {kws : List Keyword} {t tk : TA} {g : List Value → List Value → List Value} {gV : List V → List V → List V}
/-- f(e, .., k = v, ..) -/
theorem pe_callGN (F : FnG X.prog X.w X.K X.mg X.base k f fd ps sp) (hr : Room k X.A) (gu : X.A.guards = some []) (hg : Gl X x) (hm : X.mg x = some (.ref f)) (hk : PySem.W.keepIn X.K (.ref f) = true) (hb : KBn X.K fd ps n ks g gV)
    (ha : PA X (e :: es) t) (hkw : PK X kws tk) (hall : (backToKw pos (keywordEach kws X.env)).all (·.1.isSome) = true := by rfl) (hks : (backToKw pos (keywordEach kws X.env)).filterMap (·.1) = ks := by rfl)
    (hdb : (x == ("__debug__" : Str)) = false := by decide) (he : starEach (e :: es) X.env = (false, eval e X.env) :: starEach es X.env := by rfl)
    (hpl : ((backTo pos (starEach (e :: es) X.env)).any (·.1) || (backToKw pos (keywordEach kws X.env)).any (·.1.isNone)) = false := by rfl) :
    PE X (.Call (.Name x p) (e :: es) kws pos) (tCallN n ks.length sp gV E0 t tk) := by
  refine ⟨fun pins s σ H Q I h => ?_⟩
  refine wpAny_Call_Name_kw (ld_glob I hg hm ?_ hdb)
  refine PySem.W.callWith_KW (h₀ := X.base) I.ok.mod.kin hk hall (thn (ha.run pos pins s σ H _ I h) fun us s1 ⟨vs, H1, I1, r, q⟩ => ?_) hpl he
  refine thn (hkw.run pos pins s1 σ H1 _ I1 q) fun ws s2 ⟨zs, H2, I2, rz, l1, l2, q2⟩ => ⟨I2.kIn, ?_⟩
  rw [hks]
  exact runG F hr gu I2 (hb.to s2 us ws I2.kIn (r.length.symm.trans l1) (rz.length.symm.trans l2)) (hb.rel r rz) q2
/-- f(k = v, ..) -/
theorem pe_callG0N (F : FnG X.prog X.w X.K X.mg X.base k f fd ps sp) (hr : Room k X.A) (gu : X.A.guards = some []) (hg : Gl X x) (hm : X.mg x = some (.ref f)) (hk : PySem.W.keepIn X.K (.ref f) = true) (hb : KBn X.K fd ps 0 ks g gV)
    (hkw : PK X kws tk) (hall : (backToKw pos (keywordEach kws X.env)).all (·.1.isSome) = true := by rfl) (hks : (backToKw pos (keywordEach kws X.env)).filterMap (·.1) = ks := by rfl) (hdb : (x == ("__debug__" : Str)) = false := by decide)
    (hpl : ((backTo pos (starEach [] X.env)).any (·.1) || (backToKw pos (keywordEach kws X.env)).any (·.1.isNone)) = false := by rfl) : PE X (.Call (.Name x p) [] kws pos) (tCallN 0 ks.length sp gV E0 tNil tk) := by
  constructor
  intro pins s σ H Q I h
  refine wpAny_Call_Name_kw (ld_glob I hg hm ?_ hdb)
  refine PySem.W.callWith_KW0 (h₀ := X.base) I.ok.mod.kin hk hall ?_ hpl
  refine thn (hkw.run pos pins s σ H _ I h) ?_
  rintro ws s2 ⟨zs, H2, I2, rz, l1, l2, q2⟩
  refine ⟨I2.kIn, ?_⟩
  rw [hks]
  exact runG F hr gu I2 (hb.to s2 [] ws I2.kIn rfl (rz.length.symm.trans l2)) (hb.rel .nil rz) q2
/-- f(e, ..), defaults fill up -/
theorem pe_callGP (F : FnG X.prog X.w X.K X.mg X.base k f fd ps sp) (hr : Room k X.A) (gu : X.A.guards = some []) (hg : Gl X x) (hm : X.mg x = some (.ref f)) (hk : PySem.W.keepIn X.K (.ref f) = true) (hb : KBn X.K fd ps n [] g gV)
    (ha : PA X (e :: es) t) (hdb : (x == ("__debug__" : Str)) = false := by decide) (he : starEach (e :: es) X.env = (false, eval e X.env) :: starEach es X.env := by rfl) (hpl : (backTo pos (starEach es X.env)).any (·.1) = false := by rfl) :
    PE X (.Call (.Name x p) (e :: es) [] pos) (tCallN n 0 sp gV E0 t tNil) := by
  constructor
  intro pins s σ H Q I h
  refine wpAny_Call_Name_kw (ld_glob I hg hm ?_ hdb)
  refine PySem.W.callWith_K (h₀ := X.base) I.ok.mod.kin hk (thn (ha.run pos pins s σ H _ I h) ?_) he hpl
  rintro us s1 ⟨vs, H1, I1, r, l1, l2, q⟩
  exact ⟨I1.kIn, runG (kw := []) F hr gu I1 (hb.to s1 us [] I1.kIn (r.length.symm.trans l1) rfl) (hb.rel r .nil) q⟩
/-- C(e, ..), defaults fill up -/
theorem pe_makeGP (M : Mk X.K C f) (F : FnG X.prog X.w X.K X.mg X.base k f fd ps sp) (hr : Room (k + 1) X.A) (gu : X.A.guards = some []) (hg : Gl X x) (hm : X.mg x = some (.ref C)) (hb : KBn X.K fd ps (n + 1) [] g gV) (ha : PA X (e :: es) t)
    (hdb : (x == ("__debug__" : Str)) = false := by decide) (he : starEach (e :: es) X.env = (false, eval e X.env) :: starEach es X.env := by rfl) (hpl : (backTo pos (starEach es X.env)).any (·.1) = false := by rfl) :
    PE X (.Call (.Name x p) (e :: es) [] pos) (tMakeK C n 0 sp gV E0 t tNil) := by
  refine ⟨fun pins s σ H Q I h => ?_⟩
  refine wpAny_Call_Name_kw (ld_glob I hg hm ?_ hdb)
  refine PySem.W.callWith_K (h₀ := X.base) I.ok.mod.kin M.kp (thn (ha.run pos pins s σ H _ I h) ?_) he hpl
  rintro us s1 ⟨vs, H1, I1, r, l1, l2, q⟩
  exact ⟨I1.kIn, run_makeKG (ks := []) (ws := []) (zs := []) M F hr gu hb I1 r .nil l1 rfl q⟩
/-- C(k = v, ..) -/
theorem pe_makeG0 (M : Mk X.K C f) (F : FnG X.prog X.w X.K X.mg X.base k f fd ps sp) (hr : Room (k + 1) X.A) (gu : X.A.guards = some []) (hg : Gl X x) (hm : X.mg x = some (.ref C)) (hb : KBn X.K fd ps 1 ks g gV) (hkw : PK X kws tk)
    (hall : (backToKw pos (keywordEach kws X.env)).all (·.1.isSome) = true := by rfl) (hks : (backToKw pos (keywordEach kws X.env)).filterMap (·.1) = ks := by rfl) (hdb : (x == ("__debug__" : Str)) = false := by decide)
    (hpl : ((backTo pos (starEach [] X.env)).any (·.1) || (backToKw pos (keywordEach kws X.env)).any (·.1.isNone)) = false := by rfl) :
    PE X (.Call (.Name x p) [] kws pos) (tMakeK C 0 ks.length sp gV E0 tNil tk) := by
  refine ⟨fun pins s σ H Q I h => ?_⟩
  refine wpAny_Call_Name_kw (ld_glob I hg hm ?_ hdb)
  refine PySem.W.callWith_KW0 (h₀ := X.base) I.ok.mod.kin M.kp hall ?_ hpl
  refine thn (hkw.run pos pins s σ H _ I h) fun ws s2 ⟨zs, H2, I2, rz, l1, l2, q2⟩ => ⟨I2.kIn, ?_⟩
  rw [hks]
  exact run_makeKG (us := []) (vs := []) M F hr gu hb I2 .nil rz rfl l2 q2
end
section
variable {K : PySem.W.Frag} {N L M : AP} {H0 H1 H H' : Hp} {σ : L2.St} {es : Env'} {Q : SV → Prop} {pre : List SV → Prop} {post : List SV → SV → Prop}
/-- the things in their places: written ones, defaults ds, named ones -/
theorem de_callN {n m N' : Nat} {t tk : TA} {ix : List Nat} {dv : List V} {dS : List SV} {E : XK} (hd : ∀ (N M L : AP) (H0 H : Hp), SvAll K N M L H0 H dv dS)
    (h : DA K t es fun ss => DA K tk es fun us => nownAll ss ∧ nownAll us ∧ ss.length = n ∧ us.length = m ∧ (pick ix (ss.map SV.arg ++ dS ++ us.map SV.arg)).length = N' ∧ pre (pick ix (ss.map SV.arg ++ dS ++ us.map SV.arg)) ∧ ∀ r, post (pick ix (ss.map SV.arg ++ dS ++ us.map SV.arg)) r → Q r) :
    DE K (tCallN n m (spD K N' pre post) (fun vs zs => pick ix (vs ++ dv ++ zs)) E t tk) es Q := fun P N M L σ H S R k => by
  refine h P N M L σ H S _ fun ss vs H1 k1 o1 q1 => ?_
  refine q1 P N M L σ H1 (S.kp k1) _ fun us zs H2 k2 o2 q2 => ?_
  obtain ⟨n1, n2, l1, l2, l3, hp, q⟩ := q2
  have k12 := k1.trans k2
  refine ⟨by rw [o1.len]; exact l1, by rw [o2.len]; exact l2, M, L, _, k12.bs S.bs, ((((o1.kp S.bs k1 k2).args S.bs k12 n1).append (hd NO M L H2 H2)).append (o2.args (k1.bs S.bs) k2 n2)).pick ix, l3, hp, fun r v H' k3 o3 q3 => ?_⟩
  exact k r v H' (k12.trans k3) ((SvOk.noN o3).back k12) (q r q3)
theorem hg_make {ix : List Nat} {dv : List V} {dS : List SV} (hd : ∀ (N M L : AP) (H0 H : Hp), SvAll K N M L H0 H dv dS) {gV : List V → List V → List V} (hgV : ∀ (x : V) (vs zs : List V), gV (x :: vs) zs = x :: pick ix (vs ++ dv ++ zs)) :
    ∀ {N M L : AP} {H0 H : Hp} {x : Addr} {vs zs : List V} {ss us : List SV}, SvAll K N M L H0 H vs ss → SvAll K N M L H0 H zs us → ∃ ws, gV (.ref x :: vs) zs = .ref x :: ws ∧ SvAll K N M L H0 H ws (pick ix (ss ++ dS ++ us)) := fun {N M L H0 H x vs zs ss us} a b =>
  ⟨_, hgV _ _ _, ((a.append (hd N M L H0 H)).append b).pick ix⟩
/-- C(..) -/
theorem de_makeN {n l N' : Nat} {C : Addr} {t tk : TA} {ix : List Nat} {dv : List V} {dS : List SV} {gV : List V → List V → List V} {post : List SV → List (Str × D) → Prop} {E : XK} (hd : ∀ (N M L : AP) (H0 H : Hp), SvAll K N M L H0 H dv dS) (hgV : ∀ (x : V) (vs zs : List V), gV (x :: vs) zs = x :: pick ix (vs ++ dv ++ zs))
    (h : DA K t es fun ss => DA K tk es fun us => nownAll ss ∧ nownAll us ∧ ss.length = n ∧ us.length = l ∧ (pick ix (ss.map SV.arg ++ dS ++ us.map SV.arg)).length = N' ∧ pre (pick ix (ss.map SV.arg ++ dS ++ us.map SV.arg)) ∧ ∀ ds, post (pick ix (ss.map SV.arg ++ dS ++ us.map SV.arg)) ds → Q (.d (.obj C ds))) :
    DE K (tMakeK C n l (spI K C N' pre post) gV E t tk) es Q :=
  de_make (gS := fun ss us => pick ix (ss ++ dS ++ us)) (fun a b _ _ => hg_make hd hgV a b) h
theorem svi {N M L : AP} {H0 H : Hp} {i : Int} {vs : List V} {ss : List SV} (t : SvAll K N M L H0 H vs ss) : SvAll K N M L H0 H (.int i :: vs) (.d (.int i) :: ss) := .cons (Is.int i) t
theorem svt {N M L : AP} {H0 H : Hp} {a : Addr} (h : ∀ H : Hp, SqT K H a []) {vs : List V} {ss : List SV} (t : SvAll K N M L H0 H vs ss) : SvAll K N M L H0 H (.ref a :: vs) (.d (.tup []) :: ss) := .cons (Is.tup0 (h H)) t
theorem sqt_of {a : Addr} {o : Obj} {m : Nat} (h : K.lookup a = some o) (h1 : o.cls = .type "tuple") (h2 : o.data = .seq #[] m) : ∀ H : Hp, SqT K H a [] := fun H => .inr ⟨o, #[], m, h, h1, h2, Nat.zero_le _, .nil⟩
end
end DL
namespace DL
open PySem PySem.Spec PyProof.Rows L2
variable [Tbl]
section
variable {K : PySem.W.Frag} {D : Addr}
theorem kwd_nil : ∀ q ∈ ([] : List (Str × V)), ∃ u, PySem.W.nsIn K D q.1 = some (some u) ∧ RelV q.2 u := fun q h => by cases h
theorem kwd_cons {x : Str} {v : V} {u : Value} {l : List (Str × V)} (h : PySem.W.nsIn K D x = some (some u)) (r : RelV v u) (t : ∀ q ∈ l, ∃ u, PySem.W.nsIn K D q.1 = some (some u) ∧ RelV q.2 u) : ∀ q ∈ (x, v) :: l, ∃ u, PySem.W.nsIn K D q.1 = some (some u) ∧ RelV q.2 u := fun q hq => by
  rcases List.mem_cons.mp hq with rfl | hq
  · exact ⟨u, h, r⟩
  · exact t q hq
def rShr : R2 := rI (fun _ j => 0 ≤ j) fun i j => .int (i / 2 ^ j.toNat)
def rAnd : R2 := rI0 fun i j => .int (Builtin.bitAnd i j)
end
end DL

namespace DL
open PySem PySem.Spec PyProof.Rows L2
variable [Tbl]
/-! ### promises with a thing that tells the arguments -/
def spQ {α : Type} (K : PySem.W.Frag) (n : Nat) (args : α → List SV) (pre : α → Prop) (post : α → SV → Prop) : Sp := fun vs H Q E => ∃ x : α, spD K n (fun ss => ss = args x ∧ pre x) (fun _ r => post x r) vs H Q E
section
variable {α : Type} {K : PySem.W.Frag} {N L M : AP} {H0 H1 H H' : Hp} {σ : L2.St} {es : Env'} {ta : TE} {tr : TA} {Q : SV → Prop} {t : TS} {n : Nat} {args : α → List SV} {pre : α → Prop} {post : α → SV → Prop} {C : Addr} {m : Str}
theorem spQ.len {vs : List V} {R : VK} {E : XK} (h : spQ K n args pre post vs H R E) : vs.length = n := by
  obtain ⟨x, h⟩ := h
  exact spD.len h
theorem bodyQ {names : List Str} {vs : List V} {R : VK} {E : XK} (h : spQ K n args pre post vs H R E) (hb : ∀ x, pre x → DS K t (startE names.length (args x)) { nx := fun _ => post x (.d .non), rt := post x }) :
    t { nx := fun _ H' => R .non H', rt := R } (L2.start names vs) H := by
  obtain ⟨x, h⟩ := h
  exact body_of h fun ss hl hp => by
    obtain ⟨rfl, hp⟩ := hp
    exact hb x hp
theorem de_callQ {E : XK} (h : DA K tr es fun ss => nownAll ss ∧ ∃ x, ss.map SV.arg = args x ∧ ss.length = n ∧ pre x ∧ ∀ r, post x r → Q r) : DE K (tCall (spQ K n args pre post) [] E tr) es Q := fun P N M L σ H S R k => by
  refine h P N M L σ H S _ fun ss vs H1 k1 o1 q1 => ?_
  obtain ⟨hn, x, e, hl, hp, q⟩ := q1
  rw [List.append_nil]
  have a := o1.args S.bs k1 hn
  refine ⟨x, M, L, ss.map SV.arg, k1.bs S.bs, a, by rw [List.length_map]; exact hl, ⟨e, hp⟩, fun r v H' k2 o2 q2 => ?_⟩
  exact k r v H' (k1.trans k2) ((SvOk.noN o2).back k1) (q r q2)
theorem de_callNQ {n m N' : Nat} {t tk : TA} {ix : List Nat} {dv : List V} {dS : List SV} {E : XK} (hd : ∀ (N M L : AP) (H0 H : Hp), SvAll K N M L H0 H dv dS)
    (h : DA K t es fun ss => DA K tk es fun us => nownAll ss ∧ nownAll us ∧ ss.length = n ∧ us.length = m ∧ ∃ x, pick ix (ss.map SV.arg ++ dS ++ us.map SV.arg) = args x ∧ (args x).length = N' ∧ pre x ∧ ∀ r, post x r → Q r) :
    DE K (tCallN n m (spQ K N' args pre post) (fun vs zs => pick ix (vs ++ dv ++ zs)) E t tk) es Q := fun P N M L σ H S R k => by
  refine h P N M L σ H S _ fun ss vs H1 k1 o1 q1 => ?_
  refine q1 P N M L σ H1 (S.kp k1) _ fun us zs H2 k2 o2 q2 => ?_
  obtain ⟨n1, n2, l1, l2, x, e, l3, hp, q⟩ := q2
  have k12 := k1.trans k2
  refine ⟨by rw [o1.len]; exact l1, by rw [o2.len]; exact l2, x, M, L, _, k12.bs S.bs, ((((o1.kp S.bs k1 k2).args S.bs k12 n1).append (hd NO M L H2 H2)).append (o2.args (k1.bs S.bs) k2 n2)).pick ix, by rw [e]; exact l3, ⟨e, hp⟩, fun r v H' k3 o3 q3 => ?_⟩
  exact k r v H' (k12.trans k3) ((SvOk.noN o3).back k12) (q r q3)
/-- o.m(..), a method of its class -/
theorem de_methQ {E : XK} (h : DE K ta es fun s => ∃ ds, s = .d (.obj C ds) ∧ ds.lookup m = none ∧ DA K tr es fun ss => nownAll ss ∧ ∃ x, s :: ss.map SV.arg = args x ∧ (args x).length = n ∧ pre x ∧ ∀ r, post x r → Q r) : DE K (tMeth C m (spQ K n args pre post) [] E ta tr) es Q := fun P N M L σ H S R k => by
  refine h P N M L σ H S _ fun s v H1 k1 ok q => ?_
  obtain ⟨ds, rfl, hl, q⟩ := q
  have ok' : Is K M H1 v (.obj C ds) := ok
  have hv := ok'
  cases ok' with
  | obj h1 h2 h3 =>
    refine ⟨_, _, _, rfl, h1, h3.lookN hl, q P N M L σ H1 (S.kp k1) _ fun ss vs H2 k2 o2 q2 => ?_⟩
    obtain ⟨hn, x, e, hlen, hp, q2⟩ := q2
    rw [List.append_nil]
    have bs1 := k1.bs S.bs
    refine ⟨x, M, L, .d (.obj C ds) :: ss.map SV.arg, k2.bs bs1, .cons (Is.kp k2 bs1 hv) (o2.args bs1 k2 hn), by rw [e]; exact hlen, ⟨e, hp⟩, fun r w H3 k3 o3 q3 => ?_⟩
    exact k r w H3 ((k1.trans k2).trans k3) ((SvOk.noN o3).back (k1.trans k2)) (q2 r q3)
theorem pick_self {α : Type} (ix : List Nat) (x : α) (l : List α) : pick (0 :: ix.map (· + 1)) (x :: l) = x :: pick ix l := by
  unfold pick
  rw [List.filterMap_cons]
  show x :: _ = _
  rw [List.filterMap_map]
  rfl
theorem hgv {ix : List Nat} {dv : List V} (x : V) (vs zs : List V) : (fun vs zs => pick (0 :: ix.map (· + 1)) (vs ++ dv ++ zs)) (x :: vs) zs = x :: pick ix (vs ++ dv ++ zs) := pick_self ix x (vs ++ dv ++ zs)
end
end DL

namespace DL
open PySem PySem.Spec PyProof.Rows L2
variable [Tbl]
/-! ### what is let out -/
abbrev XP := Addr → Str → D → Prop
def XOk (K : PySem.W.Frag) (F : Fr) (E : XK) (xp : XP) : Prop := ∀ (C dd : Addr) (f : Str) (v : V) (d : D) (H' : Hp), Kp F.L F.H0 H' → F.H0 dd = none → H' dd = some (.xd [(f, v)]) → Is K F.M0 H' v d → xp C f d → E (.ref C) (some dd) H'
def spX {α : Type} (K : PySem.W.Frag) (n : Nat) (args : α → List SV) (pre : α → Prop) (post : α → SV → Prop) (xp : α → XP) : Sp := fun vs H Q E => ∃ (x : α) (M L : AP), Bs L M H ∧ SvAll K NO M L H H vs (args x) ∧ (args x).length = n ∧ pre x ∧ (∀ r v H', Kp L H H' → SvOk K NO M L H H' v r → post x r → Q v H') ∧ XOk K ⟨M, L, H⟩ E (xp x)
/-- defs that may let an own error out, where no repr is under way -/
structure FnX (P : Program) (w : World) (K : PySem.W.Frag) (mg : Str → Option Value) (base : Heap) (k : Nat) (f : Addr) (fd : FuncData) (ps : List Str) (sp : Sp) : Prop where
  len : ∀ vs H Q E, sp vs H Q E → vs.length = ps.length
  run : ∀ (A : Around) (fr : List Env) (s : Shared) (H : Hp) (ar : Args) (us : List Value) (vs : List V) (Q : VK) (E : XK), A.guards = some [] → Room k A → Env0 P w K mg base A fr s H →
    BindsTo s fd ar (ps.zip us) → Vals vs us → sp vs H Q E → codeAny (model P w) A (.call (.ref f) ar) (CR (L2.CX P w) fr P w H s Q E) s
section
variable {P : Program} {w : World} {K : PySem.W.Frag} {mg : Str → Option Value} {base : Heap}
theorem okX0 {k : Nat} {f : Addr} {name qual : Str} {params : Arguments} {body : List Stmt} {scope : Scope} {dV kV doc pm cdv ct oc : Value} {an od : Option Addr}
    {osl : Array (Option Value)} {N ps : List Str} {sp : Sp} (lk : K.lookup f = some ⟨oc, od, .func (PySem.W.fnOf name qual params body scope dV kV doc pm an cdv ct), osl⟩) (hcd : PySem.W.codeIn K cdv qual = true) (S : FnScope N ps scope)
    (len : ∀ vs H Q E, sp vs H Q E → vs.length = ps.length)
    (hbody : ∀ (A : Around) (outer : List Env) (s : Shared) (H : Hp) (vs : List V) (Q : VK) (E : XK), A.guards = some [] → Room k (A.deeper (envOfC qual scope s.heap.objs.size f cdv)) → sp vs H Q E →
      ∃ t, PSs (cxOf (L2.CX P w) P w K mg base N qual scope f cdv A outer s H E) body t ∧ t { nx := fun _ H' => Q .non H', rt := Q } (start N vs) H) :
    FnX P w K mg base (k + 1) f (PySem.W.fnOf name qual params body scope dV kV doc pm an cdv ct) ps sp := by
  refine ⟨len, fun A outer s H args us vs Q E hg hr e0 hb r hsp => ?_⟩
  have hl := len _ _ _ _ hsp
  have KX : K.In s.heap := e0.mod.kin.keeps fun b o e => (e0.bs b o e).1
  have lim : s.heap.NoLimit := e0.mod.nolimit.keeps fun b o e => (e0.bs b o e).1
  have hkind : ∀ y ∈ ps.zip us, scope.names.lookup y.1 = some .local ∨ (scope.names.lookup y.1 = some .cell ∧ ((cellsFrom (s.heap.objs.size + 1) scope.names []).lookup y.1).isSome = true) := fun ⟨n, v⟩ hy => by
    rcases S.par n (List.of_mem_zip hy).1 with q | q
    · exact .inl q
    · exact .inr ⟨q, PySem.W.cellsFrom_some _ _ _ (.inl q)⟩
  refine codeAny_call_function hr.depth (KX _ _ lk) rfl S.co S.gen rfl (PySem.W.codeRec_of KX hcd) (hb _ _ _ _ ?_)
  refine wpAny_newFunctionEnv_cells S.kind hkind fun env he s1 x => ?_
  subst he
  refine ⟨lim.keeps x.toInCall.keep, codeAny_func ?_⟩
  obtain ⟨t, ht, hq⟩ := hbody A outer s H vs Q E hg (hr.deeper _) hsp
  have I : Inv (cxOf (L2.CX P w) P w K mg base N qual scope f cdv A outer s H E) [] (start N vs) H s1 := inv_start S hr.hd e0 hl r x
  refine wpAny_mono (ht.run [] s1 (start N vs) H _ I hq) (fun fl s' hs => ?_) fun e s' hs => hs
  have fin : ∀ {σ' : L2.St} {H' : Hp} {v : V} {u : Value}, Inv (cxOf (L2.CX P w) P w K mg base N qual scope f cdv A outer s H E) [] σ' H' s' → RelV v u → Q v H' → CE outer P w H s Q u s' :=
    fun {σ' H' v u} J rv q => ⟨v, H', J.os, J.bare, J.base, J.hok, rv, q⟩
  cases fl with
  | ret u =>
    obtain ⟨v, σ', H', J, rv, q⟩ := hs
    exact fin J rv q
  | next =>
    obtain ⟨σ', H', J, q⟩ := hs
    exact fin (v := V.non) (u := Value.none) J rfl q
  | brk =>
    obtain ⟨_, _, _, q⟩ := hs
    exact False.elim q
  | cont =>
    obtain ⟨_, _, _, q⟩ := hs
    exact False.elim q
theorem okX {x qual : Str} {st : Stmt} {f : Addr} {fd : FuncData} {N ps : List Str} {k : Nat} {sp : Sp} (F : Fun K x qual st f fd) (S : FnScope N ps (defScope st)) (len : ∀ vs H Q E, sp vs H Q E → vs.length = ps.length)
    (hb : ∀ (cdv : Value) (A : Around) (fr : List Env) (s : Shared) (H : Hp) (vs : List V) (Q : VK) (E : XK), A.guards = some [] → Room k (A.deeper (envOfC qual (defScope st) s.heap.objs.size f cdv)) → sp vs H Q E →
      ∃ t, PSs (cxOf (L2.CX P w) P w K mg base N qual (defScope st) f cdv A fr s H E) (defBody st) t ∧ t { nx := fun _ H' => Q .non H', rt := Q } (start N vs) H) : FnX P w K mg base (k + 1) f fd ps sp := by
  obtain ⟨oc, od, kV, doc, pm, an, cdv, ct, osl, rfl, lk, hcd⟩ := F.ex
  exact okX0 lk hcd S len fun A fr s H vs Q E => hb cdv A fr s H vs Q E
theorem okXD {x qual : Str} {st : Stmt} {f : Addr} {fd : FuncData} {N ps : List Str} {k : Nat} {sp : Sp} {dvs : List V} {kws : List (Str × V)} (F : FunD K x qual (defArgs st) (defBody st) (defScope st) dvs kws f fd) (S : FnScope N ps (defScope st)) (len : ∀ vs H Q E, sp vs H Q E → vs.length = ps.length)
    (hb : ∀ (cdv : Value) (A : Around) (fr : List Env) (s : Shared) (H : Hp) (vs : List V) (Q : VK) (E : XK), A.guards = some [] → Room k (A.deeper (envOfC qual (defScope st) s.heap.objs.size f cdv)) → sp vs H Q E →
      ∃ t, PSs (cxOf (L2.CX P w) P w K mg base N qual (defScope st) f cdv A fr s H E) (defBody st) t ∧ t { nx := fun _ H' => Q .non H', rt := Q } (start N vs) H) : FnX P w K mg base (k + 1) f fd ps sp := by
  obtain ⟨oc, od, dV, kV, doc, pm, an, cdv, ct, osl, rfl, lk, hcd, _, _⟩ := F.ex
  exact okX0 lk hcd S len fun A fr s H vs Q E => hb cdv A fr s H vs Q E
theorem FnX.mono {j k : Nat} {f : Addr} {fd : FuncData} {ps : List Str} {sp : Sp} (F : FnX P w K mg base j f fd ps sp) (h : j ≤ k) : FnX P w K mg base k f fd ps sp :=
  ⟨F.len, fun A fr s H ar us vs Q E hg hr => F.run A fr s H ar us vs Q E hg (hr.mono h)⟩
end
/-! ### calls of such: what is raised goes by W -/
def tCallNS (n m : Nat) (sp : Sp) (gV : List V → List V → List V) (W : WX) (t tk : TA) : TE := fun σ H Q => t σ H fun vs H1 => tk σ H1 fun zs H2 => vs.length = n ∧ zs.length = m ∧ sp (gV vs zs) H2 Q (WE W σ)
def tMakeS (C : Addr) (n m : Nat) (sp : Sp) (gV : List V → List V → List V) (W : WX) (t tk : TA) : TE := fun σ H Q => t σ H fun vs H1 => tk σ H1 fun zs H2 => vs.length = n ∧ zs.length = m ∧ ∀ x dx, H2 x = none → H2 dx = none → dx ≠ x →
  sp (gV (.ref x :: vs) zs) (L2.upd (L2.upd H2 dx (.own x)) x (.ins C dx [])) (fun v H3 => v = .non ∧ Q (.ref x) H3) (WE W σ)
section
variable {X : Cx} {k n : Nat} {f C : Addr} {fd : FuncData} {ps ks : List Str} {sp : Sp} {x : Str} {p pos : Pos} {e : Expr} {es : List Expr} {kws : List Keyword} {t tk : TA} {g : List Value → List Value → List Value} {gV : List V → List V → List V} {W : WX}
theorem runX {pins : List (Addr × Obj)} {σ : L2.St} {H : Hp} {s : Shared} {Q : VK} {us us' : List Value} {vs : List V} {kw : List (Str × Value)} (F : FnX X.prog X.w X.K X.mg X.base k f fd ps sp) (hr : Room k X.A) (gu : X.A.guards = some []) (tk : Takes X W)
    (I : Inv X pins σ H s) (hb : BindsTo s fd ⟨us', kw⟩ (ps.zip us)) (r : Vals vs us) (h : sp vs H Q (WE W σ)) : wpAny (model X.prog X.w) X.A (call (.ref f) us' kw) (EP X pins σ Q) X.xe s := by
  refine wpAny_call (codeAny_mono (F.run X.A X.stack s H _ us vs Q (WE W σ) gu hr I.env0 hb r h) ?_)
  intro res s' hq
  match res, hq with
  | .ok (.ret u), hq => exact I.after hq
  | .ok .next, hq => exact hq.elim
  | .ok .brk, hq => exact hq.elim
  | .ok .cont, hq => exact hq.elim
  | .error e, hq => exact passAt tk σ pins H s e s' I hq
/-- f(e, .., k = v, ..) -/
theorem pe_callXN (F : FnX X.prog X.w X.K X.mg X.base k f fd ps sp) (hr : Room k X.A) (gu : X.A.guards = some []) (tW : Takes X W) (hg : Gl X x) (hm : X.mg x = some (.ref f)) (hk : PySem.W.keepIn X.K (.ref f) = true) (hb : KBn X.K fd ps n ks g gV)
    (ha : PA X (e :: es) t) (hkw : PK X kws tk) (hall : (backToKw pos (keywordEach kws X.env)).all (·.1.isSome) = true := by rfl) (hks : (backToKw pos (keywordEach kws X.env)).filterMap (·.1) = ks := by rfl)
    (hdb : (x == ("__debug__" : Str)) = false := by decide) (he : starEach (e :: es) X.env = (false, eval e X.env) :: starEach es X.env := by rfl)
    (hpl : ((backTo pos (starEach (e :: es) X.env)).any (·.1) || (backToKw pos (keywordEach kws X.env)).any (·.1.isNone)) = false := by rfl) :
    PE X (.Call (.Name x p) (e :: es) kws pos) (tCallNS n ks.length sp gV W t tk) := by
  refine ⟨fun pins s σ H Q I h => ?_⟩
  refine wpAny_Call_Name_kw (ld_glob I hg hm ?_ hdb)
  refine PySem.W.callWith_KW (h₀ := X.base) I.ok.mod.kin hk hall (thn (ha.run pos pins s σ H _ I h) fun us s1 ⟨vs, H1, I1, r, q⟩ => ?_) hpl he
  refine thn (hkw.run pos pins s1 σ H1 _ I1 q) fun ws s2 ⟨zs, H2, I2, rz, l1, l2, q2⟩ => ⟨I2.kIn, ?_⟩
  rw [hks]
  exact runX F hr gu tW I2 (hb.to s2 us ws I2.kIn (r.length.symm.trans l1) (rz.length.symm.trans l2)) (hb.rel r rz) q2
/-- f(k = v, ..) -/
theorem pe_callX0N (F : FnX X.prog X.w X.K X.mg X.base k f fd ps sp) (hr : Room k X.A) (gu : X.A.guards = some []) (tW : Takes X W) (hg : Gl X x) (hm : X.mg x = some (.ref f)) (hk : PySem.W.keepIn X.K (.ref f) = true) (hb : KBn X.K fd ps 0 ks g gV)
    (hkw : PK X kws tk) (hall : (backToKw pos (keywordEach kws X.env)).all (·.1.isSome) = true := by rfl) (hks : (backToKw pos (keywordEach kws X.env)).filterMap (·.1) = ks := by rfl) (hdb : (x == ("__debug__" : Str)) = false := by decide)
    (hpl : ((backTo pos (starEach [] X.env)).any (·.1) || (backToKw pos (keywordEach kws X.env)).any (·.1.isNone)) = false := by rfl) : PE X (.Call (.Name x p) [] kws pos) (tCallNS 0 ks.length sp gV W tNil tk) := by
  constructor
  intro pins s σ H Q I h
  refine wpAny_Call_Name_kw (ld_glob I hg hm ?_ hdb)
  refine PySem.W.callWith_KW0 (h₀ := X.base) I.ok.mod.kin hk hall ?_ hpl
  refine thn (hkw.run pos pins s σ H _ I h) ?_
  rintro ws s2 ⟨zs, H2, I2, rz, l1, l2, q2⟩
  refine ⟨I2.kIn, ?_⟩
  rw [hks]
  exact runX F hr gu tW I2 (hb.to s2 [] ws I2.kIn rfl (rz.length.symm.trans l2)) (hb.rel .nil rz) q2
/-- f(e, ..) -/
theorem pe_callXP (F : FnX X.prog X.w X.K X.mg X.base k f fd ps sp) (hr : Room k X.A) (gu : X.A.guards = some []) (tW : Takes X W) (hg : Gl X x) (hm : X.mg x = some (.ref f)) (hk : PySem.W.keepIn X.K (.ref f) = true) (hb : KBn X.K fd ps n [] g gV)
    (ha : PA X (e :: es) t) (hdb : (x == ("__debug__" : Str)) = false := by decide) (he : starEach (e :: es) X.env = (false, eval e X.env) :: starEach es X.env := by rfl) (hpl : (backTo pos (starEach es X.env)).any (·.1) = false := by rfl) :
    PE X (.Call (.Name x p) (e :: es) [] pos) (tCallNS n 0 sp gV W t tNil) := by
  constructor
  intro pins s σ H Q I h
  refine wpAny_Call_Name_kw (ld_glob I hg hm ?_ hdb)
  refine PySem.W.callWith_K (h₀ := X.base) I.ok.mod.kin hk (thn (ha.run pos pins s σ H _ I h) ?_) he hpl
  rintro us s1 ⟨vs, H1, I1, r, l1, l2, q⟩
  exact ⟨I1.kIn, runX (kw := []) F hr gu tW I1 (hb.to s1 us [] I1.kIn (r.length.symm.trans l1) rfl) (hb.rel r .nil) q⟩
theorem run_makeX {pins : List (Addr × Obj)} {σ : L2.St} {H : Hp} {s : Shared} {Q : VK} {us ws : List Value} {vs zs : List V} (M : Mk X.K C f) (F : FnX X.prog X.w X.K X.mg X.base k f fd ps sp) (hr : Room (k + 1) X.A) (gu : X.A.guards = some []) (tW : Takes X W) (hb : KBn X.K fd ps (n + 1) ks g gV)
    (I : Inv X pins σ H s) (r : Vals vs us) (rz : Vals zs ws) (l1 : vs.length = n) (l2 : zs.length = ks.length)
    (h : ∀ x dx, H x = none → H dx = none → dx ≠ x → sp (gV (.ref x :: vs) zs) (L2.upd (L2.upd H dx (.own x)) x (.ins C dx [])) (fun v H2 => v = .non ∧ Q (.ref x) H2) (WE W σ)) :
    wpAny (model X.prog X.w) X.A (call (.ref C) us (ks.zip ws)) (EP X pins σ Q) X.xe s := by
  have hq := h (s.heap.objs.size + 1) s.heap.objs.size (I.hok.fresh (Nat.le_succ _)) (I.hok.fresh (Nat.le_refl _)) (Nat.ne_of_lt (Nat.lt_succ_self _))
  have I2 := Inv.made (C := C) I
  have r1 : Vals (V.ref (s.heap.objs.size + 1) :: vs) (Value.ref (s.heap.objs.size + 1) :: us) := .cons rfl r
  have r2 := hb.rel r1 rz
  have n1 : (Value.ref (s.heap.objs.size + 1) :: us).length = n + 1 := by
    rw [List.length_cons, ← r.length, l1]
  have gu2 : (X.A.under (.builtin "type.__call__" ⟨.ref C :: us, ks.zip ws⟩)).guards = some [] := by
    first | exact gu | (simpa [Around.under, Code.isGuard, guardIds] using gu)
  refine wpAny_call (make_map (f := f) I.kIn M.makes M.init (beq_iff_eq.mp M.fn) (codeAny_mono (F.run _ X.stack _ _ ⟨Value.ref (s.heap.objs.size + 1) :: us, ks.zip ws⟩ (g (Value.ref (s.heap.objs.size + 1) :: us) ws) _ _ (WE W σ) gu2 (hr.make C us (ks.zip ws))
    (I2.env0.make C us (ks.zip ws)) (hb.to _ (Value.ref (s.heap.objs.size + 1) :: us) ws I2.kIn n1 (rz.length.symm.trans l2)) r2 hq) fun r s' hq' => ?_))
  cases r with
  | error e => exact passAt tW σ pins _ _ e s' I2 hq'
  | ok fl =>
    cases fl with
    | ret u =>
      obtain ⟨v, H', I3, rv, ev, q3⟩ := I2.after hq'
      subst ev
      exact ⟨rv, ⟨V.ref (s.heap.objs.size + 1), H', I3, rfl, q3⟩⟩
    | next => exact False.elim hq'
    | brk => exact False.elim hq'
    | cont => exact False.elim hq'
/-- C(e, .., k = v, ..) -/
theorem pe_makeXN (M : Mk X.K C f) (F : FnX X.prog X.w X.K X.mg X.base k f fd ps sp) (hr : Room (k + 1) X.A) (gu : X.A.guards = some []) (tW : Takes X W) (hg : Gl X x) (hm : X.mg x = some (.ref C)) (hb : KBn X.K fd ps (n + 1) ks g gV) (ha : PA X (e :: es) t) (hkw : PK X kws tk)
    (hall : (backToKw pos (keywordEach kws X.env)).all (·.1.isSome) = true := by rfl) (hks : (backToKw pos (keywordEach kws X.env)).filterMap (·.1) = ks := by rfl) (hdb : (x == ("__debug__" : Str)) = false := by decide)
    (he : starEach (e :: es) X.env = (false, eval e X.env) :: starEach es X.env := by rfl) (hpl : ((backTo pos (starEach (e :: es) X.env)).any (·.1) || (backToKw pos (keywordEach kws X.env)).any (·.1.isNone)) = false := by rfl) :
    PE X (.Call (.Name x p) (e :: es) kws pos) (tMakeS C n ks.length sp gV W t tk) := by
  refine ⟨fun pins s σ H Q I h => ?_⟩
  refine wpAny_Call_Name_kw (ld_glob I hg hm ?_ hdb)
  refine PySem.W.callWith_KW (h₀ := X.base) I.ok.mod.kin M.kp hall (thn (ha.run pos pins s σ H _ I h) fun us s1 ⟨vs, H1, I1, r, q⟩ => ?_) hpl he
  refine thn (hkw.run pos pins s1 σ H1 _ I1 q) fun ws s2 ⟨zs, H2, I2, rz, l1, l2, q2⟩ => ⟨I2.kIn, ?_⟩
  rw [hks]
  exact run_makeX M F hr gu tW hb I2 r rz l1 l2 q2
/-- C(e, ..), defaults fill up -/
theorem pe_makeXP (M : Mk X.K C f) (F : FnX X.prog X.w X.K X.mg X.base k f fd ps sp) (hr : Room (k + 1) X.A) (gu : X.A.guards = some []) (tW : Takes X W) (hg : Gl X x) (hm : X.mg x = some (.ref C)) (hb : KBn X.K fd ps (n + 1) [] g gV) (ha : PA X (e :: es) t)
    (hdb : (x == ("__debug__" : Str)) = false := by decide) (he : starEach (e :: es) X.env = (false, eval e X.env) :: starEach es X.env := by rfl) (hpl : (backTo pos (starEach es X.env)).any (·.1) = false := by rfl) :
    PE X (.Call (.Name x p) (e :: es) [] pos) (tMakeS C n 0 sp gV W t tNil) := by
  refine ⟨fun pins s σ H Q I h => ?_⟩
  refine wpAny_Call_Name_kw (ld_glob I hg hm ?_ hdb)
  refine PySem.W.callWith_K (h₀ := X.base) I.ok.mod.kin M.kp (thn (ha.run pos pins s σ H _ I h) ?_) he hpl
  rintro us s1 ⟨vs, H1, I1, r, l1, l2, q⟩
  exact ⟨I1.kIn, run_makeX (ks := []) (ws := []) (zs := []) M F hr gu tW hb I1 r .nil l1 rfl q⟩
end
/-! ### raise C(e), C an own ValueError of one field -/
def spErr (C : Addr) (f : Str) : Sp := fun vs H Q _ => ∃ (a : Addr) (y : V), vs = [.ref a, y] ∧ H a = some (exo a C none) ∧ ∀ dx, H dx = none → dx ≠ a → Q .non (L2.upd (L2.upd H dx (exd dx [(f, y)])) a (exo a C (some dx)))
/-- what is known of the class -/
structure ErrC (K : PySem.W.Frag) (mg : Str → Option Value) (x : Str) (C fI : Addr) (f : Str) : Prop where
  o : OexC K C
  g : mg x = some (.ref C)
  noF : PySem.W.findIn K (.ref C) f = some none
  iC : PySem.W.findIn K (.ref C) "__init__" = some (some (.ref fI))
  tI : PySem.W.typeIn K (.ref fI) = some (.type "function")
  gaC : PySem.W.findIn K (.ref C) "__getattribute__" = some (some (.builtin "BaseException.__getattribute__"))
  ggC : PySem.W.findIn K (.ref C) "__getattr__" = some none
  hdC : PySem.W.hasDictIn K C = true
def tRaiseE (C : Addr) (f : Str) (W : WX) (ta : TA) : TS := fun _ σ H => tMkO C (spErr C f) [] ta σ H fun cls d H' => W cls d σ H'
theorem ps_raiseE {X : Cx} {W : WX} {x f : Str} {C fI : Addr} {fd : FuncData} {ps : List Str} {k : Nat} {e : Expr} {ta : TA} {p pos pos2 : Pos} (hc : X.calm = true) (T : ErrC X.K X.mg x C fI f) (F1 : FnOk X.prog X.w X.K X.mg X.base CX0 k fI fd ps (spErr C f)) (hr : Room (k + 1) X.A) (hb : Binds X.K fd ps []) (tk : Takes X W) (ha : PA X [e] ta)
    (hg : Gl X x) (hdb : (x == ("__debug__" : Str)) = false := by decide) (he : starEach (e :: []) X.env = (false, eval e X.env) :: starEach [] X.env := by rfl) (hpl : (backTo pos (starEach [] X.env)).any (·.1) = false := by rfl) :
    PS X (.Raise (some (.Call (.Name x p) [e] [] pos)) none pos2) (tRaiseE C f W ta) :=
  ps_raise hc tk (pmk_oex T.o T.iC T.tI F1 hr hb .nil (fun _ _ _ _ _ _ _ h => h.elim) hg T.g ha hdb he hpl)
end DL

namespace DL
open PySem PySem.Spec PyProof.Rows L2
variable [Tbl]
abbrev wOut (E : XK) : WX := fun cls d _ H => E cls d H
/-- W takes what may be raised at these slots, from this heap on -/
def WOk (K : PySem.W.Frag) (M L : AP) (σ : L2.St) (H : Hp) (xp : XP) (W : WX) : Prop := ∀ (C dd : Addr) (f : Str) (v : V) (d : D) (H' : Hp), Kp L H H' → H dd = none → H' dd = some (.xd [(f, v)]) → Is K M H' v d → xp C f d → W (.ref C) (some dd) σ H'
def DSX (K : PySem.W.Frag) (tb : WX → TS) (es : Env') (B : DEnds) (xp : XP) : Prop := ∀ F P M L σ H, Stf K F P M L σ H es → ∀ E : Ends, EOk K F P B E → ∀ W : WX, WOk K M L σ H xp W → tb W E σ H
def DEX (K : PySem.W.Frag) (te : WX → TE) (es : Env') (Q : SV → Prop) (xp : XP) : Prop := ∀ P N M L σ H, Sts K P N M L σ H es → ∀ W : WX, WOk K M L σ H xp W → ∀ R : VK, (∀ s v H', Kp L H H' → SvOk K N M L H H' v s → Q s → R v H') → te W σ H R
section
variable {K : PySem.W.Frag} {F : Fr} {P : List Pin} {N L M : AP} {H0 H1 H H' : Hp} {σ : L2.St} {es : Env'} {ta te : TE} {tt : TT} {t u t1 : TS} {tr tk : TA} {Q : SV → Prop} {C : Addr} {f m : Str} {B : DEnds} {xp xp' : XP}
theorem XOk.mono {E : XK} (h : XOk K F E xp) (q : ∀ C f d, xp' C f d → xp C f d) : XOk K F E xp' := fun C dd f v d H' k n e i z => h C dd f v d H' k n e i (q C f d z)
theorem WOk.at {W : WX} (h : WOk K M L σ H xp W) (k : Kp L H H') : WOk K M L σ H' xp W := fun C dd f v d H2 k2 n e i z => h C dd f v d H2 (k.trans k2) (k.was n) e i z
theorem ds_ofX {E : XK} {tb : WX → TS} (h : DSX K tb es B xp) (q : ∀ F, B.xo F → XOk K F E xp) : DS K (tb (wOut E)) es B := fun F P M L σ H S E' o =>
  h F P M L σ H S E' o (wOut E) fun C dd f v d H' k n e i z => q F o.xo C dd f v d H' (S.up k) (S.was n) e (Is.sub S.m0 i) z
theorem dsx_drop {te : WX → TE} (h : DEX K te es (fun _ => B.nx es) xp) : DSX K (fun W => tDrop (te W)) es B xp := fun F P M L σ H S E o W w =>
  h P _ M L σ H S.st W w _ fun s v H' k ok q => o.nx es M L σ H' (S.kp' k) q
theorem dsx_set {te : WX → TE} {i : Nat} (h : DEX K te es (fun s => s.nown ∧ B.nx (es.set i (some s.sto))) xp) : DSX K (fun W => tAsg (te W) (gName i)) es B xp := fun F P M L σ H S E o W w =>
  h P _ M L σ H S.st W w _ fun s v H' k ok q => by
    obtain ⟨M', S'⟩ := S.store (i := i) k ok q.1
    exact o.nx _ _ _ _ _ S' q.2
theorem dsx_ret {te : WX → TE} (h : DEX K te es (fun s => s.ret ∧ B.rt s.out) xp) : DSX K (fun W => tRet (te W)) es B xp := fun F P M L σ H S E o W w =>
  h P _ M L σ H S.st W w _ fun s v H' k ok q => o.rt s.out v H' (S.up k) (ok.leave S k q.1) q.2
theorem dsx_raise (h : DE K te es fun s => ∃ d, s.dat = some d ∧ xp C f d) : DSX K (fun W => tRaiseE C f W (tCons te tNil)) es B xp := fun F P M L σ H S E o W w => by
  show tMkO C (spErr C f) [] (tCons te tNil) σ H (fun cls d H' => W cls d σ H')
  show tCons te tNil σ H _
  refine (da_cons (tr := tNil) (Q := fun ss => ∃ s d, ss = [s] ∧ s.dat = some d ∧ xp C f d) (DE.mono h fun s ⟨d, h1, h2⟩ => da_nil ⟨s, d, rfl, h1, h2⟩)) P _ M L σ H S.st _ fun ss vs H1 k1 oss q => ?_
  obtain ⟨s, d, rfl, hd, hx⟩ := q
  obtain ⟨v, rfl, hv⟩ := oss.one
  refine ⟨by show 1 ≤ 1000; decide, fun a ha => ⟨a, v, rfl, upd_same, fun dx hdx hne => ?_⟩⟩
  have hdx1 : H1 dx = none := by rw [upd_ne hne] at hdx; exact hdx
  refine ⟨rfl, dx, [(f, v)], upd_same, by rw [upd_ne hne, upd_same], hdx1, ?_⟩
  have e : L2.upd (del (L2.upd (L2.upd (L2.upd H1 a (exo a C none)) dx (exd dx [(f, v)])) a (exo a C (some dx))) a) dx (.xd [(f, v)]) = L2.upd H1 dx (.xd [(f, v)]) := by
    funext b
    by_cases hb : b = dx
    · rw [hb, upd_same, upd_same]
    · rw [upd_ne hb, upd_ne hb]
      by_cases hba : b = a
      · rw [hba, del_same, ha]
      · rw [del_ne hba, upd_ne hba, upd_ne hb, upd_ne hba]
  rw [e]
  have bs1 := k1.bs S.st.bs
  have kn := Kp.new (o := .xd [(f, v)]) bs1 hdx1
  exact w C dx f v d _ (k1.trans kn) (k1.was hdx1) upd_same (Is.kp kn bs1 (hv.data S.st.bs hd)) hx
theorem spX.len {α : Type} {n : Nat} {args : α → List SV} {pre : α → Prop} {post : α → SV → Prop} {xp : α → XP} {vs : List V} {R : VK} {E : XK} (h : spX K n args pre post xp vs H R E) : vs.length = n := by
  obtain ⟨x, M, L, _, h2, h3, _⟩ := h
  rw [h2.len, h3]
theorem bodyX {α : Type} {n : Nat} {args : α → List SV} {pre : α → Prop} {post : α → SV → Prop} {xp : α → XP} {names : List Str} {vs : List V} {R : VK} {E : XK} (h : spX K n args pre post xp vs H R E)
    (hb : ∀ x, pre x → DS K t (startE names.length (args x)) { nx := fun _ => post x (.d .non), rt := post x, xo := fun F => XOk K F E (xp x) }) : t { nx := fun _ H' => R .non H', rt := R } (L2.start names vs) H := by
  obtain ⟨x, M, L, bs, hv, hl, hp, q, hxo⟩ := h
  have hb' := hb x hp
  generalize hss : args x = ss at hv hl hb'
  have no_ : ∀ (i : Nat) (s : SV), (startE names.length ss)[i]? = some (some s) → ss[i]? = some s := fun i s e => by
    unfold startE at e
    by_cases hi : i < ss.length
    · rw [List.getElem?_append_left (by simpa using hi), List.getElem?_map] at e
      cases z : ss[i]? with
      | none => rw [z] at e; cases e
      | some y => rw [z] at e; cases e; rfl
    · rw [List.getElem?_append_right (by simpa using hi), List.getElem?_replicate] at e
      split at e <;> cases e
  have nown : ∀ (i : Nat) (xs : List D), ss[i]? ≠ some (.own xs) := fun i xs e => by
    obtain ⟨v, _, _, _, _, _, n, _⟩ := hv.get e
    exact n
  have sl : ∀ (i : Nat) (v : V), vs[i]? = some v → (L2.start names vs)[i]? = some (some v) := fun i v e => by
    have hi := (List.getElem?_eq_some_iff.mp e).1
    unfold L2.start
    rw [List.getElem?_append_left (by simpa using hi), List.getElem?_map, e]
    rfl
  have S : Stf K ⟨M, L, H⟩ [] M L (L2.start names vs) H (startE names.length ss) := by
    refine ⟨⟨bs, ?_, fun i s e => ?_, fun p hp => absurd hp (by simp), fun i j a xs ys _ e _ _ => absurd (no_ i _ e) (nown i xs)⟩, bs, Kp.refl bs, fun _ h => h, fun _ h => h, fun _ h => .inl h⟩
    · unfold L2.start startE
      rw [List.length_append, List.length_append, List.length_map, List.length_map, List.length_replicate, List.length_replicate, hv.len]
    · obtain ⟨v, h1, h2⟩ := hv.get (no_ i s e)
      exact ⟨v, sl i v h1, h2.noN⟩
  refine hb' ⟨M, L, H⟩ [] M L _ H S _ ⟨fun e M' L' σ' H' S' z => ?_, fun s v H' k ok z => q s v H' k ok z, fun _ _ _ _ _ _ z => z, fun _ _ _ _ _ _ z => z, hxo⟩
  exact q (.d .non) .non H' S'.kp Is.non z
/-- f(..) -/
theorem dex_call {α : Type} {n m N' : Nat} {args : α → List SV} {pre : α → Prop} {post : α → SV → Prop} {xq : α → XP} {t tk : TA} {ix : List Nat} {dv : List V} {dS : List SV} (hd : ∀ (N M L : AP) (H0 H : Hp), SvAll K N M L H0 H dv dS)
    (h : DA K t es fun ss => DA K tk es fun us => nownAll ss ∧ nownAll us ∧ ss.length = n ∧ us.length = m ∧ ∃ x, pick ix (ss.map SV.arg ++ dS ++ us.map SV.arg) = args x ∧ (args x).length = N' ∧ pre x ∧ (∀ r, post x r → Q r) ∧ ∀ C f d, xq x C f d → xp C f d) :
    DEX K (fun W => tCallNS n m (spX K N' args pre post xq) (fun vs zs => pick ix (vs ++ dv ++ zs)) W t tk) es Q xp := fun P N M L σ H S W w R k => by
  refine h P N M L σ H S _ fun ss vs H1 k1 o1 q1 => ?_
  refine q1 P N M L σ H1 (S.kp k1) _ fun us zs H2 k2 o2 q2 => ?_
  obtain ⟨n1, n2, l1, l2, x, e, l3, hp, q, qx⟩ := q2
  have k12 := k1.trans k2
  refine ⟨by rw [o1.len]; exact l1, by rw [o2.len]; exact l2, x, M, L, k12.bs S.bs, by rw [← e]; exact ((((o1.kp S.bs k1 k2).args S.bs k12 n1).append (hd NO M L H2 H2)).append (o2.args (k1.bs S.bs) k2 n2)).pick ix, l3, hp, fun r v H' k3 o3 q3 => ?_, fun C dd f v d H' k3 n3 e3 i3 z => ?_⟩
  · exact k r v H' (k12.trans k3) ((SvOk.noN o3).back k12) (q r q3)
  · exact w C dd f v d H' (k12.trans k3) (k12.was n3) e3 i3 (qx C f d z)
/-- what __init__ promises, or refuses -/
def spIX {α : Type} (K : PySem.W.Frag) (C : Addr) (n : Nat) (args : α → List SV) (pre : α → Prop) (post : α → List (Str × D) → Prop) (xp : α → XP) : Sp := fun vs H Q E => ∃ (y : α) (H1 : Hp) (M L : AP) (x dx : Addr) (ws : List V), vs = .ref x :: ws ∧ Bs L M H1 ∧ H1 x = none ∧ H1 dx = none ∧ dx ≠ x ∧ H = L2.upd (L2.upd H1 dx (.own x)) x (.ins C dx []) ∧
  SvAll K NO M L H1 H1 ws (args y) ∧ (args y).length = n ∧ pre y ∧ (∀ (ds : List (Str × D)) (fs : List (Str × V)) (H' : Hp), Kp L H1 H' → H' x = some (.ins C dx fs) → IsFs K M H' fs ds → post y ds → Q .non H') ∧ XOk K ⟨M, L, H1⟩ E (xp y)
theorem spIX.len {α : Type} {n : Nat} {args : α → List SV} {pre : α → Prop} {post : α → List (Str × D) → Prop} {xp : α → XP} {vs : List V} {Q : VK} {E : XK} (h : spIX K C n args pre post xp vs H Q E) : vs.length = n + 1 := by
  obtain ⟨_, _, _, _, _, _, ws, rfl, _, _, _, _, _, h2, h3, _⟩ := h
  rw [List.length_cons, h2.len, h3]
theorem dex_make {α : Type} {n l N' : Nat} {args : α → List SV} {pre : α → Prop} {post : α → List (Str × D) → Prop} {xq : α → XP} {ix : List Nat} {dv : List V} {dS : List SV} {gV : List V → List V → List V} (hd : ∀ (N M L : AP) (H0 H : Hp), SvAll K N M L H0 H dv dS) (hgV : ∀ (x : V) (vs zs : List V), gV (x :: vs) zs = x :: pick ix (vs ++ dv ++ zs))
    (h : DA K tr es fun ss => DA K tk es fun us => nownAll ss ∧ nownAll us ∧ ss.length = n ∧ us.length = l ∧ ∃ y, pick ix (ss.map SV.arg ++ dS ++ us.map SV.arg) = args y ∧ (args y).length = N' ∧ pre y ∧ (∀ ds, post y ds → Q (.d (.obj C ds))) ∧ ∀ C f d, xq y C f d → xp C f d) :
    DEX K (fun W => tMakeS C n l (spIX K C N' args pre post xq) gV W tr tk) es Q xp := fun P N M L σ H S W w R k => by
  refine h P N M L σ H S _ fun ss vs H1 k1 o1 q1 => ?_
  refine q1 P N M L σ H1 (S.kp k1) _ fun us zs H2 k2 o2 q2 => ?_
  obtain ⟨n1, n2, l1, l2, y, e, l3, hp, q, qx⟩ := q2
  have k12 := k1.trans k2
  have bs2 := k12.bs S.bs
  refine ⟨by rw [o1.len]; exact l1, by rw [o2.len]; exact l2, fun x dx nx ndx ne => ?_⟩
  have a1 := (o1.kp S.bs k1 k2).args S.bs k12 n1
  have a2 := o2.args (k1.bs S.bs) k2 n2
  refine ⟨y, H2, M, L, x, dx, _, hgV _ _ _, bs2, nx, ndx, ne, rfl, by rw [← e]; exact ((a1.append (hd NO M L H2 H2)).append a2).pick ix, l3, hp, fun ds fs H' k3 hx hfs hpost => ⟨rfl, ?_⟩, fun C dd f v d H' k3 n3 e3 i3 z => ?_⟩
  · exact k (.d (.obj C ds)) (.ref x) H' (k12.trans k3) (Is.obj hx (fresh_nm bs2 nx) hfs) (q ds hpost)
  · exact w C dd f v d H' (k12.trans k3) (k12.was n3) e3 i3 (qx C f d z)
/-- within __init__: self stands at x with the fields ds -/
def DIX (K : PySem.W.Frag) (x C dx : Addr) (t : TS) (ds : List (Str × D)) (es : Env') (post : List (Str × D) → Prop) (xo : Fr → Prop) : Prop :=
  ∀ F P M L σ H fs, Stf K F P M L σ H es → xo F → M x → ¬ L x → F.H0 x = none → H x = some (.ins C dx fs) → IsFs K M H fs ds → ∀ E : Ends,
    (∀ σ' H' fs' ds', Kp F.L F.H0 H' → H' x = some (.ins C dx fs') → IsFs K F.M0 H' fs' ds' → post ds' → E.nx σ' H') → t E σ H
variable {xo : Fr → Prop} {x dx : Addr} {ds : List (Str × D)} {post : List (Str × D) → Prop}
theorem dix_next (h : post ds) : DIX K x C dx tNext ds es post xo := fun F P M L σ H fs S xf m l n hx hf E k => k σ H fs ds S.kp hx (IsFs.chg (fun a o e q => ⟨e, fun z => q (S.m0 a z)⟩) (TK.refl K H) _ _ hf) h
/-- a test that refuses -/
theorem dix_if (h : DT K tt es fun b => if b = true then DS K t1 es { nx := fun _ => False, rt := fun _ => False, xo := xo } else DIX K x C dx u ds es post xo) : DIX K x C dx (tSeq (tIfS tt t1 tNext) u) ds es post xo := fun F P M L σ H fs S xf m l n hx hf E k => by
  refine h P _ M L σ H S.st _ fun b H1 k1 hb => ?_
  cases b with
  | true =>
    rw [if_pos rfl] at hb ⊢
    exact hb F P M L σ H1 (S.kp' k1) _ ⟨fun _ _ _ _ _ _ z => z.elim, fun _ _ _ _ _ z => z.elim, fun _ _ _ _ _ _ z => z.elim, fun _ _ _ _ _ _ z => z.elim, xf⟩
  | false =>
    rw [if_neg Bool.false_ne_true] at hb ⊢
    have hf1 : IsFs K M H1 fs ds := IsFs.chg (fun a o e q => ⟨k1.k a o (fun z => q (S.st.bs.lm a z)) e, q⟩) (sqt_keep (M := M) (fun b o q e => k1.k b o (fun z => q (S.st.bs.lm b z)) e) S.st.bs.tr) _ _ hf
    exact hb F P M L σ H1 fs (S.kp' k1) xf m l n (k1.k _ _ l hx) hf1 E k
/-- self.f = e -/
theorem dix_fld (e0 : es[0]? = some (some (.cls x))) (cl : Cls K C) (na : NoAttr K C f) (hl : ds.length < 1000) (hd : ds.lookup f = none) (h : DE K te es fun s => ∃ d, s = .d d ∧ DIX K x C dx u (ds ++ [(f, d)]) es post xo) : DIX K x C dx (tSeq (sFld K (tVar 0) te f) u) ds es post xo := fun F P M L σ H fs S xf m l n hx hf E k => by
  refine h P _ M L σ H S.st _ fun s v H1 k1 ok q => ?_
  obtain ⟨d, rfl, q⟩ := q
  have hf1 : IsFs K M H1 fs ds := IsFs.chg (fun a o e q => ⟨k1.k a o (fun z => q (S.st.bs.lm a z)) e, q⟩) (sqt_keep (M := M) (fun b o q e => k1.k b o (fun z => q (S.st.bs.lm b z)) e) S.st.bs.tr) _ _ hf
  have hx1 := k1.k _ _ l hx
  have S1 := S.kp' k1
  obtain ⟨w, hw, ew⟩ := S1.st.ok 0 _ e0
  have ew : w = .ref x := ew
  subst ew
  refine ⟨.ref x, hw, x, C, dx, fs, rfl, hx1, cl, na, by rw [hf1.len]; exact hl, ?_⟩
  rw [putF_new (hf1.lookN hd)]
  obtain ⟨S2, ki⟩ := S1.st.updX (gs := fs ++ [(f, v)]) m l hx1
  have kf : IsFs K M (L2.upd H1 x (.ins C dx (fs ++ [(f, v)]))) fs ds := IsFs.chg (fun a o e q => ⟨by rw [upd_ne (fun y => q (by rw [y]; exact m))]; exact e, q⟩) (sqt_keep (M := M) (fun b o q e => by rw [upd_ne (fun y => q (by rw [y]; exact m))]; exact e) S1.st.bs.tr) _ _ hf1
  have S3 : Stf K F P M L σ (L2.upd H1 x (.ins C dx (fs ++ [(f, v)]))) es := ⟨S2, S1.bs0, ⟨fun b o lb e => by rw [upd_ne (fun y => by rw [y, n] at e; cases e)]; exact S1.kp.k b o lb e, fun b lb => by
    exact (S1.kp.b b lb).upd (fun y => (S1.kp.b b lb).no (by rw [y]; exact hx1) (fun _ _ z => by cases z) (fun _ z => by cases z)) (fun q e => by rw [hx1] at e; unfold LamX.CodeO at e; cases e)⟩, S1.m0, S1.lo, S1.ln⟩
  exact q F P M L σ _ _ S3 xf m l n upd_same (kf.append' (ki ok)) E k
/-- an __init__'s body -/
theorem init_ofX {α : Type} {n : Nat} {args : α → List SV} {pre : α → Prop} {post : α → List (Str × D) → Prop} {xp : α → XP} {names : List Str} {vs : List V} {R : VK} {E : XK} (h : spIX K C n args pre post xp vs H R E) (hb : ∀ x dx y, pre y → DIX K x C dx t [] (some (.cls x) :: startE (names.length - 1) (args y)) (post y) (fun F => XOk K F E (xp y))) (hnm : 1 ≤ names.length) :
    t { nx := fun _ H' => R .non H', rt := R } (L2.start names vs) H := by
  obtain ⟨y, H1, M, L, x, dx, ws, rfl, bs, nx, ndx, ne, rfl, hv, hl, hp, q, hxo⟩ := h
  generalize hss : args y = ss at hv hl
  have k1 := Kp.new (o := .own x) bs ndx
  have nx2 : (L2.upd H1 dx (.own x)) x = none := by rw [upd_ne (Ne.symm ne)]; exact nx
  have k2 := Kp.new (o := .ins C dx []) (k1.bs bs) nx2
  have kp := k1.trans k2
  have no_ : ∀ (i : Nat) (s : SV), (startE (names.length - 1) ss)[i]? = some (some s) → ss[i]? = some s := fun i s e => by
    unfold startE at e
    by_cases hi : i < ss.length
    · rw [List.getElem?_append_left (by simpa using hi), List.getElem?_map] at e
      cases z : ss[i]? with
      | none => rw [z] at e; cases e
      | some y => rw [z] at e; cases e; rfl
    · rw [List.getElem?_append_right (by simpa using hi), List.getElem?_replicate] at e
      split at e <;> cases e
  have nown : ∀ (i : Nat) (xs : List D), ss[i]? ≠ some (.own xs) := fun i xs e => by
    obtain ⟨v, _, _, _, _, _, n, _⟩ := hv.get e
    exact n
  have nown2 : ∀ (i : Nat) (xs : List D), (some (SV.cls x) :: startE (names.length - 1) ss)[i]? ≠ some (some (.own xs)) := fun i xs e => by
    cases i with
    | zero => cases e
    | succ i => exact nown i xs (no_ i _ (by simpa using e))
  have sl : ∀ (i : Nat) (v : V), (V.ref x :: ws)[i]? = some v → (L2.start names (V.ref x :: ws))[i]? = some (some v) := fun i v e => by
    have hi := (List.getElem?_eq_some_iff.mp e).1
    unfold L2.start
    rw [List.getElem?_append_left (by simpa using hi), List.getElem?_map, e]
    rfl
  have bsx : Bs L (M.add x) (L2.upd (L2.upd H1 dx (.own x)) x (.ins C dx [])) := by
    have b2 := kp.bs bs
    refine ⟨fun a l => .inl (b2.lm a l), fun a o m e => ?_, fun a m => ?_, b2.bag, b2.tb⟩
    · rcases m with m | rfl
      · exact b2.tr a o m e
      · rw [upd_same] at e
        cases e
        exact True.intro
    · rcases m with m | rfl
      · exact b2.tk a m
      · exact ⟨_, upd_same⟩
  have S : Stf K ⟨M, L, H1⟩ [] (M.add x) L (L2.start names (V.ref x :: ws)) (L2.upd (L2.upd H1 dx (.own x)) x (.ins C dx [])) (some (.cls x) :: startE (names.length - 1) ss) := by
    refine ⟨⟨bsx, ?_, fun i s e => ?_, fun p hp => absurd hp (by simp), fun i j a xs ys _ e _ _ => absurd e (nown2 i xs)⟩, bs, kp, fun _ h => .inl h, fun _ h => h, fun _ h => .inl h⟩
    · unfold L2.start startE
      rw [List.length_append, List.length_map, List.length_replicate, List.length_cons, List.length_cons, List.length_append, List.length_map, List.length_replicate, hv.len]
      omega
    · cases i with
      | zero =>
        cases e
        exact ⟨.ref x, sl 0 _ rfl, rfl⟩
      | succ i =>
        obtain ⟨v, h1, h2⟩ := hv.get (no_ i s (by simpa using e))
        exact ⟨v, sl (i + 1) v (by simpa using h1), (h2.noN).lift bs kp nx⟩
  have hb' := hb x dx y hp
  rw [hss] at hb'
  refine hb' ⟨M, L, H1⟩ [] (M.add x) L _ _ [] S hxo (.inr rfl) (fun l => fresh_nm bs nx (bs.lm x l)) nx upd_same .nil _ fun σ' H' fs' ds' k hx hf hpost => q ds' fs' H' k hx hf hpost
end
end DL

namespace DL
open PySem PySem.Spec PyProof.Rows L2
variable [Tbl]
/-! ### except C as e: others = isinstance(e, (..)); return 'else' if others or not isinstance(e, ValueError) else e.f -/
def rIsX1 (K : PySem.W.Frag) (a : Addr) (cls : Value) (d : Option Addr) : List V → Hp → VK → Prop := fun xs H Q => ∃ (D dd : Addr) (fs : List (Str × V)) (c : V) (u : Value) (b : Bool), cls = .ref D ∧ d = some dd ∧ H dd = some (.xd fs) ∧ ExcC K D ∧ xs = [.ref a, c] ∧ ClsV c u ∧ PySem.W.kitOne K (.ref D) u = some b ∧ Q (.bl b) H
def rIsXT (K : PySem.W.Frag) (a : Addr) (cls : Value) (d : Option Addr) : List V → Hp → VK → Prop := fun xs H Q => ∃ (D dd tp : Addr) (fs : List (Str × V)) (cs : List V) (us : List Value) (b : Bool), cls = .ref D ∧ d = some dd ∧ H dd = some (.xd fs) ∧ ExcC K D ∧ xs = [.ref a, .ref tp] ∧ H tp = some (.tup cs) ∧ PySem.Paired ClsV cs us ∧ PySem.W.kitAny K (.ref D) us = some b ∧ Q (.bl b) H
section
variable {X : Cx} {a : Addr} {oe : Obj} {cls : Value} {d : Option Addr} {pn : List (Addr × Obj)}
theorem inst_of {pins : List (Addr × Obj)} {σ : L2.St} {H : Hp} {s : Shared} {D dd : Addr} {fs : List (Str × V)} (I : Inv (X.suite a ((a, oe) :: pn)) pins σ H s) (hz : Zc cls d oe) (hf : ∃ vs, oe.data = .fields vs) (ec : cls = .ref D) (ed : d = some dd) (ea : H dd = some (.xd fs)) : ∃ od, PySem.W.InstAt s.heap a oe D (some od) := by
  subst ec
  subst ed
  obtain ⟨ha, _⟩ := I.pin (a, oe) (List.mem_append_left _ List.mem_cons_self)
  obtain ⟨vs, hd⟩ := hf
  have hx : ObjOk X.prog X.w H s.heap dd (.xd fs) := I.hok dd _ ea
  obtain ⟨mA, hns, hr⟩ := hx
  obtain ⟨od, ho, hl⟩ := lookIn_ns hns
  exact ⟨od, ha, hz.1, by unfold PySem.W.notCls; rw [hd] <;> rfl, by rw [hz.2]; exact ho⟩
theorem kitE {K : PySem.W.Frag} {x D : Addr} {ox : Obj} {od : Option Obj} (C : ExcC K D) : PySem.W.KitX K (.ref x) (.ref D) (fun h => PySem.W.InstAt h x ox D od) :=
  PySem.W.kitx_exc (by obtain ⟨cd, hc, _⟩ := PySem.W.any_some C.hd; rw [hc]; rfl) C.hg C.hk C.hs C.ha C.hn C.ht C.hm
theorem call_isX1 (hz : Zc cls d oe) (hf : ∃ vs, oe.data = .fields vs) : CallR (X.suite a ((a, oe) :: pn)) (.builtin "isinstance") (rIsX1 X.K a cls d) := by
  intro pins s σ H xs us Q I r h
  obtain ⟨D, dd, fs, c, u, b, ec, ed, ea, C, rfl, k, e, q⟩ := h
  obtain ⟨u1, u2, rfl, r1, r2⟩ := vals2 r
  cases (show u1 = Value.ref a from r1)
  have e2 := k.eq r2
  subst e2
  obtain ⟨od, J⟩ := inst_of I hz hf ec ed ea
  exact PySem.W.kia_one (kitE C) I.kIn J e (fun z => nomatch z) fun tk => ⟨.bl b, H, I.kept (t' := tk) fun _ _ z => z, rfl, q⟩
theorem call_isXT (hz : Zc cls d oe) (hf : ∃ vs, oe.data = .fields vs) : CallR (X.suite a ((a, oe) :: pn)) (.builtin "isinstance") (rIsXT X.K a cls d) := by
  intro pins s σ H xs us Q I r h
  obtain ⟨D, dd, tp, fs, cs, ws, b, ec, ed, ea, C, rfl, hT, k, e, q⟩ := h
  obtain ⟨u1, u2, rfl, r1, r2⟩ := vals2 r
  cases (show u1 = Value.ref a from r1)
  cases (show u2 = Value.ref tp from r2)
  obtain ⟨od, J⟩ := inst_of I hz hf ec ed ea
  obtain ⟨_, its, rv, o, h1, h2, n, h3⟩ := (show ObjOk X.prog X.w H s.heap tp (.tup cs) from I.hok tp _ hT)
  have e3 := ClsV.all k rv
  subst e3
  obtain ⟨oc, od2, dt, sl⟩ := o
  simp only at h2 h3
  subst h2 h3
  exact PySem.W.kia_tup (kitE C) I.kIn J h1 e (fun z => nomatch z) fun tk => ⟨.bl b, H, I.kept (t' := tk) fun _ _ z => z, rfl, q⟩
end
def tConsL : List V → TA
  | [] => tNil
  | v :: vs => tCons (tC v) (tConsL vs)
theorem tConsL_ok {σ : L2.St} {H : Hp} : ∀ {vs : List V} {Q : List V → Hp → Prop}, Q vs H → tConsL vs σ H Q
  | [], Q, h => h
  | v :: vs, Q, h => tConsL_ok (vs := vs) (Q := fun ws H' => Q (v :: ws) H') h
def tSuite (K : PySem.W.Frag) (i j : Nat) (Cs : List V) (C : Addr) (f : Str) : Addr → Value → Option Addr → TS := fun a cls d =>
  tSeq (tAsg (tCB (rIsXT K a cls d) (tCons (tVar i) (tCons (tTup (tConsL Cs)) tNil))) (gName j)) (tRet (tIf (tOr (tB (tVar j)) (tNot (tB (tCB (rIsX1 K a cls d) (tCons (tVar i) (tCons (tC (.ty "ValueError")) tNil)))))) (tC (.str "else")) (tXf a cls d C f (tVar i))))
/-- what must hold of the class at C, that the others aren't it -/
structure SuiteF (K : PySem.W.Frag) (Cs : List V) (C : Addr) : Prop where
  ex : ExcC K C
  all : ∃ us, PySem.Paired ClsV Cs us ∧ PySem.W.kitAny K (.ref C) us = some false
  ve : PySem.W.kitOne K (.ref C) (.type "ValueError") = some true
  me : PySem.W.exmOne K (.ref C) (.ref C) = some true
def tTryE (K : PySem.W.Frag) (i j : Nat) (Cs : List V) (C : Addr) (f : Str) (tb : WX → TS) : TS := fun D σ H => tb (wAs K (.ref C) i (tSuite K i j Cs C f) (fun _ _ _ _ => False) D) D σ H
theorem ds_tryE {K : PySem.W.Frag} {es : Env'} {B : DEnds} {xp : XP} {i j : Nat} {Cs : List V} {C : Addr} {f : Str} {tb : WX → TS} (sf : SuiteF K Cs C) (hi : i < es.length) (hj : j < es.length) (hij : i ≠ j) (hl : Cs.length ≤ 100)
    (hb : DSX K tb es B xp) (hx : ∀ C' f' d, xp C' f' d → C' = C ∧ f' = f ∧ B.rt (.d d)) : DS K (tTryE K i j Cs C f tb) es B := fun F P M L σ H S E o => by
  refine hb F P M L σ H S E o _ fun C' dd f' v d H' k n e iv z => ?_
  obtain ⟨rfl, rfl, q⟩ := hx C' f' d z
  refine ⟨true, sf.me, fun _ a ha => ?_, fun z => by cases z⟩
  have li : i < σ.length := by rw [S.st.len]; exact hi
  have lj : j < (σ.set i (some (.ref a))).length := by rw [List.length_set, S.st.len]; exact hj
  have gi : (σ.set i (some (V.ref a)))[i]? = some (some (.ref a)) := List.getElem?_set_self li
  obtain ⟨us, pu, ku⟩ := sf.all
  refine ⟨.ref a, gi, ?_⟩
  show tCons (tTup (tConsL Cs)) tNil _ _ _
  refine tConsL_ok ?_
  refine ⟨by rw [sizeLine_eq]; omega, fun p hp => ?_⟩
  have hpd : dd ≠ p := ne_of_none e hp
  refine ⟨C', dd, p, [(f', v)], Cs, us, false, rfl, rfl, by rw [upd_ne hpd]; exact e, sf.ex, rfl, upd_same, pu, ku, ?_⟩
  have g2 : ((σ.set i (some (V.ref a))).set j (some (.bl false)))[j]? = some (some (.bl false)) := List.getElem?_set_self lj
  have g3 : ((σ.set i (some (V.ref a))).set j (some (.bl false)))[i]? = some (some (.ref a)) := by rw [List.getElem?_set_ne (Ne.symm hij)]; exact gi
  refine ⟨_, g2, false, rfl, ?_⟩
  show (if false = true then _ else _)
  rw [if_neg Bool.false_ne_true]
  refine ⟨_, g3, C', dd, [(f', v)], .ty "ValueError", .type "ValueError", true, rfl, rfl, by rw [upd_ne hpd]; exact e, sf.ex, rfl, .ty _, sf.ve, true, rfl, ?_⟩
  show (if (!true) = true then _ else _)
  rw [if_neg (by decide)]
  refine ⟨_, g3, rfl, rfl, dd, [(f', v)], v, rfl, by rw [upd_ne hpd]; exact e, by simp [List.lookup], ?_⟩
  have bs1 := k.bs S.st.bs
  have kn := Kp.new (o := .tup Cs) bs1 hp
  exact o.rt (.d d) v _ (S.up (k.trans kn)) (Is.sub S.m0 (Is.kp kn bs1 iv)) q
end DL
namespace DL
open PySem PySem.Spec PyProof.Rows L2
variable [Tbl]
abbrev W0 : WX := fun _ _ _ _ => False
theorem err_pure {K : PySem.W.Frag} {C : Addr} {f : Str} (o : OexC K C) (no : PySem.W.findIn K (.ref C) f = some none) {names : List Str} (hn : names.length = 2) {vs : List V} {H : Hp} {Q : VK} {E : XK} (h : spErr C f vs H Q E) : tOst K f (tVar 0) (tVar 1) { nx := fun _ H' => Q .non H', rt := Q } (L2.start names vs) H := by
  obtain ⟨a, y, rfl, ha, q⟩ := h
  have e : L2.start names [V.ref a, y] = [some (.ref a), some y] := by
    unfold L2.start
    rw [hn]
    rfl
  rw [e]
  exact ⟨y, rfl, .ref a, rfl, a, C, rfl, o, no, .inl ⟨ha, fun dx n ne => q dx n ne⟩⟩
theorem spErr.len {C : Addr} {f : Str} {vs : List V} {H : Hp} {Q : VK} {E : XK} (h : spErr C f vs H Q E) : vs.length = 2 := by
  obtain ⟨a, y, rfl, _⟩ := h
  rfl
section
variable {K : PySem.W.Frag} {C D : Addr}
theorem kit_ref (h1 : PySem.W.isClsIn K D = true) (h2 : PySem.W.typeIn K (.ref D) = some (.type "type")) (h0 : PySem.W.subIn K (.ref C) (.ref C) = some true) (h3 : PySem.W.subIn K (.ref C) (.ref D) = some false) : PySem.W.kitOne K (.ref C) (.ref D) = some false := by
  have ne : C ≠ D := fun e => by rw [← e, h0] at h3; cases h3
  have h1' : (PySem.W.clsIn K D).isSome = true := h1
  unfold PySem.W.kitOne
  rw [if_neg (by simpa using ne)]
  unfold PySem.W.kitCls
  show (if ((PySem.W.clsIn K D).isSome && PySem.W.typeIn K (.ref D) == some (.type "type")) = true then PySem.W.subIn K (.ref C) (.ref D) else none) = some false
  rw [h1', h2, if_pos (by simp)]
  exact h3
theorem kit_ve (h : PySem.W.subIn K (.ref C) (.type "ValueError") = some true) : PySem.W.kitOne K (.ref C) (.type "ValueError") = some true := by
  unfold PySem.W.kitOne
  rw [if_neg (by simp)]
  show (if PySem.W.kitMeta "ValueError" = true then PySem.W.subIn K (.ref C) (.type "ValueError") else none) = some true
  rw [if_pos (by decide +kernel)]
  exact h
theorem kitAny_f {t c : Value} {cs : List Value} (h : PySem.W.kitOne K t c = some false) (hr : PySem.W.kitAny K t cs = some false) : PySem.W.kitAny K t (c :: cs) = some false := by
  show (match PySem.W.kitOne K t c with | some true => some true | some false => PySem.W.kitAny K t cs | none => none) = some false
  rw [h]
  exact hr
theorem exm_self (h1 : PySem.W.subIn K (.ref C) (.type "BaseException") = some true) (h2 : PySem.W.isClsIn K C = true) (h3 : PySem.W.typeIn K (.ref C) = some (.type "type")) (h4 : PySem.W.subIn K (.ref C) (.ref C) = some true) :
    PySem.W.exmOne K (.ref C) (.ref C) = some true := by
  have e1 : (PySem.W.subIn K (.ref C) (.type "BaseException") == some true) = true := by rw [h1] <;> rfl
  have e2 : ((PySem.W.clsIn K C).isSome && PySem.W.typeIn K (.ref C) == some (.type "type")) = true := by
    have h2' : (PySem.W.clsIn K C).isSome = true := h2
    rw [h2', h3] <;> rfl
  show (if (PySem.W.subIn K (.ref C) (.type "BaseException") == some true) = true then (if ((PySem.W.clsIn K C).isSome && PySem.W.typeIn K (.ref C) == some (.type "type")) = true then PySem.W.subIn K (.ref C) (.ref C) else none) else none) = some true
  rw [if_pos e1, if_pos e2]
  exact h4
end
section
variable {K : PySem.W.Frag} {es : Env'} {Q : SV → Prop}
/-- a call that refuses nothing here -/
theorem de_ofX {te : WX → TE} (h : DEX K te es Q fun _ _ _ => False) : DE K (te W0) es Q := fun P N M L σ H S R k => h P N M L σ H S W0 (fun _ _ _ _ _ _ _ _ _ _ z => z.elim) R k
end
end DL

namespace DL
open PySem PySem.Spec PyProof.Rows L2
variable [Tbl]
/-! ### zip -/
theorem lc_zip {K : PySem.W.Frag} {a b : Addr} {xs ys : List V} {g : TG} {tt : TT} {te : TE} {vs : List Nat} {σ : L2.St} {H1 : Hp} {D : Addr} {Qd : Hp → Prop} (hl : xs.length = ys.length) (Pv : Nat → Hp → Prop) (h0 : Pv 0 (upd H1 D (.lst []))) (hq : ∀ i H, Pv i H → SqL K H a xs ∧ SqL K H b ys)
    (hs : ∀ (i : Nat) (x y : V) (T : Addr) (H : Hp), xs[i]? = some x → ys[i]? = some y → Pv i H → H T = none → g (.ref T) (wipe σ vs) (upd H T (.tup [x, y])) fun σ2 H2 => wipe σ2 vs = wipe σ vs ∧ tt σ2 H2 fun b H3 =>
      if b = true then te σ2 H3 fun y H4 => ∃ acc, H4 D = some (.lst acc) ∧ acc.length < sizeLine ∧ Pv (i + 1) (upd H4 D (.lst (acc ++ [y]))) else Pv (i + 1) H3) (hd : ∀ H, Pv xs.length H → Qd H) :
    ∃ W : Nat → Nat → Hp → Prop, (∃ m, W 0 m (upd H1 D (.lst []))) ∧ ∀ i m H, W i m H →
      ((Itz K a b).stop i H ∧ Qd H) ∨ ((Itz K a b).go i H ∧ ∃ Nx : Hp → Prop, (∀ H', Nx H' → ∃ m', m' < m ∧ W (i + 1) m' H') ∧ ∀ x H', (Itz K a b).yld i H x H' → g x (wipe σ vs) H' fun σ2 H2 => wipe σ2 vs = wipe σ vs ∧ tt σ2 H2 fun b H3 =>
        if b = true then te σ2 H3 fun y H4 => ∃ acc, H4 D = some (.lst acc) ∧ acc.length < sizeLine ∧ Nx (upd H4 D (.lst (acc ++ [y]))) else Nx H3) := by
  refine ⟨fun i m H => m = xs.length - i ∧ i ≤ xs.length ∧ Pv i H, ⟨xs.length, rfl, Nat.zero_le _, h0⟩, ?_⟩
  rintro i m H ⟨rfl, hi, p⟩
  obtain ⟨qx, qy⟩ := hq i H p
  by_cases hlt : i < xs.length
  · have hx : xs[i]? = some xs[i] := List.getElem?_eq_getElem hlt
    have hlt2 : i < ys.length := by omega
    have hy : ys[i]? = some ys[i] := List.getElem?_eq_getElem hlt2
    refine .inr ⟨⟨xs, ys, _, _, qx, qy, hx, hy⟩, Pv (i + 1), fun H' p' => ⟨xs.length - (i + 1), by omega, rfl, hlt, p'⟩, fun v H' y => ?_⟩
    obtain ⟨T, x', y', rfl, hT, rfl, f1, f2⟩ := y
    exact hs i x' y' T H (f1 xs qx) (f2 ys qy) p hT
  · have e : i = xs.length := by omega
    subst e
    exact .inl ⟨⟨xs, ys, qx, qy, Or.inl (Nat.le_refl _)⟩, hd H p⟩
section
variable {K : PySem.W.Frag} {P : List Pin} {N L M : AP} {H0 H1 H H' : Hp} {σ : L2.St} {es : Env'} {ta tb tc te : TE} {tt tu : TT} {Q : SV → Prop} {t u : TS} {B : DEnds}
theorem LcP.kp' {D0 : Addr} {J : Nat → List D → Prop} {i : Nat} (h : LcP K P N M L σ es H1 D0 J i H) (nl : ¬ L D0) (k : Kp L H H') : LcP K P N M L σ es H1 D0 J i H' := by
  obtain ⟨ws, ds, hw, iw, hj, hl⟩ := h.acc
  exact ⟨h.st.kp k, h.kp.trans k, ws, ds, k.k _ _ nl hw, IsAll.kp k h.st.bs iw, hj, hl⟩
/-- a list that is data: where it stands -/
theorem SvOk.lstD (bs0 : Bs L M H0) {v : V} {s : SV} {xs : List D} (h : SvOk K N M L H0 H v s) (e : s.dat = some (.lst xs)) : ∃ a vs, v = .ref a ∧ H a = some (.lst vs) ∧ ¬ M a ∧ IsAll K M H vs xs := by
  have hx := h.data bs0 e
  cases hx with
  | lst h1 h2 h3 => exact ⟨_, _, rfl, h1, h2, h3⟩
theorem de_lcZ {g : TG} {vs : List Nat} {tr : TA} (h : DA K tr es fun ss => ∃ s1 s2 xs ys, ss = [s1, s2] ∧ s1.dat = some (.lst xs) ∧ s2.dat = some (.lst ys) ∧ xs.length = ys.length ∧ xs.length ≤ 100000 ∧ ∃ J : Nat → List D → Prop, J 0 [] ∧
    (∀ (i : Nat) x y, xs[i]? = some x → ys[i]? = some y → LcT K g tt te vs es J i (.tup [x, y])) ∧ ∀ ds, J xs.length ds → ds.length ≤ xs.length → Q (.new ds)) : DE K (tLc (iZip K tr) g tt te vs) es Q := fun P N M L σ H S R k => by
  refine h P N M L σ H S _ fun ss us H1 k1 o1 q1 => ?_
  obtain ⟨s1, s2, xs, ys, rfl, e1, e2, hl, b, J, h0, hs, hd⟩ := q1
  obtain ⟨v, w, rfl, hv, hw⟩ := o1.two
  obtain ⟨a, ws, rfl, g1, m1, i1⟩ := hv.lstD S.bs e1
  obtain ⟨c, zs, rfl, g2, m2, i2⟩ := hw.lstD S.bs e2
  refine ⟨a, c, ws, zs, rfl, .inl (.inl g1), .inl (.inl g2), fun D0 hD => ?_⟩
  obtain ⟨p0, old, nl⟩ := lc_start (S.kp k1) hD h0
  have bs1 := (S.kp k1).bs
  have na : ¬ L a := fun l => m1 (bs1.lm _ l)
  have nc : ¬ L c := fun l => m2 (bs1.lm _ l)
  have hll : ws.length = zs.length := by rw [i1.len, i2.len, hl]
  refine lc_zip (K := K) (a := a) (b := c) (xs := ws) (ys := zs) hll (LcP K P N M L σ es H1 D0 J) p0 (fun i H p => ⟨.inl (.inl (p.kp.k a _ na g1)), .inl (.inl (p.kp.k c _ nc g2))⟩) (fun i x y T H hx hy p hT => ?_) fun H p => ?_
  · obtain ⟨dx, hdx, ix⟩ := i1.getV hx
    obtain ⟨dy, hdy, iy⟩ := i2.getV hy
    have bsD := p.st.bs
    have kn := Kp.new (o := .tup [x, y]) bsD hT
    have tr : ∀ {v : V} {d : D}, Is K M H1 v d → Is K (M.add D0) (upd H T (.tup [x, y])) v d := fun {v d} i => by
      have k2 : Kp L H1 (upd H T (.tup [x, y])) := p.kp.trans kn
      exact Is.chg (fun b o e m => ⟨k2.k b o (fun l => m (.inl (bs1.lm b l))) e, m⟩) (sqt_keep (M := M) (fun b o m e => k2.k b o (fun l => m (bs1.lm b l)) e) bs1.tr) _ _ (i.add hD)
    have hi : i < 100000 := by
      have := (List.getElem?_eq_some_iff.mp hdx).1
      omega
    exact lc_turn old nl hD hi (p.kp' nl kn) (Is.tup upd_same (.cons (tr ix) (.cons (tr iy) .nil))) (hs i dx dy hdx hdy)
  · rw [i1.len] at p
    obtain ⟨kk, ds, ok, q⟩ := lc_end k1 hD p hd
    exact k _ _ _ kk ok q
/-- for a, b in zip(two tuples) -/
theorem ds_forZT {g : TG} {tr : TA} (h : DA K tr es fun ss => ∃ xs ys, ss = [.d (.tup xs), .d (.tup ys)] ∧ xs.length = ys.length ∧ ∃ I : Nat → Env' → Prop, I 0 es ∧
    (∀ (i : Nat) x y es', xs[i]? = some x → ys[i]? = some y → I i es' → ∃ js, DG K g (.tup [x, y]) js es' fun e2 => DS K t e2 ⟨I (i + 1), B.rt, B.nx, I (i + 1), B.xo⟩) ∧ ∀ es', I xs.length es' → B.nx es') : DS K (tFor (RZ.iZipA K tr) g t) es B := fun F P M L σ H S E o => by
  refine h P _ M L σ H S.st _ fun ss us H1 k1 o1 q1 => ?_
  obtain ⟨xs, ys, rfl, hl, I, h0, hs, hd⟩ := q1
  obtain ⟨v, w, rfl, hv, hw⟩ := o1.two
  have hv : Is K M H1 v (.tup xs) := hv
  have hw : Is K M H1 w (.tup ys) := hw
  obtain ⟨a, ws, rfl, g1, i1⟩ := Is.tupS hv
  obtain ⟨c, zs, rfl, g2, i2⟩ := Is.tupS hw
  have hll : ws.length = zs.length := by rw [i1.len, i2.len, hl]
  refine ⟨a, c, ws, zs, rfl, .inr ⟨g1, g2, RZ.for_zipT (K := K) (a := a) (b := c) (xs := ws) (ys := zs) hll (fun i σ H => ∃ es' M' L', Stf K F (⟨a, ws, xs, true⟩ :: ⟨c, zs, ys, true⟩ :: P) M' L' σ H es' ∧ I i es') ⟨es, M, L, ((S.kp' k1).pin (p := ⟨c, zs, ys, true⟩) ⟨g2, i2⟩).pin ⟨g1, i1⟩, h0⟩ ?_ ?_ ?_⟩⟩
  · rintro i σ' H' ⟨es', M', L', S', hI⟩
    exact ⟨(S'.st.pin _ List.mem_cons_self).1, (S'.st.pin _ (List.mem_cons_of_mem _ List.mem_cons_self)).1⟩
  · rintro i x y T σ' H' hx hy ⟨es', M', L', S', hI⟩ hT
    obtain ⟨dx, hdx, ix⟩ := (S'.st.pin _ List.mem_cons_self).2.getV hx
    obtain ⟨dy, hdy, iy⟩ := (S'.st.pin _ (List.mem_cons_of_mem _ List.mem_cons_self)).2.getV hy
    have kn := Kp.new (o := .tup [x, y]) S'.st.bs hT
    obtain ⟨js, dg⟩ := hs i dx dy es' hdx hdy hI
    refine dg.stf (S'.kp' kn) (Is.tup upd_same (.cons (Is.kp kn S'.st.bs ix) (.cons (Is.kp kn S'.st.bs iy) .nil))) _ fun e2 σ2 S2 q => ?_
    refine q F _ M' L' σ2 _ S2 _ ?_
    exact o.pinned.pinned.turn (fun σ H => ∃ es' M' L', Stf K F (⟨a, ws, xs, true⟩ :: ⟨c, zs, ys, true⟩ :: P) M' L' σ H es' ∧ I (i + 1) es') fun e3 M3 L3 σ3 H3 S3 z => ⟨e3, M3, L3, S3, z⟩
  · rintro σ' H' ⟨es', M', L', S', hI⟩
    rw [i1.len] at hI
    exact o.nx _ _ _ _ _ S'.unpin.unpin (hd es' hI)
end
end DL

namespace DL
open PySem PySem.W PySem.Spec PyProof.Rows L2
variable [Tbl]
/-! ### a dict of the module with texts as keys: d.get(k, x) -/
theorem kd_find {prog : Program} {w : World} {A : Around} {E : Value → Shared → Prop} {s : Shared} {a : Addr} {o : Obj} {es : Array DictEntry} {ep : Nat} {k : Str} {tk : Tok} {Q : Option Value → Shared → Prop}
    (ho : s.heap.get? a = some o) (hd : o.data = .dict es ep) (hall : (es.all fun e => isExactStrKey e.key) = true) (h : Q ((es.toList.find? fun e => e.key.isStr k).map (·.val)) { heap := s.heap, gens := s.gens, drawn := s.drawn, toks := s.toks + 1, os := s.os }) :
    wpAny (model prog w) A (dictGet a (.str k tk)) Q E s := by
  unfold dictGet
  refine wpAny_holding (wpAny_bind (wpAny_pyHash_str (wpAny_bind (KTD.kt_dictFind_strs ho hd hall ?_))))
  have hf : findBy (fun k v => v.isStr k) es k = (es.toList.find? fun e => e.key.isStr k).map (·.val) := by
    cases es
    simp [findBy]
  rw [← hf, findBy_of_findIdx?] at h
  cases hi : es.findIdx? fun e => e.key.isStr k with
  | none =>
    rw [hi] at h
    exact wpAny_pure h
  | some i =>
    rw [hi] at h
    exact wpAny_bind (wpAny_dictEntries ho hd (wpAny_pure h))
theorem kd_meets {prog : Program} {w : World} {a : Addr} {k : Str} {tk : Tok} {dflt : Value} :
    MeetsIn prog w (Builtin.«dict.get» { pos := [.ref a, .str k tk, dflt] }) fun _ R s => (a == sysModules) = false ∧ ∃ o es ep, s.heap.get? a = some o ∧ o.data = .dict es ep ∧ (es.all fun e => isExactStrKey e.key) = true ∧
      R (.ok (.ret (((es.toList.find? fun e => e.key.isStr k).map (·.val)).getD dflt))) { heap := s.heap, gens := s.gens, drawn := s.drawn, toks := s.toks + 1, os := s.os } :=
  MeetsIn.of_wp fun A R s x => by
    obtain ⟨hs, o, es, ep, ho, hd, hall, h⟩ := x
    refine wpAny_bind (show wpAny _ _ (pure (a, Value.str k tk, some dflt)) _ _ s from wpAny_pure ?_)
    refine wpAny_bind (kd_find ho hd hall ?_)
    cases hv : (es.toList.find? fun e => e.key.isStr k).map (·.val) with
    | none =>
      rw [hv] at h
      exact wpAny_bind (wpAny_missed_other hs (wpAny_pure ⟨dflt, rfl, h⟩))
    | some v =>
      rw [hv] at h
      exact wpAny_pure ⟨v, rfl, h⟩
/-- texts and what stands at them, as a dict of the module holds them -/
def lookT (k : Str) : List (Str × V) → Option V
  | [] => none
  | (x, v) :: kvs => if x = k then some v else lookT k kvs
structure KDict (K : PySem.W.Frag) (a : Addr) (kvs : List (Str × V)) : Prop where
  ns : (a == sysModules) = false
  ob : ∃ o es ep, K.lookup a = some o ∧ o.cls = .type "dict" ∧ o.dict = none ∧ o.data = .dict es ep ∧ KTD.Rows (fun (v : V) (u : Value) => L2.RelV v u) es.toList kvs
theorem rows_find {l : List DictEntry} {kvs : List (Str × V)} (h : KTD.Rows (fun (v : V) (u : Value) => L2.RelV v u) l kvs) (k : Str) :
    (lookT k kvs = none ∧ (l.find? fun e => e.key.isStr k).map (·.val) = none) ∨ ∃ v u, lookT k kvs = some v ∧ (l.find? fun e => e.key.isStr k).map (·.val) = some u ∧ L2.RelV v u := by
  induction h with
  | nil => exact .inl ⟨rfl, rfl⟩
  | @cons e x t d es D hk hr _ ih =>
    have hs : e.key.isStr k = decide (x = k) := by
      rw [hk]
      first | rfl | simp [Value.isStr] | exact decide_eq_decide.mpr Iff.rfl
    by_cases hx : x = k
    · refine .inr ⟨d, e.val, ?_, ?_, hr⟩
      · show (if x = k then some d else lookT k D) = some d
        rw [if_pos hx]
      · rw [List.find?_cons_of_pos (by rw [hs]; exact decide_eq_true hx)]
        rfl
    · rw [List.find?_cons_of_neg (by rw [hs]; simp [hx])]
      have e1 : lookT k ((x, d) :: D) = lookT k D := by
        show (if x = k then some d else lookT k D) = lookT k D
        rw [if_neg hx]
      rw [e1]
      exact ih
def tKGet (kvs : List (Str × V)) (ty tx : TE) : TE := fun σ H Q => ty σ H fun y H1 => ∃ k, y = .str k ∧ tx σ H1 fun z H2 => Q ((lookT k kvs).getD z) H2
theorem pe_kget {X : Cx} {x : Str} {a : Addr} {kvs : List (Str × V)} {e f : Expr} {p apos cpos : Pos} {ty tx : TE} (D : KDict X.K a kvs) (hg : Gl X x) (hm : X.mg x = some (.ref a)) (he : PE X e ty) (hf : PE X f tx) (m : M2 X (.Name x p) "get" apos e f cpos)
    (hdb : (x == ("__debug__" : Str)) = false := by decide) :
    PE X (.Call (.Attribute (.Name x p) "get" apos) [e, f] [] cpos) (tKGet kvs ty tx) where
  run pins s σ H Q I h := by
    obtain ⟨ns, o, es, ep, ho, hc, hdd, hd, hr⟩ := D
    have hall : (es.all fun e => isExactStrKey e.key) = true := by
      have := KTD.Rows.exact hr
      cases es
      simpa using this
    refine wpAny_Call_method m.base m.few m.line F.plainAttrs_dict F.slot_dict_get F.type_dict_get ?_
    refine thn ((pe_glob (pos := p) hg hm (show L2.RelV (.ref a) (.ref a) from rfl) hdb).run pins s σ H (fun x H1 => x = .ref a ∧ ty σ H1 fun y H2 => ∃ k, y = .str k ∧ tx σ H2 fun z H3 => Q ((lookT k kvs).getD z) H3) I ⟨rfl, h⟩) ?_
    rintro u s1 ⟨_, H1, I1, rx, rfl, q1⟩
    cases rx
    obtain ⟨o1, p1, c1, d1, _⟩ := inv_k I1 ho
    refine ⟨⟨o1, p1, c1.trans hc⟩, fun b e => by cases e; exact ⟨o1, p1, d1.trans hdd⟩, ?_⟩
    rw [m.trees]
    refine Calls.callWith_builtin rfl (Calls.evalArgs_plain (Calls.spliced_cons (thn (he.run pins s1 σ H1 _ I1 q1) ?_)))
    rintro iv s2 ⟨y, H2, I2, ry, k, rfl, q2⟩
    obtain ⟨tk, rfl⟩ := ry
    refine Calls.spliced_cons (thn (hf.run pins s2 σ H2 _ I2 q2) ?_)
    rintro fv s3 ⟨z, H3, I3, rz, q3⟩
    refine Calls.spliced_nil ?_
    obtain ⟨o3, p3, c3, _, d3⟩ := inv_k I3 ho
    refine call_meetsIn F.slot_dict_get ⟨o3, p3, c3.trans hc⟩ F.entry_dict_get (F.args_dict_get_3 _ _ _) kd_meets ⟨ns, o3, es, ep, p3, d3.trans hd, hall, ?_⟩
    rcases rows_find hr k with ⟨e1, e2⟩ | ⟨v, u, e1, e2, r⟩
    · rw [e2]
      rw [e1] at q3
      exact ⟨z, H3, I3.tok _, rz, q3⟩
    · rw [e2]
      rw [e1] at q3
      exact ⟨v, H3, I3.tok _, r, q3⟩
end DL

namespace DL
open PySem PySem.W PySem.Spec PyProof.Rows L2
variable [Tbl]
/-- enumerate(t, start = c) over a tuple -/
def ItsT (K : PySem.W.Frag) (a : Addr) (c : Int) : It where
  go i H := ∃ xs x, SqT K H a xs ∧ xs[i]? = some x
  yld i H v H' := ∃ T x, v = .ref T ∧ H T = none ∧ H' = upd H T (.tup [.int (c + i), x]) ∧ ∀ xs : List V, SqT K H a xs → xs[i]? = some x
  stop i H := ∃ xs, SqT K H a xs ∧ xs.length = i
theorem turn_enumS {P : Program} {w : World} {K : PySem.W.Frag} {elts : List Expr} {kk : Nat} {tpos : Pos} {a e it : Addr} (c : Int) :
    Turn P w K (.Tuple elts kk tpos) (ItsT K a c) [e, it] e fun i h => (∃ old, IsEnum h e it (c + i) old) ∧ h.IsTupleIter it a i ∧ e ≠ it where
  mem := by simp
  obj i h st b hb := by
    obtain ⟨⟨old, he⟩, ⟨o, ho, hc, hd⟩, hne⟩ := st
    simp only [List.mem_cons, List.not_mem_nil, or_false] at hb
    rcases hb with rfl | rfl
    · exact ⟨_, he, fun v q => nomatch q⟩
    · exact ⟨o, ho, fun v q => by rw [hd] at q; cases q⟩
  keep i h h' st k := by
    obtain ⟨⟨old, he⟩, ⟨o, ho, hc, hd⟩, hne⟩ := st
    exact ⟨⟨old, k e (by simp) _ he⟩, ⟨o, k it (by simp) _ ho, hc, hd⟩, hne⟩
  item X hP hw hK hcalm i pins s σ H E I hf st hg := by
    subst hP hw hK
    obtain ⟨⟨old, he⟩, hit, hne⟩ := st
    obtain ⟨xs, x, hq, hx⟩ := hg
    obtain ⟨its, rv, p, hz⟩ := I.tuple hq
    obtain ⟨u, hu, ru⟩ := Vals.get rv hx
    obtain ⟨oi, hoi, hci, hdi⟩ := hit
    have p' := p
    obtain ⟨ot, hot, hct, _⟩ := p'
    have nia : a ≠ it := by
      rintro rfl
      rw [hot] at hoi
      injection hoi with hoi
      rw [← hoi, hct] at hci
      injection hci with hci
      exact absurd hci (by decide)
    have nea : e ≠ a := by
      rintro rfl
      have he' : s.heap.get? e = _ := he
      rw [hot] at he'
      injection he' with he'
      rw [he'] at hct
      injection hct with hct
      exact absurd hct (by decide)
    have hel := Heap.lt_size he
    have hil := Heap.lt_size hoi
    refine wpAny_pyNext_enum_itemC (Draws.tuple (show X.A.in1.handled = none from I.ok.hd hcalm) it a nia its.toArray) he ⟨⟨oi, hoi, hci, hdi⟩, p⟩ ?_ hne (by simp [hne, nea]) fun x' h' tk hx' ho hst hT hsz hk => ?_
    · have := (List.getElem?_eq_some_iff.mp hu).1
      simpa using this
    have ex : x' = u := by
      have hx' : its.toArray[i]? = some x' := hx'
      rw [List.getElem?_toArray, hu] at hx'
      injection hx' with hx'
      exact hx'.symm
    subst ex
    refine ⟨_, rfl, wpAny_letOwnedTupleGo_enum ho fun h'' he' sb => ?_⟩
    have hT2 := (sb.right s.heap.objs.size (Nat.ne_of_gt hel)).trans hT
    have new : ObjOk X.prog X.w (upd H s.heap.objs.size (.tup [.int (c + i), x])) h'' s.heap.objs.size (.tup [.int (c + i), x]) :=
      ⟨Nat.le_of_ble_eq_true rfl, [Value.int (c + i) tk, x'], .cons ⟨tk, rfl⟩ (.cons ru .nil), ⟨_, hT2, rfl, 0, rfl⟩⟩
    have I1 := Inv.turnedNew (t' := tk + 1) (ch := [e, it]) I (fun b ob hb q => by
      simp only [List.mem_cons, List.not_mem_nil, or_false, not_or] at hb
      exact (sb.right b hb.1).trans (hk b ob hb.1 hb.2 q)) hf (Nat.le_refl _) new
    refine ⟨.ref s.heap.objs.size, _, I1, rfl, ⟨_, x, rfl, I.hok.fresh (Nat.le_refl _), rfl, fun ys hy => by rw [Inv.tuple_inj I hy hq]; exact hx⟩, ⟨⟨x', ?_⟩, ?_, hne⟩, fun b hb => ?_⟩
    · have e1 : c + ((i + 1 : Nat) : Int) = c + i + 1 := by omega
      rw [e1]
      exact he'
    · obtain ⟨⟨o2, h2, c2, d2⟩, _⟩ := hst
      exact ⟨o2, (sb.right it (Ne.symm hne)).trans h2, c2, d2⟩
    · have hb' : b < s.heap.objs.size := by
        simp only [List.mem_cons, List.not_mem_nil, or_false] at hb
        rcases hb with rfl | rfl
        · exact hel
        · exact hil
      rw [upd_ne (Nat.ne_of_lt hb')]
      exact (hf b hb).1
  done X hP hw hK hcalm i pins s σ H E I hf st hg := by
    subst hP hw hK
    obtain ⟨⟨old, he⟩, hit, hne⟩ := st
    obtain ⟨xs, hq, hx⟩ := hg
    obtain ⟨its, rv, p, hz⟩ := I.tuple hq
    obtain ⟨oi, hoi, hci, hdi⟩ := hit
    have p' := p
    obtain ⟨ot, hot, hct, _⟩ := p'
    have nia : a ≠ it := by
      rintro rfl
      rw [hot] at hoi
      injection hoi with hoi
      rw [← hoi, hct] at hci
      injection hci with hci
      exact absurd hci (by decide)
    obtain ⟨f0, f1, f2, f3, f4, f5⟩ := hf it (by simp)
    have hn : i = its.toArray.size := by
      rw [← hx, Vals.length rv]
      simp
    subst hn
    exact wpAny_pyNext_enum_endD (Draws.tuple (show X.A.in1.handled = none from I.ok.hd hcalm) it a nia its.toArray) he ⟨⟨oi, hoi, hci, hdi⟩, p⟩ fun h' eb => ⟨rfl, Inv.turned I (fun b o hb q => eb b o hb q) f0 f1 f3 f4 f5⟩
  self A i s Q E st h := by
    obtain ⟨⟨old, he⟩, _⟩ := st
    exact wpAny_pyIter_enum he h
theorem callWith_tyKw {M : Model} {A : Around} {E : Value → Shared → Prop} {s : Shared} {env : Env} {pos : Pos} {T : String} {e : Expr} {rest : List Expr} {kws : List Keyword} {Q : Value → Shared → Prop}
    (h : wpAny M A (spliced (backTo pos (starEach (e :: rest) env))) (fun vs s₁ => wpAny M A (evalAll ((backToKw pos (keywordEach kws env)).map (·.2))) (fun kvs s₂ => wpAny M A (call (.type T) vs (((backToKw pos (keywordEach kws env)).filterMap (·.1)).zip kvs)) Q E s₂) E s₁) E s)
    (he : backTo pos (starEach (e :: rest) env) = (false, eval e env) :: backTo pos (starEach rest env)) (hpl : ((backTo pos (starEach (e :: rest) env)).any (·.1)) = false)
    (hall : ((backToKw pos (keywordEach kws env)).all (·.1.isSome)) = true) (hkw : ((backToKw pos (keywordEach kws env)).any (·.1.isNone)) = false) :
    wpAny M A (callWith pos (.type T) [] (backTo pos (starEach (e :: rest) env)) (backToKw pos (keywordEach kws env))) Q E s := by
  refine W.callWith_of (P := fun _ => True) (by rw [hpl, hkw]; rfl) (fun h _ => ⟨.machine, .inr (.inl rfl), W.Looks.of_pure rfl⟩) ?_
  rw [he] at h ⊢
  refine evalArgs_kwB hall (thn h fun vs s1 q => thn q fun ks s2 q2 => ?_)
  exact ⟨trivial, q2⟩
def iEnumS (K : PySem.W.Frag) (ta tk : TA) : TI := fun σ H R => ta σ H fun vs H1 => tk σ H1 fun zs H2 => ∃ a xs c, vs = [.ref a] ∧ zs = [.int c] ∧ SqT K H2 a xs ∧ -2 ^ 63 ≤ c ∧ c < 2 ^ 63 ∧ R (ItsT K a c) H2
theorem pi_enumS {X : Cx} {e : Expr} {kws : List Keyword} {ta tk : TA} {p pos tpos : Pos} {elts : List Expr} {kk : Nat} (hg : Gl X "enumerate") (hm : X.mg "enumerate" = none) (ha : PA X [e] ta) (hk : PK X kws tk)
    (he : backTo pos (starEach [e] X.env) = (false, eval e X.env) :: backTo pos (starEach [] X.env) := by rfl) (hpl : ((backTo pos (starEach [e] X.env)).any (·.1)) = false := by rfl)
    (hall : ((backToKw pos (keywordEach kws X.env)).all (·.1.isSome)) = true := by rfl) (hkw : ((backToKw pos (keywordEach kws X.env)).any (·.1.isNone)) = false := by rfl)
    (hks : (backToKw pos (keywordEach kws X.env)).filterMap (·.1) = [Str.ofString "start"] := by rfl) :
    PI X (.Tuple elts kk tpos) (.Call (.Name "enumerate" p) [e] kws pos) (iEnumS X.K ta tk) where
  run pins s σ H R I h := by
    refine wpAny_Call_Name_kw (ld_blt I hg hm boot_enumerate (callWith_tyKw (thn (ha.run pos pins s σ H _ I h) ?_) he hpl hall hkw) (by decide +kernel) (by decide +kernel))
    rintro us s1 ⟨vs, H1, I1, r1, q1⟩
    refine thn (hk.run pos pins s1 σ H1 _ I1 q1) ?_
    rintro ws s2 ⟨zs, H2, I2, r2, a, xs, c, rfl, rfl, hq, c1, c2, q⟩
    rw [hks]
    cases r1 with
    | cons r rr =>
      cases rr
      cases r2 with
      | cons r' rr' =>
        cases rr'
        cases r
        obtain ⟨t, rfl⟩ := r'
        obtain ⟨its, rv, pp, hz⟩ := I2.tuple hq
        refine enum_begins_start (begins_tuple a its.toArray) pp c1 c2 fun h' hen hit hsz hkeep => ?_
        refine wpAny_pyIter_enum hen ?_
        have I3 := Inv.kept (t' := s2.toks) I2 hkeep
        refine ⟨s2.heap.objs.size + 1, [s2.heap.objs.size + 1, s2.heap.objs.size], fun i h => (∃ old, IsEnum h (s2.heap.objs.size + 1) s2.heap.objs.size (c + i) old) ∧ h.IsTupleIter s2.heap.objs.size a i ∧ s2.heap.objs.size + 1 ≠ s2.heap.objs.size, ItsT X.K a c, H2, rfl, I3, turn_enumS c, ⟨⟨Value.none, ?_⟩, ⟨_, hit, rfl, rfl⟩, Nat.succ_ne_self _⟩, fun b hb => ?_, q⟩
        · show IsEnum h' _ _ (c + ((0 : Nat) : Int)) _
          rw [show c + ((0 : Nat) : Int) = c by omega]
          exact hen
        · have hb' : s2.heap.objs.size ≤ b := by
            simp only [List.mem_cons, List.not_mem_nil, or_false] at hb
            rcases hb with hb | hb
            · rw [hb]; exact Nat.le_succ _
            · rw [hb]; exact Nat.le_refl _
          exact I2.fpOk hb' (I2.hok.fresh hb')
theorem for_enumS {K : PySem.W.Frag} {a : Addr} {c : Int} {xs : List V} {g : TG} {tb : TS} {D : Ends} {σ : L2.St} {H : Hp} (Pv : Nat → L2.St → Hp → Prop) (h0 : Pv 0 σ H) (hq : ∀ i σ H, Pv i σ H → SqT K H a xs)
    (hs : ∀ (i : Nat) (x : V) (T : Addr) (σ : L2.St) (H : Hp), xs[i]? = some x → Pv i σ H → H T = none → g (.ref T) σ (upd H T (.tup [.int (c + i), x])) fun σ2 H2 => tb { nx := Pv (i + 1), rt := D.rt, bk := D.nx, ct := Pv (i + 1) } σ2 H2)
    (hd : ∀ σ H, Pv xs.length σ H → D.nx σ H) :
    ∃ W : Nat → Nat → L2.St → Hp → Prop, (∃ m, W 0 m σ H) ∧ ∀ i m σ H, W i m σ H → ((ItsT K a c).stop i H ∧ D.nx σ H) ∨ ((ItsT K a c).go i H ∧ ∃ N : L2.St → Hp → Prop, (∀ σ' H', N σ' H' → ∃ m', m' < m ∧ W (i + 1) m' σ' H') ∧
      ∀ v H', (ItsT K a c).yld i H v H' → g v σ H' fun σ2 H2 => tb { nx := N, rt := D.rt, bk := D.nx, ct := N } σ2 H2) := by
  refine ⟨fun i m σ H => m = xs.length - i ∧ i ≤ xs.length ∧ Pv i σ H, ⟨xs.length, rfl, Nat.zero_le _, h0⟩, ?_⟩
  rintro i m σ H ⟨rfl, hi, p⟩
  have q := hq i σ H p
  by_cases hlt : i < xs.length
  · have hx : xs[i]? = some xs[i] := List.getElem?_eq_getElem hlt
    refine .inr ⟨⟨xs, _, q, hx⟩, Pv (i + 1), fun σ' H' p' => ⟨xs.length - (i + 1), by omega, rfl, hlt, p'⟩, fun v H' y => ?_⟩
    obtain ⟨T, x', rfl, hT, rfl, f⟩ := y
    exact hs i x' T σ H (f xs q) p hT
  · have e : i = xs.length := by omega
    subst e
    exact .inl ⟨⟨xs, q, rfl⟩, hd σ H p⟩
section
variable {K : PySem.W.Frag} {es : Env'} {B : DEnds} {t : TS}
/-- for i, x in enumerate(a tuple, start = c) -/
theorem ds_forE {g : TG} {tr tk : TA} (h : DA K tr es fun ss => DA K tk es fun us => ∃ xs c, ss = [.d (.tup xs)] ∧ us = [.d (.int c)] ∧ -2 ^ 63 ≤ c ∧ c < 2 ^ 63 ∧ ∃ I : Nat → Env' → Prop, I 0 es ∧
    (∀ (i : Nat) x es', xs[i]? = some x → I i es' → ∃ js, DG K g (.tup [.int (c + i), x]) js es' fun e2 => DS K t e2 ⟨I (i + 1), B.rt, B.nx, I (i + 1), B.xo⟩) ∧ ∀ es', I xs.length es' → B.nx es') : DS K (tFor (iEnumS K tr tk) g t) es B := fun F P M L σ H S E o => by
  refine h P _ M L σ H S.st _ fun ss us H1 k1 o1 q1 => ?_
  refine q1 P _ M L σ H1 (S.kp' k1).st _ fun ss2 us2 H2 k2 o2 q2 => ?_
  obtain ⟨xs, c, rfl, rfl, c1, c2, I, h0, hs, hd⟩ := q2
  have k12 := k1.trans k2
  obtain ⟨v, rfl, hv⟩ := o1.one
  obtain ⟨w, rfl, hw⟩ := o2.one
  have hv1 : Is K M H1 v (.tup xs) := hv
  have hv2 : Is K M H2 v (.tup xs) := Is.kp k2 (S.kp' k1).st.bs hv1
  have hw : Is K M H2 w (.int c) := hw
  cases hw
  obtain ⟨a, ws, rfl, g1, i1⟩ := Is.tupS hv2
  refine ⟨a, ws, c, rfl, rfl, g1, c1, c2, for_enumS (K := K) (a := a) (c := c) (xs := ws) (fun i σ H => ∃ es' M' L', Stf K F (⟨a, ws, xs, true⟩ :: P) M' L' σ H es' ∧ I i es') ⟨es, M, L, (S.kp' k12).pin (p := ⟨a, ws, xs, true⟩) ⟨g1, i1⟩, h0⟩ ?_ ?_ ?_⟩
  · rintro i σ' H' ⟨es', M', L', S', hI⟩
    exact (S'.st.pin _ List.mem_cons_self).1
  · rintro i x T σ' H' hx ⟨es', M', L', S', hI⟩ hT
    obtain ⟨dx, hdx, ix⟩ := (S'.st.pin _ List.mem_cons_self).2.getV hx
    have kn := Kp.new (o := .tup [.int (c + i), x]) S'.st.bs hT
    obtain ⟨js, dg⟩ := hs i dx es' hdx hI
    refine dg.stf (S'.kp' kn) (Is.tup upd_same (.cons (.int _) (.cons (Is.kp kn S'.st.bs ix) .nil))) _ fun e2 σ2 S2 q => ?_
    refine q F _ M' L' σ2 _ S2 _ ?_
    exact o.pinned.turn (fun σ H => ∃ es' M' L', Stf K F (⟨a, ws, xs, true⟩ :: P) M' L' σ H es' ∧ I (i + 1) es') fun e3 M3 L3 σ3 H3 S3 z => ⟨e3, M3, L3, S3, z⟩
  · rintro σ' H' ⟨es', M', L', S', hI⟩
    rw [i1.len] at hI
    exact o.nx _ _ _ _ _ S'.unpin (hd es' hI)
/-- d.get(k, x), d a dict of the module -/
theorem de_kget {kvs : List (Str × V)} {ds : List (Str × D)} {ta tx : TE} {Q : SV → Prop} (hd : ∀ (M : AP) (H : Hp), IsFs K M H kvs ds)
    (h : DE K ta es fun s => ∃ k, s = .d (.str k) ∧ DE K tx es fun z => ∃ d, z = .d d ∧ Q (.d (((ds.find? fun p => decide (p.1 = k)).map (·.2)).getD d))) : DE K (tKGet kvs ta tx) es Q := fun P N M L σ H S R r => by
  refine h P N M L σ H S _ fun s v H1 k1 o1 q1 => ?_
  obtain ⟨k, rfl, q1⟩ := q1
  have o1' : Is K M H1 v (.str k) := o1
  cases o1'
  refine ⟨k, rfl, q1 P N M L σ H1 (S.kp k1) _ fun z w H2 k2 o2 q2 => ?_⟩
  obtain ⟨d, rfl, q2⟩ := q2
  have hl : ∀ {kvs : List (Str × V)} {ds : List (Str × D)}, IsFs K M H2 kvs ds → (lookT k kvs = none ∧ ((ds.find? fun p => decide (p.1 = k)).map (·.2)) = none) ∨ ∃ v d, lookT k kvs = some v ∧ ((ds.find? fun p => decide (p.1 = k)).map (·.2)) = some d ∧ Is K M H2 v d := by
    intro kvs
    induction kvs with
    | nil => intro ds h; cases h; exact .inl ⟨rfl, rfl⟩
    | cons p kvs ih =>
      intro ds h
      cases h with
      | @cons x v vs d ds h1 h2 =>
        by_cases hx : x = k
        · refine .inr ⟨v, d, ?_, ?_, h1⟩
          · show (if x = k then some v else lookT k kvs) = some v
            rw [if_pos hx]
          · rw [List.find?_cons_of_pos (by exact decide_eq_true hx)]
            rfl
        · rw [List.find?_cons_of_neg (by simp [hx])]
          have e1 : lookT k ((x, v) :: kvs) = lookT k kvs := by
            show (if x = k then some v else lookT k kvs) = lookT k kvs
            rw [if_neg hx]
          rw [e1]
          exact ih h2
  rcases hl (hd M H2) with ⟨e1, e2⟩ | ⟨v, d', e1, e2, i⟩
  · rw [e1]
    rw [e2] at q2
    exact r (.d d) _ H2 (k1.trans k2) o2 q2
  · rw [e1]
    rw [e2] at q2
    exact r (.d d') _ H2 (k1.trans k2) i q2
end
end DL

namespace DL
open PySem PySem.Spec PyProof.Rows L2
variable [Tbl]
/-! ### split, partition, int(text), sorted whole numbers, str of texts too, is True -/
def rSplit : V → List V → Hp → VK → Prop := fun x xs H Q => ∃ a b, x = .str a ∧ xs = [.str b] ∧ (b.length == 0) = false ∧ a.length + 2 ≤ sizeLine ∧ rNewStrs (Txt.split a b) H Q
def rPart : V → List V → Hp → VK → Prop := fun x xs H Q => ∃ a b, x = .str a ∧ xs = [.str b] ∧ (b.length == 0) = false ∧ a.length ≤ sizeLine ∧ ∀ p, H p = none → Q (.ref p) (upd H p (.tup [.str (Txt.partition a b).1, .str (Txt.partition a b).2.1, .str (Txt.partition a b).2.2]))
def rIntS : List V → Hp → VK → Prop := fun xs H Q => ∃ a n, xs = [.str a] ∧ PySem.intText? a = some n ∧ a.length ≤ 640 ∧ Q (.int n) H
def rStrS : List V → Hp → VK → Prop := fun xs H Q => ∃ a, xs = [.str a] ∧ Q (.str a) H
def rStr2 : List V → Hp → VK → Prop := fun xs H Q => rStrX xs H Q ∨ rStrS xs H Q
def rIsV : R2 := fun x y H Q => rIsX x y H Q ∨ ∃ b, y = .bl b ∧ ((∃ i, x = .int i) ∨ ∃ z, x = .str z) ∧ Q (.bl false) H
def rNotV : R2 := fun x y H Q => rNotX x y H Q ∨ ∃ b, y = .bl b ∧ ((∃ i, x = .int i) ∨ ∃ z, x = .str z) ∧ Q (.bl true) H
section
variable {X : Cx}
theorem call_intS : CallR X (.type "int") rIntS := call_int_str
theorem call_strS : CallR X (.type "str") rStrS := by
  intro pins s σ H xs us Q I r h
  obtain ⟨a, rfl, q⟩ := h
  obtain ⟨u, rfl, t, rfl⟩ := vals1 r
  exact PySem.P.str_of_str ⟨.str a, H, I, ⟨t, rfl⟩, q⟩
theorem call_str2 : CallR X (.type "str") rStr2 := call_strX.or call_strS
theorem op_isV : OpR X (compareOp .Is) rIsV := op_isX.or (by
  intro pins s σ H x y v u Q I rx ry h
  obtain ⟨b, rfl, h, q⟩ := h
  cases (show u = Value.bool b from ry)
  rcases h with ⟨i, rfl⟩ | ⟨z, rfl⟩
  · obtain ⟨t, rfl⟩ := (show ∃ t, v = Value.int i t from rx)
    exact wpAny_is_other rfl (fun z => by cases z) ⟨.bl false, H, I, rfl, q⟩
  · obtain ⟨t, rfl⟩ := (show ∃ t, v = Value.str z t from rx)
    exact wpAny_is_other rfl (fun z => by cases z) ⟨.bl false, H, I, rfl, q⟩)
theorem op_isnotV : OpR X (compareOp .IsNot) rNotV := op_isnotX.or (by
  intro pins s σ H x y v u Q I rx ry h
  obtain ⟨b, rfl, h, q⟩ := h
  cases (show u = Value.bool b from ry)
  rcases h with ⟨i, rfl⟩ | ⟨z, rfl⟩
  · obtain ⟨t, rfl⟩ := (show ∃ t, v = Value.int i t from rx)
    exact wpAny_isNot_other rfl (fun z => by cases z) ⟨.bl true, H, I, rfl, q⟩
  · obtain ⟨t, rfl⟩ := (show ∃ t, v = Value.str z t from rx)
    exact wpAny_isNot_other rfl (fun z => by cases z) ⟨.bl true, H, I, rfl, q⟩)
end
section
variable {K : PySem.W.Frag} {P : List Pin} {N L M M' : AP} {H0 H1 H H' : Hp} {σ : L2.St} {es : Env'} {ta tb tc te : TE} {tr : TA} {tt tu : TT} {Q : SV → Prop} {t u : TS} {B : DEnds}
theorem IsAll.strs : ∀ (ns : List Str), IsAll K M H (ns.map V.str) (ns.map D.str)
  | [] => .nil
  | n :: ns => .cons (.str n) (IsAll.strs ns)
theorem de_split (h : DE K ta es fun s => ∃ a : Str, s = .d (.str a) ∧ DE K te es fun z => ∃ b : Str, z = .d (.str b) ∧ (b.length == 0) = false ∧ a.length + 2 ≤ sizeLine ∧ Q (.new ((Txt.split a b).map D.str))) : DE K (tM1 rSplit ta te) es Q := fun P N M L σ H S R k => by
  refine h P N M L σ H S _ fun s v H1 k1 o1 q1 => ?_
  obtain ⟨a, rfl, q1⟩ := q1
  cases o1
  refine ⟨⟨a, rfl⟩, q1 P N M L σ H1 (S.kp k1) _ fun z w H2 k2 o2 q2 => ?_⟩
  obtain ⟨b, rfl, hb, hz, q⟩ := q2
  cases o2
  have k12 := k1.trans k2
  refine ⟨a, b, rfl, rfl, hb, hz, fun p hp => ?_⟩
  exact k (.new _) _ _ (k12.trans (Kp.new (k12.bs S.bs) hp)) ⟨p, _, rfl, k12.was hp, upd_same, IsAll.strs _⟩ q
theorem de_part (h : DE K ta es fun s => ∃ a : Str, s = .d (.str a) ∧ DE K te es fun z => ∃ b : Str, z = .d (.str b) ∧ (b.length == 0) = false ∧ a.length ≤ sizeLine ∧ Q (.d (.tup [.str (Txt.partition a b).1, .str (Txt.partition a b).2.1, .str (Txt.partition a b).2.2]))) : DE K (tM1 rPart ta te) es Q := fun P N M L σ H S R k => by
  refine h P N M L σ H S _ fun s v H1 k1 o1 q1 => ?_
  obtain ⟨a, rfl, q1⟩ := q1
  cases o1
  refine ⟨⟨a, rfl⟩, q1 P N M L σ H1 (S.kp k1) _ fun z w H2 k2 o2 q2 => ?_⟩
  obtain ⟨b, rfl, hb, hz, q⟩ := q2
  cases o2
  have k12 := k1.trans k2
  refine ⟨a, b, rfl, rfl, hb, hz, fun p hp => ?_⟩
  exact k (.d _) _ _ (k12.trans (Kp.new (k12.bs S.bs) hp)) (Is.tup upd_same (.cons (.str _) (.cons (.str _) (.cons (.str _) .nil)))) q
theorem int_s {a : Str} {n : Int} (e : PySem.intText? a = some n) (l : a.length ≤ 640) (q : Q (.d (.int n))) : RC K rIntS [.d (.str a)] Q := fun N M L H0 H vs b k o R r => by
  obtain ⟨v, rfl, hv⟩ := o.one
  cases hv
  exact ⟨a, n, rfl, e, l, r (.d (.int n)) _ H (Kp.refl (k.bs b)) (Is.int n) q⟩
theorem str_i {i : Int} (hi : i.natAbs.log2 < 1920) (q : Q (.d (.str (toString i)))) : RC K rStr2 [.d (.int i)] Q := fun N M L H0 H vs b k o R r => .inl (rc_strI hi q N M L H0 H vs b k o R r)
theorem str_s {a : Str} (q : Q (.d (.str a))) : RC K rStr2 [.d (.str a)] Q := fun N M L H0 H vs b k o R r => by
  obtain ⟨v, rfl, hv⟩ := o.one
  cases hv
  exact .inr ⟨a, rfl, r (.d (.str a)) _ H (Kp.refl (k.bs b)) (Is.str a) q⟩
theorem isv_b {a c : Bool} (q : Q (.d (.bl (decide (a = c))))) : RR K rIsV (.d (.bl a)) (.d (.bl c)) Q := rr_or1 (is_b q)
theorem isv_n {x : D} (q : Q (.d (.bl x.isNon))) : RR K rIsV (.d x) (.d .non) Q := rr_or1 (is_n q)
theorem isv_i {i : Int} {c : Bool} (q : Q (.d (.bl false))) : RR K rIsV (.d (.int i)) (.d (.bl c)) Q := fun N M L H0 H v1 v2 b k o1 o2 R r => by
  cases o1
  cases o2
  exact .inr ⟨c, rfl, .inl ⟨i, rfl⟩, r (.d (.bl false)) _ H (Kp.refl (k.bs b)) (Is.bl _) q⟩
theorem isv_s {i : Str} {c : Bool} (q : Q (.d (.bl false))) : RR K rIsV (.d (.str i)) (.d (.bl c)) Q := fun N M L H0 H v1 v2 b k o1 o2 R r => by
  cases o1
  cases o2
  exact .inr ⟨c, rfl, .inr ⟨i, rfl⟩, r (.d (.bl false)) _ H (Kp.refl (k.bs b)) (Is.bl _) q⟩
theorem nov_b {a c : Bool} (q : Q (.d (.bl (!decide (a = c))))) : RR K rNotV (.d (.bl a)) (.d (.bl c)) Q := rr_or1 (isnot_b q)
theorem nov_n {x : D} (q : Q (.d (.bl (!x.isNon)))) : RR K rNotV (.d x) (.d .non) Q := rr_or1 (isnot_n q)
theorem nov_i {i : Int} {c : Bool} (q : Q (.d (.bl true))) : RR K rNotV (.d (.int i)) (.d (.bl c)) Q := fun N M L H0 H v1 v2 b k o1 o2 R r => by
  cases o1
  cases o2
  exact .inr ⟨c, rfl, .inl ⟨i, rfl⟩, r (.d (.bl true)) _ H (Kp.refl (k.bs b)) (Is.bl _) q⟩
theorem nov_s {i : Str} {c : Bool} (q : Q (.d (.bl true))) : RR K rNotV (.d (.str i)) (.d (.bl c)) Q := fun N M L H0 H v1 v2 b k o1 o2 R r => by
  cases o1
  cases o2
  exact .inr ⟨c, rfl, .inr ⟨i, rfl⟩, r (.d (.bl true)) _ H (Kp.refl (k.bs b)) (Is.bl _) q⟩
theorem sorted_i {s : SV} {ns : List Int} (e : s.rd = some (.lst (ns.map D.int))) (l : ns.length < 64) (q : ∀ ms : List Int, ms.Perm ns → ms.Pairwise (· ≤ ·) → Q (.new (ms.map D.int))) : RC K (L2.rSorted K) [s] Q := fun N M L H0 H vs b k o R r => by
  obtain ⟨v, rfl, hv⟩ := o.one
  obtain ⟨a, vs, rfl, h1, h2⟩ := hv.list b e
  rw [h2.ofInts] at h1
  refine ⟨a, ns, rfl, h1, l, fun ms p h3 h4 hp => ?_⟩
  obtain ⟨kn, ok⟩ := new_of (N := N) b k hp (IsAll.ints (K := K) (M := M) (H := H) ms)
  exact r _ _ _ kn ok (q ms h3 h4)
/-! ### an own list lent to a def that leaves it as it is and tells nothing that holds it -/
mutual
def D.flat : D → Bool
  | .lst _ => false
  | .obj _ _ => false
  | .tup xs => D.flatAll xs
  | _ => true
def D.flatAll : List D → Bool
  | [] => true
  | d :: ds => D.flat d && D.flatAll ds
end
mutual
theorem Is.flatM : ∀ (d : D) (v : V), d.flat = true → Is K M H v d → Is K M' H v d
  | .non, _, _, h => by cases h; exact .non
  | .bl _, _, _, h => by cases h; exact .bl _
  | .int _, _, _, h => by cases h; exact .int _
  | .str _, _, _, h => by cases h; exact .str _
  | .lst _, _, f, _ => by cases f
  | .obj _ _, _, f, _ => by cases f
  | .tup ds, _, f, h => by
    cases h with
    | tup h1 h3 => exact .tup h1 (IsAll.flatM ds _ f h3)
    | tup0 h1 => exact .tup0 h1
    | tupK h1 h3 h4 => exact .tupK h1 (IsAll.flatM ds _ f h3) h4
theorem IsAll.flatM : ∀ (ds : List D) (vs : List V), D.flatAll ds = true → IsAll K M H vs ds → IsAll K M' H vs ds
  | [], _, _, h => by cases h; exact .nil
  | d :: ds, _, f, h => by
    have f' := Bool.and_eq_true_iff.mp (show (D.flat d && D.flatAll ds) = true from f)
    cases h with
    | cons h1 h2 => exact .cons (Is.flatM d _ f'.1 h1) (IsAll.flatM ds _ f'.2 h2)
end
def SV.lend : SV → SV
  | .new xs => .d (.lst xs)
  | .own xs => .d (.lst xs)
  | s => s
theorem Bs.self (bs : Bs L M H) : Bs L L H := ⟨fun _ l => l, fun a o l e => bs.tr a o (bs.lm a l) e, fun a l => bs.tk a (bs.lm a l), bs.bag, bs.tb⟩
theorem SvAll.lend (bs0 : Bs L M H0) (k : Kp L H0 H) : ∀ {vs : List V} {ss : List SV}, SvAll K N M L H0 H vs ss → SvAll K NO L L H H vs (ss.map SV.lend)
  | _, _, .nil => .nil
  | _, _, .cons (s := s) h t => by
    refine .cons ?_ (SvAll.lend bs0 k t)
    cases s with
    | new xs =>
      obtain ⟨a, vs, rfl, n, h1, h2⟩ := h
      exact Is.lst h1 (fun l => fresh_nm bs0 n (bs0.lm a l)) (h2.sub fun b l => .inl (bs0.lm b l))
    | own xs =>
      obtain ⟨a, vs, rfl, m, n, l, h1, h2⟩ := h
      exact Is.lst h1 l (h2.sub bs0.lm)
    | d x => exact Is.sub bs0.lm h
    | bag => exact h
    | scr ns => exact h
    | rng lo hi => exact h
    | dic kvs => exact h
    | dcd kvs =>
      obtain ⟨b, z, ps, y, y2, y3⟩ := h
      exact ⟨b, z, ps, y, y2, y3.sub bs0.lm⟩
    | ty n => exact h
    | cls C => exact h
theorem de_lendQ {α : Type} {n : Nat} {args : α → List SV} {pre : α → Prop} {post : α → SV → Prop} {E : XK} (h : DA K tr es fun ss => ∃ x, ss.map SV.lend = args x ∧ ss.length = n ∧ pre x ∧ ∀ r, post x r → ∃ y, r = .d y ∧ y.flat = true ∧ Q (.d y)) : DE K (tCall (spQ K n args pre post) [] E tr) es Q := fun P N M L σ H S R k => by
  refine h P N M L σ H S _ fun ss vs H1 k1 o1 q1 => ?_
  obtain ⟨x, e, hl, hp, q⟩ := q1
  rw [List.append_nil]
  have bs1 := k1.bs S.bs
  refine ⟨x, L, L, ss.map SV.lend, bs1.self, o1.lend S.bs k1, by rw [List.length_map]; exact hl, ⟨e, hp⟩, fun r v H' k2 o2 q2 => ?_⟩
  obtain ⟨y, rfl, f, qy⟩ := q r q2
  exact k (.d y) v H' (k1.trans k2) (Is.flatM y v f o2) qy
/-- for a, b in zip(two lists that are data) -/
theorem ds_forZL {g : TG} {tr : TA} (h : DA K tr es fun ss => ∃ s1 s2 xs ys, ss = [s1, s2] ∧ s1.dat = some (.lst xs) ∧ s2.dat = some (.lst ys) ∧ xs.length = ys.length ∧ ∃ I : Nat → Env' → Prop, I 0 es ∧
    (∀ (i : Nat) x y es', xs[i]? = some x → ys[i]? = some y → I i es' → ∃ js, DG K g (.tup [x, y]) js es' fun e2 => DS K t e2 ⟨I (i + 1), B.rt, B.nx, I (i + 1), B.xo⟩) ∧ ∀ es', I xs.length es' → B.nx es') : DS K (tFor (RZ.iZipA K tr) g t) es B := fun F P M L σ H S E o => by
  refine h P _ M L σ H S.st _ fun ss us H1 k1 o1 q1 => ?_
  obtain ⟨s1, s2, xs, ys, rfl, e1, e2, hl, I, h0, hs, hd⟩ := q1
  obtain ⟨v, w, rfl, hv, hw⟩ := o1.two
  obtain ⟨a, ws, rfl, g1, m1, i1⟩ := hv.lstD S.st.bs e1
  obtain ⟨c, zs, rfl, g2, m2, i2⟩ := hw.lstD S.st.bs e2
  have hll : ws.length = zs.length := by rw [i1.len, i2.len, hl]
  refine ⟨a, c, ws, zs, rfl, .inl ⟨.inl (.inl g1), .inl (.inl g2), RZ.for_zipL (K := K) (a := a) (b := c) (xs := ws) (ys := zs) hll (fun i σ H => ∃ es' M' L', Stf K F (⟨a, ws, xs, false⟩ :: ⟨c, zs, ys, false⟩ :: P) M' L' σ H es' ∧ I i es') ⟨es, M, L, ((S.kp' k1).pin (p := ⟨c, zs, ys, false⟩) ⟨⟨g2, m2⟩, i2⟩).pin ⟨⟨g1, m1⟩, i1⟩, h0⟩ ?_ ?_ ?_⟩⟩
  · rintro i σ' H' ⟨es', M', L', S', hI⟩
    exact ⟨.inl (.inl (S'.st.pin _ List.mem_cons_self).1.1), .inl (.inl (S'.st.pin _ (List.mem_cons_of_mem _ List.mem_cons_self)).1.1)⟩
  · rintro i x y T σ' H' hx hy ⟨es', M', L', S', hI⟩ hT
    obtain ⟨dx, hdx, ix⟩ := (S'.st.pin _ List.mem_cons_self).2.getV hx
    obtain ⟨dy, hdy, iy⟩ := (S'.st.pin _ (List.mem_cons_of_mem _ List.mem_cons_self)).2.getV hy
    have kn := Kp.new (o := .tup [x, y]) S'.st.bs hT
    obtain ⟨js, dg⟩ := hs i dx dy es' hdx hdy hI
    refine dg.stf (S'.kp' kn) (Is.tup upd_same (.cons (Is.kp kn S'.st.bs ix) (.cons (Is.kp kn S'.st.bs iy) .nil))) _ fun e2 σ2 S2 q => ?_
    refine q F _ M' L' σ2 _ S2 _ ?_
    exact o.pinned.pinned.turn (fun σ H => ∃ es' M' L', Stf K F (⟨a, ws, xs, false⟩ :: ⟨c, zs, ys, false⟩ :: P) M' L' σ H es' ∧ I (i + 1) es') fun e3 M3 L3 σ3 H3 S3 z => ⟨e3, M3, L3, S3, z⟩
  · rintro σ' H' ⟨es', M', L', S', hI⟩
    rw [i1.len] at hI
    exact o.nx _ _ _ _ _ S'.unpin.unpin (hd es' hI)
end
end DL

namespace DL
open PySem PySem.Spec PyProof.Rows L2
variable [Tbl]
/-! ### a sign in a text, a text's repeat, upper, extend, or by truth -/
def rInSg : R2 := fun x y H Q => ∃ (c : Nat) (z : Str), x = .str ⟨#[c]⟩ ∧ y = .str z ∧ Q (.bl (decide (c ∈ z.cps.toList))) H
def rRepS : R2 := fun x y H Q => ∃ (a : Str) (n : Int), x = .str a ∧ y = .int n ∧ PySem.MulOk a n ∧ Q (.str (Txt.mul a n)) H
def rUpper : V → List V → Hp → VK → Prop := fun x xs H Q => ∃ a, x = .str a ∧ xs = [] ∧ a.length ≤ 5592405 ∧ Q (.str (Txt.upper a)) H
def rNotInDic : R2 := fun x y H Q => ∃ a o, y = .ref a ∧ DGet H a x o ∧ Q (.bl (!o.isSome)) H
section
variable {X : Cx}
theorem op_inSg : OpR X (compareOp .In) rInSg := op_in_sign
theorem op_notInDic (hu : X.A.units + 1 < cLine) : OpR X (compareOp .NotIn) rNotInDic := by
  intro pins s σ H x y v u Q I rx ry h
  obtain ⟨a, o, rfl, g, q⟩ := h
  obtain rfl : u = Value.ref a := ry
  exact d_notIn hu I g rx fun s3 I3 => ⟨.bl (!o.isSome), H, I3, rfl, q⟩
end
section
variable {K : PySem.W.Frag} {P : List Pin} {N L M M' : AP} {H0 H1 H H' : Hp} {σ : L2.St} {es : Env'} {ta tb tc te : TE} {tr : TA} {tt tu : TT} {Q : SV → Prop} {t u : TS} {B : DEnds}
theorem in_sg {c : Nat} {z : Str} (q : Q (.d (.bl (decide (c ∈ z.cps.toList))))) : RR K rInSg (.d (.str ⟨#[c]⟩)) (.d (.str z)) Q := fun N M L H0 H v1 v2 b k o1 o2 R r => by
  cases o1
  cases o2
  exact ⟨c, z, rfl, rfl, r (.d (.bl _)) _ H (Kp.refl (k.bs b)) (Is.bl _) q⟩
theorem rep_s {a : Str} {n : Int} (ok : PySem.MulOk a n) (q : Q (.d (.str (Txt.mul a n)))) : RR K rRepS (.d (.str a)) (.d (.int n)) Q := fun N M L H0 H v1 v2 b k o1 o2 R r => by
  cases o1
  cases o2
  exact ⟨a, n, rfl, rfl, ok, r (.d (.str _)) _ H (Kp.refl (k.bs b)) (Is.str _) q⟩
theorem de_upper (h : DE K ta es fun s => ∃ a : Str, s = .d (.str a) ∧ a.length ≤ 5592405 ∧ Q (.d (.str (Txt.upper a)))) : DE K (tM0 rUpper ta) es Q := fun P N M L σ H S R k => by
  refine h P N M L σ H S _ fun s v H1 k1 o1 q1 => ?_
  obtain ⟨a, rfl, l, q⟩ := q1
  cases o1
  exact ⟨⟨a, rfl⟩, a, rfl, rfl, l, k (.d (.str _)) _ H1 k1 (Is.str _) q⟩
def D.tru : D → Option Bool
  | .non => some false
  | .bl b => some b
  | .int i => some (i != 0)
  | _ => none
theorem de_orT (h : DE K ta es fun s => ∃ x k, s = .d x ∧ x.tru = some k ∧ if k = true then Q (.d x) else DE K tb es Q) : DE K (tOrT K ta tb) es Q := fun P N M L σ H S R k => by
  refine h P N M L σ H S _ fun s v H1 k1 o1 q1 => ?_
  obtain ⟨x, b, rfl, e, q⟩ := q1
  have o1 : Is K M H1 v x := o1
  refine ⟨b, ?_, ?_⟩
  · cases o1 with
    | non => injection e with e; exact e.symm
    | bl c => injection e with e; exact e.symm
    | int i => injection e with e; exact e.symm
    | _ => cases e
  · cases b with
    | true =>
      rw [if_pos rfl] at q ⊢
      exact k (.d x) v H1 k1 o1 q
    | false =>
      rw [if_neg Bool.false_ne_true] at q ⊢
      exact q P N M L σ H1 (S.kp k1) R fun s v H2 k2 o2 q2 => k s v H2 (k1.trans k2) (o2.back k1) q2
theorem ds_ext {i : Nat} {xs : List D} (e : es[i]? = some (some (.own xs))) (h : DE K te es fun s => ∃ ys, s = .new ys ∧ xs.length + ys.length ≤ 100000 ∧ B.nx (es.set i (some (.own (xs ++ ys))))) :
    DS K (tDrop (tBM K "list" rExtend (tVar i) (tCons te tNil))) es B := fun F P M L σ H S E o => by
  obtain ⟨v, hv, a, vs, rfl, m, n, l, g1, i1⟩ := S.st.ok i _ e
  refine ⟨.ref a, hv, tyL g1, ?_⟩
  refine h P _ M L σ H S.st _ fun s w H1 k1 ok q => ?_
  obtain ⟨ys, rfl, hl, q⟩ := q
  obtain ⟨c, ws, rfl, hn, g2, i2⟩ := ok
  have S1 := S.kp' k1
  have g3 := k1.k _ _ l g1
  have i3 := IsAll.kp k1 S.st.bs i1
  have i4 : IsAll K M H1 ws ys := i2.sub AP.sub_add
  refine ⟨a, c, vs, ws, rfl, rfl, g3, g2, ?_, ?_⟩
  · rw [i1.len, i2.len]
    exact Nat.le_trans hl (by decide)
  · exact o.nx _ _ _ _ _ (S1.upd e hv (i3.append i4)) q
/-! ### a dict of texts by texts that is made here and asked -/
theorem upd_upd {a : Addr} {o o' : HO} : upd (upd H a o) a o' = upd H a o' := by
  funext b
  unfold upd
  split <;> rfl
theorem tPairs_c : ∀ (kvs : List (Str × Str)) {R : List (V × V) → Hp → Prop}, R (kvs.map fun kv => (V.str kv.1, V.str kv.2)) H → tPairs (kvs.map fun kv => (tC (.str kv.1), tC (.str kv.2))) σ H R
  | [], R, h => h
  | kv :: kvs, R, h => tPairs_c kvs (R := fun ps H' => R ((V.str kv.1, V.str kv.2) :: ps) H') h
theorem de_disp {kvs : List (Str × Str)} (hm : mergeK [] (dicV kvs) = dicV kvs) (hl : kvs.length ≤ 15) (q : Q (.dic kvs)) : DE K (tDisp (kvs.map fun kv => (tC (.str kv.1), tC (.str kv.2)))) es Q := fun P N M L σ H S R k => by
  intro p hp
  refine tPairs_c kvs ?_
  refine ⟨upd_same, dicV kvs, ?_, ?_, ?_⟩
  · unfold dicV
    rw [List.map_map]
    rfl
  · unfold dicV
    rw [List.length_map]
    exact hl
  · rw [upd_upd, hm]
    exact k (.dic kvs) _ _ (Kp.new S.bs hp) ⟨p, rfl, upd_same⟩ q
theorem valV_dic (kvs : List (Str × Str)) (z : Str) : valV (dicV kvs) (Sum.inr z) = (kvs.lookup z).map V.str := by
  induction kvs with
  | nil => rfl
  | cons kv kvs ih =>
    obtain ⟨k, x⟩ := kv
    rw [List.lookup_cons]
    by_cases h : z = k
    · subst h
      simp [dicV, valV]
    · have h' : (z == k) = false := by simpa using h
      rw [h']
      have e : valV (dicV ((k, x) :: kvs)) (Sum.inr z) = valV (dicV kvs) (Sum.inr z) := by
        have hk : ¬ (Sum.inr k : Key) = Sum.inr z := fun e => h (Sum.inr.inj e).symm
        simp [dicV, valV, hk]
      rw [e, ih]
theorem notin_dic {kvs : List (Str × Str)} {z : Str} (q : Q (.d (.bl (!(kvs.lookup z).isSome)))) : RR K rNotInDic (.d (.str z)) (.dic kvs) Q := fun N M L H0 H v1 v2 b k o1 o2 R r => by
  cases o1
  obtain ⟨a, rfl, g⟩ := o2
  refine ⟨a, _, rfl, DGet.k (k := Sum.inr z) g, ?_⟩
  rw [valV_dic]
  have e : ((kvs.lookup z).map V.str).isSome = (kvs.lookup z).isSome := by cases kvs.lookup z <;> rfl
  rw [e]
  exact r (.d (.bl _)) _ H (Kp.refl (k.bs b)) (Is.bl _) q
theorem de_dget (h : DE K ta es fun s => ∃ kvs, s = .dic kvs ∧ DE K tb es fun z => ∃ y x, z = .d (.str y) ∧ kvs.lookup y = some x ∧ Q (.d (.str x))) : DE K (tDGet ta tb) es Q := fun P N M L σ H S R k => by
  refine h P N M L σ H S _ fun s v H1 k1 o1 q1 => ?_
  obtain ⟨kvs, rfl, q⟩ := q1
  refine q P N M L σ H1 (S.kp k1) _ fun z w H2 k2 o2 q2 => ?_
  obtain ⟨y, x, rfl, e, q⟩ := q2
  cases o2
  obtain ⟨a, rfl, g⟩ := SvOk.kp S.bs k1 k2 o1
  refine ⟨a, .str x, rfl, ?_, k (.d (.str x)) _ H2 (k1.trans k2) (Is.str _) q⟩
  have := DGet.k (k := Sum.inr y) g
  rw [valV_dic, e] at this
  exact this
end
end DL

namespace DL
open PySem PySem.Spec PyProof.Rows L2
variable [Tbl]
theorem op_repS {X : Cx} : OpR X (binaryOp .Mult) rRepS := by
  intro pins s σ H x y v u Q I rx ry h
  obtain ⟨a, n, rfl, rfl, ok, q⟩ := h
  obtain ⟨t, rfl⟩ := (show ∃ t, v = Value.str a t from rx)
  obtain ⟨t', rfl⟩ := (show ∃ t, u = Value.int n t from ry)
  exact PySem.SB.mul ok fun t2 k => ⟨.str _, H, I.tok k, ⟨t2, rfl⟩, q⟩
theorem room1 {k : Nat} {A : Around} (h : Room k A) : A.units + 1 < cLine := by have := h.un; omega
/-! ### try: return ("deed", f(..)) except C as e: strange = isinstance(e, (..)); return ("no", e.f if isinstance(e, ValueError) and not strange else None) -/
def tSuite2 (K : PySem.W.Frag) (w : Str) (i j : Nat) (Cs : List V) (C : Addr) (f : Str) : Addr → Value → Option Addr → TS := fun a cls d =>
  tSeq (tAsg (tCB (rIsXT K a cls d) (tCons (tVar i) (tCons (tTup (tConsL Cs)) tNil))) (gName j)) (tRet (tTup (tCons (tC (.str w)) (tCons (tIf (tAnd (tB (tCB (rIsX1 K a cls d) (tCons (tVar i) (tCons (tC (.ty "ValueError")) tNil)))) (tNot (tB (tVar j)))) (tXf a cls d C f (tVar i)) (tC .non)) tNil))))
def tTryE2 (K : PySem.W.Frag) (w : Str) (i j : Nat) (Cs : List V) (C : Addr) (f : Str) (tb : WX → TS) : TS := fun D σ H => tb (wAs K (.ref C) i (tSuite2 K w i j Cs C f) (fun _ _ _ _ => False) D) D σ H
theorem ds_tryE2 {K : PySem.W.Frag} {es : Env'} {B : DEnds} {xp : XP} {i j : Nat} {Cs : List V} {C : Addr} {f w : Str} {tb : WX → TS} (sf : SuiteF K Cs C) (hi : i < es.length) (hj : j < es.length) (hij : i ≠ j) (hl : Cs.length ≤ 100)
    (hb : DSX K tb es B xp) (hx : ∀ C' f' d, xp C' f' d → C' = C ∧ f' = f ∧ B.rt (.d (.tup [.str w, d]))) : DS K (tTryE2 K w i j Cs C f tb) es B := fun F P M L σ H S E o => by
  refine hb F P M L σ H S E o _ fun C' dd f' v d H' k n e iv z => ?_
  obtain ⟨rfl, rfl, q⟩ := hx C' f' d z
  refine ⟨true, sf.me, fun _ a ha => ?_, fun z => by cases z⟩
  have li : i < σ.length := by rw [S.st.len]; exact hi
  have lj : j < (σ.set i (some (.ref a))).length := by rw [List.length_set, S.st.len]; exact hj
  have gi : (σ.set i (some (V.ref a)))[i]? = some (some (.ref a)) := List.getElem?_set_self li
  obtain ⟨us, pu, ku⟩ := sf.all
  refine ⟨.ref a, gi, ?_⟩
  show tCons (tTup (tConsL Cs)) tNil _ _ _
  refine tConsL_ok ?_
  refine ⟨by rw [sizeLine_eq]; omega, fun p hp => ?_⟩
  have hpd : dd ≠ p := ne_of_none e hp
  refine ⟨C', dd, p, [(f', v)], Cs, us, false, rfl, rfl, by rw [upd_ne hpd]; exact e, sf.ex, rfl, upd_same, pu, ku, ?_⟩
  have g2 : ((σ.set i (some (V.ref a))).set j (some (.bl false)))[j]? = some (some (.bl false)) := List.getElem?_set_self lj
  have g3 : ((σ.set i (some (V.ref a))).set j (some (.bl false)))[i]? = some (some (.ref a)) := by rw [List.getElem?_set_ne (Ne.symm hij)]; exact gi
  refine ⟨_, g3, C', dd, [(f', v)], .ty "ValueError", .type "ValueError", true, rfl, rfl, by rw [upd_ne hpd]; exact e, sf.ex, rfl, .ty _, sf.ve, true, rfl, ?_⟩
  show (if true = true then _ else _)
  rw [if_pos rfl]
  refine ⟨_, g2, false, rfl, ?_⟩
  show (if (!false) = true then _ else _)
  rw [if_pos (show (!false) = true from rfl)]
  refine ⟨_, g3, rfl, rfl, dd, [(f', v)], v, rfl, by rw [upd_ne hpd]; exact e, by simp [List.lookup], ?_⟩
  refine ⟨by show 2 ≤ sizeLine; decide, fun p2 hp2 => ?_⟩
  have bs1 := k.bs S.st.bs
  have kn := Kp.new (o := .tup Cs) bs1 hp
  have bs2 := kn.bs bs1
  have kn2 := Kp.new (o := .tup [.str w, v]) bs2 hp2
  have iv2 : Is K F.M0 _ v d := Is.sub S.m0 (Is.kp kn2 bs2 (Is.kp kn bs1 iv))
  exact o.rt (.d (.tup [.str w, d])) _ _ (S.up ((k.trans kn).trans kn2)) (Is.tup upd_same (.cons (.str _) (.cons iv2 .nil))) q
section
variable {K : PySem.W.Frag} {es : Env'} {Q : SV → Prop} {xp : XP}
theorem dex_tup2 {c : Str} {te : WX → TE} (h : DEX K te es (fun s => ∃ x, s.dat = some x ∧ Q (.d (.tup [.str c, x]))) xp) : DEX K (fun W => tTup (tCons (tC (.str c)) (tCons (te W) tNil))) es Q xp := fun P N M L σ H S W w R k => by
  refine h P N M L σ H S W w _ fun s v H1 k1 ok q => ?_
  obtain ⟨x, hx, q⟩ := q
  have hv := ok.data S.bs hx
  refine ⟨by show 2 ≤ sizeLine; decide, fun p hp => ?_⟩
  have bs1 := k1.bs S.bs
  have kn := Kp.new (o := .tup [.str c, v]) bs1 hp
  exact k (.d _) _ _ (k1.trans kn) (Is.tup upd_same (.cons (.str _) (.cons (Is.kp kn bs1 hv) .nil))) q
end
/-! ### e.replace(y, z, 1) of written texts, a token given out -/
def Txt.repl1 (x y z : Str) : Str :=
  if ((Builtin.Str.occurrences x y 0 x.length 1).isEmpty || (y.length == 0 && z.length == 0)) = true then x
  else Builtin.Str.glued z (Builtin.Str.partsBetween x (Builtin.Str.occurrences x y 0 x.length 1) y.length)
theorem repl1_len (x y z : Str) : (Txt.repl1 x y z).length ≤ x.length + z.length := by
  unfold Txt.repl1
  split
  · exact Nat.le_add_right _ _
  · have h1 := StrLaws.occ_length_le x y 0 x.length 1
    have hy : (Builtin.Str.glued y (Builtin.Str.partsBetween x (Builtin.Str.occurrences x y 0 x.length 1) y.length)).length = x.length := by rw [StrLaws.glued_between_self]
    rw [size_glued, length_partsBetween, Nat.add_sub_cancel] at hy
    rw [size_glued, length_partsBetween, Nat.add_sub_cancel]
    have h2 : (Builtin.Str.occurrences x y 0 x.length 1).length * z.length ≤ 1 * z.length := Nat.mul_le_mul_right _ h1
    omega
theorem gives_repl1 (x y z : Str) (t u v k : Tok) (h0 : (u == 0 || v == 0) = false) (huv : (u == v) = false) (hyz : (y == z) = false) (hl : Builtin.Str.tooLong (x.length + (Builtin.Str.occurrences x y 0 x.length 1).length * z.length) = false) :
    Gives (Builtin.«str.replace» ⟨[.str x t, .str y u, .str z v, .int 1 k], []⟩) (if ((Builtin.Str.occurrences x y 0 x.length 1).isEmpty || (y.length == 0 && z.length == 0)) = true then .val (.str x t) else .str (Builtin.Str.glued z (Builtin.Str.partsBetween x (Builtin.Str.occurrences x y 0 x.length 1) y.length))) := by
  show Gives (if ((Builtin.Str.occurrences x y 0 x.length 1).isEmpty || (y.length == 0 && z.length == 0)) = true then (do rule "str.replace.nothing"; ret (.str x t)) else
          (do let same ← isSame (.str y u) (.str z v)
              if same = true then (do rule "str.replace.old-is-new"; ret (.str x t)) else
              if Builtin.Str.tooLong (x.length + (Builtin.Str.occurrences x y 0 x.length 1).length * z.length) = true then unsupported "str.replace:memory" else
              retStr (Builtin.Str.glued z (Builtin.Str.partsBetween x (Builtin.Str.occurrences x y 0 x.length 1) y.length)))) _
  cases hc : ((Builtin.Str.occurrences x y 0 x.length 1).isEmpty || (y.length == 0 && z.length == 0))
  · rw [isSame_str_other y z u v h0 huv hyz, hl]
    exact .of_eq rfl
  · exact .rule (.of_eq rfl)
def tRepl1 (to : TE) (y z : Str) : TE := fun σ H Q => to σ H fun v H1 => ∃ x, v = .str x ∧ x.length + z.length ≤ 16777216 ∧ Q (.str (Txt.repl1 x y z)) H1
section
variable {X : Cx} {o : Expr} {to te : TE} {y z : Str} {j k i : Nat} {c0 c1 c2 apos pos : Pos} {es : List Expr} {ta : TA}
theorem pet_repl1 (ho : PE X o to) (hyz : (y == z) = false := by decide +kernel)
    (hst : starEach [.Constant (.str y) j c0, .Constant (.str z) k c1, .Constant (.int 1) i c2] X.env = [(false, eval (.Constant (.str y) j c0) X.env), (false, eval (.Constant (.str z) k c1) X.env), (false, eval (.Constant (.int 1) i c2) X.env)] := by rfl)
    (hbase : attributeBase o "replace" X.env (eval o X.env) = eval o X.env := by rfl) (hline : (apos.endLine == pos.line) = true := by rfl) :
    PET X (.Call (.Attribute o "replace" apos) [.Constant (.str y) j c0, .Constant (.str z) k c1, .Constant (.int 1) i c2] [] pos) (tRepl1 to y z) := by
  intro pins s σ H Q h0 I h
  refine wpAny_Call_method_lateS hbase (by rw [hst]; rfl) hline ?_
  rw [hst]
  refine (wpAny_mono (PySem.wpAny_toks (ho.run pins s σ H _ I h)) (fun v s1 q => ?_) fun _ _ z => z.2)
  obtain ⟨hk, v', H1, I1, r1, x, e1, hb, q⟩ := q
  subst e1
  obtain ⟨tx, e2⟩ := r1
  subst e2
  refine ⟨"str", _, PySem.F.plainAttrs_str, PySem.F.slot_str_replace, PySem.F.type_str_replace, typeIs_str _ _ _, (fun _ e => nomatch e), Calls.callWith_builtin rfl (Calls.evalArgs_plain (Calls.spliced_cons ?_))⟩
  refine Calls.Constant_str (k := j) (pos := c0) (Calls.spliced_cons (Calls.Constant_str (k := k) (pos := c1) (Calls.spliced_cons (wpAny_Constant_int (k := i) (pos := c2) (Calls.spliced_nil ?_)))))
  have hu : s1.toks ≠ 0 := by omega
  have hl : Builtin.Str.tooLong (x.length + (Builtin.Str.occurrences x y 0 x.length 1).length * z.length) = false := by
    have h1 := StrLaws.occ_length_le x y 0 x.length 1
    have h2 : (Builtin.Str.occurrences x y 0 x.length 1).length * z.length ≤ 1 * z.length := Nat.mul_le_mul_right _ h1
    unfold Builtin.Str.tooLong sizeLine
    exact decide_eq_false (by have : (2 : Nat) ^ 24 = 16777216 := by decide
                              omega)
  refine call_gives F.slot_str_replace (typeIs_str _ _ _) F.entry_str_replace (F.args_str_replace_4 _ _ _ _)
    (gives_repl1 x y z _ _ _ _ (by simp [hu]) (by simp) hyz hl) ?_
  have hlen := repl1_len x y z
  have q' := q
  unfold Txt.repl1 at q' hlen
  cases hc : ((Builtin.Str.occurrences x y 0 x.length 1).isEmpty || (y.length == 0 && z.length == 0))
  · rw [hc] at q' hlen
    simp only [Bool.false_eq_true, if_false] at q' hlen ⊢
    exact ⟨by rw [sizeLine_eq]; omega, ⟨.str _, H1, I1.tok _, ⟨_, rfl⟩, q'⟩⟩
  · rw [hc] at q'
    simp only [if_true] at q' ⊢
    exact ⟨.str _, H1, I1.tok _, ⟨_, rfl⟩, q'⟩
theorem pa_consT (hr : PAT X es ta) (hs : starEach (.Constant (.str y) j c0 :: es) X.env = (false, eval (.Constant (.str y) j c0) X.env) :: starEach es X.env := by rfl) : PA X (.Constant (.str y) j c0 :: es) (tCons (tC (.str y)) ta) := by
  refine ⟨fun pos pins s σ H Q I h => ?_⟩
  rw [hs]
  show wpAny _ _ (spliced ((false, eval (.Constant (.str y) j c0) X.env) :: backTo pos (starEach es X.env))) _ _ s
  refine Calls.spliced_cons (Calls.Constant_str ?_)
  exact thn (hr pos pins _ σ H _ (by show 1 ≤ s.toks + 1; omega) (I.tok _) h) fun us s2 ⟨xs, H2, I2, r2, q2⟩ => ⟨.str y :: xs, H2, I2, .cons ⟨_, rfl⟩ r2, q2⟩
theorem pet_of (h : PE X o te) : PET X o te := fun pins s σ H Q _ I q => h.run pins s σ H Q I q
end
section
variable {K : PySem.W.Frag} {es : Env'} {Q : SV → Prop} {ta : TE}
theorem de_repl1 {y z : Str} (h : DE K ta es fun s => ∃ x : Str, s = .d (.str x) ∧ x.length + z.length ≤ 16777216 ∧ Q (.d (.str (Txt.repl1 x y z)))) : DE K (tRepl1 ta y z) es Q := fun P N M L σ H S R k => by
  refine h P N M L σ H S _ fun s v H1 k1 ok q => ?_
  obtain ⟨x, rfl, hb, q⟩ := q
  cases ok
  exact ⟨x, rfl, hb, k (.d (.str _)) _ H1 k1 (Is.str _) q⟩
end
theorem for_sgn {x : Str} {g : TG} {tb : TS} {D : Ends} {σ : L2.St} {H : Hp} (Pv : Nat → L2.St → Hp → Prop) (h0 : Pv 0 σ H)
    (hs : ∀ (i c : Nat) (σ : L2.St) (H : Hp), x.cps[i]? = some c → Pv i σ H → g (.str ⟨#[c]⟩) σ H fun σ2 H2 => tb { D with nx := Pv (i + 1), ct := Pv (i + 1), bk := D.nx } σ2 H2) (hd : ∀ σ H, Pv x.cps.size σ H → D.nx σ H) :
    ∃ W : Nat → Nat → L2.St → Hp → Prop, (∃ m, W 0 m σ H) ∧ ∀ i m σ H, W i m σ H →
      ((Its x).stop i H ∧ D.nx σ H) ∨ ((Its x).go i H ∧ ∃ N : L2.St → Hp → Prop, (∀ σ' H', N σ' H' → ∃ m', m' < m ∧ W (i + 1) m' σ' H') ∧ ∀ v H', (Its x).yld i H v H' → g v σ H' fun σ2 H2 => tb { D with nx := N, ct := N, bk := D.nx } σ2 H2) := by
  refine ⟨fun i m σ H => m = x.cps.size - i ∧ i ≤ x.cps.size ∧ Pv i σ H, ⟨x.cps.size, rfl, Nat.zero_le _, h0⟩, ?_⟩
  rintro i m σ H ⟨rfl, hi, p⟩
  by_cases hlt : i < x.cps.size
  · refine .inr ⟨hlt, Pv (i + 1), fun σ' H' p' => ⟨x.cps.size - (i + 1), by omega, rfl, hlt, p'⟩, fun v H' y => ?_⟩
    obtain ⟨rfl, c, hc, rfl⟩ := y
    exact hs i c σ _ hc p
  · obtain rfl : i = x.cps.size := by omega
    exact .inl ⟨Nat.le_refl _, hd σ H p⟩
section
variable {K : PySem.W.Frag} {es : Env'} {B : DEnds} {t : TS}
/-- for c in a text -/
theorem ds_forS {g : TG} {tl : TE} (h : DE K tl es fun s => ∃ x : Str, s = .d (.str x) ∧ ∃ I : Nat → Env' → Prop, I 0 es ∧
    (∀ (i c : Nat) es', x.cps[i]? = some c → I i es' → ∃ js, DG K g (.str ⟨#[c]⟩) js es' fun e2 => DS K t e2 ⟨I (i + 1), B.rt, B.nx, I (i + 1), B.xo⟩) ∧ ∀ es', I x.cps.size es' → B.nx es') : DS K (tFor (iStr tl) g t) es B := fun F P M L σ H S E o => by
  refine h P _ M L σ H S.st _ fun s v H1 k1 o1 q1 => ?_
  obtain ⟨x, rfl, I, h0, hs, hd⟩ := q1
  cases o1
  refine ⟨x, rfl, for_sgn (x := x) (fun i σ H => ∃ es' M' L', Stf K F P M' L' σ H es' ∧ I i es') ⟨es, M, L, S.kp' k1, h0⟩ ?_ ?_⟩
  · rintro i c σ' H' hc ⟨es', M', L', S', hI⟩
    obtain ⟨js, dg⟩ := hs i c es' hc hI
    refine dg.stf S' (Is.str _) _ fun e2 σ2 S2 q => ?_
    refine q F P M' L' σ2 H' S2 _ ?_
    exact o.turn (fun σ H => ∃ es' M' L', Stf K F P M' L' σ H es' ∧ I (i + 1) es') fun e3 M3 L3 σ3 H3 S3 z => ⟨e3, M3, L3, S3, z⟩
  · rintro σ' H' ⟨es', M', L', S', hI⟩
    exact o.nx _ _ _ _ _ S' (hd es' hI)
end
end DL

namespace PySem
open Sem (wp)
namespace F
theorem slot_pw_iter : Slot "itertools.pairwise" "__iter__" "itertools.pairwise.__iter__" :=
  .of (owner := "itertools.pairwise") (n := "__iter__") (by rw [typeLookup_type, builtinLookup_eq_fast]; kernel_rfl) (by decide +kernel) (by decide +kernel) (by decide +kernel)
    (by first | exact .inl (by decide +kernel) | exact .inr (by decide +kernel)) (by rw [isSubtype_type]; kernel_rfl)
theorem slot_pw_next : Slot "itertools.pairwise" "__next__" "itertools.pairwise.__next__" :=
  .of (owner := "itertools.pairwise") (n := "__next__") (by rw [typeLookup_type, builtinLookup_eq_fast]; kernel_rfl) (by decide +kernel) (by decide +kernel) (by decide +kernel)
    (by first | exact .inl (by decide +kernel) | exact .inr (by decide +kernel)) (by rw [isSubtype_type]; kernel_rfl)
theorem slot_pw_init : Slot "itertools.pairwise" "__init__" "object.__init__" :=
  .of (owner := "object") (n := "__init__") (by rw [typeLookup_type, builtinLookup_eq_fast]; kernel_rfl) (by decide +kernel) (by decide +kernel) (by decide +kernel)
    (by first | exact .inl (by decide +kernel) | exact .inr (by decide +kernel)) (by rw [isSubtype_type]; kernel_rfl)
theorem owner_pw : Manifest.owners.lookup (String.ofList ['e','s','i','w','r','i','a','p','.','s','l','o','o','t','r','e','t','i'].reverse) = some Manifest.sig_itertools_pairwise := by kernel_rfl
theorem args_pw_next (a : Value) : argsOk "itertools.pairwise.__next__" ⟨[a], []⟩ := by
  unfold argsOk; rw [signature?_of (id := "itertools.pairwise.__next__") (n := ['_', '_', 't', 'x', 'e', 'n', '_', '_']) (o := ['e','s','i','w','r','i','a','p','.','s','l','o','o','t','r','e','t','i']) (by kernel_rfl) owner_pw]; kernel_rfl
theorem args_pw_iter (a : Value) : argsOk "itertools.pairwise.__iter__" ⟨[a], []⟩ := by
  unfold argsOk; rw [signature?_of (id := "itertools.pairwise.__iter__") (n := ['_', '_', 'r', 'e', 't', 'i', '_', '_']) (o := ['e','s','i','w','r','i','a','p','.','s','l','o','o','t','r','e','t','i']) (by kernel_rfl) owner_pw]; kernel_rfl
theorem entry_pw_next : entryFor table "itertools.pairwise.__next__" = some Builtin.«itertools.pairwise.__next__» := entryFor_of_tree (by kernel_rfl)
theorem entry_pw_iter : entryFor table "itertools.pairwise.__iter__" = some Builtin.«dict_keyiterator.__iter__» :=
  entryFor_alias (id' := "dict_keyiterator.__iter__") (by kernel_rfl) (by first | rfl | decide +kernel | (unfold String.splitOn; simp +decide [String.splitOnAux])) (by decide +kernel) (by kernel_rfl)
theorem mro_pw : mroOf (.type "itertools.pairwise") = pure [.type "itertools.pairwise", .type "object"] := by rw [mroOf_type]; kernel_rfl
theorem lookup_pw_new : typeLookup (.type "itertools.pairwise") "__new__" = pure (some (.builtin "itertools.pairwise.__new__")) := by rw [typeLookup_type, builtinLookup_eq_fast]; kernel_rfl
theorem called_pw : TypeCalled "itertools.pairwise" "itertools.pairwise.__new__" "object.__init__" :=
  ⟨by decide +kernel, by decide +kernel, ⟨_, _, mro_pw⟩, madeBy_type mro_pw lookup_pw_new (by decide +kernel), by decide +kernel, by rw [isSubtype_type]; kernel_rfl, slot_pw_init⟩
theorem typeCall_pw (a : Value) : checkTypeCall "itertools.pairwise" ⟨[a], []⟩ = pure () := by kernel_rfl
theorem newCall_pw (a : Value) : checkBuiltinCall "itertools.pairwise.__new__" ⟨[.type "itertools.pairwise", a], []⟩ = pure () := by kernel_rfl
theorem entry_pw_new : entryFor table "itertools.pairwise.__new__" = some Builtin.«itertools.pairwise.__new__» := entryFor_of_tree (by kernel_rfl)
end F
theorem sub_pw : isSubtype (.type "itertools.pairwise") (.type "itertools.pairwise") = pure true := by rw [isSubtype_type]; kernel_rfl
end PySem

namespace PySem
section
variable {P : Program} {w : World} {A : Around} {E : Value → Shared → Prop} {s : Shared}
/-- the raw next of a list's iterator: an item, or the end -/
theorem lit_raw {j b : Addr} {n : Nat} {us : Array Value} {Q : Value → Shared → Prop} (hj : s.heap.IsListIter j b n) (hb : s.heap.IsList b us)
    (some_ : ∀ u, us[n]? = some u → ∀ g, g.IsListIter j b (n + 1) → Heap.SameBut j s.heap g → Q u { s with heap := g })
    (none_ : us[n]? = none → A.handled = none ∧ ∀ g x, Heap.ExtBut j s.heap g → (∃ o, g.get? x = some o ∧ o.cls = .type "StopIteration") → E (.ref x) { s with heap := g }) :
    wpAny (model P w) A (Builtin.Itertools.itRawNext (.ref j)) Q E s := by
  have ty := hj.typeIs
  obtain ⟨oj, gj, cj, dj⟩ := hj
  obtain ⟨ob, gb, _, m, db⟩ := hb
  unfold Builtin.Itertools.itRawNext
  refine wpAny_bind (wpAny_callSpecial?_slot (name := Str.ofString "__next__") ty slot_listiter_next (wpAny_call_entry slot_listiter_next ty entry_listiter_next ?body (args_listiter_next _)))
  case body =>
    refine wpAny_bind (m := field (.ref j) 0) (wpAny_field gj dj (x := .ref b) rfl ?f1)
    case f1 =>
      have nb : ¬ ((Value.ref b == Value.none) = true) := Bool.false_ne_true
      refine (if_neg nb).symm ▸ ?f2
      case f2 =>
        refine wpAny_bind (m := field (.ref j) 1) (wpAny_field gj dj (x := .int n 0) rfl (wpAny_bind (m := seqItems? (.ref b)) (wpAny_seqItems gb db ?f3)))
        case f3 =>
          cases e : us[n]? with
          | some u =>
            simp only [Int.toNat_natCast, e]
            refine wpAny_bind (wpAny_setField gj dj (by simp) (wpAny_pure ⟨u, rfl, wpAny_pure (some_ u e _ ⟨_, Heap.get?_update_self _ gj (Obj.isFreed_of_fields (Obj.data_mapFields dj _)), (Obj.cls_mapFields ..).trans cj, ?_⟩ (Heap.SameBut.update ..))⟩))
            rw [Obj.data_mapFields dj]
            simp [rawInt]
          | none =>
            obtain ⟨hh, out⟩ := none_ e
            simp only [Int.toNat_natCast, e]
            refine wpAny_bind (wpAny_rule (wpAny_bind (wpAny_setField gj dj (by simp) (wpAny_bind (m := newExc (.type "StopIteration") []) ?_))))
            simp only [newExc, newTuple]
            refine wpAny_bind (wpAny_newObj_type (wpAny_bind (m := firstArgMember _ _) (wpAny_of_eq (a := Value.none) (by first | rfl | (simp only [firstArgMember]; rfl)) (wpAny_newObj_type ?_ (by size_fits)))) (by size_fits))
            exact wpAny_raiseNew_none (A := A.in1) hh (out _ _ (((Heap.SameBut.update ..).extBut.push _).push _) ⟨_, Heap.get?_push_size _ rfl, rfl⟩)
end
end PySem

namespace PySem
/-- the record of pairwise: handed out, its iterator, the item ahead, the kept tuple -/
abbrev IsPw (h : Heap) (z it kept : Addr) (f0 old : Value) : Prop :=
  h.get? z = some { cls := .type "itertools.pairwise", dict := none, data := .fields #[f0, .bool false, .ref it, old, .ref kept], slots := #[] }
structure PwApart (z it kept l : Addr) : Prop where
  iz : it ≠ z
  kz : kept ≠ z
  ki : kept ≠ it
  lz : l ≠ z
  li : l ≠ it
  lk : l ≠ kept
theorem if_ref {α : Type} {a : Addr} {x y : α} : (if (Value.ref a == Value.none) = true then x else y) = y := if_neg Bool.false_ne_true
section
variable {P : Program} {w : World} {A : Around} {E : Value → Shared → Prop} {s : Shared} {z it kept l : Addr} {k n : Nat} {xs : Array Value} {old x y a b : Value}
theorem pw_item {Q : Value → Shared → Prop} (D : PwApart z it kept l) (hz : IsPw s.heap z it kept .none old) (hK : IsPair s.heap kept a b) (hl : s.heap.IsList l xs) (hi : s.heap.IsListIter it l k)
    (st : (old = rawInt 0 ∧ xs[k]? = some x ∧ xs[k + 1]? = some y ∧ n = k + 2) ∨ ((old == Builtin.Itertools.itNothing) = false ∧ x = old ∧ xs[k]? = some y ∧ n = k + 1))
    (hQ : ∀ g, IsPw g z it kept (rawInt s.heap.objs.size) y → IsPair g kept x y → g.IsListIter it l n → IsPair g s.heap.objs.size x y → g.objs.size = s.heap.objs.size + 1 →
      (∀ c o, c ≠ z → c ≠ kept → c ≠ it → s.heap.get? c = some o → g.get? c = some o) → Q (.ref s.heap.objs.size) { s with heap := g }) :
    wpAny (model P w) A (Builtin.«itertools.pairwise.__next__» ⟨[.ref z], []⟩) (fun fin s' => ∃ v, fin = .done (.ret v) ∧ Q v s') E s := by
  refine wpAny_bind (m := field (.ref z) 2) (wpAny_field hz rfl (x := .ref it) rfl (if_ref ▸ ?_))
  refine wpAny_bind (m := field (.ref z) 3) (wpAny_field hz rfl (x := old) rfl ?_)
  rcases st with ⟨rfl, ex, ey, rfl⟩ | ⟨ne, rfl, ey, rfl⟩
  case' inl =>
    refine (if_pos (show (rawInt 0 == Builtin.Itertools.itNothing) = true from by simp [Builtin.Itertools.itNothing])).symm ▸ wpAny_bind (wpAny_rule (wpAny_bind (wpAny_tryCatch ?_)))
    refine lit_raw hi hl (fun u hu g₁ i₁ b₁ => ?_) (fun h => by rw [ex] at h; cases h)
    cases ex.symm.trans hu
    refine wpAny_bind (wpAny_setField_rec (b₁.extBut _ _ D.iz.symm hz) (by simp) fun g₂ z₂ b₂ => ?_)
    have hz : IsPw g₂ z it kept .none x := z₂
    refine wpAny_bind (m := field (.ref z) 2) (wpAny_field hz rfl (x := .ref it) rfl (if_ref ▸ ?_))
    have hK : IsPair g₂ kept a b := b₂.extBut _ _ D.kz (b₁.extBut _ _ D.ki hK)
    have hl : g₂.IsList l xs := (hl.extBut b₁.extBut D.li).extBut b₂.extBut D.lz
    have hi : g₂.IsListIter it l (k + 1) := i₁.extBut b₂.extBut D.iz
    have was : ∀ c o, c ≠ z → c ≠ it → s.heap.get? c = some o → g₂.get? c = some o := fun c o c1 c3 e => b₂.extBut _ _ c1 (b₁.extBut _ _ c3 e)
    have sz : g₂.objs.size = s.heap.objs.size := by rw [b₂.1, b₁.1]
  case' inr =>
    refine (if_neg (c := (x == Builtin.Itertools.itNothing) = true) (by rw [ne]; exact Bool.false_ne_true)).symm ▸ ?_
    have was : ∀ c o, c ≠ z → c ≠ it → s.heap.get? c = some o → s.heap.get? c = some o := fun c o _ _ e => e
    have sz : s.heap.objs.size = s.heap.objs.size := rfl
  all_goals
    refine wpAny_bind (m := field (.ref z) 3) (wpAny_field hz rfl (x := x) rfl ?_)
    refine wpAny_bind (wpAny_holding (wpAny_tryCatch (lit_raw hi hl (fun u hu g₃ i₃ b₃ => ?_) (fun h => by rw [ey] at h; cases h))))
    cases ey.symm.trans hu
    refine wpAny_bind (wpAny_holding (wpAny_newTuple ?_))
    have z₃ := b₃.extBut _ _ D.iz.symm hz
    have k₃ := b₃.extBut _ _ D.ki hK
    have s₃ := b₃.1.trans sz
    have zl := Heap.lt_size z₃
    have kl := Heap.lt_size k₃
    have z₄ := Heap.get?_push_of_some { cls := .type "tuple", data := .seq #[x, y] } z₃
    have k₄ := Heap.get?_push_of_some { cls := .type "tuple", data := .seq #[x, y] } k₃
    have i₄ : (g₃.push { cls := .type "tuple", data := .seq #[x, y] }).IsListIter it l _ := i₃.at fun o e => Heap.get?_push_of_some _ e
    have t₄ : IsPair (g₃.push { cls := .type "tuple", data := .seq #[x, y] }) g₃.objs.size x y := Heap.get?_push_size _ rfl
    have n₄ : (g₃.push { cls := .type "tuple", data := .seq #[x, y] }).objs.size = g₃.objs.size + 1 := Heap.size_push ..
    have w₄ : ∀ c o, c ≠ z → c ≠ it → s.heap.get? c = some o → (g₃.push { cls := .type "tuple", data := .seq #[x, y] }).get? c = some o := fun c o c1 c2 e => Heap.get?_push_of_some _ (b₃.extBut _ _ c2 (was c o c1 c2 e))
    dsimp only
    generalize (g₃.push { cls := .type "tuple", data := .seq #[x, y] }) = g₄ at *
    refine wpAny_bind (m := Builtin.Itertools.itOwnedIsFree (.ref z)) (wpAny_bind (m := field (.ref z) 0) (wpAny_field z₄ rfl (x := .none) rfl (wpAny_pure ?_)))
    refine (if_pos rfl).symm ▸ wpAny_bind (wpAny_rule (wpAny_bind (m := field (.ref z) 4) (wpAny_field z₄ rfl (x := .ref kept) rfl ?_)))
    refine wpAny_bind (m := Builtin.Itertools.itPoolItems (.ref kept)) (wpAny_bind (m := seqItems? (.ref kept)) (wpAny_seqItems k₄ rfl (wpAny_pure ?_)))
    refine wpAny_bind (wpAny_updateSeq k₄ rfl ?_)
    have k₅ : IsPair (g₄.update kept (Obj.mapSeq fun _ => #[x, y])) kept x y := (Heap.get?_update_self _ k₄ rfl).trans (by simp [Obj.mapSeq])
    have b₅ : Heap.SameBut kept g₄ (g₄.update kept (Obj.mapSeq fun _ => #[x, y])) := Heap.SameBut.update ..
    dsimp only
    generalize (g₄.update kept (Obj.mapSeq fun _ => #[x, y])) = g₅ at *
    refine wpAny_bind (m := Builtin.Itertools.itOwnedHandOut (.ref z) (.ref g₃.objs.size)) (wpAny_bind (wpAny_setField_rec (b₅.extBut _ _ D.kz.symm z₄) (by simp) fun g₆ z₆ b₆ => wpAny_setField_rec z₆ (by simp) fun g₇ z₇ b₇ => ?_))
    refine wpAny_bind (wpAny_setField_rec z₇ (by simp) fun g₈ z₈ b₈ => wpAny_bind (wpAny_letGo (wpAny_pure ⟨_, rfl, ?_⟩)))
    have z₈ : IsPw g₈ z it kept (rawInt g₃.objs.size) y := z₈
    have up : ∀ c o, c ≠ z → g₅.get? c = some o → g₈.get? c = some o := fun c o c1 e => b₈.extBut _ _ c1 (b₇.extBut _ _ c1 (b₆.extBut _ _ c1 e))
    have up2 : ∀ c o, c ≠ z → c ≠ kept → g₄.get? c = some o → g₈.get? c = some o := fun c o c1 c2 e => up c o c1 (b₅.extBut _ _ c2 e)
    have n₈ : g₈.objs.size = s.heap.objs.size + 1 := by rw [b₈.1, b₇.1, b₆.1, b₅.1, n₄, s₃]
    have t₈ : IsPair g₈ g₃.objs.size x y := up2 _ _ (Nat.ne_of_gt zl) (Nat.ne_of_gt kl) t₄
    rw [s₃] at z₈ t₈
    have fin := hQ g₈ z₈ (up _ _ D.kz k₅) (i₄.at fun o e => up2 _ o D.iz D.ki.symm e) t₈ n₈ fun c o c1 c2 c3 e => up2 c o c1 c2 (w₄ c o c1 c3 e)
    rw [← s₃] at fin
    exact fin
/-- what is done behind the end: the record is emptied, the error goes on -/
theorem pw_ended {e : Addr} {α : Type} {Q : α → Shared → Prop} (hz : IsPw s.heap z it kept .none old)
    (hE : ∀ g, (∀ c o, c ≠ z → s.heap.get? c = some o → g.get? c = some o) → E (.ref e) { s with heap := g }) {f : Value → List Value} {t : List Value} :
    wpAny (model P w) A ((field (.ref z) 3 >>= fun o => setField (.ref z) 2 .none >>= fun _ => setField (.ref z) 3 Builtin.Itertools.itNothing >>= fun _ => letGo (f o) t) >>= fun _ => (throw (.ref e) : Sem α)) Q E s := by
  refine wpAny_bind (wpAny_bind (wpAny_field hz rfl (x := old) rfl (wpAny_bind (wpAny_setField_rec hz (by simp) fun g₁ z₁ b₁ => wpAny_bind (wpAny_setField_rec z₁ (by simp) fun g₂ z₂ b₂ => ?_)))))
  exact wpAny_letGo (wpAny_throw (hE _ fun c o c1 e => b₂.extBut _ _ c1 (b₁.extBut _ _ c1 e)))
theorem pw_end {Q : Fin → Shared → Prop} (hh : A.handled = none) (D : PwApart z it kept l) (hz : IsPw s.heap z it kept .none old) (hl : s.heap.IsList l xs) (hi : s.heap.IsListIter it l k)
    (st : (old = rawInt 0 ∧ (xs[k]? = none ∨ xs[k + 1]? = none)) ∨ ((old == Builtin.Itertools.itNothing) = false ∧ xs[k]? = none))
    (hE : ∀ g x, (∀ c o, c ≠ z → c ≠ kept → c ≠ it → s.heap.get? c = some o → g.get? c = some o) → (∃ o, g.get? x = some o ∧ o.cls = .type "StopIteration") → E (.ref x) { s with heap := g }) :
    wpAny (model P w) A (Builtin.«itertools.pairwise.__next__» ⟨[.ref z], []⟩) Q E s := by
  refine wpAny_bind (m := field (.ref z) 2) (wpAny_field hz rfl (x := .ref it) rfl (if_ref ▸ ?_))
  refine wpAny_bind (m := field (.ref z) 3) (wpAny_field hz rfl (x := old) rfl ?_)
  have out : ∀ (o' : Value) (g₀ g : Heap) (x : Addr), IsPw g₀ z it kept .none o' → Heap.ExtBut it g₀ g → (∀ c o, c ≠ z → c ≠ it → s.heap.get? c = some o → g₀.get? c = some o) → (∃ o, g.get? x = some o ∧ o.cls = .type "StopIteration") →
      IsPw g z it kept .none o' ∧ ∀ g', (∀ c o, c ≠ z → g.get? c = some o → g'.get? c = some o) → E (.ref x) { s with heap := g' } := fun o' g₀ g x z₀ b was ⟨o, ho, hc⟩ => by
    have z₁ : IsPw g z it kept .none o' := b _ _ D.iz.symm z₀
    have nx : x ≠ z := fun e => by
      subst e
      rw [z₁] at ho
      cases ho
      simp at hc
    exact ⟨z₁, fun g' kp => hE g' x (fun c o c1 _ c3 e => kp _ _ c1 (b _ _ c3 (was _ _ c1 c3 e))) ⟨o, kp _ _ nx ho, hc⟩⟩
  rcases st with ⟨rfl, en⟩ | ⟨ne, en⟩
  · refine (if_pos (show (rawInt 0 == Builtin.Itertools.itNothing) = true from by simp [Builtin.Itertools.itNothing])).symm ▸ wpAny_bind (wpAny_rule (wpAny_bind (wpAny_tryCatch ?_)))
    refine lit_raw hi hl (fun u hu g₁ i₁ b₁ => ?_) fun h => ⟨hh, fun g x b q => ?_⟩
    · have en : xs[k + 1]? = none := by
        rcases en with en | en
        · rw [hu] at en
          cases en
        · exact en
      refine wpAny_bind (wpAny_setField_rec (b₁.extBut _ _ D.iz.symm hz) (by simp) fun g₂ z₂ b₂ => ?_)
      have hz : IsPw g₂ z it kept .none u := z₂
      refine wpAny_bind (m := field (.ref z) 2) (wpAny_field hz rfl (x := .ref it) rfl (if_ref ▸ ?_))
      refine wpAny_bind (m := field (.ref z) 3) (wpAny_field hz rfl (x := u) rfl ?_)
      refine wpAny_bind (wpAny_holding (wpAny_tryCatch (lit_raw (i₁.extBut b₂.extBut D.iz) ((hl.extBut b₁.extBut D.li).extBut b₂.extBut D.lz) (fun u hu => by rw [en] at hu; cases hu) fun h => ⟨hh, fun g x b q => ?_⟩)))
      obtain ⟨q1, q2⟩ := out u g₂ g x hz b (fun c o c1 c3 e => b₂.extBut _ _ c1 (b₁.extBut _ _ c3 e)) q
      exact pw_ended (s := { s with heap := g }) q1 q2
    · obtain ⟨q1, q2⟩ := out _ s.heap g x hz b (fun c o _ _ e => e) q
      exact pw_ended (s := { s with heap := g }) q1 q2
  · refine (if_neg (c := (old == Builtin.Itertools.itNothing) = true) (by rw [ne]; exact Bool.false_ne_true)).symm ▸ ?_
    refine wpAny_bind (m := field (.ref z) 3) (wpAny_field hz rfl (x := old) rfl ?_)
    refine wpAny_bind (wpAny_holding (wpAny_tryCatch (lit_raw hi hl (fun u hu => by rw [en] at hu; cases hu) fun h => ⟨hh, fun g x b q => ?_⟩)))
    obtain ⟨q1, q2⟩ := out _ s.heap g x hz b (fun c o _ _ e => e) q
    exact pw_ended (s := { s with heap := g }) q1 q2
/-! ### next(z), the tuple given back, iter(z) -/
theorem pw_type {f0 : Value} (hz : IsPw s.heap z it kept f0 old) : s.TypeIs (.ref z) "itertools.pairwise" := ⟨_, hz, rfl⟩
theorem next_pw {Q : Option Value → Shared → Prop} (D : PwApart z it kept l) (hz : IsPw s.heap z it kept .none old) (hK : IsPair s.heap kept a b) (hl : s.heap.IsList l xs) (hi : s.heap.IsListIter it l k)
    (st : (old = rawInt 0 ∧ xs[k]? = some x ∧ xs[k + 1]? = some y ∧ n = k + 2) ∨ ((old == Builtin.Itertools.itNothing) = false ∧ x = old ∧ xs[k]? = some y ∧ n = k + 1))
    (hQ : ∀ g, IsPw g z it kept (rawInt s.heap.objs.size) y → IsPair g kept x y → g.IsListIter it l n → IsPair g s.heap.objs.size x y → g.objs.size = s.heap.objs.size + 1 →
      (∀ c o, c ≠ z → c ≠ kept → c ≠ it → s.heap.get? c = some o → g.get? c = some o) → Q (some (.ref s.heap.objs.size)) { s with heap := g }) :
    wpAny (model P w) A (pyNext (.ref z)) Q E s := by
  unfold pyNext
  refine wpAny_bind (wpAny_attempt (wpAny_callSpecial?_slot (name := Str.ofString "__next__") (pw_type hz) F.slot_pw_next (wpAny_call_entry F.slot_pw_next (pw_type hz) F.entry_pw_next ?_ (F.args_pw_next _))))
  exact pw_item D hz hK hl hi st fun g a1 a2 a3 a4 a5 a6 => wpAny_pure (hQ g a1 a2 a3 a4 a5 a6)
theorem next_pw_end {Q : Option Value → Shared → Prop} (hh : A.handled = none) (D : PwApart z it kept l) (hz : IsPw s.heap z it kept .none old) (hl : s.heap.IsList l xs) (hi : s.heap.IsListIter it l k)
    (st : (old = rawInt 0 ∧ (xs[k]? = none ∨ xs[k + 1]? = none)) ∨ ((old == Builtin.Itertools.itNothing) = false ∧ xs[k]? = none))
    (hQ : ∀ g, (∀ c o, c ≠ z → c ≠ kept → c ≠ it → s.heap.get? c = some o → g.get? c = some o) → Q none { s with heap := g }) : wpAny (model P w) A (pyNext (.ref z)) Q E s := by
  unfold pyNext
  refine wpAny_bind (wpAny_attempt (wpAny_callSpecial?_slot (name := Str.ofString "__next__") (pw_type hz) F.slot_pw_next (wpAny_call_entry F.slot_pw_next (pw_type hz) F.entry_pw_next ?_ (F.args_pw_next _))))
  refine pw_end hh D hz hl hi st fun g x kp ⟨o, ho, hc⟩ => ?_
  exact wpAny_bind (wpAny_isInstance (T := "StopIteration") (b := true) ⟨o, ho, hc⟩ isSubtype_stop (wpAny_pure (hQ g kp)))
theorem go_pw {elts : List Expr} {m : Nat} {pos : Pos} {T : Addr} {Q : Unit → Shared → Prop} (hz : IsPw s.heap z it kept (rawInt T) old)
    (hQ : ∀ g, IsPw g z it kept .none old → Heap.SameBut z s.heap g → Q () { s with heap := g }) : wpAny (model P w) A (letOwnedTupleGo (.Tuple elts m pos) (.ref z) (.ref T)) Q E s := by
  unfold letOwnedTupleGo
  refine wpAny_bind (wpAny_load hz ?_)
  dsimp only
  rw [if_pos (by simp)]
  refine wpAny_bind (wpAny_rule ?_)
  exact wpAny_setField_rec (w := w) (k := 0) (x := Value.none) hz (by simp) hQ
theorem iter_pw {f0 : Value} {Q : Value → Shared → Prop} (hz : IsPw s.heap z it kept f0 old) (h : Q (.ref z) s) : wpAny (model P w) A (pyIter (.ref z)) Q E s :=
  wpAny_pyIter_slot (pw_type hz) F.slot_pw_iter (wpAny_call_entry F.slot_pw_iter (pw_type hz) F.entry_pw_iter (wpAny_pure ⟨_, rfl, "itertools.pairwise", _, pw_type hz, F.slot_pw_next.lookup, h⟩) (F.args_pw_iter _))
end
end PySem

namespace PySem
abbrev pwH1 (h : Heap) (l : Addr) : Heap := h.push { cls := .type "list_iterator", data := .fields #[.ref l, .int 0 0] }
abbrev pwH2 (h : Heap) (l : Addr) : Heap := (pwH1 h l).push { cls := .type "tuple", data := .seq #[.none, .none] }
abbrev pwH3 (h : Heap) (l : Addr) : Heap := (pwH2 h l).push { cls := .type "itertools.pairwise", data := .fields #[.none, .bool false, .ref h.objs.size, rawInt 0, .ref (pwH1 h l).objs.size] }
theorem typeHasDict_pw : typeHasDict (.type "itertools.pairwise") = false := by kernel_rfl
theorem meets_pw_new (l : Addr) (xs : Array Value) :
    Meets (Builtin.«itertools.pairwise.__new__» ⟨[.type "itertools.pairwise", .ref l], []⟩) (fun _ R s => s.heap.IsList l xs ∧
      R (.ok (.ret (.ref (pwH2 s.heap l).objs.size))) { s with heap := pwH3 s.heap l }) :=
  .of_wp fun prog w A R s h => by
    obtain ⟨hl, h⟩ := h
    unfold Builtin.«itertools.pairwise.__new__» Builtin.Itertools.itPositionalOnly Builtin.Itertools.itClassAndRest
    refine wpAny_bind (wpAny_bind (wpAny_bind (wpAny_pure ?_)))
    show wpAny (model prog w) A.in1 (isSubtype (.type "itertools.pairwise") (.type "itertools.pairwise") >>= _) _ _ s
    rw [sub_pw]
    refine wpAny_bind (wpAny_pure ?_)
    refine wpAny_pure ?_
    show wpAny (model prog w) A.in1 ((checkCount "pairwise" 1 1 1 : Sem Unit) >>= _) _ _ s
    refine wpAny_bind (wpAny_pure ?_)
    refine wpAny_pure ?_
    show wpAny (model prog w) A.in1 (pyIter (.ref l) >>= _) _ _ s
    refine wpAny_bind (wpAny_pyIter_list hl ?_)
    refine wpAny_bind (wpAny_holding (wpAny_newTuple ?_))
    show wpAny (model prog w) A.in1 (Builtin.Itertools.itNewRecord _ _ >>= _) _ _ _
    refine wpAny_bind ?_
    unfold Builtin.Itertools.itNewRecord
    rw [typeHasDict_pw, if_pos (show (!false) = true from rfl)]
    refine wpAny_newObj_type ?_ ?_
    · exact wpAny_pure ⟨_, rfl, h⟩
    · first | trivial | (show (5 : Nat) ≤ _; decide) | (simp [sizeOk])
section
variable {prog : Program} {w : World} {A : Around} {E : Value → Shared → Prop} {s : Shared}
theorem call_pw {l : Addr} {xs : Array Value} {Q : Value → Shared → Prop} (hl : s.heap.IsList l xs)
    (h : ∀ h', IsPw h' (s.heap.objs.size + 2) s.heap.objs.size (s.heap.objs.size + 1) .none (rawInt 0) → IsPair h' (s.heap.objs.size + 1) .none .none → h'.IsListIter s.heap.objs.size l 0 → h'.objs.size = s.heap.objs.size + 3 →
      (∀ c o, s.heap.get? c = some o → h'.get? c = some o) → Q (.ref (s.heap.objs.size + 2)) { s with heap := h' }) :
    wpAny (model prog w) A (call (.type "itertools.pairwise") [.ref l]) Q E s := by
  refine callType_new F.called_pw (by decide) (F.typeCall_pw _) (F.newCall_pw _) (fun obj => F.args_object_init_2 obj _) F.entry_pw_new
    (meets_pw_new l xs) ⟨hl, ?_⟩
  have z1 : (pwH1 s.heap l).objs.size = s.heap.objs.size + 1 := Heap.size_push ..
  have z2 : (pwH2 s.heap l).objs.size = s.heap.objs.size + 2 := by rw [Heap.size_push, z1]
  have z3 : (pwH3 s.heap l).objs.size = s.heap.objs.size + 3 := by rw [Heap.size_push, z2]
  have g3 : (pwH3 s.heap l).get? (pwH2 s.heap l).objs.size = some _ := Heap.get?_push_size _ rfl
  have g2 : (pwH3 s.heap l).get? (pwH1 s.heap l).objs.size = some _ := Heap.get?_push_of_some _ (Heap.get?_push_size _ rfl)
  have g1 : (pwH3 s.heap l).get? s.heap.objs.size = some _ := Heap.get?_push_of_some _ (Heap.get?_push_of_some _ (Heap.get?_push_size _ rfl))
  show _ ∧ _
  rw [z1, z2] at g3
  rw [z1] at g2
  rw [z2]
  exact ⟨⟨_, g3, rfl⟩, h _ g3 g2 ⟨_, g1, rfl, rfl⟩ z3 fun c o x =>
    Heap.get?_push_of_some _ (Heap.get?_push_of_some _ (Heap.get?_push_of_some _ x))⟩
end
end PySem
namespace DL
open PySem PySem.W PySem.Spec PyProof.Rows L2
variable [Tbl]
/-- pairs of neighbours of the list at a, which stays -/
def ItsP (K : PySem.W.Frag) (a : Addr) (xs : List V) : It where
  go i H := SqL K H a xs ∧ i + 1 < xs.length
  yld i H v H' := ∃ T x y, v = .ref T ∧ H T = none ∧ H' = upd H T (.tup [x, y]) ∧ xs[i]? = some x ∧ xs[i + 1]? = some y
  stop i H := SqL K H a xs ∧ xs.length ≤ i + 1
theorem pw_ne0 {x : V} {u : Value} (r : RelV x u) (h : x ≠ .int 0) : (u == Builtin.Itertools.itNothing) = false := by
  cases x with
  | int i =>
    obtain ⟨t, rfl⟩ := r
    have : i ≠ 0 := fun e => h (by rw [e])
    simp [Builtin.Itertools.itNothing, rawInt, this]
  | str y => obtain ⟨t, rfl⟩ := r; simp [Builtin.Itertools.itNothing, rawInt]
  | byt y => obtain ⟨t, rfl⟩ := r; simp [Builtin.Itertools.itNothing, rawInt]
  | flt y => obtain ⟨t, rfl⟩ := r; simp [Builtin.Itertools.itNothing, rawInt]
  | non => cases r; simp [Builtin.Itertools.itNothing, rawInt]
  | bl b => cases r; simp [Builtin.Itertools.itNothing, rawInt]
  | ref a => cases r; simp [Builtin.Itertools.itNothing, rawInt]
  | ty n => cases r; simp [Builtin.Itertools.itNothing, rawInt]
def PwSt (a z it kept : Addr) (xs : List V) (i : Nat) (h : Heap) : Prop :=
  ∃ old, IsPw h z it kept .none old ∧ (∃ x y, IsPair h kept x y) ∧ ((i = 0 ∧ old = rawInt 0 ∧ h.IsListIter it a 0) ∨ (0 < i ∧ (∃ x, xs[i]? = some x ∧ RelV x old ∧ x ≠ .int 0) ∧ h.IsListIter it a (i + 1)))
theorem turn_pw {P : Program} {w : World} {K : PySem.W.Frag} {elts : List Expr} {kk : Nat} {tpos : Pos} {a z it kept : Addr} {xs : List V} (D : PwApart z it kept a) (nz : ∀ i x, xs[i + 1]? = some x → x ≠ .int 0) :
    Turn P w K (.Tuple elts kk tpos) (ItsP K a xs) [z, it, kept] z (PwSt a z it kept xs) where
  mem := by simp
  obj := fun i h st c hc => by
    obtain ⟨old, hz, ⟨x, y, hK⟩, st⟩ := st
    have hi : ∃ k, h.IsListIter it a k := by rcases st with ⟨_, _, e⟩ | ⟨_, _, e⟩; exact ⟨_, e⟩; exact ⟨_, e⟩
    obtain ⟨k, oi, ei, _, di⟩ := hi
    have e' : c = z ∨ c = it ∨ c = kept := by simpa using hc
    rcases e' with q | q | q
    · rw [q]; exact ⟨_, hz, fun v q => nomatch q⟩
    · rw [q]; exact ⟨oi, ei, fun v q => by rw [di] at q; cases q⟩
    · rw [q]; exact ⟨_, hK, fun v q => nomatch q⟩
  keep := fun i h h' st k => by
    obtain ⟨old, hz, ⟨x, y, hK⟩, st⟩ := st
    refine ⟨old, k z (by simp) _ hz, ⟨x, y, k kept (by simp) _ hK⟩, ?_⟩
    rcases st with ⟨e, e2, hi⟩ | ⟨e, e2, hi⟩
    · exact .inl ⟨e, e2, hi.at fun o q => k it (by simp) o q⟩
    · exact .inr ⟨e, e2, hi.at fun o q => k it (by simp) o q⟩
  item := by
    intro X hP hw hK hc i pins s σ H E I hf st hg
    subst hP hw hK
    obtain ⟨old, hz, ⟨x0, y0, hK⟩, st⟩ := st
    obtain ⟨hq, hlt⟩ := hg
    obtain ⟨its, rv, p, _⟩ := I.list hq
    have hx : xs[i]? = some xs[i] := List.getElem?_eq_getElem (by omega)
    have hy : xs[i + 1]? = some xs[i + 1] := List.getElem?_eq_getElem hlt
    obtain ⟨u, hu, ru⟩ := rv.get hx
    obtain ⟨u2, hu2, ru2⟩ := rv.get hy
    have hzl : z < s.heap.objs.size := Heap.lt_size hz
    have hkl : kept < s.heap.objs.size := Heap.lt_size hK
    have hil : it < s.heap.objs.size := by
      rcases st with ⟨_, _, _, e, _⟩ | ⟨_, _, _, e, _⟩
      · exact Heap.lt_size e
      · exact Heap.lt_size e
    have key : ∃ (v : Value) (x : V), xs[i]? = some x ∧ RelV x v ∧ ∀ {A : Around} {Q : Option Value → Shared → Prop} {E : Value → Shared → Prop}, (∀ h', IsPw h' z it kept (rawInt s.heap.objs.size) u2 → IsPair h' kept v u2 → h'.IsListIter it a (i + 2) → IsPair h' s.heap.objs.size v u2 → h'.objs.size = s.heap.objs.size + 1 →
      (∀ c o, c ≠ z → c ≠ kept → c ≠ it → s.heap.get? c = some o → h'.get? c = some o) → Q (some (.ref s.heap.objs.size)) { s with heap := h' }) → wpAny (model X.prog X.w) A (pyNext (.ref z)) Q E s := by
      rcases st with ⟨rfl, rfl, hi⟩ | ⟨i0, ⟨x, hxi, rx, nx⟩, hi⟩
      · exact ⟨u, _, hx, ru, fun q => next_pw D hz hK p.isList hi (x := u) (y := u2) (.inl ⟨rfl, by simpa using hu, by simpa using hu2, rfl⟩) q⟩
      · exact ⟨old, x, hxi, rx, fun q => next_pw D hz hK p.isList hi (y := u2) (.inr ⟨pw_ne0 rx nx, rfl, by simpa using hu2, rfl⟩) q⟩
    obtain ⟨v, x, hx', rx, key⟩ := key
    refine key fun h' z' k' i' hT hsz hk => ?_
    refine ⟨_, rfl, go_pw (s := { s with heap := h' }) z' fun h'' z'' sb => ?_⟩
    have hT2 : h''.get? s.heap.objs.size = some { cls := .type "tuple", data := .seq #[v, u2] } := (sb.2 _ (Nat.ne_of_gt hzl)).trans hT
    have new : ObjOk X.prog X.w (upd H s.heap.objs.size (.tup [x, xs[i + 1]])) h'' s.heap.objs.size (.tup [x, xs[i + 1]]) :=
      ⟨by show 2 ≤ sizeLine; decide, [v, u2], .cons rx (.cons ru2 .nil), ⟨_, hT2, rfl, _, rfl⟩⟩
    have I1 : Inv X pins σ (upd H s.heap.objs.size (.tup [x, xs[i + 1]])) { s with heap := h'' } :=
      I.turnedNew (t' := s.toks) (ch := [z, it, kept]) (fun c o hb q => (sb.2 c (fun q' => hb (by simp [q']))).trans (hk c o (fun q' => hb (by simp [q'])) (fun q' => hb (by simp [q'])) (fun q' => hb (by simp [q'])) q)) hf (Nat.le_refl _) new
    refine ⟨.ref s.heap.objs.size, _, I1, rfl, ⟨_, x, _, rfl, I.hok.fresh (Nat.le_refl _), rfl, hx', hy⟩, ⟨u2, z'', ⟨v, u2, (sb.2 _ D.kz).trans k'⟩, .inr ⟨Nat.succ_pos i, ⟨_, hy, ru2, nz _ _ hy⟩, i'.at fun o q => (sb.2 _ D.iz).trans q⟩⟩, fun c hcm => ?_⟩
    have hlt' : c < s.heap.objs.size := by
      have e' : c = z ∨ c = it ∨ c = kept := by simpa using hcm
      rcases e' with q | q | q
      · rw [q]; exact hzl
      · rw [q]; exact hil
      · rw [q]; exact hkl
    rw [upd_ne (Nat.ne_of_lt hlt')]
    exact (hf c hcm).1
  done := by
    intro X hP hw hK hc i pins s σ H E I hf st hg
    subst hP hw hK
    obtain ⟨old, hz, ⟨x0, y0, hK⟩, st⟩ := st
    obtain ⟨hq, hle⟩ := hg
    obtain ⟨its, rv, p, _⟩ := I.list hq
    have l1 := rv.length
    have key : ∀ {A : Around} (hh : A.handled = none) {Q : Option Value → Shared → Prop} {E : Value → Shared → Prop}, (∀ h', (∀ c o, c ≠ z → c ≠ kept → c ≠ it → s.heap.get? c = some o → h'.get? c = some o) → Q none { s with heap := h' }) → wpAny (model X.prog X.w) A (pyNext (.ref z)) Q E s := fun hh _ _ q => by
      rcases st with ⟨rfl, rfl, hi⟩ | ⟨i0, ⟨x, hxi, rx, nx⟩, hi⟩
      · exact next_pw_end hh D hz p.isList hi (.inl ⟨rfl, .inr (by simp; omega)⟩) q
      · exact next_pw_end hh D hz p.isList hi (.inr ⟨pw_ne0 rx nx, by simp; omega⟩) q
    exact key (I.ok.hd hc) fun h' hk => ⟨rfl, I.turnedL (t' := s.toks) (ch := [z, it, kept]) (fun c o hb q =>
      hk c o (fun q' => hb (by simp [q'])) (fun q' => hb (by simp [q'])) (fun q' => hb (by simp [q'])) q) hf⟩
  self := fun A i s Q E st h => by
    obtain ⟨old, hz, _⟩ := st
    exact iter_pw hz h
def iPw (K : PySem.W.Frag) (ta : TA) : TI := fun σ H R => ta σ H fun vs H1 => ∃ a xs, vs = [.ref a] ∧ SqL K H1 a xs ∧ (∀ i x, xs[i + 1]? = some x → x ≠ .int 0) ∧ R (ItsP K a xs) H1
theorem pi_pw {X : Cx} {e : Expr} {ta : TA} {p pos tpos : Pos} {elts : List Expr} {kk : Nat} (hg : Gl X "pairwise") (hm : X.mg "pairwise" = some (.type "itertools.pairwise")) (ha : PA X [e] ta)
    (hs : starEach [e] X.env = (false, eval e X.env) :: starEach [] X.env := by rfl) (hpl : (backTo pos (starEach [] X.env)).any (·.1) = false := by rfl) :
    PI X (.Tuple elts kk tpos) (.Call (.Name "pairwise" p) [e] [] pos) (iPw X.K ta) := by
  refine ⟨fun pins s σ H R I h => ?_⟩
  refine Call_ (ld_glob I hg hm (PyProof.Rows.callWith_type1 (thn (ha.run pos pins s σ H _ I h) fun us s1 ⟨vs, H1, I1, r1, q1⟩ => ?_) hs hpl))
  obtain ⟨a, xs, ex, hq, nz, q1⟩ := q1
  subst ex
  cases r1 with
  | cons r rr =>
    cases rr
    cases r
    obtain ⟨its, rv, p1, _⟩ := I1.list hq
    have al : a < s1.heap.objs.size := p1.lt
    have fresh3 : ∀ c, c ∈ [s1.heap.objs.size + 2, s1.heap.objs.size, s1.heap.objs.size + 1] → FpOk X pins H1 c := fun c hcm => by
      have hle : s1.heap.objs.size ≤ c := by
        have e' : c = s1.heap.objs.size + 2 ∨ c = s1.heap.objs.size ∨ c = s1.heap.objs.size + 1 := by simpa using hcm
        rcases e' with z | z | z
        · rw [z]; exact Nat.le_add_right _ _
        · rw [z]; exact Nat.le_refl _
        · rw [z]; exact Nat.le_add_right _ _
      exact I1.fpOk hle (I1.hok.fresh hle)
    refine call_pw p1.isList fun h' hz hK hi hsz hk => iter_pw hz ?_
    have I2 : Inv X pins σ H1 { s1 with heap := h' } := I1.kept (t' := s1.toks) hk
    refine ⟨s1.heap.objs.size + 2, [s1.heap.objs.size + 2, s1.heap.objs.size, s1.heap.objs.size + 1], PwSt a (s1.heap.objs.size + 2) s1.heap.objs.size (s1.heap.objs.size + 1) xs, ItsP X.K a xs, H1, rfl, I2, turn_pw ⟨?_, ?_, ?_, ?_, ?_, ?_⟩ nz, ⟨rawInt 0, hz, ⟨_, _, hK⟩, .inl ⟨rfl, rfl, hi⟩⟩, fresh3, q1⟩
    · exact Nat.ne_of_lt (by omega)
    · exact Nat.ne_of_lt (by omega)
    · exact Nat.ne_of_gt (by omega)
    · exact Nat.ne_of_lt (Nat.lt_of_lt_of_le al (Nat.le_add_right _ _))
    · exact Nat.ne_of_lt al
    · exact Nat.ne_of_lt (Nat.lt_of_lt_of_le al (Nat.le_add_right _ _))
end DL

namespace DL
open PySem PySem.W PySem.Spec PyProof.Rows L2
variable [Tbl]
theorem lc_pw {K : PySem.W.Frag} {a : Addr} {xs : List V} {g : TG} {tt : TT} {te : TE} {vs : List Nat} {σ : L2.St} {H1 : Hp} {D : Addr} {Qd : Hp → Prop} (Pv : Nat → Hp → Prop) (h0 : Pv 0 (upd H1 D (.lst []))) (hq : ∀ i H, Pv i H → SqL K H a xs)
    (hs : ∀ (i : Nat) (x y : V) (T : Addr) (H : Hp), xs[i]? = some x → xs[i + 1]? = some y → Pv i H → H T = none → g (.ref T) (wipe σ vs) (upd H T (.tup [x, y])) fun σ2 H2 => wipe σ2 vs = wipe σ vs ∧ tt σ2 H2 fun b H3 =>
      if b = true then te σ2 H3 fun y H4 => ∃ acc, H4 D = some (.lst acc) ∧ acc.length < sizeLine ∧ Pv (i + 1) (upd H4 D (.lst (acc ++ [y]))) else Pv (i + 1) H3) (hd : ∀ H, Pv (xs.length - 1) H → Qd H) :
    ∃ W : Nat → Nat → Hp → Prop, (∃ m, W 0 m (upd H1 D (.lst []))) ∧ ∀ i m H, W i m H →
      ((ItsP K a xs).stop i H ∧ Qd H) ∨ ((ItsP K a xs).go i H ∧ ∃ Nx : Hp → Prop, (∀ H', Nx H' → ∃ m', m' < m ∧ W (i + 1) m' H') ∧ ∀ x H', (ItsP K a xs).yld i H x H' → g x (wipe σ vs) H' fun σ2 H2 => wipe σ2 vs = wipe σ vs ∧ tt σ2 H2 fun b H3 =>
        if b = true then te σ2 H3 fun y H4 => ∃ acc, H4 D = some (.lst acc) ∧ acc.length < sizeLine ∧ Nx (upd H4 D (.lst (acc ++ [y]))) else Nx H3) := by
  refine ⟨fun i m H => m = xs.length - 1 - i ∧ i ≤ xs.length - 1 ∧ Pv i H, ⟨xs.length - 1, rfl, Nat.zero_le _, h0⟩, ?_⟩
  rintro i m H ⟨rfl, hi, p⟩
  have qx := hq i H p
  by_cases hlt : i + 1 < xs.length
  · refine .inr ⟨⟨qx, hlt⟩, Pv (i + 1), fun H' p' => ⟨xs.length - 1 - (i + 1), by omega, rfl, by omega, p'⟩, fun v H' y => ?_⟩
    obtain ⟨T, x', y', rfl, hT, rfl, f1, f2⟩ := y
    exact hs i x' y' T H f1 f2 p hT
  · have e : i = xs.length - 1 := by omega
    subst e
    exact .inl ⟨⟨qx, by omega⟩, hd H p⟩
section
variable {K : PySem.W.Frag} {P : List Pin} {N L M : AP} {H0 H1 H H' : Hp} {σ : L2.St} {es : Env'} {ta tb tc te : TE} {tt tu : TT} {Q : SV → Prop} {t u : TS} {B : DEnds}
theorem Is.int_of {v : V} {d : D} (h : Is K M H v d) (e : v = .int 0) : d = .int 0 := by subst e; cases h; rfl
/-- [.. for a, b in pairwise(xs)]: none of xs but perhaps the first is 0 -/
theorem de_lcP {g : TG} {vs : List Nat} {tr : TA} (h : DA K tr es fun ss => ∃ s1 xs, ss = [s1] ∧ s1.dat = some (.lst xs) ∧ xs.length ≤ 100000 ∧ (∀ (i : Nat) x, xs[i + 1]? = some x → x ≠ .int 0) ∧ ∃ J : Nat → List D → Prop, J 0 [] ∧
    (∀ (i : Nat) x y, xs[i]? = some x → xs[i + 1]? = some y → LcT K g tt te vs es J i (.tup [x, y])) ∧ ∀ ds, J (xs.length - 1) ds → ds.length ≤ xs.length - 1 → Q (.new ds)) : DE K (tLc (iPw K tr) g tt te vs) es Q := fun P N M L σ H S R k => by
  refine h P N M L σ H S _ fun ss us H1 k1 o1 q1 => ?_
  obtain ⟨s1, xs, rfl, e1, b, nz, J, h0, hs, hd⟩ := q1
  obtain ⟨v, rfl, hv⟩ := o1.one
  obtain ⟨a, ws, rfl, g1, m1, i1⟩ := hv.lstD S.bs e1
  refine ⟨a, ws, rfl, .inl (.inl g1), fun i x hx e => ?_, fun D0 hD => ?_⟩
  · obtain ⟨dx, hdx, ix⟩ := i1.getV hx
    exact nz i dx hdx (ix.int_of e)
  obtain ⟨p0, old, nl⟩ := lc_start (S.kp k1) hD h0
  have bs1 := (S.kp k1).bs
  have na : ¬ L a := fun l => m1 (bs1.lm _ l)
  refine lc_pw (K := K) (a := a) (xs := ws) (LcP K P N M L σ es H1 D0 J) p0 (fun i H p => .inl (.inl (p.kp.k a _ na g1))) (fun i x y T H hx hy p hT => ?_) fun H p => ?_
  · obtain ⟨dx, hdx, ix⟩ := i1.getV hx
    obtain ⟨dy, hdy, iy⟩ := i1.getV hy
    have bsD := p.st.bs
    have kn := Kp.new (o := .tup [x, y]) bsD hT
    have tr : ∀ {v : V} {d : D}, Is K M H1 v d → Is K (M.add D0) (upd H T (.tup [x, y])) v d := fun {v d} i => by
      have k2 : Kp L H1 (upd H T (.tup [x, y])) := p.kp.trans kn
      exact Is.chg (fun b o e m => ⟨k2.k b o (fun l => m (.inl (bs1.lm b l))) e, m⟩) (sqt_keep (M := M) (fun b o m e => k2.k b o (fun l => m (bs1.lm b l)) e) bs1.tr) _ _ (i.add hD)
    have hi : i < 100000 := by
      have := (List.getElem?_eq_some_iff.mp hdx).1
      omega
    exact lc_turn old nl hD hi (p.kp' nl kn) (Is.tup upd_same (.cons (tr ix) (.cons (tr iy) .nil))) (hs i dx dy hdx hdy)
  · rw [i1.len] at p
    obtain ⟨kk, ds, ok, q⟩ := lc_end k1 hD p hd
    exact k _ _ _ kk ok q
end
end DL

namespace L2
open PySem PySem.Spec PyProof.Rows
/-- a set just made -/
abbrev mtSet (w : World) : Obj := { cls := .type "set", dict := none, data := .set #[] 0 (.fresh 0 0 (!w.params.followText "set-order")) }
section
variable {P : Program} {w : World} {A : Around} {E : Value → Shared → Prop} {s : Shared}
set_option maxHeartbeats 3200000 in
/-- set(xs), xs a list of numbers: what it has -/
theorem set_of_list {l : Addr} {us : Array Value} (ns : List Int) {Q : Value → Shared → Prop} (hh : A.handled = none) (hl : s.heap.IsList l us) (hit : IntsAre us.toList ns) (hb : ns.length + 1 < scanBound)
    (h : ∀ (g : Heap) (tk c : Nat), SetR w g s.heap.objs.size (fun j => decide (j ∈ ns)) c → c ≤ ns.length → (∀ b o, s.heap.get? b = some o → g.get? b = some o) → Q (.ref s.heap.objs.size) { s with heap := g, toks := tk }) :
    wpAny (model P w) A (call (.type "set") [.ref l]) Q E s := by
  have sz : us.size = ns.length := Array.length_toList.symm.trans (IntsAre.length hit)
  have new : (s.heap.push (mtSet w)).get? s.heap.objs.size = some (mtSet w) := Heap.get?_push_size _ rfl
  have isS : Shared.TypeIs { s with heap := s.heap.push (mtSet w) } (.ref s.heap.objs.size) "set" := ⟨_, new, rfl⟩
  have hl1 : (s.heap.push (mtSet w)).IsList l us := hl.push _
  have ll : l < s.heap.objs.size := by obtain ⟨o, e, _⟩ := hl; exact Heap.lt_size e
  have s1 : (s.heap.push (mtSet w)).objs.size = s.heap.objs.size + 1 := Heap.size_push ..
  obtain ⟨c0, tl0, hmro⟩ := F.called_set.mro
  have q1 := F.called_set.made
  have q2 := F.called_set.sub
  have q3 := F.called_set.notType
  have q4 := F.called_set.canCreate
  have q5 := F.typeCall_set_1 (.ref l)
  have q6 := F.called_set.init.lookup
  have q7 := F.called_set.init.bind (.ref s.heap.objs.size)
  refine wpAny_call (codeAny_of_tree (wpAny_pure ⟨Code.quiet_builtin _ (by decide +kernel), codeAny_builtin F.entry_type_call ?_⟩))
  rw [Around.under_plain (weight_type_call_type "set" [.ref l] []) rfl]
  repeat (any_goals (first | assumption | wp_step))
  refine codeAny_mono (code_set_led1 (.ref l) (E := E) (Q₁ := fun z s₁ => z = .ref s.heap.objs.size ∧ s₁ = { s with heap := s.heap.push (mtSet w) }) ⟨rfl, rfl⟩) fun r s₁ hr => ?_
  have hr' : ∀ fl, r = .ok fl → ∃ z, fl = .ret z ∧ z = .ref s.heap.objs.size ∧ s₁ = { s with heap := s.heap.push (mtSet w) } := fun fl e => by
    subst e
    cases fl with
    | ret z => exact ⟨z, rfl, hr⟩
    | _ => exact hr.elim
  cases r with
  | error e => exact hr
  | ok fl =>
  obtain ⟨z, rfl, rfl, rfl⟩ := hr' fl rfl
  repeat (any_goals (first | assumption | wp_step))
  refine codeAny_mono (codeAny_call_builtin (R := wants (fun r s₂ => r = .none ∧ ∃ g tk c, s₂ = { s with heap := g, toks := tk } ∧ SetR w g s.heap.objs.size (fun j => decide (j ∈ ns)) c ∧ c ≤ ns.length ∧ (∀ b o, s.heap.get? b = some o → g.get? b = some o)) E) F.called_set.init.plain F.entry_set_init (check_set_init_1 isS ?init)) fun r₂ s₂ hr₂ => ?_
  case init =>
    obtain ⟨⟨oc, od, odt, os⟩, hol, hcl, nl, hdl⟩ := hl
    simp only at hcl hdl
    subst hcl hdl
    have hol' := Heap.get?_push_of_some (mtSet w) hol
    have n1 := F.sub_list_set
    have n2 := F.sub_list_frozenset
    have n3 : (Value.type "list" == Value.type "dict") = false := by decide
    unfold Builtin.«set.__init__» noKeywords Builtin.Frozenset.updateFrom
    generalize hPI : pyIter = PI
    wp_walk
    subst hPI
    refine wpAny_pyIter_list hl1 (wpAny_bind (wpAny_runValue ?_))
    have hval : ∀ (i : Nat) (v : Value), us[i]? = some v → ∃ k t, ns[i]? = some k ∧ v = .int k t := fun i v hv => by
      have hi : i < ns.length := by rw [← sz]; exact (Array.getElem?_eq_some_iff.mp hv).1
      obtain ⟨t, e⟩ := PyProof.Rows.IntsAre.int_at hit i v (by rw [Array.getElem?_toList]; exact hv)
      refine ⟨ns[i], t, List.getElem?_eq_getElem hi, ?_⟩
      rw [e, List.getD_eq_getElem?_getD, List.getElem?_eq_getElem hi] <;> rfl
    have ne1 : l ≠ (s.heap.push (mtSet w)).objs.size := by rw [s1]; exact Nat.ne_of_lt (Nat.lt_succ_of_lt ll)
    have ne2 : s.heap.objs.size ∉ [(s.heap.push (mtSet w)).objs.size, l] := by
      rw [s1]
      simp only [List.mem_cons, List.mem_singleton, List.not_mem_nil, or_false, not_or]
      exact ⟨Nat.ne_of_lt (Nat.lt_succ_self _), Nat.ne_of_gt ll⟩
    refine set_update_ints ((Walks.list (by simp [hh]) _ l ne1 us).toS) s.heap.objs.size ne2 ns sz hb hval (us.size - 0) 0 _ (by omega) (Nat.zero_le _) ⟨⟨_, Heap.get?_push_size _ rfl, rfl, rfl⟩, hl1.push _⟩ ⟨0, Nat.le_refl 0, setR_new_at (Heap.get?_push_of_some _ new)⟩ ?_
    rintro ⟨g, g2, d', tk', os'⟩ c' hm hc' hS'
    have e1 : g2 = s.gens := hm.gens
    have e2 : d' = s.drawn := hm.drawn
    have e3 : os' = s.os := hm.os
    subst e1 e2 e3
    rw [sz] at hc'
    refine wpAny_pure (wpAny_pure ⟨rfl, g, tk', c', rfl, hS', hc', fun b o e => ?_⟩)
    have hb0 : b < s.heap.objs.size := Heap.lt_size e
    refine hm.heap b o ?_ (Heap.get?_push_of_some _ (Heap.get?_push_of_some _ e))
    simp only [List.mem_cons, List.mem_singleton, List.not_mem_nil, or_false, not_or]
    exact ⟨Nat.ne_of_lt hb0, by rw [s1]; exact Nat.ne_of_lt (Nat.lt_succ_of_lt hb0)⟩
  have hr₂' : ∀ fl, r₂ = .ok fl → ∃ z, fl = .ret z ∧ z = .none ∧ ∃ g tk c, s₂ = { s with heap := g, toks := tk } ∧ SetR w g s.heap.objs.size (fun j => decide (j ∈ ns)) c ∧ c ≤ ns.length ∧ (∀ b o, s.heap.get? b = some o → g.get? b = some o) := fun fl e => by
    subst e
    cases fl with
    | ret z => exact ⟨z, rfl, hr₂⟩
    | _ => exact hr₂.elim
  cases r₂ with
  | error e => exact hr₂
  | ok fl₂ =>
  obtain ⟨z, rfl, rfl, g, tk, c', rfl, hS', hc', hk'⟩ := hr₂' fl₂ rfl
  repeat (any_goals (first | assumption | wp_step))
  exact h _ _ _ hS' hc' hk'
end
end L2

namespace DL
open PySem PySem.Spec PyProof.Rows L2
variable [Tbl]
/-! ### sorted(set(numbers)) -/
theorem nodup_le {α : Type} [DecidableEq α] : ∀ (ks zs : List α), ks.Nodup → (∀ k ∈ ks, k ∈ zs) → ks.length ≤ zs.length
  | [], _, _, _ => Nat.zero_le _
  | k :: ks, zs, nd, h => by
    obtain ⟨n1, n2⟩ := List.nodup_cons.mp nd
    have hk := h k (by simp)
    have ih := nodup_le ks (zs.erase k) n2 fun j hj => (List.mem_erase_of_ne (fun e => n1 (by rw [← e]; exact hj))).mpr (h j (List.mem_cons_of_mem _ hj))
    rw [List.length_erase_of_mem hk] at ih
    have : 0 < zs.length := List.length_pos_of_mem hk
    rw [List.length_cons]
    omega
theorem setR_le {w : World} {h : Heap} {a : Addr} {ns zs : List Int} {c : Nat} (R : SetR w h a (fun j => decide (j ∈ ns)) c) (hz : ∀ j ∈ ns, j ∈ zs) : c ≤ zs.length := by
  obtain ⟨o, es, ep, t, _, _, _, _, nd, hm, _, _, hn, _⟩ := R
  have e : (es.toList.map keyOf).length = c := by rw [List.length_map, Array.length_toList]; exact hn
  rw [← e]
  exact nodup_le _ _ nd fun k hk => hz k (by simpa using (hm k).mpr hk)
def rSetOfL (K : PySem.W.Frag) (w : World) : List V → Hp → VK → Prop := fun xs H Q => ∃ (l : Addr) (ns zs : List Int), xs = [.ref l] ∧ SqL K H l (ns.map V.int) ∧ ns.length ≤ 4000 ∧ (∀ j ∈ ns, j ∈ zs) ∧ ∀ a c, H a = none → c ≤ zs.length → Q (.ref a) (upd H a (SetO w a (fun j => decide (j ∈ ns)) c))
/-- sorted(set(xs)), xs numbers, fewer than 64 unlike ones -/
def tSortSet (K : PySem.W.Frag) (ta : TE) : TE := fun σ H Q => ta σ H fun x H1 => ∃ (l : Addr) (ns zs : List Int), x = .ref l ∧ SqL K H1 l (ns.map V.int) ∧ ns.length ≤ 4000 ∧ (∀ j ∈ ns, j ∈ zs) ∧ zs.length < 64 ∧
  ∀ (s p : Addr) (o : HO) (os : List Int), H1 s = none → upd H1 s o p = none → os.Pairwise (· < ·) → (∀ k, k ∈ os ↔ k ∈ ns) → Q (.ref p) (upd (upd H1 s o) p (.lst (os.map V.int)))
section
variable {X : Cx}
theorem cr_setL (hc : X.calm = true) : CallR X (.type "set") (rSetOfL X.K X.w) := by
  intro pins s σ H xs us Q I r h
  obtain ⟨l, ns, zs, rfl, hq, hl, hz, q⟩ := h
  rw [Vals.ref1 r]
  obtain ⟨its, rv, pl, _⟩ := I.list hq
  refine set_of_list (P := X.prog) (w := X.w) ns (I.ok.hd hc) pl.isList (by simpa using ints_of_vals rv) (by unfold scanBound; omega) fun g tk c R hcl hk => ?_
  exact ⟨.ref s.heap.objs.size, upd H s.heap.objs.size (SetO X.w s.heap.objs.size (fun j => decide (j ∈ ns)) c), I.laid (t' := tk) hk (Nat.le_refl _) (setO_new R), rfl, q _ c (I.hok.fresh (Nat.le_refl _)) (setR_le R hz)⟩
/-- a reading, with room to forget -/
def tClo (ta : TE) : TE := fun σ H Q => ∃ R : VK, ta σ H R ∧ ∀ x H', R x H' → Q x H'
theorem pe_clo {a : Expr} {ta : TE} (h : PE X a ta) : PE X a (tClo ta) :=
  ⟨fun pins s σ H Q I ⟨R, q, m⟩ => wpAny_mono (h.run pins s σ H R I q) (fun u s' ⟨x, H', I', r, z⟩ => ⟨x, H', I', r, m _ _ z⟩) fun _ _ z => z⟩
theorem pe_sortSet {a : Expr} {ta : TE} {p p2 q pos : Pos} (hg : Gl X "sorted") (hm : X.mg "sorted" = none) (hg2 : Gl X "set") (hm2 : X.mg "set" = none) (ha : PE X a ta) (hc : X.calm = true := by rfl)
    (na : starEach [a] X.env = (false, eval a X.env) :: starEach [] X.env := by rfl) : PE X (.Call (.Name "sorted" p) [.Call (.Name "set" p2) [a] [] q] [] pos) (tSortSet X.K ta) := by
  have in1 : PE X (.Call (.Name "set" p2) [a] [] q) (tCB (rSetOfL X.K X.w) (tCons (tClo ta) tNil)) := pe_callTy (cr_setL hc) hg2 hm2 (by decide +kernel) (pa_cons (pe_clo ha) pa_nil (hs := na)) (he := na) (hpl := rfl)
  have out := pe_callB (pos := pos) (p := p) (cr_sortedSet hc) hg hm (by decide +kernel) (pa_cons in1 pa_nil)
  refine ⟨fun pins s σ H Q I h => out.run pins s σ H Q I ⟨_, h, ?_⟩⟩
  rintro x H1 ⟨l, ns, zs, rfl, hq, hl, hz, h64, q⟩
  refine ⟨l, ns, zs, rfl, hq, hl, hz, fun s c hs hcl => ?_⟩
  refine ⟨s, _, c, rfl, upd_same, by omega, fun os p ho hmem _ hp => ?_⟩
  exact q s p _ os hs hp ho fun k => (hmem k).trans (by simp)
end
section
variable {K : PySem.W.Frag} {P : List Pin} {N L M M' : AP} {H0 H1 H H' : Hp} {σ : L2.St} {es : Env'} {ta tb tc te : TE} {tr : TA} {tt tu : TT} {Q : SV → Prop} {t u : TS} {B : DEnds}
theorem isAll_ints (K : PySem.W.Frag) (M : AP) (H : Hp) : ∀ ns : List Int, IsAll K M H (ns.map V.int) (ns.map D.int)
  | [] => .nil
  | n :: ns => .cons (.int n) (isAll_ints K M H ns)
theorem de_sortSet (h : DE K ta es fun s => ∃ ns zs : List Int, s.dat = some (.lst (ns.map D.int)) ∧ ns.length ≤ 4000 ∧ (∀ j ∈ ns, j ∈ zs) ∧ zs.length < 64 ∧ ∀ os : List Int, os.Pairwise (· < ·) → (∀ k, k ∈ os ↔ k ∈ ns) → Q (.new (os.map D.int))) :
    DE K (tSortSet K ta) es Q := fun P N M L σ H S R k => by
  refine h P N M L σ H S _ fun s v H1 k1 o1 q1 => ?_
  obtain ⟨ns, zs, e, hl, hz, h64, q⟩ := q1
  obtain ⟨a, vs, rfl, g1, m1, i1⟩ := o1.lstD S.bs e
  have ev := IsAll.ofInts i1
  subst ev
  refine ⟨a, ns, zs, rfl, .inl (.inl g1), hl, hz, h64, fun s p o os hs hp ho hm => ?_⟩
  have b1 := (S.kp k1).bs
  have k2 : Kp L H1 (upd H1 s o) := Kp.new b1 hs
  have k3 : Kp L (upd H1 s o) (upd (upd H1 s o) p (.lst (os.map V.int))) := Kp.new (k2.bs b1) hp
  have pn : H1 p = none := k2.was hp
  exact k (.new (os.map D.int)) _ _ (k1.trans (k2.trans k3)) ⟨p, _, rfl, k1.was pn, upd_same, isAll_ints _ _ _ os⟩ (q os ho hm)
end
end DL

namespace DL
open PySem PySem.Spec PyProof.Rows L2
variable [Tbl]
/-! ### a dict that changes is no data's part -/
section
variable {K : PySem.W.Frag} {M : AP} {H : Hp} {D0 : Addr} {k0 k1 : List (Key × V)}
theorem ne_dk {a : Addr} {o : HO} (h0 : H D0 = some (.dK k0)) (h : H a = some o) (n : ∀ k, o ≠ .dK k) : a ≠ D0 := fun e => by
  subst e
  rw [h0] at h
  exact n k0 (Option.some.inj h).symm
theorem sqt_dk {a : Addr} {vs : List V} (h0 : H D0 = some (.dK k0)) (h : SqT K H a vs) : SqT K (upd H D0 (.dK k1)) a vs := by
  rcases h with (h | ⟨o, h⟩) | h
  · exact .inl (.inl (by rw [upd_ne (ne_dk h0 h fun k e => by cases e)]; exact h))
  · exact .inl (.inr ⟨o, by rw [upd_ne (ne_dk h0 h fun k e => by cases e)]; exact h⟩)
  · exact .inr h
mutual
theorem Is.dk (h0 : H D0 = some (.dK k0)) : ∀ (d : D) (v : V), Is K M H v d → Is K M (upd H D0 (.dK k1)) v d
  | .non, _, h => by cases h; exact .non
  | .bl _, _, h => by cases h; exact .bl _
  | .int _, _, h => by cases h; exact .int _
  | .str _, _, h => by cases h; exact .str _
  | .lst ds, _, h => by
    cases h with
    | lst g1 g2 g3 => exact .lst (by rw [upd_ne (ne_dk h0 g1 fun k e => by cases e)]; exact g1) g2 (IsAll.dk h0 ds _ g3)
  | .tup ds, _, h => by
    cases h with
    | tup g1 g3 => exact .tup (by rw [upd_ne (ne_dk h0 g1 fun k e => by cases e)]; exact g1) (IsAll.dk h0 ds _ g3)
    | tup0 g1 => exact .tup0 (sqt_dk h0 g1)
    | tupK g1 g3 g4 => exact .tupK g1 (IsAll.dk h0 ds _ g3) g4
  | .obj C ds, _, h => by
    cases h with
    | obj g1 g2 g3 => exact .obj (by rw [upd_ne (ne_dk h0 g1 fun k e => by cases e)]; exact g1) g2 (IsFs.dk h0 ds _ g3)
theorem IsAll.dk (h0 : H D0 = some (.dK k0)) : ∀ (ds : List D) (vs : List V), IsAll K M H vs ds → IsAll K M (upd H D0 (.dK k1)) vs ds
  | [], _, h => by cases h; exact .nil
  | d :: ds, _, h => by
    cases h with
    | cons g1 g2 => exact .cons (Is.dk h0 d _ g1) (IsAll.dk h0 ds _ g2)
theorem IsFs.dk (h0 : H D0 = some (.dK k0)) : ∀ (ds : List (Str × D)) (vs : List (Str × V)), IsFs K M H vs ds → IsFs K M (upd H D0 (.dK k1)) vs ds
  | [], _, h => by cases h; exact .nil
  | (x, d) :: ds, _, h => by
    cases h with
    | cons g1 g2 => exact .cons (Is.dk h0 d _ g1) (IsFs.dk h0 ds _ g2)
end
end
abbrev kvI (ps : List (Int × V)) : List (Key × V) := ps.map fun p => ((Sum.inl p.1 : Key), p.2)
theorem putK_new {ps : List (Int × V)} {k : Int} {v : V} (h : k ∉ ps.map Prod.fst) : putK (kvI ps) (Sum.inl k) v = kvI (ps ++ [(k, v)]) := by
  unfold putK
  rw [if_neg]
  · simp [kvI]
  · intro e
    obtain ⟨x, hx, ex⟩ := List.any_eq_true.mp e
    obtain ⟨p, hp, rfl⟩ := List.mem_map.mp hx
    have : p.1 = k := Sum.inl.inj (of_decide_eq_true ex)
    exact h (List.mem_map.mpr ⟨p, hp, this⟩)
theorem valV_kvI {ps : List (Int × V)} {k : Int} : valV (kvI ps) (Sum.inl k) = ps.lookup k := by
  induction ps with
  | nil => rfl
  | cons p ps ih =>
    obtain ⟨j, v⟩ := p
    rw [List.lookup_cons]
    by_cases e : k = j
    · subst e
      simp [kvI, valV]
    · have e' : (k == j) = false := by simpa using e
      rw [e', ← ih]
      have n : ¬ (Sum.inl j : Key) = Sum.inl k := fun z => e (Sum.inl.inj z).symm
      simp [kvI, valV, n]
section
variable {K : PySem.W.Frag} {P : List Pin} {N L M M' : AP} {H0 H1 H H' : Hp} {σ : L2.St} {es : Env'} {ta tb tc te tk tv : TE} {tr : TA} {tt tu : TT} {Q : SV → Prop} {t u : TS} {B : DEnds}
/-- what holds ahead of turn i: the new dict stands at D0 -/
structure DcP (K : PySem.W.Frag) (M L : AP) (H1 : Hp) (D0 : Addr) (J : Nat → List (Int × D) → Prop) (i : Nat) (H : Hp) : Prop where
  kp : Kp L H1 H
  acc : ∃ kvs, DcdOk K M H D0 kvs ∧ J i kvs ∧ kvs.length ≤ i
/-- one turn, in data -/
def DcT (K : PySem.W.Frag) (g : TG) (tt : TT) (tk tv : TE) (vs : List Nat) (es : Env') (J : Nat → List (Int × D) → Prop) (i : Nat) (x : D) : Prop :=
  ∀ kvs, J i kvs → kvs.length ≤ i → DG K g x vs (wipeE es vs) fun e2 => DT K tt e2 fun b => if b = true then DE K tk e2 fun s => ∃ k, s = .d (.int k) ∧ DE K tv e2 fun s => ∃ y, s.dat = some y ∧ k ∉ kvs.map Prod.fst ∧ J (i + 1) (kvs ++ [(k, y)]) else J (i + 1) kvs
theorem DcdOk.kp (bs : Bs L M H) (k : Kp L H H') {a : Addr} {kvs : List (Int × D)} (h : DcdOk K M H a kvs) : DcdOk K M H' a kvs := by
  obtain ⟨ps, h1, h2, h3⟩ := h
  exact ⟨ps, k.k _ _ (fun l => (bs.bag a l).no h1 (fun _ _ z => by cases z) (fun _ z => by cases z)) h1, h2, IsAll.kp k bs h3⟩
theorem dc_turn {g : TG} {vs : List Nat} {D0 : Addr} {J : Nat → List (Int × D) → Prop} {i : Nat} {v : V} {x : D} (S1 : Sts K P N M L σ H1 es) (hD : H1 D0 = none) (hi : i < 100000)
    (h : DcP K M L H1 D0 J i H) (ix : Is K M H v x) (body : DcT K g tt tk tv vs es J i x) :
    g v (wipe σ vs) H fun σ2 H2 => wipe σ2 vs = wipe σ vs ∧ tt σ2 H2 fun b H3 => if b = true then tk σ2 H3 fun y H4 => tv σ2 H4 fun z H5 => ∃ kvs k, y = kV k ∧ H5 D0 = some (.dK kvs) ∧ kvs.length < sizeLine ∧ DcP K M L H1 D0 J (i + 1) (upd H5 D0 (.dK (putK kvs k z))) else DcP K M L H1 D0 J (i + 1) H3 := by
  obtain ⟨kvs, dk, hj, hl⟩ := h.acc
  have S := S1.kp h.kp
  refine body kvs hj hl P N _ L _ H v (S.wipes vs) ix _ fun e2 σ2 S2 sm q => ⟨wipe_same sm, ?_⟩
  refine q P N _ L σ2 H S2 _ fun b H3 k3 q3 => ?_
  cases b with
  | false =>
    rw [if_neg Bool.false_ne_true] at q3 ⊢
    exact ⟨h.kp.trans k3, kvs, dk.kp S.bs k3, q3, Nat.le_succ_of_le hl⟩
  | true =>
    rw [if_pos rfl] at q3 ⊢
    refine q3 P N _ L σ2 H3 (S2.kp k3) _ fun s y H4 k4 o4 q4 => ?_
    obtain ⟨n, rfl, q4⟩ := q4
    cases o4
    refine q4 P N _ L σ2 H4 ((S2.kp k3).kp k4) _ fun s z H5 k5 o5 q5 => ?_
    obtain ⟨d, ed, nk, hz⟩ := q5
    have k35 := (k3.trans k4).trans k5
    obtain ⟨ps, g1, g2, g3⟩ := dk.kp S.bs k35
    have iz : Is K M H5 z d := o5.data ((k3.trans k4).bs S.bs) ed
    have nk' : n ∉ ps.map Prod.fst := by rw [g2]; exact nk
    have len : ps.length = kvs.length := by
      have := congrArg List.length g2
      simpa using this
    refine ⟨kvI ps, Sum.inl n, rfl, g1, ?_, ?_⟩
    · rw [List.length_map, len]
      exact Nat.lt_of_le_of_lt hl (Nat.lt_of_lt_of_le hi (by decide))
    · rw [putK_new nk']
      refine ⟨⟨fun a o l e => ?_, fun a l => ?_⟩, kvs ++ [(n, d)], ⟨ps ++ [(n, z)], upd_same, ?_, ?_⟩, hz, by rw [List.length_append, List.length_singleton]; omega⟩
      · rw [upd_ne (fun e' => by rw [e', hD] at e; cases e)]
        exact (h.kp.trans k35).k a o l e
      · have bg := (h.kp.trans k35).b a l
        exact bg.upd (fun z => bg.no (by rw [z]; exact g1) (fun _ _ z => by cases z) (fun _ z => by cases z)) (nc_dk g1)
      · simp [g2]
      · rw [List.map_append, List.map_append]
        exact IsAll.append (IsAll.dk g1 _ _ g3) (.cons (Is.dk g1 _ _ iz) .nil)
theorem dc_start {D0 : Addr} {J : Nat → List (Int × D) → Prop} (bs : Bs L M H1) (hD : H1 D0 = none) (h0 : J 0 []) : DcP K M L H1 D0 J 0 (upd H1 D0 (.dK [])) :=
  ⟨Kp.new bs hD, [], ⟨[], upd_same, rfl, .nil⟩, h0, Nat.le_refl _⟩
/-- {k: e for x in xs} -/
theorem de_dcL {g : TG} {vs : List Nat} {tl : TE} (h : DE K tl es fun s => ∃ xs, s.dat = some (.lst xs) ∧ xs.length ≤ 100000 ∧ ∃ J : Nat → List (Int × D) → Prop, J 0 [] ∧
    (∀ (i : Nat) x, xs[i]? = some x → DcT K g tt tk tv vs es J i x) ∧ ∀ kvs, J xs.length kvs → Q (.dcd kvs)) : DE K (tDc (iList K tl) g tt tk tv vs) es Q := fun P N M L σ H S R k => by
  refine h P N M L σ H S _ fun s v H1 k1 o1 q1 => ?_
  obtain ⟨xs, e, b, J, h0, hs, hd⟩ := q1
  obtain ⟨a, ws, rfl, g1, m1, i1⟩ := o1.lstD S.bs e
  refine ⟨a, rfl, ⟨ws, .inl (.inl g1)⟩, fun D0 hD => ?_⟩
  have S1 := S.kp k1
  have bs1 := S1.bs
  have na : ¬ L a := fun l => m1 (bs1.lm _ l)
  refine ⟨fun i m H => m = ws.length - i ∧ i ≤ ws.length ∧ DcP K M L H1 D0 J i H, ⟨ws.length, rfl, Nat.zero_le _, dc_start bs1 hD h0⟩, ?_⟩
  rintro i m H ⟨rfl, hi, p⟩
  have q := p.kp.k a _ na g1
  by_cases hlt : i < ws.length
  · have hx : ws[i]? = some ws[i] := List.getElem?_eq_getElem hlt
    obtain ⟨dx, hdx, ix⟩ := i1.getV hx
    refine .inr ⟨⟨ws, _, .inl (.inl q), hx⟩, DcP K M L H1 D0 J (i + 1), fun H' p' => ⟨ws.length - (i + 1), by omega, rfl, hlt, p'⟩, fun v H' y => ?_⟩
    obtain ⟨e1, e2⟩ := y
    subst e1
    have ev : v = ws[i] := by
      have := e2 ws (.inl (.inl q))
      rw [hx] at this
      exact (Option.some.inj this).symm
    subst ev
    refine dc_turn S1 hD ?_ p (Is.kp p.kp bs1 ix) (hs i dx hdx)
    have := (List.getElem?_eq_some_iff.mp hdx).1
    omega
  · have e : i = ws.length := by omega
    subst e
    refine .inl ⟨⟨ws, .inl (.inl q), Nat.le_refl _⟩, ?_⟩
    obtain ⟨kvs, dk, hj, _⟩ := p.acc
    rw [i1.len] at hj
    exact k (.dcd kvs) _ _ (k1.trans p.kp) ⟨D0, rfl, dk⟩ (hd kvs hj)
/-- {k: e for i, x in enumerate(xs)} -/
theorem de_dcE {g : TG} {vs : List Nat} (h : DA K tr es fun ss => ∃ s xs, ss = [s] ∧ s.dat = some (.lst xs) ∧ xs.length ≤ 100000 ∧ ∃ J : Nat → List (Int × D) → Prop, J 0 [] ∧
    (∀ (i : Nat) x, xs[i]? = some x → DcT K g tt tk tv vs es J i (.tup [.int (i : Nat), x])) ∧ ∀ kvs, J xs.length kvs → Q (.dcd kvs)) : DE K (tDc (iEnum K tr) g tt tk tv vs) es Q := fun P N M L σ H S R k => by
  refine h P N M L σ H S _ fun ss us H1 k1 o1 q1 => ?_
  obtain ⟨s, xs, rfl, e, b, J, h0, hs, hd⟩ := q1
  obtain ⟨v, rfl, hv⟩ := o1.one
  obtain ⟨a, ws, rfl, g1, m1, i1⟩ := hv.lstD S.bs e
  refine ⟨a, ws, rfl, .inl (.inl g1), fun D0 hD => ?_⟩
  have S1 := S.kp k1
  have bs1 := S1.bs
  have na : ¬ L a := fun l => m1 (bs1.lm _ l)
  refine ⟨fun i m H => m = ws.length - i ∧ i ≤ ws.length ∧ DcP K M L H1 D0 J i H, ⟨ws.length, rfl, Nat.zero_le _, dc_start bs1 hD h0⟩, ?_⟩
  rintro i m H ⟨rfl, hi, p⟩
  have q := p.kp.k a _ na g1
  by_cases hlt : i < ws.length
  · have hx : ws[i]? = some ws[i] := List.getElem?_eq_getElem hlt
    obtain ⟨dx, hdx, ix⟩ := i1.getV hx
    refine .inr ⟨⟨ws, _, .inl (.inl q), hx⟩, DcP K M L H1 D0 J (i + 1), fun H' p' => ⟨ws.length - (i + 1), by omega, rfl, hlt, p'⟩, fun v H' y => ?_⟩
    obtain ⟨T, x, rfl, hT, rfl, e2⟩ := y
    have ev : x = ws[i] := by
      have := e2 ws (.inl (.inl q))
      rw [hx] at this
      exact (Option.some.inj this).symm
    subst ev
    have kn : Kp L H (upd H T (.tup [.int (i : Nat), ws[i]])) := Kp.new (p.kp.bs bs1) hT
    obtain ⟨kvs, dk, hj, hl⟩ := p.acc
    refine dc_turn S1 hD ?_ ⟨p.kp.trans kn, kvs, dk.kp (p.kp.bs bs1) kn, hj, hl⟩ (Is.tup upd_same (.cons (.int _) (.cons (Is.kp (p.kp.trans kn) bs1 ix) .nil))) (hs i dx hdx)
    have := (List.getElem?_eq_some_iff.mp hdx).1
    omega
  · have e : i = ws.length := by omega
    subst e
    refine .inl ⟨⟨ws, .inl (.inl q), Nat.le_refl _⟩, ?_⟩
    obtain ⟨kvs, dk, hj, _⟩ := p.acc
    rw [i1.len] at hj
    exact k (.dcd kvs) _ _ (k1.trans p.kp) ⟨D0, rfl, dk⟩ (hd kvs hj)
theorem lookup_is : ∀ {ps : List (Int × V)} {kvs : List (Int × D)} {n : Int} {d : D}, ps.map Prod.fst = kvs.map Prod.fst → IsAll K M H (ps.map Prod.snd) (kvs.map Prod.snd) → kvs.lookup n = some d → ∃ v, ps.lookup n = some v ∧ Is K M H v d
  | [], [], _, _, _, _, e => by cases e
  | [], _ :: _, _, _, f, _, _ => by cases f
  | _ :: _, [], _, _, f, _, _ => by cases f
  | (a, v) :: ps, (c, x) :: kvs, n, d, f, h, e => by
    have f' : a = c ∧ ps.map Prod.fst = kvs.map Prod.fst := by simpa using f
    obtain ⟨rfl, f2⟩ := f'
    have h' : IsAll K M H (v :: ps.map Prod.snd) (x :: kvs.map Prod.snd) := h
    cases h' with
    | cons h1 h2 =>
      rw [List.lookup_cons] at e ⊢
      cases hn : (n == a) with
      | true =>
        rw [hn] at e
        cases e
        exact ⟨v, rfl, h1⟩
      | false =>
        rw [hn] at e
        exact lookup_is f2 h2 e
/-- d[k], d a dict by numbers -/
theorem de_dgetI (h : DE K ta es fun s => ∃ kvs, s = .dcd kvs ∧ DE K tb es fun z => ∃ n x, z = .d (.int n) ∧ kvs.lookup n = some x ∧ Q (.d x)) : DE K (tDGet ta tb) es Q := fun P N M L σ H S R k => by
  refine h P N M L σ H S _ fun s v H1 k1 o1 q1 => ?_
  obtain ⟨kvs, rfl, q⟩ := q1
  refine q P N M L σ H1 (S.kp k1) _ fun z w H2 k2 o2 q2 => ?_
  obtain ⟨n, x, rfl, e, q⟩ := q2
  cases o2
  obtain ⟨a, rfl, ps, g1, g2, g3⟩ := SvOk.kp S.bs k1 k2 o1
  obtain ⟨v, ev, iv⟩ := lookup_is g2 g3 e
  refine ⟨a, v, rfl, ?_, k (.d x) _ H2 (k1.trans k2) iv q⟩
  have := DGet.k (k := Sum.inl n) g1
  rw [← ev, ← valV_kvI]
  exact this
end
end DL

namespace DL
open PySem PySem.Spec PyProof.Rows L2
variable [Tbl]
/-! ### joined: runs of (first, end, worth), by hand on the heap -/
structure Row3 where
  x : Int
  y : Int
  v : V
  d : D
def rows3At (H : Hp) : List Addr → List Row3 → Prop
  | [], [] => True
  | b :: bs, p :: ps => H b = some (.lst [.int p.x, .int p.y, p.v]) ∧ rows3At H bs ps
  | _, _ => False
theorem rows3At.len {H : Hp} : ∀ {bs : List Addr} {ps : List Row3}, rows3At H bs ps → bs.length = ps.length
  | [], [], _ => rfl
  | _ :: _, _ :: _, h => congrArg (· + 1) (rows3At.len h.2)
  | [], _ :: _, h => h.elim
  | _ :: _, [], h => h.elim
theorem rows3At.chg {H H' : Hp} : ∀ {bs : List Addr} {ps : List Row3}, (∀ b ∈ bs, ∀ o, H b = some o → H' b = some o) → rows3At H bs ps → rows3At H' bs ps
  | [], [], _, _ => trivial
  | b :: bs, p :: ps, k, h => ⟨k b (by simp) _ h.1, rows3At.chg (fun z hz => k z (List.mem_cons_of_mem _ hz)) h.2⟩
  | [], _ :: _, _, h => h.elim
  | _ :: _, [], _, h => h.elim
theorem rows3At.at {H : Hp} : ∀ {bs : List Addr} {ps : List Row3}, rows3At H bs ps → ∀ b ∈ bs, H b ≠ none
  | [], _, _, b, hb => by cases hb
  | _ :: _, [], h, _, _ => h.elim
  | b0 :: bs, p :: ps, h, b, hb => by
    rcases List.mem_cons.mp hb with rfl | hb
    · rw [h.1]
      exact fun e => by cases e
    · exact rows3At.at h.2 b hb
def Row3.dl (p : Row3) : D := .lst [.int p.x, .int p.y, p.d]
theorem rows3At.all {K : PySem.W.Frag} {M : AP} {H : Hp} : ∀ {bs : List Addr} {ps : List Row3}, (∀ b ∈ bs, ¬ M b) → (∀ p ∈ ps, Is K M H p.v p.d) → rows3At H bs ps → IsAll K M H (bs.reverse.map V.ref) (ps.reverse.map Row3.dl)
  | [], [], _, _, _ => .nil
  | b :: bs, p :: ps, k, i, h => by
    rw [List.reverse_cons, List.reverse_cons, List.map_append, List.map_append]
    exact (rows3At.all (fun z hz => k z (List.mem_cons_of_mem _ hz)) (fun z hz => i z (List.mem_cons_of_mem _ hz)) h.2).append (.cons (.lst h.1 (k b (by simp)) (.cons (.int _) (.cons (.int _) (.cons (i p (by simp)) .nil)))) .nil)
  | [], _ :: _, _, _, h => h.elim
  | _ :: _, [], _, _, h => h.elim
/-- one more stretch with its worth; the last run stands first -/
def joinStep (eqv : D → D → Bool) (rs : List Row3) (f m : Int) (v : V) (d : D) : List Row3 :=
  match rs with
  | [] => [⟨f, f + m, v, d⟩]
  | p :: tl => if p.y = f ∧ eqv p.d d = true then ⟨p.x, f + m, p.v, p.d⟩ :: tl else ⟨f, f + m, v, d⟩ :: p :: tl
structure JnI (K : PySem.W.Frag) (M L : AP) (H : Hp) (σ0 : L2.St) (r : Addr) (rows : List Row3) (σ : L2.St) (H' : Hp) : Prop where
  up : ∀ a o, a ≠ r → ¬ L a → H a = some o → H' a = some o
  bg : ∀ a, L a → BagAt H' a
  sl : Same' [2, 3, 4] σ0 σ
  rw : ∃ bs : List Addr, H' r = some (.lst (bs.reverse.map V.ref)) ∧ rows3At H' bs rows ∧ (∀ b ∈ bs, H b = none ∧ b ≠ r) ∧ bs.Nodup
  vl : ∀ p ∈ rows, Is K M H p.v p.d
section
variable {K : PySem.W.Frag} {M L : AP} {H H' H2 : Hp} {σ0 σ : L2.St} {r : Addr} {rows : List Row3}
theorem JnI.kp (p : JnI K M L H σ0 r rows σ H') (lr : ¬ L r) (k : Kp L H' H2) (nl : ∀ b, L b → H b ≠ none) : JnI K M L H σ0 r rows σ H2 := by
  obtain ⟨bs, hr, hrow, hbs, nd⟩ := p.rw
  refine ⟨fun a o n l e => k.k a o l (p.up a o n l e), k.b, p.sl, ⟨bs, k.k _ _ lr hr, hrow.chg fun b hb o e => k.k b o (fun l => nl b l (hbs b hb).1) e, hbs, nd⟩, p.vl⟩
theorem JnI.is (p : JnI K M L H σ0 r rows σ H') (bs : Bs L M H) (mr : M r) {v : V} {d : D} (h : Is K M H v d) : Is K M H' v d := by
  have k : ∀ a o, ¬ M a → H a = some o → H' a = some o := fun a o m e => p.up a o (fun z => m (by rw [z]; exact mr)) (fun l => m (bs.lm a l)) e
  exact Is.chg (fun a o e m => ⟨k a o m e, m⟩) (sqt_keep k bs.tr) d v h
theorem JnI.bs (p : JnI K M L H σ0 r rows σ H') (bs : Bs L M H) : Bs L M H' := by
  obtain ⟨us, hr, _⟩ := p.rw
  refine ⟨bs.lm, fun a o m e => ?_, fun a m => ?_, p.bg, bs.tb⟩
  · by_cases ar : a = r
    · rw [ar, hr] at e
      cases e
      trivial
    · by_cases la : L a
      · obtain ⟨o', z, mo, _⟩ := (p.bg a la).some
        rw [z] at e
        cases e
        exact mo
      · obtain ⟨o', e'⟩ := bs.tk a m
        have := p.up a o' ar la e'
        rw [e] at this
        cases this
        exact bs.tr a _ m e'
  · by_cases ar : a = r
    · exact ⟨_, by rw [ar]; exact hr⟩
    · by_cases la : L a
      · obtain ⟨o', z, _⟩ := (p.bg a la).some
        exact ⟨_, z⟩
      · obtain ⟨o', e'⟩ := bs.tk a m
        exact ⟨o', p.up a o' ar la e'⟩
abbrev tJBody (K : PySem.W.Frag) : TS := tIfS (tAnd (tTruX K (tVar 1)) (tAnd (tTest (tOp (rEqX K) (tLastE K) (tVar 2))) (tTest (tOp (rEqX K) (tOp (rIx K) (tLast K) (tC (.int 2))) (tVar 4))))) (tAsg (tOp (rPlus K) (tVar 2) (tVar 3)) (gSub (tLast K) (tC (.int 1)) rSetL)) (tDrop (tBM K "list" rAppend (tVar 1) (tCons (tLst (tCons (tVar 2) (tCons (tOp (rPlus K) (tVar 2) (tVar 3)) (tCons (tVar 4) tNil)))) tNil)))
theorem join_turn {eqv : D → D → Bool} {σ' : L2.St} {f m : Int} {v : V} {d : D} {N : AP} {E : Ends} (bsH : Bs L M H) (mr : M r) (lr : ¬ L r) (hl0 : 4 < σ0.length) (h01 : σ0[1]? = some (some (.ref r))) (hrH : H r = some (.lst [])) (hz : rows.length < 1000)
    (eq : ∀ p ∈ rows, RR K (rEqX K) (.d p.d) (.d d) fun s => s = .d (.bl (eqv p.d d))) (iv : Is K M H v d) (p : JnI K M L H σ0 r rows σ' H')
    (hN : ∀ σ2 H2, JnI K M L H σ0 r (joinStep eqv rows f m v d) σ2 H2 → E.nx σ2 H2) :
    tJBody K E (((σ'.set 2 (some (.int f))).set 3 (some (.int m))).set 4 (some v)) H' := by
  have nl : ∀ b, L b → H b ≠ none := fun b l e => (bsH.bag b l).ne e
  have hl : σ'.length = σ0.length := p.sl.1
  generalize hσ : ((σ'.set 2 (some (.int f))).set 3 (some (.int m))).set 4 (some v) = σ2
  have g1 : σ2[1]? = some (some (.ref r)) := by
    rw [← hσ, List.getElem?_set_ne (by decide), List.getElem?_set_ne (by decide), List.getElem?_set_ne (by decide), p.sl.2 1 (by decide)]
    exact h01
  have g2 : σ2[2]? = some (some (.int f)) := by
    rw [← hσ, List.getElem?_set_ne (by decide), List.getElem?_set_ne (by decide), List.getElem?_set_self (by omega)]
  have g3 : σ2[3]? = some (some (.int m)) := by
    rw [← hσ, List.getElem?_set_ne (by decide), List.getElem?_set_self (by rw [List.length_set]; omega)]
  have g4 : σ2[4]? = some (some v) := by
    rw [← hσ, List.getElem?_set_self (by rw [List.length_set, List.length_set]; omega)]
  have sl2 : Same' [2, 3, 4] σ0 σ2 := by
    rw [← hσ]
    refine ⟨by rw [List.length_set, List.length_set, List.length_set]; exact hl, fun k hk => ?_⟩
    have k2 : 2 ≠ k := fun e => hk (by rw [← e]; decide)
    have k3 : 3 ≠ k := fun e => hk (by rw [← e]; decide)
    have k4 : 4 ≠ k := fun e => hk (by rw [← e]; decide)
    rw [List.getElem?_set_ne k4, List.getElem?_set_ne k3, List.getElem?_set_ne k2, p.sl.2 k hk]
  have p2 : JnI K M L H σ0 r rows σ2 H' := ⟨p.up, p.bg, sl2, p.rw, p.vl⟩
  clear p
  have plus : ∀ (H : Hp) (Q : VK), Q (.int (f + m)) H → tOp (rPlus K) (tVar 2) (tVar 3) σ2 H Q := fun H Q q => ⟨_, g2, _, g3, .inl ⟨f, m, rfl, rfl, q⟩⟩
  -- a new run
  have new : ∀ H', JnI K M L H σ0 r rows σ2 H' → joinStep eqv rows f m v d = ⟨f, f + m, v, d⟩ :: rows → tDrop (tBM K "list" rAppend (tVar 1) (tCons (tLst (tCons (tVar 2) (tCons (tOp (rPlus K) (tVar 2) (tVar 3)) (tCons (tVar 4) tNil)))) tNil)) E σ2 H' := by
    intro H' p er
    obtain ⟨bs, hr, hrow, hbs, nd⟩ := p.rw
    refine ⟨.ref r, g1, tyL hr, ⟨.int f, g2, plus H' _ ⟨v, g4, ⟨(by show 3 ≤ sizeLine; decide), fun q hq => ?_⟩⟩⟩⟩
    have qr : q ≠ r := fun e => by rw [e, hr] at hq; cases hq
    have ql : ¬ L q := fun l => by
      exact (p.bg q l).ne hq
    have hqH : H q = none := by
      cases e : H q with
      | none => rfl
      | some o =>
        have := p.up q o qr ql e
        rw [hq] at this
        cases this
    have qb : q ∉ bs := fun hb => hrow.at q hb hq
    refine ⟨r, _, .ref q, rfl, rfl, (upd_ne (Ne.symm qr)).trans hr, ?_, ?_⟩
    · rw [List.length_map, List.length_reverse, hrow.len]
      exact Nat.lt_trans hz (by decide)
    · refine hN _ _ ⟨fun a o n l e => ?_, fun a l => ?_, sl2, ⟨q :: bs, ?_, ?_, ?_, List.nodup_cons.mpr ⟨qb, nd⟩⟩, ?_⟩
      · rw [upd_ne n, upd_ne (fun z => by rw [z, hqH] at e; cases e)]
        exact p.up a o n l e
      · refine ((p.bg a l).upd (fun e => ql (by rw [← e]; exact l)) (nc_non hq)).upd (fun e => lr (by rw [← e]; exact l)) (nc_lst ((upd_ne (Ne.symm qr)).trans hr))
      · rw [upd_same, List.reverse_cons, List.map_append]
        rfl
      · rw [er]
        refine ⟨by rw [upd_ne qr, upd_same], hrow.chg fun b hb o e => ?_⟩
        rw [upd_ne (hbs b hb).2, upd_ne (fun z => qb (by rw [← z]; exact hb))]
        exact e
      · intro b hb
        rcases List.mem_cons.mp hb with rfl | hb
        · exact ⟨hqH, qr⟩
        · exact hbs b hb
      · rw [er]
        intro z hz
        rcases List.mem_cons.mp hz with rfl | hz
        · exact iv
        · exact p.vl z hz
  obtain ⟨bs, hr, hrow, hbs, nd⟩ := p2.rw
  cases bs with
  | nil =>
    cases rows with
    | cons _ _ => exact hrow.elim
    | nil =>
      refine ⟨.ref r, g1, false, .inl ⟨_, .inl (.inl hr), rfl⟩, ?_⟩
      dsimp only
      rw [if_neg Bool.false_ne_true, if_neg Bool.false_ne_true]
      exact new H' p2 rfl
  | cons b bt =>
    cases rows with
    | nil => exact hrow.elim
    | cons z tl =>
      obtain ⟨hb, hbt⟩ := hrow
      refine ⟨.ref r, g1, true, .inl ⟨_, .inl (.inl hr), by simp⟩, ?_⟩
      dsimp only
      rw [if_pos rfl]
      refine val_last g1 hr _ (.inl ⟨b, _, 1, .int z.y, rfl, rfl, .inl (.inl hb), rfl, ?_⟩)
      refine ⟨_, g2, .inr ⟨rfl, _, rfl, ?_⟩⟩
      by_cases hy : z.y = f
      · have e1 : decide (V.int z.y = V.int f) = true := by rw [hy]; simp
        rw [e1]
        dsimp only
        rw [if_pos rfl]
        refine val_last g1 hr _ (.inl ⟨b, _, 2, z.v, rfl, rfl, .inl (.inl hb), rfl, ?_⟩)
        refine ⟨_, g4, ?_⟩
        have bs' : Bs L M H' := p2.bs bsH
        have iz : Is K M H' z.v z.d := p2.is bsH mr (p2.vl z (by simp))
        have iv' : Is K M H' v d := p2.is bsH mr iv
        refine eq z (by simp) N M L H' H' z.v v bs' (Kp.refl bs') iz iv' _ fun s u H3 k3 o3 q3 => ?_
        subst q3
        cases o3
        refine ⟨_, rfl, ?_⟩
        have p3 := p2.kp lr k3 nl
        cases he : eqv z.d d with
        | false =>
          dsimp only
          rw [if_neg Bool.false_ne_true]
          exact new H3 p3 (if_neg fun e => by rw [he] at e; exact Bool.false_ne_true e.2)
        | true =>
          dsimp only
          rw [if_pos rfl]
          have er : joinStep eqv (z :: tl) f m v d = ⟨z.x, f + m, z.v, z.d⟩ :: tl := if_pos ⟨hy, he⟩
          obtain ⟨bs3, hr3, hrow3, hbs3, nd3⟩ := p3.rw
          cases bs3 with
          | nil => exact hrow3.elim
          | cons b3 bt3 =>
          obtain ⟨hb3, hbt3⟩ := hrow3
          refine plus H3 _ (val_last g1 hr3 _ ⟨b3, _, 1, 1, rfl, rfl, hb3, rfl, ?_⟩)
          have nb := List.nodup_cons.mp nd3
          have b1 := hbs3 b3 (by simp)
          refine hN _ _ ⟨fun a o n l e => ?_, fun a l => ?_, sl2, ⟨b3 :: bt3, ?_, ?_, hbs3, nd3⟩, ?_⟩
          · rw [upd_ne (fun z => by rw [z, b1.1] at e; cases e)]
            exact p3.up a o n l e
          · exact (p3.bg a l).upd (fun e => nl a l (by rw [e]; exact b1.1)) (nc_lst hb3)
          · rw [upd_ne (Ne.symm b1.2)]
            exact hr3
          · rw [er]
            refine ⟨upd_same, hbt3.chg fun c hc o e => ?_⟩
            rw [upd_ne (fun z => nb.1 (by rw [← z]; exact hc))]
            exact e
          · rw [er]
            intro q hq
            rcases List.mem_cons.mp hq with rfl | hq
            · exact p3.vl z (by simp)
            · exact p3.vl q (List.mem_cons_of_mem _ hq)
      · have e1 : decide (V.int z.y = V.int f) = false := by simp [hy]
        rw [e1]
        dsimp only
        rw [if_neg Bool.false_ne_true, if_neg Bool.false_ne_true]
        exact new H' p2 (if_neg fun e => hy e.1)
abbrev tJoin (K : PySem.W.Frag) : TS := tFor (iList K (tVar 0)) (gTup K 2 (gCons (gTup K 2 (gCons (gName 2) (gCons (gName 3) gNil))) (gCons (gName 4) gNil))) (tJBody K)
/-- a piece: a stretch and a worth -/
def dPiece (p : (Int × Int) × D) : D := .tup [.tup [.int p.1.1, .int p.1.2], p.2]
theorem piece_at {v : V} {p : (Int × Int) × D} (h : Is K M H v (dPiece p)) : ∃ t t2 w, v = .ref t ∧ H t = some (.tup [.ref t2, w]) ∧ H t2 = some (.tup [.int p.1.1, .int p.1.2]) ∧ Is K M H w p.2 := by
  cases h with
  | @tup a vs _ h1 h2 =>
    cases h2 with
    | cons g1 g2 =>
      cases g2 with
      | cons g3 g4 =>
        cases g4
        obtain ⟨t2, rfl, g5⟩ := pair_at (p := p.1) g1
        exact ⟨a, t2, _, rfl, h1, g5, g3⟩
  | tupK _ _ h => cases h
/-- the runs as data -/
def runsD (eqv : D → D → Bool) (ps : List ((Int × Int) × D)) : List Row3 := ps.foldl (fun rs p => joinStep eqv rs p.1.1 p.1.2 .non p.2) []
theorem joinStep_d {eqv : D → D → Bool} {rs rs' : List Row3} {f m : Int} {v : V} {d : D} (h : rs.map (fun p => (p.x, p.y, p.d)) = rs'.map fun p => (p.x, p.y, p.d)) :
    (joinStep eqv rs f m v d).map (fun p => (p.x, p.y, p.d)) = (joinStep eqv rs' f m .non d).map fun p => (p.x, p.y, p.d) := by
  cases rs with
  | nil =>
    cases rs' with
    | nil => rfl
    | cons _ _ => cases h
  | cons p tl =>
    cases rs' with
    | nil => cases h
    | cons q tl' =>
      have h' : (p.x = q.x ∧ p.y = q.y ∧ p.d = q.d) ∧ tl.map (fun p => (p.x, p.y, p.d)) = tl'.map fun p => (p.x, p.y, p.d) := by simpa using h
      obtain ⟨⟨e1, e2, e3⟩, e4⟩ := h'
      simp only [joinStep]
      rw [e2, e3]
      split
      · simp [e1, e3, e4]
      · simp [e1, e2, e3, e4]
theorem joinStep_len {eqv : D → D → Bool} (rs : List Row3) (f m : Int) (v : V) (d : D) : (joinStep eqv rs f m v d).length ≤ rs.length + 1 := by
  cases rs with
  | nil => exact Nat.le_refl _
  | cons p tl =>
    simp only [joinStep]
    split
    · simp
    · simp
theorem joinStep_mem {eqv : D → D → Bool} {rs : List Row3} {f m : Int} {v : V} {d : D} {p : Row3} (h : p ∈ joinStep eqv rs f m v d) : p.d = d ∨ ∃ q ∈ rs, p.d = q.d := by
  cases rs with
  | nil =>
    rcases List.mem_cons.mp h with rfl | h
    · exact .inl rfl
    · cases h
  | cons r tl =>
    simp only [joinStep] at h
    split at h
    · rcases List.mem_cons.mp h with rfl | h
      · exact .inr ⟨r, by simp, rfl⟩
      · exact .inr ⟨p, List.mem_cons_of_mem _ h, rfl⟩
    · rcases List.mem_cons.mp h with rfl | h
      · exact .inl rfl
      · exact .inr ⟨p, h, rfl⟩
theorem runs_dl {rs rs' : List Row3} (h : rs.map (fun p => (p.x, p.y, p.d)) = rs'.map fun p => (p.x, p.y, p.d)) : rs.map Row3.dl = rs'.map Row3.dl := by
  have := congrArg (List.map fun q : Int × Int × D => (D.lst [.int q.1, .int q.2.1, q.2.2])) h
  rw [List.map_map, List.map_map] at this
  exact this
theorem ds_join {eqv : D → D → Bool} {ps : List ((Int × Int) × D)} {B : DEnds} (hn : ps.length < 1000) (eq : ∀ p ∈ ps, ∀ q ∈ ps, RR K (rEqX K) (.d p.2) (.d q.2) fun s => s = .d (.bl (eqv p.2 q.2)))
    (h : B.nx [some (.d (.lst (ps.map dPiece))), some (.d (.lst ((runsD eqv ps).reverse.map Row3.dl))), none, none, none, none]) :
    DS K (tJoin K) [some (.d (.lst (ps.map dPiece))), some (.own []), none, none, none, none] B := fun F P M L σ H S E o => by
  obtain ⟨v0, hv0, ok0⟩ := S.st.ok 0 _ rfl
  have ok0 : Is K M H v0 (.lst (ps.map dPiece)) := ok0
  cases ok0 with
  | @lst a0 vs0 _ h0 m0 hall =>
    obtain ⟨v1, hv1, r, us, rfl, mr, nr, lr, hr, hr2⟩ := S.st.ok 1 _ rfl
    cases hr2
    have bsH := S.st.bs
    have hl0 : σ.length = 6 := S.st.len
    have ar : a0 ≠ r := fun e => m0 (by rw [e]; exact mr)
    have al : ¬ L a0 := fun l => m0 (bsH.lm _ l)
    -- what holds ahead of turn i
    let Pv : Nat → L2.St → Hp → Prop := fun i σ' H' => ∃ rows : List Row3, JnI K M L H σ r rows σ' H' ∧ rows.map (fun p => (p.x, p.y, p.d)) = (runsD eqv (ps.take i)).map (fun p => (p.x, p.y, p.d)) ∧ (∀ p ∈ rows, ∃ q ∈ ps, p.d = q.2) ∧ rows.length ≤ i
    have len := hall.len
    rw [List.length_map] at len
    refine ⟨.ref a0, hv0, a0, rfl, ⟨vs0, .inl (.inl h0)⟩, for_list (K := K) (a := a0) (xs := vs0) Pv ?_ (fun i σ' H' hi ⟨rows, p, _⟩ => .inl (.inl (p.up _ _ ar al h0))) ?_ ?_⟩
    · exact ⟨[], ⟨fun a o _ _ e => e, bsH.bag, ⟨rfl, fun _ _ => rfl⟩, ⟨[], hr, trivial, fun b hb => (by cases hb), List.Pairwise.nil⟩, fun p hp => (by cases hp)⟩, rfl, fun p hp => (by cases hp), Nat.le_refl _⟩
    · rintro i x σ' H' hxi ⟨rows, p, e, hd, hlen⟩
      obtain ⟨dx, hdx, ix⟩ := hall.getV hxi
      rw [List.getElem?_map] at hdx
      cases hp : ps[i]? with
      | none => rw [hp] at hdx; cases hdx
      | some pc =>
        rw [hp] at hdx
        cases hdx
        obtain ⟨t, t2, w, rfl, ht, ht2, iw⟩ := piece_at ix
        have mem : pc ∈ ps := List.mem_of_getElem? hp
        have hi : i < ps.length := (List.getElem?_eq_some_iff.mp hp).1
        have nr' : ∀ {a o}, H a = some (.tup o) → a ≠ r := fun z e => by rw [e, hr] at z; cases z
        have nL : ∀ {a o}, H a = some (.tup o) → ¬ L a := fun z l => by
          exact (bsH.bag _ l).no z (fun _ _ z => by cases z) (fun _ z => by cases z)
        have g1 := p.up t _ (nr' ht) (nL ht) ht
        have g2 := p.up t2 _ (nr' ht2) (nL ht2) ht2
        refine ⟨t, _, rfl, .inl (.inl g1), rfl, _, _, rfl, t2, _, rfl, .inl (.inl g2), rfl, _, _, rfl, _, _, rfl, rfl, _, _, rfl, rfl, ?_⟩
        refine join_turn (eqv := eqv) (d := pc.2) (N := NO) bsH mr lr (by omega) hv1 hr (by omega) (fun z hz => ?_) iw p fun σ2 H2 q => ?_
        · obtain ⟨y, hy, ey⟩ := hd z hz
          rw [ey]
          exact eq y hy pc mem
        · refine ⟨_, q, ?_, fun z hz => ?_, Nat.le_trans (joinStep_len _ _ _ _ _) (by omega)⟩
          · have et : ps.take (i + 1) = ps.take i ++ [pc] := take_get hp
            rw [joinStep_d e]
            unfold runsD
            rw [et, List.foldl_append]
            rfl
          · rcases joinStep_mem hz with e2 | ⟨y, hy, e2⟩
            · exact ⟨pc, mem, e2⟩
            · obtain ⟨y2, h2, e3⟩ := hd y hy
              exact ⟨y2, h2, e2.trans e3⟩
    · rintro σ' H' ⟨rows, p, e, hd, hlen⟩
      rw [List.take_of_length_le (by omega)] at e
      obtain ⟨bs, hr', hrow, hbs, nd⟩ := p.rw
      have kx : Kp L H (upd H' r (.lst [])) := by
        refine ⟨fun a o l e => ?_, fun a la => ?_⟩
        · by_cases ar : a = r
          · rw [ar, hr] at e
            cases e
            rw [ar, upd_same]
          · rw [upd_ne ar]
            exact p.up a o ar l e
        · exact (p.bg a la).upd (fun e => lr (by rw [← e]; exact la)) (nc_lst hr')
      have S1 := S.kp' kx
      have nm : ∀ b ∈ bs, ¬ M b := fun b hb mb => by
        obtain ⟨o', ho⟩ := bsH.tk b mb
        rw [(hbs b hb).1] at ho
        cases ho
      have hw : IsAll K M (upd H' r (.lst [])) (bs.reverse.map V.ref) (rows.reverse.map Row3.dl) :=
        rows3At.all nm (fun z hz => Is.kp kx bsH (p.vl z hz)) (hrow.chg fun b hb o e => by rw [upd_ne (hbs b hb).2]; exact e)
      have S2 := S1.upd (i := 1) (a := r) rfl hv1 hw
      rw [upd_upd] at S2
      have eH : upd H' r (.lst (bs.reverse.map V.ref)) = H' := by
        funext c
        by_cases cr : c = r
        · rw [cr, upd_same, hr']
        · rw [upd_ne cr]
      rw [eH] at S2
      obtain ⟨M', S3⟩ := S2.freeze (i := 1) rfl
      have ed : rows.reverse.map Row3.dl = (runsD eqv ps).reverse.map Row3.dl := by
        rw [List.map_reverse, List.map_reverse, runs_dl e]
      rw [ed] at S3
      refine o.nx _ M' L σ' H' (S3.loose (by rw [p.sl.1]; exact hl0) fun i z e => ?_) h
      match i, e with
      | 0, e => exact ⟨e, p.sl.2 0 (by decide)⟩
      | 1, e => exact ⟨e, p.sl.2 1 (by decide)⟩
      | 2, e => cases e
      | 3, e => cases e
      | 4, e => cases e
      | 5, e => cases e
end
end DL

namespace DL
open PySem PySem.Spec PyProof.Rows L2
variable [Tbl]
/-! ### strips: a dict of new lists, filled by hand on the heap -/
section
variable {K : PySem.W.Frag} {P : List Pin} {N L M : AP} {H H' H2 : Hp} {σ : L2.St} {es : Env'}
theorem zip_take {ends : List Int} {as : List Addr} {p : Addr} {i : Nat} {k : Int} (hl : as.length = i) (h : ends[i]? = some k) : (ends.take (i + 1)).zip ((as ++ [p]).map V.ref) = (ends.take i).zip (as.map V.ref) ++ [(k, V.ref p)] := by
  have e : ends.take (i + 1) = ends.take i ++ [k] := take_get h
  have hi := (List.getElem?_eq_some_iff.mp h).1
  rw [e, List.map_append, List.zip_append (by rw [List.length_take, List.length_map]; omega)]
  rfl
theorem fst_zip {ends : List Int} {us : List V} (h : ends.length = us.length) : (ends.zip us).map Prod.fst = ends := by
  induction ends generalizing us with
  | nil => rfl
  | cons e ends ih =>
    cases us with
    | nil => cases h
    | cons u us => rw [List.zip_cons_cons, List.map_cons, ih (by simpa using h)]
theorem fill_dc {ends : List Int} (hn : ends.length < 1000) (nd : ends.Nodup) (S : Sts K P N M L σ H es) {a1 : Addr} (hv1 : σ[1]? = some (some (.ref a1))) (h1 : H a1 = some (.lst (ends.map V.int))) (m1 : ¬ M a1) (hl : 4 < σ.length) {Q : VK}
    (h : ∀ (D0 : Addr) (as : List Addr) (H' : Hp), Kp L H H' → H D0 = none → as.length = ends.length → as.Nodup → (∀ a ∈ as, H a = none ∧ a ≠ D0 ∧ H' a = some (.lst [])) → H' D0 = some (.dK (kvI (ends.zip (as.map V.ref)))) → Q (.ref D0) H') :
    tDc (iList K (tVar 1)) (gName 4) tYes (tVar 4) (tLst tNil) [4] σ H Q := by
  have bs := S.bs
  have la : ¬ L a1 := fun l => m1 (bs.lm _ l)
  have lw : (ends.map V.int).length = ends.length := List.length_map _
  refine ⟨.ref a1, hv1, a1, rfl, ⟨_, .inl (.inl h1)⟩, fun D0 hD => ⟨fun i m H' => m = ends.length - i ∧ i ≤ ends.length ∧ Kp L H H' ∧ ∃ as : List Addr, as.length = i ∧ as.Nodup ∧ (∀ a ∈ as, H a = none ∧ a ≠ D0 ∧ H' a = some (.lst [])) ∧ H' D0 = some (.dK (kvI ((ends.take i).zip (as.map V.ref)))), ⟨ends.length, rfl, Nat.zero_le _, Kp.new bs hD, [], rfl, List.Pairwise.nil, fun a ha => (by cases ha), ?_⟩, ?_⟩⟩
  · rw [upd_same]
    rfl
  rintro i m H' ⟨rfl, hi, kp, as, al, an, ah, ad⟩
  have q1 := kp.k a1 _ la h1
  by_cases hlt : i < ends.length
  · have hk : ends[i]? = some ends[i] := List.getElem?_eq_getElem hlt
    have hx : (ends.map V.int)[i]? = some (.int ends[i]) := by rw [List.getElem?_map, hk]; rfl
    refine .inr ⟨⟨_, _, .inl (.inl q1), hx⟩, fun H' => Kp L H H' ∧ ∃ as : List Addr, as.length = i + 1 ∧ as.Nodup ∧ (∀ a ∈ as, H a = none ∧ a ≠ D0 ∧ H' a = some (.lst [])) ∧ H' D0 = some (.dK (kvI ((ends.take (i + 1)).zip (as.map V.ref)))), fun H' p' => ⟨ends.length - (i + 1), by omega, rfl, hlt, p'⟩, fun v H2 y => ?_⟩
    obtain ⟨e1, e2⟩ := y
    subst e1
    have ev : v = .int ends[i] := by
      have := e2 _ (.inl (.inl q1))
      rw [hx] at this
      exact (Option.some.inj this).symm
    subst ev
    refine ⟨by simp [wipe, List.set_set], ?_⟩
    unfold tYes
    dsimp only
    rw [if_pos rfl]
    refine ⟨.int ends[i], by simp [wipe, hl], Nat.zero_le _, fun p hp => ?_⟩
    have pD : p ≠ D0 := fun e => by rw [e, ad] at hp; cases hp
    have pH : H p = none := kp.was hp
    have pa : p ∉ as := fun hq => by
      have := (ah p hq).2.2
      rw [hp] at this
      cases this
    have nk : ends[i] ∉ ((ends.take i).zip (as.map V.ref)).map Prod.fst := by
      rw [fst_zip (by rw [List.length_take, List.length_map]; omega)]
      intro hm
      obtain ⟨j, hj⟩ := List.mem_iff_getElem?.mp hm
      rw [List.getElem?_take] at hj
      by_cases hji : j < i
      · rw [if_pos hji] at hj
        obtain ⟨hjl, ej⟩ := List.getElem?_eq_some_iff.mp hj
        exact absurd ej (List.pairwise_iff_getElem.mp nd j i hjl hlt hji)
      · rw [if_neg hji] at hj
        cases hj
    refine ⟨_, Sum.inl ends[i], rfl, by rw [upd_ne (Ne.symm pD)]; exact ad, ?_, ⟨fun a o l e => ?_, fun a l => ?_⟩, as ++ [p], by rw [List.length_append, al]; rfl, ?_, fun a ha => ?_, ?_⟩
    · rw [List.length_map, List.length_zip, List.length_map, al]
      exact Nat.lt_of_le_of_lt (Nat.min_le_right _ _) (Nat.lt_of_lt_of_le (by omega : i < 1000) (by decide))
    · rw [upd_ne (fun z => by rw [z, hD] at e; cases e), upd_ne (fun z => by rw [z, pH] at e; cases e)]
      exact kp.k a o l e
    · have b1 := (kp.b a l).upd (a := p) (o := .lst []) (fun y => (kp.b a l).ne (by rw [y]; exact hp)) (nc_non hp)
      exact b1.upd (fun y => b1.no (by rw [y, upd_ne (Ne.symm pD)]; exact ad) (fun _ _ z => by cases z) (fun _ z => by cases z)) (nc_dk ((upd_ne (Ne.symm pD)).trans ad))
    · rw [List.nodup_append]
      exact ⟨an, by simp, fun a ha b hb => by rcases List.mem_singleton.mp hb with rfl; exact fun e => pa (by rw [← e]; exact ha)⟩
    · rcases List.mem_append.mp ha with ha | ha
      · obtain ⟨z1, z2, z3⟩ := ah a ha
        exact ⟨z1, z2, by rw [upd_ne z2, upd_ne (fun e => pa (by rw [← e]; exact ha))]; exact z3⟩
      · rcases List.mem_singleton.mp ha with rfl
        exact ⟨pH, pD, by rw [upd_ne pD, upd_same]⟩
    · rw [upd_same, putK_new nk, zip_take al hk]
  · have e : i = ends.length := by omega
    subst e
    rw [List.take_of_length_le (Nat.le_refl _)] at ad
    exact .inl ⟨⟨_, .inl (.inl q1), by rw [lw]; exact Nat.le_refl _⟩, h D0 as H' kp hD al an ah ad⟩
end
end DL

namespace DL
open PySem PySem.Spec PyProof.Rows L2
variable [Tbl]
def addAt (ends : List Int) (rows : List (List D)) (b : Int) (d : D) : List (List D) := (ends.zip rows).map fun p => if p.1 = b then p.2 ++ [d] else p.2
theorem addAt_len {ends : List Int} {rows : List (List D)} {b : Int} {d : D} (h : ends.length = rows.length) : (addAt ends rows b d).length = rows.length := by
  unfold addAt
  rw [List.length_map, List.length_zip, h, Nat.min_self]
theorem addAt_get {ends : List Int} {rows : List (List D)} {b : Int} {d : D} {j : Nat} {e : Int} {ds : List D} (h1 : ends[j]? = some e) (h2 : rows[j]? = some ds) : (addAt ends rows b d)[j]? = some (if e = b then ds ++ [d] else ds) := by
  unfold addAt
  rw [List.getElem?_map, (show (ends.zip rows)[j]? = some (e, ds) from List.getElem?_zip_eq_some.mpr ⟨h1, h2⟩)]
  rfl
section
variable {K : PySem.W.Frag} {P : List Pin} {N L M : AP} {H0 H H' H2 : Hp} {σ σ' : L2.St} {es es' : Env'}
theorem Sts.loose (S : Sts K P N M L σ H es) (hl : σ'.length = es'.length) (h : ∀ (i : Nat) (s : SV), es'[i]? = some (some s) → es[i]? = some (some s) ∧ σ'[i]? = σ[i]?) : Sts K P N M L σ' H es' := by
  refine ⟨S.bs, hl, fun i s e => ?_, S.pin, fun i j a xs ys hne e1 e2 e3 => ?_⟩
  · obtain ⟨e', q⟩ := h i s e
    rw [q]
    exact S.ok i s e'
  · obtain ⟨e1', q1⟩ := h i _ e1
    obtain ⟨e2', q2⟩ := h j _ e2
    rw [q1] at e3
    rw [q2]
    exact S.sep i j a xs ys hne e1' e2' e3
/-- the dict's lists, each with its data; M has them -/
structure FamI (K : PySem.W.Frag) (M : AP) (H' : Hp) (D0 : Addr) (as : List Addr) (ends : List Int) (rows : List (List D)) (c : Nat) : Prop where
  dk : H' D0 = some (.dK (kvI (ends.zip (as.map V.ref))))
  el : ends.length = rows.length
  al : as.length = rows.length
  row : ∀ (j : Nat) (a : Addr) (ds : List D), as[j]? = some a → rows[j]? = some ds → ∃ vs, H' a = some (.lst vs) ∧ IsAll K M H' vs ds ∧ ds.length ≤ c
variable {D0 : Addr} {as : List Addr} {ends : List Int} {rows : List (List D)} {c : Nat}
theorem FamI.kp (F : FamI K M H' D0 as ends rows c) (bs : Bs L M H') (k : Kp L H' H2) (la : ∀ a ∈ as, ¬ L a) : FamI K M H2 D0 as ends rows c := by
  refine ⟨k.k _ _ (fun l => ?_) F.dk, F.el, F.al, fun j a ds h1 h2 => ?_⟩
  · exact (bs.bag _ l).no F.dk (fun _ _ z => by cases z) (fun _ z => by cases z)
  · obtain ⟨vs, e, i, lc⟩ := F.row j a ds h1 h2
    exact ⟨vs, k.k _ _ (la a (List.mem_of_getElem? h1)) e, IsAll.kp k bs i, lc⟩
theorem lookup_zip : ∀ {ends : List Int} {us : List V} {j : Nat} {b : Int} {u : V}, ends.Nodup → ends[j]? = some b → us[j]? = some u → (ends.zip us).lookup b = some u
  | [], _, _, _, _, _, h, _ => by cases h
  | _ :: _, [], _, _, _, _, _, h => by cases h
  | e :: ends, v :: us, 0, b, u, _, h1, h2 => by
    cases h1
    cases h2
    rw [List.zip_cons_cons, List.lookup_cons, beq_self_eq_true]
  | e :: ends, v :: us, j + 1, b, u, nd, h1, h2 => by
    obtain ⟨n1, n2⟩ := List.nodup_cons.mp nd
    have ne : (b == e) = false := by
      have hb : b ∈ ends := List.mem_of_getElem? h1
      simp only [beq_eq_false_iff_ne, ne_eq]
      exact fun e' => n1 (by rw [← e']; exact hb)
    rw [List.zip_cons_cons, List.lookup_cons, ne]
    exact lookup_zip n2 h1 h2
/-- one thing appended to the list at b -/
theorem FamI.put (F : FamI K M H' D0 as ends rows c) (S : Sts K P N M L σ H' es) (nd : ends.Nodup) (an : as.Nodup) (ma : ∀ a ∈ as, M a) (la : ∀ a ∈ as, ¬ L a) (no : ∀ (j : Nat) (zs : List D), es[j]? ≠ some (some (.own zs)))
    {b : Int} (hb : b ∈ ends) : ∃ a vs, a ∈ as ∧ (ends.zip (as.map V.ref)).lookup b = some (.ref a) ∧ H' a = some (.lst vs) ∧ vs.length ≤ c ∧ ∀ {w : V} {d : D}, Is K M H' w d →
      FamI K M (upd H' a (.lst (vs ++ [w]))) D0 as ends (addAt ends rows b d) (c + 1) ∧ Sts K P N M L σ (upd H' a (.lst (vs ++ [w]))) es := by
  obtain ⟨j, hj⟩ := List.mem_iff_getElem?.mp hb
  have hjl := (List.getElem?_eq_some_iff.mp hj).1
  have jr : j < rows.length := by rw [← F.el]; exact hjl
  have ja : j < as.length := by rw [F.al]; exact jr
  have h1 : as[j]? = some as[j] := List.getElem?_eq_getElem ja
  have h2 : rows[j]? = some rows[j] := List.getElem?_eq_getElem jr
  obtain ⟨vs, e, i, lc⟩ := F.row j _ _ h1 h2
  have hm : as[j] ∈ as := List.mem_of_getElem? h1
  refine ⟨as[j], vs, hm, lookup_zip nd hj (by rw [List.getElem?_map, h1]; rfl), e, by rw [i.len]; exact lc, fun {w d} iw => ?_⟩
  obtain ⟨S2, up⟩ := S.updD (ws := vs ++ [w]) (ma _ hm) (la _ hm) e (fun j zs z => absurd z (no j zs))
  refine ⟨⟨by rw [upd_ne (fun z => by have q := F.dk; rw [z, e] at q; cases q)]; exact F.dk, by rw [addAt_len F.el]; exact F.el, by rw [addAt_len F.el]; exact F.al, fun k a ds g1 g2 => ?_⟩, S2⟩
  have hk : k < ends.length := by
    have := (List.getElem?_eq_some_iff.mp g1).1
    rw [F.el, ← F.al]
    exact this
  have kr : k < rows.length := by rw [← F.el]; exact hk
  have g3 : ends[k]? = some ends[k] := List.getElem?_eq_getElem hk
  have g4 : rows[k]? = some rows[k] := List.getElem?_eq_getElem kr
  rw [addAt_get g3 g4] at g2
  cases g2
  by_cases hkj : k = j
  · subst hkj
    rw [h1] at g1
    cases g1
    have eb : ends[k] = b := by
      rw [g3] at hj
      exact Option.some.inj hj
    rw [if_pos eb]
    exact ⟨vs ++ [w], upd_same, (up i).append (up (.cons iw .nil)), by rw [List.length_append, List.length_singleton]; omega⟩
  · have nb : ends[k] ≠ b := fun eb => by
      have hjl' := (List.getElem?_eq_some_iff.mp hj)
      have e2 : ends[k] = ends[j] := by rw [eb]; exact hjl'.2.symm
      rcases Nat.lt_or_gt_of_ne hkj with q | q
      · exact List.pairwise_iff_getElem.mp nd k j hk hjl q e2
      · exact List.pairwise_iff_getElem.mp nd j k hjl hk q e2.symm
    rw [if_neg nb]
    obtain ⟨vs2, e2, i2, lc2⟩ := F.row k a _ g1 g4
    have na : a ≠ as[j] := fun z => by
      have hkl := (List.getElem?_eq_some_iff.mp g1)
      have hjl2 := (List.getElem?_eq_some_iff.mp h1).1
      rcases Nat.lt_or_gt_of_ne hkj with q | q
      · exact List.pairwise_iff_getElem.mp an k j hkl.1 hjl2 q (by rw [hkl.2]; exact z)
      · exact List.pairwise_iff_getElem.mp an j k hjl2 hkl.1 q (by rw [hkl.2]; exact z.symm)
    exact ⟨vs2, by rw [upd_ne na]; exact e2, up i2, Nat.le_succ_of_le lc2⟩
end
end DL

namespace DL
open PySem PySem.Spec PyProof.Rows L2
variable [Tbl]
theorem set_same {α : Type} {xs : List α} {i : Nat} {x : α} (h : xs[i]? = some x) : xs.set i x = xs := by
  apply List.ext_getElem?
  intro j
  by_cases e : i = j
  · subst e
    rw [List.getElem?_set_self (List.getElem?_eq_some_iff.mp h).1, h]
  · rw [List.getElem?_set_ne e]
section
variable {K : PySem.W.Frag} {P : List Pin} {N L M : AP} {H0 H H' H2 : Hp} {σ σ' : L2.St} {es es' : Env'} {D0 : Addr} {as : List Addr} {ends : List Int} {rows : List (List D)} {c : Nat}
/-- many new lists are claimed at once; all that is known is data -/
theorem Sts.claims (S : Sts K P N M L σ H es) (k : Kp L H H2) (fr : ∀ a ∈ as, H a = none) (nw : ∀ a ∈ as, ∃ vs, H2 a = some (.lst vs)) (od : ∀ (j : Nat) (z : SV), es[j]? = some (some z) → ∃ x, z = .d x) : Sts K P N (fun b => M b ∨ b ∈ as) L σ H2 es := by
  have bs := S.bs
  have b2 := k.bs bs
  have k1 : ∀ b o, H b = some o → ¬ M b → H2 b = some o ∧ ¬ (M b ∨ b ∈ as) := fun b o e m => ⟨k.k b o (fun l => m (bs.lm b l)) e, fun q => q.elim m fun z => by rw [fr b z] at e; cases e⟩
  have k2 := sqt_keep (K := K) (M := M) (fun b o m e => k.k b o (fun l => m (bs.lm b l)) e) bs.tr
  refine ⟨⟨fun a l => .inl (b2.lm a l), fun a o m e => ?_, fun a m => ?_, b2.bag, b2.tb⟩, S.len, fun j z ez => ?_, fun p hp => ?_, S.sep⟩
  · rcases m with m | m
    · exact b2.tr a o m e
    · obtain ⟨vs, q⟩ := nw a m
      rw [q] at e
      cases e
      trivial
  · rcases m with m | m
    · exact b2.tk a m
    · obtain ⟨vs, q⟩ := nw a m
      exact ⟨_, q⟩
  · obtain ⟨w, g1, g2⟩ := S.ok j z ez
    obtain ⟨x, rfl⟩ := od j z ez
    exact ⟨w, g1, Is.chg k1 k2 _ _ g2⟩
  · exact PinOk.chg k1 k2 (S.pin p hp)
theorem fam_all {M1 : AP} (sub : ∀ a, M a → M1 a) : ∀ {as : List Addr} {rows : List (List D)}, as.length = rows.length → (∀ a ∈ as, ¬ M a) → (∀ (j : Nat) (a : Addr) (ds : List D), as[j]? = some a → rows[j]? = some ds → ∃ vs, H' a = some (.lst vs) ∧ IsAll K M1 H' vs ds ∧ ds.length ≤ c) →
    IsAll K M H' (as.map V.ref) (rows.map D.lst)
  | [], [], _, _, _ => .nil
  | [], _ :: _, h, _, _ => by cases h
  | _ :: _, [], h, _, _ => by cases h
  | a :: as, ds :: rows, h, nm, r => by
    obtain ⟨vs, e, i, _⟩ := r 0 a ds rfl rfl
    exact .cons (.lst e (nm a (by simp)) (i.sub sub)) (fam_all sub (by simpa using h) (fun b hb => nm b (List.mem_cons_of_mem _ hb)) fun j b es h1 h2 => r (j + 1) b es h1 h2)
end
/-- a box: a stretch, another thing, a value -/
def dBox (b : ((Int × Int) × D) × D) : D := .tup [.tup [.int b.1.1.1, .int b.1.1.2], b.1.2, b.2]
def fillOne (ends : List Int) (sub : List Int) (d : D) (rows : List (List D)) : List (List D) := sub.foldl (fun rs x => addAt ends rs x d) rows
def fillAll (ends : List Int) (subs : Int × Int → List Int) (boxes : List (((Int × Int) × D) × D)) : List (List D) := boxes.foldl (fun rs b => fillOne ends (subs b.1.1) (.tup [b.1.2, b.2]) rs) (ends.map fun _ => [])
abbrev tFillA (K : PySem.W.Frag) : TE := tDc (iList K (tVar 1)) (gName 4) tYes (tVar 4) (tLst tNil) [4]
abbrev tFillP (K : PySem.W.Frag) : TS := tDrop (tBM K "list" rAppend (tDGet (tVar 2) (tVar 8)) (tCons (tTup (tCons (tVar 6) (tCons (tVar 7) tNil))) tNil))
abbrev tFillC (K : PySem.W.Frag) (tsl : TE) : TS := tFor (iList K (tVar 0)) (gTup K 3 (gCons (gTup K 2 (gCons (gName 4) (gCons (gName 5) gNil))) (gCons (gName 6) (gCons (gName 7) gNil)))) (tFor (iList K tsl) (gName 8) (tFillP K))
abbrev envF (a b : D) (s2 s3 s4 s5 s6 s7 : Option SV) : Env' := [some (.d a), some (.d b), s2, s3, s4, s5, s6, s7, none, none, none, none, none, none, none]
section
variable {K : PySem.W.Frag} {P : List Pin} {N L M : AP} {H0 H H' H2 : Hp} {σ σ' : L2.St} {es es' : Env'} {D0 : Addr} {as : List Addr} {ends : List Int} {rows : List (List D)} {c : Nat}
/-- one append -/
theorem fill_put {σ' : L2.St} {b : Int} {vo vw : V} {o w : D} {E : Ends} {ve : D} {vb : D} {s3 : Option SV} {f m : Int} (nd : ends.Nodup) (an : as.Nodup) (ma : ∀ a ∈ as, M a) (la : ∀ a ∈ as, ¬ L a) (hb : b ∈ ends) (hc : c < 2000000) (n3 : ∀ zs, s3 ≠ some (.own zs))
    (S : Sts K P N M L σ' H' (envF vb ve none s3 (some (.d (.int f))) (some (.d (.int m))) (some (.d o)) (some (.d w)))) (F : FamI K M H' D0 as ends rows c) (g2 : σ'[2]? = some (some (.ref D0))) (g8 : σ'[8]? = some (some (.int b))) (g6 : σ'[6]? = some (some vo)) (g7 : σ'[7]? = some (some vw))
    (io : Is K M H' vo o) (iw : Is K M H' vw w)
    (h : ∀ H2, Sts K P N M L σ' H2 (envF vb ve none s3 (some (.d (.int f))) (some (.d (.int m))) (some (.d o)) (some (.d w))) → (∀ a x, a ∉ as → H' a = some x → H2 a = some x) → FamI K M H2 D0 as ends (addAt ends rows b (.tup [o, w])) (c + 1) → E.nx σ' H2) :
    tFillP K E σ' H' := by
  have no : ∀ (j : Nat) (zs : List D), (envF vb ve none s3 (some (.d (.int f))) (some (.d (.int m))) (some (.d o)) (some (.d w)))[j]? ≠ some (some (.own zs)) := fun j zs e => by
    match j, e with
    | 0, e => cases e
    | 1, e => cases e
    | 2, e => cases e
    | 3, e => exact n3 zs (Option.some.inj e)
    | 4, e => cases e
    | 5, e => cases e
    | 6, e => cases e
    | 7, e => cases e
    | 8, e => cases e
    | 9, e => cases e
    | 10, e => cases e
    | 11, e => cases e
    | 12, e => cases e
    | 13, e => cases e
    | 14, e => cases e
    | j + 15, e => cases e
  obtain ⟨a, vs, ha, hl, e, lc, _⟩ := F.put S nd an ma la no hb
  have dg : DGet H' D0 (.int b) (some (.ref a)) := by
    have := DGet.k (k := Sum.inl b) F.dk
    rw [valV_kvI, hl] at this
    exact this
  refine ⟨.ref D0, g2, .int b, g8, D0, .ref a, rfl, dg, tyL e, vo, g6, vw, g7, (by show 2 ≤ sizeLine; decide), fun q hq => ?_⟩
  have kn : Kp L H' (upd H' q (.tup [vo, vw])) := Kp.new S.bs hq
  have S2 := S.kp kn
  have F2 := F.kp S.bs kn la
  obtain ⟨a', vs', ha', hl', e', lc', fin⟩ := F2.put S2 nd an ma la no hb
  rw [hl] at hl'
  cases hl'
  have ne : a ≠ q := fun z => by rw [z, hq] at e; cases e
  have ev : vs' = vs := by
    rw [upd_ne ne, e] at e'
    cases e'
    rfl
  subst ev
  refine ⟨a, vs', .ref q, rfl, rfl, e', Nat.lt_of_le_of_lt lc' (Nat.lt_of_lt_of_le hc (by decide)), ?_⟩
  obtain ⟨F3, S3⟩ := fin (w := .ref q) (d := .tup [o, w]) (Is.tup upd_same (.cons (Is.kp kn S.bs io) (.cons (Is.kp kn S.bs iw) .nil)))
  refine h _ S3 (fun b x hb' ex => ?_) F3
  rw [upd_ne (fun z => hb' (by rw [z]; exact ha)), upd_ne (fun z => by rw [z, hq] at ex; cases ex)]
  exact ex
end
end DL

namespace DL
open PySem PySem.Spec PyProof.Rows L2
variable [Tbl]
section
variable {K : PySem.W.Frag} {P : List Pin} {N L M M1 : AP} {H0 H H' H2 : Hp} {σ σ' : L2.St} {es es' : Env'} {D0 : Addr} {as : List Addr} {ends : List Int} {rows : List (List D)} {c : Nat}
/-- what holds ahead of the i-th box -/
structure FilI (K : PySem.W.Frag) (P : List Pin) (N L M1 : AP) (H : Hp) (D0 : Addr) (as : List Addr) (σ : L2.St) (env : Env') (ends : List Int) (rows : List (List D)) (c : Nat) (σ' : L2.St) (H' : Hp) : Prop where
  st : Sts K P N M1 L σ' H' env
  up : ∀ a o, a ∉ as → ¬ L a → H a = some o → H' a = some o
  fm : FamI K M1 H' D0 as ends rows c
  s0 : σ'[0]? = σ[0]?
  s1 : σ'[1]? = σ[1]?
  s2 : σ'[2]? = some (some (.ref D0))
  s3 : σ'[3]? = σ[3]?
theorem box_at {v : V} {b : ((Int × Int) × D) × D} (h : Is K M H v (dBox b)) : ∃ t t2 vo vw, v = .ref t ∧ H t = some (.tup [.ref t2, vo, vw]) ∧ H t2 = some (.tup [.int b.1.1.1, .int b.1.1.2]) ∧ Is K M H vo b.1.2 ∧ Is K M H vw b.2 := by
  cases h with
  | @tup a vs _ h1 h2 =>
    cases h2 with
    | cons g1 g2 =>
      cases g2 with
      | cons g3 g4 =>
        cases g4 with
        | cons g5 g6 =>
          cases g6
          obtain ⟨t2, rfl, g7⟩ := pair_at (p := b.1.1) g1
          exact ⟨a, t2, _, _, rfl, h1, g7, g3, g5⟩
  | tupK _ _ h => cases h
/-- one box -/
theorem fill_box {vb ve : D} {s3 : Option SV} {b : ((Int × Int) × D) × D} {tsl : TE} {sub : List Int} {x : V} {E : Ends} (nd : ends.Nodup) (an : as.Nodup) (ma : ∀ a ∈ as, M1 a) (la : ∀ a ∈ as, ¬ L a) (n3 : ∀ zs, s3 ≠ some (.own zs)) (hl : σ.length = 15)
    (hsub : ∀ x ∈ sub, x ∈ ends) (hc : c + sub.length < 2000000) (p : FilI K P N L M1 H D0 as σ (envF vb ve none s3 none none none none) ends rows c σ' H')
    (hsl : DE K tsl (envF vb ve none s3 (some (.d (.int b.1.1.1))) (some (.d (.int b.1.1.2))) (some (.d b.1.2)) (some (.d b.2))) fun s => s = .new (sub.map D.int)) (ix : Is K M1 H' x (dBox b))
    (h : ∀ σ2 H2, FilI K P N L M1 H D0 as σ (envF vb ve none s3 none none none none) ends (fillOne ends sub (.tup [b.1.2, b.2]) rows) (c + sub.length) σ2 H2 → E.nx σ2 H2) :
    (gTup K 3 (gCons (gTup K 2 (gCons (gName 4) (gCons (gName 5) gNil))) (gCons (gName 6) (gCons (gName 7) gNil)))) x σ' H' fun σ2 H2 => (tFor (iList K tsl) (gName 8) (tFillP K)) E σ2 H2 := by
  obtain ⟨t, t2, vo, vw, rfl, ht, ht2, io, iw⟩ := box_at ix
  refine ⟨t, _, rfl, .inl (.inl ht), rfl, _, _, rfl, t2, _, rfl, .inl (.inl ht2), rfl, _, _, rfl, _, _, rfl, rfl, _, _, rfl, _, _, rfl, rfl, ?_⟩
  have lσ : σ'.length = 15 := p.st.len
  have S4 := (((p.st.setp (i := 4) (s := .d (.int b.1.1.1)) (v := .int b.1.1.1) (Is.int _) trivial).setp (i := 5) (s := .d (.int b.1.1.2)) (v := .int b.1.1.2) (Is.int _) trivial).setp (i := 6) (s := .d b.1.2) (v := vo) io trivial).setp (i := 7) (s := .d b.2) (v := vw) iw trivial
  generalize hσ : (((σ'.set 4 (some (.int b.1.1.1))).set 5 (some (.int b.1.1.2))).set 6 (some vo)).set 7 (some vw) = σ4 at S4 ⊢
  have S4 : Sts K P N M1 L σ4 H' (envF vb ve none s3 (some (.d (.int b.1.1.1))) (some (.d (.int b.1.1.2))) (some (.d b.1.2)) (some (.d b.2))) := S4
  have g (i : Nat) (hi : i < 4) : σ4[i]? = σ'[i]? := by
    rw [← hσ, List.getElem?_set_ne (by omega), List.getElem?_set_ne (by omega), List.getElem?_set_ne (by omega), List.getElem?_set_ne (by omega)]
  have g6 : σ4[6]? = some (some vo) := by
    rw [← hσ, List.getElem?_set_ne (by decide), List.getElem?_set_self (by rw [List.length_set, List.length_set]; omega)]
  have g7 : σ4[7]? = some (some vw) := by
    rw [← hσ, List.getElem?_set_self (by rw [List.length_set, List.length_set, List.length_set]; omega)]
  refine hsl P N M1 L σ4 H' S4 _ fun s v H1 k1 ok q => ?_
  subst q
  obtain ⟨a, ws, rfl, na, ha, iws⟩ := ok
  have ew := IsAll.ofInts iws
  subst ew
  have bs4 := S4.bs
  have nas : a ∉ as := fun hm => by
    obtain ⟨o, e⟩ := bs4.tk a (ma a hm)
    rw [na] at e
    cases e
  refine ⟨a, rfl, ⟨_, .inl (.inl ha)⟩, for_list (K := K) (a := a) (xs := sub.map V.int) (fun j σ2 H2 => ∃ rs, Sts K P N M1 L σ2 H2 (envF vb ve none s3 (some (.d (.int b.1.1.1))) (some (.d (.int b.1.1.2))) (some (.d b.1.2)) (some (.d b.2))) ∧ (∀ d o, d ∉ as → ¬ L d → H1 d = some o → H2 d = some o) ∧ FamI K M1 H2 D0 as ends rs (c + j) ∧ rs = fillOne ends (sub.take j) (.tup [b.1.2, b.2]) rows ∧ (∀ i < 8, σ2[i]? = σ4[i]?) ∧ Is K M1 H2 vo b.1.2 ∧ Is K M1 H2 vw b.2) ?_ (fun j σ2 H2 _ ⟨rs, S, u, _⟩ => .inl (.inl (u a _ nas (fun l => fresh_nm bs4 na (bs4.lm a l)) ha))) ?_ ?_⟩
  · exact ⟨rows, S4.kp k1, fun d o _ _ e => e, p.fm.kp bs4 k1 la, rfl, fun _ _ => rfl, Is.kp k1 bs4 io, Is.kp k1 bs4 iw⟩
  · rintro j y σ2 H2 hy ⟨rs, S, u, fm, er, sl, jo, jw⟩
    rw [List.getElem?_map] at hy
    cases hb : sub[j]? with
    | none => rw [hb] at hy; cases hy
    | some z =>
      rw [hb] at hy
      cases hy
      have hz : z ∈ sub := List.mem_of_getElem? hb
      have hj := (List.getElem?_eq_some_iff.mp hb).1
      have l2 : σ2.length = 15 := S.len
      show tFillP K _ (σ2.set 8 (some (.int z))) H2
      have S8 : Sts K P N M1 L (σ2.set 8 (some (.int z))) H2 (envF vb ve none s3 (some (.d (.int b.1.1.1))) (some (.d (.int b.1.1.2))) (some (.d b.1.2)) (some (.d b.2))) := by
        refine S.loose (by rw [List.length_set]; exact S.len) fun i s e => ⟨e, ?_⟩
        rw [List.getElem?_set_ne]
        intro e8
        subst e8
        cases e
      have q (i : Nat) (hi : i < 8) : (σ2.set 8 (some (V.int z)))[i]? = σ4[i]? := by
        rw [List.getElem?_set_ne (by omega)]
        exact sl i hi
      refine fill_put nd an ma la (hsub z hz) (by omega) n3 S8 fm ((q 2 (by decide)).trans ((g 2 (by decide)).trans p.s2)) (List.getElem?_set_self (by omega)) ((q 6 (by decide)).trans g6) ((q 7 (by decide)).trans g7) jo jw fun H3 S3 kp3 F3 => ?_
      have k12 : ∀ d o, ¬ M1 d → H2 d = some o → H3 d = some o := fun d o m e => kp3 d o (fun hm => m (ma d hm)) e
      have tk := sqt_keep (K := K) (M := M1) k12 S.bs.tr
      refine ⟨_, S3, fun d o n l e => kp3 d o n (u d o n l e), by rw [← Nat.add_assoc]; exact F3, ?_, q, Is.chg (fun d o e m => ⟨k12 d o m e, m⟩) tk _ _ jo, Is.chg (fun d o e m => ⟨k12 d o m e, m⟩) tk _ _ jw⟩
      rw [er]
      have et : sub.take (j + 1) = sub.take j ++ [z] := take_get hb
      unfold fillOne
      rw [et, List.foldl_append]
      rfl
  · rintro σ2 H2 ⟨rs, S, u, fm, er, sl, _⟩
    rw [List.length_map, List.take_of_length_le (Nat.le_refl _)] at er
    rw [List.length_map] at fm
    subst er
    refine h _ _ ⟨S.loose S.len fun i s e => ⟨?_, rfl⟩, fun d o n l e => ?_, fm, (sl 0 (by decide)).trans ((g 0 (by decide)).trans p.s0), (sl 1 (by decide)).trans ((g 1 (by decide)).trans p.s1), (sl 2 (by decide)).trans ((g 2 (by decide)).trans p.s2), (sl 3 (by decide)).trans ((g 3 (by decide)).trans p.s3)⟩
    · match i, e with
      | 0, e => exact e
      | 1, e => exact e
      | 2, e => exact e
      | 3, e => exact e
      | 4, e => cases e
      | 5, e => cases e
      | 6, e => cases e
      | 7, e => cases e
      | 8, e => cases e
      | 9, e => cases e
      | 10, e => cases e
      | 11, e => cases e
      | 12, e => cases e
      | 13, e => cases e
      | 14, e => cases e
      | i + 15, e => cases e
    · exact u d o n l (k1.k d o l (p.up d o n l e))
end
end DL

namespace DL
open PySem PySem.Spec PyProof.Rows L2
variable [Tbl]
section
variable {K : PySem.W.Frag} {B : DEnds} {u : TS} {tnum : TE} {tsl : TE}
theorem Stf.has {F : Fr} {P : List Pin} {M L : AP} {σ : L2.St} {H : Hp} {es : Env'} (S : Stf K F P M L σ H es) {i : Nat} {s : SV} {v : V} (hv : σ[i]? = some (some v)) (h : SvOk K (fun a => F.H0 a = none) M L H H v s) (no : s.nown) : Stf K F P M L σ H (es.set i (some s)) := by
  have := S.setp (i := i) h no
  rw [set_same hv] at this
  exact this
theorem dcd_ints {M M' : AP} {H : Hp} {v : V} {nums : List (Int × Int)} {N N' L L' : AP} {H1 H2 : Hp} (h : SvOk K N M L H1 H v (.dcd (nums.map fun p => (p.1, D.int p.2)))) : SvOk K N' M' L' H2 H v (.dcd (nums.map fun p => (p.1, D.int p.2))) := by
  obtain ⟨a, e, ps, h1, h2, h3⟩ := h
  have e3 : (nums.map fun p => (p.1, D.int p.2)).map Prod.snd = (nums.map Prod.snd).map D.int := by rw [List.map_map, List.map_map]; rfl
  rw [e3] at h3
  have e4 := IsAll.ofInts h3
  refine ⟨a, e, ps, h1, h2, ?_⟩
  rw [e3, e4]
  exact IsAll.ints _
theorem ds_fill {boxes : List (((Int × Int) × D) × D)} {ends : List Int} {nums : List (Int × Int)} {subs : Int × Int → List Int} (hb : boxes.length ≤ 1000) (hn : ends.length < 1000) (nd : ends.Nodup)
    (hnum : DE K tnum (envF (.lst (boxes.map dBox)) (.lst (ends.map D.int)) none none none none none none) fun s => s = .dcd (nums.map fun p => (p.1, D.int p.2)))
    (hsl : ∀ b ∈ boxes, DE K tsl (envF (.lst (boxes.map dBox)) (.lst (ends.map D.int)) none (some (.dcd (nums.map fun p => (p.1, D.int p.2)))) (some (.d (.int b.1.1.1))) (some (.d (.int b.1.1.2))) (some (.d b.1.2)) (some (.d b.2))) fun s => s = .new ((subs b.1.1).map D.int))
    (hsub : ∀ b ∈ boxes, (subs b.1.1).length ≤ 1000 ∧ ∀ x ∈ subs b.1.1, x ∈ ends)
    (h : DS K u (envF (.lst (boxes.map dBox)) (.lst (ends.map D.int)) (some (.dcd (ends.zip ((fillAll ends subs boxes).map D.lst)))) (some (.dcd (nums.map fun p => (p.1, D.int p.2)))) none none none none) B) :
    DS K (tSeq (tAsg (tFillA K) (gName 2)) (tSeq (tAsg tnum (gName 3)) (tSeq (tFillC K tsl) u))) (envF (.lst (boxes.map dBox)) (.lst (ends.map D.int)) none none none none none none) B := fun F P M L σ H S E o => by
  obtain ⟨v0, hv0, ok0⟩ := S.st.ok 0 _ rfl
  obtain ⟨v1, hv1, ok1⟩ := S.st.ok 1 _ rfl
  have ok0 : Is K M H v0 (.lst (boxes.map dBox)) := ok0
  have ok1 : Is K M H v1 (.lst (ends.map D.int)) := ok1
  have bsH := S.st.bs
  have lσ : σ.length = 15 := S.st.len
  cases ok0 with
  | @lst a0 vs0 _ h0 m0 all0 =>
  cases ok1 with
  | @lst a1 vs1 _ h1 m1 all1 =>
  have e1 := IsAll.ofInts all1
  subst e1
  have len0 := all0.len
  rw [List.length_map] at len0
  unfold tSeq tAsg
  refine fill_dc hn nd S.st hv1 h1 m1 (by omega) fun D0 as H1 k1 hD al an ah ad => ?_
  show (tSeq (tAsg tnum (gName 3)) (tSeq (tFillC K tsl) u)) E (σ.set 2 (some (.ref D0))) H1
  have la : ∀ a ∈ as, ¬ L a := fun a ha l => by
    exact (bsH.bag a l).ne (ah a ha).1
  have lD : ¬ L D0 := fun l => by
    exact (bsH.bag _ l).ne hD
  have nM : ∀ a ∈ as, ¬ M a := fun a ha m => by
    obtain ⟨o, e⟩ := bsH.tk a m
    rw [(ah a ha).1] at e
    cases e
  have S1 : Stf K F P M L (σ.set 2 (some (.ref D0))) H1 (envF (.lst (boxes.map dBox)) (.lst (ends.map D.int)) none none none none none none) := by
    refine (S.kp' k1).loose (by rw [List.length_set]; exact lσ) fun i s e => ⟨e, ?_⟩
    rw [List.getElem?_set_ne]
    intro e2
    subst e2
    cases e
  refine hnum P _ M L _ H1 S1.st _ fun s v H2 k2 ok q => ?_
  subst q
  show (tSeq (tFillC K tsl) u) E ((σ.set 2 (some (.ref D0))).set 3 (some v)) H2
  have k12 := k1.trans k2
  generalize hσ : (σ.set 2 (some (.ref D0))).set 3 (some v) = σ3
  have lσ3 : σ3.length = 15 := by rw [← hσ, List.length_set, List.length_set]; exact lσ
  have g0 : σ3[0]? = some (some (.ref a0)) := by rw [← hσ, List.getElem?_set_ne (by decide), List.getElem?_set_ne (by decide)]; exact hv0
  have g1 : σ3[1]? = some (some (.ref a1)) := by rw [← hσ, List.getElem?_set_ne (by decide), List.getElem?_set_ne (by decide)]; exact hv1
  have g2 : σ3[2]? = some (some (.ref D0)) := by rw [← hσ, List.getElem?_set_ne (by decide), List.getElem?_set_self (by omega)]
  have g3 : σ3[3]? = some (some v) := by rw [← hσ, List.getElem?_set_self (by rw [List.length_set]; omega)]
  have ah2 : ∀ a ∈ as, H2 a = some (.lst []) := fun a ha => k2.k a _ (la a ha) (ah a ha).2.2
  -- all lists claimed
  have od : ∀ (j : Nat) (z : SV), (envF (.lst (boxes.map dBox)) (.lst (ends.map D.int)) none none none none none none)[j]? = some (some z) → ∃ x, z = .d x := fun j z e => by
    match j, e with
    | 0, e => cases e; exact ⟨_, rfl⟩
    | 1, e => cases e; exact ⟨_, rfl⟩
    | 2, e => cases e
    | 3, e => cases e
    | 4, e => cases e
    | 5, e => cases e
    | 6, e => cases e
    | 7, e => cases e
    | 8, e => cases e
    | 9, e => cases e
    | 10, e => cases e
    | 11, e => cases e
    | 12, e => cases e
    | 13, e => cases e
    | 14, e => cases e
    | j + 15, e => cases e
  have C0 := S.st.claims (as := as) k12 (fun a ha => (ah a ha).1) (fun a ha => ⟨_, ah2 a ha⟩) od
  have C1 : Sts K P _ (fun b => M b ∨ b ∈ as) L σ3 H2 (envF (.lst (boxes.map dBox)) (.lst (ends.map D.int)) none none none none none none) := C0.loose lσ3 fun i s e => ⟨e, by
    rw [← hσ, List.getElem?_set_ne, List.getElem?_set_ne]
    · intro e2; subst e2; cases e
    · intro e2; subst e2; cases e⟩
  have C2 := C1.setp (i := 3) (s := .dcd (nums.map fun p => (p.1, D.int p.2))) (v := v) (dcd_ints ok) trivial
  rw [set_same g3] at C2
  have C2 : Sts K P _ (fun b => M b ∨ b ∈ as) L σ3 H2 (envF (.lst (boxes.map dBox)) (.lst (ends.map D.int)) none (some (.dcd (nums.map fun p => (p.1, D.int p.2)))) none none none none) := C2
  have fm0 : FamI K (fun b => M b ∨ b ∈ as) H2 D0 as ends (ends.map fun _ => []) 0 := by
    refine ⟨k2.k _ _ lD ad, by rw [List.length_map], by rw [List.length_map]; exact al, fun j a ds e1 e2 => ⟨[], ah2 a (List.mem_of_getElem? e1), ?_, ?_⟩⟩
    · rw [List.getElem?_map] at e2
      cases hj : ends[j]? with
      | none => rw [hj] at e2; cases e2
      | some z => rw [hj] at e2; cases e2; exact .nil
    · rw [List.getElem?_map] at e2
      cases hj : ends[j]? with
      | none => rw [hj] at e2; cases e2
      | some z => rw [hj] at e2; cases e2; exact Nat.le_refl _
  have na0 : a0 ∉ as := fun hm => by rw [(ah a0 hm).1] at h0; cases h0
  have la0 : ¬ L a0 := fun l => m0 (bsH.lm _ l)
  have q0 := k12.k a0 _ la0 h0
  refine ⟨.ref a0, g0, a0, rfl, ⟨vs0, .inl (.inl q0)⟩, for_list (K := K) (a := a0) (xs := vs0) (fun i σ' H' => ∃ rows c, FilI K P (fun a => F.H0 a = none) L (fun b => M b ∨ b ∈ as) H D0 as σ3 (envF (.lst (boxes.map dBox)) (.lst (ends.map D.int)) none (some (.dcd (nums.map fun p => (p.1, D.int p.2)))) none none none none) ends rows c σ' H' ∧ c ≤ i * 1000 ∧ rows = fillAll ends subs (boxes.take i)) ?_ (fun i σ' H' _ ⟨rows, c, p, _⟩ => .inl (.inl (p.up a0 _ na0 la0 h0))) ?_ ?_⟩
  · exact ⟨_, 0, ⟨C2, fun a o _ l e => k12.k a o l e, fm0, rfl, rfl, g2, rfl⟩, Nat.zero_le _, rfl⟩
  · rintro i x σ' H' hx ⟨rows, c, p, hc, er⟩
    obtain ⟨dx, hdx, ix⟩ := all0.getV hx
    rw [List.getElem?_map] at hdx
    cases hp : boxes[i]? with
    | none => rw [hp] at hdx; cases hdx
    | some b =>
      rw [hp] at hdx
      cases hdx
      have mem : b ∈ boxes := List.mem_of_getElem? hp
      have hi := (List.getElem?_eq_some_iff.mp hp).1
      obtain ⟨s1, s2⟩ := hsub b mem
      have kM : ∀ a o, H a = some o → ¬ M a → H' a = some o ∧ ¬ (M a ∨ a ∈ as) := fun a o e m => by
        have na : a ∉ as := fun hm => by rw [(ah a hm).1] at e; cases e
        exact ⟨p.up a o na (fun l => m (bsH.lm _ l)) e, fun q => q.elim m na⟩
      have tk := sqt_keep (K := K) (M := M) (fun a o m e => (kM a o e m).1) bsH.tr
      refine fill_box nd an (fun a ha => .inr ha) la (fun zs e => by cases e) lσ3 s2 ?_ p (hsl b mem) (Is.chg kM tk _ _ ix) fun σ2 H3 q => ⟨_, _, q, ?_, ?_⟩
      · have : i * 1000 ≤ 1000 * 1000 := Nat.mul_le_mul_right _ (by omega)
        omega
      · rw [Nat.add_mul]
        omega
      · rw [er]
        have et : boxes.take (i + 1) = boxes.take i ++ [b] := take_get hp
        unfold fillAll
        rw [et, List.foldl_append]
        rfl
  · rintro σ' H' ⟨rows, c, p, hc, er⟩
    rw [List.take_of_length_le (by omega)] at er
    subst er
    have kx : Kp L H H' := ⟨fun a o l e => p.up a o (fun hm => by rw [(ah a hm).1] at e; cases e) l e, p.st.bs.bag⟩
    have T0 : Stf K F P M L σ' H' (envF (.lst (boxes.map dBox)) (.lst (ends.map D.int)) none none none none none none) := by
      refine (S.kp' kx).loose p.st.len fun i s e => ⟨e, ?_⟩
      match i, e with
      | 0, e => exact p.s0.trans (g0.trans hv0.symm)
      | 1, e => exact p.s1.trans (g1.trans hv1.symm)
      | 2, e => cases e
      | 3, e => cases e
      | 4, e => cases e
      | 5, e => cases e
      | 6, e => cases e
      | 7, e => cases e
      | 8, e => cases e
      | 9, e => cases e
      | 10, e => cases e
      | 11, e => cases e
      | 12, e => cases e
      | 13, e => cases e
      | 14, e => cases e
      | i + 15, e => cases e
    have fl := p.fm.el
    have fa := p.fm.al
    have T1 := T0.has (i := 2) (s := .dcd (ends.zip ((fillAll ends subs boxes).map D.lst))) p.s2 ⟨D0, rfl, ends.zip (as.map V.ref), p.fm.dk, ?_, ?_⟩ trivial
    · obtain ⟨w, hw, okw⟩ := p.st.ok 3 _ rfl
      have T2 := T1.has (i := 3) (s := .dcd (nums.map fun p => (p.1, D.int p.2))) hw (dcd_ints okw) trivial
      exact h F P M L σ' H' T2 E o
    · have z1 : (ends.zip (as.map V.ref)).map Prod.fst = ends := fst_zip (by rw [List.length_map]; omega)
      have z2 : (ends.zip ((fillAll ends subs boxes).map D.lst)).map Prod.fst = ends := List.map_fst_zip (by rw [List.length_map]; omega)
      rw [z1, z2]
    · have z1 : (ends.zip (as.map V.ref)).map Prod.snd = as.map V.ref := List.map_snd_zip (by rw [List.length_map]; omega)
      have z2 : (ends.zip ((fillAll ends subs boxes).map D.lst)).map Prod.snd = (fillAll ends subs boxes).map D.lst := List.map_snd_zip (by rw [List.length_map]; omega)
      rw [z1, z2]
      exact fam_all (fun a m => .inl m) fa nM p.fm.row
end
end DL

set_option maxHeartbeats 2000000
namespace DL
open PySem PySem.Spec PyProof.Rows L2
variable [Tbl]
/-! ### a lambda is made: nothing but its table is written -/
/-- the function at f that a lambda makes -/
def LamO (f : Addr) (qual : Str) (params : Arguments) (body : Expr) (scope : Scope) (cl : List (Str × Addr)) (c' : Addr) : HO := .ext fun h => ∃ pm ctv, h.get? f = some (PySem.W.kla_obj "<lambda>" qual params body scope cl pm c' ctv)
theorem lamO_ok {P : Program} {w : World} {H : Hp} {h : Heap} {f c' : Addr} {qual : Str} {params : Arguments} {body : Expr} {scope : Scope} {cl : List (Str × Addr)} {pm ctv : Value} (e : h.get? f = some (PySem.W.kla_obj "<lambda>" qual params body scope cl pm c' ctv)) : ObjOk P w H h f (LamO f qual params body scope cl c') :=
  ⟨⟨pm, ctv, e⟩, ⟨_, e⟩, fun h1 h2 ⟨pm, ctv, z⟩ k => ⟨pm, ctv, k _ z⟩⟩
section
variable {X : Cx} {pins : List (Addr × Obj)} {σ : L2.St} {H : Hp} {s : Shared}
/-- a lambda is made and known -/
theorem lam_made {c P : Addr} {params : Arguments} {body : Expr} {scope : Scope} {pos : Pos} {E : Value → Shared → Prop} {Q : Value → Shared → Prop} (I : Inv X pins σ H s) (TB : LamX.TabB X.base X.mg c P) (hcode : X.env.code = .ref c)
    (hT : LamX.TabS H P (X.env.qual ++ "<lambda>")) (hdef : defaultsOf params X.env = ([], [])) (hfree : ∀ y ∈ scope.names, y.2 = .free → ∃ c, X.env.cells.lookup y.1 = some c)
    (h : ∀ (f c' : Addr) (H1 : Hp) (s' : Shared), Inv X pins σ (upd H1 f (LamO f (X.env.qual ++ "<lambda>") params body scope (cloFrom X.env.cells scope.names []) c')) s' → (∀ b o, b ≠ P → H b = some o → H1 b = some o) → LamX.TabS H1 P (X.env.qual ++ "<lambda>") →
      H1 f = none → H1 c' = some (LamX.CodeO c' (X.env.qual ++ "<lambda>")) → Q (.ref f) s') :
    wpAny (model X.prog X.w) X.A (eval (.Lambda params body scope pos) X.env) Q E s := by
  obtain ⟨ps, hP, ht, ha⟩ := hT
  have tabP : s.heap.get? P = some { cls := .none, data := .fields ps } := I.hok P _ hP
  refine PySem.W.kla_eval hdef ?_
  cases hc : codeAmong pos ps.toList with
  | some cv =>
    obtain ⟨c', rfl, hco⟩ := ha pos cv hc
    refine PySem.W.kla_makeFunctionHit (mg := X.mg) (closure_ok hfree) I.ok.glob (I.mod.glob.keeps I.bk) hcode (TB.code.keeps I.bk) tabP ht hc (TB.bm.keeps I.bk) fun ctv g tk hx hsz => ?_
    exact h g.objs.size c' H _ (I.laid (t' := tk) (fun b o e => Heap.get?_push_of_some _ (hx b o e)) hsz (lamO_ok (Heap.get?_push_size _ rfl))) (fun b o _ e => e) ⟨ps, hP, ht, ha⟩ (I.hok.fresh hsz) hco
  | none =>
    refine PySem.W.kla_makeFunction (mg := X.mg) (closure_ok hfree) I.ok.glob (I.mod.glob.keeps I.bk) hcode (TB.code.keeps I.bk) tabP ht hc TB.gP (TB.bm.keeps I.bk) fun c' ctv g tk hx hge hlt hrec htb => ?_
    obtain ⟨c2, oc, vs, t, e2, hoc, hd, hv⟩ := hrec
    cases e2
    have nC : H c' = none := I.hok.fresh hge
    have I1 := LamX.inv_table (t' := tk) (q := X.env.qual ++ "<lambda>") (more := #[rawInt pos.line, rawInt pos.col, .ref c']) (h' := g) I hP hx htb hge ⟨oc, vs, t, hoc, hd, hv⟩
    have keep : ∀ b o, b ≠ P → H b = some o → (upd (upd H P (.tbl (ps ++ #[rawInt pos.line, rawInt pos.col, .ref c']))) c' (LamX.CodeO c' (X.env.qual ++ "<lambda>"))) b = some o := fun b o n e => by
      rw [upd_ne (ne_of_none e nC), upd_ne n]
      exact e
    have eL : (ps ++ #[rawInt pos.line, rawInt pos.col, .ref c']).toList = ps.toList ++ [rawInt pos.line, rawInt pos.col, .ref c'] := by simp
    have nf := I1.hok.fresh (Nat.le_refl _)
    refine h g.objs.size c' _ _ (I1.laid (t' := tk) (fun b o e => Heap.get?_push_of_some _ e) (Nat.le_refl _) (lamO_ok (Heap.get?_push_size _ rfl))) keep ⟨_, by rw [upd_ne (ne_of_none hP nC), upd_same], by rw [eL]; exact PySem.TriplesOk_snoc _ _ _ _ ht, fun p' cv hcv => ?_⟩ nf upd_same
    rw [eL] at hcv
    rcases LamX.among_app _ ht hcv with z | z
    · obtain ⟨c0, e1, e2⟩ := ha p' cv z
      refine ⟨c0, e1, keep _ _ (fun w => ?_) e2⟩
      rw [w, hP] at e2
      exact LamX.codeO_ne ps (Option.some.inj e2).symm
    · exact ⟨c', z, upd_same⟩
/-- a lambda as a value: PT its maker's table -/
def tLam (PT : Addr) (cl : List (Str × Addr)) (qual : Str) (params : Arguments) (body : Expr) (scope : Scope) : TE := fun _ H Q => LamX.TabS H PT qual ∧ ∀ (f c' : Addr) (H1 : Hp), (∀ b o, b ≠ PT → H b = some o → H1 b = some o) → LamX.TabS H1 PT qual → H1 f = none → H1 c' = some (LamX.CodeO c' qual) → Q (.ref f) (upd H1 f (LamO f qual params body scope cl c'))
theorem pe_lam {c P : Addr} {params : Arguments} {body : Expr} {scope : Scope} {pos : Pos} (TB : LamX.TabB X.base X.mg c P) (hcode : X.env.code = .ref c) (hdef : defaultsOf params X.env = ([], [])) (hfree : ∀ y ∈ scope.names, y.2 = .free → ∃ c, X.env.cells.lookup y.1 = some c) :
    PE X (.Lambda params body scope pos) (tLam P (cloFrom X.env.cells scope.names []) (X.env.qual ++ "<lambda>") params body scope) :=
  ⟨fun pins s σ H Q I h => lam_made I TB hcode h.1 hdef hfree fun f c' H1 s' I1 k t n e => ⟨.ref f, _, I1, rfl, h.2 f c' H1 k t n e⟩⟩
end
end DL

set_option maxHeartbeats 2000000
namespace DL
open PySem PySem.Spec PyProof.Rows L2
/-! ### the call of lambda x: x[0] on a tuple -/
section
variable {P : Program} {w : World} {A : Around} {E : Value → Shared → Prop} {s : Shared}
theorem tup_at0 {e : Env} {x : Str} {p1 p2 p3 : Pos} {j : Nat} {m : Str → Option Value} {t : Addr} {its : Array Value} {v : Value} {Q : Value → Shared → Prop} (hk : e.scope.kind = .function) (hl : e.scope.names.lookup x = some .local) (hn : s.heap.Ns e.locals m) (hm : m x = some (.ref t)) (hd : (x == ("__debug__" : Str)) = false)
    (ht : s.heap.IsTuple t its) (h0 : its[0]? = some v) (h : ∀ k, Q v { s with toks := k }) : wpAny (model P w) A (eval (.Subscript (.Name x p1) (.Constant (.int 0) j p2) p3) e) Q E s := by
  refine Subscript_Constant (wpAny_Name (wpAny_loadName_local hk hl hn hm (wpAny_Constant_int ?_)) hd)
  have hz : 0 < its.size := (Array.getElem?_eq_some_iff.mp h0).1
  obtain ⟨o, ho, hc, n, hdt⟩ := id ht
  exact ⟨"tuple", _, PySem.F.slot_tuple_getitem.lookup, ⟨o, ho, hc⟩, PyProof.Rows.getItem_tuple (k := 0) (j := 0) ⟨o, ho, hc, n, hdt⟩ (by decide) (by decide) (by simp [seqIndex?, hz]) h0 (h _)⟩
theorem lam_call0 {f c' : Addr} {qual x : Str} {params : Arguments} {p1 p2 p3 : Pos} {j : Nat} {scope : Scope} {cl : List (Str × Addr)} {pm ctv : Value} {t : Addr} {its : Array Value} {v : Value} {Q : Value → Shared → Prop}
    (hroom : A.depth < recursionLimit) (ho : s.heap.get? f = some (PySem.W.kla_obj "<lambda>" qual params (.Subscript (.Name x p1) (.Constant (.int 0) j p2) p3) scope cl pm c' ctv)) (hrec : s.heap.CodeRec (.ref c') qual)
    (NL : ∀ g : Heap, (∀ b o, s.heap.get? b = some o → g.get? b = some o) → g.NoLimit)
    (hbind : bindArgs (PySem.W.kla_fn "<lambda>" qual params (.Subscript (.Name x p1) (.Constant (.int 0) j p2) p3) scope cl pm (.ref c') ctv) ⟨[.ref t], []⟩ = pure [(x, .ref t)])
    (hk : scope.kind = .function) (hl : scope.names.lookup x = some .local) (hc : ∀ y ∈ scope.names, y.2 ≠ .cell) (hco : scope.isCoroutine = false) (hgen : scope.isGenerator = false) (hd : (x == ("__debug__" : Str)) = false)
    (ht : s.heap.IsTuple t its) (h0 : its[0]? = some v) (h : ∀ g tk, (∀ b o, s.heap.get? b = some o → g.get? b = some o) → Q v { s with heap := g, toks := tk }) : wpAny (model P w) A (call (.ref f) [.ref t]) Q E s := by
  refine wpAny_call (PySem.W.kla_callFunE hroom ho rfl hco hgen rfl hrec ?_)
  rw [hbind]
  refine wpAny_pure (wpAny_newFunctionEnv hc (fun y hy => ?_) (fun g hns sb => ?_) hk)
  · rcases List.mem_singleton.mp hy with rfl
    exact hl
  have kp : ∀ b o, s.heap.get? b = some o → g.get? b = some o := fun b o e => sb.extBut b o (Nat.ne_of_lt (Heap.lt_size e)) (Heap.get?_push_of_some _ e)
  obtain ⟨o, e1, e2⟩ := ht
  exact ⟨NL g kp, PySem.W.kla_codeExpr (tup_at0 hk hl hns (by simp) hd ⟨o, kp _ _ e1, e2⟩ h0 fun k => h g k kp)⟩
end
end DL

set_option maxHeartbeats 2000000
namespace DL
open PySem PySem.Spec PyProof.Rows L2
variable [Tbl]
/-! ### sorted(xs, key=lambda x: x[0]), the firsts pairs of numbers -/
/-- an item: where it stands, where its first stands, the two numbers -/
structure KIt where
  t : Addr
  u : Addr
  f : Int
  m : Int
def KIt.at (K : PySem.W.Frag) (H : Hp) (p : KIt) : Prop := (∃ rest, SqT K H p.t (.ref p.u :: rest)) ∧ SqT K H p.u [.int p.f, .int p.m]
def KIt.key (p : KIt) : PyData := .tuple [.int p.f, .int p.m]
def KIt.le (p q : KIt) : Bool := decide (p.f < q.f ∨ (p.f = q.f ∧ p.m ≤ q.m))
def rSortLam (K : PySem.W.Frag) (qual : Str) (params : Arguments) (x : Str) (p1 p2 p3 : Pos) (j : Nat) (scope : Scope) (cl : List (Str × Addr)) : List V → List V → Hp → VK → Prop := fun xs zs H Q => ∃ (l f c' : Addr) (ts : List KIt), xs = [.ref l] ∧ zs = [.ref f] ∧ SqL K H l (ts.map fun p => .ref p.t) ∧ (∀ p ∈ ts, p.at K H) ∧
  H f = some (LamO f qual params (.Subscript (.Name x p1) (.Constant (.int 0) j p2) p3) scope cl c') ∧ H c' = some (LamX.CodeO c' qual) ∧ ∀ s, H s = none → Q (.ref s) (upd H s (.lst ((ts.mergeSort KIt.le).map fun p => .ref p.t)))
theorem each_ref : ∀ {ts : List KIt} {us : List Value}, Vals (ts.map fun p => V.ref p.t) us → PySem.W.EachIs (fun (v : Value) (p : KIt) => v = .ref p.t) us ts
  | [], _, .nil => .nil
  | p :: ts, _, .cons r t => by
    cases r
    exact .cons rfl (each_ref t)
theorem vals_each : ∀ {ts : List KIt} {us : List Value}, PySem.W.EachIs (fun (v : Value) (p : KIt) => v = .ref p.t) us ts → Vals (ts.map fun p => V.ref p.t) us
  | [], _, .nil => .nil
  | p :: ts, _, .cons r t => .cons r (vals_each t)
section
variable {X : Cx}
theorem cr_sortedLam {qual : Str} {params : Arguments} {x : Str} {p1 p2 p3 : Pos} {j k : Nat} {scope : Scope} {cl : List (Str × Addr)} (hr : Room k X.A)
    (hbind : ∀ (pm : Value) (c' t : Addr) (ctv : Value), bindArgs (PySem.W.kla_fn "<lambda>" qual params (.Subscript (.Name x p1) (.Constant (.int 0) j p2) p3) scope cl pm (.ref c') ctv) ⟨[.ref t], []⟩ = pure [(x, .ref t)])
    (hk : scope.kind = .function) (hl : scope.names.lookup x = some .local) (hc : ∀ y ∈ scope.names, y.2 ≠ .cell) (hco : scope.isCoroutine = false) (hgen : scope.isGenerator = false) (hd : (x == ("__debug__" : Str)) = false) :
    CallRK X (.builtin "sorted") [Str.ofString "key"] (rSortLam X.K qual params x p1 p2 p3 j scope cl) := by
  intro pins s σ H vs zs us ws Q I r rz h
  obtain ⟨l, f, c', ts, rfl, rfl, hs, hat, hf, hcc, q⟩ := h
  obtain rfl := Vals.ref1 r
  obtain ⟨w1, rfl, e1⟩ := vals1 rz
  cases e1
  obtain ⟨its, rv, pl, hz⟩ := I.list hs
  have un := hr.un
  have lenT : ts.length = its.length := by
    have := rv.length
    rwa [List.length_map] at this
  obtain ⟨⟨pm, ctv, fo⟩, _⟩ := (show ObjOk X.prog X.w H s.heap f (LamO f qual params _ scope cl c') from I.hok f _ hf)
  obtain ⟨⟨oc, cvs, ctk, co1, co2, co3⟩, _⟩ := (show ObjOk X.prog X.w H s.heap c' (LamX.CodeO c' qual) from I.hok c' _ hcc)
  refine PySem.W.sorted_key_data (b := false) KIt.key pl.isList (each_ref rv) (PySem.W.AllAlike.of fun _ _ => by simp [PySem.W.alike, PySem.W.alikeAll, KIt.key]) (PySem.W.Sortable.tuples fun _ => ⟨_, _, rfl⟩) (by rw [List.length_map] at hz; exact hz) (fun p _ => ?_) (PyProof.Rows.ksk_s1 _ _) (fun _ => PyProof.Rows.ksk_l1 _ _) (fun _ => PyProof.Rows.ksk_t1 _ _)
    (fun v p hv hp h tk kp => ?_) fun out c h' tk kp fresh hD hlen eo => ?_
  · have e : (KIt.key p).depth = 1 := by simp [KIt.key, PyData.depth, PyData.depthAll]
    rw [e]
    omega
  · subst hv
    obtain ⟨⟨rest, ht⟩, hu⟩ := hat p hp
    obtain ⟨i1, r1, q1, _⟩ := I.tuple ht
    obtain ⟨i2, r2, q2, _⟩ := I.tuple hu
    have t1 : s.heap.IsTuple p.t i1.toArray := q1
    obtain ⟨o1, g1, g2⟩ := t1
    cases r1 with
    | cons ra rb =>
    cases ra
    cases r2 with
    | cons rc rd =>
    cases rd with
    | cons re rf =>
    cases rf
    obtain ⟨t3, rfl⟩ := rc
    obtain ⟨t4, rfl⟩ := re
    have t2 : s.heap.IsTuple p.u [Value.int p.f t3, Value.int p.m t4].toArray := q2
    obtain ⟨o2, g3, g4, n2, g5⟩ := t2
    refine lam_call0 (s := { s with heap := h, toks := tk }) (its := (Value.ref p.u :: _).toArray) hr.depth (kp _ _ fo) ⟨c', oc, cvs, ctk, rfl, kp _ _ co1, co2, co3⟩ (fun g kg => I.nolimit.keeps fun b o e => kg b o (kp b o e)) (hbind pm c' p.t ctv) hk hl hc hco hgen hd ⟨o1, kp _ _ g1, g2⟩ rfl fun g tk2 kg => ⟨g, tk2, rfl, kg, ?_⟩
    exact .tuple (kg _ _ (kp _ _ g3)) g4 g5 (.cons (as := []) (bs := []) (.int p.f t3) (.cons (as := []) (bs := []) (.int p.m t4) .nil))
  · have le : PySem.W.dataLe false KIt.key = KIt.le := by
      have := PySem.W.dataLe_ii (β := KIt) (fun p => p.f) (fun p => p.m)
      exact this
    rw [le] at eo
    have rv2 := vals_each eo
    have hlen' : ((ts.mergeSort KIt.le).map fun p => V.ref p.t).length ≤ sizeLine := by
      rw [List.length_map, List.length_mergeSort]
      rw [List.length_map] at hz
      exact hz
    have nw := I.hok.fresh (Nat.le_succ _)
    exact ⟨.ref _, upd H (s.heap.objs.size + 1) (.lst ((ts.mergeSort KIt.le).map fun p => V.ref p.t)), I.laid (t' := tk) kp (Nat.le_succ _) ⟨hlen', out, c, rv2, hD⟩, rfl, q _ nw⟩
end
end DL

set_option maxHeartbeats 2000000
namespace DL
open PySem PySem.Spec PyProof.Rows L2
variable [Tbl]
/-- a thing whose first part is a pair of numbers -/
structure KD where
  f : Int
  m : Int
  r : List D
def KD.d (p : KD) : D := .tup (.tup [.int p.f, .int p.m] :: p.r)
def KD.le (p q : KD) : Bool := decide (p.f < q.f ∨ (p.f = q.f ∧ p.m ≤ q.m))
section
variable {K : PySem.W.Frag} {P : List Pin} {N L M : AP} {H0 H H1 : Hp} {σ : L2.St} {es : Env'} {ta : TE} {Q : SV → Prop}
theorem kd_at {v : V} {p : KD} (h : Is K M H v p.d) : ∃ q : KIt, v = .ref q.t ∧ q.at K H ∧ q.f = p.f ∧ q.m = p.m := by
  cases h with
  | @tup a vs _ h1 h2 =>
    cases h2 with
    | cons g1 g2 =>
      obtain ⟨u, rfl, hu⟩ := pair_at (p := (p.f, p.m)) g1
      exact ⟨⟨a, u, p.f, p.m⟩, rfl, ⟨⟨_, .inl (.inl h1)⟩, .inl (.inl hu)⟩, rfl, rfl⟩
  | tupK _ _ h => cases h
/-- the items' places, beside the data -/
theorem kds_at : ∀ {ps : List KD} {vs : List V}, IsAll K M H vs (ps.map KD.d) → ∃ zs : List (KIt × KD), zs.map (fun z => V.ref z.1.t) = vs ∧ zs.map Prod.snd = ps ∧ ∀ z ∈ zs, z.1.at K H ∧ z.1.f = z.2.f ∧ z.1.m = z.2.m ∧ Is K M H (.ref z.1.t) z.2.d
  | [], _, h => by
    cases h
    exact ⟨[], rfl, rfl, fun z hz => by cases hz⟩
  | p :: ps, _, h => by
    cases h with
    | cons h1 h2 =>
      obtain ⟨q, rfl, g1, g2, g3⟩ := kd_at h1
      obtain ⟨zs, e1, e2, e3⟩ := kds_at h2
      refine ⟨(q, p) :: zs, by rw [List.map_cons, e1], by rw [List.map_cons, e2], fun z hz => ?_⟩
      rcases List.mem_cons.mp hz with rfl | hz
      · exact ⟨g1, g2, g3, h1⟩
      · exact e3 z hz
theorem zs_all {zs : List (KIt × KD)} (h : ∀ z ∈ zs, Is K M H (.ref z.1.t) z.2.d) : IsAll K M H (zs.map fun z => V.ref z.1.t) (zs.map fun z => z.2.d) := by
  induction zs with
  | nil => exact .nil
  | cons z zs ih => exact .cons (h z (by simp)) (ih fun y hy => h y (List.mem_cons_of_mem _ hy))
theorem merge_fst {zs : List (KIt × KD)} (h : ∀ z ∈ zs, z.1.f = z.2.f ∧ z.1.m = z.2.m) : (zs.mergeSort fun a b => KIt.le a.1 b.1).map Prod.fst = (zs.map Prod.fst).mergeSort KIt.le ∧ (zs.mergeSort fun a b => KIt.le a.1 b.1).map Prod.snd = (zs.map Prod.snd).mergeSort KD.le := by
  refine ⟨(List.map_mergeSort fun a _ b _ => rfl), ?_⟩
  refine List.map_mergeSort fun a ha b hb => ?_
  obtain ⟨a1, a2⟩ := h a ha
  obtain ⟨b1, b2⟩ := h b hb
  simp only [KIt.le, KD.le, a1, a2, b1, b2]
/-- sorted(xs, key=lambda x: x[0]), the firsts pairs of numbers; PT is the table of the maker's code -/
theorem de_sortLam {PT : Addr} {cl : List (Str × Addr)} {qual : Str} {params : Arguments} {x : Str} {p1 p2 p3 : Pos} {j : Nat} {scope : Scope} (hT : (PT, qual) ∈ Tbl.T) (one : ∀ q', (PT, q') ∈ Tbl.T → q' = qual)
    (h : DE K ta es fun s => ∃ ps : List KD, s.dat = some (.lst (ps.map KD.d)) ∧ Q (.new ((ps.mergeSort KD.le).map KD.d))) :
    DE K (tCKw (rSortLam K qual params x p1 p2 p3 j scope cl) (tCons ta tNil) (tCons (tLam PT cl qual params (.Subscript (.Name x p1) (.Constant (.int 0) j p2) p3) scope) tNil)) es Q := fun P N M L σ H S R k => by
  refine h P N M L σ H S _ fun s v H1 k1 o1 q1 => ?_
  obtain ⟨ps, e, q⟩ := q1
  obtain ⟨a, vs, rfl, g1, m1, i1⟩ := o1.lstD S.bs e
  have b1 := (S.kp k1).bs
  have lP : L PT := b1.tb PT qual hT
  have tab := (b1.bag PT lP).tab hT one
  obtain ⟨zs, e1, e2, e3⟩ := kds_at i1
  refine ⟨tab, fun f c' H2 kp2 tab2 nf hc => ?_⟩
  have keep : ∀ b o, b ≠ PT → H1 b = some o → upd H2 f (LamO f qual params (.Subscript (.Name x p1) (.Constant (.int 0) j p2) p3) scope cl c') b = some o := fun b o n e => by
    rw [upd_ne (fun z => by rw [z] at e; have := kp2 f o (fun w => n (by rw [z]; exact w)) e; rw [nf] at this; cases this)]
    exact kp2 b o n e
  have nPf : PT ≠ f := fun z => by
    obtain ⟨pp, z2, _⟩ := tab2
    rw [z, nf] at z2
    cases z2
  have ncf : c' ≠ f := fun z => by rw [z, nf] at hc; cases hc
  generalize hH3 : upd H2 f (LamO f qual params (.Subscript (.Name x p1) (.Constant (.int 0) j p2) p3) scope cl c') = H3 at keep
  have k3 : Kp L H1 H3 := by
    refine ⟨fun b o nl e => keep b o (fun z => nl (by rw [z]; exact lP)) e, fun b lb => ?_⟩
    by_cases hb : b = PT
    · subst hb
      obtain ⟨pp, z1, z2, z3⟩ := tab2
      refine .inr ⟨qual, hT, pp, by rw [← hH3, upd_ne nPf]; exact z1, z2, fun pos cv hcv => ?_⟩
      obtain ⟨c, w1, w2⟩ := z3 pos cv hcv
      exact ⟨c, w1, by rw [← hH3, upd_ne (fun z => by rw [z, nf] at w2; cases w2)]; exact w2⟩
    · obtain ⟨o, eo, _⟩ := (b1.bag b lb).some
      refine (b1.bag b lb).keep (by rw [eo]; exact keep b o hb eo) fun c q ec => keep c _ (fun z => ?_) ec
      obtain ⟨pp, z1, _⟩ := tab
      rw [z, z1] at ec
      exact LamX.codeO_ne pp (Option.some.inj ec).symm
  have notT : ∀ {b : Addr} {o : HO}, H1 b = some o → (∀ pp, o ≠ .tbl pp) → b ≠ PT := fun {b o} e n z => by
    obtain ⟨pp, z1, _⟩ := tab
    rw [z, z1] at e
    exact n pp (Option.some.inj e).symm
  have sq3 : ∀ {b : Addr} {us : List V}, SqT K H1 b us → SqT K H3 b us := fun {b us} h => by
    rcases h with (h | ⟨o, h⟩) | h
    · exact .inl (.inl (keep b _ (notT h fun pp z => by cases z) h))
    · exact .inl (.inr ⟨o, keep b _ (notT h fun pp z => by cases z) h⟩)
    · exact .inr h
  refine ⟨a, f, c', zs.map Prod.fst, rfl, rfl, ?_, ?_, by rw [← hH3, upd_same], by rw [← hH3, upd_ne ncf]; exact hc, fun s hs => ?_⟩
  · refine .inl (.inl ?_)
    have em : (zs.map Prod.fst).map (fun p : KIt => V.ref p.t) = vs := by rw [List.map_map]; exact e1
    rw [em]
    exact keep a _ (notT g1 fun pp z => by cases z) g1
  · intro p hp
    obtain ⟨z, hz, rfl⟩ := List.mem_map.mp hp
    obtain ⟨⟨⟨rest, r1⟩, r2⟩, _⟩ := e3 z hz
    exact ⟨⟨rest, sq3 r1⟩, sq3 r2⟩
  · obtain ⟨m1, m2⟩ := merge_fst (zs := zs) fun z hz => ⟨(e3 z hz).2.1, (e3 z hz).2.2.1⟩
    have ia : IsAll K M H3 (((zs.map Prod.fst).mergeSort KIt.le).map fun p => V.ref p.t) ((ps.mergeSort KD.le).map KD.d) := by
      rw [← m1, ← e2, ← m2, List.map_map, List.map_map]
      exact zs_all fun z hz => Is.kp k3 b1 (e3 z (List.mem_mergeSort.mp hz)).2.2.2
    obtain ⟨kn, ok⟩ := new_of (N := N) S.bs (k1.trans k3) hs ia
    exact k _ _ _ ((k1.trans k3).trans kn) ok q
end
end DL

namespace DL
open PySem PySem.Spec PyProof.Rows L2
variable [Tbl]
/-! ### what the strips hold -/
theorem fillOne_len {ends : List Int} {d : D} : ∀ {sub : List Int} {rows : List (List D)}, ends.length = rows.length → (fillOne ends sub d rows).length = rows.length
  | [], _, _ => rfl
  | x :: sub, rows, h => by
    show (fillOne ends sub d (addAt ends rows x d)).length = _
    rw [fillOne_len (by rw [addAt_len h]; exact h), addAt_len h]
theorem fillOne_get {ends : List Int} {d : D} {j : Nat} {e : Int} (he : ends[j]? = some e) : ∀ {sub : List Int} {rows : List (List D)} {ds : List D}, sub.Nodup → ends.length = rows.length → rows[j]? = some ds → (fillOne ends sub d rows)[j]? = some (if e ∈ sub then ds ++ [d] else ds)
  | [], rows, ds, _, _, h => by
    rw [if_neg (by simp)]
    exact h
  | x :: sub, rows, ds, nd, hl, h => by
    obtain ⟨n1, n2⟩ := List.nodup_cons.mp nd
    show (fillOne ends sub d (addAt ends rows x d))[j]? = _
    rw [fillOne_get he n2 (by rw [addAt_len hl]; exact hl) (addAt_get he h)]
    by_cases hx : e = x
    · subst hx
      simp [n1]
    · simp [hx]
/-- the strip at an edge: the boxes whose edges hold it, in order -/
theorem fillAll_get {ends : List Int} {subs : Int × Int → List Int} {j : Nat} {e : Int} (he : ends[j]? = some e) : ∀ (boxes : List (((Int × Int) × D) × D)) (rows : List (List D)) (ds : List D), (∀ b ∈ boxes, (subs b.1.1).Nodup) → ends.length = rows.length → rows[j]? = some ds →
    (boxes.foldl (fun rs b => fillOne ends (subs b.1.1) (.tup [b.1.2, b.2]) rs) rows)[j]? = some (ds ++ (boxes.filter fun b => decide (e ∈ subs b.1.1)).map fun b => .tup [b.1.2, b.2])
  | [], rows, ds, _, _, h => by simpa using h
  | b :: boxes, rows, ds, nd, hl, h => by
    have n1 := nd b (by simp)
    have h1 := fillOne_get (d := .tup [b.1.2, b.2]) he n1 hl h
    have l1 : (fillOne ends (subs b.1.1) (.tup [b.1.2, b.2]) rows).length = rows.length := fillOne_len hl
    show (boxes.foldl _ (fillOne ends (subs b.1.1) (.tup [b.1.2, b.2]) rows))[j]? = _
    rw [fillAll_get he boxes _ _ (fun c hc => nd c (List.mem_cons_of_mem _ hc)) (by rw [l1]; exact hl) h1]
    by_cases hx : e ∈ subs b.1.1
    · simp [hx]
    · simp [hx]
theorem strip_get {ends : List Int} {subs : Int × Int → List Int} {boxes : List (((Int × Int) × D) × D)} {j : Nat} {e : Int} (nd : ∀ b ∈ boxes, (subs b.1.1).Nodup) (he : ends[j]? = some e) :
    (fillAll ends subs boxes)[j]? = some ((boxes.filter fun b => decide (e ∈ subs b.1.1)).map fun b => .tup [b.1.2, b.2]) := by
  have := fillAll_get he boxes (ends.map fun _ => []) [] nd (by rw [List.length_map]) (by rw [List.getElem?_map, he]; rfl)
  simpa [fillAll] using this
/-! ### numbers and slices of a rising list -/
/-- the edges from one up to another -/
def between (ends : List Int) (p : Int × Int) : List Int := ends.filter fun e => decide (p.1 ≤ e ∧ e < p.1 + p.2)
theorem rising_take {ends : List Int} (h : ends.Pairwise (· < ·)) {i : Nat} {x : Int} (hi : ends[i]? = some x) : ends.take i = ends.filter fun e => decide (e < x) := by
  induction ends generalizing i with
  | nil => cases hi
  | cons e ends ih =>
    obtain ⟨h1, h2⟩ := List.pairwise_cons.mp h
    cases i with
    | zero =>
      cases hi
      rw [List.take_zero, List.filter_cons_of_neg (by simp)]
      symm
      rw [List.filter_eq_nil_iff]
      intro y hy
      have := h1 y hy
      simp only [decide_eq_true_eq]
      omega
    | succ i =>
      have hx : ends[i]? = some x := hi
      have : e < x := h1 x (List.mem_of_getElem? hx)
      rw [List.take_succ_cons, List.filter_cons_of_pos (by simpa using this), ih h2 hx]
theorem rising_slice {ends : List Int} (h : ends.Pairwise (· < ·)) {i k : Nat} {x y : Int} (hi : ends[i]? = some x) (hk : ends[k]? = some y) (xy : x ≤ y) : (ends.take k).drop i = ends.filter fun e => decide (x ≤ e ∧ e < y) := by
  have ik : i ≤ k := by
    refine Nat.le_of_not_lt fun q => ?_
    have := List.pairwise_iff_getElem.mp h k i (List.getElem?_eq_some_iff.mp hk).1 (List.getElem?_eq_some_iff.mp hi).1 q
    rw [(List.getElem?_eq_some_iff.mp hk).2, (List.getElem?_eq_some_iff.mp hi).2] at this
    omega
  have e1 := rising_take h hk
  have e2 := rising_take h hi
  have e3 : (ends.take k).take i = ends.take i := by rw [List.take_take, Nat.min_eq_left ik]
  have e4 : ends.take k = ends.take i ++ (ends.take k).drop i := by rw [← e3, List.take_append_drop]
  have e5 : (ends.take k).filter (fun e => decide (x ≤ e)) = ends.filter fun e => decide (x ≤ e ∧ e < y) := by
    rw [e1, List.filter_filter]
    congr 1
    funext e
    simp
  rw [← e5, e4, List.filter_append]
  have z1 : (ends.take i).filter (fun e => decide (x ≤ e)) = [] := by
    rw [e2, List.filter_filter, List.filter_eq_nil_iff]
    intro y hy
    simp only [Bool.and_eq_true, decide_eq_true_eq]
    omega
  rw [z1, List.nil_append]
  symm
  rw [List.filter_eq_self.mpr]
  · rw [← e4]
  · intro z hz
    obtain ⟨n, hn⟩ := List.mem_iff_getElem?.mp hz
    rw [List.getElem?_drop, List.getElem?_take] at hn
    by_cases q : i + n < k
    · rw [if_pos q] at hn
      rcases Nat.eq_zero_or_pos n with rfl | hp
      · rw [Nat.add_zero, hi] at hn
        cases hn
        simp
      · have := List.pairwise_iff_getElem.mp h i (i + n) (List.getElem?_eq_some_iff.mp hi).1 (List.getElem?_eq_some_iff.mp hn).1 (by omega)
        rw [(List.getElem?_eq_some_iff.mp hi).2, (List.getElem?_eq_some_iff.mp hn).2] at this
        simp only [decide_eq_true_eq]
        omega
    · rw [if_neg q] at hn
      cases hn
end DL

namespace DL
open PySem PySem.Spec PyProof.Rows L2
variable [Tbl]
/-! ### what joined keeps: the cells with their worths, and how many they are -/
def RowHas (rs : List Row3) (c : Int) (w : D) : Prop := ∃ r ∈ rs, r.x ≤ c ∧ c < r.y ∧ r.d = w
def rowsMany (rs : List Row3) : Int := (rs.map fun r => r.y - r.x).sum
theorem join_has {eqv : D → D → Bool} (hx : ∀ a b, eqv a b = true → a = b) {rs : List Row3} {f m : Int} {v : V} {d : D} (ok : ∀ r ∈ rs, r.x < r.y) (hm : 0 < m) :
    (∀ r ∈ joinStep eqv rs f m v d, r.x < r.y) ∧ (∀ c w, RowHas (joinStep eqv rs f m v d) c w ↔ RowHas rs c w ∨ (f ≤ c ∧ c < f + m ∧ d = w)) ∧ rowsMany (joinStep eqv rs f m v d) = rowsMany rs + m := by
  have new : (∀ r ∈ (⟨f, f + m, v, d⟩ :: rs : List Row3), r.x < r.y) ∧ (∀ c w, RowHas (⟨f, f + m, v, d⟩ :: rs) c w ↔ RowHas rs c w ∨ (f ≤ c ∧ c < f + m ∧ d = w)) ∧ rowsMany (⟨f, f + m, v, d⟩ :: rs) = rowsMany rs + m := by
    refine ⟨fun r hr => ?_, fun c w => ⟨?_, ?_⟩, ?_⟩
    · rcases List.mem_cons.mp hr with rfl | hr
      · show f < f + m
        omega
      · exact ok r hr
    · rintro ⟨r, hr, h1, h2, h3⟩
      rcases List.mem_cons.mp hr with rfl | hr
      · exact .inr ⟨h1, h2, h3⟩
      · exact .inl ⟨r, hr, h1, h2, h3⟩
    · rintro (⟨r, hr, h⟩ | h)
      · exact ⟨r, List.mem_cons_of_mem _ hr, h⟩
      · exact ⟨_, List.mem_cons_self, h⟩
    · simp only [rowsMany, List.map_cons, List.sum_cons]
      omega
  cases rs with
  | nil => exact new
  | cons p tl =>
    by_cases h : p.y = f ∧ eqv p.d d = true
    · have e : joinStep eqv (p :: tl) f m v d = ⟨p.x, f + m, p.v, p.d⟩ :: tl := if_pos h
      obtain ⟨h1, h2⟩ := h
      have h3 := hx _ _ h2
      have pk := ok p (by simp)
      rw [e]
      refine ⟨fun r hr => ?_, fun c w => ⟨?_, ?_⟩, ?_⟩
      · rcases List.mem_cons.mp hr with rfl | hr
        · show p.x < f + m
          omega
        · exact ok r (List.mem_cons_of_mem _ hr)
      · rintro ⟨r, hr, g1, g2, g3⟩
        rcases List.mem_cons.mp hr with rfl | hr
        · have g1 : p.x ≤ c := g1
          have g2 : c < f + m := g2
          have g3 : p.d = w := g3
          by_cases q : c < f
          · exact .inl ⟨p, by simp, g1, by omega, g3⟩
          · exact .inr ⟨by omega, g2, by rw [← h3]; exact g3⟩
        · exact .inl ⟨r, List.mem_cons_of_mem _ hr, g1, g2, g3⟩
      · rintro (⟨r, hr, g1, g2, g3⟩ | ⟨g1, g2, g3⟩)
        · rcases List.mem_cons.mp hr with rfl | hr
          · exact ⟨_, List.mem_cons_self, g1, (by show c < f + m; omega), g3⟩
          · exact ⟨r, List.mem_cons_of_mem _ hr, g1, g2, g3⟩
        · exact ⟨_, List.mem_cons_self, (by show p.x ≤ c; omega), g2, by show p.d = w; rw [h3]; exact g3⟩
      · simp only [rowsMany, List.map_cons, List.sum_cons]
        omega
    · have e : joinStep eqv (p :: tl) f m v d = ⟨f, f + m, v, d⟩ :: p :: tl := if_neg h
      rw [e]
      exact new
theorem runs_has {eqv : D → D → Bool} (hx : ∀ a b, eqv a b = true → a = b) : ∀ (ps : List ((Int × Int) × D)) (rs : List Row3), (∀ r ∈ rs, r.x < r.y) → (∀ p ∈ ps, 0 < p.1.2) →
    (∀ r ∈ ps.foldl (fun rs p => joinStep eqv rs p.1.1 p.1.2 .non p.2) rs, r.x < r.y) ∧ (∀ c w, RowHas (ps.foldl (fun rs p => joinStep eqv rs p.1.1 p.1.2 .non p.2) rs) c w ↔ RowHas rs c w ∨ ∃ p ∈ ps, p.1.1 ≤ c ∧ c < p.1.1 + p.1.2 ∧ p.2 = w) ∧
    rowsMany (ps.foldl (fun rs p => joinStep eqv rs p.1.1 p.1.2 .non p.2) rs) = rowsMany rs + (ps.map fun p => p.1.2).sum
  | [], rs, ok, _ => ⟨ok, fun c w => ⟨.inl, fun h => h.elim id fun ⟨p, hp, _⟩ => by cases hp⟩, by simp⟩
  | p :: ps, rs, ok, hm => by
    obtain ⟨a1, a2, a3⟩ := join_has hx (v := .non) (f := p.1.1) (d := p.2) ok (hm p (by simp))
    obtain ⟨b1, b2, b3⟩ := runs_has hx ps _ a1 fun q hq => hm q (List.mem_cons_of_mem _ hq)
    refine ⟨b1, fun c w => ?_, ?_⟩
    · rw [List.foldl_cons, b2, a2]
      constructor
      · rintro ((h | h) | ⟨q, hq, h⟩)
        · exact .inl h
        · exact .inr ⟨p, by simp, h⟩
        · exact .inr ⟨q, List.mem_cons_of_mem _ hq, h⟩
      · rintro (h | ⟨q, hq, h⟩)
        · exact .inl (.inl h)
        · rcases List.mem_cons.mp hq with rfl | hq
          · exact .inl (.inr h)
          · exact .inr ⟨q, hq, h⟩
    · rw [List.foldl_cons, b3, a3, List.map_cons, List.sum_cons]
      omega
/-- what joined tells, as stretches with worths -/
def joinOut (eqv : D → D → Bool) (ps : List ((Int × Int) × D)) : List ((Int × Int) × D) := (runsD eqv ps).reverse.map fun r => ((r.x, r.y - r.x), r.d)
theorem joinOut_ok {eqv : D → D → Bool} (hx : ∀ a b, eqv a b = true → a = b) {ps : List ((Int × Int) × D)} (hm : ∀ p ∈ ps, 0 < p.1.2) :
    (∀ q ∈ joinOut eqv ps, 0 < q.1.2) ∧ (∀ c w, (∃ q ∈ joinOut eqv ps, q.1.1 ≤ c ∧ c < q.1.1 + q.1.2 ∧ q.2 = w) ↔ ∃ p ∈ ps, p.1.1 ≤ c ∧ c < p.1.1 + p.1.2 ∧ p.2 = w) ∧ ((joinOut eqv ps).map fun q => q.1.2).sum = (ps.map fun p => p.1.2).sum := by
  obtain ⟨a1, a2, a3⟩ := runs_has hx ps [] (fun _ h => by cases h) hm
  refine ⟨fun q hq => ?_, fun c w => ?_, ?_⟩
  · obtain ⟨r, hr, rfl⟩ := List.mem_map.mp hq
    have := a1 r (List.mem_reverse.mp hr)
    show 0 < r.y - r.x
    omega
  · have := a2 c w
    have no : ¬ RowHas [] c w := fun ⟨_, h, _⟩ => by cases h
    constructor
    · rintro ⟨q, hq, h1, h2, h3⟩
      obtain ⟨r, hr, rfl⟩ := List.mem_map.mp hq
      have h2 : c < r.x + (r.y - r.x) := h2
      exact (this.mp ⟨r, List.mem_reverse.mp hr, h1, by omega, h3⟩).elim (fun z => absurd z no) id
    · intro h
      obtain ⟨r, hr, h1, h2, h3⟩ := this.mpr (.inr h)
      exact ⟨_, List.mem_map.mpr ⟨r, List.mem_reverse.mpr hr, rfl⟩, h1, (by show c < r.x + (r.y - r.x); omega), h3⟩
  · have e : (joinOut eqv ps).map (fun q => q.1.2) = ((runsD eqv ps).map fun r => r.y - r.x).reverse := by
      unfold joinOut
      rw [List.map_map, ← List.map_reverse]
      rfl
    rw [e, List.sum_reverse]
    have z : rowsMany (runsD eqv ps) = rowsMany [] + (ps.map fun p => p.1.2).sum := a3
    have z0 : rowsMany [] = 0 := rfl
    rw [z0, Int.zero_add] at z
    exact z
end DL

namespace DL
open PySem PySem.Spec PyProof.Rows L2
variable [Tbl]
/-! ### sheets: what the rows tell -/
abbrev Box := (Int × Int) × (Int × Int) × D
def inS (c : Int) (p : Int × Int) : Prop := p.1 ≤ c ∧ c < p.1 + p.2
/-- the edges: rising, with all that boxes begin or end with -/
structure Edges (boxes : List Box) (os : List Int) : Prop where
  rise : os.Pairwise (· < ·)
  has : ∀ b ∈ boxes, b.1.1 ∈ os ∧ b.1.1 + b.1.2 ∈ os
/-- between two neighbours there is no edge -/
theorem no_between {os : List Int} (h : os.Pairwise (· < ·)) {j : Nat} {a b e : Int} (ha : os[j]? = some a) (hb : os[j + 1]? = some b) (he : e ∈ os) : e ≤ a ∨ b ≤ e := by
  obtain ⟨i, hi⟩ := List.mem_iff_getElem?.mp he
  have la := List.getElem?_eq_some_iff.mp ha
  have lb := List.getElem?_eq_some_iff.mp hb
  have le := List.getElem?_eq_some_iff.mp hi
  rcases Nat.lt_trichotomy i j with q | q | q
  · have := List.pairwise_iff_getElem.mp h i j le.1 la.1 q
    rw [le.2, la.2] at this
    exact .inl (by omega)
  · subst q
    rw [ha] at hi
    cases hi
    exact .inl (by omega)
  · rcases Nat.lt_or_ge (j + 1) i with r | r
    · have := List.pairwise_iff_getElem.mp h (j + 1) i lb.1 le.1 r
      rw [lb.2, le.2] at this
      exact .inr (by omega)
    · have e : i = j + 1 := by omega
      subst e
      rw [hb] at hi
      cases hi
      exact .inr (by omega)
/-- a box holds a cell just when it holds the edge ahead of it -/
theorem box_edge {boxes : List Box} {os : List Int} (E : Edges boxes os) {b : Box} (hb : b ∈ boxes) {j : Nat} {a c x : Int} (ha : os[j]? = some a) (hc : os[j + 1]? = some c) (h1 : a ≤ x) (h2 : x < c) : inS x b.1 ↔ inS a b.1 := by
  obtain ⟨e1, e2⟩ := E.has b hb
  have n1 := no_between E.rise ha hc e1
  have n2 := no_between E.rise ha hc e2
  unfold inS
  constructor
  · rintro ⟨g1, g2⟩
    omega
  · rintro ⟨g1, g2⟩
    omega
/-- the place of a cell among the edges -/
theorem edge_of {os : List Int} (h : os.Pairwise (· < ·)) {lo hi x : Int} (h1 : lo ∈ os) (h2 : hi ∈ os) (l : lo ≤ x) (r : x < hi) : ∃ (j : Nat) (a c : Int), os[j]? = some a ∧ os[j + 1]? = some c ∧ a ≤ x ∧ x < c := by
  induction os with
  | nil => cases h1
  | cons e os ih =>
    obtain ⟨p1, p2⟩ := List.pairwise_cons.mp h
    cases os with
    | nil =>
      have a1 : lo = e := by simpa using h1
      have a2 : hi = e := by simpa using h2
      omega
    | cons e2 os =>
      by_cases q : x < e2
      · refine ⟨0, e, e2, rfl, rfl, ?_, q⟩
        rcases List.mem_cons.mp h1 with z | z
        · omega
        · have := p1 lo z
          omega
      · have l2 : ∃ lo', lo' ∈ e2 :: os ∧ lo' ≤ x := ⟨e2, by simp, by omega⟩
        obtain ⟨lo', m1, m2⟩ := l2
        have m3 : hi ∈ e2 :: os := by
          rcases List.mem_cons.mp h2 with z | z
          · have := p1 e2 (by simp)
            omega
          · exact z
        -- the tail
        have : ∃ (j : Nat) (a c : Int), (e2 :: os)[j]? = some a ∧ (e2 :: os)[j + 1]? = some c ∧ a ≤ x ∧ x < c := by
          by_cases hz : lo ∈ e2 :: os
          · exact ih p2 hz m3
          · clear ih h1 hz
            have key : ∀ (os : List Int) (e : Int), (e :: os).Pairwise (· < ·) → e ≤ x → hi ∈ e :: os → ∃ (j : Nat) (a c : Int), (e :: os)[j]? = some a ∧ (e :: os)[j + 1]? = some c ∧ a ≤ x ∧ x < c := by
              intro os
              induction os with
              | nil =>
                intro e _ g1 g2
                have : hi = e := by simpa using g2
                omega
              | cons y os ih =>
                intro e g0 g1 g2
                by_cases q : x < y
                · exact ⟨0, e, y, rfl, rfl, g1, q⟩
                · have g3 : hi ∈ y :: os := by
                    rcases List.mem_cons.mp g2 with z | z
                    · omega
                    · exact z
                  obtain ⟨j, a, c, w1, w2, w3⟩ := ih y (List.pairwise_cons.mp g0).2 (by omega) g3
                  exact ⟨j + 1, a, c, w1, w2, w3⟩
            exact key os e2 p2 (by omega) m3
        obtain ⟨j, a, c, w1, w2, w3⟩ := this
        exact ⟨j + 1, a, c, w1, w2, w3⟩
end DL

namespace DL
open PySem PySem.Spec PyProof.Rows L2
variable [Tbl]
/-! ### the rows of boxes -/
abbrev Part := (Int × Int) × D
def leP (p q : Part) : Bool := decide (p.1.1 < q.1.1 ∨ (p.1.1 = q.1.1 ∧ p.1.2 ≤ q.1.2))
def stripF (boxes : List Box) (a : Int) : List Part := (boxes.filter fun b => decide (b.1.1 ≤ a ∧ a < b.1.1 + b.1.2)).map fun b => (b.2.1, b.2.2)
def partsF (eqv : D → D → Bool) (boxes : List Box) (a : Int) : List Part := joinOut eqv ((stripF boxes a).mergeSort leP)
def dParts (ps : List Part) : D := .tup (ps.map dPiece)
def piecesF (eqv : D → D → Bool) (boxes : List Box) (os : List Int) : List Part := (os.zip os.tail).filterMap fun z => if partsF eqv boxes z.1 = [] then none else some ((z.1, z.2 - z.1), dParts (partsF eqv boxes z.1))
def rowsF (eqv : D → D → Bool) (boxes : List Box) (os : List Int) : List Part := joinOut eqv (piecesF eqv boxes os)
theorem dPiece_inj {p q : Part} (h : dPiece p = dPiece q) : p = q := by
  obtain ⟨⟨a, b⟩, c⟩ := p
  obtain ⟨⟨a', b'⟩, c'⟩ := q
  unfold dPiece at h
  injection h with h
  injection h with h1 h2
  injection h1 with h1
  injection h1 with h3 h4
  injection h3 with h3
  injection h4 with h4 _
  injection h4 with h4
  injection h2 with h2 _
  simp only at h3 h4 h2
  rw [h3, h4, h2]
theorem dParts_inj {ps qs : List Part} (h : dParts ps = dParts qs) : ps = qs := by
  unfold dParts at h
  injection h with h
  induction ps generalizing qs with
  | nil =>
    cases qs with
    | nil => rfl
    | cons _ _ => cases h
  | cons p ps ih =>
    cases qs with
    | nil => cases h
    | cons q qs =>
      rw [List.map_cons, List.map_cons] at h
      injection h with h1 h2
      rw [dPiece_inj h1, ih h2]
theorem mem_strip {boxes : List Box} {a : Int} {p : Part} : p ∈ stripF boxes a ↔ ∃ b ∈ boxes, inS a b.1 ∧ p = (b.2.1, b.2.2) := by
  unfold stripF inS
  constructor
  · intro h
    obtain ⟨b, hb, rfl⟩ := List.mem_map.mp h
    obtain ⟨h1, h2⟩ := List.mem_filter.mp hb
    exact ⟨b, h1, of_decide_eq_true h2, rfl⟩
  · rintro ⟨b, h1, h2, rfl⟩
    exact List.mem_map.mpr ⟨b, List.mem_filter.mpr ⟨h1, decide_eq_true h2⟩, rfl⟩
structure Plain (boxes : List Box) : Prop where
  pos : ∀ b ∈ boxes, 0 < b.1.2 ∧ 0 < b.2.1.2
theorem parts_ok {eqv : D → D → Bool} (hx : ∀ a b, eqv a b = true → a = b) {boxes : List Box} (pl : Plain boxes) (a : Int) :
    (∀ q ∈ partsF eqv boxes a, 0 < q.1.2) ∧ (∀ y w, (∃ q ∈ partsF eqv boxes a, inS y q.1 ∧ q.2 = w) ↔ ∃ b ∈ boxes, inS a b.1 ∧ inS y b.2.1 ∧ b.2.2 = w) := by
  have pos : ∀ p ∈ (stripF boxes a).mergeSort leP, 0 < p.1.2 := fun p hp => by
    obtain ⟨b, hb, _, rfl⟩ := mem_strip.mp (List.mem_mergeSort.mp hp)
    exact (pl.pos b hb).2
  obtain ⟨h1, h2, _⟩ := joinOut_ok hx pos
  refine ⟨h1, fun y w => ?_⟩
  have := h2 y w
  constructor
  · rintro ⟨q, hq, ⟨g1, g2⟩, g3⟩
    obtain ⟨p, hp, w1, w2, w3⟩ := this.mp ⟨q, hq, g1, g2, g3⟩
    obtain ⟨b, hb, ia, rfl⟩ := mem_strip.mp (List.mem_mergeSort.mp hp)
    exact ⟨b, hb, ia, ⟨w1, w2⟩, w3⟩
  · rintro ⟨b, hb, ia, ⟨w1, w2⟩, w3⟩
    obtain ⟨q, hq, g1, g2, g3⟩ := this.mpr ⟨(b.2.1, b.2.2), List.mem_mergeSort.mpr (mem_strip.mpr ⟨b, hb, ia, rfl⟩), w1, w2, w3⟩
    exact ⟨q, hq, ⟨g1, g2⟩, g3⟩
theorem mem_neigh {os : List Int} {z : Int × Int} : z ∈ os.zip os.tail ↔ ∃ j : Nat, os[j]? = some z.1 ∧ os[j + 1]? = some z.2 := by
  constructor
  · intro h
    obtain ⟨j, hj⟩ := List.mem_iff_getElem?.mp h
    obtain ⟨h1, h2⟩ := List.getElem?_zip_eq_some.mp hj
    rw [List.getElem?_tail] at h2
    exact ⟨j, h1, h2⟩
  · rintro ⟨j, h1, h2⟩
    exact List.mem_of_getElem? (i := j) (List.getElem?_zip_eq_some.mpr ⟨h1, by rw [List.getElem?_tail]; exact h2⟩)
theorem mem_piece {eqv : D → D → Bool} {boxes : List Box} {os : List Int} {q : Part} : q ∈ piecesF eqv boxes os ↔ ∃ (j : Nat) (a c : Int), os[j]? = some a ∧ os[j + 1]? = some c ∧ partsF eqv boxes a ≠ [] ∧ q = ((a, c - a), dParts (partsF eqv boxes a)) := by
  unfold piecesF
  constructor
  · intro h
    obtain ⟨z, hz, e⟩ := List.mem_filterMap.mp h
    obtain ⟨j, h1, h2⟩ := mem_neigh.mp hz
    by_cases n : partsF eqv boxes z.1 = []
    · rw [if_pos n] at e
      cases e
    · rw [if_neg n] at e
      cases e
      exact ⟨j, _, _, h1, h2, n, rfl⟩
  · rintro ⟨j, a, c, h1, h2, n, rfl⟩
    exact List.mem_filterMap.mpr ⟨(a, c), mem_neigh.mpr ⟨j, h1, h2⟩, by rw [if_neg n]⟩
/-- what a pair's value is, by the rows -/
theorem rows_ok {eqv : D → D → Bool} (hx : ∀ a b, eqv a b = true → a = b) {boxes : List Box} (pl : Plain boxes) {os : List Int} (E : Edges boxes os) :
    (∀ q ∈ rowsF eqv boxes os, 0 < q.1.2 ∧ ∃ a, q.2 = dParts (partsF eqv boxes a)) ∧ ∀ x y w, (∃ q ∈ rowsF eqv boxes os, inS x q.1 ∧ ∃ ps, q.2 = dParts ps ∧ ∃ p ∈ ps, inS y p.1 ∧ p.2 = w) ↔ ∃ b ∈ boxes, inS x b.1 ∧ inS y b.2.1 ∧ b.2.2 = w := by
  have pos : ∀ p ∈ piecesF eqv boxes os, 0 < p.1.2 := fun p hp => by
    obtain ⟨j, a, c, h1, h2, _, rfl⟩ := mem_piece.mp hp
    have la := List.getElem?_eq_some_iff.mp h1
    have lc := List.getElem?_eq_some_iff.mp h2
    have := List.pairwise_iff_getElem.mp E.rise j (j + 1) la.1 lc.1 (by omega)
    rw [la.2, lc.2] at this
    show 0 < c - a
    omega
  obtain ⟨h1, h2, _⟩ := joinOut_ok hx pos
  refine ⟨fun q hq => ⟨h1 q hq, ?_⟩, fun x y w => ?_⟩
  · have hq0 := h1 q hq
    obtain ⟨p, hp, _, _, e⟩ := (h2 q.1.1 q.2).mp ⟨q, hq, Int.le_refl _, by omega, rfl⟩
    obtain ⟨j, a, c, _, _, _, rfl⟩ := mem_piece.mp hp
    exact ⟨a, e.symm⟩
  · constructor
    · rintro ⟨q, hq, ⟨g1, g2⟩, ps, e, p, hp, g3, g4⟩
      obtain ⟨pc, hpc, w1, w2, w3⟩ := (h2 x q.2).mp ⟨q, hq, g1, g2, rfl⟩
      obtain ⟨j, a, c, k1, k2, _, rfl⟩ := mem_piece.mp hpc
      have ep : partsF eqv boxes a = ps := dParts_inj (w3.trans e)
      subst ep
      obtain ⟨b, hb, ia, r1, r2⟩ := ((parts_ok hx pl a).2 y w).mp ⟨p, hp, g3, g4⟩
      have w2 : x < a + (c - a) := w2
      exact ⟨b, hb, (box_edge E hb k1 k2 w1 (by omega)).mpr ia, r1, r2⟩
    · rintro ⟨b, hb, ix, iy, e⟩
      obtain ⟨e1, e2⟩ := E.has b hb
      obtain ⟨j, a, c, k1, k2, w1, w2⟩ := edge_of E.rise e1 e2 ix.1 ix.2
      have ia := (box_edge E hb k1 k2 w1 w2).mp ix
      obtain ⟨p, hp, g3, g4⟩ := ((parts_ok hx pl a).2 y w).mpr ⟨b, hb, ia, iy, e⟩
      have n : partsF eqv boxes a ≠ [] := fun z => by rw [z] at hp; cases hp
      obtain ⟨q, hq, r1, r2, r3⟩ := (h2 x (dParts (partsF eqv boxes a))).mpr ⟨((a, c - a), dParts (partsF eqv boxes a)), mem_piece.mpr ⟨j, a, c, k1, k2, n, rfl⟩, w1, (by show x < a + (c - a); omega), rfl⟩
      exact ⟨q, hq, ⟨r1, r2⟩, _, r3, p, hp, g3, g4⟩
end DL

namespace DL
open PySem PySem.Spec PyProof.Rows L2
variable [Tbl]
/-! ### the area -/
def rowsW (g : D → Int) (rs : List Row3) : Int := (rs.map fun r => (r.y - r.x) * g r.d).sum
theorem join_sum {eqv : D → D → Bool} (hx : ∀ a b, eqv a b = true → a = b) (g : D → Int) (rs : List Row3) (f m : Int) (v : V) (d : D) : rowsW g (joinStep eqv rs f m v d) = rowsW g rs + m * g d := by
  have new : ∀ rs, rowsW g (⟨f, f + m, v, d⟩ :: rs) = rowsW g rs + m * g d := fun rs => by
    simp only [rowsW, List.map_cons, List.sum_cons]
    rw [show f + m - f = m by omega, Int.add_comm]
  cases rs with
  | nil => exact new []
  | cons p tl =>
    by_cases h : p.y = f ∧ eqv p.d d = true
    · have e : joinStep eqv (p :: tl) f m v d = ⟨p.x, f + m, p.v, p.d⟩ :: tl := if_pos h
      have h3 := hx _ _ h.2
      rw [e]
      simp only [rowsW, List.map_cons, List.sum_cons]
      rw [← h3, h.1, show f + m - p.x = (f - p.x) + m by omega, Int.add_mul]
      omega
    · have e : joinStep eqv (p :: tl) f m v d = ⟨f, f + m, v, d⟩ :: p :: tl := if_neg h
      rw [e]
      exact new _
theorem runs_sum {eqv : D → D → Bool} (hx : ∀ a b, eqv a b = true → a = b) (g : D → Int) : ∀ (ps : List Part) (rs : List Row3), rowsW g (ps.foldl (fun rs p => joinStep eqv rs p.1.1 p.1.2 .non p.2) rs) = rowsW g rs + (ps.map fun p => p.1.2 * g p.2).sum
  | [], rs => by simp
  | p :: ps, rs => by
    rw [List.foldl_cons, runs_sum hx g ps, join_sum hx g, List.map_cons, List.sum_cons]
    omega
theorem joinOut_sum {eqv : D → D → Bool} (hx : ∀ a b, eqv a b = true → a = b) (g : D → Int) (ps : List Part) : ((joinOut eqv ps).map fun q => q.1.2 * g q.2).sum = (ps.map fun p => p.1.2 * g p.2).sum := by
  have e : (joinOut eqv ps).map (fun q => q.1.2 * g q.2) = ((runsD eqv ps).map fun r => (r.y - r.x) * g r.d).reverse := by
    unfold joinOut
    rw [List.map_map, ← List.map_reverse]
    rfl
  rw [e, List.sum_reverse]
  have := runs_sum hx g ps []
  have z0 : rowsW g [] = 0 := rfl
  rw [z0, Int.zero_add] at this
  exact this
theorem perm_sum {xs ys : List Int} (h : xs.Perm ys) : xs.sum = ys.sum := by
  induction h with
  | nil => rfl
  | cons x _ ih => rw [List.sum_cons, List.sum_cons, ih]
  | swap x y l => simp only [List.sum_cons]; omega
  | trans _ _ a b => rw [a, b]
/-- how many cells parts have -/
def cellsF (ps : List Part) : Int := (ps.map fun p => p.1.2).sum
theorem cells_parts {eqv : D → D → Bool} (hx : ∀ a b, eqv a b = true → a = b) (boxes : List Box) (a : Int) : cellsF (partsF eqv boxes a) = ((boxes.filter fun b => decide (b.1.1 ≤ a ∧ a < b.1.1 + b.1.2)).map fun b => b.2.1.2).sum := by
  have h := joinOut_sum hx (fun _ => 1) ((stripF boxes a).mergeSort leP)
  have e1 : cellsF (partsF eqv boxes a) = (((stripF boxes a).mergeSort leP).map fun p => p.1.2).sum := by
    have : ∀ ps : List Part, (ps.map fun p => p.1.2 * (1 : Int)) = ps.map fun p => p.1.2 := fun ps => by
      congr 1
      funext p
      exact Int.mul_one _
    rw [this, this] at h
    exact h
  have e2 : (((stripF boxes a).mergeSort leP).map fun p => p.1.2).sum = ((stripF boxes a).map fun p => p.1.2).sum := perm_sum ((List.mergeSort_perm _ _).map _)
  rw [e1, e2]
  unfold stripF
  rw [List.map_map]
  rfl
/-- the stretch from one edge up to another is made of its pieces -/
theorem pieces_sum : ∀ {os : List Int}, os.Pairwise (· < ·) → ∀ {lo hi : Int}, lo ∈ os → hi ∈ os → lo ≤ hi → ((os.zip os.tail).map fun z => if lo ≤ z.1 ∧ z.1 < hi then z.2 - z.1 else 0).sum = hi - lo
  | [], _, _, _, h, _, _ => by cases h
  | [e], _, lo, hi, h1, h2, _ => by
    have a1 : lo = e := by simpa using h1
    have a2 : hi = e := by simpa using h2
    subst a1 a2
    simp
  | e :: e2 :: os, h, lo, hi, h1, h2, l => by
    obtain ⟨p1, p2⟩ := List.pairwise_cons.mp h
    have e12 := p1 e2 (by simp)
    have hd : ((e :: e2 :: os).zip (e :: e2 :: os).tail) = (e, e2) :: ((e2 :: os).zip (e2 :: os).tail) := rfl
    rw [hd, List.map_cons, List.sum_cons]
    by_cases q : lo = e
    · subst q
      by_cases r : hi = lo
      · subst r
        have z : ∀ w ∈ ((e2 :: os).zip (e2 :: os).tail), (if hi ≤ w.1 ∧ w.1 < hi then w.2 - w.1 else 0) = 0 := fun w _ => if_neg (by omega)
        rw [List.map_congr_left z, if_neg (by omega)]
        have : ∀ n : List (Int × Int), (n.map fun _ => (0 : Int)).sum = 0 := fun n => by
          induction n with
          | nil => rfl
          | cons a n ih => rw [List.map_cons, List.sum_cons, ih]; rfl
        rw [this]
        omega
      · have hi2 : hi ∈ e2 :: os := by
          rcases List.mem_cons.mp h2 with z | z
          · exact absurd z r
          · exact z
        have le2 : e2 ≤ hi := by
          rcases List.mem_cons.mp hi2 with z | z
          · omega
          · have := (List.pairwise_cons.mp p2).1 hi z
            omega
        have ih := pieces_sum p2 (lo := e2) (hi := hi) (by simp) hi2 le2
        have eq : ((e2 :: os).zip (e2 :: os).tail).map (fun z => if lo ≤ z.1 ∧ z.1 < hi then z.2 - z.1 else 0) = ((e2 :: os).zip (e2 :: os).tail).map fun z => if e2 ≤ z.1 ∧ z.1 < hi then z.2 - z.1 else 0 := by
          refine List.map_congr_left fun w hw => ?_
          have wm : w.1 ∈ e2 :: os := (List.of_mem_zip hw).1
          have : e2 ≤ w.1 := by
            rcases List.mem_cons.mp wm with z | z
            · omega
            · have := (List.pairwise_cons.mp p2).1 _ z
              omega
          have a : (lo ≤ w.1 ∧ w.1 < hi) ↔ (e2 ≤ w.1 ∧ w.1 < hi) := by constructor <;> (rintro ⟨_, _⟩; constructor <;> omega)
          by_cases b : e2 ≤ w.1 ∧ w.1 < hi
          · rw [if_pos b, if_pos (a.mpr b)]
          · rw [if_neg b, if_neg (fun z => b (a.mp z))]
        rw [eq, ih, if_pos ⟨Int.le_refl _, by omega⟩]
        omega
    · have lo2 : lo ∈ e2 :: os := by
        rcases List.mem_cons.mp h1 with z | z
        · exact absurd z q
        · exact z
      have el : e < lo := p1 lo lo2
      have hi2 : hi ∈ e2 :: os := by
        rcases List.mem_cons.mp h2 with z | z
        · omega
        · exact z
      rw [pieces_sum p2 lo2 hi2 l, if_neg (by omega)]
      omega
end DL

namespace DL
open PySem PySem.Spec PyProof.Rows L2
variable [Tbl]
theorem sum_zero {α : Type} : ∀ n : List α, (n.map fun _ => (0 : Int)).sum = 0
  | [] => rfl
  | _ :: n => by rw [List.map_cons, List.sum_cons, sum_zero n]; rfl
theorem sum_add {α : Type} (f g : α → Int) : ∀ n : List α, (n.map fun x => f x + g x).sum = (n.map f).sum + (n.map g).sum
  | [] => rfl
  | x :: n => by
    rw [List.map_cons, List.map_cons, List.map_cons, List.sum_cons, List.sum_cons, List.sum_cons, sum_add f g n]
    omega
theorem sum_swap {α β : Type} (F : α → β → Int) : ∀ (xs : List α) (ys : List β), (xs.map fun x => (ys.map fun y => F x y).sum).sum = (ys.map fun y => (xs.map fun x => F x y).sum).sum
  | [], ys => by
    rw [List.map_nil]
    exact (sum_zero ys).symm
  | x :: xs, ys => by
    rw [List.map_cons, List.sum_cons, sum_swap F xs ys, ← sum_add]
    congr 1
theorem sum_mul {α : Type} (k : Int) (f : α → Int) : ∀ n : List α, (n.map fun x => f x * k).sum = (n.map f).sum * k
  | [] => by simp
  | x :: n => by rw [List.map_cons, List.map_cons, List.sum_cons, List.sum_cons, sum_mul k f n, Int.add_mul]
theorem sum_filter {α : Type} (c : α → Bool) (f : α → Int) : ∀ n : List α, ((n.filter c).map f).sum = (n.map fun x => if c x = true then f x else 0).sum
  | [] => rfl
  | x :: n => by
    rw [List.map_cons, List.sum_cons, ← sum_filter c f n]
    by_cases h : c x = true
    · rw [List.filter_cons_of_pos h, List.map_cons, List.sum_cons, if_pos h]
    · rw [List.filter_cons_of_neg h, if_neg h, Int.zero_add]
theorem area_ok {eqv : D → D → Bool} (hx : ∀ a b, eqv a b = true → a = b) {boxes : List Box} (pl : Plain boxes) {os : List Int} (E : Edges boxes os) {g : D → Int} (hg : ∀ ps, g (dParts ps) = cellsF ps) :
    ((rowsF eqv boxes os).map fun q => q.1.2 * g q.2).sum = (boxes.map fun b => b.1.2 * b.2.1.2).sum := by
  unfold rowsF
  rw [joinOut_sum hx g]
  -- over all neighbours
  have s1 : ∀ zs : List (Int × Int), ((zs.filterMap fun z => if partsF eqv boxes z.1 = [] then none else some ((z.1, z.2 - z.1), dParts (partsF eqv boxes z.1))).map fun p : Part => p.1.2 * g p.2).sum = (zs.map fun z => (z.2 - z.1) * cellsF (partsF eqv boxes z.1)).sum := fun zs => by
    induction zs with
    | nil => rfl
    | cons z zs ih =>
      rw [List.map_cons, List.sum_cons, ← ih]
      by_cases n : partsF eqv boxes z.1 = []
      · rw [List.filterMap_cons, if_pos n, n]
        have : cellsF [] = 0 := rfl
        rw [this, Int.mul_zero, Int.zero_add]
      · rw [List.filterMap_cons, if_neg n]
        rw [List.map_cons, List.sum_cons, hg]
  unfold piecesF
  rw [s1]
  have s2 : ∀ z : Int × Int, (z.2 - z.1) * cellsF (partsF eqv boxes z.1) = (boxes.map fun b => (if b.1.1 ≤ z.1 ∧ z.1 < b.1.1 + b.1.2 then z.2 - z.1 else 0) * b.2.1.2).sum := fun z => by
    rw [cells_parts hx, sum_filter, Int.mul_comm, ← sum_mul]
    congr 1
    refine List.map_congr_left fun b _ => ?_
    by_cases h : b.1.1 ≤ z.1 ∧ z.1 < b.1.1 + b.1.2
    · rw [if_pos (decide_eq_true h), if_pos h, Int.mul_comm]
    · rw [if_neg (by rw [decide_eq_true_eq]; exact h), if_neg h, Int.zero_mul, Int.zero_mul]
  have s3 : ((os.zip os.tail).map fun z => (z.2 - z.1) * cellsF (partsF eqv boxes z.1)) = (os.zip os.tail).map fun z => (boxes.map fun b => (if b.1.1 ≤ z.1 ∧ z.1 < b.1.1 + b.1.2 then z.2 - z.1 else 0) * b.2.1.2).sum := List.map_congr_left fun z _ => s2 z
  rw [s3, sum_swap fun (z : Int × Int) (b : Box) => (if b.1.1 ≤ z.1 ∧ z.1 < b.1.1 + b.1.2 then z.2 - z.1 else 0) * b.2.1.2]
  congr 1
  refine List.map_congr_left fun b hb => ?_
  obtain ⟨e1, e2⟩ := E.has b hb
  have p := (pl.pos b hb).1
  rw [sum_mul, pieces_sum E.rise e1 e2 (by omega)]
  congr 1
  omega
end DL

namespace DL
open PySem PySem.Spec PyProof.Rows L2
/-! ### heads with tables of code objects -/
/-- the table of the code object at c, as K tells it -/
def tabOf (K : PySem.W.Frag) (c : Addr) : Addr := match K.lookup c with
  | some ⟨_, _, .fields vs, _⟩ => (match (vs[11]? : Option Value) with | some (.ref p) => p | _ => 0)
  | _ => 0
abbrev emptyT : Obj := { cls := .none, data := .fields #[] }
/-- what a law's head tells of its tables -/
structure TabsOf (K : PySem.W.Frag) (h : Heap) (cs : List (Addr × Addr)) : Prop where
  mt : ∀ q ∈ cs, h.get? q.2 = some emptyT
  out : ∀ q ∈ cs, K.lookup q.2 = none
  cd : ∀ q ∈ cs, PySem.W.codeHdIn K q.1 q.2 = true
/-- the heap at the law's call: the script, unless it is the module's own, and the tables -/
def hd0 (K : PySem.W.Frag) (a : Addr) (vs : List Value) (ns : List Int) (ts : List Addr) : Hp := fun b =>
  if b ∈ ts then some (.tbl #[]) else if b = a ∧ K.lookup a = none then some (.frz { cls := .type "list", data := .seq vs.toArray } (.lst (ns.map V.int))) else none
theorem lawGT {P : Program} {w : World} {K : PySem.W.Frag} {mg mb : Str → Option Value} {k : Nat} {fa a : Addr} {cs : List (Addr × Addr)} {fd : FuncData} {x : Str} {sp : Sp} {s₁ : Shared} {vs : List Value} {ns : List Int}
    (kin : K.In s₁.heap) (n1 : s₁.heap.Ns mainGlobals mg) (n2 : s₁.heap.Ns builtinsNs mb) (n3 : ∀ x : Str, x ≠ "__name__" → mb x = bootBuiltins x) (lim : s₁.heap.NoLimit) (gens : s₁.gens = #[])
    (tb : TabsOf K s₁.heap cs) (bmain : ∃ (bm : Addr) (ob : Obj), mg "__builtins__" = some (.ref bm) ∧ bm ≠ builtinsNs ∧ s₁.heap.get? bm = some ob ∧ ob.cls = .type "module" ∧ ob.dict = some builtinsNs ∧ ob.data = .plain)
    (ha : s₁.heap.get? a = some { cls := .type "list", data := .seq vs.toArray }) (hi : IntsAre vs ns) (hl : ns.length ≤ sizeLine) (hr : Room k callerA)
    (F : ∀ base : Heap, K.In base → base.Ns mainGlobals mg → (∀ q ∈ cs, LamX.TabB base mg q.1 q.2) → FnG P w K mg base k fa fd [x] sp) (hbind : ∀ (s : Shared) (u : Value), BindsTo s fd ⟨[u], []⟩ [(x, u)])
    (hsp : ∀ H : Hp, (∀ q ∈ cs, H q.2 = some (.tbl #[])) → ((∃ o, H a = some (.frz o (.lst (ns.map V.int)))) ∨ SqL K (fun _ => none) a (ns.map V.int)) → sp [.ref a] H (fun v _ => v = .bl true) E0) :
    codeAny (model P w) callerA (.call (.ref fa) ⟨[.ref a], []⟩) (fun r s' => r = .ok (.ret (.bool true)) ∧ OldK s₁.heap s'.heap ∧ s'.os = s₁.os ∧ AllBare s'.gens) s₁ := by
  have rv := vals_ints hi
  generalize hts : cs.map Prod.snd = ts
  have tin : ∀ q ∈ cs, q.2 ∈ ts := fun q hq => by rw [← hts]; exact List.mem_map_of_mem hq
  have tof : ∀ b ∈ ts, ∃ q ∈ cs, q.2 = b := fun b hb => by rw [← hts] at hb; exact List.mem_map.mp hb
  have tmt : ∀ b ∈ ts, s₁.heap.get? b = some emptyT := fun b hb => by
    obtain ⟨q, hq, rfl⟩ := tof b hb
    exact tb.mt q hq
  have tout : ∀ b ∈ ts, K.lookup b = none := fun b hb => by
    obtain ⟨q, hq, rfl⟩ := tof b hb
    exact tb.out q hq
  have ant : a ∉ ts := fun z => by
    have := tmt a z
    rw [ha] at this
    exact absurd (congrArg Obj.cls (Option.some.inj this)) (by simp)
  generalize hH : hd0 K a vs ns ts = H
  have ht : ∀ b ∈ ts, H b = some (.tbl #[]) := fun b hb => by rw [← hH]; exact if_pos hb
  have hs : ∀ b u, b ∉ ts → H b = some u → b = a ∧ K.lookup a = none ∧ u = .frz { cls := .type "list", data := .seq vs.toArray } (.lst (ns.map V.int)) := fun b u nb z => by
    rw [← hH] at z
    have z := (if_neg nb).symm.trans z
    by_cases c : b = a ∧ K.lookup a = none
    · rw [if_pos c] at z
      exact ⟨c.1, c.2, (Option.some.inj z).symm⟩
    · rw [if_neg c] at z
      cases z
  have sq : (∃ o, H a = some (.frz o (.lst (ns.map V.int)))) ∨ SqL K (fun _ => none) a (ns.map V.int) := by
    cases hk : K.lookup a with
    | none => exact .inl ⟨_, by rw [← hH]; exact (if_neg ant).trans (if_pos ⟨rfl, hk⟩)⟩
    | some o =>
      have e := kin a o hk
      rw [ha] at e
      cases e
      refine .inr (.inr ⟨_, vs.toArray, _, hk, rfl, rfl, rfl, ?_, by simpa using rv⟩)
      rw [List.size_toArray, hi.length]
      exact hl
  have ok : HOk P w H s₁.heap := fun b u z => by
    by_cases hb : b ∈ ts
    · rw [ht b hb] at z
      cases z
      exact tmt b hb
    · obtain ⟨rfl, _, rfl⟩ := hs b u hb z
      exact ⟨ha, by rw [List.length_map]; exact hl, vs, _, rv, ha⟩
  -- what is not tracked stands in the base
  have free : ∀ {b : Addr} {o : Obj}, s₁.heap.get? b = some o → (∀ d n, o.data ≠ .seq d n) → o.data ≠ .fields #[] → H b = none := fun {b o} e x1 x2 => by
    cases q : H b with
    | none => rfl
    | some u =>
      by_cases hb : b ∈ ts
      · rw [tmt b hb] at e
        cases e
        exact absurd rfl x2
      · obtain ⟨rfl, _⟩ := hs b u hb q
        rw [ha] at e
        cases e
        exact absurd rfl (x1 _ _)
  have inb : ∀ {b : Addr} {o : Obj}, s₁.heap.get? b = some o → (∀ d n, o.data ≠ .seq d n) → o.data ≠ .fields #[] → (hidT s₁.heap H).get? b = some o := fun e x1 x2 => hidT_get e (free e x1 x2)
  have nsb : ∀ {b : Addr} {m : Str → Option Value}, s₁.heap.Ns b m → (hidT s₁.heap H).Ns b m := by
    rintro b m ⟨o, es, ep, e, d, r⟩
    exact ⟨o, es, ep, inb e (fun _ _ z => by rw [d] at z; cases z) (fun z => by rw [d] at z; cases z), d, r⟩
  have kb : K.In (hidT s₁.heap H) := fun b o e => hidT_get (kin b o e) (by
    cases q : H b with
    | none => rfl
    | some u =>
      by_cases hb : b ∈ ts
      · rw [tout b hb] at e
        cases e
      · obtain ⟨rfl, z, _⟩ := hs b u hb q
        rw [z] at e
        cases e)
  obtain ⟨mc, l1, l2⟩ := lim
  have TB : ∀ q ∈ cs, LamX.TabB (hidT s₁.heap H) mg q.1 q.2 := fun q hq => by
    have mt := tb.mt q hq
    refine ⟨PySem.W.codeHd_of_K kb (tb.cd q hq), ?_, fun z => ?_⟩
    · obtain ⟨bm, ob, b1, b2, b3, b4, b5, b6⟩ := bmain
      refine ⟨bm, ob, b1, b2, fun z => ?_, fun z => ?_, inb b3 (fun _ _ z => by rw [b6] at z; cases z) (fun z => by rw [b6] at z; cases z), b4, b5, b6⟩
      · obtain ⟨o, es, ep, e, hd, _⟩ := n1
        rw [z, e] at b3
        cases b3
        rw [hd] at b6
        cases b6
      · rw [z, mt] at b3
        cases b3
        cases b6
    · obtain ⟨o, es, ep, e, hd, _⟩ := n1
      rw [z, mt] at e
      cases e
      cases hd
  have e0 : Env0 P w K mg (hidT s₁.heap H) callerA [] s₁ H := {
    frames := rfl
    mod := ⟨kb, nsb n1, ⟨mb, nsb n2, n3⟩, mc, nsb l1, l2⟩
    bs := fun _ _ e => of_hidT e
    bsz := Nat.le_of_eq (hidT_size _ _)
    funs := trivial
    frf := fun b hb => by cases (show b ∈ ([] : List Addr) from hb)
    hok := ok
    bare := .of_eq gens }
  refine codeAny_mono ((F _ kb (nsb n1) TB).run callerA [] s₁ H ⟨[.ref a], []⟩ [.ref a] [.ref a] (fun v _ => v = .bl true) rfl hr e0 (hbind s₁ (.ref a)) (.cons rfl .nil) (hsp H (fun q hq => ht _ (tin q hq)) sq)) ?_
  intro r s' h
  match r, h with
  | .error e, h => exact h.elim
  | .ok .next, h => exact h.elim
  | .ok .brk, h => exact h.elim
  | .ok .cont, h => exact h.elim
  | .ok (.ret u), h =>
    obtain ⟨v, H', os, bare, un, hok', r', rfl⟩ := h
    cases (show u = Value.bool true from r')
    have nil : ∀ b : Addr, b ∉ ([] : List Addr) := fun b => by simp
    have stay : ∀ b o, b ∉ ts → s₁.heap.get? b = some o → s'.heap.get? b = some o := fun b o nb e => by
      cases q : H b with
      | none => exact un.keep b o e q (nil b) (nil b)
      | some u =>
        obtain ⟨rfl, _, rfl⟩ := hs b u nb q
        have z2 := (hok' b _ (un.frzs b _ _ q)).1
        rw [ha] at e
        cases e
        exact z2
    have grow : ∀ b ∈ ts, ∃ more : Array Value, s'.heap.get? b = some { cls := .none, data := .fields more } := fun b hb => by
      obtain ⟨more, z⟩ := un.tbls b #[] (ht b hb)
      exact ⟨_, hok' b _ z⟩
    refine ⟨rfl, ⟨fun b o e => ?_, fun b o e => ?_⟩, os, bare⟩
    · by_cases hb : b ∈ ts
      · obtain ⟨more, hm⟩ := grow b hb
        obtain ⟨q, hq, rfl⟩ := tof b hb
        rw [tmt _ hb] at e
        cases e
        refine .inr (.inl ⟨((PySem.W.codeHd_of_K kin (tb.cd q hq)).tab (tmt _ hb)).isCodeTable, rfl, #[], more, rfl, ?_⟩)
        rw [Array.empty_append]
        exact hm
      · exact .inl (stay b o hb e)
    · by_cases hb : b ∈ ts
      · obtain ⟨more, hm⟩ := grow b hb
        exact ⟨_, hm⟩
      · exact ⟨o, stay b o hb e⟩
/-- what a law's text gives its head -/
def LawG (l : PySem.W.OpenLaw) (w : World) (K : PySem.W.Frag) (k n : Nat) (x : Str) (mg : Str → Option Value) (fa : Addr) (h : Heap) : Prop :=
  ∃ (fd : FuncData) (cs : List (Addr × Addr)) (sp : Sp), TabsOf K h cs ∧ (∀ (s : Shared) (u : Value), BindsTo s fd ⟨[u], []⟩ [(x, u)]) ∧
    (∀ (H : Hp) (a : Addr) (ns : List Int), ns.length ≤ n → (∀ q ∈ cs, H q.2 = some (.tbl #[])) → ((∃ o, H a = some (.frz o (.lst (ns.map V.int)))) ∨ SqL K (fun _ => none) a (ns.map V.int)) → sp [.ref a] H (fun v _ => v = .bl true) E0) ∧
    ∀ base : Heap, K.In base → base.Ns mainGlobals mg → (∀ q ∈ cs, LamX.TabB base mg q.1 q.2) → FnG l.prog w K mg base k fa fd [x] sp
theorem walkGT {l : PySem.W.OpenLaw} {n k : Nat} {q : Program} {loose : List Str} {XP : (Str → Option Value) → Heap → Prop} {YP : World → Heap → Prop} {d : DefRec} {K : Params → PySem.W.Frag} {x : Str}
    (hn : l.most = some n) (hz : n ≤ sizeLine) (hdf : d.params.defaults = []) (hr : Room k callerA) (hY : ∀ (w : World) (h : Heap), YP w h → (K w.params).In h)
    (F : ∀ (w : World) (mg : Str → Option Value) (fa : Addr) (h : Heap), YP w h → (K w.params).In h → h.Ns mainGlobals mg → mg d.name = some (.ref fa) → LawG l w (K w.params) k n x mg fa h) :
    PySem.W.WalkO q loose XP YP l.row.toRowW d [] (fun f vs => PySem.call f vs) := by
  refine Att.attach_call hn hdf ?_
  intro w s₀ s₁ mg mb fa o pm cd doc a vs ns G Y ho hd hcd hmg hobj hints hlen hg
  have kin := hY w _ Y
  obtain ⟨fd, cs, sp, tb, hb, hsp, hF⟩ := F w mg fa _ Y kin G.T.g hmg
  exact lawGT kin G.T.g G.T.b G.T.builtins G.T.nolimit hg tb G.T.bmain hobj hints (Nat.le_trans hlen hz) hr hF hb fun H hH hS => hsp H a ns hlen hH hS
end DL

namespace DL
open PySem PySem.Spec PyProof.Rows L2
variable [Tbl]
/-! ### values that are compared: no truths, no objects -/
mutual
def D.pure : D → Bool
  | .non => true
  | .bl _ => false
  | .int _ => true
  | .str _ => true
  | .lst xs => D.pureAll xs
  | .tup xs => D.pureAll xs
  | .obj _ _ => false
def D.pureAll : List D → Bool
  | [] => true
  | d :: ds => D.pure d && D.pureAll ds
end
mutual
theorem eqv_pure : ∀ a b : D, a.pure = true → b.pure = true → PyData.eqv a.py b.py = true → a = b
  | .non, b, _, hb, h => by cases b <;> first | rfl | (cases h; done) | (cases hb; done)
  | .bl _, _, h, _, _ => by cases h
  | .int i, b, _, hb, h => by
    cases b with
    | int j => rw [show i = j from of_decide_eq_true (by simpa [D.py, PyData.eqv] using h)]
    | bl _ => cases hb
    | obj _ _ => cases hb
    | _ => cases h
  | .str x, b, _, hb, h => by
    cases b with
    | str y => rw [show x = y from of_decide_eq_true (by simpa [D.py, PyData.eqv] using h)]
    | bl _ => cases hb
    | obj _ _ => cases hb
    | _ => cases h
  | .lst xs, b, ha, hb, h => by
    cases b with
    | lst ys => rw [eqv_pureAll xs ys ha hb h]
    | bl _ => cases hb
    | obj _ _ => cases hb
    | _ => cases h
  | .tup xs, b, ha, hb, h => by
    cases b with
    | tup ys => rw [eqv_pureAll xs ys ha hb h]
    | bl _ => cases hb
    | obj _ _ => cases hb
    | _ => cases h
  | .obj _ _, _, h, _, _ => by cases h
theorem eqv_pureAll : ∀ as bs : List D, D.pureAll as = true → D.pureAll bs = true → PyData.eqvAll (D.pyAll as) (D.pyAll bs) = true → as = bs
  | [], [], _, _, _ => rfl
  | [], _ :: _, _, _, h => by cases h
  | _ :: _, [], _, _, h => by cases h
  | a :: as, b :: bs, ha, hb, h => by
    have ha : (D.pure a && D.pureAll as) = true := ha
    have hb : (D.pure b && D.pureAll bs) = true := hb
    have h : (PyData.eqv a.py b.py && PyData.eqvAll (D.pyAll as) (D.pyAll bs)) = true := h
    rw [Bool.and_eq_true] at ha hb h
    rw [eqv_pure a b ha.1 hb.1 h.1, eqv_pureAll as bs ha.2 hb.2 h.2]
end
/-- two data are the same -/
noncomputable def eqD (a b : D) : Bool := @decide (a = b) (Classical.propDecidable _)
theorem eqD_eq (a b : D) (h : eqD a b = true) : a = b := @of_decide_eq_true _ (Classical.propDecidable _) h
theorem eqD_self (a : D) : eqD a a = true := @decide_eq_true _ (Classical.propDecidable _) rfl
theorem eqD_iff {a b : D} : eqD a b = true ↔ a = b := ⟨eqD_eq a b, fun h => by rw [h]; exact eqD_self b⟩
/-- fit to be compared -/
structure Cmp (x : D) : Prop where
  p : x.pure = true
  f : x.fine = true
  d : x.dep ≤ 30
theorem Cmp.fit {x : D} (h : Cmp x) : Fit x.wt 30 x := ⟨h.f, Nat.le_refl _, h.d⟩
theorem eqv_cmp {x y : D} (hx : Cmp x) (hy : Cmp y) : PyData.eqv x.py y.py = eqD x y := by
  rw [Bool.eq_iff_iff, eqD_iff]
  exact ⟨eqv_pure x y hx.p hy.p, fun h => by rw [h]; exact eqv_self y hy.f⟩
theorem cmp_int {i : Int} (h : i.natAbs < 2 ^ 1900) : Cmp (.int i) := ⟨rfl, (Fit.int (m := 1900) h (by decide) (by decide)).f, Nat.zero_le _⟩
theorem cmp_str {x : Str} (h : okS x) : Cmp (.str x) := ⟨rfl, h, Nat.zero_le _⟩
structure CmpA (k : Nat) (xs : List D) : Prop where
  p : D.pureAll xs = true
  f : D.fineAll xs = true
  d : D.depAll xs ≤ k
theorem CmpA.nil {k : Nat} : CmpA k [] := ⟨rfl, rfl, Nat.zero_le _⟩
theorem CmpA.cons {k : Nat} {x : D} {xs : List D} (hp : x.pure = true) (hf : x.fine = true) (hd : x.dep ≤ k) (t : CmpA k xs) : CmpA k (x :: xs) := ⟨by
  show (D.pure x && D.pureAll xs) = true
  rw [hp, t.p]; rfl, by
  show (D.fine x && D.fineAll xs) = true
  rw [hf, t.f]; rfl, by
  show max (D.dep x) (D.depAll xs) ≤ k
  have := t.d
  omega⟩
theorem CmpA.all {k : Nat} {xs : List D} (h : ∀ x ∈ xs, x.pure = true ∧ x.fine = true ∧ x.dep ≤ k) : CmpA k xs := by
  induction xs with
  | nil => exact .nil
  | cons x xs ih =>
    obtain ⟨h1, h2, h3⟩ := h x (by simp)
    exact .cons h1 h2 h3 (ih fun y hy => h y (List.mem_cons_of_mem _ hy))
theorem cmp_tup {k : Nat} {xs : List D} (h : CmpA k xs) : (D.tup xs).pure = true ∧ (D.tup xs).fine = true ∧ (D.tup xs).dep ≤ k + 1 := ⟨h.p, h.f, Nat.succ_le_succ h.d⟩
section
variable {K : PySem.W.Frag} {Q : SV → Prop}
theorem eqC {s1 s2 : SV} {x y : D} (e1 : s1.rd = some x) (e2 : s2.rd = some y) (h1 : Cmp x) (h2 : Cmp y) (q : Q (.d (.bl (eqD x y)))) : RR K (rEqX K) s1 s2 Q :=
  eqF e1 e2 h1.fit h2.fit (by decide) (by decide) (by rw [eqv_cmp h1 h2]; exact q)
theorem neC {s1 s2 : SV} {x y : D} (e1 : s1.rd = some x) (e2 : s2.rd = some y) (h1 : Cmp x) (h2 : Cmp y) (q : Q (.d (.bl (!eqD x y)))) : RR K (rNeX K) s1 s2 Q :=
  neF e1 e2 h1.fit h2.fit (by decide) (by decide) (by rw [eqv_cmp h1 h2]; exact q)
end
/-! ### pieces, boxes as data -/
def big (i : Int) : Prop := i.natAbs < 2 ^ 1000
theorem big_add {i j : Int} (a : big i) (b : big j) : (i + j).natAbs < 2 ^ 1001 := by
  unfold big at a b
  have : (2 : Nat) ^ 1001 = 2 ^ 1000 + 2 ^ 1000 := by rw [Nat.pow_succ, Nat.mul_two]
  omega
def dBx (b : Box) : D := .tup [dPair b.1, dPair b.2.1, b.2.2]
/-- a piece fit to be compared, its worth so deep -/
structure PieceOk (k : Nat) (p : Part) : Prop where
  a : p.1.1.natAbs < 2 ^ 1900
  b : p.1.2.natAbs < 2 ^ 1900
  pu : p.2.pure = true
  fi : p.2.fine = true
  de : p.2.dep ≤ k
theorem PieceOk.piece {k : Nat} {p : Part} (h : PieceOk k p) : (dPiece p).pure = true ∧ (dPiece p).fine = true ∧ (dPiece p).dep ≤ max 1 k + 1 := by
  have c1 := cmp_int h.a
  have c2 := cmp_int h.b
  have pr : (D.tup [.int p.1.1, .int p.1.2]).pure = true ∧ (D.tup [.int p.1.1, .int p.1.2]).fine = true ∧ (D.tup [.int p.1.1, .int p.1.2]).dep ≤ 0 + 1 := cmp_tup (.cons c1.p c1.f (Nat.le_refl _) (.cons c2.p c2.f (Nat.le_refl _) .nil))
  refine cmp_tup (.cons pr.1 pr.2.1 (by have := pr.2.2; omega) (.cons h.pu h.fi (by have := h.de; omega) .nil))
theorem parts_cmp {k : Nat} {ps : List Part} (h : ∀ p ∈ ps, PieceOk k p) : (dParts ps).pure = true ∧ (dParts ps).fine = true ∧ (dParts ps).dep ≤ max 1 k + 2 := by
  refine cmp_tup (.all fun x hx => ?_)
  obtain ⟨p, hp, rfl⟩ := List.mem_map.mp hx
  exact (h p hp).piece
/-- what joined tells lies among what it is told -/
theorem runs_in {eqv : D → D → Bool} : ∀ (ps : List Part) (rs : List Row3) (P : Int → Prop) (W : D → Prop), (∀ p ∈ ps, P p.1.1 ∧ P (p.1.1 + p.1.2) ∧ W p.2) → (∀ r ∈ rs, P r.x ∧ P r.y ∧ W r.d) →
    ∀ r ∈ ps.foldl (fun rs p => joinStep eqv rs p.1.1 p.1.2 .non p.2) rs, P r.x ∧ P r.y ∧ W r.d
  | [], rs, P, W, _, h2 => h2
  | p :: ps, rs, P, W, h1, h2 => by
    refine runs_in ps _ P W (fun q hq => h1 q (List.mem_cons_of_mem _ hq)) fun r hr => ?_
    obtain ⟨a1, a2, a3⟩ := h1 p (by simp)
    cases rs with
    | nil =>
      rcases List.mem_cons.mp (show r ∈ [(⟨p.1.1, p.1.1 + p.1.2, .non, p.2⟩ : Row3)] from hr) with rfl | z
      · exact ⟨a1, a2, a3⟩
      · cases z
    | cons q tl =>
      obtain ⟨b1, b2, b3⟩ := h2 q (by simp)
      simp only [joinStep] at hr
      split at hr
      · rcases List.mem_cons.mp hr with rfl | z
        · exact ⟨b1, a2, b3⟩
        · exact h2 r (List.mem_cons_of_mem _ z)
      · rcases List.mem_cons.mp hr with rfl | z
        · exact ⟨a1, a2, a3⟩
        · exact h2 r z
theorem joinOut_in {eqv : D → D → Bool} {ps : List Part} {P : Int → Prop} {W : D → Prop} (h : ∀ p ∈ ps, P p.1.1 ∧ P (p.1.1 + p.1.2) ∧ W p.2) : ∀ q ∈ joinOut eqv ps, P q.1.1 ∧ P (q.1.1 + q.1.2) ∧ W q.2 := fun q hq => by
  obtain ⟨r, hr, rfl⟩ := List.mem_map.mp hq
  obtain ⟨a, b, c⟩ := runs_in ps [] P W h (fun r hr => by cases hr) r (List.mem_reverse.mp hr)
  refine ⟨a, ?_, c⟩
  show P (r.x + (r.y - r.x))
  rw [show r.x + (r.y - r.x) = r.y by omega]
  exact b
theorem runs_len3 {eqv : D → D → Bool} : ∀ (ps : List Part) (rs : List Row3), (ps.foldl (fun rs p => joinStep eqv rs p.1.1 p.1.2 .non p.2) rs).length ≤ rs.length + ps.length
  | [], rs => Nat.le_refl _
  | p :: ps, rs => by
    have h1 := runs_len3 (eqv := eqv) ps (joinStep eqv rs p.1.1 p.1.2 .non p.2)
    have h2 := joinStep_len (eqv := eqv) rs p.1.1 p.1.2 .non p.2
    rw [List.foldl_cons, List.length_cons]
    omega
theorem joinOut_len {eqv : D → D → Bool} {ps : List Part} : (joinOut eqv ps).length ≤ ps.length := by
  unfold joinOut
  rw [List.length_map, List.length_reverse]
  exact Nat.le_trans (runs_len3 ps []) (by simp)
theorem between_nodup {os : List Int} (h : os.Pairwise (· < ·)) (p : Int × Int) : (between os p).Nodup := by
  refine List.Pairwise.filter _ (List.Pairwise.imp (fun {a b} hab => ?_) h)
  omega
end DL

namespace DL
open PySem PySem.Spec PyProof.Rows L2
variable [Tbl]
section
variable {K : PySem.W.Frag} {P : List Pin} {N L M : AP} {H0 H H1 : Hp} {σ : L2.St} {es : Env'} {ta tb te : TE} {tt : TT} {Q : SV → Prop} {B : DEnds} {t u : TS}
theorem filter_take {α : Type} {p : α → Bool} {as : List α} {i : Nat} {a : α} (h : as[i]? = some a) : (as.take (i + 1)).filter p = (as.take i).filter p ++ (if p a = true then [a] else []) := by
  rw [take_get h, List.filter_append]
  by_cases q : p a = true
  · rw [if_pos q, List.filter_cons_of_pos q]; rfl
  · rw [if_neg q, List.filter_cons_of_neg q]; rfl
theorem map_get {α : Type} {e : α → D} {as : List α} {i : Nat} {x : D} (h : (as.map e)[i]? = some x) : ∃ a, as[i]? = some a ∧ x = e a := by
  rw [List.getElem?_map] at h
  cases q : as[i]? with
  | none => rw [q] at h; cases h
  | some a => rw [q] at h; cases h; exact ⟨a, rfl, rfl⟩
/-- one turn of a comprehension that keeps some and tells each by f -/
def LcF {α : Type} (K : PySem.W.Frag) (g : TG) (tt : TT) (te : TE) (vs : List Nat) (es : Env') (e : α → D) (p : α → Bool) (f : α → D) (a : α) : Prop :=
  DG K g (e a) vs (wipeE es vs) fun e2 => DT K tt e2 fun b => b = p a ∧ (b = true → DE K te e2 fun s => s.dat = some (f a))
theorem LcF.turn {α : Type} {g : TG} {vs : List Nat} {e : α → D} {p : α → Bool} {f : α → D} {as : List α} {i : Nat} {a : α} (h : LcF K g tt te vs es e p f a) (hi : as[i]? = some a) : LcT K g tt te vs es (fun i ds => ds = ((as.take i).filter p).map f) i (e a) := fun ds hds _ P N M L σ H v S ix R k => by
  refine h P N M L σ H v S ix R fun e2 σ2 S2 sm q => k e2 σ2 S2 sm (DT.mono q fun b hb => ?_)
  obtain ⟨rfl, hb⟩ := hb
  subst hds
  cases q : p a with
  | true =>
    rw [if_pos rfl]
    refine DE.mono (hb q) fun s hs => ⟨f a, hs, ?_⟩
    show _ = ((as.take (i + 1)).filter p).map f
    rw [filter_take hi, if_pos q, List.map_append]
    rfl
  | false =>
    rw [if_neg Bool.false_ne_true]
    show _ = ((as.take (i + 1)).filter p).map f
    rw [filter_take hi, if_neg (by rw [q]; exact Bool.false_ne_true), List.append_nil]
/-- [f for x in xs if p] -/
theorem de_lcF {α : Type} {g : TG} {vs : List Nat} {tl : TE} {e : α → D} {p : α → Bool} {f : α → D} (h : DE K tl es fun s => ∃ as : List α, s.rd = some (.lst (as.map e)) ∧ (∀ n, s ≠ .scr n) ∧ as.length ≤ 100000 ∧ (∀ a ∈ as, LcF K g tt te vs es e p f a) ∧ Q (.new ((as.filter p).map f))) :
    DE K (tLc (iList K tl) g tt te vs) es Q := de_lcL (DE.mono h fun s hs => by
  obtain ⟨as, h1, h2, h3, h4, q⟩ := hs
  refine ⟨_, h1, h2, by rw [List.length_map]; exact h3, fun i ds => ds = ((as.take i).filter p).map f, rfl, fun i x hx => ?_, fun ds hds _ => ?_⟩
  · obtain ⟨a, ha, rfl⟩ := map_get hx
    exact (h4 a (List.mem_of_getElem? ha)).turn ha
  · rw [hds, List.length_map, List.take_length]
    exact q)
/-- over a tuple -/
theorem de_lcFT {α : Type} {g : TG} {vs : List Nat} {tl : TE} {e : α → D} {p : α → Bool} {f : α → D} (h : DE K tl es fun s => ∃ as : List α, s = .d (.tup (as.map e)) ∧ as.length ≤ 100000 ∧ (∀ a ∈ as, LcF K g tt te vs es e p f a) ∧ Q (.new ((as.filter p).map f))) :
    DE K (tLc (iTup K tl) g tt te vs) es Q := de_lcT (DE.mono h fun s hs => by
  obtain ⟨as, h1, h3, h4, q⟩ := hs
  refine ⟨_, h1, by rw [List.length_map]; exact h3, fun i ds => ds = ((as.take i).filter p).map f, rfl, fun i x hx => ?_, fun ds hds _ => ?_⟩
  · obtain ⟨a, ha, rfl⟩ := map_get hx
    exact (h4 a (List.mem_of_getElem? ha)).turn ha
  · rw [hds, List.length_map, List.take_length]
    exact q)
theorem filt_all {α : Type} (as : List α) : as.filter (fun _ => true) = as := by simp
/-- no test -/
theorem lcF_yes {α : Type} {g : TG} {vs : List Nat} {e : α → D} {f : α → D} {a : α} (h : DG K g (e a) vs (wipeE es vs) fun e2 => DE K te e2 fun s => s.dat = some (f a)) : LcF K g tYes te vs es e (fun _ => true) f a := fun P N M L σ H v S ix R k =>
  h P N M L σ H v S ix R fun e2 σ2 S2 sm q => k e2 σ2 S2 sm (dt_yes ⟨rfl, fun _ => q⟩)
/-- sum(xs) -/
theorem rc_sum {s : SV} {ns : List Int} (e : s.rd = some (.lst (ns.map D.int))) (n : ∀ k, s ≠ .scr k) (q : Q (.d (.int ns.sum))) : RC K (L2.rSum K) [s] Q := fun N M L H0 H vs b kk o R r => by
  obtain ⟨v, rfl, hv⟩ := o.one
  obtain ⟨a, ws, rfl, g1, g3⟩ := hv.lst b e n
  have := IsAll.ofInts g3
  subst this
  exact ⟨a, ns, rfl, .inl (.inl g1), r (.d (.int ns.sum)) _ H (Kp.refl (kk.bs b)) (Is.int _) q⟩
/-- the truth of a tuple -/
theorem dt_truTX {Q : Bool → Prop} (h : DE K ta es fun s => ∃ xs, s = .d (.tup xs) ∧ Q (!xs.isEmpty)) : DT K (tTruX K ta) es Q := fun P N M L σ H S R k => by
  refine h P N M L σ H S _ fun s v H1 k1 o q => ?_
  obtain ⟨xs, rfl, q⟩ := q
  have o' : Is K M H1 v (.tup xs) := o
  obtain ⟨a, vs, rfl, g, i⟩ := Is.tupS o'
  refine ⟨!vs.isEmpty, .inr (.inl ⟨vs, g, rfl⟩), k _ H1 k1 ?_⟩
  have : vs.isEmpty = xs.isEmpty := by
    have := i.len
    cases vs <;> cases xs <;> first | rfl | (simp at this)
  rw [this]
  exact q
/-- found.append(rest.pop(e)) -/
theorem ds_appPop {i j : Nat} {xs ys : List D} (ij : i ≠ j) (e : es[i]? = some (some (.own xs))) (e2 : es[j]? = some (some (.own ys))) (hl : ys.length < 100000)
    (h : DE K te es fun s => ∃ (n : Nat) (x : D), s = .d (.int n) ∧ n < 1000000 ∧ xs[n]? = some x ∧ B.nx ((es.set i (some (.own (xs.eraseIdx n)))).set j (some (.own (ys ++ [x]))))) :
    DS K (tDrop (tBM K "list" rAppend (tVar j) (tCons (tBM K "list" rPopAt (tVar i) (tCons te tNil)) tNil))) es B := fun F P M L σ H S E o => by
  obtain ⟨v, hv, a, vs, rfl, m, n, l, h1, h2⟩ := S.st.ok i _ e
  obtain ⟨v2, hv2, a2, vs2, rfl, m2, n2, l2, g1, g2⟩ := S.st.ok j _ e2
  have ne : a ≠ a2 := fun z => by
    subst z
    exact S.st.sep i j a xs ys ij e e2 hv hv2
  refine ⟨.ref a2, hv2, tyL g1, .ref a, hv, tyL h1, h P _ M L σ H S.st _ fun s w H' k ok q => ?_⟩
  obtain ⟨n, x, rfl, hn, hx, q⟩ := q
  cases ok
  have h1' := k.k _ _ l h1
  have g1' := k.k _ _ l2 g1
  have S' := S.kp' k
  have ia := IsAll.kp k S.st.bs h2
  have ib := IsAll.kp k S.st.bs g2
  obtain ⟨y, hy, iy⟩ := ia.get hx
  have hlt := (List.getElem?_eq_some_iff.mp hy).1
  have er : ∀ (n : Nat) {vs : List V} {xs : List D}, IsAll K M H' vs xs → IsAll K M H' (vs.eraseIdx n) (xs.eraseIdx n) := fun n => by
    induction n with
    | zero =>
      intro vs xs h
      cases h with
      | nil => exact .nil
      | cons p q => exact q
    | succ n ih =>
      intro vs xs h
      cases h with
      | nil => exact .nil
      | cons p q => exact .cons p (ih q)
  have S2 := S'.upd e hv (er n ia)
  have kn : ∀ b o, ¬ M b → H' b = some o → L2.upd H' a (.lst (vs.eraseIdx n)) b = some o := fun b o q z => by rw [upd_ne (fun y => q (by rw [y]; exact m))]; exact z
  have kt := sqt_keep (K := K) (M := M) kn S'.st.bs.tr
  refine ⟨a, vs, n, n, y, rfl, rfl, h1', by omega, by omega, ?_, hy, a2, vs2, y, rfl, rfl, by rw [upd_ne (fun z => ne z.symm)]; exact g1', ?_, ?_⟩
  · unfold seqIndex?
    have e1 : (0 : Int) ≤ (n : Int) ∧ (n : Int) < (vs.length : Int) := ⟨by omega, by omega⟩
    simp [e1]
    omega
  · rw [g2.len]
    exact Nat.lt_of_lt_of_le hl (by decide)
  · refine o.nx _ _ _ _ _ (S2.upd (i := j) (xs := ys) (by rw [List.getElem?_set_ne ij]; exact e2) hv2 ?_) q
    exact (IsAll.chg (fun b o z q => ⟨kn b o q z, q⟩) kt _ _ ib).append (.cons (Is.chg (fun b o z q => ⟨kn b o q z, q⟩) kt _ _ iy) .nil)
end
end DL

set_option exponentiation.threshold 4000
namespace DL
open PySem PySem.Spec PyProof.Rows L2
/-- a lambda x: x[0], as it is written -/
structure LamD where
  params : Arguments
  x : Str
  p1 : Pos
  p2 : Pos
  p3 : Pos
  j : Nat
  scope : Scope
/-- the name of a lambda made in the def q -/
def lq (q : Str) : Str := (q ++ ".<locals>.") ++ "<lambda>"
theorem tone {P : Addr} {x : Str} {T : List (Addr × Str)} (h : T = [(P, x)]) : ∀ q, (P, q) ∈ T → q = x := fun q hq => by
  subst h
  simpa using hq
variable [Tbl]
section
variable {K : PySem.W.Frag} {P : List Pin} {N L M : AP} {H0 H H1 : Hp} {σ : L2.St} {es : Env'} {ta tb te : TE} {tt : TT} {Q : SV → Prop} {B : DEnds} {t u : TS}
/-- a number, none of bounds -/
def inB (i : Int) : Prop := 0 ≤ i ∧ i < 1606938044258990275541962092341162602522202993782792835301376
theorem inB.abs {i : Int} (h : inB i) : i.natAbs < 1606938044258990275541962092341162602522202993782792835301376 := by
  obtain ⟨a, b⟩ := h
  omega
theorem inB.sub {i j : Int} (h : inB i) (g : inB j) : (i - j).natAbs < 1606938044258990275541962092341162602522202993782792835301376 := by
  obtain ⟨a, b⟩ := h
  obtain ⟨c, d⟩ := g
  omega
theorem lit1900 {n : Nat} (h : n < 1606938044258990275541962092341162602522202993782792835301376) : n < 2 ^ 1900 := Nat.lt_of_lt_of_le h (by
  have : (2 : Nat) ^ 200 ≤ 2 ^ 1900 := Nat.pow_le_pow_right (by decide) (by decide)
  have e : (2 : Nat) ^ 200 = 1606938044258990275541962092341162602522202993782792835301376 := by decide +kernel
  rw [e] at this
  exact this)
/-- sides of a list of stretches fit for edges -/
def EdgesPre (ps : List (Int × Int)) : Prop := ps.length ≤ 1000 ∧ ∃ zs : List Int, zs.length < 64 ∧ ∀ p ∈ ps, p.1 ∈ zs ∧ p.1 + p.2 ∈ zs
def EdgesOf (ps : List (Int × Int)) (os : List Int) : Prop := os.Pairwise (· < ·) ∧ ∀ k, k ∈ os ↔ ∃ p ∈ ps, k = p.1 ∨ k = p.1 + p.2
theorem sub_len : ∀ {os zs : List Int}, os.Nodup → (∀ k ∈ os, k ∈ zs) → os.length ≤ zs.length
  | [], zs, _, _ => Nat.zero_le _
  | o :: os, zs, nd, m => by
    obtain ⟨n1, n2⟩ := List.nodup_cons.mp nd
    have ho := m o (by simp)
    have := sub_len (os := os) (zs := zs.erase o) n2 fun k hk => (List.mem_erase_of_ne (fun e => n1 (by rw [← e]; exact hk))).mpr (m k (List.mem_cons_of_mem _ hk))
    rw [List.length_erase_of_mem ho] at this
    have := List.length_pos_of_mem ho
    rw [List.length_cons]
    omega
theorem rise_nodup {os : List Int} (h : os.Pairwise (· < ·)) : os.Nodup := List.Pairwise.imp (fun {a b} hab => by omega) h
theorem EdgesOf.len {ps : List (Int × Int)} {os : List Int} (h : EdgesOf ps os) (p : EdgesPre ps) : os.length < 64 := by
  obtain ⟨_, zs, hz, hm⟩ := p
  refine Nat.lt_of_le_of_lt (sub_len (rise_nodup h.1) fun k hk => ?_) hz
  obtain ⟨q, hq, e⟩ := (h.2 k).mp hk
  rcases e with rfl | rfl
  · exact (hm q hq).1
  · exact (hm q hq).2
end
end DL

namespace DL
open PySem PySem.Spec PyProof.Rows L2
variable [Tbl]
section
variable {K : PySem.W.Frag} {F : Fr} {P : List Pin} {N L M : AP} {H0 H H1 : Hp} {σ : L2.St} {es : Env'} {ta tb te : TE} {tt : TT} {Q : SV → Prop} {B : DEnds} {t u : TS}
theorem nsd {x : D} : ∀ n, SV.d x ≠ .scr n := fun n e => by cases e
theorem nsn {xs : List D} : ∀ n, SV.new xs ≠ .scr n := fun n e => by cases e
theorem nso {xs : List D} : ∀ n, SV.own xs ≠ .scr n := fun n e => by cases e
theorem de_vd {i : Nat} {s : SV} {x : D} (e : es[i]? = some (some s)) (h : s.dat = some x) : DE K (tVar i) es fun s => s.dat = some x := de_var e h
/-- more slots may have changed -/
theorem dg_js {g : TG} {x : D} {js ks : List Nat} {Q : Env' → Prop} (hs : ∀ k ∈ js, k ∈ ks) (h : DG K g x js es Q) : DG K g x ks es Q := fun P N M L σ H v S o R k =>
  h P N M L σ H v S o R fun e2 σ2 S2 sm q => k e2 σ2 S2 ⟨sm.1, fun j hj => sm.2 j fun z => hj (hs j z)⟩ q
/-- self.f = e, e perhaps a new list -/
theorem di_fldN {x C dx : Addr} {f : Str} {ds : List (Str × D)} {post : List (Str × D) → Prop} (e0 : es[0]? = some (some (.cls x))) (cl : Cls K C) (na : NoAttr K C f) (hl : ds.length < 1000) (hd : ds.lookup f = none) (h : DE K te es fun s => ∃ d, s.dat = some d ∧ DI K x C dx u (ds ++ [(f, d)]) es post) : DI K x C dx (tSeq (sFld K (tVar 0) te f) u) ds es post := by
  have h' : DE K (fun σ H Q => te σ H Q) es fun s => ∃ d, s.dat = some d ∧ DI K x C dx u (ds ++ [(f, d)]) es post := h
  intro F P M L σ H fs S m l n hx hf E k
  refine h' P _ M L σ H S.st _ fun s v H1 k1 ok q => ?_
  obtain ⟨d, ed, q⟩ := q
  have okd : Is K M H1 v d := ok.data S.st.bs ed
  have hf1 : IsFs K M H1 fs ds := IsFs.chg (fun a o e q => ⟨k1.k a o (fun z => q (S.st.bs.lm a z)) e, q⟩) (sqt_keep (M := M) (fun b o q e => k1.k b o (fun z => q (S.st.bs.lm b z)) e) S.st.bs.tr) _ _ hf
  have hx1 := k1.k _ _ l hx
  have S1 := S.kp' k1
  obtain ⟨w, hw, ew⟩ := S1.st.ok 0 _ e0
  have ew : w = .ref x := ew
  subst ew
  refine ⟨.ref x, hw, x, C, dx, fs, rfl, hx1, cl, na, by rw [hf1.len]; exact hl, ?_⟩
  rw [putF_new (hf1.lookN hd)]
  obtain ⟨S2, ki⟩ := S1.st.updX (gs := fs ++ [(f, v)]) m l hx1
  have kf : IsFs K M (L2.upd H1 x (.ins C dx (fs ++ [(f, v)]))) fs ds := IsFs.chg (fun a o e q => ⟨by rw [upd_ne (fun y => q (by rw [y]; exact m))]; exact e, q⟩) (sqt_keep (M := M) (fun b o q e => by rw [upd_ne (fun y => q (by rw [y]; exact m))]; exact e) S1.st.bs.tr) _ _ hf1
  have S3 : Stf K F P M L σ (L2.upd H1 x (.ins C dx (fs ++ [(f, v)]))) es := ⟨S2, S1.bs0, ⟨fun b o lb e => by rw [upd_ne (fun y => by rw [y, n] at e; cases e)]; exact S1.kp.k b o lb e, fun b lb => by
    exact (S1.kp.b b lb).upd (fun y => (S1.kp.b b lb).no (by rw [y]; exact hx1) (fun _ _ z => by cases z) (fun _ z => by cases z)) (fun q e => by rw [hx1] at e; unfold LamX.CodeO at e; cases e)⟩, S1.m0, S1.lo, S1.ln⟩
  exact q F P M L σ _ _ S3 m l n upd_same (kf.append' (ki okd)) E k
end
/-! ### sheets -/
abbrev SRow := (Int × Int) × List Part
def dRow (r : SRow) : D := dPiece (r.1, dParts r.2)
def SheetD (C : Addr) (rp : List SRow) : D := .obj C [("_rows", .lst (rp.map dRow))]
def inSb (c : Int) (p : Int × Int) : Bool := decide (p.1 ≤ c) && decide (c < p.1 + p.2)
theorem inSb_iff {c : Int} {p : Int × Int} : inSb c p = true ↔ inS c p := by
  unfold inSb inS
  rw [Bool.and_eq_true, decide_eq_true_eq, decide_eq_true_eq]
/-- what at tells -/
def atR (rp : List SRow) (x y : Int) : D := match rp with
  | [] => .non
  | r :: rs => if inSb x r.1 = true then (match r.2.find? fun p => inSb y p.1 with
    | some p => p.2
    | none => atR rs x y) else atR rs x y
structure BoxesOk (bs : List Box) : Prop where
  n : bs.length < 1000
  e : EdgesPre (bs.map (·.1))
  pl : Plain bs
  inb : ∀ b ∈ bs, inB b.1.1 ∧ inB (b.1.1 + b.1.2) ∧ inB b.2.1.1 ∧ inB (b.2.1.1 + b.2.1.2)
  val : ∀ b ∈ bs, b.2.2.pure = true ∧ b.2.2.fine = true ∧ b.2.2.dep ≤ 20
theorem EdgesOf.edges {bs : List Box} {os : List Int} (h : EdgesOf (bs.map (·.1)) os) : Edges bs os :=
  ⟨h.1, fun b hb => ⟨(h.2 _).mpr ⟨b.1, List.mem_map_of_mem hb, .inl rfl⟩, (h.2 _).mpr ⟨b.1, List.mem_map_of_mem hb, .inr rfl⟩⟩⟩
/-- a value at a pair of numbers -/
theorem at_ok {rp : List SRow} {x y : Int} : (atR rp x y ≠ .non → ∃ r ∈ rp, inS x r.1 ∧ ∃ p ∈ r.2, inS y p.1 ∧ p.2 = atR rp x y) ∧ (atR rp x y = .non → ∀ r ∈ rp, inS x r.1 → ∀ p ∈ r.2, inS y p.1 → p.2 = .non ∨ ∃ r ∈ rp, inS x r.1 ∧ ∃ p ∈ r.2, inS y p.1 ∧ p.2 = .non) := by
  induction rp with
  | nil => exact ⟨fun h => absurd rfl h, fun _ r hr => by cases hr⟩
  | cons r rs ih =>
    obtain ⟨i1, i2⟩ := ih
    have up1 : atR (r :: rs) x y = atR rs x y → (atR (r :: rs) x y ≠ .non → ∃ r' ∈ r :: rs, inS x r'.1 ∧ ∃ p ∈ r'.2, inS y p.1 ∧ p.2 = atR (r :: rs) x y) := fun e h => by
      rw [e] at h ⊢
      obtain ⟨r', hr', g⟩ := i1 h
      exact ⟨r', List.mem_cons_of_mem _ hr', g⟩
    by_cases hx : inSb x r.1 = true
    · cases hf : r.2.find? fun p => inSb y p.1 with
      | some p =>
        have e : atR (r :: rs) x y = p.2 := by
          unfold atR
          rw [if_pos hx, hf]
        have hp := List.mem_of_find?_eq_some hf
        have hy : inSb y p.1 = true := by simpa using List.find?_some hf
        refine ⟨fun _ => ⟨r, by simp, inSb_iff.mp hx, p, hp, inSb_iff.mp hy, e.symm⟩, fun h r' _ _ q _ _ => .inr ⟨r, by simp, inSb_iff.mp hx, p, hp, inSb_iff.mp hy, by rw [← e, h]⟩⟩
      | none =>
        have e : atR (r :: rs) x y = atR rs x y := by
          conv => lhs; unfold atR
          rw [if_pos hx, hf]
        refine ⟨up1 e, fun h r' hr' g p hp gy => ?_⟩
        rcases List.mem_cons.mp hr' with rfl | hr'
        · have := List.find?_eq_none.mp hf p hp
          exact absurd (inSb_iff.mpr gy) (by simpa using this)
        · rw [e] at h
          rcases i2 h r' hr' g p hp gy with z | ⟨r2, h2, z⟩
          · exact .inl z
          · exact .inr ⟨r2, List.mem_cons_of_mem _ h2, z⟩
    · have e : atR (r :: rs) x y = atR rs x y := by
        conv => lhs; unfold atR
        rw [if_neg hx]
      refine ⟨up1 e, fun h r' hr' g p hp gy => ?_⟩
      rcases List.mem_cons.mp hr' with rfl | hr'
      · exact absurd (inSb_iff.mpr g) hx
      · rw [e] at h
        rcases i2 h r' hr' g p hp gy with z | ⟨r2, h2, z⟩
        · exact .inl z
        · exact .inr ⟨r2, List.mem_cons_of_mem _ h2, z⟩
def kd (p : Part) : KD := ⟨p.1.1, p.1.2, [p.2]⟩
theorem kd_d (qs : List Part) : (qs.map kd).map KD.d = qs.map dPiece := by
  rw [List.map_map]
  rfl
theorem kd_sort (ps : List Part) : ((ps.map kd).mergeSort KD.le).map KD.d = (ps.mergeSort leP).map dPiece := by
  rw [← kd_d (ps.mergeSort leP)]
  congr 1
  symm
  exact List.map_mergeSort fun a _ b _ => rfl
theorem find_at {α : Type} {f : α → Bool} : ∀ {l : List α} {j : Nat} {p : α}, (∀ q ∈ l.take j, f q = false) → l[j]? = some p → f p = true → l.find? f = some p
  | [], _, _, _, h, _ => by cases h
  | a :: l, 0, p, _, h, hp => by
    cases h
    rw [List.find?_cons_of_pos hp]
  | a :: l, j + 1, p, n, h, hp => by
    rw [List.find?_cons_of_neg (by rw [n a (by simp)]; exact Bool.false_ne_true)]
    exact find_at (fun q hq => n q (by rw [List.take_succ_cons]; exact List.mem_cons_of_mem _ hq)) h hp
theorem atR_hit {r : SRow} {rs : List SRow} {x y : Int} {p : Part} (h : inSb x r.1 = true) (f : (r.2.find? fun p => inSb y p.1) = some p) : atR (r :: rs) x y = p.2 := by
  conv => lhs; unfold atR
  rw [if_pos h, f]
theorem atR_miss {r : SRow} {rs : List SRow} {x y : Int} (h : inSb x r.1 = true → (r.2.find? fun p => inSb y p.1) = none) : atR (r :: rs) x y = atR rs x y := by
  conv => lhs; unfold atR
  by_cases q : inSb x r.1 = true
  · rw [if_pos q, h q]
  · rw [if_neg q]
theorem drop_get {α : Type} {l : List α} {i : Nat} {a : α} (h : l[i]? = some a) : l.drop i = a :: l.drop (i + 1) := by
  have := (List.getElem?_eq_some_iff.mp h)
  rw [List.drop_eq_getElem_cons this.1, this.2]
theorem cut_nat {xs : List D} {i k : Nat} (hk : k ≤ xs.length) (hi : i ≤ xs.length) : cutD xs (some (i : Int)) (some (k : Int)) = (xs.take k).drop i := by
  unfold cutD
  rw [HT.sIx_nat, HT.sIx_nat, Nat.min_eq_left hi, Nat.min_eq_left hk, List.drop_take]
/-- numbers of a list's things -/
def numsOf (os : List Int) : List (Int × Int) := os.zipIdx.map fun p => (p.1, (p.2 : Int))
theorem numsOf_get {os : List Int} {i : Nat} {a : Int} (h : os[i]? = some a) : (numsOf os)[i]? = some (a, (i : Int)) := by
  unfold numsOf
  rw [List.getElem?_map, List.getElem?_zipIdx, h]
  simp
theorem numsOf_len (os : List Int) : (numsOf os).length = os.length := by
  unfold numsOf
  rw [List.length_map, List.length_zipIdx]
theorem numsOf_fst (os : List Int) : (numsOf os).map Prod.fst = os := by
  unfold numsOf
  rw [List.map_map]
  have : (Prod.fst ∘ fun p : Int × Nat => (p.1, (p.2 : Int))) = Prod.fst := rfl
  rw [this, List.zipIdx_map_fst]
theorem lookup_mem {β : Type} : ∀ {l : List (Int × β)} {k : Int} {v : β}, (l.map Prod.fst).Nodup → (k, v) ∈ l → l.lookup k = some v
  | [], _, _, _, h => by cases h
  | (a, b) :: l, k, v, nd, h => by
    rw [List.map_cons, List.nodup_cons] at nd
    rw [List.lookup_cons]
    rcases List.mem_cons.mp h with e | h'
    · cases e
      rw [beq_self_eq_true]
    · have : (k == a) = false := by
        rw [beq_eq_false_iff_ne]
        intro e
        exact nd.1 (List.mem_map.mpr ⟨_, h', e⟩)
      rw [this]
      exact lookup_mem nd.2 h'
theorem zip_fst_sub {β : Type} : ∀ (os : List Int) (us : List β), ((os.zip us).map Prod.fst).Sublist os
  | [], _ => .slnil
  | o :: os, [] => List.nil_sublist _
  | o :: os, u :: us => (zip_fst_sub os us).cons_cons o
theorem numsOf_look {os : List Int} (nd : os.Nodup) {i : Nat} {a : Int} (h : os[i]? = some a) : ((numsOf os).map fun p => (p.1, D.int p.2)).lookup a = some (.int i) := by
  refine lookup_mem (by rw [List.map_map]; exact (numsOf_fst os).symm ▸ nd) (List.mem_map.mpr ⟨(a, (i : Int)), List.mem_of_getElem? (numsOf_get h), rfl⟩)
theorem mem_get {α : Type} {l : List α} {a : α} (h : a ∈ l) : ∃ i : Nat, l[i]? = some a := List.mem_iff_getElem?.mp h
/-- a box as a strip's filling sees it -/
def bx (b : Box) : ((Int × Int) × D) × D := ((b.1, dPair b.2.1), b.2.2)
theorem bx_map (bs : List Box) : (bs.map bx).map dBox = bs.map dBx := by
  rw [List.map_map]
  rfl
theorem strip_is {bs : List Box} {os : List Int} (hr : os.Pairwise (· < ·)) {j : Nat} {a : Int} (ha : os[j]? = some a) : (fillAll os (between os) (bs.map bx))[j]? = some ((stripF bs a).map dPiece) := by
  rw [strip_get (fun b _ => between_nodup hr _) ha]
  congr 1
  unfold stripF
  rw [List.filter_map, List.map_map, List.map_map]
  have e : ((fun b : ((Int × Int) × D) × D => decide (a ∈ between os b.1.1)) ∘ bx) = fun b : Box => decide (b.1.1 ≤ a ∧ a < b.1.1 + b.1.2) := by
    funext b
    simp only [Function.comp]
    rw [decide_eq_decide]
    unfold between
    rw [List.mem_filter]
    constructor
    · rintro ⟨_, h⟩
      exact of_decide_eq_true h
    · intro h
      exact ⟨List.mem_of_getElem? ha, decide_eq_true h⟩
  rw [e]
  rfl
theorem strips_look {bs : List Box} {os : List Int} (hr : os.Pairwise (· < ·)) {j : Nat} {a : Int} (ha : os[j]? = some a) : (os.zip ((fillAll os (between os) (bs.map bx)).map D.lst)).lookup a = some (.lst ((stripF bs a).map dPiece)) := by
  have hs := strip_is (bs := bs) hr ha
  have hz : (os.zip ((fillAll os (between os) (bs.map bx)).map D.lst))[j]? = some (a, .lst ((stripF bs a).map dPiece)) := List.getElem?_zip_eq_some.mpr ⟨ha, by rw [List.getElem?_map, hs]; rfl⟩
  refine lookup_mem ?_ (List.mem_of_getElem? hz)
  exact List.Pairwise.sublist (zip_fst_sub _ _) (rise_nodup hr)
theorem partsF_ok {bs : List Box} (h : BoxesOk bs) (a : Int) : (∀ p ∈ stripF bs a, Cmp p.2) ∧ (stripF bs a).length < 1000 ∧ ∀ p ∈ partsF eqD bs a, PieceOk 20 p := by
  refine ⟨fun p hp => ?_, ?_, fun p hp => ?_⟩
  · obtain ⟨b, hb, _, rfl⟩ := mem_strip.mp hp
    obtain ⟨h1, h2, h3⟩ := h.val b hb
    exact ⟨h1, h2, Nat.le_trans h3 (by decide)⟩
  · unfold stripF
    rw [List.length_map]
    exact Nat.lt_of_le_of_lt (List.length_filter_le _ _) h.n
  · obtain ⟨h1, h2, h3⟩ := joinOut_in (eqv := eqD) (ps := (stripF bs a).mergeSort leP) (P := inB) (W := fun d => d.pure = true ∧ d.fine = true ∧ d.dep ≤ 20) (fun q hq => by
      obtain ⟨b, hb, _, rfl⟩ := mem_strip.mp (List.mem_mergeSort.mp hq)
      obtain ⟨_, _, g3, g4⟩ := h.inb b hb
      exact ⟨g3, g4, h.val b hb⟩) p hp
    have hs := h2.sub h1
    rw [show p.1.1 + p.1.2 - p.1.1 = p.1.2 by omega] at hs
    exact ⟨lit1900 h1.abs, lit1900 hs, h3.1, h3.2.1, h3.2.2⟩
theorem piecesF_ok {bs : List Box} (h : BoxesOk bs) {os : List Int} (ho : os.length < 1000) : (piecesF eqD bs os).length < 1000 ∧ ∀ p ∈ piecesF eqD bs os, Cmp p.2 := by
  refine ⟨?_, fun p hp => ?_⟩
  · unfold piecesF
    refine Nat.lt_of_le_of_lt (List.length_filterMap_le _ _) ?_
    rw [List.length_zip]
    omega
  · obtain ⟨j, a, c, _, _, _, rfl⟩ := mem_piece.mp hp
    obtain ⟨h1, h2, h3⟩ := parts_cmp (partsF_ok h a).2.2
    exact ⟨h1, h2, Nat.le_trans h3 (by decide)⟩
/-- the first pieces -/
noncomputable def piecesTo (bs : List Box) (os : List Int) (i : Nat) : List Part := ((os.zip os.tail).take i).filterMap fun z => if partsF eqD bs z.1 = [] then none else some ((z.1, z.2 - z.1), dParts (partsF eqD bs z.1))
theorem piecesTo_all (bs : List Box) (os : List Int) : piecesTo bs os (os.zip os.tail).length = piecesF eqD bs os := by
  unfold piecesTo piecesF
  rw [List.take_length]
theorem piecesTo_some {bs : List Box} {os : List Int} {i : Nat} {z : Int × Int} (hz : (os.zip os.tail)[i]? = some z) (ne : ¬ partsF eqD bs z.1 = []) : (piecesTo bs os (i + 1)).map dPiece = (piecesTo bs os i).map dPiece ++ [.tup [dPair (z.1, z.2 - z.1), dParts (partsF eqD bs z.1)]] := by
  unfold piecesTo
  rw [take_get hz, List.filterMap_append, List.map_append, List.filterMap_cons, if_neg ne]
  rfl
theorem piecesTo_none {bs : List Box} {os : List Int} {i : Nat} {z : Int × Int} (hz : (os.zip os.tail)[i]? = some z) (ne : partsF eqD bs z.1 = []) : piecesTo bs os (i + 1) = piecesTo bs os i := by
  unfold piecesTo
  rw [take_get hz, List.filterMap_append, List.filterMap_cons, if_pos ne, List.filterMap_nil, List.append_nil]
theorem piecesTo_len {bs : List Box} {os : List Int} {i : Nat} (ho : os.length < 64) : ((piecesTo bs os i).map dPiece).length < 100000 := by
  unfold piecesTo
  rw [List.length_map]
  refine Nat.lt_of_le_of_lt (List.length_filterMap_le _ _) ?_
  rw [List.length_take, List.length_zip]
  omega
/-- the slots of _formed in its last loop -/
noncomputable def envG (bs : List Box) (os : List Int) (i : Nat) (s10 s11 : Option SV) : Env' := [some (.d (.lst (bs.map dBx))), some (.d (.lst (os.map D.int))), some (.dcd (os.zip ((fillAll os (between os) (bs.map bx)).map D.lst))), some (.dcd ((numsOf os).map fun p => (p.1, D.int p.2))), none, none, none, none, none, some (.own ((piecesTo bs os i).map dPiece)), s10, s11, none, none, none]
end DL

namespace DL
open PySem PySem.Spec PyProof.Rows L2
variable [Tbl]
section
variable {K : PySem.W.Frag} {F : Fr} {P : List Pin} {N L M : AP} {H0 H H1 : Hp} {σ : L2.St} {es : Env'} {ta tb tc te : TE} {tt : TT} {Q : SV → Prop} {B : DEnds} {t u : TS}
/-- x, y, z = .., each as data -/
theorem ds_par3d {i j l : Nat} (h : DE K ta es fun s => ∃ x, s.dat = some x ∧ DE K tb es fun z => ∃ y, z.dat = some y ∧ DE K tc es fun w => ∃ u, w.dat = some u ∧ B.nx (((es.set i (some (.d x))).set j (some (.d y))).set l (some (.d u)))) : DS K (tPar3 i j l (tCons ta (tCons tb (tCons tc tNil)))) es B := fun F P M L σ H S E o => by
  refine h P _ M L σ H S.st _ fun s v H1 k1 o1 q1 => ?_
  obtain ⟨x, ex, q1⟩ := q1
  have i1 : Is K M H1 v x := o1.data S.st.bs ex
  have S1 := S.kp' k1
  refine q1 P _ M L σ H1 S1.st _ fun s2 v2 H2 k2 o2 q2 => ?_
  obtain ⟨y, ey, q2⟩ := q2
  have i2 : Is K M H2 v2 y := o2.data S1.st.bs ey
  have S2 := S1.kp' k2
  refine q2 P _ M L σ H2 S2.st _ fun s3 v3 H3 k3 o3 q3 => ?_
  obtain ⟨u, eu, q3⟩ := q3
  have i3 : Is K M H3 v3 u := o3.data S2.st.bs eu
  have S3 := S2.kp' k3
  refine ⟨v, v2, v3, rfl, ?_⟩
  have j2 := Is.kp k3 S2.st.bs i2
  have j1 := Is.kp k3 S2.st.bs (Is.kp k2 S1.st.bs i1)
  exact o.nx _ _ _ _ _ (((S3.setp (i := i) (s := .d x) j1 trivial).setp (i := j) (s := .d y) j2 trivial).setp (i := l) (s := .d u) i3 trivial) q3
end
/-! ### drawn orders -/
theorem erase_perm {α : Type} : ∀ {xs : List α} {n : Nat} {x : α}, xs[n]? = some x → (x :: xs.eraseIdx n).Perm xs
  | [], _, _, h => by cases h
  | a :: xs, 0, x, h => by cases h; exact .refl _
  | a :: xs, n + 1, x, h => by
    have := erase_perm (xs := xs) (n := n) (x := x) h
    exact (List.Perm.swap a x _).trans (this.cons a)
theorem perm_map {α β : Type} {f : α → β} {g : β → α} (hg : ∀ a, g (f a) = a) {ys : List β} {xs : List α} (h : ys.Perm (xs.map f)) : ∃ zs : List α, zs.Perm xs ∧ ys = zs.map f := by
  refine ⟨ys.map g, ?_, ?_⟩
  · have := h.map g
    rw [List.map_map] at this
    have e : (g ∘ f) = id := funext hg
    rw [e, List.map_id] at this
    exact this
  · rw [List.map_map]
    have : ys.map (f ∘ g) = ys.map id := List.map_congr_left fun y hy => by
      obtain ⟨x, _, rfl⟩ := List.mem_map.mp (h.subset hy)
      show f (g (f x)) = f x
      rw [hg]
    rw [this, List.map_id]
def unBx : D → Box
  | .tup [.tup [.int a, .int b], .tup [.int c, .int d], v] => ((a, b), (c, d), v)
  | _ => ((0, 0), (0, 0), .non)
theorem unBx_dBx (b : Box) : unBx (dBx b) = b := rfl
/-! ### the boxes of a sheet, as the law makes them -/
def valF (bs : List Box) (x y : Int) : D := match bs with
  | [] => .non
  | b :: bs => if inSb x b.1 = true ∧ inSb y b.2.1 = true then b.2.2 else valF bs x y
/-- no pair lies in two boxes -/
def Apart (bs : List Box) : Prop := ∀ b ∈ bs, ∀ c ∈ bs, ∀ x y, inS x b.1 → inS y b.2.1 → inS x c.1 → inS y c.2.1 → b = c
theorem valF_in : ∀ {bs : List Box} {x y : Int}, (∃ b ∈ bs, inS x b.1 ∧ inS y b.2.1 ∧ b.2.2 = valF bs x y) ∨ (valF bs x y = .non ∧ ∀ b ∈ bs, ¬ (inS x b.1 ∧ inS y b.2.1))
  | [], x, y => .inr ⟨rfl, fun b hb => by cases hb⟩
  | b :: bs, x, y => by
    by_cases h : inSb x b.1 = true ∧ inSb y b.2.1 = true
    · refine .inl ⟨b, by simp, inSb_iff.mp h.1, inSb_iff.mp h.2, ?_⟩
      conv => rhs; unfold valF
      rw [if_pos h]
    · have e : valF (b :: bs) x y = valF bs x y := by
        conv => lhs; unfold valF
        rw [if_neg h]
      rw [e]
      rcases valF_in (bs := bs) (x := x) (y := y) with ⟨c, hc, g⟩ | ⟨h1, h2⟩
      · exact .inl ⟨c, List.mem_cons_of_mem _ hc, g⟩
      · refine .inr ⟨h1, fun c hc g => ?_⟩
        rcases List.mem_cons.mp hc with rfl | hc
        · exact h ⟨inSb_iff.mpr g.1, inSb_iff.mpr g.2⟩
        · exact h2 c hc g
/-- the rows as a sheet keeps them, of boxes -/
theorem rows_of {bs : List Box} {os : List Int} (pl : Plain bs) (E : Edges bs os) : ∃ rp : List SRow, rowsF eqD bs os = rp.map (fun r => (r.1, dParts r.2)) ∧ ∀ r ∈ rp, ∃ a, r.2 = partsF eqD bs a := by
  obtain ⟨h1, _⟩ := rows_ok eqD_eq pl E
  have key : ∀ l : List Part, (∀ q ∈ l, ∃ a, q.2 = dParts (partsF eqD bs a)) → ∃ rp : List SRow, l = rp.map (fun r => (r.1, dParts r.2)) ∧ ∀ r ∈ rp, ∃ a, r.2 = partsF eqD bs a := by
    intro l
    induction l with
    | nil => exact fun _ => ⟨[], rfl, fun r hr => by cases hr⟩
    | cons q l ih =>
      intro h
      obtain ⟨a, ha⟩ := h q (by simp)
      obtain ⟨rp, e, hr⟩ := ih fun z hz => h z (List.mem_cons_of_mem _ hz)
      refine ⟨(q.1, partsF eqD bs a) :: rp, ?_, fun r hr' => ?_⟩
      · rw [List.map_cons, ← e, ← ha]
      · rcases List.mem_cons.mp hr' with rfl | hr'
        · exact ⟨a, rfl⟩
        · exact hr r hr'
  exact key _ fun q hq => (h1 q hq).2
theorem dRow_rows {rp : List SRow} : (rp.map fun r : SRow => ((r.1, dParts r.2) : Part)).map dPiece = rp.map dRow := by
  rw [List.map_map]
  rfl
/-- what at tells is what the boxes hold -/
theorem at_val {bs cs : List Box} {os : List Int} {rp : List SRow} (hp : cs.Perm bs) (pl : Plain cs) (E : Edges cs os) (er : rowsF eqD cs os = rp.map (fun r => (r.1, dParts r.2))) (ap : Apart bs) (nn : ∀ b ∈ bs, b.2.2 ≠ .non) (x y : Int) : atR rp x y = valF bs x y := by
  obtain ⟨_, h2⟩ := rows_ok eqD_eq pl E
  have k : ∀ w, (∃ r ∈ rp, inS x r.1 ∧ ∃ p ∈ r.2, inS y p.1 ∧ p.2 = w) ↔ ∃ b ∈ bs, inS x b.1 ∧ inS y b.2.1 ∧ b.2.2 = w := fun w => by
    constructor
    · rintro ⟨r, hr, g1, p, hp', g2, g3⟩
      obtain ⟨b, hb, g⟩ := (h2 x y w).mp ⟨(r.1, dParts r.2), by rw [er]; exact List.mem_map_of_mem hr, g1, r.2, rfl, p, hp', g2, g3⟩
      exact ⟨b, hp.subset hb, g⟩
    · rintro ⟨b, hb, g⟩
      obtain ⟨q, hq, g1, ps, e, p, hp', g2, g3⟩ := (h2 x y w).mpr ⟨b, hp.symm.subset hb, g⟩
      rw [er] at hq
      obtain ⟨r, hr, rfl⟩ := List.mem_map.mp hq
      have ep := dParts_inj e
      subst ep
      exact ⟨r, hr, g1, p, hp', g2, g3⟩
  obtain ⟨a1, a2⟩ := at_ok (rp := rp) (x := x) (y := y)
  by_cases h : atR rp x y = .non
  · rcases valF_in (bs := bs) (x := x) (y := y) with ⟨b, hb, g1, g2, g3⟩ | ⟨e, _⟩
    · obtain ⟨r, hr, w1, p, hp', w2, w3⟩ := (k _).mpr ⟨b, hb, g1, g2, rfl⟩
      rcases a2 h r hr w1 p hp' w2 with z | z
      · exact absurd (w3.symm.trans z) (nn b hb)
      · obtain ⟨c, hc, _, _, z⟩ := (k .non).mp z
        exact absurd z (nn c hc)
    · rw [h, e]
  · obtain ⟨b, hb, g1, g2, g3⟩ := (k _).mp (a1 h)
    rcases valF_in (bs := bs) (x := x) (y := y) with ⟨c, hc, w1, w2, w3⟩ | ⟨_, e⟩
    · rw [← g3, ap b hb c hc x y g1 g2 w1 w2, w3]
    · exact absurd ⟨g1, g2⟩ (e b hb)
/-- stretches that rise -/
def Rising (ps : List (Int × Int)) : Prop := ps.Pairwise fun p q => p.1 + p.2 ≤ q.1
theorem rising_apart {ps : List (Int × Int)} (h : Rising ps) {p q : Int × Int} (hp : p ∈ ps) (hq : q ∈ ps) {x : Int} (h1 : inS x p) (h2 : inS x q) : p = q := by
  obtain ⟨i, hi⟩ := mem_get hp
  obtain ⟨j, hj⟩ := mem_get hq
  have li := List.getElem?_eq_some_iff.mp hi
  have lj := List.getElem?_eq_some_iff.mp hj
  rcases Nat.lt_trichotomy i j with c | c | c
  · have := List.pairwise_iff_getElem.mp h i j li.1 lj.1 c
    rw [li.2, lj.2] at this
    have := h1.2
    have := h2.1
    omega
  · subst c
    rw [hi] at hj
    exact Option.some.inj hj
  · have := List.pairwise_iff_getElem.mp h j i lj.1 li.1 c
    rw [li.2, lj.2] at this
    have := h1.1
    have := h2.2
    omega
theorem rising_nodup {ps : List (Int × Int)} (h : Rising ps) (pos : ∀ p ∈ ps, 0 < p.2) : ps.Nodup := by
  have : ps.Pairwise fun p q => p.1 + p.2 ≤ q.1 ∧ 0 < p.2 := by
    induction ps with
    | nil => exact .nil
    | cons p ps ih =>
      obtain ⟨h1, h2⟩ := List.pairwise_cons.mp h
      exact .cons (fun q hq => ⟨h1 q hq, pos p (by simp)⟩) (ih h2 fun q hq => pos q (List.mem_cons_of_mem _ hq))
  refine List.Pairwise.imp (fun {p q} hpq e => ?_) this
  subst e
  omega
def bKey (b : Box) : (Int × Int) × (Int × Int) := (b.1, b.2.1)
def prodL (fs os : List (Int × Int)) : List ((Int × Int) × (Int × Int)) := fs.flatMap fun p => os.map fun q => (p, q)
theorem prodL_mem {fs os : List (Int × Int)} {k : (Int × Int) × (Int × Int)} : k ∈ prodL fs os ↔ k.1 ∈ fs ∧ k.2 ∈ os := by
  unfold prodL
  rw [List.mem_flatMap]
  constructor
  · rintro ⟨p, hp, h⟩
    obtain ⟨q, hq, rfl⟩ := List.mem_map.mp h
    exact ⟨hp, hq⟩
  · rintro ⟨h1, h2⟩
    exact ⟨k.1, h1, List.mem_map.mpr ⟨k.2, h2, rfl⟩⟩
theorem prodL_nodup {os : List (Int × Int)} (ho : os.Nodup) : ∀ {fs : List (Int × Int)}, fs.Nodup → (prodL fs os).Nodup
  | [], _ => .nil
  | p :: fs, h => by
    obtain ⟨h1, h2⟩ := List.nodup_cons.mp h
    show (List.flatMap _ (p :: fs)).Nodup
    rw [List.flatMap_cons]
    refine List.nodup_append.mpr ⟨?_, prodL_nodup ho h2, fun a ha b hb e => ?_⟩
    · refine List.Pairwise.map _ (fun a b hab e => hab ?_) ho
      injection e
    · obtain ⟨q, _, rfl⟩ := List.mem_map.mp ha
      subst e
      exact h1 (prodL_mem.mp hb).1
theorem prodL_len (fs os : List (Int × Int)) : (prodL fs os).length = fs.length * os.length := by
  unfold prodL
  induction fs with
  | nil => simp
  | cons p fs ih => rw [List.flatMap_cons, List.length_append, List.length_map, ih, List.length_cons, Nat.succ_mul, Nat.add_comm]
theorem nodup_inj {bs : List Box} (h : (bs.map bKey).Nodup) {b c : Box} (hb : b ∈ bs) (hc : c ∈ bs) (e : bKey b = bKey c) : b = c := by
  obtain ⟨i, hi⟩ := mem_get hb
  obtain ⟨j, hj⟩ := mem_get hc
  have li := List.getElem?_eq_some_iff.mp hi
  have lj := List.getElem?_eq_some_iff.mp hj
  have key : ∀ {i j : Nat} {b c : Box}, bs[i]? = some b → bs[j]? = some c → bKey b = bKey c → ¬ i < j := fun {i j b c} hi hj e l => by
    have li := List.getElem?_eq_some_iff.mp hi
    have lj := List.getElem?_eq_some_iff.mp hj
    have := List.pairwise_iff_getElem.mp h i j (by rw [List.length_map]; exact li.1) (by rw [List.length_map]; exact lj.1) l
    rw [List.getElem_map, List.getElem_map, li.2, lj.2] at this
    exact this e
  have : i = j := by
    have := key hi hj e
    have := key hj hi e.symm
    omega
  subst this
  rw [hi] at hj
  exact Option.some.inj hj
theorem apart_of {fs os : List (Int × Int)} {bs : List Box} (hf : Rising fs) (ho : Rising os) (nf : fs.Nodup) (no_ : os.Nodup) (h : (bs.map bKey).Sublist (prodL fs os)) : Apart bs := fun b hb c hc x y g1 g2 g3 g4 => by
  have mb := prodL_mem.mp (h.subset (List.mem_map_of_mem (f := bKey) hb))
  have mc := prodL_mem.mp (h.subset (List.mem_map_of_mem (f := bKey) hc))
  have e1 : b.1 = c.1 := rising_apart hf mb.1 mc.1 g1 g3
  have e2 : b.2.1 = c.2.1 := rising_apart ho mb.2 mc.2 g2 g4
  refine nodup_inj (List.Pairwise.sublist h (prodL_nodup no_ nf)) hb hc ?_
  unfold bKey
  rw [e1, e2]
theorem fineA {xs : List D} {k : Nat} (h : ∀ x ∈ xs, x.fine = true ∧ x.dep ≤ k) : D.fineAll xs = true ∧ D.depAll xs ≤ k := by
  induction xs with
  | nil => exact ⟨rfl, Nat.zero_le _⟩
  | cons x xs ih =>
    obtain ⟨h1, h2⟩ := h x (by simp)
    obtain ⟨h3, h4⟩ := ih fun y hy => h y (List.mem_cons_of_mem _ hy)
    refine ⟨?_, ?_⟩
    · show (D.fine x && D.fineAll xs) = true
      rw [h1, h3]
      rfl
    · show max (D.dep x) (D.depAll xs) ≤ k
      omega
theorem fitL {xs : List D} {k : Nat} (h : ∀ x ∈ xs, x.fine = true ∧ x.dep ≤ k) : Fit (D.lst xs).wt (k + 1) (D.lst xs) := ⟨(fineA h).1, Nat.le_refl _, Nat.succ_le_succ (fineA h).2⟩
/-- xs != [] -/
theorem ne_list_nil {K : PySem.W.Frag} {Q : SV → Prop} {s : SV} {xs : List D} (e : s.rd = some (.lst xs)) (h : ∀ x ∈ xs, x.fine = true ∧ x.dep ≤ 30) (q : Q (.d (.bl (!xs.isEmpty)))) : RR K (rNeX K) s (.new []) Q :=
  neF e rfl (fitL h) (Fit.lst FitA.nil) (by decide) (by decide) (by rw [nil_eq]; exact q)
theorem eq_list_nil {K : PySem.W.Frag} {Q : SV → Prop} {s : SV} {xs : List D} (e : s.rd = some (.lst xs)) (h : ∀ x ∈ xs, x.fine = true ∧ x.dep ≤ 30) (q : Q (.d (.bl xs.isEmpty))) : RR K (rEqX K) s (.new []) Q :=
  eqF e rfl (fitL h) (Fit.lst FitA.nil) (by decide) (by decide) (by rw [nil_eq]; exact q)
end DL

namespace DL
open PySem PySem.Spec PyProof.Rows L2
/-! ### name = {k: v for ..} -/
section
variable {X : Cx}
/-- what a comprehension's block gives, wherever its frame stands -/
abbrev InBlk (X : Cx) (scope : Scope) (p : Cx → Prop) : Prop := ∀ (s : Shared) (H : Hp) (C : Addr) (cl : List (Str × Addr)) (fp : List Addr), p (X.blk s H scope (compEnvC scope cl C X.env) fp)
theorem ps_setDc {i : Nat} {y : Str} {py : Pos} {kx vx tg iter : Expr} {ifs : List Expr} {scope : Scope} {own : List (Str × Nat)} {pos spos : Pos} {wi : TI} {g : TG} {tt : TT} {tk tv : TE} (hc : X.calm = true) (hN : X.N.Nodup) (hy : X.N[i]? = some y) (hyl : X.env.scope.names.lookup y = some .local)
    (hsw : swapsWith (.DictComp kx vx [⟨tg, iter, ifs, 0⟩] scope pos) (some (.Name y py)) spos.line X.env = pure true) (hi : PI X tg iter wi) (ok : BlkOk X.N X.env.scope scope own)
    (hg : InBlk X scope fun Y => PG Y tg g) (ht : InBlk X scope fun Y => PTs Y ifs tt) (hk : InBlk X scope fun Y => PE Y kx tk) (hv : InBlk X scope fun Y => PE Y vx tv) (hs : ∀ x, foldedSetIterable iter X.env x = pure x := by intro _; rfl) :
    PS X (.Assign [.Name y py] (.DictComp kx vx [⟨tg, iter, ifs, 0⟩] scope pos) spos) (tAsg (tDc wi g tt tk tv (own.map (·.2))) (gName i)) := by
  constructor
  intro pins s σ H E I h
  rw [exec_Assign_Name_used _ _ _ _ hsw]
  have go : tDc wi g tt tk tv (own.map (·.2)) σ H fun x H1 => gName i x σ H1 E.nx := h
  have core := dc_core (pos := pos) (pos' := firstIterPos [⟨tg, iter, ifs, 0⟩] pos) (use := some (assign (.Name y py) X.env)) (Qf := fun _ s' => SP X pins E .next s') hc hN I hi ok hg ht hk hv hs go (by
    intro D0 C s' m H' I' q hn fp
    show wpAny _ _ (assign (.Name y py) X.env (.ref D0)) _ _ _
    refine wpAny_assign_Name (store_ok2 (v := V.ref D0) I' hN hy (.inl hyl) rfl ?_ (.inr hyl))
    rintro s2 I2 ⟨b, sb, hb⟩
    obtain ⟨f0, f1, f2, f3, f4, f5⟩ := fp
    have nb : C ≠ b := by
      rcases hb with z | z
      · rw [z]
        exact f1
      · intro e
        exact f4 y b z e.symm
    refine ⟨m, hn.sameBut sb nb, ?_⟩
    intro h3 sb3
    refine ⟨_, H', I2.turned (t' := s2.toks) ?_ f0 f1 f3 f4 f5, q⟩
    intro b' o hb' e
    exact (sb3.2 b' hb').trans e)
  have eu : evalThenUse (.DictComp kx vx [⟨tg, iter, ifs, 0⟩] scope pos) X.env (assign (.Name y py) X.env) = (comprehension (.DictComp kx vx [⟨tg, iter, ifs, 0⟩] scope pos) scope X.env (firstIterPos [⟨tg, iter, ifs, 0⟩] pos) newDict false (eval iter X.env) (some (assign (.Name y py) X.env)) >>= fun _ => pure ()) := rfl
  rw [eu]
  exact wpAny_bind (wpAny_standAt (wpAny_bind (wpAny_bind (thn core fun _ s' hq => wpAny_pure (wpAny_pure hq)))))
theorem sw_trueD {kx vx : Expr} {gs : List Comprehension} {scope : Scope} {pos py : Pos} {y : Str} {l : Nat} {env : Env} (hk : env.scope.kind = .function) (hy : env.scope.names.lookup y = some .local) (hl : (py.line == pos.line) = true)
    (ha : (scope.names.any fun z => z.1 == y && (z.2 == .local || z.2 == .cell)) = false) : swapsWith (.DictComp kx vx gs scope pos) (some (.Name y py)) l env = pure true := by
  have h1 : env.kindOf y = some .local := hy
  have h2 : env.blockKind = .function := by
    unfold Env.blockKind
    rw [hk]
    rfl
  have h3 : (scope.names.any fun (n, k) => n == y && (k == .local || k == .cell)) = false := ha
  unfold swapsWith
  simp only [h1, h2, h3, Expr.pos, hl]
  rfl
end
end DL

namespace K32
open PySem PySem.Spec PyProof.Rows L2 DL
variable [Tbl]
local macro_rules | `(tactic| walk_at "dl") => `(tactic| first
  | ((with_reducible refine de_var (s := ?sv) ?hv ?_); (case hv => exact rfl)) | with_reducible refine de_int ?_ | with_reducible refine de_bl ?_ | with_reducible refine de_str ?_ | with_reducible refine de_non ?_ | with_reducible refine de_ty ?_
  | with_reducible refine de_tup' ?_ | with_reducible refine de_lst' ?_ | ((with_reducible refine small_and ?hz ?_); (case hz => exact Nat.le_of_ble_eq_true rfl)) | with_reducible refine nall_d ?_ | with_reducible refine nall_new ?_ | with_reducible refine nall_bag ?_ | with_reducible refine nall_scr ?_ | with_reducible refine nall_nil ?_
  | with_reducible refine de_op ?_ | with_reducible refine de_un ?_ | with_reducible refine de_chain ?_ | with_reducible refine de_cb ?_ | with_reducible refine de_sl ?_
  | with_reducible refine do_none ?_ | with_reducible refine do_some ?_ | with_reducible refine da_cons ?_ | with_reducible refine da_nil ?_
  | with_reducible refine dt_test ?_ | with_reducible refine dt_B ?_ | with_reducible refine dt_not ?_ | with_reducible refine dt_and ?_ | with_reducible refine dt_or ?_ | with_reducible refine dt_yes ?_
  | with_reducible refine de_andV ?_ | with_reducible refine de_orV ?_ | with_reducible refine de_notV ?_
  | with_reducible refine ds_next ?_ | with_reducible refine ds_seq ?_ | with_reducible refine ds_ret ?_ | with_reducible refine ds_retN ?_ | with_reducible refine ds_if ?_ | with_reducible refine ds_brk ?_ | with_reducible refine ds_cont ?_
  | with_reducible refine ds_set ?_
  | with_reducible refine plus_i ?_ | with_reducible refine sub_i ?_ | with_reducible refine lt_i ?_ | with_reducible refine gt_i ?_ | with_reducible refine ge_i ?_ | with_reducible refine le_i ?_ | with_reducible refine le_s ?_ | with_reducible refine neg_i ?_
  | with_reducible refine eq_ii ?_ | with_reducible refine ne_ii ?_ | with_reducible refine eq_ss ?_ | with_reducible refine ne_ss ?_
  | with_reducible refine is_b ?_ | with_reducible refine isnot_b ?_ | with_reducible refine is_n ?_ | with_reducible refine isnot_n ?_ | with_reducible refine in_r ?_ | with_reducible refine notin_r ?_
  | with_reducible refine len_x rfl rfl ?_ | with_reducible refine abs_x ?_ | with_reducible refine max_x ?_ | with_reducible refine min_x ?_ | with_reducible refine rng_x ?_
  | with_reducible refine bag_ix (.inl rfl) (fun g => ?_) | with_reducible refine bag_ix (.inr rfl) (fun g => ?_)
  | with_reducible refine nown_d ?_ | with_reducible refine nown_new ?_ | with_reducible refine ret_d ?_ | with_reducible refine ret_new ?_ | with_reducible refine ret_own ?_
  | with_reducible refine ⟨_, rfl, ?_⟩ | dsimp only [sto_d, sto_new, sto_bag, sto_scr, out_d, out_new, out_own, arg_d, arg_new, arg_bag, arg_scr, List.set, List.map_cons, List.map_nil])

structure CS where
  C_Sheet : Addr
  CO__parts : Addr
  PT__parts : Addr
  LM__parts : LamD

def sp__end (K : PySem.W.Frag) (Z : CS) : Sp := spQ K 1 (fun p : Int × Int => [.d (dPair p)]) (fun _ => True) fun p r => r = .d (.int (p.1 + p.2))
def sp_lies_in (K : PySem.W.Frag) (Z : CS) : Sp := spQ K 2 (fun y : Int × (Int × Int) => [.d (.int y.1), .d (dPair y.2)]) (fun _ => True) fun y r => r = .d (.bl (inSb y.1 y.2))
def sp_edges (K : PySem.W.Frag) (Z : CS) : Sp := spQ K 1 (fun ps : List (Int × Int) => [.d (.lst (ps.map dPair))]) EdgesPre fun ps r => ∃ os : List Int, r = .new (os.map D.int) ∧ EdgesOf ps os
def sp_pieces_between (K : PySem.W.Frag) (Z : CS) : Sp := spQ K 1 (fun os : List Int => [.d (.lst (os.map D.int))]) (fun os => os.length ≤ 1000 ∧ os.Pairwise (· < ·) ∧ ∀ k ∈ os, 0 ≤ k) fun os r => r = .new ((os.zip os.tail).map fun z => dPair (z.1, z.2 - z.1))
def sp_joined (K : PySem.W.Frag) (Z : CS) : Sp := spQ K 1 (fun ps : List Part => [.d (.lst (ps.map dPiece))]) (fun ps => ps.length < 1000 ∧ ∀ p ∈ ps, Cmp p.2) fun ps r => r = .new ((joinOut eqD ps).map dPiece)
def sp__parts (K : PySem.W.Frag) (Z : CS) : Sp := spQ K 1 (fun ps : List Part => [.d (.lst (ps.map dPiece))]) (fun ps => ps.length < 1000 ∧ ∀ p ∈ ps, Cmp p.2) fun ps r => r = .d (dParts (joinOut eqD (ps.mergeSort leP)))
def sp__formed (K : PySem.W.Frag) (Z : CS) : Sp := spQ K 1 (fun bs : List Box => [.d (.lst (bs.map dBx))]) BoxesOk fun bs r => ∃ os : List Int, EdgesOf (bs.map (·.1)) os ∧ r = .new ((rowsF eqD bs os).map dPiece)
def sp_Sheet___init__ (K : PySem.W.Frag) (Z : CS) : Sp := spI K Z.C_Sheet 1 (fun ss => ∃ bs : List Box, ss = [.d (.lst (bs.map dBx))] ∧ BoxesOk bs) fun ss fs => ∀ bs : List Box, ss = [.d (.lst (bs.map dBx))] → ∃ os : List Int, EdgesOf (bs.map (·.1)) os ∧ fs = [(("_rows" : Str), D.lst ((rowsF eqD bs os).map dPiece))]
def sp_Sheet_at (K : PySem.W.Frag) (Z : CS) : Sp := spQ K 3 (fun y : List SRow × Int × Int => [.d (SheetD Z.C_Sheet y.1), .d (.int y.2.1), .d (.int y.2.2)]) (fun _ => True) fun y r => r = .d (atR y.1 y.2.1 y.2.2)
def sp__cells_of (K : PySem.W.Frag) (Z : CS) : Sp := spQ K 1 (fun ps : List Part => [.d (dParts ps)]) (fun ps => ps.length ≤ 100000) fun ps r => r = .d (.int (cellsF ps))
def sp_Sheet_area (K : PySem.W.Frag) (Z : CS) : Sp := spQ K 1 (fun rp : List SRow => [.d (SheetD Z.C_Sheet rp)]) (fun rp => rp.length ≤ 100000 ∧ ∀ r ∈ rp, r.2.length ≤ 100000 ∧ r.1.2.natAbs.log2 < 10000 ∧ (cellsF r.2).natAbs.log2 < 10000) fun rp r => r = .d (.int (rp.map fun r => r.1.2 * cellsF r.2).sum)
def sp__law_in (K : PySem.W.Frag) (Z : CS) : Sp := spQ K 2 (fun y : (Int × Int) × Int => [.d (dPair y.1), .d (.int y.2)]) (fun _ => True) fun y r => r = .d (.bl (inSb y.2 y.1))
def sp__law_whole (K : PySem.W.Frag) (Z : CS) : Sp := spQ K 1 (fun n : Int => [.d (.int n)]) (fun _ => True) fun _ r => r = .d (.bl true)
def sp__law_shuffled (K : PySem.W.Frag) (Z : CS) : Sp := spQ K 2 (fun xs : List D => [.bag, .d (.lst xs)]) (fun xs => xs.length ≤ 1000 ∧ ∀ x ∈ xs, x.fine = true ∧ x.dep ≤ 30) fun xs r => ∃ ys : List D, r = .new ys ∧ ys.Perm xs
structure SideOk (ps : List (Int × Int)) : Prop where
  lo : 1 ≤ ps.length
  hi : ps.length ≤ 6
  rs : Rising ps
  el : ∀ p ∈ ps, 0 ≤ p.1 ∧ 1 ≤ p.2 ∧ p.1 + p.2 ≤ 3000000000000000000000000000000
def sp__law_side (K : PySem.W.Frag) (Z : CS) : Sp := spQ K 1 (fun _ : Unit => [.bag]) (fun _ => True) fun _ r => ∃ ps : List (Int × Int), r = .new (ps.map dPair) ∧ SideOk ps
def sp__law_cells (K : PySem.W.Frag) (Z : CS) : Sp := spQ K 2 (fun ps : List (Int × Int) => [.bag, .d (.lst (ps.map dPair))]) SideOk fun _ r => ∃ cs : List Int, r = .new (cs.map D.int)
def sp__law_value (K : PySem.W.Frag) (Z : CS) : Sp := spQ K 3 (fun y : List Box × Int × Int => [.d (.lst (y.1.map dBx)), .d (.int y.2.1), .d (.int y.2.2)]) (fun _ => True) fun y r => r = .d (valF y.1 y.2.1 y.2.2)
def sp__law_right (K : PySem.W.Frag) (Z : CS) : Sp := spQ K 1 (fun _ : Unit => [.bag]) (fun _ => True) fun _ r => r = .d (.bl true)
def sp_law (K : PySem.W.Frag) : Sp := spD K 1 (fun ss => ∃ ns : List Int, ss = [.scr ns] ∧ ns.length ≤ 63) fun _ r => r = .d (.bl true)


structure LF (K : PySem.W.Frag) (Z : CS) : Prop where
  i : InsF K Z.C_Sheet
  n_rows : NoAttr K Z.C_Sheet "_rows"
  o_tuple : PySem.W.notFirst K Z.C_Sheet (.type "tuple") = true
  o_str : PySem.W.notFirst K Z.C_Sheet (.type "str") = true
  o_obj : PySem.W.notFirst K Z.C_Sheet (.type "object") = true
  k_tuple : PySem.W.kitOne K (.type "tuple") (.ref Z.C_Sheet) = some false
  k_str : PySem.W.kitOne K (.type "str") (.ref Z.C_Sheet) = some false
  tT__parts : (Z.PT__parts, lq "_parts") ∈ Tbl.T
  one__parts : ∀ q, (Z.PT__parts, q) ∈ Tbl.T → q = lq "_parts"

/-- lies_in: 0 cell, 1 stretch, 2 first, 3 many -/
def rd_lies_in (K : PySem.W.Frag) (Z : CS) : TS := (tSeq (tAsg (tVar 1) (gTup K 2 (gCons (gName 2) (gCons (gName 3) gNil))))
    (tRet (tChain (rLe K) rLt (tVar 2) (tVar 0) (tOp (rPlus K) (tVar 2) (tVar 3)))))
/-- edges: 0 stretches, 1 first, 2 _, 3 stretch -/
def rd_edges (K : PySem.W.Frag) (Z : CS) : TS := (tRet (tSortSet K (tOp (rPlus K) (tLc (iList K (tVar 0)) (gTup K 2 (gCons (gName 1) (gCons (gName 2) gNil))) tYes (tVar 1) [1, 2]) (tLc (iList K (tVar 0)) (gName 3) tYes (tCall (sp__end K Z) [] E0 (tCons (tVar 3) tNil)) [3]))))
/-- pieces_between: 0 bounds, 1 first, 2 end -/
def rd_pieces_between (K : PySem.W.Frag) (Z : CS) : TS := (tRet (tLc (iPw K (tCons (tVar 0) tNil)) (gTup K 2 (gCons (gName 1) (gCons (gName 2) gNil))) tYes (tTup (tCons (tVar 1) (tCons (tOp rSubX (tVar 2) (tVar 1)) tNil))) [1, 2]))
/-- joined: 0 pieces, 1 runs, 2 first, 3 many, 4 worth, 5 end -/
def rd_joined (K : PySem.W.Frag) (Z : CS) : TS := (tSeq (tAsg (tLst tNil) (gName 1))
    (tSeq (tFor (iList K (tVar 0)) (gTup K 2 (gCons (gTup K 2 (gCons (gName 2) (gCons (gName 3) gNil))) (gCons (gName 4) gNil))) (tIfS (tAnd (tTruX K (tVar 1)) (tAnd (tTest (tOp (rEqX K) (tOp (rIx K) (tOp (rIx K) (tVar 1) (tUn rNeg (tC (.int 1)))) (tC (.int 1))) (tVar 2))) (tTest (tOp (rEqX K) (tOp (rIx K) (tOp (rIx K) (tVar 1) (tUn rNeg (tC (.int 1)))) (tC (.int 2))) (tVar 4))))) (tAsg (tOp (rPlus K) (tVar 2) (tVar 3)) (gSub (tOp (rIx K) (tVar 1) (tUn rNeg (tC (.int 1)))) (tC (.int 1)) rSetL)) (tDrop (tBM K "list" rAppend (tVar 1) (tCons (tLst (tCons (tVar 2) (tCons (tOp (rPlus K) (tVar 2) (tVar 3)) (tCons (tVar 4) tNil)))) tNil)))))
    (tRet (tLc (iList K (tVar 1)) (gUnl K 3 (gCons (gName 2) (gCons (gName 5) (gCons (gName 4) gNil)))) tYes (tTup (tCons (tTup (tCons (tVar 2) (tCons (tOp rSubX (tVar 5) (tVar 2)) tNil))) (tCons (tVar 4) tNil))) [2, 5, 4]))))
/-- _end: 0 stretch, 1 first, 2 many -/
def rd__end (K : PySem.W.Frag) (Z : CS) : TS := (tSeq (tAsg (tVar 0) (gTup K 2 (gCons (gName 1) (gCons (gName 2) gNil))))
    (tRet (tOp (rPlus K) (tVar 1) (tVar 2))))
/-- Sheet___init__: 0 self, 1 rows -/
def rd_Sheet___init__ (K : PySem.W.Frag) (Z : CS) : TS := (tSeq (sFld K (tVar 0) (tCall (sp__formed K Z) [] E0 (tCons (tVar 1) tNil)) "_rows")
    tNext)
/-- Sheet_at: 0 self, 1 x, 2 y, 3 froms, 4 parts, 5 overs, 6 value -/
def rd_Sheet_at (K : PySem.W.Frag) (Z : CS) : TS := (tSeq (tFor (iList K (tFld K (tVar 0) "_rows")) (gTup K 2 (gCons (gName 3) (gCons (gName 4) gNil))) (tIfS (tB (tCall (sp_lies_in K Z) [] E0 (tCons (tVar 1) (tCons (tVar 3) tNil)))) (tFor (iTup K (tVar 4)) (gTup K 2 (gCons (gName 5) (gCons (gName 6) gNil))) (tIfS (tB (tCall (sp_lies_in K Z) [] E0 (tCons (tVar 2) (tCons (tVar 5) tNil)))) (tRet (tVar 6)) tNext)) tNext))
    (tRet (tC .non)))
/-- Sheet_area: 0 self, 1 parts, 2 _, 3 many -/
def rd_Sheet_area (K : PySem.W.Frag) (Z : CS) : TS := (tRet (tCB (L2.rSum K) (tCons (tLc (iList K (tFld K (tVar 0) "_rows")) (gTup K 2 (gCons (gTup K 2 (gCons (gName 2) (gCons (gName 3) gNil))) (gCons (gName 1) gNil))) tYes (tOp rMul (tVar 3) (tCall (sp__cells_of K Z) [] E0 (tCons (tVar 1) tNil))) [1, 2, 3]) tNil)))
/-- _cells_of: 0 parts, 1 _, 2 many -/
def rd__cells_of (K : PySem.W.Frag) (Z : CS) : TS := (tRet (tCB (L2.rSum K) (tCons (tLc (iTup K (tVar 0)) (gTup K 2 (gCons (gTup K 2 (gCons (gName 1) (gCons (gName 2) gNil))) (gCons (gName 1) gNil))) tYes (tVar 2) [1, 2]) tNil)))
/-- _formed: 0 boxes, 1 ends, 2 strips, 3 numbers, 4 first, 5 many, 6 overs, 7 value, 8 begin, 9 pieces, 10 piece, 11 parts, 12 froms, 13 _, 14 number -/
def rd__formed (K : PySem.W.Frag) (Z : CS) : TS := (tSeq (tAsg (tCall (sp_edges K Z) [] E0 (tCons (tLc (iList K (tVar 0)) (gTup K 3 (gCons (gName 12) (gCons (gName 13) (gCons (gName 13) gNil)))) tYes (tVar 12) [12, 13]) tNil)) (gName 1))
    (tSeq (tAsg (tDc (iList K (tVar 1)) (gName 4) tYes (tVar 4) (tLst tNil) [4]) (gName 2))
    (tSeq (tAsg (tDc (iEnum K (tCons (tVar 1) tNil)) (gTup K 2 (gCons (gName 14) (gCons (gName 4) gNil))) tYes (tVar 4) (tVar 14) [14, 4]) (gName 3))
    (tSeq (tFor (iList K (tVar 0)) (gTup K 3 (gCons (gTup K 2 (gCons (gName 4) (gCons (gName 5) gNil))) (gCons (gName 6) (gCons (gName 7) gNil)))) (tFor (iList K (tSl (rSl3 K) (tVar 1) (tPart (tDGet (tVar 3) (tVar 4))) (tPart (tDGet (tVar 3) (tOp (rPlus K) (tVar 4) (tVar 5)))))) (gName 8) (tDrop (tBM K "list" rAppend (tDGet (tVar 2) (tVar 8)) (tCons (tTup (tCons (tVar 6) (tCons (tVar 7) tNil))) tNil)))))
    (tSeq (tAsg (tLst tNil) (gName 9))
    (tSeq (tFor (iList K (tCall (sp_pieces_between K Z) [] E0 (tCons (tVar 1) tNil))) (gName 10) (tSeq (tAsg (tCall (sp__parts K Z) [] E0 (tCons (tDGet (tVar 2) (tOp (rIx K) (tVar 10) (tC (.int 0)))) tNil)) (gName 11))
    (tIfS (tTruX K (tVar 11)) (tDrop (tBM K "list" rAppend (tVar 9) (tCons (tTup (tCons (tVar 10) (tCons (tVar 11) tNil))) tNil))) tNext)))
    (tRet (tCall (sp_joined K Z) [] E0 (tCons (tVar 9) tNil)))))))))
/-- _parts: 0 strip -/
def rd__parts (K : PySem.W.Frag) (Z : CS) : TS := (tRet (tCB (rTupleX K) (tCons (tCall (sp_joined K Z) [] E0 (tCons (tCKw (rSortLam K (lq "_parts") Z.LM__parts.params Z.LM__parts.x Z.LM__parts.p1 Z.LM__parts.p2 Z.LM__parts.p3 Z.LM__parts.j Z.LM__parts.scope []) (tCons (tVar 0) tNil) (tCons (tLam Z.PT__parts [] (lq "_parts") Z.LM__parts.params (.Subscript (.Name Z.LM__parts.x Z.LM__parts.p1) (.Constant (.int 0) Z.LM__parts.j Z.LM__parts.p2) Z.LM__parts.p3) Z.LM__parts.scope) tNil)) tNil)) tNil)))
/-- _law_bag: 0 script, 1 at, 2 primes, 3 here, 4 great, 5 mixed -/
def rd__law_bag (K : PySem.W.Frag) (Z : CS) : TS := (tSeq (tAsg (tTup (tCons (tC (.int 2147483647)) (tCons (tC (.int 2147483629)) (tCons (tC (.int 2147483587)) (tCons (tC (.int 2147483579)) (tCons (tC (.int 2147483563)) (tCons (tC (.int 2147483549)) (tCons (tC (.int 2147483543)) tNil)))))))) (gName 2))
    (tSeq (tAsg (tIf (tTest (tOp rLt (tVar 1) (tCB (rLenX K) (tCons (tVar 0) tNil)))) (tOp (rIx K) (tVar 0) (tVar 1)) (tC (.int 0))) (gName 3))
    (tSeq (tAsg (tIf (tTest (tOp rGe (tCB rAbsX (tCons (tVar 3) tNil)) (tOp rPow (tC (.int 10)) (tC (.int 18))))) (tCB rAbsX (tCons (tVar 3) tNil)) (tC (.int 0))) (gName 4))
    (tSeq (tAsg (tOp rMod (tOp rPow (tOp (rPlus K) (tOp (rPlus K) (tOp rMod (tVar 3) (tC (.int 2305843009213693951))) (tOp rMul (tC (.int 40961)) (tVar 1))) (tC (.int 19))) (tC (.int 3))) (tOp (rIx K) (tVar 2) (tOp rMod (tVar 1) (tC (.int 7))))) (gName 5))
    (tRet (tLst (tCons (tVar 4) (tCons (tOp (rPlus K) (tOp rMod (tOp rMul (tVar 5) (tOp (rPlus K) (tOp (rPlus K) (tOp rFdv (tVar 5) (tC (.int 5))) (tOp rMul (tC (.int 3)) (tVar 1))) (tC (.int 11)))) (tOp (rIx K) (tVar 2) (tOp rMod (tOp (rPlus K) (tVar 1) (tC (.int 2))) (tC (.int 7))))) (tC (.int 1))) tNil))))))))
/-- _law_take: 0 bag, 1 size, 2 digit -/
def rd__law_take (K : PySem.W.Frag) (Z : CS) : TS := (tSeq (tIfS (tTest (tOp rGt (tOp (rIx K) (tVar 0) (tC (.int 0))) (tC (.int 0)))) (tSeq (tAsg (tOp rMod (tOp (rIx K) (tVar 0) (tC (.int 0))) (tVar 1)) (gName 2))
    (tSeq (tAsg (tOp rFdv (tOp (rIx K) (tVar 0) (tC (.int 0))) (tVar 1)) (gSub (tVar 0) (tC (.int 0)) rSetL))
    (tRet (tVar 2)))) tNext)
    (tSeq (tAsg (tOp rMod (tOp rMul (tOp (rIx K) (tVar 0) (tC (.int 1))) (tC (.int 48271))) (tC (.int 2147483647))) (gSub (tVar 0) (tC (.int 1)) rSetL))
    (tRet (tOp rMod (tOp rFdv (tOp rMod (tOp rMul (tOp (rIx K) (tVar 0) (tC (.int 1))) (tC (.int 69621))) (tC (.int 2147483629))) (tOp rPow (tC (.int 16)) (tC (.int 2)))) (tVar 1)))))
/-- _law_in: 0 stretch, 1 cell -/
def rd__law_in (K : PySem.W.Frag) (Z : CS) : TS := (tRet (tChain (rLe K) rLt (tOp (rIx K) (tVar 0) (tC (.int 0))) (tVar 1) (tOp (rPlus K) (tOp (rIx K) (tVar 0) (tC (.int 0))) (tOp (rIx K) (tVar 0) (tC (.int 1))))))
/-- _law_whole: 0 thing -/
def rd__law_whole (K : PySem.W.Frag) (Z : CS) : TS := (tRet (tAndV (tCB (rIsi K) (tCons (tVar 0) (tCons (tC (.ty "int")) tNil))) (tNotV (tCB (rIsi K) (tCons (tVar 0) (tCons (tC (.ty "bool")) tNil))))))
/-- _law_shuffled: 0 bag, 1 some, 2 rest, 3 found -/
def rd__law_shuffled (K : PySem.W.Frag) (Z : CS) : TS := (tSeq (tPar 2 3 (tCons (tCB (rListX K) (tCons (tVar 1) tNil)) (tCons (tLst tNil) tNil)))
    (tSeq (tWhile (tTest (tOp (rNeX K) (tVar 2) (tLst tNil))) (tDrop (tBM K "list" rAppend (tVar 3) (tCons (tBM K "list" rPopAt (tVar 2) (tCons (tCall (sp__law_take K) [] E0 (tCons (tVar 0) (tCons (tCB (rLenX K) (tCons (tVar 2) tNil)) tNil))) tNil)) tNil))))
    (tRet (tVar 3))))
/-- _law_side: 0 bag, 1 at, 2 found, 3 k, 4 many -/
def rd__law_side (K : PySem.W.Frag) (Z : CS) : TS := (tSeq (tPar 1 2 (tCons (tOp (rIx K) (tLst (tCons (tC (.int 0)) (tCons (tC (.int 0)) (tCons (tCall (sp__law_take K) [] E0 (tCons (tVar 0) (tCons (tOp rPow (tC (.int 10)) (tC (.int 30))) tNil))) tNil)))) (tCall (sp__law_take K) [] E0 (tCons (tVar 0) (tCons (tC (.int 3)) tNil)))) (tCons (tLst tNil) tNil)))
    (tSeq (tFor (iRng1 (tCons (tOp (rPlus K) (tC (.int 2)) (tCall (sp__law_take K) [] E0 (tCons (tVar 0) (tCons (tC (.int 4)) tNil)))) tNil)) (gName 3) (tSeq (tAug 1 (tOp (rIx K) (tLst (tCons (tC (.int 0)) (tCons (tC (.int 0)) (tCons (tOp (rPlus K) (tC (.int 1)) (tCall (sp__law_take K) [] E0 (tCons (tVar 0) (tCons (tC (.int 4)) tNil)))) (tCons (tCall (sp__law_take K) [] E0 (tCons (tVar 0) (tCons (tOp rPow (tC (.int 10)) (tC (.int 20))) tNil))) tNil))))) (tCall (sp__law_take K) [] E0 (tCons (tVar 0) (tCons (tC (.int 4)) tNil)))) (ipI fun i j => i + j))
    (tSeq (tAsg (tOp (rPlus K) (tC (.int 1)) (tCall (sp__law_take K) [] E0 (tCons (tVar 0) (tCons (tOp (rIx K) (tLst (tCons (tC (.int 1)) (tCons (tC (.int 3)) (tCons (tC (.int 10)) (tCons (tOp rPow (tC (.int 10)) (tC (.int 29))) tNil))))) (tCall (sp__law_take K) [] E0 (tCons (tVar 0) (tCons (tC (.int 4)) tNil)))) tNil)))) (gName 4))
    (tSeq (tDrop (tBM K "list" rAppend (tVar 2) (tCons (tTup (tCons (tVar 1) (tCons (tVar 4) tNil))) tNil)))
    (tAug 1 (tVar 4) (ipI fun i j => i + j))))))
    (tRet (tVar 2))))
/-- _law_cells: 0 bag, 1 side, 2 found, 3 first, 4 many -/
def rd__law_cells (K : PySem.W.Frag) (Z : CS) : TS := (tSeq (tAsg (tLst (tCons (tC (.int 0)) (tCons (tOp (rPlus K) (tOp (rIx K) (tOp (rIx K) (tVar 1) (tUn rNeg (tC (.int 1)))) (tC (.int 0))) (tOp rMul (tC (.int 2)) (tOp (rIx K) (tOp (rIx K) (tVar 1) (tUn rNeg (tC (.int 1)))) (tC (.int 1))))) (tCons (tOp rPow (tC (.int 10)) (tC (.int 31))) tNil)))) (gName 2))
    (tSeq (tFor (iList K (tVar 1)) (gTup K 2 (gCons (gName 3) (gCons (gName 4) gNil))) (tDrop (tBM K "list" rExtend (tVar 2) (tCons (tLst (tCons (tVar 3) (tCons (tOp rSubX (tOp (rPlus K) (tVar 3) (tVar 4)) (tC (.int 1))) (tCons (tOp (rPlus K) (tVar 3) (tVar 4)) (tCons (tCB rMaxX (tCons (tC (.int 0)) (tCons (tOp rSubX (tVar 3) (tC (.int 1))) tNil))) (tCons (tOp (rPlus K) (tVar 3) (tCall (sp__law_take K) [] E0 (tCons (tVar 0) (tCons (tVar 4) tNil)))) tNil)))))) tNil))))
    (tRet (tVar 2))))
/-- _law_value: 0 boxes, 1 x, 2 y, 3 froms, 4 overs, 5 value -/
def rd__law_value (K : PySem.W.Frag) (Z : CS) : TS := (tSeq (tFor (iList K (tVar 0)) (gTup K 3 (gCons (gName 3) (gCons (gName 4) (gCons (gName 5) gNil)))) (tIfS (tAnd (tB (tCall (sp__law_in K Z) [] E0 (tCons (tVar 3) (tCons (tVar 1) tNil)))) (tB (tCall (sp__law_in K Z) [] E0 (tCons (tVar 4) (tCons (tVar 2) tNil))))) (tRet (tVar 5)) tNext))
    (tRet (tC .non)))
/-- _law_right: 0 bag, 1 froms, 2 overs, 3 some, 4 boxes, 5 one, 6 other, 7 pick, 8 mine, 9 area, 10 across, 11 x, 12 y, 13 plot -/
def rd__law_right (K : PySem.W.Frag) (Z : CS) : TS := (tSeq (tPar3 1 2 3 (tCons (tCall (sp__law_side K Z) [] E0 (tCons (tVar 0) tNil)) (tCons (tCall (sp__law_side K Z) [] E0 (tCons (tVar 0) tNil)) (tCons (tTup (tCons (tC (.str "way")) (tCons (tTup (tCons (tC (.str "none")) (tCons (tC (.int 3)) tNil))) (tCons (tTup (tCons (tC (.int 4)) (tCons (tC (.int 5)) tNil))) tNil)))) tNil))))
    (tSeq (tAsg (tLst tNil) (gName 4))
    (tSeq (tFor (iList K (tVar 1)) (gName 5) (tFor (iList K (tVar 2)) (gName 6) (tSeq (tAsg (tCall (sp__law_take K) [] E0 (tCons (tVar 0) (tCons (tC (.int 5)) tNil))) (gName 7))
    (tIfS (tTest (tOp rLt (tVar 7) (tC (.int 3)))) (tDrop (tBM K "list" rAppend (tVar 4) (tCons (tTup (tCons (tVar 5) (tCons (tVar 6) (tCons (tOp (rIx K) (tVar 3) (tVar 7)) tNil)))) tNil))) tNext))))
    (tSeq (tPar 8 9 (tCons (tMakeK Z.C_Sheet 1 0 (sp_Sheet___init__ K Z) (fun vs zs => pick [0, 1] (vs ++ [] ++ zs)) E0 (tCons (tCall (sp__law_shuffled K Z) [] E0 (tCons (tVar 0) (tCons (tVar 4) tNil))) tNil) tNil) (tCons (tCB (L2.rSum K) (tCons (tLc (iList K (tVar 4)) (gName 13) tYes (tOp rMul (tOp (rIx K) (tOp (rIx K) (tVar 13) (tC (.int 0))) (tC (.int 1))) (tOp (rIx K) (tOp (rIx K) (tVar 13) (tC (.int 1))) (tC (.int 1)))) [13]) tNil)) tNil)))
    (tSeq (tAsg (tCall (sp__law_cells K Z) [] E0 (tCons (tVar 0) (tCons (tVar 2) tNil))) (gName 10))
    (tSeq (tFor (iList K (tCall (sp__law_cells K Z) [] E0 (tCons (tVar 0) (tCons (tVar 1) tNil)))) (gName 11) (tFor (iList K (tVar 10)) (gName 12) (tIfS (tTest (tOp (rNeX K) (tCB (rRepr K) (tCons (tMeth Z.C_Sheet "at" (sp_Sheet_at K Z) [] E0 (tVar 8) (tCons (tVar 11) (tCons (tVar 12) tNil))) tNil)) (tCB (rRepr K) (tCons (tCall (sp__law_value K Z) [] E0 (tCons (tVar 4) (tCons (tVar 11) (tCons (tVar 12) tNil)))) tNil)))) (tRet (tC (.bl false))) tNext)))
    (tRet (tAndV (tOp (rEqX K) (tMeth Z.C_Sheet "area" (sp_Sheet_area K Z) [] E0 (tVar 8) tNil) (tVar 9)) (tCall (sp__law_whole K Z) [] E0 (tCons (tMeth Z.C_Sheet "area" (sp_Sheet_area K Z) [] E0 (tVar 8) tNil) tNil))))))))))
/-- law: 0 script, 1 k, 2 bag, 3 turn -/
def rd_law (K : PySem.W.Frag) (Z : CS) : TS := (tSeq (tFor (iRng1 (tCons (tCB rMaxX (tCons (tC (.int 2)) (tCons (tCB rMinX (tCons (tC (.int 4)) (tCons (tCB (rLenX K) (tCons (tVar 0) tNil)) tNil))) tNil))) tNil)) (gName 1) (tSeq (tAsg (tCall (sp__law_bag K) [] E0 (tCons (tVar 0) (tCons (tVar 1) tNil))) (gName 2))
    (tFor (iRng1 (tCons (tC (.int 3)) tNil)) (gName 3) (tIfS (tNot (tB (tCall (sp__law_right K Z) [] E0 (tCons (tVar 2) tNil)))) (tRet (tC (.bl false))) tNext))))
    (tRet (tC (.bl true))))

section
variable {K : PySem.W.Frag} {Z : CS}
theorem sem__law_bag (ss : List SV) (hp : preBag ss) : DS K (rd__law_bag K Z) (startE 6 ss) { nx := fun _ => postBag ss (.d .non), rt := postBag ss } := semBag ss hp
theorem sem__law_take (ss : List SV) (hp : preTake ss) : DS K (rd__law_take K Z) (startE 3 ss) { nx := fun _ => postTake ss (.d .non), rt := postTake ss } := semTake ss hp
theorem call_bag {ns : List Int} {i k : Nat} {es : Env'} {j : Nat} {Q : SV → Prop} (hk : k < 64) (h0 : es[i]? = some (some (.scr ns))) (h1 : es[j]? = some (some (.d (.int k)))) (q : ∀ g m : Int, Q (.new [.int g, .int m])) : DE K (tCall (sp__law_bag K) [] E0 (tCons (tVar i) (tCons (tVar j) tNil))) es Q := by
  refine de_call (da_cons (de_var h0 (da_cons (de_var h1 (da_nil ⟨⟨trivial, trivial, trivial⟩, rfl, ⟨ns, k, rfl, hk⟩, ?_⟩)))))
  rintro r ⟨g, m, rfl⟩
  exact q g m
theorem sem__end (lf : LF K Z) (p : Int × Int) (hp : True) : DS K (rd__end K Z) (startE 3 [.d (dPair p)]) { nx := fun _ => SV.d .non = .d (.int (p.1 + p.2)), rt := fun r => r = .d (.int (p.1 + p.2)) } := by
  show DS K (rd__end K Z) [some (.d (dPair p)), none, none] _
  unfold rd__end
  refine ds_seq (ds_unp (de_var rfl ⟨_, _, rfl, dg_tup rfl (dgs_cons (dg_name (dgs_cons (dg_name (dgs_nil ?_)))))⟩))
  show DS K _ [some (.d (dPair p)), some (.d (.int p.1)), some (.d (.int p.2))] _
  repeat walk_at "dl"
theorem call_end {es : Env'} {i : Nat} {p : Int × Int} {Q : SV → Prop} (e : es[i]? = some (some (.d (dPair p)))) (q : Q (.d (.int (p.1 + p.2)))) : DE K (tCall (sp__end K Z) [] E0 (tCons (tVar i) tNil)) es Q := by
  refine de_callQ (da_cons (de_var e (da_nil ⟨⟨trivial, trivial⟩, p, rfl, rfl, trivial, ?_⟩)))
  rintro r rfl
  exact q
theorem sem_lies_in (lf : LF K Z) (y : Int × (Int × Int)) (hp : True) : DS K (rd_lies_in K Z) (startE 4 [.d (.int y.1), .d (dPair y.2)]) { nx := fun _ => SV.d .non = .d (.bl (inSb y.1 y.2)), rt := fun r => r = .d (.bl (inSb y.1 y.2)) } := by
  obtain ⟨c, p⟩ := y
  show DS K (rd_lies_in K Z) [some (.d (.int c)), some (.d (dPair p)), none, none] _
  unfold rd_lies_in
  refine ds_seq (ds_unp (de_var rfl ⟨_, _, rfl, dg_tup rfl (dgs_cons (dg_name (dgs_cons (dg_name (dgs_nil ?_)))))⟩))
  show DS K _ [some (.d (.int c)), some (.d (dPair p)), some (.d (.int p.1)), some (.d (.int p.2))] _
  repeat walk_at "dl"
  refine ite_b (fun h => ?_) (fun h => ?_)
  · repeat walk_at "dl"
    show SV.d (.bl _) = .d (.bl (inSb c p))
    unfold inSb
    rw [h, Bool.true_and]
  · repeat walk_at "dl"
    show SV.d (.bl _) = .d (.bl (inSb c p))
    unfold inSb
    rw [h, Bool.false_and]
theorem sem_edges (lf : LF K Z) (ps : List (Int × Int)) (hp : EdgesPre ps) : DS K (rd_edges K Z) (startE 4 [.d (.lst (ps.map dPair))]) { nx := fun _ => ∃ os : List Int, SV.d .non = .new (os.map D.int) ∧ EdgesOf ps os, rt := fun r => ∃ os : List Int, r = .new (os.map D.int) ∧ EdgesOf ps os } := by
  show DS K (rd_edges K Z) [some (.d (.lst (ps.map dPair))), none, none, none] _
  obtain ⟨hl, zs, hz, hm⟩ := hp
  unfold rd_edges
  refine ds_ret (de_sortSet (de_op (de_lcF (e := dPair) (p := fun _ => true) (f := fun p => .int p.1) (de_var rfl ⟨ps, rfl, (fun n e => by cases e), by omega, fun p hp => lcF_yes (dg_tup rfl (dgs_cons (dg_name (dgs_cons (dg_name (dgs_nil (de_vd rfl rfl))))))), ?_⟩))))
  rw [filt_all]
  refine de_lcF (e := dPair) (p := fun _ => true) (f := fun p => .int (p.1 + p.2)) (de_var rfl ⟨ps, rfl, (fun n e => by cases e), by omega, fun p hp => lcF_yes (dg_name (call_end rfl rfl)), ?_⟩)
  rw [filt_all]
  refine plus_l rfl rfl (fun n e => by cases e) (fun n e => by cases e) (by rw [List.length_map, List.length_map]; omega) ?_
  refine ⟨ps.map (fun p => p.1) ++ ps.map (fun p => p.1 + p.2), zs, ?_, by rw [List.length_append, List.length_map, List.length_map]; omega, fun j hj => ?_, hz, fun os h1 h2 => ⟨trivial, os, rfl, h1, fun k => ?_⟩⟩
  · rw [List.map_append, List.map_map, List.map_map]; rfl
  · rcases List.mem_append.mp hj with h | h
    · obtain ⟨p, hp, rfl⟩ := List.mem_map.mp h
      exact (hm p hp).1
    · obtain ⟨p, hp, rfl⟩ := List.mem_map.mp h
      exact (hm p hp).2
  · rw [h2 k, List.mem_append, List.mem_map, List.mem_map]
    constructor
    · rintro (⟨p, hp, rfl⟩ | ⟨p, hp, rfl⟩)
      · exact ⟨p, hp, .inl rfl⟩
      · exact ⟨p, hp, .inr rfl⟩
    · rintro ⟨p, hp, rfl | rfl⟩
      · exact .inl ⟨p, hp, rfl⟩
      · exact .inr ⟨p, hp, rfl⟩
theorem sem_pieces_between (lf : LF K Z) (os : List Int) (hp : os.length ≤ 1000 ∧ os.Pairwise (· < ·) ∧ ∀ k ∈ os, 0 ≤ k) : DS K (rd_pieces_between K Z) (startE 3 [.d (.lst (os.map D.int))]) { nx := fun _ => SV.d .non = .new ((os.zip os.tail).map fun z => dPair (z.1, z.2 - z.1)), rt := fun r => r = .new ((os.zip os.tail).map fun z => dPair (z.1, z.2 - z.1)) } := by
  show DS K (rd_pieces_between K Z) [some (.d (.lst (os.map D.int))), none, none] _
  obtain ⟨hl, hr, h0⟩ := hp
  unfold rd_pieces_between
  have zlen : (os.zip os.tail).length = os.length - 1 := by rw [List.length_zip, List.length_tail]; omega
  refine ds_ret (de_lcP (da_cons (de_var rfl (da_nil ⟨_, os.map D.int, rfl, rfl, by rw [List.length_map]; omega, fun i x hx e => ?_, fun i ds => ds = ((os.zip os.tail).take i).map fun z => dPair (z.1, z.2 - z.1), rfl, fun i x y hx hy ds hds _ => ?_, fun ds hds _ => ⟨trivial, ?_⟩⟩))))
  · obtain ⟨b, hb, rfl⟩ := map_get hx
    obtain ⟨a, ha⟩ : ∃ a, os[i]? = some a := ⟨_, List.getElem?_eq_getElem (by have := (List.getElem?_eq_some_iff.mp hb).1; omega)⟩
    have la := List.getElem?_eq_some_iff.mp ha
    have lb := List.getElem?_eq_some_iff.mp hb
    have := List.pairwise_iff_getElem.mp hr i (i + 1) la.1 lb.1 (by omega)
    rw [la.2, lb.2] at this
    have := h0 a (List.mem_of_getElem? ha)
    injection e with e
    omega
  · obtain ⟨a, ha, rfl⟩ := map_get hx
    obtain ⟨b, hb, rfl⟩ := map_get hy
    have hz : (os.zip os.tail)[i]? = some (a, b) := List.getElem?_zip_eq_some.mpr ⟨ha, by rw [List.getElem?_tail]; exact hb⟩
    refine dg_tup rfl (dgs_cons (dg_name (dgs_cons (dg_name (dgs_nil (dt_yes ?_))))))
    refine ite_b (fun _ => ?_) (fun h => by cases h)
    refine de_tup' (da_cons (de_var rfl (da_cons (de_op (de_var rfl (de_var rfl (sub_i (da_nil ⟨_, rfl, Nat.le_of_ble_eq_true rfl, ?_⟩))))))))
    refine ⟨_, rfl, ?_⟩
    show _ = ((os.zip os.tail).take (i + 1)).map fun z => dPair (z.1, z.2 - z.1)
    rw [hds, take_get hz, List.map_append]
    rfl
  · rw [hds, List.length_map, ← zlen, List.take_length]
    rfl
theorem sem_joined (lf : LF K Z) (ps : List Part) (hp : ps.length < 1000 ∧ ∀ p ∈ ps, Cmp p.2) : DS K (rd_joined K Z) (startE 6 [.d (.lst (ps.map dPiece))]) { nx := fun _ => SV.d .non = .new ((joinOut eqD ps).map dPiece), rt := fun r => r = .new ((joinOut eqD ps).map dPiece) } := by
  show DS K (rd_joined K Z) [some (.d (.lst (ps.map dPiece))), none, none, none, none, none] _
  obtain ⟨hl, hc⟩ := hp
  unfold rd_joined
  repeat walk_at "dl"
  refine ds_join (eqv := eqD) hl (fun p hp q hq => eqC rfl rfl (hc p hp) (hc q hq) rfl) ?_
  have rl : (runsD eqD ps).reverse.length ≤ 1000 := by
    rw [List.length_reverse]
    have := runs_len3 (eqv := eqD) ps []
    have e : (runsD eqD ps).length ≤ ([] : List DL.Row3).length + ps.length := this
    rw [List.length_nil] at e
    omega
  show DS K _ [some (.d (.lst (ps.map dPiece))), some (.d (.lst ((runsD eqD ps).reverse.map DL.Row3.dl))), none, none, none, none] _
  refine ds_ret ?_
  refine de_lcF (e := DL.Row3.dl) (p := fun _ => true) (f := fun r => dPiece ((r.x, r.y - r.x), r.d)) ?_
  refine de_var rfl ⟨(runsD eqD ps).reverse, rfl, nsd, by omega, fun r hr => lcF_yes ?_, ?_⟩
  · refine dg_unl (xs := [.int r.x, .int r.y, r.d]) rfl (dgs_cons (dg_name (dgs_cons (dg_name (dgs_cons (dg_name (dgs_nil ?_)))))))
    repeat walk_at "dl"
    rfl
  · rw [filt_all]
    refine ⟨trivial, ?_⟩
    unfold joinOut
    rw [List.map_map]
    rfl
theorem sem__parts (lf : LF K Z) (ps : List Part) (hp : ps.length < 1000 ∧ ∀ p ∈ ps, Cmp p.2) : DS K (rd__parts K Z) (startE 1 [.d (.lst (ps.map dPiece))]) { nx := fun _ => SV.d .non = .d (dParts (joinOut eqD (ps.mergeSort leP))), rt := fun r => r = .d (dParts (joinOut eqD (ps.mergeSort leP))) } := by
  show DS K (rd__parts K Z) [some (.d (.lst (ps.map dPiece)))] _
  obtain ⟨hl, hc⟩ := hp
  unfold rd__parts
  refine ds_ret (de_cb (da_cons (de_callQ (da_cons (de_sortLam lf.tT__parts lf.one__parts (de_var rfl ⟨ps.map kd, ?_, ?_⟩))))))
  · rw [kd_d]; rfl
  · rw [kd_sort]
    refine da_nil ⟨⟨trivial, trivial⟩, ps.mergeSort leP, rfl, rfl, ⟨?_, fun p hp => hc p (List.mem_mergeSort.mp hp)⟩, ?_⟩
    · rw [List.length_mergeSort]
      exact hl
    · rintro r rfl
      exact da_nil (tuple_x rfl ⟨trivial, rfl⟩)
theorem sem__cells_of (lf : LF K Z) (ps : List Part) (hp : ps.length ≤ 100000) : DS K (rd__cells_of K Z) (startE 3 [.d (dParts ps)]) { nx := fun _ => SV.d .non = .d (.int (cellsF ps)), rt := fun r => r = .d (.int (cellsF ps)) } := by
  show DS K (rd__cells_of K Z) [some (.d (dParts ps)), none, none] _
  unfold rd__cells_of
  refine ds_ret (de_cb (da_cons ?_))
  refine de_lcFT (e := dPiece) (p := fun _ => true) (f := fun p => .int p.1.2) ?_
  refine de_var rfl ⟨ps, rfl, hp, fun p hp => lcF_yes (dg_js (js := [1, 2, 1]) (by decide) ?_), ?_⟩
  · exact dg_tup rfl (dgs_cons (dg_tup rfl (dgs_cons (dg_name (dgs_cons (dg_name (dgs_nil (dgs_cons (dg_name (dgs_nil (de_vd rfl rfl))))))))))) 
  · rw [filt_all]
    refine da_nil (rc_sum (ns := ps.map fun p => p.1.2) ?_ nsn ⟨trivial, rfl⟩)
    rw [List.map_map]
    rfl
theorem call_cells {es : Env'} {i : Nat} {ps : List Part} {Q : SV → Prop} (e : es[i]? = some (some (.d (dParts ps)))) (hl : ps.length ≤ 100000) (q : Q (.d (.int (cellsF ps)))) : DE K (tCall (sp__cells_of K Z) [] E0 (tCons (tVar i) tNil)) es Q := by
  refine de_callQ (da_cons (de_var e (da_nil ⟨⟨trivial, trivial⟩, ps, rfl, rfl, hl, ?_⟩)))
  rintro r rfl
  exact q
theorem sem_Sheet_area (lf : LF K Z) (rp : List SRow) (hp : rp.length ≤ 100000 ∧ ∀ r ∈ rp, r.2.length ≤ 100000 ∧ r.1.2.natAbs.log2 < 10000 ∧ (cellsF r.2).natAbs.log2 < 10000) : DS K (rd_Sheet_area K Z) (startE 4 [.d (SheetD Z.C_Sheet rp)]) { nx := fun _ => SV.d .non = .d (.int (rp.map fun r => r.1.2 * cellsF r.2).sum), rt := fun r => r = .d (.int (rp.map fun r => r.1.2 * cellsF r.2).sum) } := by
  show DS K (rd_Sheet_area K Z) [some (.d (SheetD Z.C_Sheet rp)), none, none, none] _
  obtain ⟨hl, hr⟩ := hp
  unfold rd_Sheet_area
  refine ds_ret (de_cb (da_cons ?_))
  refine de_lcF (e := dRow) (p := fun _ => true) (f := fun r => .int (r.1.2 * cellsF r.2)) ?_
  refine de_fld (de_var rfl ⟨_, _, _, rfl, lf.i.cl, lf.n_rows, rfl, ⟨rp, rfl, nsd, hl, fun r hm => lcF_yes (dg_js (js := [2, 3, 1]) (by decide) ?_), ?_⟩⟩)
  · refine dg_tup rfl (dgs_cons (dg_tup rfl (dgs_cons (dg_name (dgs_cons (dg_name (dgs_nil (dgs_cons (dg_name (dgs_nil ?_))))))))))
    obtain ⟨h1, h2, h3⟩ := hr r hm
    exact de_op (de_var rfl (call_cells (ps := r.2) rfl h1 (mul_i (i := r.1.2) (j := cellsF r.2) (by omega) rfl)))
  · rw [filt_all]
    refine da_nil (rc_sum (ns := rp.map fun r => r.1.2 * cellsF r.2) ?_ nsn ⟨trivial, rfl⟩)
    rw [List.map_map]
    rfl
theorem call_lies {es : Env'} {i j : Nat} {c : Int} {p : Int × Int} {Q : SV → Prop} (e : es[i]? = some (some (.d (.int c)))) (e2 : es[j]? = some (some (.d (dPair p)))) (q : Q (.d (.bl (inSb c p)))) : DE K (tCall (sp_lies_in K Z) [] E0 (tCons (tVar i) (tCons (tVar j) tNil))) es Q := by
  refine de_callQ (da_cons (de_var e (da_cons (de_var e2 (da_nil ⟨⟨trivial, trivial, trivial⟩, (c, p), rfl, rfl, trivial, ?_⟩)))))
  rintro r rfl
  exact q
theorem sem_Sheet_at (lf : LF K Z) (w : List SRow × Int × Int) (hp : True) : DS K (rd_Sheet_at K Z) (startE 7 [.d (SheetD Z.C_Sheet w.1), .d (.int w.2.1), .d (.int w.2.2)]) { nx := fun _ => SV.d .non = .d (atR w.1 w.2.1 w.2.2), rt := fun r => r = .d (atR w.1 w.2.1 w.2.2) } := by
  obtain ⟨rp, x, y⟩ := w
  show DS K (rd_Sheet_at K Z) [some (.d (SheetD Z.C_Sheet rp)), some (.d (.int x)), some (.d (.int y)), none, none, none, none] { nx := fun _ => SV.d .non = .d (atR rp x y), rt := fun r => r = .d (atR rp x y) }
  unfold rd_Sheet_at
  refine ds_seq (ds_forL (de_fld (de_var rfl ⟨_, _, _, rfl, lf.i.cl, lf.n_rows, rfl, ⟨rp.map dRow, rfl, fun i es => ∃ s3 s4 s5 s6 : Option SV, es = [some (.d (SheetD Z.C_Sheet rp)), some (.d (.int x)), some (.d (.int y)), s3, s4, s5, s6] ∧ atR (rp.drop i) x y = atR rp x y, ⟨none, none, none, none, rfl, rfl⟩, fun i x0 es' hx hI => ?_, fun es' hI => ?_⟩⟩)))
  · obtain ⟨r, hr, rfl⟩ := map_get hx
    obtain ⟨s3, s4, s5, s6, rfl, ha⟩ := hI
    rw [drop_get hr] at ha
    refine ⟨_, dg_tup rfl (dgs_cons (dg_name (dgs_cons (dg_name (dgs_nil ?_)))))⟩
    show DS K _ [some (.d (SheetD Z.C_Sheet rp)), some (.d (.int x)), some (.d (.int y)), some (.d (dPair r.1)), some (.d (dParts r.2)), s5, s6] _
    refine ds_if (dt_B (call_lies rfl rfl ⟨_, rfl, ?_⟩))
    refine ite_b (fun h => ?_) (fun h => ds_next ⟨_, _, _, _, rfl, ?_⟩)
    · refine ds_forT (de_var rfl ⟨r.2.map dPiece, rfl, fun j es => ∃ s5 s6 : Option SV, es = [some (.d (SheetD Z.C_Sheet rp)), some (.d (.int x)), some (.d (.int y)), some (.d (dPair r.1)), some (.d (dParts r.2)), s5, s6] ∧ ∀ q ∈ r.2.take j, inSb y q.1 = false, ⟨s5, s6, rfl, fun q hq => by cases hq⟩, fun j x1 es2 hx1 hJ => ?_, fun es2 hJ => ?_⟩)
      · obtain ⟨p, hp, rfl⟩ := map_get hx1
        obtain ⟨t5, t6, rfl, hn⟩ := hJ
        refine ⟨_, dg_tup rfl (dgs_cons (dg_name (dgs_cons (dg_name (dgs_nil ?_)))))⟩
        show DS K _ [some (.d (SheetD Z.C_Sheet rp)), some (.d (.int x)), some (.d (.int y)), some (.d (dPair r.1)), some (.d (dParts r.2)), some (.d (dPair p.1)), some (.d p.2)] _
        refine ds_if (dt_B (call_lies rfl rfl ⟨_, rfl, ?_⟩))
        refine ite_b (fun h2 => ?_) (fun h2 => ds_next ⟨_, _, rfl, fun q hq => ?_⟩)
        · refine ds_ret (de_var rfl ⟨trivial, ?_⟩)
          show SV.d p.2 = .d (atR rp x y)
          rw [← ha, atR_hit h (find_at hn hp h2)]
        · rw [take_get hp] at hq
          rcases List.mem_append.mp hq with g | g
          · exact hn q g
          · rw [List.mem_singleton.mp g]
            exact h2
      · obtain ⟨t5, t6, rfl, hn⟩ := hJ
        refine ⟨_, _, _, _, rfl, ?_⟩
        rw [← ha, atR_miss fun _ => List.find?_eq_none.mpr fun q hq => ?_]
        rw [List.length_map, List.take_length] at hn
        rw [hn q hq]
        exact Bool.false_ne_true
    · rw [← ha, atR_miss fun z => by rw [h] at z; cases z]
  · obtain ⟨s3, s4, s5, s6, rfl, ha⟩ := hI
    rw [List.length_map, List.drop_length] at ha
    refine ds_ret (de_non ⟨trivial, ?_⟩)
    show SV.d .non = .d (atR rp x y)
    rw [← ha]
    rfl
theorem sem__formed (lf : LF K Z) (bs : List Box) (hp : BoxesOk bs) : DS K (rd__formed K Z) (startE 15 [.d (.lst (bs.map dBx))]) { nx := fun _ => ∃ os : List Int, EdgesOf (bs.map (·.1)) os ∧ SV.d .non = .new ((rowsF eqD bs os).map dPiece), rt := fun r => ∃ os : List Int, EdgesOf (bs.map (·.1)) os ∧ r = .new ((rowsF eqD bs os).map dPiece) } := by
  show DS K (rd__formed K Z) [some (.d (.lst (bs.map dBx))), none, none, none, none, none, none, none, none, none, none, none, none, none, none] _
  unfold rd__formed
  refine ds_seq (ds_set (de_callQ (da_cons ?_)))
  refine de_lcF (e := dBx) (p := fun _ => true) (f := fun b => dPair b.1) ?_
  refine de_var rfl ⟨bs, rfl, nsd, Nat.le_trans (Nat.le_of_lt hp.n) (by decide), fun b hb => lcF_yes (dg_js (js := [12, 13, 13]) (by decide) ?_), ?_⟩
  · exact dg_tup (xs := [dPair b.1, dPair b.2.1, b.2.2]) rfl (dgs_cons (dg_name (dgs_cons (dg_name (dgs_cons (dg_name (dgs_nil (de_vd rfl rfl))))))))
  rw [filt_all]
  refine da_nil ⟨⟨trivial, trivial⟩, bs.map (·.1), ?_, rfl, hp.e, ?_⟩
  · rw [List.map_map]; rfl
  rintro r ⟨os, rfl, ho⟩
  refine ⟨trivial, ?_⟩
  show DS K _ [some (.d (.lst (bs.map dBx))), some (.own (os.map D.int)), none, none, none, none, none, none, none, none, none, none, none, none, none] _
  refine ds_freeze (i := 1) rfl ?_
  have eb := bx_map bs
  rw [← eb]
  show DS K _ (envF (.lst ((bs.map bx).map dBox)) (.lst (os.map D.int)) none none none none none none) _
  have hr := ho.1
  have nd := rise_nodup hr
  have ol := ho.len hp.e
  refine ds_fill (nums := numsOf os) (subs := between os) ?_ (by omega) nd ?_ ?_ ?_ ?_
  · rw [List.length_map]
    exact Nat.le_of_lt hp.n
  · refine de_dcE (da_cons (de_var rfl (da_nil ⟨_, os.map D.int, rfl, rfl, by rw [List.length_map]; omega, fun i kvs => kvs = ((numsOf os).take i).map fun p => (p.1, D.int p.2), rfl, fun i x hx kvs hk _ => ?_, fun kvs hk => ?_⟩)))
    · obtain ⟨a, ha, rfl⟩ := map_get hx
      refine dg_tup rfl (dgs_cons (dg_name (dgs_cons (dg_name (dgs_nil (dt_yes ?_))))))
      refine ite_b (fun _ => ?_) (fun h => by cases h)
      refine de_var rfl ⟨a, rfl, de_var rfl ⟨_, rfl, ?_, ?_⟩⟩
      · rw [hk, List.map_map]
        have e : (Prod.fst ∘ fun p : Int × Int => (p.1, D.int p.2)) = Prod.fst := rfl
        rw [e, List.map_take, numsOf_fst]
        intro hm
        obtain ⟨j, hj⟩ := mem_get hm
        rw [List.getElem?_take] at hj
        split at hj
        · rename_i hlt
          have h1 := List.getElem?_eq_some_iff.mp hj
          have h2 := List.getElem?_eq_some_iff.mp ha
          have := List.pairwise_iff_getElem.mp hr j i h1.1 h2.1 hlt
          rw [h1.2, h2.2] at this
          omega
        · cases hj
      · show _ = ((numsOf os).take (i + 1)).map fun p => (p.1, D.int p.2)
        rw [hk, take_get (numsOf_get ha), List.map_append]
        rfl
    · rw [hk, List.length_map, ← numsOf_len os, List.take_length]
  · intro b' hb'
    obtain ⟨b, hb, rfl⟩ := List.mem_map.mp hb'
    obtain ⟨e1, e2⟩ := ho.edges.has b hb
    obtain ⟨i, hi⟩ := mem_get e1
    obtain ⟨k, hk⟩ := mem_get e2
    have li := (List.getElem?_eq_some_iff.mp hi).1
    have lk := (List.getElem?_eq_some_iff.mp hk).1
    refine de_sl (de_var rfl (do_some (de_dgetI (de_var rfl ⟨_, rfl, de_var rfl ⟨_, _, rfl, numsOf_look nd hi, ⟨_, rfl, ?_⟩⟩⟩))))
    refine do_some (de_dgetI (de_var rfl ⟨_, rfl, de_op (de_var rfl (de_var rfl (plus_i ⟨_, _, rfl, numsOf_look nd hk, ⟨_, rfl, ?_⟩⟩)))⟩))
    refine sl_l rfl ?_
    rw [cut_nat (by rw [List.length_map]; omega) (by rw [List.length_map]; omega), ← List.map_take, ← List.map_drop, rising_slice hr hi hk (by have := (hp.pl.pos b hb).1; omega)]
    rfl
  · intro b' hb'
    refine ⟨?_, fun x hx => (List.mem_filter.mp hx).1⟩
    exact Nat.le_trans (List.length_filter_le _ _) (by omega)
  · rw [eb]
    show DS K _ [some (.d (.lst (bs.map dBx))), some (.d (.lst (os.map D.int))), some (.dcd (os.zip ((fillAll os (between os) (bs.map bx)).map D.lst))), some (.dcd ((numsOf os).map fun p => (p.1, D.int p.2))), none, none, none, none, none, none, none, none, none, none, none] _
    refine ds_seq (ds_set (de_lst' (da_nil ⟨[], rfl, Nat.le_of_ble_eq_true rfl, trivial, ?_⟩)))
    have nn : ∀ k ∈ os, 0 ≤ k := fun k hk => by
      obtain ⟨p, hp', e⟩ := (ho.2 k).mp hk
      obtain ⟨b, hb, rfl⟩ := List.mem_map.mp hp'
      obtain ⟨g1, g2, _⟩ := hp.inb b hb
      rcases e with rfl | rfl
      · exact g1.1
      · exact g2.1
    refine ds_seq (ds_forL (de_callQ (da_cons (de_var rfl (da_nil ⟨⟨trivial, trivial⟩, os, rfl, rfl, ⟨by omega, hr, nn⟩, ?_⟩)))))
    rintro r rfl
    refine ⟨_, rfl, fun i es => ∃ s10 s11 : Option SV, es = envG bs os i s10 s11, ⟨none, none, rfl⟩, fun i x es' hx hI => ?_, fun es' hI => ?_⟩
    · obtain ⟨z, hz, rfl⟩ := map_get hx
      obtain ⟨s10, s11, rfl⟩ := hI
      obtain ⟨hj1, hj2⟩ := List.getElem?_zip_eq_some.mp hz
      refine ⟨_, dg_name ?_⟩
      show DS K _ (envG bs os i (some (.d (dPair (z.1, z.2 - z.1)))) s11) _
      refine ds_seq (ds_set (de_callQ (da_cons (de_dgetI (de_var rfl ⟨_, rfl, de_op (de_var rfl (de_int (rr_xT (x := .int z.1) rfl ⟨_, _, rfl, strips_look hr hj1, ?_⟩)))⟩)))))
      obtain ⟨c1, c2, c3⟩ := partsF_ok hp z.1
      refine da_nil ⟨⟨trivial, trivial⟩, stripF bs z.1, rfl, rfl, ⟨c2, c1⟩, ?_⟩
      rintro r rfl
      refine ⟨trivial, ?_⟩
      show DS K _ (envG bs os i (some (.d (dPair (z.1, z.2 - z.1)))) (some (.d (dParts (partsF eqD bs z.1))))) _
      refine ds_if (dt_truTX (de_var rfl ⟨_, rfl, ?_⟩))
      refine ite_b (fun h => ?_) (fun h => ds_next ⟨some (.d (dPair (z.1, z.2 - z.1))), some (.d (dParts (partsF eqD bs z.1))), ?_⟩)
      · have ne : ¬ partsF eqD bs z.1 = [] := fun e => by
          have h' : (!((partsF eqD bs z.1).map dPiece).isEmpty) = true := h
          rw [e] at h'
          cases h'
        refine ds_app rfl (de_tup' (da_cons (de_var rfl (da_cons (de_var rfl (da_nil ⟨_, rfl, Nat.le_of_ble_eq_true rfl, _, rfl, piecesTo_len ol, some (.d (dPair (z.1, z.2 - z.1))), some (.d (dParts (partsF eqD bs z.1))), ?_⟩))))))
        show (envG bs os i (some (.d (dPair (z.1, z.2 - z.1)))) (some (.d (dParts (partsF eqD bs z.1))))).set 9 _ = _
        unfold envG
        rw [piecesTo_some hz ne]
        rfl
      · have e0 : partsF eqD bs z.1 = [] := by
          have h' : (!((partsF eqD bs z.1).map dPiece).isEmpty) = false := h
          cases q : partsF eqD bs z.1 with
          | nil => rfl
          | cons a l => rw [q] at h'; cases h'
        show envG bs os i _ _ = envG bs os (i + 1) _ _
        unfold envG
        rw [piecesTo_none hz e0]
    · obtain ⟨s10, s11, rfl⟩ := hI
      rw [List.length_map]
      unfold envG
      rw [piecesTo_all]
      obtain ⟨q1, q2⟩ := piecesF_ok hp (os := os) (by omega)
      refine ds_freeze (i := 9) rfl ?_
      refine ds_ret (de_callQ (da_cons (de_var rfl (da_nil ⟨⟨trivial, trivial⟩, piecesF eqD bs os, rfl, rfl, ⟨q1, q2⟩, ?_⟩))))
      rintro r rfl
      exact ⟨trivial, os, ho, rfl⟩
theorem sem_Sheet___init__ (lf : LF K Z) (x dx : Addr) (ss : List SV) (hp : ∃ bs : List Box, ss = [.d (.lst (bs.map dBx))] ∧ BoxesOk bs) : DI K x Z.C_Sheet dx (rd_Sheet___init__ K Z) [] (some (.cls x) :: startE 1 ss) fun fs => ∀ bs : List Box, ss = [.d (.lst (bs.map dBx))] → ∃ os : List Int, EdgesOf (bs.map (·.1)) os ∧ fs = [(("_rows" : Str), D.lst ((rowsF eqD bs os).map dPiece))] := by
  obtain ⟨bs, rfl, hb⟩ := hp
  show DI K x Z.C_Sheet dx (rd_Sheet___init__ K Z) [] [some (.cls x), some (.d (.lst (bs.map dBx)))] _
  unfold rd_Sheet___init__
  refine di_fldN rfl lf.i.cl lf.n_rows (by decide) rfl (de_callQ (da_cons (de_var rfl (da_nil ⟨⟨trivial, trivial⟩, bs, rfl, rfl, hb, ?_⟩))))
  rintro r ⟨os, ho, rfl⟩
  refine ⟨_, rfl, di_next fun bs' e => ?_⟩
  have ei : ∀ {as cs : List Box}, as.map dBx = cs.map dBx → as = cs := by
    intro as
    induction as with
    | nil => intro cs h; cases cs with
      | nil => rfl
      | cons _ _ => cases h
    | cons a as ih =>
      intro cs h
      cases cs with
      | nil => cases h
      | cons c cs =>
        rw [List.map_cons, List.map_cons] at h
        injection h with h1 h2
        rw [ih h2]
        obtain ⟨⟨a1, a2⟩, ⟨a3, a4⟩, a5⟩ := a
        obtain ⟨⟨c1, c2⟩, ⟨c3, c4⟩, c5⟩ := c
        unfold dBx dPair at h1
        simp only [D.tup.injEq, List.cons.injEq, D.int.injEq, and_true] at h1
        obtain ⟨⟨rfl, rfl⟩, ⟨rfl, rfl⟩, rfl⟩ := h1
        rfl
  injection e with e1 _
  injection e1 with e1
  injection e1 with e1
  obtain rfl := ei e1
  exact ⟨os, ho, rfl⟩
theorem sem__law_in (lf : LF K Z) (y : (Int × Int) × Int) (hp : True) : DS K (rd__law_in K Z) (startE 2 [.d (dPair y.1), .d (.int y.2)]) { nx := fun _ => SV.d .non = .d (.bl (inSb y.2 y.1)), rt := fun r => r = .d (.bl (inSb y.2 y.1)) } := by
  obtain ⟨p, c⟩ := y
  show DS K (rd__law_in K Z) [some (.d (dPair p)), some (.d (.int c))] _
  unfold rd__law_in
  refine ds_ret (de_chain (de_op (de_var rfl (de_int (rr_xT (x := .int p.1) rfl ?_)))))
  refine de_var rfl (le_i ⟨_, rfl, ?_⟩)
  refine ite_b (fun h => ?_) (fun h => ?_)
  · refine de_op (de_op (de_var rfl (de_int (rr_xT (x := .int p.1) rfl ?_))))
    refine de_op (de_var rfl (de_int (rr_xT (x := .int p.2) rfl (plus_i (lt_i ⟨trivial, ?_⟩)))))
    show SV.d (.bl _) = .d (.bl (inSb c p))
    unfold inSb
    rw [h, Bool.true_and]
  · refine ⟨trivial, ?_⟩
    show SV.d (.bl false) = .d (.bl (inSb c p))
    unfold inSb
    rw [h, Bool.false_and]
theorem call_in {es : Env'} {i j : Nat} {c : Int} {p : Int × Int} {Q : SV → Prop} (e : es[i]? = some (some (.d (dPair p)))) (e2 : es[j]? = some (some (.d (.int c)))) (q : Q (.d (.bl (inSb c p)))) : DE K (tCall (sp__law_in K Z) [] E0 (tCons (tVar i) (tCons (tVar j) tNil))) es Q := by
  refine de_callQ (da_cons (de_var e (da_cons (de_var e2 (da_nil ⟨⟨trivial, trivial, trivial⟩, (p, c), rfl, rfl, trivial, ?_⟩)))))
  rintro r rfl
  exact q
theorem sem__law_whole (lf : LF K Z) (n : Int) (hp : True) : DS K (rd__law_whole K Z) (startE 1 [.d (.int n)]) { nx := fun _ => SV.d .non = .d (.bl true), rt := fun r => r = .d (.bl true) } := by
  show DS K (rd__law_whole K Z) [some (.d (.int n))] _
  unfold rd__law_whole
  repeat walk_at "dl"
  refine rc_isi rfl (kit_isInt rfl) ?_
  repeat walk_at "dl"
  refine ite_b (fun h => ?_) (fun h => by cases h)
  repeat walk_at "dl"
  refine rc_isi rfl (kit_isBool rfl) ?_
  repeat walk_at "dl"
  rfl
theorem sem__law_shuffled (lf : LF K Z) (xs : List D) (hp : xs.length ≤ 1000 ∧ ∀ x ∈ xs, x.fine = true ∧ x.dep ≤ 30) : DS K (rd__law_shuffled K Z) (startE 4 [.bag, .d (.lst xs)]) { nx := fun _ => ∃ ys : List D, SV.d .non = .new ys ∧ ys.Perm xs, rt := fun r => ∃ ys : List D, r = .new ys ∧ ys.Perm xs } := by
  show DS K (rd__law_shuffled K Z) [some .bag, some (.d (.lst xs)), none, none] _
  obtain ⟨hp, hf⟩ := hp
  unfold rd__law_shuffled
  refine ds_seq (ds_par (by decide) (de_cb (da_cons (de_var rfl (da_nil (list_x rfl ?_))))))
  refine de_lst' (da_nil ⟨[], rfl, Nat.le_of_ble_eq_true rfl, trivial, trivial, ?_⟩)
  show DS K _ [some .bag, some (.d (.lst xs)), some (.own xs), some (.own [])] _
  refine ds_seq (ds_while (fun m es => ∃ rest found : List D, es = [some .bag, some (.d (.lst xs)), some (.own rest), some (.own found)] ∧ rest.length = m ∧ (found ++ rest).Perm xs) xs.length ⟨xs, [], rfl, rfl, .refl _⟩ fun m es' hI => ?_)
  obtain ⟨rest, found, rfl, hm, hpm⟩ := hI
  have hl : found.length + rest.length = xs.length := by
    have := hpm.length_eq
    rwa [List.length_append] at this
  refine dt_test (de_op (de_var rfl (de_lst' (da_nil ⟨[], rfl, Nat.le_of_ble_eq_true rfl, ?_⟩))))
  refine ne_list_nil rfl (fun x hx => hf x (hpm.subset (List.mem_append_right _ hx))) ⟨_, rfl, ?_⟩
  refine ite_b (fun h => ?_) (fun h => ?_)
  · have pos : 0 < rest.length := by
      cases rest with
      | nil => cases h
      | cons a l => simp
    refine ds_appPop (by decide) rfl rfl (by omega) (call_take rfl (de_cb (da_cons (de_var rfl (da_nil (len_x rfl rfl ⟨_, rfl, by omega, ?_, fun d d0 d1 => ?_⟩))))))
    · refine Nat.lt_of_le_of_lt (Nat.log2_le_self _) ?_
      omega
    · obtain ⟨k, rfl⟩ : ∃ k : Nat, d = (k : Int) := ⟨d.toNat, by omega⟩
      have lk : k < rest.length := by omega
      refine ⟨k, rest[k], rfl, by omega, List.getElem?_eq_getElem lk, ?_⟩
      refine ⟨(rest.eraseIdx k).length, ?_, rest.eraseIdx k, found ++ [rest[k]], rfl, rfl, ?_⟩
      · rw [List.length_eraseIdx_of_lt lk]
        omega
      · have := erase_perm (List.getElem?_eq_getElem lk)
        rw [List.append_assoc]
        exact ((this.append_left found)).trans hpm
  · have e : rest = [] := by
      cases rest with
      | nil => rfl
      | cons a l => cases h
    subst e
    refine ds_ret (de_var rfl ⟨trivial, found, rfl, ?_⟩)
    rwa [List.append_nil] at hpm
theorem le_lit {k : Int} : (10 : Int) ^ (30 : Int).toNat = 1000000000000000000000000000000 := by decide +kernel
theorem sem__law_side (lf : LF K Z) (y : Unit) (hp : True) : DS K (rd__law_side K Z) (startE 5 [.bag]) { nx := fun _ => ∃ ps : List (Int × Int), SV.d .non = .new (ps.map dPair) ∧ SideOk ps, rt := fun r => ∃ ps : List (Int × Int), r = .new (ps.map dPair) ∧ SideOk ps } := by
  show DS K (rd__law_side K Z) [some .bag, none, none, none, none] _
  unfold rd__law_side
  refine ds_seq (ds_par (by decide) ?_)
  refine de_op (de_lst' (da_cons (de_int (da_cons (de_int (da_cons ?_))))))
  refine call_take rfl ?_
  repeat walk_at "dl"
  refine pow_lit (k := 1000000000000000000000000000000) (by decide +kernel) (by decide) (by decide) (by decide) ?_
  refine ⟨_, rfl, by decide, by decide +kernel, fun d d0 d1 => ?_⟩
  repeat walk_at "dl"
  refine call_take rfl ?_
  repeat walk_at "dl"
  refine ⟨by decide, by decide +kernel, fun t t0 t1 => ?_⟩
  refine ixL_any rfl t0 (by exact t1) (fun x hx => ?_)
  obtain ⟨a, rfl, a0, a1⟩ : ∃ a : Int, x = .int a ∧ 0 ≤ a ∧ a ≤ 1000000000000000000000000000000 := by
    simp only [List.mem_cons, List.not_mem_nil, or_false] at hx
    rcases hx with rfl | rfl | rfl
    · exact ⟨_, rfl, by decide, by decide⟩
    · exact ⟨_, rfl, by decide, by decide⟩
    · exact ⟨_, rfl, d0, by omega⟩
  refine de_lst' (da_nil ⟨[], rfl, Nat.le_of_ble_eq_true rfl, trivial, trivial, ?_⟩)
  show DS K _ [some .bag, some (.d (.int a)), some (.own []), none, none] _
  refine ds_seq (ds_for1 ?_)
  repeat walk_at "dl"
  refine call_take rfl ?_
  repeat walk_at "dl"
  refine ⟨by decide, by decide +kernel, fun n n0 n1 => ?_⟩
  repeat walk_at "dl"
  refine ⟨by omega, by omega, fun t es => ∃ (b : Int) (ps : List (Int × Int)) (s3 s4 : Option SV), es = [some .bag, some (.d (.int b)), some (.own (ps.map dPair)), s3, s4] ∧ ps.length = t ∧ Rising ps ∧ (∀ p ∈ ps, 0 ≤ p.1 ∧ 1 ≤ p.2 ∧ p.1 + p.2 ≤ b) ∧ 0 ≤ b ∧ b ≤ 1000000000000000000000000000000 + 200000000000000000000000000000 * (t : Int), ⟨a, [], none, none, rfl, rfl, .nil, fun p hp => (by cases hp), a0, by omega⟩, fun i es' hi hI => ?_, fun es' hI => ?_⟩
  · obtain ⟨b, ps, s3, s4, rfl, hl, hr, hps, b0, b1⟩ := hI
    show DS K _ [some .bag, some (.d (.int b)), some (.own (ps.map dPair)), some (.d (.int i)), s4] _
    refine ds_seq (ds_aug rfl ?_)
    refine de_op (de_lst' (da_cons (de_int (da_cons (de_int (da_cons ?_))))))
    repeat walk_at "dl"
    refine call_take rfl ?_
    repeat walk_at "dl"
    refine ⟨by decide, by decide +kernel, fun d d0 d1 => ?_⟩
    repeat walk_at "dl"
    refine call_take rfl ?_
    repeat walk_at "dl"
    refine pow_lit (k := 100000000000000000000) (by decide +kernel) (by decide) (by decide) (by decide) ?_
    refine ⟨_, rfl, by decide, by decide +kernel, fun e e0 e1 => ?_⟩
    repeat walk_at "dl"
    refine call_take rfl ?_
    repeat walk_at "dl"
    refine ⟨by decide, by decide +kernel, fun t t0 t1 => ?_⟩
    refine ixL_any rfl t0 (by exact t1) (fun x hx => ?_)
    obtain ⟨g, rfl, g0, g1⟩ : ∃ g : Int, x = .int g ∧ 0 ≤ g ∧ g ≤ 100000000000000000000 := by
      simp only [List.mem_cons, List.not_mem_nil, or_false] at hx
      rcases hx with rfl | rfl | rfl | rfl
      · exact ⟨_, rfl, by decide, by decide⟩
      · exact ⟨_, rfl, by decide, by decide⟩
      · exact ⟨_, rfl, by omega, by omega⟩
      · exact ⟨_, rfl, by omega, by omega⟩
    refine ⟨_, rfl, ?_⟩
    show DS K _ [some .bag, some (.d (.int (b + g))), some (.own (ps.map dPair)), some (.d (.int i)), s4] _
    refine ds_seq (ds_set (de_op (de_int (call_take rfl ?_))))
    repeat walk_at "dl"
    refine pow_lit (k := 100000000000000000000000000000) (by decide +kernel) (by decide) (by decide) (by decide) ?_
    repeat walk_at "dl"
    refine call_take rfl ?_
    repeat walk_at "dl"
    refine ⟨by decide, by decide +kernel, fun t t0 t1 => ?_⟩
    refine ixL_any rfl t0 (by exact t1) (fun x hx => ?_)
    obtain ⟨m, rfl, m0, m1⟩ : ∃ m : Int, x = .int m ∧ 1 ≤ m ∧ m ≤ 100000000000000000000000000000 := by
      simp only [List.mem_cons, List.not_mem_nil, or_false] at hx
      rcases hx with rfl | rfl | rfl | rfl <;> exact ⟨_, rfl, by decide, by decide⟩
    refine ⟨_, rfl, by omega, ?_, fun c c0 c1 => ?_⟩
    · refine Nat.lt_of_lt_of_le (log2_le_of_lt (m := 200) ?_ (by decide)) (by decide)
      have : (2 : Nat) ^ 200 = 1606938044258990275541962092341162602522202993782792835301376 := by decide +kernel
      omega
    refine plus_i ⟨trivial, ?_⟩
    show DS K _ [some .bag, some (.d (.int (b + g))), some (.own (ps.map dPair)), some (.d (.int i)), some (.d (.int (1 + c)))] _
    refine ds_seq (ds_app rfl (de_tup' (da_cons (de_var rfl (da_cons (de_var rfl (da_nil ⟨_, rfl, Nat.le_of_ble_eq_true rfl, _, rfl, ?_, ?_⟩)))))))
    · rw [List.length_map]
      omega
    show DS K _ [some .bag, some (.d (.int (b + g))), some (.own (ps.map dPair ++ [dPair (b + g, 1 + c)])), some (.d (.int i)), some (.d (.int (1 + c)))] _
    refine ds_aug rfl (de_var rfl ⟨_, rfl, b + g + (1 + c), ps ++ [(b + g, 1 + c)], some (.d (.int i)), some (.d (.int (1 + c))), ?_, ?_, ?_, ?_, by omega, by omega⟩)
    · rw [List.map_append]
      rfl
    · rw [List.length_append, hl]
      rfl
    · refine List.pairwise_append.mpr ⟨hr, List.pairwise_singleton _ _, fun p hp q hq => ?_⟩
      rw [List.mem_singleton.mp hq]
      have := (hps p hp).2.2
      show p.1 + p.2 ≤ b + g
      omega
    · intro p hp
      rcases List.mem_append.mp hp with h | h
      · obtain ⟨h1, h2, h3⟩ := hps p h
        exact ⟨h1, h2, by omega⟩
      · rw [List.mem_singleton.mp h]
        exact ⟨by show 0 ≤ b + g; omega, by show 1 ≤ 1 + c; omega, by show b + g + (1 + c) ≤ _; omega⟩
  · obtain ⟨b, ps, s3, s4, rfl, hl, hr, hps, b0, b1⟩ := hI
    refine ds_ret (de_var rfl ⟨trivial, ps, rfl, by omega, by omega, hr, fun p hp => ?_⟩)
    obtain ⟨h1, h2, h3⟩ := hps p hp
    exact ⟨h1, h2, by omega⟩
theorem log_small {n : Nat} (h : n < 1606938044258990275541962092341162602522202993782792835301376) : n.log2 < 200 := log2_le_of_lt (m := 200) (by
  have : (2 : Nat) ^ 200 = 1606938044258990275541962092341162602522202993782792835301376 := by decide +kernel
  omega) (by decide)
theorem sem__law_cells (lf : LF K Z) (ps : List (Int × Int)) (hp : SideOk ps) : DS K (rd__law_cells K Z) (startE 5 [.bag, .d (.lst (ps.map dPair))]) { nx := fun _ => ∃ cs : List Int, SV.d .non = .new (cs.map D.int), rt := fun r => ∃ cs : List Int, r = .new (cs.map D.int) } := by
  show DS K (rd__law_cells K Z) [some .bag, some (.d (.lst (ps.map dPair))), none, none, none] _
  obtain ⟨h1, h2, h3, h4⟩ := hp
  obtain ⟨qs, p, rfl⟩ : ∃ qs p, ps = qs ++ [p] := ⟨ps.dropLast, ps.getLast (by intro e; subst e; simp at h1), (List.dropLast_concat_getLast _).symm⟩
  have el : ∀ es : Env', es[1]? = some (some (.d (.lst ((qs ++ [p]).map dPair)))) → ∀ {Q : SV → Prop}, Q (.d (dPair p)) → DE K (tOp (rIx K) (tVar 1) (tUn rNeg (tC (.int 1)))) es Q := fun es e Q q => by
    refine de_op (de_var e (de_un (de_int (neg_i (rr_xL (x := dPair p) rfl ?_ q)))))
    rw [List.map_append]
    exact DL.atI_last
  unfold rd__law_cells
  refine ds_seq (ds_set (de_lst' (da_cons (de_int (da_cons (de_op (de_op (el _ rfl (de_int (rr_xT (x := .int p.1) rfl ?_)))))))))) 
  refine de_op (de_int (de_op (el _ rfl (de_int (rr_xT (x := .int p.2) rfl ?_)))))
  refine mul_l (by decide) (plus_i (da_cons (de_op (de_int (de_int ?_)))))
  refine pow_lit (k := 10000000000000000000000000000000) (by decide +kernel) (by decide) (by decide) (by decide) ?_
  refine da_nil ⟨_, rfl, Nat.le_of_ble_eq_true rfl, trivial, ?_⟩
  refine ds_seq (ds_forL (de_var rfl ⟨_, rfl, fun i es => ∃ (cs : List Int) (s3 s4 : Option SV), es = [some .bag, some (.d (.lst ((qs ++ [p]).map dPair))), some (.own (cs.map D.int)), s3, s4] ∧ cs.length = 3 + 5 * i, ⟨[0, p.1 + 2 * p.2, 10000000000000000000000000000000], none, none, rfl, rfl⟩, fun i x es' hx hI => ?_, fun es' hI => ?_⟩))
  · obtain ⟨q, hq, rfl⟩ := map_get hx
    obtain ⟨cs, s3, s4, rfl, hl⟩ := hI
    have hi := (List.getElem?_eq_some_iff.mp hq).1
    obtain ⟨g1, g2, g3⟩ := h4 q (List.mem_of_getElem? hq)
    refine ⟨_, dg_tup rfl (dgs_cons (dg_name (dgs_cons (dg_name (dgs_nil ?_)))))⟩
    show DS K _ [some .bag, some (.d (.lst ((qs ++ [p]).map dPair))), some (.own (cs.map D.int)), some (.d (.int q.1)), some (.d (.int q.2))] _
    refine ds_ext rfl ?_
    repeat walk_at "dl"
    refine call_take rfl (de_var rfl ⟨_, rfl, by omega, Nat.lt_of_lt_of_le (log_small (by omega)) (by decide), fun d d0 d1 => ?_⟩)
    repeat walk_at "dl"
    refine ⟨by rw [List.length_map]; show cs.length + 5 ≤ 100000; omega, ?_⟩
    refine ⟨cs ++ [q.1, q.1 + q.2 - 1, q.1 + q.2, if q.1 - 1 > 0 then q.1 - 1 else 0, q.1 + d], some (.d (.int q.1)), some (.d (.int q.2)), ?_, ?_⟩
    · rw [List.map_append (f := D.int)]
      rfl
    · rw [List.length_append, hl]
      show 3 + 5 * i + 5 = _
      omega
  · obtain ⟨cs, s3, s4, rfl, hl⟩ := hI
    exact ds_ret (de_var rfl ⟨trivial, cs, rfl⟩)
theorem sem__law_value (lf : LF K Z) (w : List Box × Int × Int) (hp : True) : DS K (rd__law_value K Z) (startE 6 [.d (.lst (w.1.map dBx)), .d (.int w.2.1), .d (.int w.2.2)]) { nx := fun _ => SV.d .non = .d (valF w.1 w.2.1 w.2.2), rt := fun r => r = .d (valF w.1 w.2.1 w.2.2) } := by
  obtain ⟨bs, x, y⟩ := w
  show DS K (rd__law_value K Z) [some (.d (.lst (bs.map dBx))), some (.d (.int x)), some (.d (.int y)), none, none, none] { nx := fun _ => SV.d .non = .d (valF bs x y), rt := fun r => r = .d (valF bs x y) }
  unfold rd__law_value
  refine ds_seq (ds_forL (de_var rfl ⟨bs.map dBx, rfl, fun i es => ∃ s3 s4 s5 : Option SV, es = [some (.d (.lst (bs.map dBx))), some (.d (.int x)), some (.d (.int y)), s3, s4, s5] ∧ valF (bs.drop i) x y = valF bs x y, ⟨none, none, none, rfl, rfl⟩, fun i x0 es' hx hI => ?_, fun es' hI => ?_⟩))
  · obtain ⟨b, hb, rfl⟩ := map_get hx
    obtain ⟨s3, s4, s5, rfl, ha⟩ := hI
    rw [drop_get hb] at ha
    refine ⟨_, dg_tup (xs := [dPair b.1, dPair b.2.1, b.2.2]) rfl (dgs_cons (dg_name (dgs_cons (dg_name (dgs_cons (dg_name (dgs_nil ?_)))))))⟩
    show DS K _ [some (.d (.lst (bs.map dBx))), some (.d (.int x)), some (.d (.int y)), some (.d (dPair b.1)), some (.d (dPair b.2.1)), some (.d b.2.2)] _
    have miss : ¬ (inSb x b.1 = true ∧ inSb y b.2.1 = true) → valF (bs.drop (i + 1)) x y = valF bs x y := fun h => by
      rw [← ha]
      conv => rhs; unfold valF
      rw [if_neg h]
    refine ds_if (dt_and (dt_B (call_in rfl rfl ⟨_, rfl, ?_⟩)))
    refine ite_b (fun h => ?_) (fun h => ?_)
    · refine dt_B (call_in rfl rfl ⟨_, rfl, ?_⟩)
      refine ite_b (fun h2 => ?_) (fun h2 => ds_next ⟨_, _, _, rfl, miss fun z => by rw [h2] at z; exact absurd z.2 Bool.false_ne_true⟩)
      refine ds_ret (de_var rfl ⟨trivial, ?_⟩)
      show SV.d b.2.2 = .d (valF bs x y)
      rw [← ha]
      conv => rhs; unfold valF
      rw [if_pos ⟨h, h2⟩]
    · refine ite_b (fun z => by cases z) (fun _ => ds_next ⟨_, _, _, rfl, miss fun z => by rw [h] at z; exact absurd z.1 Bool.false_ne_true⟩)
  · obtain ⟨s3, s4, s5, rfl, ha⟩ := hI
    rw [List.length_map, List.drop_length] at ha
    refine ds_ret (de_non ⟨trivial, ?_⟩)
    show SV.d .non = .d (valF bs x y)
    rw [← ha]
    rfl
theorem side_nodup {ps : List (Int × Int)} (h : SideOk ps) : ps.Nodup := rising_nodup h.rs fun p hp => by have := (h.el p hp).2.1; omega
/-- a value that is drawn -/
def valOk (d : D) : Prop := d.pure = true ∧ d.fine = true ∧ d.dep ≤ 1 ∧ d ≠ .non ∧ d.wt ≤ 1000 ∧ okS d.shown
structure DrawnB (fs os : List (Int × Int)) (bs : List Box) : Prop where
  k : (bs.map bKey).Sublist (prodL fs os)
  v : ∀ b ∈ bs, valOk b.2.2
theorem DrawnB.ok {fs os : List (Int × Int)} {bs : List Box} (hf : SideOk fs) (ho : SideOk os) (h : DrawnB fs os bs) : BoxesOk bs := by
  have mem : ∀ b ∈ bs, b.1 ∈ fs ∧ b.2.1 ∈ os := fun b hb => prodL_mem.mp (h.k.subset (List.mem_map_of_mem (f := bKey) hb))
  have len : bs.length ≤ 36 := by
    have := h.k.length_le
    rw [List.length_map, prodL_len] at this
    have h1 := hf.hi
    have h2 := ho.hi
    have := Nat.mul_le_mul h1 h2
    omega
  refine ⟨by omega, ⟨by rw [List.length_map]; omega, fs.map (·.1) ++ fs.map (fun p => p.1 + p.2), ?_, fun p hp => ?_⟩, ⟨fun b hb => ?_⟩, fun b hb => ?_, fun b hb => ?_⟩
  · rw [List.length_append, List.length_map, List.length_map]
    have := hf.hi
    omega
  · obtain ⟨b, hb, rfl⟩ := List.mem_map.mp hp
    have := (mem b hb).1
    exact ⟨List.mem_append_left _ (List.mem_map_of_mem this), List.mem_append_right _ (List.mem_map.mpr ⟨b.1, this, rfl⟩)⟩
  · have h1 := hf.el _ (mem b hb).1
    have h2 := ho.el _ (mem b hb).2
    omega
  · have h1 := hf.el _ (mem b hb).1
    have h2 := ho.el _ (mem b hb).2
    unfold inB
    omega
  · obtain ⟨v1, v2, v3, _⟩ := h.v b hb
    exact ⟨v1, v2, by omega⟩
theorem DrawnB.apart {fs os : List (Int × Int)} {bs : List Box} (hf : SideOk fs) (ho : SideOk os) (h : DrawnB fs os bs) : Apart bs := apart_of hf.rs ho.rs (side_nodup hf) (side_nodup ho) h.k
theorem box_fine {fs os : List (Int × Int)} {bs : List Box} (hf : SideOk fs) (ho : SideOk os) (h : DrawnB fs os bs) : ∀ x ∈ bs.map dBx, x.fine = true ∧ x.dep ≤ 30 := fun x hx => by
  obtain ⟨b, hb, rfl⟩ := List.mem_map.mp hx
  obtain ⟨h1, h2, h3, h4⟩ := (h.ok hf ho).inb b hb
  obtain ⟨v1, v2, v3, _⟩ := h.v b hb
  have c1 := cmp_int (lit1900 h1.abs)
  have s1 := h2.sub h1
  rw [show b.1.1 + b.1.2 - b.1.1 = b.1.2 by omega] at s1
  have c2 := cmp_int (lit1900 s1)
  have c3 := cmp_int (lit1900 h3.abs)
  have s2 := h4.sub h3
  rw [show b.2.1.1 + b.2.1.2 - b.2.1.1 = b.2.1.2 by omega] at s2
  have c4 := cmp_int (lit1900 s2)
  have p1 : (dPair b.1).pure = true ∧ (dPair b.1).fine = true ∧ (dPair b.1).dep ≤ 0 + 1 := cmp_tup (.cons c1.p c1.f (Nat.le_refl _) (.cons c2.p c2.f (Nat.le_refl _) .nil))
  have p2 : (dPair b.2.1).pure = true ∧ (dPair b.2.1).fine = true ∧ (dPair b.2.1).dep ≤ 0 + 1 := cmp_tup (.cons c3.p c3.f (Nat.le_refl _) (.cons c4.p c4.f (Nat.le_refl _) .nil))
  have := cmp_tup (k := 1) (.cons p1.1 p1.2.1 p1.2.2 (.cons p2.1 p2.2.1 p2.2.2 (.cons v1 v2 v3 .nil)))
  exact ⟨this.2.1, Nat.le_trans this.2.2 (by decide)⟩
def vals3 : List D := [.str "way", .tup [.str "none", .int 3], .tup [.int 4, .int 5]]
theorem vals3_ok : ∀ d ∈ vals3, valOk d := fun d hd => by
  simp only [vals3, List.mem_cons, List.not_mem_nil, or_false] at hd
  have o1 : okS ("way" : Str) := by unfold okS; decide +kernel
  have o2 : okS ("none" : Str) := by unfold okS; decide +kernel
  have i3 := cmp_int (i := 3) (by decide +kernel)
  have i4 := cmp_int (i := 4) (by decide +kernel)
  have i5 := cmp_int (i := 5) (by decide +kernel)
  rcases hd with rfl | rfl | rfl
  · exact ⟨rfl, o1, Nat.zero_le _, by simp, by decide +kernel, by unfold okS; decide +kernel⟩
  · have := cmp_tup (k := 0) (.cons (cmp_str o2).p (cmp_str o2).f (Nat.le_refl _) (.cons i3.p i3.f (Nat.le_refl _) .nil))
    exact ⟨this.1, this.2.1, this.2.2, by simp, by decide +kernel, by unfold okS; decide +kernel⟩
  · have := cmp_tup (k := 0) (.cons i4.p i4.f (Nat.le_refl _) (.cons i5.p i5.f (Nat.le_refl _) .nil))
    exact ⟨this.1, this.2.1, this.2.2, by simp, by decide +kernel, by unfold okS; decide +kernel⟩
theorem valF_fit {fs os : List (Int × Int)} {bs : List Box} (h : DrawnB fs os bs) (x y : Int) : ∃ n, n ≤ 1000 ∧ Fit n 1 (valF bs x y) ∧ Fit 10008 0 (.str (valF bs x y).shown) := by
  have key : ∀ d : D, (d = .non ∨ valOk d) → ∃ n, n ≤ 1000 ∧ Fit n 1 d ∧ Fit 10008 0 (.str d.shown) := fun d hd => by
    rcases hd with rfl | ⟨_, v2, v3, _, v5, v6⟩
    · exact ⟨8, by decide, Fit.non.mono (by decide) (by decide), Fit.s (m := 1000) (by unfold okS; decide +kernel) (by decide +kernel)⟩
    · exact ⟨d.wt, v5, ⟨v2, Nat.le_refl _, v3⟩, Fit.s (m := 1000) v6 (Nat.le_trans (shown_wt d v2) v5)⟩
  refine key _ ?_
  rcases valF_in (bs := bs) (x := x) (y := y) with ⟨b, hb, _, _, e⟩ | ⟨e, _⟩
  · exact .inr (by rw [← e]; exact h.v b hb)
  · exact .inl e
theorem sum_small {α : Type} {f : α → Int} : ∀ {l : List α}, (∀ x ∈ l, 0 ≤ f x ∧ f x < 1606938044258990275541962092341162602522202993782792835301376) → 0 ≤ (l.map f).sum ∧ (l.map f).sum ≤ (l.length : Int) * 1606938044258990275541962092341162602522202993782792835301376
  | [], _ => ⟨Int.le_refl _, by simp⟩
  | x :: l, h => by
    obtain ⟨a, b⟩ := sum_small (l := l) fun y hy => h y (List.mem_cons_of_mem _ hy)
    obtain ⟨c, d⟩ := h x (by simp)
    rw [List.map_cons, List.sum_cons, List.length_cons]
    omega
theorem parts_small {bs : List Box} (h : BoxesOk bs) (a : Int) : (partsF eqD bs a).length ≤ 1000 ∧ (∀ p ∈ partsF eqD bs a, 0 < p.1.2 ∧ p.1.2 < 1606938044258990275541962092341162602522202993782792835301376) ∧ (cellsF (partsF eqD bs a)).natAbs.log2 < 10000 := by
  have hl : (partsF eqD bs a).length ≤ 1000 := by
    refine Nat.le_trans joinOut_len ?_
    rw [List.length_mergeSort]
    exact Nat.le_of_lt (partsF_ok h a).2.1
  have he : ∀ p ∈ partsF eqD bs a, 0 < p.1.2 ∧ p.1.2 < 1606938044258990275541962092341162602522202993782792835301376 := fun p hp => by
    refine ⟨(parts_ok eqD_eq h.pl a).1 p hp, ?_⟩
    obtain ⟨h1, h2, _⟩ := joinOut_in (eqv := eqD) (ps := (stripF bs a).mergeSort leP) (P := inB) (W := fun _ => True) (fun q hq => by
      obtain ⟨b, hb, _, rfl⟩ := mem_strip.mp (List.mem_mergeSort.mp hq)
      obtain ⟨_, _, g3, g4⟩ := h.inb b hb
      exact ⟨g3, g4, trivial⟩) p hp
    have := h1.1
    have := h2.2
    omega
  refine ⟨hl, he, ?_⟩
  obtain ⟨s1, s2⟩ := sum_small (l := partsF eqD bs a) (f := fun p => p.1.2) fun p hp => ⟨Int.le_of_lt (he p hp).1, (he p hp).2⟩
  have : (cellsF (partsF eqD bs a)).natAbs < 2 ^ 300 := by
    have e : (2 : Nat) ^ 300 = 2037035976334486086268445688409378161051468393665936250636140449354381299763336706183397376 := by decide +kernel
    have : ((partsF eqD bs a).length : Int) * 1606938044258990275541962092341162602522202993782792835301376 ≤ 1000 * 1606938044258990275541962092341162602522202993782792835301376 := Int.mul_le_mul_of_nonneg_right (by omega) (by decide)
    have z : cellsF (partsF eqD bs a) = ((partsF eqD bs a).map fun p => p.1.2).sum := rfl
    rw [e, z]
    omega
  exact Nat.lt_of_lt_of_le (log2_le_of_lt this (by decide)) (by decide)
theorem call_side {Q : SV → Prop} {es : Env'} {i : Nat} (e : es[i]? = some (some .bag)) (q : ∀ ps, SideOk ps → Q (.new (ps.map dPair))) : DE K (tCall (sp__law_side K Z) [] E0 (tCons (tVar i) tNil)) es Q := by
  refine de_callQ (da_cons (de_var e (da_nil ⟨⟨trivial, trivial⟩, (), rfl, rfl, trivial, ?_⟩)))
  rintro r ⟨ps, rfl, h⟩
  exact q ps h
theorem sub_step {fs os : List (Int × Int)} {i j : Nat} {p q : Int × Int} (hp : fs[i]? = some p) (hq : os[j]? = some q) {ks : List ((Int × Int) × (Int × Int))} (h : ks.Sublist (prodL (fs.take i) os ++ (os.take j).map fun q => (p, q))) :
    ks.Sublist (prodL (fs.take i) os ++ (os.take (j + 1)).map fun q => (p, q)) ∧ (ks ++ [(p, q)]).Sublist (prodL (fs.take i) os ++ (os.take (j + 1)).map fun q => (p, q)) := by
  have e : prodL (fs.take i) os ++ (os.take (j + 1)).map (fun q => (p, q)) = (prodL (fs.take i) os ++ (os.take j).map fun q => (p, q)) ++ [(p, q)] := by
    rw [take_get hq, List.map_append, List.append_assoc]
    rfl
  rw [e]
  exact ⟨h.trans (List.sublist_append_left _ _), h.append (.refl _)⟩
theorem prod_step {fs os : List (Int × Int)} {i : Nat} {p : Int × Int} (hp : fs[i]? = some p) : prodL (fs.take (i + 1)) os = prodL (fs.take i) os ++ os.map fun q => (p, q) := by
  unfold prodL
  rw [take_get hp, List.flatMap_append]
  simp
theorem prod_take {fs os : List (Int × Int)} (i : Nat) : (prodL (fs.take i) os).Sublist (prodL fs os) := by
  have : prodL fs os = prodL (fs.take i) os ++ prodL (fs.drop i) os := by
    conv => lhs; rw [← List.take_append_drop i fs]
    unfold prodL
    rw [List.flatMap_append]
  rw [this]
  exact List.sublist_append_left _ _
theorem sem__law_right (lf : LF K Z) (w : Unit) (hp : True) : DS K (rd__law_right K Z) (startE 14 [.bag]) { nx := fun _ => SV.d .non = .d (.bl true), rt := fun r => r = .d (.bl true) } := by
  show DS K (rd__law_right K Z) [some .bag, none, none, none, none, none, none, none, none, none, none, none, none, none] _
  unfold rd__law_right
  refine ds_seq (ds_par3d (call_side rfl fun fs hf => ⟨_, rfl, call_side rfl fun os ho => ⟨_, rfl, ?_⟩⟩))
  repeat walk_at "dl"
  show DS K _ [some .bag, some (.d (.lst (fs.map dPair))), some (.d (.lst (os.map dPair))), some (.d (.tup vals3)), some (.own []), none, none, none, none, none, none, none, none, none] _
  refine ds_forL (de_var rfl ⟨_, rfl, fun i es => ∃ (bs : List Box) (s5 s6 s7 : Option SV), es = [some .bag, some (.d (.lst (fs.map dPair))), some (.d (.lst (os.map dPair))), some (.d (.tup vals3)), some (.own (bs.map dBx)), s5, s6, s7, none, none, none, none, none, none] ∧ (bs.map bKey).Sublist (prodL (fs.take i) os) ∧ ∀ b ∈ bs, valOk b.2.2, ⟨[], none, none, none, rfl, .slnil, fun b hb => (by cases hb)⟩, fun i x es' hx hI => ?_, fun es' hI => ?_⟩)
  · obtain ⟨p, hp, rfl⟩ := map_get hx
    obtain ⟨bs, s5, s6, s7, rfl, hk, hv⟩ := hI
    refine ⟨_, dg_name ?_⟩
    show DS K _ [some .bag, some (.d (.lst (fs.map dPair))), some (.d (.lst (os.map dPair))), some (.d (.tup vals3)), some (.own (bs.map dBx)), some (.d (dPair p)), s6, s7, none, none, none, none, none, none] _
    refine ds_forL (de_var rfl ⟨_, rfl, fun j es => ∃ (bs : List Box) (s6 s7 : Option SV), es = [some .bag, some (.d (.lst (fs.map dPair))), some (.d (.lst (os.map dPair))), some (.d (.tup vals3)), some (.own (bs.map dBx)), some (.d (dPair p)), s6, s7, none, none, none, none, none, none] ∧ (bs.map bKey).Sublist (prodL (fs.take i) os ++ (os.take j).map fun q => (p, q)) ∧ ∀ b ∈ bs, valOk b.2.2, ⟨bs, s6, s7, rfl, by rw [List.take_zero, List.map_nil, List.append_nil]; exact hk, hv⟩, fun j x es' hx hI => ?_, fun es' hI => ?_⟩)
    · obtain ⟨q, hq, rfl⟩ := map_get hx
      obtain ⟨bs, s6, s7, rfl, hk, hv⟩ := hI
      have hbl : bs.length ≤ 36 := by
        have l1 := hk.length_le
        rw [List.length_map, List.length_append, prodL_len, List.length_map, List.length_take, List.length_take] at l1
        have h1 := hf.hi
        have h2 := ho.hi
        have hi := (List.getElem?_eq_some_iff.mp hp).1
        have : min i fs.length * os.length ≤ 5 * 6 := Nat.mul_le_mul (by omega) h2
        omega
      refine ⟨_, dg_name ?_⟩
      show DS K _ [some .bag, some (.d (.lst (fs.map dPair))), some (.d (.lst (os.map dPair))), some (.d (.tup vals3)), some (.own (bs.map dBx)), some (.d (dPair p)), some (.d (dPair q)), s7, none, none, none, none, none, none] _
      refine ds_seq (ds_set (call_take rfl (de_int ⟨5, rfl, by decide, by decide +kernel, fun d d0 d1 => ⟨trivial, ?_⟩⟩)))
      show DS K _ [some .bag, some (.d (.lst (fs.map dPair))), some (.d (.lst (os.map dPair))), some (.d (.tup vals3)), some (.own (bs.map dBx)), some (.d (dPair p)), some (.d (dPair q)), some (.d (.int d)), none, none, none, none, none, none] _
      obtain ⟨k1, k2⟩ := sub_step hp hq hk
      refine ds_if (dt_test (de_op (de_var rfl (de_int (lt_i ⟨_, rfl, ?_⟩)))))
      refine ite_b (fun h => ?_) (fun h => ds_next ⟨bs, _, _, rfl, k1, hv⟩)
      have d3 : d < 3 := of_decide_eq_true h
      refine ds_app rfl (de_tup' (da_cons (de_var rfl (da_cons (de_var rfl (da_cons (de_op (de_var rfl (de_var rfl (ixT_any d0 (by exact d3) fun v hv' => ?_))))))))))
      refine da_nil ⟨_, rfl, Nat.le_of_ble_eq_true rfl, _, rfl, by rw [List.length_map]; omega, bs ++ [(p, q, v)], some (.d (dPair q)), some (.d (.int d)), ?_, ?_, ?_⟩
      · rw [List.map_append (f := dBx)]
        rfl
      · rw [List.map_append]
        exact k2
      · intro b hb
        rcases List.mem_append.mp hb with z | z
        · exact hv b z
        · rw [List.mem_singleton.mp z]
          exact vals3_ok v hv'
    · obtain ⟨bs, s6, s7, rfl, hk, hv⟩ := hI
      refine ⟨bs, _, _, _, rfl, ?_, hv⟩
      rw [List.length_map, List.take_length] at hk
      rw [prod_step hp]
      exact hk
  · obtain ⟨bs, s5, s6, s7, rfl, hk, hv⟩ := hI
    have dw : DrawnB fs os bs := ⟨hk.trans (prod_take _), hv⟩
    have ok := dw.ok hf ho
    refine ds_freeze (i := 4) rfl ?_
    show DS K _ [some .bag, some (.d (.lst (fs.map dPair))), some (.d (.lst (os.map dPair))), some (.d (.tup vals3)), some (.d (.lst (bs.map dBx))), s5, s6, s7, none, none, none, none, none, none] _
    refine ds_seq (ds_par (by decide) ?_)
    refine de_makeN (ix := [0]) (dS := []) (fun N M L H0 H => .nil) (fun x vs zs => pick_self [0] x _) ?_
    refine da_cons (de_callQ (da_cons (de_var rfl (da_cons (de_var rfl (da_nil ⟨⟨trivial, trivial, trivial⟩, bs.map dBx, rfl, rfl, ⟨by rw [List.length_map]; exact Nat.le_of_lt ok.n, box_fine hf ho dw⟩, ?_⟩))))))
    rintro r ⟨ys, rfl, hperm⟩
    obtain ⟨cs, hcs, rfl⟩ := perm_map unBx_dBx hperm
    have okc : BoxesOk cs := by
      refine ⟨by rw [hcs.length_eq]; exact ok.n, ?_, ⟨fun b hb => ok.pl.pos b (hcs.subset hb)⟩, fun b hb => ok.inb b (hcs.subset hb), fun b hb => ok.val b (hcs.subset hb)⟩
      obtain ⟨e1, zs, e2, e3⟩ := ok.e
      exact ⟨by rw [List.length_map, hcs.length_eq]; rw [List.length_map] at e1; exact e1, zs, e2, fun p hp => e3 p ((hcs.map _).subset hp)⟩
    refine da_nil (da_nil ⟨⟨trivial, trivial⟩, trivial, rfl, rfl, rfl, ⟨cs, rfl, okc⟩, fun ds hds => ?_⟩)
    obtain ⟨es, he, rfl⟩ := hds cs rfl
    obtain ⟨rp, er, hr⟩ := rows_of okc.pl he.edges
    have hsum := area_ok eqD_eq okc.pl he.edges (g := fun d => match d with | .tup ps => (ps.map fun x => match x with | .tup [.tup [_, .int m], _] => m | _ => 0).sum | _ => 0) (fun ps => by
      show ((ps.map dPiece).map _).sum = cellsF ps
      rw [List.map_map]
      rfl)
    have hatv := fun x y => at_val hcs okc.pl he.edges er (dw.apart hf ho) (fun b hb => (dw.v b hb).2.2.2.1) x y
    have hsp : ∀ r ∈ rp, r.2.length ≤ 100000 ∧ r.1.2.natAbs.log2 < 10000 ∧ (cellsF r.2).natAbs.log2 < 10000 := fun r hr' => by
      obtain ⟨a, ea⟩ := hr r hr'
      obtain ⟨s1, s2, s3⟩ := parts_small okc a
      rw [ea]
      refine ⟨by omega, ?_, s3⟩
      have hq : (r.1, dParts r.2) ∈ rowsF eqD cs es := by rw [er]; exact List.mem_map_of_mem hr'
      obtain ⟨g1, g2, _⟩ := joinOut_in (eqv := eqD) (ps := piecesF eqD cs es) (P := inB) (W := fun _ => True) (fun q hq => by
        obtain ⟨j, a, c, k1, k2, _, rfl⟩ := mem_piece.mp hq
        have inb : ∀ k ∈ es, inB k := fun k hk => by
          obtain ⟨p, hp, e⟩ := (he.2 k).mp hk
          obtain ⟨b, hb, rfl⟩ := List.mem_map.mp hp
          obtain ⟨g1, g2, _⟩ := okc.inb b hb
          rcases e with rfl | rfl
          · exact g1
          · exact g2
        exact ⟨inb a (List.mem_of_getElem? k1), by rw [show a + (c - a) = c by omega]; exact inb c (List.mem_of_getElem? k2), trivial⟩) _ hq
      have s := g2.sub g1
      rw [show r.1.1 + r.1.2 - r.1.1 = r.1.2 by omega] at s
      exact Nat.lt_of_lt_of_le (log_small s) (by decide)
    have hlen : rp.length ≤ 100000 := by
      have e := congrArg List.length er
      rw [List.length_map] at e
      rw [← e]
      refine Nat.le_trans joinOut_len ?_
      exact Nat.le_trans (Nat.le_of_lt (piecesF_ok okc (os := es) (Nat.lt_trans (he.len okc.e) (by decide))).1) (by decide)
    rw [er, dRow_rows]
    -- the area that the law reckons
    refine de_cb (da_cons ?_)
    refine de_lcF (e := dBx) (p := fun _ => true) (f := fun b => .int (b.1.2 * b.2.1.2)) ?_
    refine de_var rfl ⟨bs, rfl, nsd, by have := ok.n; omega, fun b hb => lcF_yes (dg_name ?_), ?_⟩
    · refine de_op (de_op (de_op (de_var rfl (de_int (rr_xT (x := dPair b.1) rfl (de_int (rr_xT (x := .int b.1.2) rfl ?_)))))))
      refine de_op (de_op (de_var rfl (de_int (rr_xT (x := dPair b.2.1) rfl (de_int (rr_xT (x := .int b.2.1.2) rfl ?_))))))
      obtain ⟨g1, g2, g3, g4⟩ := ok.inb b hb
      have s1 := g2.sub g1
      rw [show b.1.1 + b.1.2 - b.1.1 = b.1.2 by omega] at s1
      have s2 := g4.sub g3
      rw [show b.2.1.1 + b.2.1.2 - b.2.1.1 = b.2.1.2 by omega] at s2
      have l1 := log_small s1
      have l2 := log_small s2
      exact mul_i (i := b.1.2) (j := b.2.1.2) (by omega) rfl
    rw [filt_all]
    refine da_nil (rc_sum (ns := bs.map fun b => b.1.2 * b.2.1.2) (by rw [List.map_map]; rfl) nsn ⟨trivial, trivial, ?_⟩)
    show DS K _ [some .bag, some (.d (.lst (fs.map dPair))), some (.d (.lst (os.map dPair))), some (.d (.tup vals3)), some (.d (.lst (bs.map dBx))), s5, s6, s7, some (.d (SheetD Z.C_Sheet rp)), some (.d (.int (bs.map fun b => b.1.2 * b.2.1.2).sum)), none, none, none, none] _
    refine ds_seq (ds_set (de_callQ (da_cons (de_var rfl (da_cons (de_var rfl (da_nil ⟨⟨trivial, trivial, trivial⟩, os, rfl, rfl, ho, ?_⟩)))))))
    rintro r ⟨ys, rfl⟩
    refine ⟨trivial, ?_⟩
    refine ds_freeze (i := 10) (xs := ys.map D.int) rfl ?_
    show DS K _ [some .bag, some (.d (.lst (fs.map dPair))), some (.d (.lst (os.map dPair))), some (.d (.tup vals3)), some (.d (.lst (bs.map dBx))), s5, s6, s7, some (.d (SheetD Z.C_Sheet rp)), some (.d (.int (bs.map fun b => b.1.2 * b.2.1.2).sum)), some (.d (.lst (ys.map D.int))), none, none, none] _
    refine ds_seq (ds_forL (de_callQ (da_cons (de_var rfl (da_cons (de_var rfl (da_nil ⟨⟨trivial, trivial, trivial⟩, fs, rfl, rfl, hf, ?_⟩)))))))
    rintro r ⟨xs, rfl⟩
    refine ⟨_, rfl, fun i es => ∃ s11 s12 : Option SV, es = [some .bag, some (.d (.lst (fs.map dPair))), some (.d (.lst (os.map dPair))), some (.d (.tup vals3)), some (.d (.lst (bs.map dBx))), s5, s6, s7, some (.d (SheetD Z.C_Sheet rp)), some (.d (.int (bs.map fun b => b.1.2 * b.2.1.2).sum)), some (.d (.lst (ys.map D.int))), s11, s12, none], ⟨none, none, rfl⟩, fun i d es' hx hI => ?_, fun es' hI => ?_⟩
    · obtain ⟨x, hx, rfl⟩ := map_get hx
      obtain ⟨s11, s12, rfl⟩ := hI
      refine ⟨_, dg_name ?_⟩
      refine ds_forL (de_var rfl ⟨_, rfl, fun j es => ∃ s12 : Option SV, es = [some .bag, some (.d (.lst (fs.map dPair))), some (.d (.lst (os.map dPair))), some (.d (.tup vals3)), some (.d (.lst (bs.map dBx))), s5, s6, s7, some (.d (SheetD Z.C_Sheet rp)), some (.d (.int (bs.map fun b => b.1.2 * b.2.1.2).sum)), some (.d (.lst (ys.map D.int))), some (.d (.int x)), s12, none], ⟨s12, rfl⟩, fun j d es' hy hI => ?_, fun es' hI => ?_⟩)
      · obtain ⟨y, hy, rfl⟩ := map_get hy
        obtain ⟨s12, rfl⟩ := hI
        refine ⟨_, dg_name ?_⟩
        show DS K _ [some .bag, some (.d (.lst (fs.map dPair))), some (.d (.lst (os.map dPair))), some (.d (.tup vals3)), some (.d (.lst (bs.map dBx))), s5, s6, s7, some (.d (SheetD Z.C_Sheet rp)), some (.d (.int (bs.map fun b => b.1.2 * b.2.1.2).sum)), some (.d (.lst (ys.map D.int))), some (.d (.int x)), some (.d (.int y)), none] _
        obtain ⟨n, hn, f1, f2⟩ := valF_fit dw x y
        refine ds_if (dt_test (de_op (de_cb (da_cons (de_methQ (de_var rfl ⟨_, rfl, rfl, da_cons (de_var rfl (da_cons (de_var rfl (da_nil ⟨⟨trivial, trivial, trivial⟩, (rp, x, y), rfl, rfl, trivial, ?_⟩))))⟩))))))
        rintro r rfl
        rw [hatv x y]
        refine da_nil (rc_repr rfl f1 (by omega) (by decide) (de_cb (da_cons (de_callQ (da_cons (de_var rfl (da_cons (de_var rfl (da_cons (de_var rfl (da_nil ⟨⟨trivial, trivial, trivial, trivial⟩, (bs, x, y), rfl, rfl, trivial, ?_⟩)))))))))))
        rintro r rfl
        refine da_nil (rc_repr rfl f1 (by omega) (by decide) (ne_same rfl rfl f2 (by decide) ⟨_, rfl, ?_⟩))
        exact ite_b (fun h => by cases h) (fun _ => ds_next ⟨_, rfl⟩)
      · obtain ⟨s12, rfl⟩ := hI
        exact ⟨_, _, rfl⟩
    · obtain ⟨s11, s12, rfl⟩ := hI
      have hareas : (rp.map fun r => r.1.2 * cellsF r.2).sum = (bs.map fun b => b.1.2 * b.2.1.2).sum := by
        rw [← perm_sum (hcs.map fun b => b.1.2 * b.2.1.2), ← hsum, er, List.map_map]
        congr 1
        refine List.map_congr_left fun r _ => ?_
        show r.1.2 * cellsF r.2 = r.1.2 * ((r.2.map dPiece).map _).sum
        rw [List.map_map]
        rfl
      have marea : ∀ {Q : SV → Prop}, Q (.d (.int (bs.map fun b => b.1.2 * b.2.1.2).sum)) → DE K (tMeth Z.C_Sheet "area" (sp_Sheet_area K Z) [] E0 (tVar 8) tNil) [some .bag, some (.d (.lst (fs.map dPair))), some (.d (.lst (os.map dPair))), some (.d (.tup vals3)), some (.d (.lst (bs.map dBx))), s5, s6, s7, some (.d (SheetD Z.C_Sheet rp)), some (.d (.int (bs.map fun b => b.1.2 * b.2.1.2).sum)), some (.d (.lst (ys.map D.int))), s11, s12, none] Q := fun q => by
        refine de_methQ (de_var rfl ⟨_, rfl, rfl, da_nil ⟨trivial, rp, rfl, rfl, ⟨hlen, hsp⟩, ?_⟩⟩)
        rintro r rfl
        rw [hareas]
        exact q
      refine ds_ret (de_andV (de_op (marea (de_var rfl (eq_ii ⟨_, rfl, ?_⟩)))))
      refine ite_b (fun h => ?_) (fun h => ?_)
      · refine de_callQ (da_cons (marea (da_nil ⟨⟨trivial, trivial⟩, _, rfl, rfl, trivial, ?_⟩)))
        rintro r rfl
        exact ⟨trivial, rfl⟩
      · rw [beq_self_eq_true] at h
        cases h
theorem sem_law (lf : LF K Z) (ss : List SV) (hp : ∃ ns : List Int, ss = [.scr ns] ∧ ns.length ≤ 63) : DS K (rd_law K Z) (startE 4 ss) { nx := fun _ => SV.d .non = .d (.bl true), rt := fun r => r = .d (.bl true) } := by
  obtain ⟨ns, rfl, hn⟩ := hp
  show DS K (rd_law K Z) [some (.scr ns), none, none, none] _
  unfold rd_law
  refine ds_seq (ds_for1 ?_)
  repeat walk_at "dl"
  refine ⟨by split <;> (try split) <;> omega, by rw [List.length_map]; split <;> (try split) <;> omega, fun _ e => ∃ a b c : Option SV, e = [some (.scr ns), a, b, c], ⟨_, _, _, rfl⟩, ?_, ?_⟩
  · rintro i0 _ hi ⟨a, b, c, rfl⟩
    have hi' : i0 < 64 := by
      rw [List.length_map] at hi
      split at hi <;> (try split at hi) <;> omega
    show DS K _ [some (.scr ns), some (.d (.int i0)), b, c] _
    refine ds_seq (ds_set (call_bag hi' rfl rfl fun gg m => ⟨trivial, ?_⟩))
    refine ds_tobag (i := 2) rfl ?_
    show DS K _ [some (.scr ns), some (.d (.int i0)), some .bag, c] _
    refine ds_for1 ?_
    repeat walk_at "dl"
    refine ⟨by decide, by decide, fun _ e => ∃ c : Option SV, e = [some (.scr ns), some (.d (.int i0)), some .bag, c], ⟨_, rfl⟩, ?_, ?_⟩
    · rintro i1 _ h1 ⟨c, rfl⟩
      show DS K _ [some (.scr ns), some (.d (.int i0)), some .bag, some (.d (.int i1))] _
      refine ds_if (dt_not (dt_B (de_callQ (da_cons (de_var rfl (da_nil ⟨⟨trivial, trivial⟩, (), rfl, rfl, trivial, ?_⟩))))))
      rintro r rfl
      refine ⟨_, rfl, ?_⟩
      exact ite_b (fun h => by cases h) (fun _ => ds_next ⟨_, rfl⟩)
    · rintro _ ⟨c, rfl⟩
      exact ⟨_, _, _, rfl⟩
  · rintro _ ⟨a, b, c, rfl⟩
    exact ds_ret (de_bl ⟨trivial, rfl⟩)
theorem law_endG {H : Hp} {a : Addr} {ns : List Int} (hl : ns.length ≤ 63) (tabs : LamX.Tabs Tbl.T H) (sq : (∃ o, H a = some (.frz o (.lst (ns.map V.int)))) ∨ SqL K (fun _ => none) a (ns.map V.int)) : sp_law K [.ref a] H (fun v _ => v = .bl true) E0 :=
  DL.law_endT tabs sq ⟨ns, rfl, hl⟩ fun r h => h
end

def topS (i : Nat) : Stmt := PySem.Challenge.pw_oldways_k32_sheets_asked.main.body.getD i (.Pass ⟨0, 0, 0, 0⟩)
abbrev s_lies_in : Stmt := (topS 2)
abbrev s_edges : Stmt := (topS 3)
abbrev s_pieces_between : Stmt := (topS 4)
abbrev s_joined : Stmt := (topS 5)
abbrev s__end : Stmt := (topS 6)
abbrev s_Sheet___init__ : Stmt := (inClass (topS 8) 0)
abbrev s_Sheet_at : Stmt := (inClass (topS 8) 2)
abbrev s_Sheet_area : Stmt := (inClass (topS 8) 3)
abbrev s__cells_of : Stmt := (topS 9)
abbrev s__formed : Stmt := (topS 10)
abbrev s__parts : Stmt := (topS 11)
abbrev s__law_bag : Stmt := (topS 13)
abbrev s__law_take : Stmt := (topS 14)
abbrev s__law_in : Stmt := (topS 15)
abbrev s__law_whole : Stmt := (topS 16)
abbrev s__law_shuffled : Stmt := (topS 17)
abbrev s__law_side : Stmt := (topS 18)
abbrev s__law_cells : Stmt := (topS 19)
abbrev s__law_value : Stmt := (topS 20)
abbrev s__law_right : Stmt := (topS 21)
abbrev s_law : Stmt := (topS 22)
theorem sc_lies_in : FnScope ["cell", "stretch", "first", "many"] ["cell", "stretch"] (defScope s_lies_in) := ⟨rfl, rfl, rfl, by decide +kernel, rfl, by decide +kernel, by decide +kernel⟩
theorem sc_edges : FnScope ["stretches", "first", "_", "stretch"] ["stretches"] (defScope s_edges) := ⟨rfl, rfl, rfl, by decide +kernel, rfl, by decide +kernel, by decide +kernel⟩
theorem sc_pieces_between : FnScope ["bounds", "first", "end"] ["bounds"] (defScope s_pieces_between) := ⟨rfl, rfl, rfl, by decide +kernel, rfl, by decide +kernel, by decide +kernel⟩
theorem sc_joined : FnScope ["pieces", "runs", "first", "many", "worth", "end"] ["pieces"] (defScope s_joined) := ⟨rfl, rfl, rfl, by decide +kernel, rfl, by decide +kernel, by decide +kernel⟩
theorem sc__end : FnScope ["stretch", "first", "many"] ["stretch"] (defScope s__end) := ⟨rfl, rfl, rfl, by decide +kernel, rfl, by decide +kernel, by decide +kernel⟩
theorem sc_Sheet___init__ : FnScope ["self", "rows"] ["self", "rows"] (defScope s_Sheet___init__) := ⟨rfl, rfl, rfl, by decide +kernel, rfl, by decide +kernel, by decide +kernel⟩
theorem sc_Sheet_at : FnScope ["self", "x", "y", "froms", "parts", "overs", "value"] ["self", "x", "y"] (defScope s_Sheet_at) := ⟨rfl, rfl, rfl, by decide +kernel, rfl, by decide +kernel, by decide +kernel⟩
theorem sc_Sheet_area : FnScope ["self", "parts", "_", "many"] ["self"] (defScope s_Sheet_area) := ⟨rfl, rfl, rfl, by decide +kernel, rfl, by decide +kernel, by decide +kernel⟩
theorem sc__cells_of : FnScope ["parts", "_", "many"] ["parts"] (defScope s__cells_of) := ⟨rfl, rfl, rfl, by decide +kernel, rfl, by decide +kernel, by decide +kernel⟩
theorem sc__formed : FnScope ["boxes", "ends", "strips", "numbers", "first", "many", "overs", "value", "begin", "pieces", "piece", "parts", "froms", "_", "number"] ["boxes"] (defScope s__formed) := ⟨rfl, rfl, rfl, by decide +kernel, rfl, by decide +kernel, by decide +kernel⟩
theorem sc__parts : FnScope ["strip"] ["strip"] (defScope s__parts) := ⟨rfl, rfl, rfl, by decide +kernel, rfl, by decide +kernel, by decide +kernel⟩
theorem sc__law_bag : FnScope ["script", "at", "primes", "here", "great", "mixed"] ["script", "at"] (defScope s__law_bag) := ⟨rfl, rfl, rfl, by decide +kernel, rfl, by decide +kernel, by decide +kernel⟩
theorem sc__law_take : FnScope ["bag", "size", "digit"] ["bag", "size"] (defScope s__law_take) := ⟨rfl, rfl, rfl, by decide +kernel, rfl, by decide +kernel, by decide +kernel⟩
theorem sc__law_in : FnScope ["stretch", "cell"] ["stretch", "cell"] (defScope s__law_in) := ⟨rfl, rfl, rfl, by decide +kernel, rfl, by decide +kernel, by decide +kernel⟩
theorem sc__law_whole : FnScope ["thing"] ["thing"] (defScope s__law_whole) := ⟨rfl, rfl, rfl, by decide +kernel, rfl, by decide +kernel, by decide +kernel⟩
theorem sc__law_shuffled : FnScope ["bag", "some", "rest", "found"] ["bag", "some"] (defScope s__law_shuffled) := ⟨rfl, rfl, rfl, by decide +kernel, rfl, by decide +kernel, by decide +kernel⟩
theorem sc__law_side : FnScope ["bag", "at", "found", "k", "many"] ["bag"] (defScope s__law_side) := ⟨rfl, rfl, rfl, by decide +kernel, rfl, by decide +kernel, by decide +kernel⟩
theorem sc__law_cells : FnScope ["bag", "side", "found", "first", "many"] ["bag", "side"] (defScope s__law_cells) := ⟨rfl, rfl, rfl, by decide +kernel, rfl, by decide +kernel, by decide +kernel⟩
theorem sc__law_value : FnScope ["boxes", "x", "y", "froms", "overs", "value"] ["boxes", "x", "y"] (defScope s__law_value) := ⟨rfl, rfl, rfl, by decide +kernel, rfl, by decide +kernel, by decide +kernel⟩
theorem sc__law_right : FnScope ["bag", "froms", "overs", "some", "boxes", "one", "other", "pick", "mine", "area", "across", "x", "y", "plot"] ["bag"] (defScope s__law_right) := ⟨rfl, rfl, rfl, by decide +kernel, rfl, by decide +kernel, by decide +kernel⟩
theorem sc_law : FnScope ["script", "k", "bag", "turn"] ["script"] (defScope s_law) := ⟨rfl, rfl, rfl, by decide +kernel, rfl, by decide +kernel, by decide +kernel⟩
def lam__parts : LamD := match defBody s__parts with
  | [.Return (some (.Call _ [(.Call _ [(.Call _ [_] [⟨_, .Lambda ps (.Subscript (.Name x p1) (.Constant (.int 0) j p2) p3) sc _, _⟩] _)] [] _)] [] _)) _] => ⟨ps, x, p1, p2, p3, j, sc⟩
  | _ => ⟨{ posonlyargs := [], args := [], vararg := none, kwonlyargs := [], kw_defaults := [], kwarg := none, defaults := [] }, "", ⟨0, 0, 0, 0⟩, ⟨0, 0, 0, 0⟩, ⟨0, 0, 0, 0⟩, 0, { kind := .function, names := [], isGenerator := false, isCoroutine := false }⟩
theorem lamf__parts {cells : List (Str × Addr)} : ∀ y ∈ lam__parts.scope.names, y.2 = .free → ∃ c, cells.lookup y.1 = some c := fun y hy e => by
  have h : (lam__parts.scope.names.all fun y => y.2 != .free) = true := by decide +kernel
  have := List.all_eq_true.mp h y hy
  rw [e] at this
  exact absurd this (by decide)
structure Txt (K : PySem.W.Frag) (mg : Str → Option Value) (base : Heap) (Z : CS) (f_lies_in f_edges f_pieces_between f_joined f__end f_Sheet___init__ f_Sheet_at f_Sheet_area f__cells_of f__formed f__parts f__law_bag f__law_take f__law_in f__law_whole f__law_shuffled f__law_side f__law_cells f__law_value f__law_right f_law : Addr) (d_lies_in d_edges d_pieces_between d_joined d__end d_Sheet___init__ d_Sheet_at d_Sheet_area d__cells_of d__formed d__parts d__law_bag d__law_take d__law_in d__law_whole d__law_shuffled d__law_side d__law_cells d__law_value d__law_right d_law : FuncData) : Prop where
  g_pairwise : mg "pairwise" = some (.type "itertools.pairwise")
  hc__parts : codeIs K f__parts = true ∧ codeOf K f__parts = Z.CO__parts
  tb__parts : LamX.TabB base mg Z.CO__parts Z.PT__parts
  hl__parts : Z.LM__parts = lam__parts
  F_lies_in : Fun K "lies_in" "lies_in" s_lies_in f_lies_in d_lies_in
  g_lies_in : mg "lies_in" = some (.ref f_lies_in)
  b_lies_in : Binds K d_lies_in ["cell", "stretch"] []
  F_edges : Fun K "edges" "edges" s_edges f_edges d_edges
  g_edges : mg "edges" = some (.ref f_edges)
  b_edges : Binds K d_edges ["stretches"] []
  F_pieces_between : Fun K "pieces_between" "pieces_between" s_pieces_between f_pieces_between d_pieces_between
  g_pieces_between : mg "pieces_between" = some (.ref f_pieces_between)
  b_pieces_between : Binds K d_pieces_between ["bounds"] []
  F_joined : Fun K "joined" "joined" s_joined f_joined d_joined
  g_joined : mg "joined" = some (.ref f_joined)
  b_joined : Binds K d_joined ["pieces"] []
  F__end : Fun K "_end" "_end" s__end f__end d__end
  g__end : mg "_end" = some (.ref f__end)
  b__end : Binds K d__end ["stretch"] []
  F_Sheet___init__ : Fun K "__init__" "Sheet.__init__" s_Sheet___init__ f_Sheet___init__ d_Sheet___init__
  e_Sheet___init__ : PySem.W.findIn K (.ref Z.C_Sheet) "__init__" = some (some (.ref f_Sheet___init__))
  i_Sheet___init__ : PySem.W.isFn K (.ref f_Sheet___init__) = true
  F_Sheet_at : Fun K "at" "Sheet.at" s_Sheet_at f_Sheet_at d_Sheet_at
  e_Sheet_at : PySem.W.findIn K (.ref Z.C_Sheet) "at" = some (some (.ref f_Sheet_at))
  i_Sheet_at : PySem.W.isFn K (.ref f_Sheet_at) = true
  b_Sheet_at : Binds K d_Sheet_at ["self", "x", "y"] []
  F_Sheet_area : Fun K "area" "Sheet.area" s_Sheet_area f_Sheet_area d_Sheet_area
  e_Sheet_area : PySem.W.findIn K (.ref Z.C_Sheet) "area" = some (some (.ref f_Sheet_area))
  i_Sheet_area : PySem.W.isFn K (.ref f_Sheet_area) = true
  b_Sheet_area : Binds K d_Sheet_area ["self"] []
  F__cells_of : Fun K "_cells_of" "_cells_of" s__cells_of f__cells_of d__cells_of
  g__cells_of : mg "_cells_of" = some (.ref f__cells_of)
  b__cells_of : Binds K d__cells_of ["parts"] []
  F__formed : Fun K "_formed" "_formed" s__formed f__formed d__formed
  g__formed : mg "_formed" = some (.ref f__formed)
  b__formed : Binds K d__formed ["boxes"] []
  F__parts : Fun K "_parts" "_parts" s__parts f__parts d__parts
  g__parts : mg "_parts" = some (.ref f__parts)
  b__parts : Binds K d__parts ["strip"] []
  F__law_bag : Fun K "_law_bag" "_law_bag" s__law_bag f__law_bag d__law_bag
  g__law_bag : mg "_law_bag" = some (.ref f__law_bag)
  b__law_bag : Binds K d__law_bag ["script", "at"] []
  F__law_take : Fun K "_law_take" "_law_take" s__law_take f__law_take d__law_take
  g__law_take : mg "_law_take" = some (.ref f__law_take)
  b__law_take : Binds K d__law_take ["bag", "size"] []
  F__law_in : Fun K "_law_in" "_law_in" s__law_in f__law_in d__law_in
  g__law_in : mg "_law_in" = some (.ref f__law_in)
  b__law_in : Binds K d__law_in ["stretch", "cell"] []
  F__law_whole : Fun K "_law_whole" "_law_whole" s__law_whole f__law_whole d__law_whole
  g__law_whole : mg "_law_whole" = some (.ref f__law_whole)
  b__law_whole : Binds K d__law_whole ["thing"] []
  F__law_shuffled : Fun K "_law_shuffled" "_law_shuffled" s__law_shuffled f__law_shuffled d__law_shuffled
  g__law_shuffled : mg "_law_shuffled" = some (.ref f__law_shuffled)
  b__law_shuffled : Binds K d__law_shuffled ["bag", "some"] []
  F__law_side : Fun K "_law_side" "_law_side" s__law_side f__law_side d__law_side
  g__law_side : mg "_law_side" = some (.ref f__law_side)
  b__law_side : Binds K d__law_side ["bag"] []
  F__law_cells : Fun K "_law_cells" "_law_cells" s__law_cells f__law_cells d__law_cells
  g__law_cells : mg "_law_cells" = some (.ref f__law_cells)
  b__law_cells : Binds K d__law_cells ["bag", "side"] []
  F__law_value : Fun K "_law_value" "_law_value" s__law_value f__law_value d__law_value
  g__law_value : mg "_law_value" = some (.ref f__law_value)
  b__law_value : Binds K d__law_value ["boxes", "x", "y"] []
  F__law_right : Fun K "_law_right" "_law_right" s__law_right f__law_right d__law_right
  g__law_right : mg "_law_right" = some (.ref f__law_right)
  b__law_right : Binds K d__law_right ["bag"] []
  F_law : Fun K "law" "law" s_law f_law d_law
  g_law : mg "law" = some (.ref f_law)
  b_law : Binds K d_law ["script"] []
  lf : LF K Z
  gC_Sheet : mg "Sheet" = some (.ref Z.C_Sheet)
  mk_Sheet : Mk K Z.C_Sheet f_Sheet___init__
  z_sorted : mg "sorted" = none
  z_set : mg "set" = none
  z_sum : mg "sum" = none
  z_enumerate : mg "enumerate" = none
  z_tuple : mg "tuple" = none
  z_len : mg "len" = none
  z_abs : mg "abs" = none
  z_int : mg "int" = none
  z_isinstance : mg "isinstance" = none
  z_bool : mg "bool" = none
  z_list : mg "list" = none
  z_range : mg "range" = none
  z_max : mg "max" = none
  z_repr : mg "repr" = none
  z_min : mg "min" = none
section
variable {P : Program} {w : World} {K : PySem.W.Frag} {mg : Str → Option Value} {base : Heap} {Z : CS} {f_lies_in f_edges f_pieces_between f_joined f__end f_Sheet___init__ f_Sheet_at f_Sheet_area f__cells_of f__formed f__parts f__law_bag f__law_take f__law_in f__law_whole f__law_shuffled f__law_side f__law_cells f__law_value f__law_right f_law : Addr} {d_lies_in d_edges d_pieces_between d_joined d__end d_Sheet___init__ d_Sheet_at d_Sheet_area d__cells_of d__formed d__parts d__law_bag d__law_take d__law_in d__law_whole d__law_shuffled d__law_side d__law_cells d__law_value d__law_right d_law : FuncData}
theorem kb_Sheet___init___1 (T : Txt K mg base Z f_lies_in f_edges f_pieces_between f_joined f__end f_Sheet___init__ f_Sheet_at f_Sheet_area f__cells_of f__formed f__parts f__law_bag f__law_take f__law_in f__law_whole f__law_shuffled f__law_side f__law_cells f__law_value f__law_right f_law d_lies_in d_edges d_pieces_between d_joined d__end d_Sheet___init__ d_Sheet_at d_Sheet_area d__cells_of d__formed d__parts d__law_bag d__law_take d__law_in d__law_whole d__law_shuffled d__law_side d__law_cells d__law_value d__law_right d_law) : ∃ _z : Unit, KBn K d_Sheet___init__ ["self", "rows"] 2 [] (fun us ws => pick [0, 1] (us ++ [] ++ ws)) (fun vs zs => pick [0, 1] (vs ++ [] ++ zs)) := by
  obtain ⟨oc, od, kV, doc, pm, an, cdv, ct, osl, rfl, lk, hcd⟩ := T.F_Sheet___init__.ex
  refine ⟨(), fun s us ws X l1 l2 => .of_eq ?_, fun r1 r2 => Vals.pick ((r1.append .nil).append r2) _⟩
  match us, l1, ws, l2 with
  | [_, _], _, [], _ => rfl
theorem ok_lies_in (T : Txt K mg base Z f_lies_in f_edges f_pieces_between f_joined f__end f_Sheet___init__ f_Sheet_at f_Sheet_area f__cells_of f__formed f__parts f__law_bag f__law_take f__law_in f__law_whole f__law_shuffled f__law_side f__law_cells f__law_value f__law_right f_law d_lies_in d_edges d_pieces_between d_joined d__end d_Sheet___init__ d_Sheet_at d_Sheet_area d__cells_of d__formed d__parts d__law_bag d__law_take d__law_in d__law_whole d__law_shuffled d__law_side d__law_cells d__law_value d__law_right d_law) : FnG P w K mg base 1 f_lies_in d_lies_in ["cell", "stretch"] (sp_lies_in K Z) := by
  refine okG T.F_lies_in sc_lies_in (fun vs H Q E h => spQ.len (E := E) h) (fun cdv A fr s H vs Q gu hr h => ⟨rd_lies_in K Z, ?_, bodyQ (E := E0) h fun x hp => sem_lies_in T.lf x hp⟩)
  have gu : (A.deeper (envOfC "lies_in" (defScope s_lies_in) s.heap.objs.size f_lies_in cdv)).guards = some [] := gu
  exact (pss_cons (ps_asg (pv 1) (pg_tup rfl (pgs_cons (pg_name (i := 2) sc_lies_in.nd rfl (by first | exact .inl rfl | exact .inr rfl)) (pgs_cons (pg_name (i := 3) sc_lies_in.nd rfl (by first | exact .inl rfl | exact .inr rfl)) pgs_nil))))
    (pss_one (ps_ret (pe_chain op_leX op_ltX (pv 2) (pv 0) (pe_op op_plus (pv 2) (pv 3))))))
theorem ok_pieces_between (T : Txt K mg base Z f_lies_in f_edges f_pieces_between f_joined f__end f_Sheet___init__ f_Sheet_at f_Sheet_area f__cells_of f__formed f__parts f__law_bag f__law_take f__law_in f__law_whole f__law_shuffled f__law_side f__law_cells f__law_value f__law_right f_law d_lies_in d_edges d_pieces_between d_joined d__end d_Sheet___init__ d_Sheet_at d_Sheet_area d__cells_of d__formed d__parts d__law_bag d__law_take d__law_in d__law_whole d__law_shuffled d__law_side d__law_cells d__law_value d__law_right d_law) : FnG P w K mg base 1 f_pieces_between d_pieces_between ["bounds"] (sp_pieces_between K Z) := by
  refine okG T.F_pieces_between sc_pieces_between (fun vs H Q E h => spQ.len (E := E) h) (fun cdv A fr s H vs Q gu hr h => ⟨rd_pieces_between K Z, ?_, bodyQ (E := E0) h fun x hp => sem_pieces_between T.lf x hp⟩)
  have gu : (A.deeper (envOfC "pieces_between" (defScope s_pieces_between) s.heap.objs.size f_pieces_between cdv)).guards = some [] := gu
  exact (pss_one (ps_ret (pe_lc (own := [("first", 1), ("end", 2)]) (g := (gTup K 2 (gCons (gName 1) (gCons (gName 2) gNil)))) (tt := tYes) (te := (tTup (tCons (tVar 1) (tCons (tOp rSubX (tVar 2) (tVar 1)) tNil)))) rfl sc_pieces_between.nd (pi_pw (by rfl) T.g_pairwise (pa_cons (pv 0) pa_nil)) (blkOk_by (N := ["bounds", "first", "end"]) (sc := defScope s_pieces_between) (by decide +kernel)) (fun _ _ _ _ _ => (pg_tup rfl (pgs_cons (pg_name (i := 1) sc_pieces_between.nd rfl (by first | exact .inl rfl | exact .inr rfl)) (pgs_cons (pg_name (i := 2) sc_pieces_between.nd rfl (by first | exact .inl rfl | exact .inr rfl)) pgs_nil)))) (fun _ _ _ _ _ => pts_nil) (fun _ _ _ _ _ => (pe_tup (pa_cons (pv 1) (pa_cons (pe_op op_subX (pv 2) (pv 1)) pa_nil)))))))
theorem ok_joined (T : Txt K mg base Z f_lies_in f_edges f_pieces_between f_joined f__end f_Sheet___init__ f_Sheet_at f_Sheet_area f__cells_of f__formed f__parts f__law_bag f__law_take f__law_in f__law_whole f__law_shuffled f__law_side f__law_cells f__law_value f__law_right f_law d_lies_in d_edges d_pieces_between d_joined d__end d_Sheet___init__ d_Sheet_at d_Sheet_area d__cells_of d__formed d__parts d__law_bag d__law_take d__law_in d__law_whole d__law_shuffled d__law_side d__law_cells d__law_value d__law_right d_law) : FnG P w K mg base 1 f_joined d_joined ["pieces"] (sp_joined K Z) := by
  refine okG T.F_joined sc_joined (fun vs H Q E h => spQ.len (E := E) h) (fun cdv A fr s H vs Q gu hr h => ⟨rd_joined K Z, ?_, bodyQ (E := E0) h fun x hp => sem_joined T.lf x hp⟩)
  have gu : (A.deeper (envOfC "joined" (defScope s_joined) s.heap.objs.size f_joined cdv)).guards = some [] := gu
  exact (pss_cons (ps_set (i := 1) sc_joined.nd rfl (by first | exact .inl rfl | exact .inr rfl) (pe_lst pa_nil))
    (pss_cons (ps_for PassesOwn.never rfl (pi_list (pv 0)) (pg_tup rfl (pgs_cons (pg_tup rfl (pgs_cons (pg_name (i := 2) sc_joined.nd rfl (by first | exact .inl rfl | exact .inr rfl)) (pgs_cons (pg_name (i := 3) sc_joined.nd rfl (by first | exact .inl rfl | exact .inr rfl)) pgs_nil))) (pgs_cons (pg_name (i := 4) sc_joined.nd rfl (by first | exact .inl rfl | exact .inr rfl)) pgs_nil))) (pss_one (ps_if (PW.pt (pw_and (pt_truth (pv 1) (fun _ => rfl)) (pw_and (pt_cmpR (op_eqX hr.units) (pe_ix ix_seq (pe_ix ix_seq (pv 1) (pe_un un_negX pe_int) (fun _ _ => rfl)) pe_int (fun _ _ => rfl)) (pv 2) (nomark _)) (pw_and1 (pt_cmpR (op_eqX hr.units) (pe_ix ix_seq (pe_ix ix_seq (pv 1) (pe_un un_negX pe_int) (fun _ _ => rfl)) pe_int (fun _ _ => rfl)) (pv 4) (nomark _)))))) (pss_one (ps_asg (pe_op op_plus (pv 2) (pv 3)) (pg_sub (pe_ix ix_seq (pv 1) (pe_un un_negX pe_int) (fun _ _ => rfl)) pe_int set_list))) (pss_one (ps_expr (pe_bm PySem.F.plainAttrs_list PySem.F.slot_list_append PySem.F.type_list_append mt_append (pv 1) (pa_cons (pe_lst (pa_cons (pv 2) (pa_cons (pe_op op_plus (pv 2) (pv 3)) (pa_cons (pv 4) pa_nil)))) pa_nil)))))))
    (pss_one (ps_ret (pe_lc (own := [("first", 2), ("end", 5), ("worth", 4)]) (g := (gUnl K 3 (gCons (gName 2) (gCons (gName 5) (gCons (gName 4) gNil))))) (tt := tYes) (te := (tTup (tCons (tTup (tCons (tVar 2) (tCons (tOp rSubX (tVar 5) (tVar 2)) tNil))) (tCons (tVar 4) tNil)))) rfl sc_joined.nd (pi_list (pv 1)) (blkOk_by (N := ["pieces", "runs", "first", "many", "worth", "end"]) (sc := defScope s_joined) (by decide +kernel)) (fun _ _ _ _ _ => (pg_unl rfl (pgs_cons (pg_name (i := 2) sc_joined.nd rfl (by first | exact .inl rfl | exact .inr rfl)) (pgs_cons (pg_name (i := 5) sc_joined.nd rfl (by first | exact .inl rfl | exact .inr rfl)) (pgs_cons (pg_name (i := 4) sc_joined.nd rfl (by first | exact .inl rfl | exact .inr rfl)) pgs_nil))))) (fun _ _ _ _ _ => pts_nil) (fun _ _ _ _ _ => (pe_tup (pa_cons (pe_tup (pa_cons (pv 2) (pa_cons (pe_op op_subX (pv 5) (pv 2)) pa_nil))) (pa_cons (pv 4) pa_nil)))))))))
theorem ok__end (T : Txt K mg base Z f_lies_in f_edges f_pieces_between f_joined f__end f_Sheet___init__ f_Sheet_at f_Sheet_area f__cells_of f__formed f__parts f__law_bag f__law_take f__law_in f__law_whole f__law_shuffled f__law_side f__law_cells f__law_value f__law_right f_law d_lies_in d_edges d_pieces_between d_joined d__end d_Sheet___init__ d_Sheet_at d_Sheet_area d__cells_of d__formed d__parts d__law_bag d__law_take d__law_in d__law_whole d__law_shuffled d__law_side d__law_cells d__law_value d__law_right d_law) : FnG P w K mg base 1 f__end d__end ["stretch"] (sp__end K Z) := by
  refine okG T.F__end sc__end (fun vs H Q E h => spQ.len (E := E) h) (fun cdv A fr s H vs Q gu hr h => ⟨rd__end K Z, ?_, bodyQ (E := E0) h fun x hp => sem__end T.lf x hp⟩)
  have gu : (A.deeper (envOfC "_end" (defScope s__end) s.heap.objs.size f__end cdv)).guards = some [] := gu
  exact (pss_cons (ps_asg (pv 0) (pg_tup rfl (pgs_cons (pg_name (i := 1) sc__end.nd rfl (by first | exact .inl rfl | exact .inr rfl)) (pgs_cons (pg_name (i := 2) sc__end.nd rfl (by first | exact .inl rfl | exact .inr rfl)) pgs_nil))))
    (pss_one (ps_ret (pe_op op_plus (pv 1) (pv 2)))))
theorem ok__cells_of (T : Txt K mg base Z f_lies_in f_edges f_pieces_between f_joined f__end f_Sheet___init__ f_Sheet_at f_Sheet_area f__cells_of f__formed f__parts f__law_bag f__law_take f__law_in f__law_whole f__law_shuffled f__law_side f__law_cells f__law_value f__law_right f_law d_lies_in d_edges d_pieces_between d_joined d__end d_Sheet___init__ d_Sheet_at d_Sheet_area d__cells_of d__formed d__parts d__law_bag d__law_take d__law_in d__law_whole d__law_shuffled d__law_side d__law_cells d__law_value d__law_right d_law) : FnG P w K mg base 1 f__cells_of d__cells_of ["parts"] (sp__cells_of K Z) := by
  refine okG T.F__cells_of sc__cells_of (fun vs H Q E h => spQ.len (E := E) h) (fun cdv A fr s H vs Q gu hr h => ⟨rd__cells_of K Z, ?_, bodyQ (E := E0) h fun x hp => sem__cells_of T.lf x hp⟩)
  have gu : (A.deeper (envOfC "_cells_of" (defScope s__cells_of) s.heap.objs.size f__cells_of cdv)).guards = some [] := gu
  exact (pss_one (ps_ret (pe_callB (cr_sum rfl) (by rfl) T.z_sum (by decide +kernel) (pa_cons (pe_lc (own := [("_", 1), ("many", 2)]) (g := (gTup K 2 (gCons (gTup K 2 (gCons (gName 1) (gCons (gName 2) gNil))) (gCons (gName 1) gNil)))) (tt := tYes) (te := (tVar 2)) rfl sc__cells_of.nd (pi_tup (pv 0)) (blkOk_by (N := ["parts", "_", "many"]) (sc := defScope s__cells_of) (by decide +kernel)) (fun _ _ _ _ _ => (pg_tup rfl (pgs_cons (pg_tup rfl (pgs_cons (pg_name (i := 1) sc__cells_of.nd rfl (by first | exact .inl rfl | exact .inr rfl)) (pgs_cons (pg_name (i := 2) sc__cells_of.nd rfl (by first | exact .inl rfl | exact .inr rfl)) pgs_nil))) (pgs_cons (pg_name (i := 1) sc__cells_of.nd rfl (by first | exact .inl rfl | exact .inr rfl)) pgs_nil)))) (fun _ _ _ _ _ => pts_nil) (fun _ _ _ _ _ => (pv 2))) pa_nil))))
theorem ok__law_bag (T : Txt K mg base Z f_lies_in f_edges f_pieces_between f_joined f__end f_Sheet___init__ f_Sheet_at f_Sheet_area f__cells_of f__formed f__parts f__law_bag f__law_take f__law_in f__law_whole f__law_shuffled f__law_side f__law_cells f__law_value f__law_right f_law d_lies_in d_edges d_pieces_between d_joined d__end d_Sheet___init__ d_Sheet_at d_Sheet_area d__cells_of d__formed d__parts d__law_bag d__law_take d__law_in d__law_whole d__law_shuffled d__law_side d__law_cells d__law_value d__law_right d_law) : FnG P w K mg base 1 f__law_bag d__law_bag ["script", "at"] (sp__law_bag K) := by
  refine okG T.F__law_bag sc__law_bag (fun vs H Q E h => spD.len (E := E) h) (fun cdv A fr s H vs Q gu hr h => ⟨rd__law_bag K Z, ?_, body_of (E := E0) h fun ss hl hp => sem__law_bag ss hp⟩)
  have gu : (A.deeper (envOfC "_law_bag" (defScope s__law_bag) s.heap.objs.size f__law_bag cdv)).guards = some [] := gu
  exact (pss_cons (ps_set (i := 2) sc__law_bag.nd rfl (by first | exact .inl rfl | exact .inr rfl) (pe_tup (pa_cons pe_int (pa_cons pe_int (pa_cons pe_int (pa_cons pe_int (pa_cons pe_int (pa_cons pe_int (pa_cons pe_int pa_nil)))))))))
    (pss_cons (ps_set (i := 3) sc__law_bag.nd rfl (by first | exact .inl rfl | exact .inr rfl) (pe_ifExp (pt_cmpR op_ltX (pv 1) (pe_callB call_lenX (by rfl) T.z_len (by decide +kernel) (pa_cons (pv 0) pa_nil)) (nomark _)) (pe_ix ix_seq (pv 0) (pv 1) (fun _ _ => rfl)) pe_int))
    (pss_cons (ps_set (i := 4) sc__law_bag.nd rfl (by first | exact .inl rfl | exact .inr rfl) (pe_ifExp (pt_cmpR op_geX (pe_callB call_absX (by rfl) T.z_abs (by decide +kernel) (pa_cons (pv 3) pa_nil)) (pe_op op_powX pe_int pe_int) (nomark _)) (pe_callB call_absX (by rfl) T.z_abs (by decide +kernel) (pa_cons (pv 3) pa_nil)) pe_int))
    (pss_cons (ps_set (i := 5) sc__law_bag.nd rfl (by first | exact .inl rfl | exact .inr rfl) (pe_op op_modX (pe_op op_powX (pe_op op_plus (pe_op op_plus (pe_op op_modX (pv 3) pe_int) (pe_op op_mulX' pe_int (pv 1))) pe_int) pe_int) (pe_ix ix_seq (pv 2) (pe_op op_modX (pv 1) pe_int) (fun _ _ => rfl))))
    (pss_one (ps_ret (pe_lst (pa_cons (pv 4) (pa_cons (pe_op op_plus (pe_op op_modX (pe_op op_mulX' (pv 5) (pe_op op_plus (pe_op op_plus (pe_op op_fdvX (pv 5) pe_int) (pe_op op_mulX' pe_int (pv 1))) pe_int)) (pe_ix ix_seq (pv 2) (pe_op op_modX (pe_op op_plus (pv 1) pe_int) pe_int) (fun _ _ => rfl))) pe_int) pa_nil)))))))))
theorem ok__law_take (T : Txt K mg base Z f_lies_in f_edges f_pieces_between f_joined f__end f_Sheet___init__ f_Sheet_at f_Sheet_area f__cells_of f__formed f__parts f__law_bag f__law_take f__law_in f__law_whole f__law_shuffled f__law_side f__law_cells f__law_value f__law_right f_law d_lies_in d_edges d_pieces_between d_joined d__end d_Sheet___init__ d_Sheet_at d_Sheet_area d__cells_of d__formed d__parts d__law_bag d__law_take d__law_in d__law_whole d__law_shuffled d__law_side d__law_cells d__law_value d__law_right d_law) : FnG P w K mg base 1 f__law_take d__law_take ["bag", "size"] (sp__law_take K) := by
  refine okG T.F__law_take sc__law_take (fun vs H Q E h => spD.len (E := E) h) (fun cdv A fr s H vs Q gu hr h => ⟨rd__law_take K Z, ?_, body_of (E := E0) h fun ss hl hp => sem__law_take ss hp⟩)
  have gu : (A.deeper (envOfC "_law_take" (defScope s__law_take) s.heap.objs.size f__law_take cdv)).guards = some [] := gu
  exact (pss_cons (ps_if (pt_cmpR op_gtX (pe_ix ix_seq (pv 0) pe_int (fun _ _ => rfl)) pe_int (nomark _)) (pss_cons (ps_set (i := 2) sc__law_take.nd rfl (by first | exact .inl rfl | exact .inr rfl) (pe_op op_modX (pe_ix ix_seq (pv 0) pe_int (fun _ _ => rfl)) (pv 1)))
    (pss_cons (ps_asg (pe_op op_fdvX (pe_ix ix_seq (pv 0) pe_int (fun _ _ => rfl)) (pv 1)) (pg_sub (pv 0) pe_int set_list))
    (pss_one (ps_ret (pv 2))))) pss_nil)
    (pss_cons (ps_asg (pe_op op_modX (pe_op op_mulX' (pe_ix ix_seq (pv 0) pe_int (fun _ _ => rfl)) pe_int) pe_int) (pg_sub (pv 0) pe_int set_list))
    (pss_one (ps_ret (pe_op op_modX (pe_op op_fdvX (pe_op op_modX (pe_op op_mulX' (pe_ix ix_seq (pv 0) pe_int (fun _ _ => rfl)) pe_int) pe_int) (pe_op op_powX pe_int pe_int)) (pv 1))))))
theorem ok__law_in (T : Txt K mg base Z f_lies_in f_edges f_pieces_between f_joined f__end f_Sheet___init__ f_Sheet_at f_Sheet_area f__cells_of f__formed f__parts f__law_bag f__law_take f__law_in f__law_whole f__law_shuffled f__law_side f__law_cells f__law_value f__law_right f_law d_lies_in d_edges d_pieces_between d_joined d__end d_Sheet___init__ d_Sheet_at d_Sheet_area d__cells_of d__formed d__parts d__law_bag d__law_take d__law_in d__law_whole d__law_shuffled d__law_side d__law_cells d__law_value d__law_right d_law) : FnG P w K mg base 1 f__law_in d__law_in ["stretch", "cell"] (sp__law_in K Z) := by
  refine okG T.F__law_in sc__law_in (fun vs H Q E h => spQ.len (E := E) h) (fun cdv A fr s H vs Q gu hr h => ⟨rd__law_in K Z, ?_, bodyQ (E := E0) h fun x hp => sem__law_in T.lf x hp⟩)
  have gu : (A.deeper (envOfC "_law_in" (defScope s__law_in) s.heap.objs.size f__law_in cdv)).guards = some [] := gu
  exact (pss_one (ps_ret (pe_chain op_leX op_ltX (pe_ix ix_seq (pv 0) pe_int (fun _ _ => rfl)) (pv 1) (pe_op op_plus (pe_ix ix_seq (pv 0) pe_int (fun _ _ => rfl)) (pe_ix ix_seq (pv 0) pe_int (fun _ _ => rfl))))))
theorem ok__law_whole (T : Txt K mg base Z f_lies_in f_edges f_pieces_between f_joined f__end f_Sheet___init__ f_Sheet_at f_Sheet_area f__cells_of f__formed f__parts f__law_bag f__law_take f__law_in f__law_whole f__law_shuffled f__law_side f__law_cells f__law_value f__law_right f_law d_lies_in d_edges d_pieces_between d_joined d__end d_Sheet___init__ d_Sheet_at d_Sheet_area d__cells_of d__formed d__parts d__law_bag d__law_take d__law_in d__law_whole d__law_shuffled d__law_side d__law_cells d__law_value d__law_right d_law) : FnG P w K mg base 1 f__law_whole d__law_whole ["thing"] (sp__law_whole K Z) := by
  refine okG T.F__law_whole sc__law_whole (fun vs H Q E h => spQ.len (E := E) h) (fun cdv A fr s H vs Q gu hr h => ⟨rd__law_whole K Z, ?_, bodyQ (E := E0) h fun x hp => sem__law_whole T.lf x hp⟩)
  have gu : (A.deeper (envOfC "_law_whole" (defScope s__law_whole) s.heap.objs.size f__law_whole cdv)).guards = some [] := gu
  exact (pss_one (ps_ret (pe_and (pe_callB call_isi (by rfl) T.z_isinstance (by decide +kernel) (pa_cons (pv 0) (pa_cons (pe_bltn (by rfl) T.z_int (by decide +kernel) rfl) pa_nil))) (pe_one (pe_not (pe_callB call_isi (by rfl) T.z_isinstance (by decide +kernel) (pa_cons (pv 0) (pa_cons (pe_bltn (by rfl) T.z_bool (by decide +kernel) rfl) pa_nil))))))))
theorem ok_edges (T : Txt K mg base Z f_lies_in f_edges f_pieces_between f_joined f__end f_Sheet___init__ f_Sheet_at f_Sheet_area f__cells_of f__formed f__parts f__law_bag f__law_take f__law_in f__law_whole f__law_shuffled f__law_side f__law_cells f__law_value f__law_right f_law d_lies_in d_edges d_pieces_between d_joined d__end d_Sheet___init__ d_Sheet_at d_Sheet_area d__cells_of d__formed d__parts d__law_bag d__law_take d__law_in d__law_whole d__law_shuffled d__law_side d__law_cells d__law_value d__law_right d_law) : FnG P w K mg base 2 f_edges d_edges ["stretches"] (sp_edges K Z) := by
  refine okG T.F_edges sc_edges (fun vs H Q E h => spQ.len (E := E) h) (fun cdv A fr s H vs Q gu hr h => ⟨rd_edges K Z, ?_, bodyQ (E := E0) h fun x hp => sem_edges T.lf x hp⟩)
  have gu : (A.deeper (envOfC "edges" (defScope s_edges) s.heap.objs.size f_edges cdv)).guards = some [] := gu
  exact (pss_one (ps_ret (pe_sortSet (by rfl) T.z_sorted (by rfl) T.z_set (pe_op op_plus (pe_lc (own := [("first", 1), ("_", 2)]) (g := (gTup K 2 (gCons (gName 1) (gCons (gName 2) gNil)))) (tt := tYes) (te := (tVar 1)) rfl sc_edges.nd (pi_list (pv 0)) (blkOk_by (N := ["stretches", "first", "_", "stretch"]) (sc := defScope s_edges) (by decide +kernel)) (fun _ _ _ _ _ => (pg_tup rfl (pgs_cons (pg_name (i := 1) sc_edges.nd rfl (by first | exact .inl rfl | exact .inr rfl)) (pgs_cons (pg_name (i := 2) sc_edges.nd rfl (by first | exact .inl rfl | exact .inr rfl)) pgs_nil)))) (fun _ _ _ _ _ => pts_nil) (fun _ _ _ _ _ => (pv 1))) (pe_lc (own := [("stretch", 3)]) (g := (gName 3)) (tt := tYes) (te := (tCall (sp__end K Z) [] E0 (tCons (tVar 3) tNil))) rfl sc_edges.nd (pi_list (pv 0)) (blkOk_by (N := ["stretches", "first", "_", "stretch"]) (sc := defScope s_edges) (by decide +kernel)) (fun _ _ _ _ _ => (pg_name (i := 3) sc_edges.nd rfl (by first | exact .inl rfl | exact .inr rfl))) (fun _ _ _ _ _ => pts_nil) (fun _ _ _ _ _ => (pe_callG (ok__end T) (hr.mono (by decide)) gu (by rfl) T.g__end T.F__end.kp T.b__end (pa_cons (pv 3) pa_nil))))))))
theorem ok_Sheet_at (T : Txt K mg base Z f_lies_in f_edges f_pieces_between f_joined f__end f_Sheet___init__ f_Sheet_at f_Sheet_area f__cells_of f__formed f__parts f__law_bag f__law_take f__law_in f__law_whole f__law_shuffled f__law_side f__law_cells f__law_value f__law_right f_law d_lies_in d_edges d_pieces_between d_joined d__end d_Sheet___init__ d_Sheet_at d_Sheet_area d__cells_of d__formed d__parts d__law_bag d__law_take d__law_in d__law_whole d__law_shuffled d__law_side d__law_cells d__law_value d__law_right d_law) : FnG P w K mg base 2 f_Sheet_at d_Sheet_at ["self", "x", "y"] (sp_Sheet_at K Z) := by
  refine okG T.F_Sheet_at sc_Sheet_at (fun vs H Q E h => spQ.len (E := E) h) (fun cdv A fr s H vs Q gu hr h => ⟨rd_Sheet_at K Z, ?_, bodyQ (E := E0) h fun x hp => sem_Sheet_at T.lf x hp⟩)
  have gu : (A.deeper (envOfC "Sheet.at" (defScope s_Sheet_at) s.heap.objs.size f_Sheet_at cdv)).guards = some [] := gu
  exact (pss_cons (ps_for PassesOwn.never rfl (pi_list (pe_fld (pv 0) rfl)) (pg_tup rfl (pgs_cons (pg_name (i := 3) sc_Sheet_at.nd rfl (by first | exact .inl rfl | exact .inr rfl)) (pgs_cons (pg_name (i := 4) sc_Sheet_at.nd rfl (by first | exact .inl rfl | exact .inr rfl)) pgs_nil))) (pss_one (ps_if (pt_val (pe_callG (ok_lies_in T) (hr.mono (by decide)) gu (by rfl) T.g_lies_in T.F_lies_in.kp T.b_lies_in (pa_cons (pv 1) (pa_cons (pv 3) pa_nil)))) (pss_one (ps_for PassesOwn.never rfl (pi_tup (pv 4)) (pg_tup rfl (pgs_cons (pg_name (i := 5) sc_Sheet_at.nd rfl (by first | exact .inl rfl | exact .inr rfl)) (pgs_cons (pg_name (i := 6) sc_Sheet_at.nd rfl (by first | exact .inl rfl | exact .inr rfl)) pgs_nil))) (pss_one (ps_if (pt_val (pe_callG (ok_lies_in T) (hr.mono (by decide)) gu (by rfl) T.g_lies_in T.F_lies_in.kp T.b_lies_in (pa_cons (pv 2) (pa_cons (pv 5) pa_nil)))) (pss_one (ps_ret (pv 6))) pss_nil)))) pss_nil)))
    (pss_one (ps_ret pe_non)))
theorem ok_Sheet_area (T : Txt K mg base Z f_lies_in f_edges f_pieces_between f_joined f__end f_Sheet___init__ f_Sheet_at f_Sheet_area f__cells_of f__formed f__parts f__law_bag f__law_take f__law_in f__law_whole f__law_shuffled f__law_side f__law_cells f__law_value f__law_right f_law d_lies_in d_edges d_pieces_between d_joined d__end d_Sheet___init__ d_Sheet_at d_Sheet_area d__cells_of d__formed d__parts d__law_bag d__law_take d__law_in d__law_whole d__law_shuffled d__law_side d__law_cells d__law_value d__law_right d_law) : FnG P w K mg base 2 f_Sheet_area d_Sheet_area ["self"] (sp_Sheet_area K Z) := by
  refine okG T.F_Sheet_area sc_Sheet_area (fun vs H Q E h => spQ.len (E := E) h) (fun cdv A fr s H vs Q gu hr h => ⟨rd_Sheet_area K Z, ?_, bodyQ (E := E0) h fun x hp => sem_Sheet_area T.lf x hp⟩)
  have gu : (A.deeper (envOfC "Sheet.area" (defScope s_Sheet_area) s.heap.objs.size f_Sheet_area cdv)).guards = some [] := gu
  exact (pss_one (ps_ret (pe_callB (cr_sum rfl) (by rfl) T.z_sum (by decide +kernel) (pa_cons (pe_lc (own := [("parts", 1), ("_", 2), ("many", 3)]) (g := (gTup K 2 (gCons (gTup K 2 (gCons (gName 2) (gCons (gName 3) gNil))) (gCons (gName 1) gNil)))) (tt := tYes) (te := (tOp rMul (tVar 3) (tCall (sp__cells_of K Z) [] E0 (tCons (tVar 1) tNil)))) rfl sc_Sheet_area.nd (pi_list (pe_fld (pv 0) rfl)) (blkOk_by (N := ["self", "parts", "_", "many"]) (sc := defScope s_Sheet_area) (by decide +kernel)) (fun _ _ _ _ _ => (pg_tup rfl (pgs_cons (pg_tup rfl (pgs_cons (pg_name (i := 2) sc_Sheet_area.nd rfl (by first | exact .inl rfl | exact .inr rfl)) (pgs_cons (pg_name (i := 3) sc_Sheet_area.nd rfl (by first | exact .inl rfl | exact .inr rfl)) pgs_nil))) (pgs_cons (pg_name (i := 1) sc_Sheet_area.nd rfl (by first | exact .inl rfl | exact .inr rfl)) pgs_nil)))) (fun _ _ _ _ _ => pts_nil) (fun _ _ _ _ _ => (pe_op op_mulX' (pv 3) (pe_callG (ok__cells_of T) (hr.mono (by decide)) gu (by rfl) T.g__cells_of T.F__cells_of.kp T.b__cells_of (pa_cons (pv 1) pa_nil))))) pa_nil))))
theorem ok__parts (T : Txt K mg base Z f_lies_in f_edges f_pieces_between f_joined f__end f_Sheet___init__ f_Sheet_at f_Sheet_area f__cells_of f__formed f__parts f__law_bag f__law_take f__law_in f__law_whole f__law_shuffled f__law_side f__law_cells f__law_value f__law_right f_law d_lies_in d_edges d_pieces_between d_joined d__end d_Sheet___init__ d_Sheet_at d_Sheet_area d__cells_of d__formed d__parts d__law_bag d__law_take d__law_in d__law_whole d__law_shuffled d__law_side d__law_cells d__law_value d__law_right d_law) : FnG P w K mg base 2 f__parts d__parts ["strip"] (sp__parts K Z) := by
  refine okGT T.F__parts T.hc__parts sc__parts (fun vs H Q E h => spQ.len (E := E) h) (fun A fr s H vs Q gu hr h => ⟨rd__parts K Z, ?_, bodyQ (E := E0) h fun x hp => sem__parts T.lf x hp⟩)
  have gu : (A.deeper (envOfC "_parts" (defScope s__parts) s.heap.objs.size f__parts (.ref Z.CO__parts))).guards = some [] := gu
  unfold rd__parts
  rw [T.hl__parts]
  exact (pss_one (ps_ret (pe_callTy call_tupleX (by rfl) T.z_tuple (by decide +kernel) (pa_cons (pe_callG (ok_joined T) (hr.mono (by decide)) gu (by rfl) T.g_joined T.F_joined.kp T.b_joined (pa_cons (pe_callBK (ks := [Str.ofString "key"]) (cr_sortedLam (qual := lq "_parts") (params := lam__parts.params) (x := lam__parts.x) (p1 := lam__parts.p1) (p2 := lam__parts.p2) (p3 := lam__parts.p3) (j := lam__parts.j) (scope := lam__parts.scope) (cl := []) hr (fun _ _ _ _ => rfl) rfl rfl (by decide +kernel) rfl rfl (by decide +kernel)) (by rfl) T.z_sorted (by decide +kernel) (pa_cons (pv 0) pa_nil) (pk_cons (pe_lam T.tb__parts rfl rfl lamf__parts) pk_nil)) pa_nil)) pa_nil))))
theorem ok__law_shuffled (T : Txt K mg base Z f_lies_in f_edges f_pieces_between f_joined f__end f_Sheet___init__ f_Sheet_at f_Sheet_area f__cells_of f__formed f__parts f__law_bag f__law_take f__law_in f__law_whole f__law_shuffled f__law_side f__law_cells f__law_value f__law_right f_law d_lies_in d_edges d_pieces_between d_joined d__end d_Sheet___init__ d_Sheet_at d_Sheet_area d__cells_of d__formed d__parts d__law_bag d__law_take d__law_in d__law_whole d__law_shuffled d__law_side d__law_cells d__law_value d__law_right d_law) : FnG P w K mg base 2 f__law_shuffled d__law_shuffled ["bag", "some"] (sp__law_shuffled K Z) := by
  refine okG T.F__law_shuffled sc__law_shuffled (fun vs H Q E h => spQ.len (E := E) h) (fun cdv A fr s H vs Q gu hr h => ⟨rd__law_shuffled K Z, ?_, bodyQ (E := E0) h fun x hp => sem__law_shuffled T.lf x hp⟩)
  have gu : (A.deeper (envOfC "_law_shuffled" (defScope s__law_shuffled) s.heap.objs.size f__law_shuffled cdv)).guards = some [] := gu
  exact (pss_cons (ps_par (i := 2) (j := 3) rfl sc__law_shuffled.nd rfl rfl (by decide) rfl rfl (pa_cons (pe_callTy call_listX (by rfl) T.z_list (by decide +kernel) (pa_cons (pv 1) pa_nil)) (pa_cons (pe_lst pa_nil) pa_nil)) rfl)
    (pss_cons (ps_while PassesOwn.never (pt_cmpR (op_neX hr.units) (pv 2) (pe_lst pa_nil) (nomark _)) (pss_one (ps_expr (pe_bm PySem.F.plainAttrs_list PySem.F.slot_list_append PySem.F.type_list_append mt_append (pv 3) (pa_cons (pe_bm PySem.F.plainAttrs_list PySem.F.slot_list_pop PySem.F.type_list_pop mt_popAt (pv 2) (pa_cons (pe_callG (ok__law_take T) (hr.mono (by decide)) gu (by rfl) T.g__law_take T.F__law_take.kp T.b__law_take (pa_cons (pv 0) (pa_cons (pe_callB call_lenX (by rfl) T.z_len (by decide +kernel) (pa_cons (pv 2) pa_nil)) pa_nil))) pa_nil)) pa_nil)))))
    (pss_one (ps_ret (pv 3)))))
theorem ok__law_side (T : Txt K mg base Z f_lies_in f_edges f_pieces_between f_joined f__end f_Sheet___init__ f_Sheet_at f_Sheet_area f__cells_of f__formed f__parts f__law_bag f__law_take f__law_in f__law_whole f__law_shuffled f__law_side f__law_cells f__law_value f__law_right f_law d_lies_in d_edges d_pieces_between d_joined d__end d_Sheet___init__ d_Sheet_at d_Sheet_area d__cells_of d__formed d__parts d__law_bag d__law_take d__law_in d__law_whole d__law_shuffled d__law_side d__law_cells d__law_value d__law_right d_law) : FnG P w K mg base 2 f__law_side d__law_side ["bag"] (sp__law_side K Z) := by
  refine okG T.F__law_side sc__law_side (fun vs H Q E h => spQ.len (E := E) h) (fun cdv A fr s H vs Q gu hr h => ⟨rd__law_side K Z, ?_, bodyQ (E := E0) h fun x hp => sem__law_side T.lf x hp⟩)
  have gu : (A.deeper (envOfC "_law_side" (defScope s__law_side) s.heap.objs.size f__law_side cdv)).guards = some [] := gu
  exact (pss_cons (ps_par (i := 1) (j := 2) rfl sc__law_side.nd rfl rfl (by decide) rfl rfl (pa_cons (pe_ix ix_seq (pe_lst (pa_cons pe_int (pa_cons pe_int (pa_cons (pe_callG (ok__law_take T) (hr.mono (by decide)) gu (by rfl) T.g__law_take T.F__law_take.kp T.b__law_take (pa_cons (pv 0) (pa_cons (pe_op op_powX pe_int pe_int) pa_nil))) pa_nil)))) (pe_callG (ok__law_take T) (hr.mono (by decide)) gu (by rfl) T.g__law_take T.F__law_take.kp T.b__law_take (pa_cons (pv 0) (pa_cons pe_int pa_nil))) (fun _ _ => rfl)) (pa_cons (pe_lst pa_nil) pa_nil)) rfl)
    (pss_cons (ps_for PassesOwn.never rfl (pi_range1 (by rfl) T.z_range (pa_cons (pe_op op_plus pe_int (pe_callG (ok__law_take T) (hr.mono (by decide)) gu (by rfl) T.g__law_take T.F__law_take.kp T.b__law_take (pa_cons (pv 0) (pa_cons pe_int pa_nil)))) pa_nil)) (pg_name (i := 3) sc__law_side.nd rfl (by first | exact .inl rfl | exact .inr rfl)) (pss_cons (ps_aug (i := 1) sc__law_side.nd rfl (by first | exact .inl rfl | exact .inr rfl) (pe_ix ix_seq (pe_lst (pa_cons pe_int (pa_cons pe_int (pa_cons (pe_op op_plus pe_int (pe_callG (ok__law_take T) (hr.mono (by decide)) gu (by rfl) T.g__law_take T.F__law_take.kp T.b__law_take (pa_cons (pv 0) (pa_cons pe_int pa_nil)))) (pa_cons (pe_callG (ok__law_take T) (hr.mono (by decide)) gu (by rfl) T.g__law_take T.F__law_take.kp T.b__law_take (pa_cons (pv 0) (pa_cons (pe_op op_powX pe_int pe_int) pa_nil))) pa_nil))))) (pe_callG (ok__law_take T) (hr.mono (by decide)) gu (by rfl) T.g__law_take T.F__law_take.kp T.b__law_take (pa_cons (pv 0) (pa_cons pe_int pa_nil))) (fun _ _ => rfl)) ip_add)
    (pss_cons (ps_set (i := 4) sc__law_side.nd rfl (by first | exact .inl rfl | exact .inr rfl) (pe_op op_plus pe_int (pe_callG (ok__law_take T) (hr.mono (by decide)) gu (by rfl) T.g__law_take T.F__law_take.kp T.b__law_take (pa_cons (pv 0) (pa_cons (pe_ix ix_seq (pe_lst (pa_cons pe_int (pa_cons pe_int (pa_cons pe_int (pa_cons (pe_op op_powX pe_int pe_int) pa_nil))))) (pe_callG (ok__law_take T) (hr.mono (by decide)) gu (by rfl) T.g__law_take T.F__law_take.kp T.b__law_take (pa_cons (pv 0) (pa_cons pe_int pa_nil))) (fun _ _ => rfl)) pa_nil)))))
    (pss_cons (ps_expr (pe_bm PySem.F.plainAttrs_list PySem.F.slot_list_append PySem.F.type_list_append mt_append (pv 2) (pa_cons (pe_tup (pa_cons (pv 1) (pa_cons (pv 4) pa_nil))) pa_nil)))
    (pss_one (ps_aug (i := 1) sc__law_side.nd rfl (by first | exact .inl rfl | exact .inr rfl) (pv 4) ip_add))))))
    (pss_one (ps_ret (pv 2)))))
theorem ok__law_cells (T : Txt K mg base Z f_lies_in f_edges f_pieces_between f_joined f__end f_Sheet___init__ f_Sheet_at f_Sheet_area f__cells_of f__formed f__parts f__law_bag f__law_take f__law_in f__law_whole f__law_shuffled f__law_side f__law_cells f__law_value f__law_right f_law d_lies_in d_edges d_pieces_between d_joined d__end d_Sheet___init__ d_Sheet_at d_Sheet_area d__cells_of d__formed d__parts d__law_bag d__law_take d__law_in d__law_whole d__law_shuffled d__law_side d__law_cells d__law_value d__law_right d_law) : FnG P w K mg base 2 f__law_cells d__law_cells ["bag", "side"] (sp__law_cells K Z) := by
  refine okG T.F__law_cells sc__law_cells (fun vs H Q E h => spQ.len (E := E) h) (fun cdv A fr s H vs Q gu hr h => ⟨rd__law_cells K Z, ?_, bodyQ (E := E0) h fun x hp => sem__law_cells T.lf x hp⟩)
  have gu : (A.deeper (envOfC "_law_cells" (defScope s__law_cells) s.heap.objs.size f__law_cells cdv)).guards = some [] := gu
  exact (pss_cons (ps_set (i := 2) sc__law_cells.nd rfl (by first | exact .inl rfl | exact .inr rfl) (pe_lst (pa_cons pe_int (pa_cons (pe_op op_plus (pe_ix ix_seq (pe_ix ix_seq (pv 1) (pe_un un_negX pe_int) (fun _ _ => rfl)) pe_int (fun _ _ => rfl)) (pe_op op_mulX' pe_int (pe_ix ix_seq (pe_ix ix_seq (pv 1) (pe_un un_negX pe_int) (fun _ _ => rfl)) pe_int (fun _ _ => rfl)))) (pa_cons (pe_op op_powX pe_int pe_int) pa_nil)))))
    (pss_cons (ps_for PassesOwn.never rfl (pi_list (pv 1)) (pg_tup rfl (pgs_cons (pg_name (i := 3) sc__law_cells.nd rfl (by first | exact .inl rfl | exact .inr rfl)) (pgs_cons (pg_name (i := 4) sc__law_cells.nd rfl (by first | exact .inl rfl | exact .inr rfl)) pgs_nil))) (pss_one (ps_expr (pe_bm PySem.F.plainAttrs_list PySem.F.slot_list_extend PySem.F.type_list_extend mt_extend (pv 2) (pa_cons (pe_lst (pa_cons (pv 3) (pa_cons (pe_op op_subX (pe_op op_plus (pv 3) (pv 4)) pe_int) (pa_cons (pe_op op_plus (pv 3) (pv 4)) (pa_cons (pe_callB (call_maxX rfl) (by rfl) T.z_max (by decide +kernel) (pa_cons pe_int (pa_cons (pe_op op_subX (pv 3) pe_int) pa_nil))) (pa_cons (pe_op op_plus (pv 3) (pe_callG (ok__law_take T) (hr.mono (by decide)) gu (by rfl) T.g__law_take T.F__law_take.kp T.b__law_take (pa_cons (pv 0) (pa_cons (pv 4) pa_nil)))) pa_nil)))))) pa_nil)))))
    (pss_one (ps_ret (pv 2)))))
theorem ok__law_value (T : Txt K mg base Z f_lies_in f_edges f_pieces_between f_joined f__end f_Sheet___init__ f_Sheet_at f_Sheet_area f__cells_of f__formed f__parts f__law_bag f__law_take f__law_in f__law_whole f__law_shuffled f__law_side f__law_cells f__law_value f__law_right f_law d_lies_in d_edges d_pieces_between d_joined d__end d_Sheet___init__ d_Sheet_at d_Sheet_area d__cells_of d__formed d__parts d__law_bag d__law_take d__law_in d__law_whole d__law_shuffled d__law_side d__law_cells d__law_value d__law_right d_law) : FnG P w K mg base 2 f__law_value d__law_value ["boxes", "x", "y"] (sp__law_value K Z) := by
  refine okG T.F__law_value sc__law_value (fun vs H Q E h => spQ.len (E := E) h) (fun cdv A fr s H vs Q gu hr h => ⟨rd__law_value K Z, ?_, bodyQ (E := E0) h fun x hp => sem__law_value T.lf x hp⟩)
  have gu : (A.deeper (envOfC "_law_value" (defScope s__law_value) s.heap.objs.size f__law_value cdv)).guards = some [] := gu
  exact (pss_cons (ps_for PassesOwn.never rfl (pi_list (pv 0)) (pg_tup rfl (pgs_cons (pg_name (i := 3) sc__law_value.nd rfl (by first | exact .inl rfl | exact .inr rfl)) (pgs_cons (pg_name (i := 4) sc__law_value.nd rfl (by first | exact .inl rfl | exact .inr rfl)) (pgs_cons (pg_name (i := 5) sc__law_value.nd rfl (by first | exact .inl rfl | exact .inr rfl)) pgs_nil)))) (pss_one (ps_if (PW.pt (pw_and (pt_val (pe_callG (ok__law_in T) (hr.mono (by decide)) gu (by rfl) T.g__law_in T.F__law_in.kp T.b__law_in (pa_cons (pv 3) (pa_cons (pv 1) pa_nil)))) (pw_and1 (pt_val (pe_callG (ok__law_in T) (hr.mono (by decide)) gu (by rfl) T.g__law_in T.F__law_in.kp T.b__law_in (pa_cons (pv 4) (pa_cons (pv 2) pa_nil))))))) (pss_one (ps_ret (pv 5))) pss_nil)))
    (pss_one (ps_ret pe_non)))
theorem ok__formed (T : Txt K mg base Z f_lies_in f_edges f_pieces_between f_joined f__end f_Sheet___init__ f_Sheet_at f_Sheet_area f__cells_of f__formed f__parts f__law_bag f__law_take f__law_in f__law_whole f__law_shuffled f__law_side f__law_cells f__law_value f__law_right f_law d_lies_in d_edges d_pieces_between d_joined d__end d_Sheet___init__ d_Sheet_at d_Sheet_area d__cells_of d__formed d__parts d__law_bag d__law_take d__law_in d__law_whole d__law_shuffled d__law_side d__law_cells d__law_value d__law_right d_law) : FnG P w K mg base 3 f__formed d__formed ["boxes"] (sp__formed K Z) := by
  refine okG T.F__formed sc__formed (fun vs H Q E h => spQ.len (E := E) h) (fun cdv A fr s H vs Q gu hr h => ⟨rd__formed K Z, ?_, bodyQ (E := E0) h fun x hp => sem__formed T.lf x hp⟩)
  have gu : (A.deeper (envOfC "_formed" (defScope s__formed) s.heap.objs.size f__formed cdv)).guards = some [] := gu
  exact (pss_cons (ps_set (i := 1) sc__formed.nd rfl (by first | exact .inl rfl | exact .inr rfl) (pe_callG (ok_edges T) (hr.mono (by decide)) gu (by rfl) T.g_edges T.F_edges.kp T.b_edges (pa_cons (pe_lc (own := [("froms", 12), ("_", 13)]) (g := (gTup K 3 (gCons (gName 12) (gCons (gName 13) (gCons (gName 13) gNil))))) (tt := tYes) (te := (tVar 12)) rfl sc__formed.nd (pi_list (pv 0)) (blkOk_by (N := ["boxes", "ends", "strips", "numbers", "first", "many", "overs", "value", "begin", "pieces", "piece", "parts", "froms", "_", "number"]) (sc := defScope s__formed) (by decide +kernel)) (fun _ _ _ _ _ => (pg_tup rfl (pgs_cons (pg_name (i := 12) sc__formed.nd rfl (by first | exact .inl rfl | exact .inr rfl)) (pgs_cons (pg_name (i := 13) sc__formed.nd rfl (by first | exact .inl rfl | exact .inr rfl)) (pgs_cons (pg_name (i := 13) sc__formed.nd rfl (by first | exact .inl rfl | exact .inr rfl)) pgs_nil))))) (fun _ _ _ _ _ => pts_nil) (fun _ _ _ _ _ => (pv 12))) pa_nil)))
    (pss_cons (ps_setDc (i := 2) (own := [("first", 4)]) (g := (gName 4)) (tt := tYes) (tk := (tVar 4)) (tv := (tLst tNil)) rfl sc__formed.nd rfl rfl (sw_trueD rfl rfl rfl (by decide +kernel)) (pi_list (pv 1)) (blkOk_by (N := ["boxes", "ends", "strips", "numbers", "first", "many", "overs", "value", "begin", "pieces", "piece", "parts", "froms", "_", "number"]) (sc := defScope s__formed) (by decide +kernel)) (fun _ _ _ _ _ => (pg_name (i := 4) sc__formed.nd rfl (by first | exact .inl rfl | exact .inr rfl))) (fun _ _ _ _ _ => pts_nil) (fun _ _ _ _ _ => (pv 4)) (fun _ _ _ _ _ => (pe_lst pa_nil)))
    (pss_cons (ps_setDc (i := 3) (own := [("number", 14), ("first", 4)]) (g := (gTup K 2 (gCons (gName 14) (gCons (gName 4) gNil)))) (tt := tYes) (tk := (tVar 4)) (tv := (tVar 14)) rfl sc__formed.nd rfl rfl (sw_trueD rfl rfl rfl (by decide +kernel)) (pi_enum (by rfl) T.z_enumerate (pa_cons (pv 1) pa_nil)) (blkOk_by (N := ["boxes", "ends", "strips", "numbers", "first", "many", "overs", "value", "begin", "pieces", "piece", "parts", "froms", "_", "number"]) (sc := defScope s__formed) (by decide +kernel)) (fun _ _ _ _ _ => (pg_tup rfl (pgs_cons (pg_name (i := 14) sc__formed.nd rfl (by first | exact .inl rfl | exact .inr rfl)) (pgs_cons (pg_name (i := 4) sc__formed.nd rfl (by first | exact .inl rfl | exact .inr rfl)) pgs_nil)))) (fun _ _ _ _ _ => pts_nil) (fun _ _ _ _ _ => (pv 4)) (fun _ _ _ _ _ => (pv 14)))
    (pss_cons (ps_for PassesOwn.never rfl (pi_list (pv 0)) (pg_tup rfl (pgs_cons (pg_tup rfl (pgs_cons (pg_name (i := 4) sc__formed.nd rfl (by first | exact .inl rfl | exact .inr rfl)) (pgs_cons (pg_name (i := 5) sc__formed.nd rfl (by first | exact .inl rfl | exact .inr rfl)) pgs_nil))) (pgs_cons (pg_name (i := 6) sc__formed.nd rfl (by first | exact .inl rfl | exact .inr rfl)) (pgs_cons (pg_name (i := 7) sc__formed.nd rfl (by first | exact .inl rfl | exact .inr rfl)) pgs_nil)))) (pss_one (ps_for PassesOwn.never rfl (pi_list (pe_slice sl_3 (pv 1) (po_some (pe_dget (room1 hr) (pv 3) (pv 4) (fun _ _ => rfl))) (po_some (pe_dget (room1 hr) (pv 3) (pe_op op_plus (pv 4) (pv 5)) (fun _ _ => rfl))))) (pg_name (i := 8) sc__formed.nd rfl (by first | exact .inl rfl | exact .inr rfl)) (pss_one (ps_expr (pe_bm PySem.F.plainAttrs_list PySem.F.slot_list_append PySem.F.type_list_append mt_append (pe_dget (room1 hr) (pv 2) (pv 8) (fun _ _ => rfl)) (pa_cons (pe_tup (pa_cons (pv 6) (pa_cons (pv 7) pa_nil))) pa_nil)))))))
    (pss_cons (ps_set (i := 9) sc__formed.nd rfl (by first | exact .inl rfl | exact .inr rfl) (pe_lst pa_nil))
    (pss_cons (ps_for PassesOwn.never rfl (pi_list (pe_callG (ok_pieces_between T) (hr.mono (by decide)) gu (by rfl) T.g_pieces_between T.F_pieces_between.kp T.b_pieces_between (pa_cons (pv 1) pa_nil))) (pg_name (i := 10) sc__formed.nd rfl (by first | exact .inl rfl | exact .inr rfl)) (pss_cons (ps_set (i := 11) sc__formed.nd rfl (by first | exact .inl rfl | exact .inr rfl) (pe_callG (ok__parts T) (hr.mono (by decide)) gu (by rfl) T.g__parts T.F__parts.kp T.b__parts (pa_cons (pe_dget (room1 hr) (pv 2) (pe_ix ix_seq (pv 10) pe_int (fun _ _ => rfl)) (fun _ _ => rfl)) pa_nil)))
    (pss_one (ps_if (pt_truth (pv 11) (fun _ => rfl)) (pss_one (ps_expr (pe_bm PySem.F.plainAttrs_list PySem.F.slot_list_append PySem.F.type_list_append mt_append (pv 9) (pa_cons (pe_tup (pa_cons (pv 10) (pa_cons (pv 11) pa_nil))) pa_nil)))) pss_nil))))
    (pss_one (ps_ret (pe_callG (ok_joined T) (hr.mono (by decide)) gu (by rfl) T.g_joined T.F_joined.kp T.b_joined (pa_cons (pv 9) pa_nil))))))))))
theorem ok_Sheet___init__ (T : Txt K mg base Z f_lies_in f_edges f_pieces_between f_joined f__end f_Sheet___init__ f_Sheet_at f_Sheet_area f__cells_of f__formed f__parts f__law_bag f__law_take f__law_in f__law_whole f__law_shuffled f__law_side f__law_cells f__law_value f__law_right f_law d_lies_in d_edges d_pieces_between d_joined d__end d_Sheet___init__ d_Sheet_at d_Sheet_area d__cells_of d__formed d__parts d__law_bag d__law_take d__law_in d__law_whole d__law_shuffled d__law_side d__law_cells d__law_value d__law_right d_law) : FnG P w K mg base 4 f_Sheet___init__ d_Sheet___init__ ["self", "rows"] (sp_Sheet___init__ K Z) := by
  refine okG T.F_Sheet___init__ sc_Sheet___init__ (fun vs H Q E h => spI.len h) (fun cdv A fr s H vs Q gu hr h => ⟨rd_Sheet___init__ K Z, ?_, init_of h (fun x dx ss hl hp => sem_Sheet___init__ T.lf x dx ss hp) (by decide)⟩)
  have gu : (A.deeper (envOfC "Sheet.__init__" (defScope s_Sheet___init__) s.heap.objs.size f_Sheet___init__ cdv)).guards = some [] := gu
  exact (pss_cons (ps_fld (pv 0) (pe_callG (ok__formed T) (hr.mono (by decide)) gu (by rfl) T.g__formed T.F__formed.kp T.b__formed (pa_cons (pv 1) pa_nil)) rfl)
    pss_nil)
theorem ok__law_right (T : Txt K mg base Z f_lies_in f_edges f_pieces_between f_joined f__end f_Sheet___init__ f_Sheet_at f_Sheet_area f__cells_of f__formed f__parts f__law_bag f__law_take f__law_in f__law_whole f__law_shuffled f__law_side f__law_cells f__law_value f__law_right f_law d_lies_in d_edges d_pieces_between d_joined d__end d_Sheet___init__ d_Sheet_at d_Sheet_area d__cells_of d__formed d__parts d__law_bag d__law_take d__law_in d__law_whole d__law_shuffled d__law_side d__law_cells d__law_value d__law_right d_law) : FnG P w K mg base 6 f__law_right d__law_right ["bag"] (sp__law_right K Z) := by
  refine okG T.F__law_right sc__law_right (fun vs H Q E h => spQ.len (E := E) h) (fun cdv A fr s H vs Q gu hr h => ⟨rd__law_right K Z, ?_, bodyQ (E := E0) h fun x hp => sem__law_right T.lf x hp⟩)
  have gu : (A.deeper (envOfC "_law_right" (defScope s__law_right) s.heap.objs.size f__law_right cdv)).guards = some [] := gu
  exact (pss_cons (ps_par3 (i := 1) (j := 2) (l := 3) rfl sc__law_right.nd rfl rfl rfl (by decide) (by decide) (by decide) rfl rfl rfl (pa_cons (pe_callG (ok__law_side T) (hr.mono (by decide)) gu (by rfl) T.g__law_side T.F__law_side.kp T.b__law_side (pa_cons (pv 0) pa_nil)) (pa_cons (pe_callG (ok__law_side T) (hr.mono (by decide)) gu (by rfl) T.g__law_side T.F__law_side.kp T.b__law_side (pa_cons (pv 0) pa_nil)) (pa_cons (pe_tup (pa_cons pe_str (pa_cons (pe_tup (pa_cons pe_str (pa_cons pe_int pa_nil))) (pa_cons (pe_tup (pa_cons pe_int (pa_cons pe_int pa_nil))) pa_nil)))) pa_nil))) rfl)
    (pss_cons (ps_set (i := 4) sc__law_right.nd rfl (by first | exact .inl rfl | exact .inr rfl) (pe_lst pa_nil))
    (pss_cons (ps_for PassesOwn.never rfl (pi_list (pv 1)) (pg_name (i := 5) sc__law_right.nd rfl (by first | exact .inl rfl | exact .inr rfl)) (pss_one (ps_for PassesOwn.never rfl (pi_list (pv 2)) (pg_name (i := 6) sc__law_right.nd rfl (by first | exact .inl rfl | exact .inr rfl)) (pss_cons (ps_set (i := 7) sc__law_right.nd rfl (by first | exact .inl rfl | exact .inr rfl) (pe_callG (ok__law_take T) (hr.mono (by decide)) gu (by rfl) T.g__law_take T.F__law_take.kp T.b__law_take (pa_cons (pv 0) (pa_cons pe_int pa_nil))))
    (pss_one (ps_if (pt_cmpR op_ltX (pv 7) pe_int (nomark _)) (pss_one (ps_expr (pe_bm PySem.F.plainAttrs_list PySem.F.slot_list_append PySem.F.type_list_append mt_append (pv 4) (pa_cons (pe_tup (pa_cons (pv 5) (pa_cons (pv 6) (pa_cons (pe_ix ix_seq (pv 3) (pv 7) (fun _ _ => rfl)) pa_nil)))) pa_nil)))) pss_nil))))))
    (pss_cons (ps_par (i := 8) (j := 9) rfl sc__law_right.nd rfl rfl (by decide) rfl rfl (pa_cons (pe_makeGP (n := 1) T.mk_Sheet (ok_Sheet___init__ T) (hr.mono (by decide)) gu (by rfl) T.gC_Sheet (kb_Sheet___init___1 T).choose_spec (pa_cons (pe_callG (ok__law_shuffled T) (hr.mono (by decide)) gu (by rfl) T.g__law_shuffled T.F__law_shuffled.kp T.b__law_shuffled (pa_cons (pv 0) (pa_cons (pv 4) pa_nil))) pa_nil)) (pa_cons (pe_callB (cr_sum rfl) (by rfl) T.z_sum (by decide +kernel) (pa_cons (pe_lc (own := [("plot", 13)]) (g := (gName 13)) (tt := tYes) (te := (tOp rMul (tOp (rIx K) (tOp (rIx K) (tVar 13) (tC (.int 0))) (tC (.int 1))) (tOp (rIx K) (tOp (rIx K) (tVar 13) (tC (.int 1))) (tC (.int 1))))) rfl sc__law_right.nd (pi_list (pv 4)) (blkOk_by (N := ["bag", "froms", "overs", "some", "boxes", "one", "other", "pick", "mine", "area", "across", "x", "y", "plot"]) (sc := defScope s__law_right) (by decide +kernel)) (fun _ _ _ _ _ => (pg_name (i := 13) sc__law_right.nd rfl (by first | exact .inl rfl | exact .inr rfl))) (fun _ _ _ _ _ => pts_nil) (fun _ _ _ _ _ => (pe_op op_mulX' (pe_ix ix_seq (pe_ix ix_seq (pv 13) pe_int (fun _ _ => rfl)) pe_int (fun _ _ => rfl)) (pe_ix ix_seq (pe_ix ix_seq (pv 13) pe_int (fun _ _ => rfl)) pe_int (fun _ _ => rfl))))) pa_nil)) pa_nil)) rfl)
    (pss_cons (ps_set (i := 10) sc__law_right.nd rfl (by first | exact .inl rfl | exact .inr rfl) (pe_callG (ok__law_cells T) (hr.mono (by decide)) gu (by rfl) T.g__law_cells T.F__law_cells.kp T.b__law_cells (pa_cons (pv 0) (pa_cons (pv 2) pa_nil))))
    (pss_cons (ps_for PassesOwn.never rfl (pi_list (pe_callG (ok__law_cells T) (hr.mono (by decide)) gu (by rfl) T.g__law_cells T.F__law_cells.kp T.b__law_cells (pa_cons (pv 0) (pa_cons (pv 1) pa_nil)))) (pg_name (i := 11) sc__law_right.nd rfl (by first | exact .inl rfl | exact .inr rfl)) (pss_one (ps_for PassesOwn.never rfl (pi_list (pv 10)) (pg_name (i := 12) sc__law_right.nd rfl (by first | exact .inl rfl | exact .inr rfl)) (pss_one (ps_if (pt_cmpR (op_neX hr.units) (pe_callB (call_repr gu hr.units) (by rfl) T.z_repr (by decide +kernel) (pa_cons (pe_methG (pv 8) T.lf.i.cl ⟨T.e_Sheet_at, T.i_Sheet_at, T.F_Sheet_at.kp⟩ (ok_Sheet_at T) (hr.mono (by decide)) gu T.b_Sheet_at (pa_cons (pv 11) (pa_cons (pv 12) pa_nil))) pa_nil)) (pe_callB (call_repr gu hr.units) (by rfl) T.z_repr (by decide +kernel) (pa_cons (pe_callG (ok__law_value T) (hr.mono (by decide)) gu (by rfl) T.g__law_value T.F__law_value.kp T.b__law_value (pa_cons (pv 4) (pa_cons (pv 11) (pa_cons (pv 12) pa_nil)))) pa_nil)) (nomark _)) (pss_one (ps_ret pe_bl)) pss_nil)))))
    (pss_one (ps_ret (pe_and (pe_cmpR (op_eqX hr.units) (pe_methG0 (pv 8) T.lf.i.cl ⟨T.e_Sheet_area, T.i_Sheet_area, T.F_Sheet_area.kp⟩ (ok_Sheet_area T) (hr.mono (by decide)) gu T.b_Sheet_area) (pv 9) (nomark _)) (pe_one (pe_callG (ok__law_whole T) (hr.mono (by decide)) gu (by rfl) T.g__law_whole T.F__law_whole.kp T.b__law_whole (pa_cons (pe_methG0 (pv 8) T.lf.i.cl ⟨T.e_Sheet_area, T.i_Sheet_area, T.F_Sheet_area.kp⟩ (ok_Sheet_area T) (hr.mono (by decide)) gu T.b_Sheet_area) pa_nil))))))))))))
theorem ok_law (T : Txt K mg base Z f_lies_in f_edges f_pieces_between f_joined f__end f_Sheet___init__ f_Sheet_at f_Sheet_area f__cells_of f__formed f__parts f__law_bag f__law_take f__law_in f__law_whole f__law_shuffled f__law_side f__law_cells f__law_value f__law_right f_law d_lies_in d_edges d_pieces_between d_joined d__end d_Sheet___init__ d_Sheet_at d_Sheet_area d__cells_of d__formed d__parts d__law_bag d__law_take d__law_in d__law_whole d__law_shuffled d__law_side d__law_cells d__law_value d__law_right d_law) : FnG P w K mg base 7 f_law d_law ["script"] (sp_law K) := by
  refine okG T.F_law sc_law (fun vs H Q E h => spD.len (E := E) h) (fun cdv A fr s H vs Q gu hr h => ⟨rd_law K Z, ?_, body_of (E := E0) h fun ss hl hp => sem_law T.lf ss hp⟩)
  have gu : (A.deeper (envOfC "law" (defScope s_law) s.heap.objs.size f_law cdv)).guards = some [] := gu
  exact (pss_cons (ps_for PassesOwn.never rfl (pi_range1 (by rfl) T.z_range (pa_cons (pe_callB (call_maxX rfl) (by rfl) T.z_max (by decide +kernel) (pa_cons pe_int (pa_cons (pe_callB (call_minX rfl) (by rfl) T.z_min (by decide +kernel) (pa_cons pe_int (pa_cons (pe_callB call_lenX (by rfl) T.z_len (by decide +kernel) (pa_cons (pv 0) pa_nil)) pa_nil))) pa_nil))) pa_nil)) (pg_name (i := 1) sc_law.nd rfl (by first | exact .inl rfl | exact .inr rfl)) (pss_cons (ps_set (i := 2) sc_law.nd rfl (by first | exact .inl rfl | exact .inr rfl) (pe_callG (ok__law_bag T) (hr.mono (by decide)) gu (by rfl) T.g__law_bag T.F__law_bag.kp T.b__law_bag (pa_cons (pv 0) (pa_cons (pv 1) pa_nil))))
    (pss_one (ps_for PassesOwn.never rfl (pi_range1 (by rfl) T.z_range (pa_cons pe_int pa_nil)) (pg_name (i := 3) sc_law.nd rfl (by first | exact .inl rfl | exact .inr rfl)) (pss_one (ps_if (pt_not (pt_val (pe_callG (ok__law_right T) (hr.mono (by decide)) gu (by rfl) T.g__law_right T.F__law_right.kp T.b__law_right (pa_cons (pv 2) pa_nil)))) (pss_one (ps_ret pe_bl)) pss_nil))))))
    (pss_one (ps_ret pe_bl)))
end
omit [Tbl] in
theorem all_mk {l : PySem.W.OpenLaw} {w : World} {K : PySem.W.Frag} {h : Heap} {mg : Str → Option Value} {fa f_lies_in f_edges f_pieces_between f_joined f__end f_Sheet___init__ f_Sheet_at f_Sheet_area f__cells_of f__formed f__parts f__law_bag f__law_take f__law_in f__law_whole f__law_shuffled f__law_side f__law_cells f__law_value f__law_right f_law C_Sheet : Addr} (X : K.In h) (G : h.Ns mainGlobals mg) (hfa : mg "law" = some (.ref fa))
    {od0 an0 : Option Addr} {sl0 : Array (Option Value)} {oc0 dc0 pm0 cd0 ct0 : Value}
    {kV0 : Value}
    {od1 an1 : Option Addr} {sl1 : Array (Option Value)} {oc1 dc1 pm1 cd1 ct1 : Value}
    {kV1 : Value}
    {od2 an2 : Option Addr} {sl2 : Array (Option Value)} {oc2 dc2 pm2 cd2 ct2 : Value}
    {kV2 : Value}
    {od3 an3 : Option Addr} {sl3 : Array (Option Value)} {oc3 dc3 pm3 cd3 ct3 : Value}
    {kV3 : Value}
    {od4 an4 : Option Addr} {sl4 : Array (Option Value)} {oc4 dc4 pm4 cd4 ct4 : Value}
    {kV4 : Value}
    {od5 an5 : Option Addr} {sl5 : Array (Option Value)} {oc5 dc5 pm5 cd5 ct5 : Value}
    {kV5 : Value}
    {od6 an6 : Option Addr} {sl6 : Array (Option Value)} {oc6 dc6 pm6 cd6 ct6 : Value}
    {kV6 : Value}
    {od7 an7 : Option Addr} {sl7 : Array (Option Value)} {oc7 dc7 pm7 cd7 ct7 : Value}
    {kV7 : Value}
    {od8 an8 : Option Addr} {sl8 : Array (Option Value)} {oc8 dc8 pm8 cd8 ct8 : Value}
    {kV8 : Value}
    {od9 an9 : Option Addr} {sl9 : Array (Option Value)} {oc9 dc9 pm9 cd9 ct9 : Value}
    {kV9 : Value}
    {od10 an10 : Option Addr} {sl10 : Array (Option Value)} {oc10 dc10 pm10 cd10 ct10 : Value}
    {kV10 : Value}
    {od11 an11 : Option Addr} {sl11 : Array (Option Value)} {oc11 dc11 pm11 cd11 ct11 : Value}
    {kV11 : Value}
    {od12 an12 : Option Addr} {sl12 : Array (Option Value)} {oc12 dc12 pm12 cd12 ct12 : Value}
    {kV12 : Value}
    {od13 an13 : Option Addr} {sl13 : Array (Option Value)} {oc13 dc13 pm13 cd13 ct13 : Value}
    {kV13 : Value}
    {od14 an14 : Option Addr} {sl14 : Array (Option Value)} {oc14 dc14 pm14 cd14 ct14 : Value}
    {kV14 : Value}
    {od15 an15 : Option Addr} {sl15 : Array (Option Value)} {oc15 dc15 pm15 cd15 ct15 : Value}
    {kV15 : Value}
    {od16 an16 : Option Addr} {sl16 : Array (Option Value)} {oc16 dc16 pm16 cd16 ct16 : Value}
    {kV16 : Value}
    {od17 an17 : Option Addr} {sl17 : Array (Option Value)} {oc17 dc17 pm17 cd17 ct17 : Value}
    {kV17 : Value}
    {od18 an18 : Option Addr} {sl18 : Array (Option Value)} {oc18 dc18 pm18 cd18 ct18 : Value}
    {kV18 : Value}
    {od19 an19 : Option Addr} {sl19 : Array (Option Value)} {oc19 dc19 pm19 cd19 ct19 : Value}
    {kV19 : Value}
    {od20 an20 : Option Addr} {sl20 : Array (Option Value)} {oc20 dc20 pm20 cd20 ct20 : Value}
    {kV20 : Value}
    (a0 : PySem.W.nsIn K mainGlobals "lies_in" = some (some (.ref f_lies_in)))
    (l0 : K.lookup f_lies_in = some ⟨oc0, od0, .func (PySem.W.fnOf "lies_in" "lies_in" (defArgs s_lies_in) (defBody s_lies_in) (defScope s_lies_in) .none kV0 dc0 pm0 an0 cd0 ct0), sl0⟩)
    (p0 : PySem.W.codeIn K cd0 "lies_in" = true)
    (k0 : PySem.W.keepIn K (.ref f_lies_in) = true)
    (a1 : PySem.W.nsIn K mainGlobals "edges" = some (some (.ref f_edges)))
    (l1 : K.lookup f_edges = some ⟨oc1, od1, .func (PySem.W.fnOf "edges" "edges" (defArgs s_edges) (defBody s_edges) (defScope s_edges) .none kV1 dc1 pm1 an1 cd1 ct1), sl1⟩)
    (p1 : PySem.W.codeIn K cd1 "edges" = true)
    (k1 : PySem.W.keepIn K (.ref f_edges) = true)
    (a2 : PySem.W.nsIn K mainGlobals "pieces_between" = some (some (.ref f_pieces_between)))
    (l2 : K.lookup f_pieces_between = some ⟨oc2, od2, .func (PySem.W.fnOf "pieces_between" "pieces_between" (defArgs s_pieces_between) (defBody s_pieces_between) (defScope s_pieces_between) .none kV2 dc2 pm2 an2 cd2 ct2), sl2⟩)
    (p2 : PySem.W.codeIn K cd2 "pieces_between" = true)
    (k2 : PySem.W.keepIn K (.ref f_pieces_between) = true)
    (a3 : PySem.W.nsIn K mainGlobals "joined" = some (some (.ref f_joined)))
    (l3 : K.lookup f_joined = some ⟨oc3, od3, .func (PySem.W.fnOf "joined" "joined" (defArgs s_joined) (defBody s_joined) (defScope s_joined) .none kV3 dc3 pm3 an3 cd3 ct3), sl3⟩)
    (p3 : PySem.W.codeIn K cd3 "joined" = true)
    (k3 : PySem.W.keepIn K (.ref f_joined) = true)
    (a4 : PySem.W.nsIn K mainGlobals "_end" = some (some (.ref f__end)))
    (l4 : K.lookup f__end = some ⟨oc4, od4, .func (PySem.W.fnOf "_end" "_end" (defArgs s__end) (defBody s__end) (defScope s__end) .none kV4 dc4 pm4 an4 cd4 ct4), sl4⟩)
    (p4 : PySem.W.codeIn K cd4 "_end" = true)
    (k4 : PySem.W.keepIn K (.ref f__end) = true)
    (a5 : PySem.W.findIn K (.ref C_Sheet) "__init__" = some (some (.ref f_Sheet___init__)))
    (i5 : PySem.W.isFn K (.ref f_Sheet___init__) = true)
    (l5 : K.lookup f_Sheet___init__ = some ⟨oc5, od5, .func (PySem.W.fnOf "__init__" "Sheet.__init__" (defArgs s_Sheet___init__) (defBody s_Sheet___init__) (defScope s_Sheet___init__) .none kV5 dc5 pm5 an5 cd5 ct5), sl5⟩)
    (p5 : PySem.W.codeIn K cd5 "Sheet.__init__" = true)
    (k5 : PySem.W.keepIn K (.ref f_Sheet___init__) = true)
    (a6 : PySem.W.findIn K (.ref C_Sheet) "at" = some (some (.ref f_Sheet_at)))
    (i6 : PySem.W.isFn K (.ref f_Sheet_at) = true)
    (l6 : K.lookup f_Sheet_at = some ⟨oc6, od6, .func (PySem.W.fnOf "at" "Sheet.at" (defArgs s_Sheet_at) (defBody s_Sheet_at) (defScope s_Sheet_at) .none kV6 dc6 pm6 an6 cd6 ct6), sl6⟩)
    (p6 : PySem.W.codeIn K cd6 "Sheet.at" = true)
    (k6 : PySem.W.keepIn K (.ref f_Sheet_at) = true)
    (a7 : PySem.W.findIn K (.ref C_Sheet) "area" = some (some (.ref f_Sheet_area)))
    (i7 : PySem.W.isFn K (.ref f_Sheet_area) = true)
    (l7 : K.lookup f_Sheet_area = some ⟨oc7, od7, .func (PySem.W.fnOf "area" "Sheet.area" (defArgs s_Sheet_area) (defBody s_Sheet_area) (defScope s_Sheet_area) .none kV7 dc7 pm7 an7 cd7 ct7), sl7⟩)
    (p7 : PySem.W.codeIn K cd7 "Sheet.area" = true)
    (k7 : PySem.W.keepIn K (.ref f_Sheet_area) = true)
    (a8 : PySem.W.nsIn K mainGlobals "_cells_of" = some (some (.ref f__cells_of)))
    (l8 : K.lookup f__cells_of = some ⟨oc8, od8, .func (PySem.W.fnOf "_cells_of" "_cells_of" (defArgs s__cells_of) (defBody s__cells_of) (defScope s__cells_of) .none kV8 dc8 pm8 an8 cd8 ct8), sl8⟩)
    (p8 : PySem.W.codeIn K cd8 "_cells_of" = true)
    (k8 : PySem.W.keepIn K (.ref f__cells_of) = true)
    (a9 : PySem.W.nsIn K mainGlobals "_formed" = some (some (.ref f__formed)))
    (l9 : K.lookup f__formed = some ⟨oc9, od9, .func (PySem.W.fnOf "_formed" "_formed" (defArgs s__formed) (defBody s__formed) (defScope s__formed) .none kV9 dc9 pm9 an9 cd9 ct9), sl9⟩)
    (p9 : PySem.W.codeIn K cd9 "_formed" = true)
    (k9 : PySem.W.keepIn K (.ref f__formed) = true)
    (a10 : PySem.W.nsIn K mainGlobals "_parts" = some (some (.ref f__parts)))
    (l10 : K.lookup f__parts = some ⟨oc10, od10, .func (PySem.W.fnOf "_parts" "_parts" (defArgs s__parts) (defBody s__parts) (defScope s__parts) .none kV10 dc10 pm10 an10 cd10 ct10), sl10⟩)
    (p10 : PySem.W.codeIn K cd10 "_parts" = true)
    (k10 : PySem.W.keepIn K (.ref f__parts) = true)
    (ci10 : codeIs K f__parts = true)
    (ch10 : PySem.W.codeHdIn K (codeOf K f__parts) (tabOf K (codeOf K f__parts)) = true)
    (co10 : K.lookup (tabOf K (codeOf K f__parts)) = none)
    (cm10 : h.get? (tabOf K (codeOf K f__parts)) = some emptyT)
    (a11 : PySem.W.nsIn K mainGlobals "_law_bag" = some (some (.ref f__law_bag)))
    (l11 : K.lookup f__law_bag = some ⟨oc11, od11, .func (PySem.W.fnOf "_law_bag" "_law_bag" (defArgs s__law_bag) (defBody s__law_bag) (defScope s__law_bag) .none kV11 dc11 pm11 an11 cd11 ct11), sl11⟩)
    (p11 : PySem.W.codeIn K cd11 "_law_bag" = true)
    (k11 : PySem.W.keepIn K (.ref f__law_bag) = true)
    (a12 : PySem.W.nsIn K mainGlobals "_law_take" = some (some (.ref f__law_take)))
    (l12 : K.lookup f__law_take = some ⟨oc12, od12, .func (PySem.W.fnOf "_law_take" "_law_take" (defArgs s__law_take) (defBody s__law_take) (defScope s__law_take) .none kV12 dc12 pm12 an12 cd12 ct12), sl12⟩)
    (p12 : PySem.W.codeIn K cd12 "_law_take" = true)
    (k12 : PySem.W.keepIn K (.ref f__law_take) = true)
    (a13 : PySem.W.nsIn K mainGlobals "_law_in" = some (some (.ref f__law_in)))
    (l13 : K.lookup f__law_in = some ⟨oc13, od13, .func (PySem.W.fnOf "_law_in" "_law_in" (defArgs s__law_in) (defBody s__law_in) (defScope s__law_in) .none kV13 dc13 pm13 an13 cd13 ct13), sl13⟩)
    (p13 : PySem.W.codeIn K cd13 "_law_in" = true)
    (k13 : PySem.W.keepIn K (.ref f__law_in) = true)
    (a14 : PySem.W.nsIn K mainGlobals "_law_whole" = some (some (.ref f__law_whole)))
    (l14 : K.lookup f__law_whole = some ⟨oc14, od14, .func (PySem.W.fnOf "_law_whole" "_law_whole" (defArgs s__law_whole) (defBody s__law_whole) (defScope s__law_whole) .none kV14 dc14 pm14 an14 cd14 ct14), sl14⟩)
    (p14 : PySem.W.codeIn K cd14 "_law_whole" = true)
    (k14 : PySem.W.keepIn K (.ref f__law_whole) = true)
    (a15 : PySem.W.nsIn K mainGlobals "_law_shuffled" = some (some (.ref f__law_shuffled)))
    (l15 : K.lookup f__law_shuffled = some ⟨oc15, od15, .func (PySem.W.fnOf "_law_shuffled" "_law_shuffled" (defArgs s__law_shuffled) (defBody s__law_shuffled) (defScope s__law_shuffled) .none kV15 dc15 pm15 an15 cd15 ct15), sl15⟩)
    (p15 : PySem.W.codeIn K cd15 "_law_shuffled" = true)
    (k15 : PySem.W.keepIn K (.ref f__law_shuffled) = true)
    (a16 : PySem.W.nsIn K mainGlobals "_law_side" = some (some (.ref f__law_side)))
    (l16 : K.lookup f__law_side = some ⟨oc16, od16, .func (PySem.W.fnOf "_law_side" "_law_side" (defArgs s__law_side) (defBody s__law_side) (defScope s__law_side) .none kV16 dc16 pm16 an16 cd16 ct16), sl16⟩)
    (p16 : PySem.W.codeIn K cd16 "_law_side" = true)
    (k16 : PySem.W.keepIn K (.ref f__law_side) = true)
    (a17 : PySem.W.nsIn K mainGlobals "_law_cells" = some (some (.ref f__law_cells)))
    (l17 : K.lookup f__law_cells = some ⟨oc17, od17, .func (PySem.W.fnOf "_law_cells" "_law_cells" (defArgs s__law_cells) (defBody s__law_cells) (defScope s__law_cells) .none kV17 dc17 pm17 an17 cd17 ct17), sl17⟩)
    (p17 : PySem.W.codeIn K cd17 "_law_cells" = true)
    (k17 : PySem.W.keepIn K (.ref f__law_cells) = true)
    (a18 : PySem.W.nsIn K mainGlobals "_law_value" = some (some (.ref f__law_value)))
    (l18 : K.lookup f__law_value = some ⟨oc18, od18, .func (PySem.W.fnOf "_law_value" "_law_value" (defArgs s__law_value) (defBody s__law_value) (defScope s__law_value) .none kV18 dc18 pm18 an18 cd18 ct18), sl18⟩)
    (p18 : PySem.W.codeIn K cd18 "_law_value" = true)
    (k18 : PySem.W.keepIn K (.ref f__law_value) = true)
    (a19 : PySem.W.nsIn K mainGlobals "_law_right" = some (some (.ref f__law_right)))
    (l19 : K.lookup f__law_right = some ⟨oc19, od19, .func (PySem.W.fnOf "_law_right" "_law_right" (defArgs s__law_right) (defBody s__law_right) (defScope s__law_right) .none kV19 dc19 pm19 an19 cd19 ct19), sl19⟩)
    (p19 : PySem.W.codeIn K cd19 "_law_right" = true)
    (k19 : PySem.W.keepIn K (.ref f__law_right) = true)
    (a20 : PySem.W.nsIn K mainGlobals "law" = some (some (.ref f_law)))
    (l20 : K.lookup f_law = some ⟨oc20, od20, .func (PySem.W.fnOf "law" "law" (defArgs s_law) (defBody s_law) (defScope s_law) .none kV20 dc20 pm20 an20 cd20 ct20), sl20⟩)
    (p20 : PySem.W.codeIn K cd20 "law" = true)
    (k20 : PySem.W.keepIn K (.ref f_law) = true)
    (z_sorted : PySem.W.nsIn K mainGlobals "sorted" = some none)
    (z_set : PySem.W.nsIn K mainGlobals "set" = some none)
    (z_sum : PySem.W.nsIn K mainGlobals "sum" = some none)
    (z_enumerate : PySem.W.nsIn K mainGlobals "enumerate" = some none)
    (z_tuple : PySem.W.nsIn K mainGlobals "tuple" = some none)
    (z_len : PySem.W.nsIn K mainGlobals "len" = some none)
    (z_abs : PySem.W.nsIn K mainGlobals "abs" = some none)
    (z_int : PySem.W.nsIn K mainGlobals "int" = some none)
    (z_isinstance : PySem.W.nsIn K mainGlobals "isinstance" = some none)
    (z_bool : PySem.W.nsIn K mainGlobals "bool" = some none)
    (z_list : PySem.W.nsIn K mainGlobals "list" = some none)
    (z_range : PySem.W.nsIn K mainGlobals "range" = some none)
    (z_max : PySem.W.nsIn K mainGlobals "max" = some none)
    (z_repr : PySem.W.nsIn K mainGlobals "repr" = some none)
    (z_min : PySem.W.nsIn K mainGlobals "min" = some none)
    (gC : PySem.W.nsIn K mainGlobals "Sheet" = some (some (.ref C_Sheet)))
    (c1 : PySem.W.plainGet K C_Sheet Str.empty = true)
    (c2 : PySem.W.hasDictIn K C_Sheet = true)
    (c3 : PySem.W.plainOver K C_Sheet = true)
    (c4 : PySem.W.findIn K (.ref C_Sheet) "__setattr__" = some (some (.builtin "object.__setattr__")))
    (c5 : PySem.W.findIn K (.ref C_Sheet) "__class__" = some (some (.builtin "object.__class__")))
    (c6 : PySem.W.specialIn K (.builtin "object.__class__") "__get__" = some (some (.builtin "getset_descriptor.__get__")))
    (c7 : PySem.W.takesIn K (.builtin "object.__class__") = some true)
    (c8 : PySem.W.mroIn K C_Sheet (.type "object") = some true)
    (c11 : PySem.W.isClsIn K C_Sheet = true)
    (c12 : PySem.W.typeIn K (.ref C_Sheet) = some (.type "type"))
    (c9 : PySem.W.makesIn K C_Sheet = true)
    (c10 : PySem.W.keepIn K (.ref C_Sheet) = true)
    (n_rows : PySem.W.findIn K (.ref C_Sheet) "_rows" = some none)
    (o_obj : PySem.W.notFirst K C_Sheet (.type "object") = true)
    (o_tuple : PySem.W.notFirst K C_Sheet (.type "tuple") = true)
    (kk_tuple : PySem.W.subIn K (.type "tuple") (.ref C_Sheet) = some false)
    (o_str : PySem.W.notFirst K C_Sheet (.type "str") = true)
    (kk_str : PySem.W.subIn K (.type "str") (.ref C_Sheet) = some false)
    (gpw : PySem.W.nsIn K mainGlobals "pairwise" = some (some (.type "itertools.pairwise"))) :
    LawG l w K 7 63 "script" mg fa h := by
  have e := hfa.symm.trans (PySem.W.mg_of X G a20)
  cases e
  have F0 := fun_mk (st := s_lies_in) l0 p0 k0
  have F1 := fun_mk (st := s_edges) l1 p1 k1
  have F2 := fun_mk (st := s_pieces_between) l2 p2 k2
  have F3 := fun_mk (st := s_joined) l3 p3 k3
  have F4 := fun_mk (st := s__end) l4 p4 k4
  have F5 := fun_mk (st := s_Sheet___init__) l5 p5 k5
  have F6 := fun_mk (st := s_Sheet_at) l6 p6 k6
  have F7 := fun_mk (st := s_Sheet_area) l7 p7 k7
  have F8 := fun_mk (st := s__cells_of) l8 p8 k8
  have F9 := fun_mk (st := s__formed) l9 p9 k9
  have F10 := fun_mk (st := s__parts) l10 p10 k10
  have F11 := fun_mk (st := s__law_bag) l11 p11 k11
  have F12 := fun_mk (st := s__law_take) l12 p12 k12
  have F13 := fun_mk (st := s__law_in) l13 p13 k13
  have F14 := fun_mk (st := s__law_whole) l14 p14 k14
  have F15 := fun_mk (st := s__law_shuffled) l15 p15 k15
  have F16 := fun_mk (st := s__law_side) l16 p16 k16
  have F17 := fun_mk (st := s__law_cells) l17 p17 k17
  have F18 := fun_mk (st := s__law_value) l18 p18 k18
  have F19 := fun_mk (st := s__law_right) l19 p19 k19
  have F20 := fun_mk (st := s_law) l20 p20 k20
  letI : Tbl := ⟨[(tabOf K (codeOf K f__parts), lq "_parts")]⟩
  exact ⟨_, [(codeOf K f__parts, tabOf K (codeOf K f__parts))], sp_law K, ⟨List.forall_mem_cons.mpr ⟨cm10, fun q hq => nomatch hq⟩, List.forall_mem_cons.mpr ⟨co10, fun q hq => nomatch hq⟩, List.forall_mem_cons.mpr ⟨ch10, fun q hq => nomatch hq⟩⟩, fun s v => .of_eq rfl, fun H a ns hl ht hS => law_endG hl (List.forall_mem_cons.mpr ⟨.nil (ht _ List.mem_cons_self), fun q hq => nomatch hq⟩) hS, fun base _ _ TB => ok_law (Z := ⟨C_Sheet, (codeOf K f__parts), (tabOf K (codeOf K f__parts)), lam__parts⟩) ⟨PySem.W.mg_of X G gpw, ⟨ci10, rfl⟩, TB _ List.mem_cons_self, rfl, F0, PySem.W.mg_of X G a0, F0.binds (ps := ["cell", "stretch"]) fun _ _ _ _ _ _ us hl => match us, hl with | [_, _], _ => rfl, F1, PySem.W.mg_of X G a1, F1.binds (ps := ["stretches"]) fun _ _ _ _ _ _ us hl => match us, hl with | [_], _ => rfl, F2, PySem.W.mg_of X G a2, F2.binds (ps := ["bounds"]) fun _ _ _ _ _ _ us hl => match us, hl with | [_], _ => rfl, F3, PySem.W.mg_of X G a3, F3.binds (ps := ["pieces"]) fun _ _ _ _ _ _ us hl => match us, hl with | [_], _ => rfl, F4, PySem.W.mg_of X G a4, F4.binds (ps := ["stretch"]) fun _ _ _ _ _ _ us hl => match us, hl with | [_], _ => rfl, F5, a5, i5, F6, a6, i6, F6.binds (ps := ["self", "x", "y"]) fun _ _ _ _ _ _ us hl => match us, hl with | [_, _, _], _ => rfl, F7, a7, i7, F7.binds (ps := ["self"]) fun _ _ _ _ _ _ us hl => match us, hl with | [_], _ => rfl, F8, PySem.W.mg_of X G a8, F8.binds (ps := ["parts"]) fun _ _ _ _ _ _ us hl => match us, hl with | [_], _ => rfl, F9, PySem.W.mg_of X G a9, F9.binds (ps := ["boxes"]) fun _ _ _ _ _ _ us hl => match us, hl with | [_], _ => rfl, F10, PySem.W.mg_of X G a10, F10.binds (ps := ["strip"]) fun _ _ _ _ _ _ us hl => match us, hl with | [_], _ => rfl, F11, PySem.W.mg_of X G a11, F11.binds (ps := ["script", "at"]) fun _ _ _ _ _ _ us hl => match us, hl with | [_, _], _ => rfl, F12, PySem.W.mg_of X G a12, F12.binds (ps := ["bag", "size"]) fun _ _ _ _ _ _ us hl => match us, hl with | [_, _], _ => rfl, F13, PySem.W.mg_of X G a13, F13.binds (ps := ["stretch", "cell"]) fun _ _ _ _ _ _ us hl => match us, hl with | [_, _], _ => rfl, F14, PySem.W.mg_of X G a14, F14.binds (ps := ["thing"]) fun _ _ _ _ _ _ us hl => match us, hl with | [_], _ => rfl, F15, PySem.W.mg_of X G a15, F15.binds (ps := ["bag", "some"]) fun _ _ _ _ _ _ us hl => match us, hl with | [_, _], _ => rfl, F16, PySem.W.mg_of X G a16, F16.binds (ps := ["bag"]) fun _ _ _ _ _ _ us hl => match us, hl with | [_], _ => rfl, F17, PySem.W.mg_of X G a17, F17.binds (ps := ["bag", "side"]) fun _ _ _ _ _ _ us hl => match us, hl with | [_, _], _ => rfl, F18, PySem.W.mg_of X G a18, F18.binds (ps := ["boxes", "x", "y"]) fun _ _ _ _ _ _ us hl => match us, hl with | [_, _, _], _ => rfl, F19, PySem.W.mg_of X G a19, F19.binds (ps := ["bag"]) fun _ _ _ _ _ _ us hl => match us, hl with | [_], _ => rfl, F20, PySem.W.mg_of X G a20, F20.binds (ps := ["script"]) fun _ _ _ _ _ _ us hl => match us, hl with | [_], _ => rfl, ⟨⟨⟨c1, c2, c3, c4⟩, c5, c6, c7, c8⟩, n_rows, o_tuple, o_str, o_obj, kit_own c11 c12 kk_tuple, kit_own c11 c12 kk_str, List.mem_cons_self, tone rfl⟩, PySem.W.mg_of X G gC, ⟨c9, a5, i5, c10⟩, PySem.W.mg_none_of X G z_sorted, PySem.W.mg_none_of X G z_set, PySem.W.mg_none_of X G z_sum, PySem.W.mg_none_of X G z_enumerate, PySem.W.mg_none_of X G z_tuple, PySem.W.mg_none_of X G z_len, PySem.W.mg_none_of X G z_abs, PySem.W.mg_none_of X G z_int, PySem.W.mg_none_of X G z_isinstance, PySem.W.mg_none_of X G z_bool, PySem.W.mg_none_of X G z_list, PySem.W.mg_none_of X G z_range, PySem.W.mg_none_of X G z_max, PySem.W.mg_none_of X G z_repr, PySem.W.mg_none_of X G z_min⟩⟩

end K32
open PySem PySem.W PyProof.Rows in
set_option maxRecDepth 100000 in
set_option maxHeartbeats 0 in
theorem PySem.Challenge.cw_oldways_k32_sheets_asked_holds : PySem.Challenge.rw_oldways_k32_sheets_asked.Holds := by
  w_on; o_law; k_head; (case hw => w_witness2)
  k_fill
  refine DL.walkGT (l := PySem.Challenge.rw_oldways_k32_sheets_asked) (n := 63) (k := 7) (x := "script") rfl (by decide) rfl ⟨rfl, by decide, by decide⟩ (fun w h Y => PySem.W.km_in_of Y) ?F
  case F =>
    intro w mg fa h Y KX G hmg
    have hT := PySem.W.km_tabs_of Y
    refine' K32.all_mk KX G hmg ?a0 ?l0 ?p0 ?k0 ?a1 ?l1 ?p1 ?k1 ?a2 ?l2 ?p2 ?k2 ?a3 ?l3 ?p3 ?k3 ?a4 ?l4 ?p4 ?k4 ?a5 ?i5 ?l5 ?p5 ?k5 ?a6 ?i6 ?l6 ?p6 ?k6 ?a7 ?i7 ?l7 ?p7 ?k7 ?a8 ?l8 ?p8 ?k8 ?a9 ?l9 ?p9 ?k9 ?a10 ?l10 ?p10 ?k10 ?ci10 ?ch10 ?co10 ?cm10 ?a11 ?l11 ?p11 ?k11 ?a12 ?l12 ?p12 ?k12 ?a13 ?l13 ?p13 ?k13 ?a14 ?l14 ?p14 ?k14 ?a15 ?l15 ?p15 ?k15 ?a16 ?l16 ?p16 ?k16 ?a17 ?l17 ?p17 ?k17 ?a18 ?l18 ?p18 ?k18 ?a19 ?l19 ?p19 ?k19 ?a20 ?l20 ?p20 ?k20 ?z_sorted ?z_set ?z_sum ?z_enumerate ?z_tuple ?z_len ?z_abs ?z_int ?z_isinstance ?z_bool ?z_list ?z_range ?z_max ?z_repr ?z_min ?gC ?c1 ?c2 ?c3 ?c4 ?c5 ?c6 ?c7 ?c8 ?c11 ?c12 ?c9 ?c10 ?n_rows ?o_obj ?o_tuple ?kk_tuple ?o_str ?kk_str ?gpw
    (case gC => k_is)
    (case a0 => k_is)
    (case l0 => k_is)
    (case p0 => k_is)
    (case k0 => k_is)
    (case a1 => k_is)
    (case l1 => k_is)
    (case p1 => k_is)
    (case k1 => k_is)
    (case a2 => k_is)
    (case l2 => k_is)
    (case p2 => k_is)
    (case k2 => k_is)
    (case a3 => k_is)
    (case l3 => k_is)
    (case p3 => k_is)
    (case k3 => k_is)
    (case a4 => k_is)
    (case l4 => k_is)
    (case p4 => k_is)
    (case k4 => k_is)
    (case a5 => k_is)
    (case i5 => k_is)
    (case l5 => k_is)
    (case p5 => k_is)
    (case k5 => k_is)
    (case a6 => k_is)
    (case i6 => k_is)
    (case l6 => k_is)
    (case p6 => k_is)
    (case k6 => k_is)
    (case a7 => k_is)
    (case i7 => k_is)
    (case l7 => k_is)
    (case p7 => k_is)
    (case k7 => k_is)
    (case a8 => k_is)
    (case l8 => k_is)
    (case p8 => k_is)
    (case k8 => k_is)
    (case a9 => k_is)
    (case l9 => k_is)
    (case p9 => k_is)
    (case k9 => k_is)
    (case a10 => k_is)
    (case l10 => k_is)
    (case p10 => k_is)
    (case k10 => k_is)
    (case a11 => k_is)
    (case l11 => k_is)
    (case p11 => k_is)
    (case k11 => k_is)
    (case a12 => k_is)
    (case l12 => k_is)
    (case p12 => k_is)
    (case k12 => k_is)
    (case a13 => k_is)
    (case l13 => k_is)
    (case p13 => k_is)
    (case k13 => k_is)
    (case a14 => k_is)
    (case l14 => k_is)
    (case p14 => k_is)
    (case k14 => k_is)
    (case a15 => k_is)
    (case l15 => k_is)
    (case p15 => k_is)
    (case k15 => k_is)
    (case a16 => k_is)
    (case l16 => k_is)
    (case p16 => k_is)
    (case k16 => k_is)
    (case a17 => k_is)
    (case l17 => k_is)
    (case p17 => k_is)
    (case k17 => k_is)
    (case a18 => k_is)
    (case l18 => k_is)
    (case p18 => k_is)
    (case k18 => k_is)
    (case a19 => k_is)
    (case l19 => k_is)
    (case p19 => k_is)
    (case k19 => k_is)
    (case a20 => k_is)
    (case l20 => k_is)
    (case p20 => k_is)
    (case k20 => k_is)
    (case z_sorted => k_is)
    (case z_set => k_is)
    (case z_sum => k_is)
    (case z_enumerate => k_is)
    (case z_tuple => k_is)
    (case z_len => k_is)
    (case z_abs => k_is)
    (case z_int => k_is)
    (case z_isinstance => k_is)
    (case z_bool => k_is)
    (case z_list => k_is)
    (case z_range => k_is)
    (case z_max => k_is)
    (case z_repr => k_is)
    (case z_min => k_is)
    (case c1 => k_is)
    (case c2 => k_is)
    (case c3 => k_is)
    (case c4 => k_is)
    (case c5 => k_is)
    (case c6 => k_is)
    (case c7 => k_is)
    (case c8 => k_is)
    (case c11 => k_is)
    (case c12 => k_is)
    (case c9 => k_is)
    (case c10 => k_is)
    (case n_rows => k_is)
    (case o_obj => k_is)
    (case o_tuple => k_is)
    (case kk_tuple => k_is)
    (case o_str => k_is)
    (case kk_str => k_is)
    (case gpw => k_is)
    (case ci10 => kernel_rfl)
    (case ch10 => kernel_rfl)
    (case co10 => kernel_rfl)
    (case cm10 => exact hT _ (of_decide_eq_true (by kernel_rfl)))
