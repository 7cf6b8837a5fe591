import PyProof.Rows.All
import Wide.All
import OpenK.AllK
import Wide.FinOn
import HandS.Base
import HandS.Call
import HandS.List
import HandS.Comp
import HandS.Ends
import HandS.Iter
import HandS.Text
import HandS.Words
import HandS.WordsList
import HandS.IsInst
import HandS.Defaults
import HandS.TupLe
import HandS.Wide
import HandS.TupAny
import HandS.Deep
import HandS.Sort
import HandS.Style
import HandS.SortRule
import KE.KxText
import HandS.NoneIn
import HandS.SortKw
import HandS.MakeKwOnly
import HandS.FStr
import KE.DataCmp
import HandS.Exc
import HandS.ExcOwn
import HandS.ExcInit
import HandS.ExcField
import HandS.ExcIs
import HandS.WordsExc
import KE.KExcIs
import HandS.Zip
import KE.GoesEnumKw
import KE.GoesEnum
import HandS.Codes
import PyProof.StrBlock2
import HandS.Flow
import HandS.Dict
import HandS.Replace
import PyProof.PureStr
import PySem.Challenge.RW_oldways_k82_texts_refused
set_option Elab.async false
set_option linter.all false
set_option maxRecDepth 100000
namespace DL
open PySem PySem.Spec PyProof.Rows L2

/-! ### data -/
inductive D where
  | non | bl (b : Bool) | int (i : Int) | str (x : Str) | lst (xs : List D) | tup (xs : List D) | obj (C : Addr) (fs : List (Str × D))
mutual
def D.py : D → PyData
  | .non => .none
  | .bl b => .bool b
  | .int i => .int i
  | .str x => .str x
  | .lst xs => .list (D.pyAll xs)
  | .tup xs => .tuple (D.pyAll xs)
  | .obj _ _ => .none
def D.pyAll : List D → List PyData
  | [] => []
  | d :: ds => D.py d :: D.pyAll ds
end
mutual
def D.plain : D → Bool
  | .non => true
  | .bl _ => true
  | .int _ => true
  | .str _ => true
  | .lst xs => D.plainAll xs
  | .tup xs => D.plainAll xs
  | .obj _ _ => false
def D.plainAll : List D → Bool
  | [] => true
  | d :: ds => D.plain d && D.plainAll ds
end

abbrev AP := Addr → Prop
def AP.add (M : AP) (a : Addr) : AP := fun b => M b ∨ b = a
def MutO : HO → Prop
  | .lst _ => True
  | .ins _ _ _ => True
  | _ => False

/-- tuples stay -/
structure TK (K : PySem.W.Frag) (H H' : Hp) : Prop where
  t : ∀ a vs, H a = some (.tup vs) → H' a = some (.tup vs)
  s : ∀ a vs, SqT K H a vs → SqT K H' a vs
theorem TK.refl (K : PySem.W.Frag) (H : Hp) : TK K H H := ⟨fun _ _ h => h, fun _ _ h => h⟩
/-- a tuple of the module's own objects, as it stands in K -/
def TupK (K : PySem.W.Frag) (a : Addr) (xs : List V) : Prop := ∃ o its n, K.lookup a = some o ∧ o.cls = .type "tuple" ∧ o.data = .seq its n ∧ its.size ≤ sizeLine ∧ Vals xs its.toList
def D.txt : List D → Bool
  | [] => true
  | .str _ :: ds => D.txt ds
  | _ :: _ => false
mutual
inductive Is (K : PySem.W.Frag) (M : AP) (H : Hp) : V → D → Prop
  | non : Is K M H .non .non
  | bl (b : Bool) : Is K M H (.bl b) (.bl b)
  | int (i : Int) : Is K M H (.int i) (.int i)
  | str (x : Str) : Is K M H (.str x) (.str x)
  | lst {a : Addr} {vs : List V} {ds : List D} : H a = some (.lst vs) → ¬ M a → IsAll K M H vs ds → Is K M H (.ref a) (.lst ds)
  | tup {a : Addr} {vs : List V} {ds : List D} : H a = some (.tup vs) → IsAll K M H vs ds → Is K M H (.ref a) (.tup ds)
  | tup0 {a : Addr} : SqT K H a [] → Is K M H (.ref a) (.tup [])
  | tupK {a : Addr} {vs : List V} {ds : List D} : TupK K a vs → IsAll K M H vs ds → D.txt ds = true → Is K M H (.ref a) (.tup ds)
  | obj {a C dx : Addr} {fs : List (Str × V)} {ds : List (Str × D)} : H a = some (.ins C dx fs) → ¬ M a → IsFs K M H fs ds → Is K M H (.ref a) (.obj C ds)
inductive IsAll (K : PySem.W.Frag) (M : AP) (H : Hp) : List V → List D → Prop
  | nil : IsAll K M H [] []
  | cons {v : V} {vs : List V} {d : D} {ds : List D} : Is K M H v d → IsAll K M H vs ds → IsAll K M H (v :: vs) (d :: ds)
inductive IsFs (K : PySem.W.Frag) (M : AP) (H : Hp) : List (Str × V) → List (Str × D) → Prop
  | nil : IsFs K M H [] []
  | cons {x : Str} {v : V} {vs : List (Str × V)} {d : D} {ds : List (Str × D)} : Is K M H v d → IsFs K M H vs ds → IsFs K M H ((x, v) :: vs) ((x, d) :: ds)
end
section
variable {K : PySem.W.Frag} {M M' : AP} {H H' : Hp}
mutual
theorem Is.chg (k1 : ∀ a o, H a = some o → ¬ M a → H' a = some o ∧ ¬ M' a) (k2 : TK K H H') : ∀ (d : D) (v : V), Is K M H v d → Is K M' H' v d
  | .non, _, h => by cases h; exact .non
  | .bl _, _, h => by cases h; exact .bl _
  | .int _, _, h => by cases h; exact .int _
  | .str _, _, h => by cases h; exact .str _
  | .lst ds, _, h => by
    cases h with
    | lst h1 h2 h3 => exact .lst (k1 _ _ h1 h2).1 (k1 _ _ h1 h2).2 (IsAll.chg k1 k2 ds _ h3)
  | .tup ds, _, h => by
    cases h with
    | tup h1 h3 => exact .tup (k2.t _ _ h1) (IsAll.chg k1 k2 ds _ h3)
    | tup0 h1 => exact .tup0 (k2.s _ _ h1)
    | tupK h1 h3 h4 => exact .tupK h1 (IsAll.chg k1 k2 ds _ h3) h4
  | .obj C ds, _, h => by
    cases h with
    | obj h1 h2 h3 => exact .obj (k1 _ _ h1 h2).1 (k1 _ _ h1 h2).2 (IsFs.chg k1 k2 ds _ h3)
theorem IsAll.chg (k1 : ∀ a o, H a = some o → ¬ M a → H' a = some o ∧ ¬ M' a) (k2 : TK K H H') : ∀ (ds : List D) (vs : List V), IsAll K M H vs ds → IsAll K M' H' vs ds
  | [], _, h => by cases h; exact .nil
  | d :: ds, _, h => by
    cases h with
    | cons h1 h2 => exact .cons (Is.chg k1 k2 d _ h1) (IsAll.chg k1 k2 ds _ h2)
theorem IsFs.chg (k1 : ∀ a o, H a = some o → ¬ M a → H' a = some o ∧ ¬ M' a) (k2 : TK K H H') : ∀ (ds : List (Str × D)) (vs : List (Str × V)), IsFs K M H vs ds → IsFs K M' H' vs ds
  | [], _, h => by cases h; exact .nil
  | (x, d) :: ds, _, h => by
    cases h with
    | cons h1 h2 => exact .cons (Is.chg k1 k2 d _ h1) (IsFs.chg k1 k2 ds _ h2)
end
mutual
theorem Is.dp : ∀ (d : D) (v : V), Is K M H v d → d.plain = true → Dp K H v d.py
  | .non, _, h, _ => by cases h; exact .non
  | .bl _, _, h, _ => by cases h; exact .bl _
  | .int _, _, h, _ => by cases h; exact .int _
  | .str _, _, h, _ => by cases h; exact .str _
  | .lst ds, _, h, p => by
    cases h with
    | lst h1 h2 h3 => exact .lst (.inl (.inl h1)) (IsAll.dp ds _ h3 p)
  | .tup ds, _, h, p => by
    cases h with
    | tup h1 h3 => exact .tup (.inl (.inl h1)) (IsAll.dp ds _ h3 p)
    | tup0 h1 => exact .tup h1 .nil
    | tupK h1 h3 _ => exact .tup (.inr h1) (IsAll.dp ds _ h3 p)
  | .obj C ds, _, h, p => by cases p
theorem IsAll.dp : ∀ (ds : List D) (vs : List V), IsAll K M H vs ds → D.plainAll ds = true → DpAll K H vs (D.pyAll ds)
  | [], _, h, _ => by cases h; exact .nil
  | d :: ds, _, h, p => by
    have p' : (D.plain d && D.plainAll ds) = true := p
    rw [Bool.and_eq_true] at p'
    cases h with
    | cons h1 h2 => exact .cons (Is.dp d _ h1 p'.1) (IsAll.dp ds _ h2 p'.2)
end
theorem IsAll.len : ∀ {ds : List D} {vs : List V}, IsAll K M H vs ds → vs.length = ds.length
  | _, _, .nil => rfl
  | _, _, .cons _ h => congrArg (· + 1) h.len
theorem IsAll.get : ∀ {ds : List D} {vs : List V} {i : Nat} {d : D}, IsAll K M H vs ds → ds[i]? = some d → ∃ v, vs[i]? = some v ∧ Is K M H v d
  | _, _, _, _, .nil, e => by simp at e
  | _, _, 0, _, .cons h _, e => by simp at e; subst e; exact ⟨_, rfl, h⟩
  | _, _, i + 1, _, .cons _ h, e => by
    obtain ⟨v, h1, h2⟩ := IsAll.get (i := i) h (by simpa using e)
    exact ⟨v, by simpa using h1, h2⟩
theorem IsAll.getV {ds : List D} {vs : List V} {i : Nat} {v : V} (h : IsAll K M H vs ds) (e : vs[i]? = some v) : ∃ d, ds[i]? = some d ∧ Is K M H v d := by
  have hi : i < ds.length := by
    have := (List.getElem?_eq_some_iff.mp e).1
    rw [h.len] at this
    exact this
  obtain ⟨w, e1, h1⟩ := h.get (List.getElem?_eq_getElem hi)
  rw [e] at e1
  cases e1
  exact ⟨_, List.getElem?_eq_getElem hi, h1⟩
theorem IsAll.append : ∀ {ds es : List D} {vs ws : List V}, IsAll K M H vs ds → IsAll K M H ws es → IsAll K M H (vs ++ ws) (ds ++ es)
  | _, _, _, _, .nil, s => s
  | _, _, _, _, .cons r t, s => .cons r (IsAll.append t s)
theorem IsAll.take : ∀ {ds : List D} {vs : List V} (n : Nat), IsAll K M H vs ds → IsAll K M H (vs.take n) (ds.take n)
  | _, _, 0, _ => .nil
  | _, _, _ + 1, .nil => .nil
  | _, _, n + 1, .cons r t => .cons r (IsAll.take n t)
theorem IsAll.drop : ∀ {ds : List D} {vs : List V} (n : Nat), IsAll K M H vs ds → IsAll K M H (vs.drop n) (ds.drop n)
  | _, _, 0, r => r
  | _, _, _ + 1, .nil => .nil
  | _, _, n + 1, .cons _ t => IsAll.drop n t
theorem IsAll.set {d : D} {v : V} (r : Is K M H v d) : ∀ {ds : List D} {vs : List V} (i : Nat), IsAll K M H vs ds → IsAll K M H (vs.set i v) (ds.set i d)
  | _, _, _, .nil => .nil
  | _, _, 0, .cons _ t => .cons r t
  | _, _, i + 1, .cons q t => .cons q (IsAll.set r i t)
theorem IsAll.ints : ∀ (ns : List Int), IsAll K M H (ns.map V.int) (ns.map D.int)
  | [] => .nil
  | n :: ns => .cons (.int n) (IsAll.ints ns)
theorem IsAll.ofInts : ∀ {ns : List Int} {vs : List V}, IsAll K M H vs (ns.map D.int) → vs = ns.map V.int
  | [], _, h => by cases h; rfl
  | n :: ns, _, h => by
    cases h with
    | cons h1 h2 =>
      cases h1
      rw [List.map_cons, IsAll.ofInts h2]
theorem IsAll.ofStrs : ∀ {ns : List Str} {vs : List V}, IsAll K M H vs (ns.map D.str) → vs = ns.map V.str
  | [], _, h => by cases h; rfl
  | n :: ns, _, h => by
    cases h with
    | cons h1 h2 =>
      cases h1
      rw [List.map_cons, IsAll.ofStrs h2]
theorem IsAll.ofBls : ∀ {ns : List Bool} {vs : List V}, IsAll K M H vs (ns.map D.bl) → vs = ns.map V.bl
  | [], _, h => by cases h; rfl
  | n :: ns, _, h => by
    cases h with
    | cons h1 h2 =>
      cases h1
      rw [List.map_cons, IsAll.ofBls h2]
theorem IsFs.look {f : Str} : ∀ {ds : List (Str × D)} {vs : List (Str × V)} {d : D}, IsFs K M H vs ds → ds.lookup f = some d → ∃ v, vs.lookup f = some v ∧ Is K M H v d
  | _, _, _, .nil, e => by simp at e
  | _, _, _, .cons (x := x) h t, e => by
    rw [List.lookup_cons] at e
    rw [List.lookup_cons]
    cases hx : (f == x) with
    | true =>
      rw [hx] at e
      cases e
      exact ⟨_, rfl, h⟩
    | false =>
      rw [hx] at e
      exact IsFs.look t e
theorem IsFs.lookN {f : Str} : ∀ {ds : List (Str × D)} {vs : List (Str × V)}, IsFs K M H vs ds → ds.lookup f = none → vs.lookup f = none
  | _, _, .nil, e => rfl
  | _, _, .cons (x := x) h t, e => by
    rw [List.lookup_cons] at e
    rw [List.lookup_cons]
    cases hx : (f == x) with
    | true =>
      rw [hx] at e
      cases e
    | false =>
      rw [hx] at e
      exact IsFs.lookN t e
end

/-! ### bags, what is kept -/
def BagAt (H : Hp) (a : Addr) : Prop := ∃ g m : Int, H a = some (.lst [.int g, .int m])
structure Kp (L : AP) (H H' : Hp) : Prop where
  k : ∀ a o, ¬ L a → H a = some o → H' a = some o
  b : ∀ a, L a → BagAt H' a
structure Bs (L M : AP) (H : Hp) : Prop where
  lm : ∀ a, L a → M a
  tr : ∀ a o, M a → H a = some o → MutO o
  tk : ∀ a, M a → ∃ o, H a = some o
  bag : ∀ a, L a → BagAt H a
theorem sqt_keep {K : PySem.W.Frag} {M : AP} {H H' : Hp} (k : ∀ a o, ¬ M a → H a = some o → H' a = some o) (tr : ∀ a o, M a → H a = some o → MutO o) : TK K H H' := by
  have kt : ∀ a vs, H a = some (.tup vs) → H' a = some (.tup vs) := fun a vs h => k a _ (fun m => tr a _ m h) h
  refine ⟨kt, fun a vs h => ?_⟩
  rcases h with (h | ⟨o, h⟩) | h
  · exact .inl (.inl (kt a vs h))
  · exact .inl (.inr ⟨o, k a _ (fun m => tr a _ m h) h⟩)
  · exact .inr h
/-- a tuple as it is read -/
theorem Is.tupS {K : PySem.W.Frag} {M : AP} {H : Hp} {v : V} {ds : List D} (h : Is K M H v (.tup ds)) : ∃ a vs, v = .ref a ∧ SqT K H a vs ∧ IsAll K M H vs ds := by
  cases h with
  | tup h1 h2 => exact ⟨_, _, rfl, .inl (.inl h1), h2⟩
  | tup0 h1 => exact ⟨_, _, rfl, h1, .nil⟩
  | tupK h1 h2 _ => exact ⟨_, _, rfl, .inr h1, h2⟩
section
variable {K : PySem.W.Frag} {L M M' : AP} {H H1 H2 H' : Hp}
theorem Kp.refl (bs : Bs L M H) : Kp L H H := ⟨fun _ _ _ h => h, bs.bag⟩
theorem Kp.trans (a : Kp L H H1) (b : Kp L H1 H2) : Kp L H H2 := ⟨fun x o l h => b.k x o l (a.k x o l h), b.b⟩
theorem Kp.bs (k : Kp L H H') (bs : Bs L M H) : Bs L M H' where
  lm := bs.lm
  tr := fun a o m e => by
    by_cases l : L a
    · obtain ⟨g, m', q⟩ := k.b a l
      rw [q] at e; cases e; exact True.intro
    · obtain ⟨o', q⟩ := bs.tk a m
      have q' := k.k a o' l q
      rw [q'] at e; cases e; exact bs.tr a _ m q
  tk := fun a m => by
    by_cases l : L a
    · obtain ⟨g, m', q⟩ := k.b a l
      exact ⟨_, q⟩
    · obtain ⟨o', q⟩ := bs.tk a m
      exact ⟨_, k.k a o' l q⟩
  bag := k.b
theorem Kp.was (k : Kp L H H') {a : Addr} (h : H' a = none) : H a = none := by
  cases q : H a with
  | none => rfl
  | some o =>
    by_cases l : L a
    · obtain ⟨g, m', e⟩ := k.b a l
      rw [h] at e; cases e
    · rw [k.k a o l q] at h; cases h
theorem Kp.new (bs : Bs L M H) {p : Addr} {o : HO} (h : H p = none) : Kp L H (upd H p o) := ⟨fun a u _ e => by
    rw [upd_ne (ne_of_none e h)]; exact e, fun a l => by
    obtain ⟨g, m, e⟩ := bs.bag a l
    exact ⟨g, m, by rw [upd_ne (ne_of_none e h)]; exact e⟩⟩
theorem Is.kp (k : Kp L H H') (bs : Bs L M H) {d : D} {v : V} (h : Is K M H v d) : Is K M H' v d :=
  Is.chg (fun a o e m => ⟨k.k a o (fun l => m (bs.lm a l)) e, m⟩) (sqt_keep (M := M) (fun a o m e => k.k a o (fun l => m (bs.lm a l)) e) bs.tr) d v h
theorem IsAll.kp (k : Kp L H H') (bs : Bs L M H) {d : List D} {v : List V} (h : IsAll K M H v d) : IsAll K M H' v d :=
  IsAll.chg (fun a o e m => ⟨k.k a o (fun l => m (bs.lm a l)) e, m⟩) (sqt_keep (M := M) (fun a o m e => k.k a o (fun l => m (bs.lm a l)) e) bs.tr) d v h
/-- other mutable ones, the heap as it is -/
theorem Is.sub (h : ∀ a, M' a → M a) {d : D} {v : V} (x : Is K M H v d) : Is K M' H v d := Is.chg (fun a o e m => ⟨e, fun q => m (h a q)⟩) (TK.refl K H) d v x
theorem IsAll.sub (h : ∀ a, M' a → M a) {d : List D} {v : List V} (x : IsAll K M H v d) : IsAll K M' H v d := IsAll.chg (fun a o e m => ⟨e, fun q => m (h a q)⟩) (TK.refl K H) d v x
theorem Is.add {a : Addr} (h : H a = none) {d : D} {v : V} (x : Is K M H v d) : Is K (M.add a) H v d := Is.chg (fun b o e m => ⟨e, fun q => q.elim m fun z => by subst z; rw [h] at e; cases e⟩) (TK.refl K H) d v x
theorem IsAll.add {a : Addr} (h : H a = none) {d : List D} {v : List V} (x : IsAll K M H v d) : IsAll K (M.add a) H v d := IsAll.chg (fun b o e m => ⟨e, fun q => q.elim m fun z => by subst z; rw [h] at e; cases e⟩) (TK.refl K H) d v x
theorem AP.sub_add {a : Addr} : ∀ b, M b → (M.add a) b := fun _ h => .inl h
theorem Bs.add (bs : Bs L M H) {a : Addr} {xs : List V} (h : H a = some (.lst xs)) : Bs L (M.add a) H where
  lm := fun b l => .inl (bs.lm b l)
  tr := fun b o m e => m.elim (fun z => bs.tr b o z e) fun z => by subst z; rw [h] at e; cases e; exact True.intro
  tk := fun b m => m.elim (fun z => bs.tk b z) fun z => by subst z; exact ⟨_, h⟩
  bag := bs.bag
end

/-! ### what a name holds -/
inductive SV where
  | d (x : D) | own (xs : List D) | new (xs : List D) | bag | scr (ns : List Int) | rng (lo hi : Int) | ty (n : String) | cls (C : Addr) | dic (kvs : List (Str × Str))
/-- the script: locked, or one of the module's lists -/
def Scr (K : PySem.W.Frag) (H : Hp) (a : Addr) (ns : List Int) : Prop := (∃ o, H a = some (.frz o (.lst (ns.map V.int)))) ∨ SqL K (fun _ => none) a (ns.map V.int)
theorem Scr.sql {K : PySem.W.Frag} {H : Hp} {a : Addr} {ns : List Int} (h : Scr K H a ns) : SqL K H a (ns.map V.int) := by
  rcases h with ⟨o, h⟩ | (h | ⟨o, h⟩) | h
  · exact .inl (.inr ⟨o, h⟩)
  · cases h
  · cases h
  · exact .inr h
theorem Scr.keep {K : PySem.W.Frag} {H H' : Hp} {a : Addr} {ns : List Int} (k : ∀ b o u, H b = some (.frz o u) → H' b = some (.frz o u)) (h : Scr K H a ns) : Scr K H' a ns := by
  rcases h with ⟨o, h⟩ | h
  · exact .inl ⟨o, k _ _ _ h⟩
  · exact .inr h
def dicV (kvs : List (Str × Str)) : List (Key × V) := kvs.map fun kv => (Sum.inr kv.1, V.str kv.2)
def SvOk (K : PySem.W.Frag) (N M L : AP) (H0 H : Hp) (v : V) : SV → Prop
  | .d x => Is K M H v x
  | .own xs => ∃ a vs, v = .ref a ∧ M a ∧ N a ∧ ¬ L a ∧ H a = some (.lst vs) ∧ IsAll K M H vs xs
  | .new xs => ∃ a vs, v = .ref a ∧ H0 a = none ∧ H a = some (.lst vs) ∧ IsAll K (M.add a) H vs xs
  | .bag => ∃ a, v = .ref a ∧ L a
  | .scr ns => ∃ a, v = .ref a ∧ Scr K H a ns
  | .rng lo hi => ∃ a, v = .ref a ∧ H a = some (.rng lo hi)
  | .dic kvs => ∃ a, v = .ref a ∧ H a = some (.dK (dicV kvs))
  | .ty n => v = .ty n
  | .cls C => v = .ref C
/-- a list or a tuple that a loop goes over -/
structure Pin where
  a : Addr
  vs : List V
  ds : List D
  tup : Bool
def PinOk (K : PySem.W.Frag) (M : AP) (H : Hp) (p : Pin) : Prop := (if p.tup = true then SqT K H p.a p.vs else H p.a = some (.lst p.vs) ∧ ¬ M p.a) ∧ IsAll K M H p.vs p.ds
theorem PinOk.chg {K : PySem.W.Frag} {M M' : AP} {H H' : Hp} (k1 : ∀ a o, H a = some o → ¬ M a → H' a = some o ∧ ¬ M' a) (k2 : TK K H H') {p : Pin} (h : PinOk K M H p) : PinOk K M' H' p := by
  refine ⟨?_, IsAll.chg k1 k2 _ _ h.2⟩
  have h1 := h.1
  by_cases t : p.tup = true
  · rw [if_pos t] at h1 ⊢
    exact k2.s _ _ h1
  · rw [if_neg t] at h1 ⊢
    exact k1 _ _ h1.1 h1.2
abbrev Env' := List (Option SV)
structure Sts (K : PySem.W.Frag) (P : List Pin) (N M L : AP) (σ : L2.St) (H : Hp) (es : Env') : Prop where
  bs : Bs L M H
  len : σ.length = es.length
  ok : ∀ (i : Nat) (s : SV), es[i]? = some (some s) → ∃ v, σ[i]? = some (some v) ∧ SvOk K N M L H H v s
  pin : ∀ p ∈ P, PinOk K M H p
  sep : ∀ (i j : Nat) (a : Addr) (xs ys : List D), i ≠ j → es[i]? = some (some (.own xs)) → es[j]? = some (some (.own ys)) → σ[i]? = some (some (.ref a)) → σ[j]? ≠ some (some (.ref a))
section
variable {K : PySem.W.Frag} {N L M M' : AP} {H0 H H1 H2 H' : Hp}
theorem frz_keep (k : Kp L H H') (bs : Bs L M H) : ∀ b o u, H b = some (.frz o u) → H' b = some (.frz o u) := fun b o u e => k.k b _ (fun l => bs.tr b _ (bs.lm b l) e) e
theorem SvOk.kp (bs0 : Bs L M H0) (k0 : Kp L H0 H) (k : Kp L H H') {v : V} {s : SV} (h : SvOk K N M L H0 H v s) : SvOk K N M L H0 H' v s := by
  have bs := k0.bs bs0
  cases s with
  | d x => exact Is.kp k bs h
  | own xs =>
    obtain ⟨a, vs, e, m, n, l, h1, h2⟩ := h
    exact ⟨a, vs, e, m, n, l, k.k _ _ l h1, IsAll.kp k bs h2⟩
  | new xs =>
    obtain ⟨a, vs, e, n, h1, h2⟩ := h
    have l : ¬ L a := fun l => by
      obtain ⟨g, m, q⟩ := bs0.bag a l
      rw [n] at q; cases q
    exact ⟨a, vs, e, n, k.k _ _ l h1, IsAll.kp k (bs.add h1) h2⟩
  | bag => exact h
  | scr ns =>
    obtain ⟨a, e, h1⟩ := h
    exact ⟨a, e, h1.keep (frz_keep k bs)⟩
  | rng lo hi =>
    obtain ⟨a, e, h1⟩ := h
    exact ⟨a, e, k.k _ _ (fun l => by obtain ⟨g, m, q⟩ := bs.bag a l; rw [h1] at q; cases q) h1⟩
  | dic kvs =>
    obtain ⟨a, e, h1⟩ := h
    exact ⟨a, e, k.k _ _ (fun l => by obtain ⟨g, m, q⟩ := bs.bag a l; rw [h1] at q; cases q) h1⟩
  | ty n => exact h
  | cls C => exact h
/-- a base farther back -/
theorem SvOk.back (k0 : Kp L H0 H1) {v : V} {s : SV} (h : SvOk K N M L H1 H v s) : SvOk K N M L H0 H v s := by
  cases s with
  | new xs =>
    obtain ⟨a, vs, e, n, h1, h2⟩ := h
    exact ⟨a, vs, e, k0.was n, h1, h2⟩
  | _ => exact h
theorem Sts.kp (S : Sts K P N M L σ H es) (k : Kp L H H') : Sts K P N M L σ H' es where
  bs := k.bs S.bs
  len := S.len
  ok := fun i s e => by
    obtain ⟨v, h1, h2⟩ := S.ok i s e
    refine ⟨v, h1, ?_⟩
    have := SvOk.kp S.bs (Kp.refl S.bs) k h2
    cases s with
    | new xs =>
      obtain ⟨a, vs, e, n, h1, h2⟩ := h2
      rw [n] at h1; cases h1
    | _ => exact this
  pin := fun p hp => PinOk.chg (fun a o e m => ⟨k.k a o (fun l => m (S.bs.lm a l)) e, m⟩) (sqt_keep (M := M) (fun a o m e => k.k a o (fun l => m (S.bs.lm a l)) e) S.bs.tr) (S.pin p hp)
  sep := S.sep
end

/-! ### the judgements over data -/
def DE (K : PySem.W.Frag) (te : TE) (es : Env') (Q : SV → Prop) : Prop :=
  ∀ P N M L σ H, Sts K P N M L σ H es → ∀ R : VK, (∀ s v H', Kp L H H' → SvOk K N M L H H' v s → Q s → R v H') → te σ H R
def DT (K : PySem.W.Frag) (tt : TT) (es : Env') (Q : Bool → Prop) : Prop :=
  ∀ P N M L σ H, Sts K P N M L σ H es → ∀ R : Bool → Hp → Prop, (∀ b H', Kp L H H' → Q b → R b H') → tt σ H R
inductive SvAll (K : PySem.W.Frag) (N M L : AP) (H0 H : Hp) : List V → List SV → Prop
  | nil : SvAll K N M L H0 H [] []
  | cons {v : V} {s : SV} {vs : List V} {ss : List SV} : SvOk K N M L H0 H v s → SvAll K N M L H0 H vs ss → SvAll K N M L H0 H (v :: vs) (s :: ss)
def DA (K : PySem.W.Frag) (ta : TA) (es : Env') (Q : List SV → Prop) : Prop :=
  ∀ P N M L σ H, Sts K P N M L σ H es → ∀ R : List V → Hp → Prop, (∀ ss vs H', Kp L H H' → SvAll K N M L H H' vs ss → Q ss → R vs H') → ta σ H R
/-- operators, calls by values -/
def RR (K : PySem.W.Frag) (r : R2) (s1 s2 : SV) (Q : SV → Prop) : Prop :=
  ∀ N M L H0 H v1 v2, Bs L M H0 → Kp L H0 H → SvOk K N M L H0 H v1 s1 → SvOk K N M L H0 H v2 s2 → ∀ R : VK, (∀ s v H', Kp L H H' → SvOk K N M L H0 H' v s → Q s → R v H') → r v1 v2 H R
def RU (K : PySem.W.Frag) (r : V → Hp → VK → Prop) (s1 : SV) (Q : SV → Prop) : Prop :=
  ∀ N M L H0 H v1, Bs L M H0 → Kp L H0 H → SvOk K N M L H0 H v1 s1 → ∀ R : VK, (∀ s v H', Kp L H H' → SvOk K N M L H0 H' v s → Q s → R v H') → r v1 H R
def RC (K : PySem.W.Frag) (r : List V → Hp → VK → Prop) (ss : List SV) (Q : SV → Prop) : Prop :=
  ∀ N M L H0 H vs, Bs L M H0 → Kp L H0 H → SvAll K N M L H0 H vs ss → ∀ R : VK, (∀ s v H', Kp L H H' → SvOk K N M L H0 H' v s → Q s → R v H') → r vs H R
section
variable {K : PySem.W.Frag} {N L M : AP} {H0 H1 H H' : Hp} {σ : L2.St} {es : Env'} {ta tb tc te : TE} {tt tu : TT} {Q : SV → Prop}
theorem SvAll.kp (bs0 : Bs L M H0) (k0 : Kp L H0 H) (k : Kp L H H') : ∀ {vs : List V} {ss : List SV}, SvAll K N M L H0 H vs ss → SvAll K N M L H0 H' vs ss
  | _, _, .nil => .nil
  | _, _, .cons h t => .cons (h.kp bs0 k0 k) (SvAll.kp bs0 k0 k t)
theorem SvAll.back (k0 : Kp L H0 H1) : ∀ {vs : List V} {ss : List SV}, SvAll K N M L H1 H vs ss → SvAll K N M L H0 H vs ss
  | _, _, .nil => .nil
  | _, _, .cons h t => .cons (h.back k0) (SvAll.back k0 t)
theorem DE.mono {Q' : SV → Prop} (h : DE K te es Q) (q : ∀ s, Q s → Q' s) : DE K te es Q' := fun P N M L σ H S R r => h P N M L σ H S R fun s v H' k o z => r s v H' k o (q s z)
theorem DT.mono {Q Q' : Bool → Prop} (h : DT K tt es Q) (q : ∀ s, Q s → Q' s) : DT K tt es Q' := fun P N M L σ H S R r => h P N M L σ H S R fun s H' k z => r s H' k (q s z)
theorem de_var {i : Nat} {s : SV} (e : es[i]? = some (some s)) (q : Q s) : DE K (tVar i) es Q := fun P N M L σ H S R r => by
  obtain ⟨v, h1, h2⟩ := S.ok i s e
  exact ⟨v, h1, r s v H (Kp.refl S.bs) h2 q⟩
theorem de_int {i : Int} (q : Q (.d (.int i))) : DE K (tC (.int i)) es Q := fun P N M L σ H S R r => r (.d (.int i)) _ H (Kp.refl S.bs) (Is.int i) q
theorem de_bl {i : Bool} (q : Q (.d (.bl i))) : DE K (tC (.bl i)) es Q := fun P N M L σ H S R r => r (.d (.bl i)) _ H (Kp.refl S.bs) (Is.bl i) q
theorem de_str {i : Str} (q : Q (.d (.str i))) : DE K (tC (.str i)) es Q := fun P N M L σ H S R r => r (.d (.str i)) _ H (Kp.refl S.bs) (Is.str i) q
theorem de_non (q : Q (.d .non)) : DE K (tC .non) es Q := fun P N M L σ H S R r => r (.d .non) _ H (Kp.refl S.bs) Is.non q
theorem de_op {r : R2} (h : DE K ta es fun x => DE K tb es fun y => RR K r x y Q) : DE K (tOp r ta tb) es Q := fun P N M L σ H S R k => by
  refine h P N M L σ H S _ fun x v1 H1 k1 o1 q1 => ?_
  refine q1 P N M L σ H1 (S.kp k1) _ fun y v2 H2 k2 o2 q2 => ?_
  exact q2 N M L H H2 v1 v2 S.bs (k1.trans k2) (o1.kp S.bs k1 k2) (o2.back k1) R fun s v H' k3 o3 q3 => k s v H' ((k1.trans k2).trans k3) o3 q3
theorem de_un {r : V → Hp → VK → Prop} (h : DE K ta es fun x => RU K r x Q) : DE K (tUn r ta) es Q := fun P N M L σ H S R k => by
  refine h P N M L σ H S _ fun x v1 H1 k1 o1 q1 => ?_
  exact q1 N M L H H1 v1 S.bs k1 o1 R fun s v H' k3 o3 q3 => k s v H' (k1.trans k3) o3 q3
theorem de_chain {r r' : R2} (h : DE K ta es fun x => DE K tb es fun y => RR K r x y fun z => ∃ k, z = .d (.bl k) ∧ if k = true then DE K tc es fun w => RR K r' y w Q else Q (.d (.bl false))) : DE K (tChain r r' ta tb tc) es Q := fun P N M L σ H S R k => by
  refine h P N M L σ H S _ fun x v1 H1 k1 o1 q1 => ?_
  refine q1 P N M L σ H1 (S.kp k1) _ fun y v2 H2 k2 o2 q2 => ?_
  refine q2 N M L H H2 v1 v2 S.bs (k1.trans k2) (o1.kp S.bs k1 k2) (o2.back k1) _ fun s v H3 k3 o3 q3 => ?_
  obtain ⟨b, rfl, q4⟩ := q3
  cases o3
  refine ⟨b, rfl, ?_⟩
  have k13 := (k1.trans k2).trans k3
  cases b with
  | true =>
    rw [if_pos rfl] at q4 ⊢
    refine q4 P N M L σ H3 (S.kp k13) _ fun w v4 H4 k4 o4 q5 => ?_
    exact q5 N M L H H4 v2 v4 S.bs (k13.trans k4) ((o2.back k1).kp S.bs (k1.trans k2) (k3.trans k4)) (o4.back k13) R fun s v H' k6 o6 q6 => k s v H' ((k13.trans k4).trans k6) o6 q6
  | false =>
    rw [if_neg Bool.false_ne_true] at q4 ⊢
    exact k (.d (.bl false)) _ H3 k13 (Is.bl false) q4
theorem dt_test {Q : Bool → Prop} (h : DE K te es fun s => ∃ b, s = .d (.bl b) ∧ Q b) : DT K (tTest te) es Q := fun P N M L σ H S R k => by
  refine h P N M L σ H S _ fun x v1 H1 k1 o1 q1 => ?_
  obtain ⟨b, rfl, q⟩ := q1
  cases o1
  exact ⟨b, rfl, k b H1 k1 q⟩
theorem dt_B {Q : Bool → Prop} (h : DE K te es fun s => ∃ b, s = .d (.bl b) ∧ Q b) : DT K (tB te) es Q := dt_test h
theorem dt_not {Q : Bool → Prop} (h : DT K tt es fun b => Q (!b)) : DT K (tNot tt) es Q := fun P N M L σ H S R k => h P N M L σ H S _ fun b H1 k1 q => k _ H1 k1 q
theorem dt_and {Q : Bool → Prop} (h : DT K tt es fun b => if b = true then DT K tu es Q else Q false) : DT K (tAnd tt tu) es Q := fun P N M L σ H S R k => by
  refine h P N M L σ H S _ fun b H1 k1 q => ?_
  cases b with
  | true =>
    rw [if_pos rfl] at q ⊢
    exact q P N M L σ H1 (S.kp k1) R fun b H2 k2 q2 => k b H2 (k1.trans k2) q2
  | false =>
    rw [if_neg Bool.false_ne_true] at q ⊢
    exact k _ H1 k1 q
theorem dt_or {Q : Bool → Prop} (h : DT K tt es fun b => if b = true then Q true else DT K tu es Q) : DT K (tOr tt tu) es Q := fun P N M L σ H S R k => by
  refine h P N M L σ H S _ fun b H1 k1 q => ?_
  cases b with
  | false =>
    rw [if_neg Bool.false_ne_true] at q ⊢
    exact q P N M L σ H1 (S.kp k1) R fun b H2 k2 q2 => k b H2 (k1.trans k2) q2
  | true =>
    rw [if_pos rfl] at q ⊢
    exact k _ H1 k1 q
theorem de_andV (h : DE K ta es fun s => ∃ b, s = .d (.bl b) ∧ if b = true then DE K tb es Q else Q (.d (.bl false))) : DE K (tAndV ta tb) es Q := fun P N M L σ H S R k => by
  refine h P N M L σ H S _ fun x v1 H1 k1 o1 q1 => ?_
  obtain ⟨b, rfl, q⟩ := q1
  cases o1
  refine ⟨b, rfl, ?_⟩
  cases b with
  | true =>
    rw [if_pos rfl] at q ⊢
    exact q P N M L σ H1 (S.kp k1) R fun s v H2 k2 o2 q2 => k s v H2 (k1.trans k2) (o2.back k1) q2
  | false =>
    rw [if_neg Bool.false_ne_true] at q ⊢
    exact k (.d (.bl false)) _ H1 k1 (Is.bl false) q
theorem de_orV (h : DE K ta es fun s => ∃ b, s = .d (.bl b) ∧ if b = true then Q (.d (.bl true)) else DE K tb es Q) : DE K (tOrV ta tb) es Q := fun P N M L σ H S R k => by
  refine h P N M L σ H S _ fun x v1 H1 k1 o1 q1 => ?_
  obtain ⟨b, rfl, q⟩ := q1
  cases o1
  refine ⟨b, rfl, ?_⟩
  cases b with
  | false =>
    rw [if_neg Bool.false_ne_true] at q ⊢
    exact q P N M L σ H1 (S.kp k1) R fun s v H2 k2 o2 q2 => k s v H2 (k1.trans k2) (o2.back k1) q2
  | true =>
    rw [if_pos rfl] at q ⊢
    exact k (.d (.bl true)) _ H1 k1 (Is.bl true) q
theorem de_notV (h : DE K ta es fun s => ∃ b, s = .d (.bl b) ∧ Q (.d (.bl (!b)))) : DE K (tNotV ta) es Q := fun P N M L σ H S R k => by
  refine h P N M L σ H S _ fun x v1 H1 k1 o1 q1 => ?_
  obtain ⟨b, rfl, q⟩ := q1
  cases o1
  exact ⟨b, rfl, k (.d (.bl (!b))) _ H1 k1 (Is.bl _) q⟩
theorem de_if (h : DT K tt es fun b => if b = true then DE K ta es Q else DE K tb es Q) : DE K (tIf tt ta tb) es Q := fun P N M L σ H S R k => by
  refine h P N M L σ H S _ fun b H1 k1 q => ?_
  cases b with
  | true =>
    rw [if_pos rfl] at q ⊢
    exact q P N M L σ H1 (S.kp k1) R fun s v H2 k2 o2 q2 => k s v H2 (k1.trans k2) (o2.back k1) q2
  | false =>
    rw [if_neg Bool.false_ne_true] at q ⊢
    exact q P N M L σ H1 (S.kp k1) R fun s v H2 k2 o2 q2 => k s v H2 (k1.trans k2) (o2.back k1) q2
theorem da_nil {Q : List SV → Prop} (q : Q []) : DA K tNil es Q := fun P N M L σ H S R k => k _ _ H (Kp.refl S.bs) .nil q
theorem da_cons {Q : List SV → Prop} {tr : TA} (h : DE K ta es fun s => DA K tr es fun ss => Q (s :: ss)) : DA K (tCons ta tr) es Q := fun P N M L σ H S R k => by
  refine h P N M L σ H S _ fun x v1 H1 k1 o1 q1 => ?_
  refine q1 P N M L σ H1 (S.kp k1) _ fun ss vs H2 k2 o2 q2 => ?_
  exact k _ _ H2 (k1.trans k2) (.cons (o1.kp S.bs k1 k2) (o2.back k1)) q2
end
end DL

namespace DL
open PySem PySem.Spec PyProof.Rows L2

def SV.rd : SV → Option D
  | .d x => some x
  | .own xs => some (.lst xs)
  | .new xs => some (.lst xs)
  | .scr ns => some (.lst (ns.map D.int))
  | _ => none
def SV.dat : SV → Option D
  | .d x => some x
  | .new xs => some (.lst xs)
  | _ => none
section
variable {K : PySem.W.Frag} {N L M : AP} {H0 H1 H H' : Hp} {σ : L2.St} {es : Env'} {ta tb tc te : TE} {tt tu : TT} {Q : SV → Prop}
/-- how a thing that is read stands -/
theorem fresh_nm (bs0 : Bs L M H0) {a : Addr} (n : H0 a = none) : ¬ M a := fun m => by
  obtain ⟨o, e⟩ := bs0.tk a m
  rw [n] at e; cases e
theorem SvOk.data (bs0 : Bs L M H0) {v : V} {s : SV} {x : D} (h : SvOk K N M L H0 H v s) (e : s.dat = some x) : Is K M H v x := by
  cases s with
  | d y => cases e; exact h
  | new ys =>
    cases e
    obtain ⟨a, vs, rfl, n, h1, h2⟩ := h
    exact .lst h1 (fresh_nm bs0 n) (h2.sub AP.sub_add)
  | _ => cases e
/-- a list that is read: its items -/
theorem SvOk.list (bs0 : Bs L M H0) {v : V} {s : SV} {xs : List D} (h : SvOk K N M L H0 H v s) (e : s.rd = some (.lst xs)) : ∃ a vs, v = .ref a ∧ SqL K H a vs ∧ IsAll K M H vs xs := by
  cases s with
  | d y =>
    cases e
    cases h with
    | lst h1 h2 h3 => exact ⟨_, _, rfl, .inl (.inl h1), h3⟩
  | own ys =>
    cases e
    obtain ⟨a, vs, rfl, m, n, l, h1, h2⟩ := h
    exact ⟨a, vs, rfl, .inl (.inl h1), h2⟩
  | new ys =>
    cases e
    obtain ⟨a, vs, rfl, n, h1, h2⟩ := h
    exact ⟨a, vs, rfl, .inl (.inl h1), h2.sub AP.sub_add⟩
  | scr ns =>
    cases e
    obtain ⟨a, rfl, h1⟩ := h
    exact ⟨a, _, rfl, h1.sql, IsAll.ints ns⟩
  | _ => cases e
theorem SvOk.lst (bs0 : Bs L M H0) {v : V} {s : SV} {xs : List D} (h : SvOk K N M L H0 H v s) (e : s.rd = some (.lst xs)) (ns : ∀ n, s ≠ .scr n) : ∃ a vs, v = .ref a ∧ H a = some (.lst vs) ∧ IsAll K M H vs xs := by
  cases s with
  | d y =>
    cases e
    cases h with
    | lst h1 h2 h3 => exact ⟨_, _, rfl, h1, h3⟩
  | own ys =>
    cases e
    obtain ⟨a, vs, rfl, m, n, l, h1, h2⟩ := h
    exact ⟨a, vs, rfl, h1, h2⟩
  | new ys =>
    cases e
    obtain ⟨a, vs, rfl, n, h1, h2⟩ := h
    exact ⟨a, vs, rfl, h1, h2.sub AP.sub_add⟩
  | scr n => exact absurd rfl (ns n)
  | _ => cases e
theorem SvOk.dp (bs0 : Bs L M H0) {v : V} {s : SV} {x : D} (h : SvOk K N M L H0 H v s) (e : s.rd = some x) (p : x.plain = true) : Dp K H v x.py := by
  cases s with
  | d y => cases e; exact Is.dp _ _ h p
  | own ys =>
    cases e
    obtain ⟨a, vs, rfl, h1, h2⟩ := SvOk.list bs0 h rfl
    exact .lst h1 (IsAll.dp _ _ h2 p)
  | new ys =>
    cases e
    obtain ⟨a, vs, rfl, h1, h2⟩ := SvOk.list bs0 h rfl
    exact .lst h1 (IsAll.dp _ _ h2 p)
  | scr ns =>
    cases e
    obtain ⟨a, vs, rfl, h1, h2⟩ := SvOk.list bs0 h rfl
    exact .lst h1 (IsAll.dp _ _ h2 p)
  | _ => cases e

/-! ### operators -/
theorem rr_i {g : Int → Int → Int} {i j : Int} (q : Q (.d (.int (g i j)))) : RR K (rI0 fun i j => .int (g i j)) (.d (.int i)) (.d (.int j)) Q := fun N M L H0 H v1 v2 b k o1 o2 R r => by
  cases o1
  cases o2
  exact ⟨i, j, rfl, rfl, r (.d (.int (g i j))) _ H (Kp.refl (k.bs b)) (Is.int _) q⟩
theorem rr_b {g : Int → Int → Bool} {i j : Int} (q : Q (.d (.bl (g i j)))) : RR K (rI0 fun i j => .bl (g i j)) (.d (.int i)) (.d (.int j)) Q := fun N M L H0 H v1 v2 b k o1 o2 R r => by
  cases o1
  cases o2
  exact ⟨i, j, rfl, rfl, r (.d (.bl (g i j))) _ H (Kp.refl (k.bs b)) (Is.bl _) q⟩
theorem rr_ic {C : Int → Int → Prop} {g : Int → Int → Int} {i j : Int} (c : C i j) (q : Q (.d (.int (g i j)))) : RR K (rI C fun i j => .int (g i j)) (.d (.int i)) (.d (.int j)) Q := fun N M L H0 H v1 v2 b k o1 o2 R r => by
  cases o1
  cases o2
  exact ⟨i, j, rfl, rfl, c, r (.d (.int (g i j))) _ H (Kp.refl (k.bs b)) (Is.int _) q⟩
theorem ru_neg {i : Int} (q : Q (.d (.int (-i)))) : RU K (L2.rU fun i => .int (-i)) (.d (.int i)) Q := fun N M L H0 H v1 b k o1 R r => by
  cases o1
  exact ⟨i, rfl, r (.d (.int (-i))) _ H (Kp.refl (k.bs b)) (Is.int _) q⟩
theorem rr_or1 {r r' : R2} {s1 s2 : SV} (h : RR K r s1 s2 Q) : RR K (fun x y H Q => r x y H Q ∨ r' x y H Q) s1 s2 Q := fun N M L H0 H v1 v2 b k o1 o2 R q => .inl (h N M L H0 H v1 v2 b k o1 o2 R q)
theorem rr_or2 {r r' : R2} {s1 s2 : SV} (h : RR K r' s1 s2 Q) : RR K (fun x y H Q => r x y H Q ∨ r' x y H Q) s1 s2 Q := fun N M L H0 H v1 v2 b k o1 o2 R q => .inr (h N M L H0 H v1 v2 b k o1 o2 R q)
theorem rr_addS {x y : Str} (z : x.length + y.length ≤ sizeLine) (q : Q (.d (.str (x ++ y)))) : RR K (fun x y H Q => ∃ i j, x = .str i ∧ y = .str j ∧ i.length + j.length ≤ sizeLine ∧ Q (.str (i ++ j)) H) (.d (.str x)) (.d (.str y)) Q := fun N M L H0 H v1 v2 b k o1 o2 R r => by
  cases o1
  cases o2
  exact ⟨x, y, rfl, rfl, z, r (.d (.str (x ++ y))) _ H (Kp.refl (k.bs b)) (Is.str _) q⟩
theorem rr_leS {x y : Str} (q : Q (.d (.bl (!decide (y.cps.toList < x.cps.toList))))) : RR K (fun x y H Q => ∃ i j, x = .str i ∧ y = .str j ∧ Q (.bl (!decide (j.cps.toList < i.cps.toList))) H) (.d (.str x)) (.d (.str y)) Q := fun N M L H0 H v1 v2 b k o1 o2 R r => by
  cases o1
  cases o2
  exact ⟨x, y, rfl, rfl, r (.d (.bl _)) _ H (Kp.refl (k.bs b)) (Is.bl _) q⟩
theorem rr_eq {s1 s2 : SV} {x y : D} (e1 : s1.rd = some x) (e2 : s2.rd = some y) (p1 : x.plain = true) (p2 : y.plain = true) (z1 : SeqAt.shaped x.py = true) (z2 : SeqAt.shaped y.py = true) (q : Q (.d (.bl (PyData.eqv x.py y.py)))) : RR K (rEqD K) s1 s2 Q := fun N M L H0 H v1 v2 b k o1 o2 R r =>
  ⟨x.py, y.py, o1.dp b e1 p1, o2.dp b e2 p2, z1, z2, r (.d (.bl _)) _ H (Kp.refl (k.bs b)) (Is.bl _) q⟩
theorem rr_ne {s1 s2 : SV} {x y : D} (e1 : s1.rd = some x) (e2 : s2.rd = some y) (p1 : x.plain = true) (p2 : y.plain = true) (z1 : SeqAt.shaped x.py = true) (z2 : SeqAt.shaped y.py = true) (q : Q (.d (.bl (!PyData.eqv x.py y.py)))) : RR K (rNeD K) s1 s2 Q := fun N M L H0 H v1 v2 b k o1 o2 R r =>
  ⟨x.py, y.py, o1.dp b e1 p1, o2.dp b e2 p2, z1, z2, r (.d (.bl _)) _ H (Kp.refl (k.bs b)) (Is.bl _) q⟩
theorem rr_isB {a b : Bool} (q : Q (.d (.bl (decide (a = b))))) : RR K (fun x y H Q => ∃ a b, x = .bl a ∧ y = .bl b ∧ Q (.bl (decide (a = b))) H) (.d (.bl a)) (.d (.bl b)) Q := fun N M L H0 H v1 v2 bb k o1 o2 R r => by
  cases o1
  cases o2
  exact ⟨a, b, rfl, rfl, r (.d (.bl _)) _ H (Kp.refl (k.bs bb)) (Is.bl _) q⟩
theorem rr_isnotB {a b : Bool} (q : Q (.d (.bl (!decide (a = b))))) : RR K (fun x y H Q => ∃ a b, x = .bl a ∧ y = .bl b ∧ Q (.bl (!decide (a = b))) H) (.d (.bl a)) (.d (.bl b)) Q := fun N M L H0 H v1 v2 bb k o1 o2 R r => by
  cases o1
  cases o2
  exact ⟨a, b, rfl, rfl, r (.d (.bl _)) _ H (Kp.refl (k.bs bb)) (Is.bl _) q⟩
def D.isNon : D → Bool
  | .non => true
  | _ => false
theorem Is.isNon {v : V} {x : D} (h : Is K M H v x) : decide (v = .non) = x.isNon := by
  cases h <;> first | rfl | exact decide_eq_false (fun z => nomatch z)
theorem rr_isN {x : D} (q : Q (.d (.bl x.isNon))) : RR K (fun x y H Q => y = .non ∧ Q (.bl (decide (x = .non))) H) (.d x) (.d .non) Q := fun N M L H0 H v1 v2 b k o1 o2 R r => by
  cases o2
  exact ⟨rfl, r (.d (.bl _)) _ H (Kp.refl (k.bs b)) (by rw [Is.isNon o1]; exact Is.bl _) q⟩
theorem rr_isnotN {x : D} (q : Q (.d (.bl (!x.isNon)))) : RR K (fun x y H Q => y = .non ∧ Q (.bl (!decide (x = .non))) H) (.d x) (.d .non) Q := fun N M L H0 H v1 v2 b k o1 o2 R r => by
  cases o2
  exact ⟨rfl, r (.d (.bl _)) _ H (Kp.refl (k.bs b)) (by rw [Is.isNon o1]; exact Is.bl _) q⟩
/-- an item -/
theorem at_len {α β : Type} {xs : List α} {ys : List β} (h : xs.length = ys.length) {i : Int} {y : β} (e : atI ys i = some y) : ∃ j : Nat, ys[j]? = some y ∧ ∀ x, xs[j]? = some x → atI xs i = some x := by
  unfold atI at e ⊢
  rw [h]
  cases q : ixN ys.length i with
  | none => rw [q] at e; cases e
  | some j =>
    rw [q] at e
    exact ⟨j, e, fun x hx => hx⟩
theorem rr_ixL {s : SV} {xs : List D} {i : Int} {x : D} (e : s.rd = some (.lst xs)) (ha : atI xs i = some x) (q : Q (.d x)) : RR K (rIxL K) s (.d (.int i)) Q := fun N M L H0 H v1 v2 b k o1 o2 R r => by
  cases o2
  obtain ⟨a, vs, rfl, h1, h2⟩ := o1.list b e
  obtain ⟨j, hj, f⟩ := at_len h2.len ha
  obtain ⟨v, hv, iv⟩ := h2.get hj
  exact ⟨a, vs, i, v, rfl, rfl, h1, f v hv, r (.d x) v H (Kp.refl (k.bs b)) iv q⟩
theorem rr_ixT {xs : List D} {i : Int} {x : D} (ha : atI xs i = some x) (q : Q (.d x)) : RR K (rIxT K) (.d (.tup xs)) (.d (.int i)) Q := fun N M L H0 H v1 v2 b k o1 o2 R r => by
  cases o2
  obtain ⟨_, _, rfl, h1, h2⟩ := Is.tupS o1
  · obtain ⟨j, hj, f⟩ := at_len h2.len ha
    obtain ⟨v, hv, iv⟩ := h2.get hj
    exact ⟨_, _, i, v, rfl, rfl, h1, f v hv, r (.d x) v H (Kp.refl (k.bs b)) iv q⟩
theorem rr_ixS {z : Str} {i : Int} {c : Nat} (hz : z.length ≤ sizeLine) (ha : atI z.cps.toList i = some c) (q : Q (.d (.str ⟨#[c]⟩))) : RR K rIxS (.d (.str z)) (.d (.int i)) Q := fun N M L H0 H v1 v2 b k o1 o2 R r => by
  cases o2
  cases o1
  exact ⟨z, i, c, rfl, rfl, hz, ha, r (.d (.str ⟨#[c]⟩)) _ H (Kp.refl (k.bs b)) (Is.str _) q⟩
theorem rr_xL {s : SV} {xs : List D} {i : Int} {x : D} (e : s.rd = some (.lst xs)) (ha : atI xs i = some x) (q : Q (.d x)) : RR K (rIx K) s (.d (.int i)) Q := fun N M L H0 H v1 v2 b k o1 o2 R r => .inl (rr_ixL e ha q N M L H0 H v1 v2 b k o1 o2 R r)
theorem rr_xT {xs : List D} {i : Int} {x : D} (ha : atI xs i = some x) (q : Q (.d x)) : RR K (rIx K) (.d (.tup xs)) (.d (.int i)) Q := fun N M L H0 H v1 v2 b k o1 o2 R r => .inr (.inl (rr_ixT ha q N M L H0 H v1 v2 b k o1 o2 R r))
theorem rr_xS {z : Str} {i : Int} {c : Nat} (hz : z.length ≤ sizeLine) (ha : atI z.cps.toList i = some c) (q : Q (.d (.str ⟨#[c]⟩))) : RR K (rIx K) (.d (.str z)) (.d (.int i)) Q := fun N M L H0 H v1 v2 b k o1 o2 R r => .inr (.inr (rr_ixS hz ha q N M L H0 H v1 v2 b k o1 o2 R r))

/-! ### new ones -/
theorem SvAll.datas (bs0 : Bs L M H0) : ∀ {ss : List SV} {vs : List V} {ds : List D}, SvAll K N M L H0 H vs ss → ss.map SV.dat = ds.map some → IsAll K M H vs ds
  | [], _, [], h, _ => by cases h; exact .nil
  | [], _, _ :: _, _, e => by cases e
  | _ :: _, _, [], _, e => by cases e
  | s :: ss, _, d :: ds, h, e => by
    cases h with
    | cons h1 h2 =>
      have e' : s.dat :: ss.map SV.dat = some d :: ds.map some := e
      injection e' with e1 e2
      exact .cons (h1.data bs0 e1) (SvAll.datas bs0 h2 e2)
theorem SvAll.len : ∀ {ss : List SV} {vs : List V}, SvAll K N M L H0 H vs ss → vs.length = ss.length
  | _, _, .nil => rfl
  | _, _, .cons _ t => congrArg (· + 1) t.len
theorem dats_len {ss : List SV} {ds : List D} (e : ss.map SV.dat = ds.map some) : ss.length = ds.length := by
  have := congrArg List.length e
  simpa using this
theorem de_tup {tr : TA} (h : DA K tr es fun ss => ∃ ds, ss.map SV.dat = ds.map some ∧ ds.length ≤ 100000 ∧ Q (.d (.tup ds))) : DE K (tTup tr) es Q := fun P N M L σ H S R k => by
  refine h P N M L σ H S _ fun ss vs H1 k1 o1 q1 => ?_
  obtain ⟨ds, e, z, q⟩ := q1
  have hl : vs.length = ds.length := o1.len.trans (dats_len e)
  refine ⟨by rw [hl]; exact Nat.le_trans z (by decide), fun p hp => ?_⟩
  have bs1 := k1.bs S.bs
  have kn := Kp.new (o := .tup vs) bs1 hp
  exact k (.d (.tup ds)) _ _ (k1.trans kn) (.tup upd_same ((o1.datas S.bs e).kp kn bs1)) q
theorem de_lst {tr : TA} (h : DA K tr es fun ss => ∃ ds, ss.map SV.dat = ds.map some ∧ ds.length ≤ 100000 ∧ Q (.new ds)) : DE K (tLst tr) es Q := fun P N M L σ H S R k => by
  refine h P N M L σ H S _ fun ss vs H1 k1 o1 q1 => ?_
  obtain ⟨ds, e, z, q⟩ := q1
  have hl : vs.length = ds.length := o1.len.trans (dats_len e)
  refine ⟨by rw [hl]; exact Nat.le_trans z (by decide), fun p hp => ?_⟩
  have bs1 := k1.bs S.bs
  have kn := Kp.new (o := .lst vs) bs1 hp
  refine k (.new ds) _ _ (k1.trans kn) ⟨p, vs, rfl, k1.was hp, upd_same, ?_⟩ q
  have i1 : IsAll K (M.add p) H1 vs ds := (o1.datas S.bs e).add hp
  refine IsAll.chg (fun a o q m => ⟨?_, m⟩) ?_ _ _ i1
  · rw [upd_ne (ne_of_none q hp)]; exact q
  · exact sqt_keep (M := M) (fun a o m q => by rw [upd_ne (ne_of_none q hp)]; exact q) bs1.tr
/-- a new list with items that are read off -/
theorem new_of (bs0 : Bs L M H0) (k1 : Kp L H0 H1) {p : Addr} {vs : List V} {ds : List D} (hp : H1 p = none) (i : IsAll K M H1 vs ds) : Kp L H1 (upd H1 p (.lst vs)) ∧ SvOk K N M L H0 (upd H1 p (.lst vs)) (.ref p) (.new ds) := by
  have bs1 := k1.bs bs0
  have kn := Kp.new (o := .lst vs) bs1 hp
  refine ⟨kn, p, vs, rfl, k1.was hp, upd_same, ?_⟩
  refine IsAll.chg (fun a o q m => ⟨?_, m⟩) ?_ _ _ (i.add hp)
  · rw [upd_ne (ne_of_none q hp)]; exact q
  · exact sqt_keep (M := M) (fun a o m q => by rw [upd_ne (ne_of_none q hp)]; exact q) bs1.tr
theorem newT_of (bs0 : Bs L M H0) (k1 : Kp L H0 H1) {p : Addr} {vs : List V} {ds : List D} (hp : H1 p = none) (i : IsAll K M H1 vs ds) : Kp L H1 (upd H1 p (.tup vs)) ∧ SvOk K N M L H0 (upd H1 p (.tup vs)) (.ref p) (.d (.tup ds)) := by
  have bs1 := k1.bs bs0
  have kn := Kp.new (o := .tup vs) bs1 hp
  exact ⟨kn, .tup upd_same (i.kp kn bs1)⟩
theorem rr_cat {s1 s2 : SV} {xs ys : List D} (e1 : s1.rd = some (.lst xs)) (e2 : s2.rd = some (.lst ys)) (n1 : ∀ n, s1 ≠ .scr n) (n2 : ∀ n, s2 ≠ .scr n) (z : xs.length + ys.length ≤ 100000) (q : Q (.new (xs ++ ys))) : RR K rCat s1 s2 Q := fun N M L H0 H v1 v2 b k o1 o2 R r => by
  obtain ⟨a, vs, rfl, h1, i1⟩ := o1.lst b e1 n1
  obtain ⟨c, ws, rfl, h2, i2⟩ := o2.lst b e2 n2
  refine ⟨a, c, vs, ws, rfl, rfl, h1, h2, by rw [i1.len, i2.len]; exact Nat.le_trans z (by decide), fun p hp => ?_⟩
  obtain ⟨kn, ok⟩ := new_of (N := N) b k hp (i1.append i2)
  exact r _ _ _ kn ok q
theorem rr_catT {xs ys : List D} (z : xs.length + ys.length ≤ 100000) (q : Q (.d (.tup (xs ++ ys)))) : RR K (rCatA K) (.d (.tup xs)) (.d (.tup ys)) Q := fun N M L H0 H v1 v2 b k o1 o2 R r => by
  have bs := k.bs b
  have o1' := o1
  have o2' := o2
  obtain ⟨a, vs, rfl, h1, i1⟩ := Is.tupS o1
  · obtain ⟨c, ws, rfl, h2, i2⟩ := Is.tupS o2
    · refine ⟨a, c, vs, ws, rfl, rfl, h1, h2, by rw [i1.len, i2.len]; exact Nat.le_trans z (by decide), fun ev => ?_, fun ev ew => ?_, fun ev ew p hp => ?_⟩
      · subst ev
        cases i1
        exact r (.d (.tup ([] ++ ys))) _ H (Kp.refl bs) o2' q
      · subst ew
        cases i2
        exact r (.d (.tup (xs ++ []))) _ H (Kp.refl bs) (by rw [List.append_nil]; exact o1') q
      · obtain ⟨kn, ok⟩ := newT_of (N := N) b k hp (i1.append i2)
        exact r _ _ _ kn ok q
/-! ### slices -/
def cutD (xs : List D) (lo hi : Option Int) : List D := (xs.drop (HT.sIx xs.length 0 lo)).take (HT.sIx xs.length xs.length hi - HT.sIx xs.length 0 lo)
theorem cut_all {vs : List V} {xs : List D} (h : IsAll K M H vs xs) (lo hi : Option Int) : IsAll K M H (cutV vs lo hi) (cutD xs lo hi) := by
  unfold cutV cutD
  rw [h.len]
  exact (h.drop _).take _
def DO (K : PySem.W.Frag) (to : TO) (es : Env') (Q : Option Int → Prop) : Prop :=
  ∀ P N M L σ H, Sts K P N M L σ H es → ∀ R : Option Int → Hp → Prop, (∀ o H', Kp L H H' → Q o → R o H') → to σ H R
theorem do_none {Q : Option Int → Prop} (q : Q none) : DO K tNoPart es Q := fun P N M L σ H S R k => k _ _ (Kp.refl S.bs) q
theorem do_some {Q : Option Int → Prop} (h : DE K te es fun s => ∃ i, s = .d (.int i) ∧ Q (some i)) : DO K (tPart te) es Q := fun P N M L σ H S R k => by
  refine h P N M L σ H S _ fun s v H1 k1 o1 q1 => ?_
  obtain ⟨i, rfl, q⟩ := q1
  cases o1
  exact ⟨i, rfl, k _ _ k1 q⟩
def RS (K : PySem.W.Frag) (r : V → Option Int → Option Int → Hp → VK → Prop) (s1 : SV) (lo hi : Option Int) (Q : SV → Prop) : Prop :=
  ∀ N M L H0 H v1, Bs L M H0 → Kp L H0 H → SvOk K N M L H0 H v1 s1 → ∀ R : VK, (∀ s v H', Kp L H H' → SvOk K N M L H0 H' v s → Q s → R v H') → r v1 lo hi H R
theorem de_sl {r : V → Option Int → Option Int → Hp → VK → Prop} {tl th : TO} (h : DE K te es fun x => DO K tl es fun lo => DO K th es fun hi => RS K r x lo hi Q) : DE K (tSl r te tl th) es Q := fun P N M L σ H S R k => by
  refine h P N M L σ H S _ fun x v1 H1 k1 o1 q1 => ?_
  refine q1 P N M L σ H1 (S.kp k1) _ fun lo H2 k2 q2 => ?_
  have k12 := k1.trans k2
  refine q2 P N M L σ H2 (S.kp k12) _ fun hi H3 k3 q3 => ?_
  have k13 := k12.trans k3
  exact q3 N M L H H3 v1 S.bs k13 (o1.kp S.bs k1 (k2.trans k3)) R fun s v H' k4 o4 q4 => k s v H' (k13.trans k4) o4 q4
theorem rs_L {s : SV} {xs : List D} {lo hi : Option Int} (e : s.rd = some (.lst xs)) (q : Q (.new (cutD xs lo hi))) : RS K (rSlL K) s lo hi Q := fun N M L H0 H v1 b k o1 R r => by
  obtain ⟨a, vs, rfl, h1, i1⟩ := o1.list b e
  refine ⟨a, vs, rfl, h1, fun p hp => ?_⟩
  obtain ⟨kn, ok⟩ := new_of (N := N) b k hp (cut_all i1 lo hi)
  exact r _ _ _ kn ok q
theorem rs_T {xs : List D} {lo hi : Option Int} (q : Q (.d (.tup (cutD xs lo hi)))) : RS K (rSlA K) (.d (.tup xs)) lo hi Q := fun N M L H0 H v1 b k o1 R r => by
  have o1' := o1
  obtain ⟨a, vs, rfl, h1, i1⟩ := Is.tupS o1
  · refine ⟨a, vs, rfl, h1, fun ⟨w1, w2⟩ => ?_, fun _ p hp => ?_⟩
    · have e : cutD xs lo hi = xs := by
        unfold cutD
        rw [← i1.len, w1, w2, List.drop_zero, Nat.sub_zero, i1.len, List.take_length]
      rw [e] at q
      exact r (.d (.tup xs)) _ H (Kp.refl (k.bs b)) o1' q
    · obtain ⟨kn, ok⟩ := newT_of (N := N) b k hp (cut_all i1 lo hi)
      exact r _ _ _ kn ok q
theorem rs_S {z : Str} {lo hi : Option Int} (hz : z.length ≤ sizeLine) (q : Q (.d (.str (cutS z lo hi)))) : RS K rSlS (.d (.str z)) lo hi Q := fun N M L H0 H v1 b k o1 R r => by
  cases o1
  exact ⟨z, rfl, hz, r (.d (.str _)) _ H (Kp.refl (k.bs b)) (Is.str _) q⟩
theorem rs_or1 {r r' : V → Option Int → Option Int → Hp → VK → Prop} {s1 : SV} {lo hi : Option Int} (h : RS K r s1 lo hi Q) : RS K (fun x lo hi H Q => r x lo hi H Q ∨ r' x lo hi H Q) s1 lo hi Q := fun N M L H0 H v1 b k o1 R q => .inl (h N M L H0 H v1 b k o1 R q)
theorem rs_or2 {r r' : V → Option Int → Option Int → Hp → VK → Prop} {s1 : SV} {lo hi : Option Int} (h : RS K r' s1 lo hi Q) : RS K (fun x lo hi H Q => r x lo hi H Q ∨ r' x lo hi H Q) s1 lo hi Q := fun N M L H0 H v1 b k o1 R q => .inr (h N M L H0 H v1 b k o1 R q)

/-! ### calls of built-ins -/
theorem de_cb {r : List V → Hp → VK → Prop} {tr : TA} (h : DA K tr es fun ss => RC K r ss Q) : DE K (tCB r tr) es Q := fun P N M L σ H S R k => by
  refine h P N M L σ H S _ fun ss vs H1 k1 o1 q1 => ?_
  exact q1 N M L H H1 vs S.bs k1 o1 R fun s v H' k3 o3 q3 => k s v H' (k1.trans k3) o3 q3
theorem SvAll.one {s : SV} {vs : List V} (h : SvAll K N M L H0 H vs [s]) : ∃ v, vs = [v] ∧ SvOk K N M L H0 H v s := by
  cases h with
  | cons h t =>
    cases t
    exact ⟨_, rfl, h⟩
theorem SvAll.two {s t : SV} {vs : List V} (h : SvAll K N M L H0 H vs [s, t]) : ∃ v w, vs = [v, w] ∧ SvOk K N M L H0 H v s ∧ SvOk K N M L H0 H w t := by
  cases h with
  | cons h r =>
    obtain ⟨w, rfl, hw⟩ := r.one
    exact ⟨_, w, rfl, h, hw⟩
theorem rc_abs {i : Int} (q : Q (.d (.int (if i < 0 then -i else i)))) : RC K (fun xs H Q => ∃ i, xs = [.int i] ∧ Q (.int (if i < 0 then -i else i)) H) [.d (.int i)] Q := fun N M L H0 H vs b k o R r => by
  obtain ⟨v, rfl, hv⟩ := o.one
  cases hv
  exact ⟨i, rfl, r (.d (.int _)) _ H (Kp.refl (k.bs b)) (Is.int _) q⟩
theorem rc_max {i j : Int} (q : Q (.d (.int (if j > i then j else i)))) : RC K (fun xs H Q => ∃ i j, xs = [.int i, .int j] ∧ Q (.int (if j > i then j else i)) H) [.d (.int i), .d (.int j)] Q := fun N M L H0 H vs b k o R r => by
  obtain ⟨v, w, rfl, hv, hw⟩ := o.two
  cases hv
  cases hw
  exact ⟨i, j, rfl, r (.d (.int _)) _ H (Kp.refl (k.bs b)) (Is.int _) q⟩
theorem rc_min {i j : Int} (q : Q (.d (.int (if j < i then j else i)))) : RC K (fun xs H Q => ∃ i j, xs = [.int i, .int j] ∧ Q (.int (if j < i then j else i)) H) [.d (.int i), .d (.int j)] Q := fun N M L H0 H vs b k o R r => by
  obtain ⟨v, w, rfl, hv, hw⟩ := o.two
  cases hv
  cases hw
  exact ⟨i, j, rfl, r (.d (.int _)) _ H (Kp.refl (k.bs b)) (Is.int _) q⟩
/-- how long -/
def D.len : D → Option Nat
  | .str x => if x.length ≤ sizeLine then some x.length else none
  | .lst xs => some xs.length
  | .tup xs => some xs.length
  | _ => none
theorem rc_len {s : SV} {x : D} {n : Nat} (e : s.rd = some x) (hn : x.len = some n) (q : Q (.d (.int n))) : RC K (fun xs H Q => ∃ x n, xs = [x] ∧ LenV K x H n ∧ Q (.int n) H) [s] Q := fun N M L H0 H vs b k o R r => by
  obtain ⟨v, rfl, hv⟩ := o.one
  have fin : LenV K v H n := by
    cases x with
    | str z =>
      cases s with
      | d y =>
        cases e
        cases hv
        have hn' : (if z.length ≤ sizeLine then some z.length else none) = some n := hn
        by_cases hz : z.length ≤ sizeLine
        · rw [if_pos hz] at hn'
          cases hn'
          exact ⟨hz, rfl⟩
        · rw [if_neg hz] at hn'
          cases hn'
      | _ => cases e
    | lst xs =>
      cases hn
      obtain ⟨a, vs, rfl, h1, h2⟩ := hv.list b e
      exact .inl ⟨vs, h1, h2.len.symm⟩
    | tup xs =>
      cases hn
      cases s with
      | d y =>
        cases e
        obtain ⟨_, _, rfl, h1, h2⟩ := Is.tupS hv
        exact .inr ⟨_, h1, h2.len.symm⟩
      | _ => cases e
    | _ => cases hn
  exact ⟨v, n, rfl, fin, r (.d (.int n)) _ H (Kp.refl (k.bs b)) (Is.int _) q⟩
theorem rc_list {s : SV} {xs : List D} (e : s.rd = some (.lst xs)) (q : Q (.new xs)) : RC K (fun vs H Q => ∃ p ys, vs = [.ref p] ∧ (SqL K H p ys ∨ SqT K H p ys) ∧ ∀ l, H l = none → Q (.ref l) (upd H l (.lst ys))) [s] Q := fun N M L H0 H vs b k o R r => by
  obtain ⟨v, rfl, hv⟩ := o.one
  obtain ⟨a, vs, rfl, h1, h2⟩ := hv.list b e
  refine ⟨a, vs, rfl, .inl h1, fun p hp => ?_⟩
  obtain ⟨kn, ok⟩ := new_of (N := N) b k hp h2
  exact r _ _ _ kn ok q
theorem rc_listT {xs : List D} (q : Q (.new xs)) : RC K (fun vs H Q => ∃ p ys, vs = [.ref p] ∧ (SqL K H p ys ∨ SqT K H p ys) ∧ ∀ l, H l = none → Q (.ref l) (upd H l (.lst ys))) [.d (.tup xs)] Q := fun N M L H0 H vs b k o R r => by
  obtain ⟨v, rfl, hv⟩ := o.one
  obtain ⟨a, vs, rfl, h1, h2⟩ := Is.tupS hv
  · refine ⟨a, vs, rfl, .inr h1, fun p hp => ?_⟩
    obtain ⟨kn, ok⟩ := new_of (N := N) b k hp h2
    exact r _ _ _ kn ok q
theorem rc_tuple {s : SV} {xs : List D} (e : s.rd = some (.lst xs)) (q : Q (.d (.tup xs))) : RC K (fun vs H Q => ∃ p ys, vs = [.ref p] ∧ ((SqL K H p ys ∧ ∀ l, H l = none → Q (.ref l) (upd H l (.tup ys))) ∨ (SqT K H p ys ∧ Q (.ref p) H))) [s] Q := fun N M L H0 H vs b k o R r => by
  obtain ⟨v, rfl, hv⟩ := o.one
  obtain ⟨a, vs, rfl, h1, h2⟩ := hv.list b e
  refine ⟨a, vs, rfl, .inl ⟨h1, fun p hp => ?_⟩⟩
  obtain ⟨kn, ok⟩ := newT_of (N := N) b k hp h2
  exact r _ _ _ kn ok q
theorem rc_all {s : SV} {bs : List Bool} (e : s.rd = some (.lst (bs.map D.bl))) (q : Q (.d (.bl (bs.all id)))) : RC K (rAll K) [s] Q := fun N M L H0 H vs b k o R r => by
  obtain ⟨v, rfl, hv⟩ := o.one
  obtain ⟨a, vs, rfl, h1, h2⟩ := hv.list b e
  exact ⟨a, bs, rfl, by rw [h2.ofBls] at h1; exact h1, r (.d (.bl _)) _ H (Kp.refl (k.bs b)) (Is.bl _) q⟩
theorem rc_any {s : SV} {bs : List Bool} (e : s.rd = some (.lst (bs.map D.bl))) (q : Q (.d (.bl (bs.any id)))) : RC K (rAny K) [s] Q := fun N M L H0 H vs b k o R r => by
  obtain ⟨v, rfl, hv⟩ := o.one
  obtain ⟨a, vs, rfl, h1, h2⟩ := hv.list b e
  exact ⟨a, bs, rfl, by rw [h2.ofBls] at h1; exact h1, r (.d (.bl _)) _ H (Kp.refl (k.bs b)) (Is.bl _) q⟩
theorem rc_strI {i : Int} (hi : i.natAbs.log2 < 1920) (q : Q (.d (.str (toString i)))) : RC K (fun xs H Q => ∃ i, xs = [.int i] ∧ i.natAbs.log2 < 1920 ∧ Q (.str (toString i)) H) [.d (.int i)] Q := fun N M L H0 H vs b k o R r => by
  obtain ⟨v, rfl, hv⟩ := o.one
  cases hv
  exact ⟨i, rfl, hi, r (.d (.str _)) _ H (Kp.refl (k.bs b)) (Is.str _) q⟩
end
end DL

/-! defs that know that no repr is under way around them: FnG beside FnOk -/
namespace DL
open PySem PySem.Spec PyProof.Rows L2

structure FnG (P : Program) (w : World) (K : PySem.W.Frag) (mg : Str → Option Value) (base : Heap) (k : Nat) (f : Addr) (fd : FuncData) (ps : List Str) (sp : Sp) : Prop where
  len : ∀ vs H Q E, sp vs H Q E → vs.length = ps.length
  run : ∀ (A : Around) (fr : List Env) (s : Shared) (H : Hp) (ar : Args) (us : List Value) (vs : List V) (Q : VK), A.guards = some [] → Room k A → Env0 P w K mg base A fr s H →
    BindsTo s fd ar (ps.zip us) → Vals vs us → sp vs H Q E0 → codeAny (model P w) A (.call (.ref f) ar) (CR CX0 fr P w H s Q E0) s
section
variable {P : Program} {w : World} {K : PySem.W.Frag} {mg : Str → Option Value} {base : Heap}
theorem FnG.of {k : Nat} {f : Addr} {fd : FuncData} {ps : List Str} {sp : Sp} (F : FnOk P w K mg base CX0 k f fd ps sp) : FnG P w K mg base k f fd ps sp :=
  ⟨F.len, fun A fr s H ar us vs Q _ hr e0 hb rv h => F.run A fr s H ar us vs Q E0 hr e0 hb rv h⟩
theorem FnG.mono {j k : Nat} {f : Addr} {fd : FuncData} {ps : List Str} {sp : Sp} (F : FnG P w K mg base j f fd ps sp) (h : j ≤ k) : FnG P w K mg base k f fd ps sp :=
  ⟨F.len, fun A fr s H ar us vs Q hg hr => F.run A fr s H ar us vs Q hg (hr.mono h)⟩

/-- a def of the text, its body read where no repr is under way -/
theorem okG {x qual : Str} {st : Stmt} {f : Addr} {fd : FuncData} {N ps : List Str} {k : Nat} {sp : Sp} (F : Fun K x qual st f fd) (S : FnScope N ps (defScope st)) (len : ∀ vs H Q E, sp vs H Q E → vs.length = ps.length)
    (hb : ∀ (cdv : Value) (A : Around) (fr : List Env) (s : Shared) (H : Hp) (vs : List V) (Q : VK), A.guards = some [] → Room k (A.deeper (envOfC qual (defScope st) s.heap.objs.size f cdv)) → sp vs H Q E0 →
      ∃ t, PSs (cxOf CX0 P w K mg base N qual (defScope st) f cdv A fr s H E0).nox (defBody st) t ∧ t { nx := fun _ H' => Q .non H', rt := Q } (start N vs) H) : FnG P w K mg base (k + 1) f fd ps sp := by
  obtain ⟨oc, od, kV, doc, pm, an, cdv, ct, osl, rfl, lk, hcd⟩ := F.ex
  constructor
  · exact len
  intro A fr s H ar us vs Q hg hr e0 hbi rv hsp
  have up : ∀ b o, base.get? b = some o → s.heap.get? b = some o := fun b o e => (e0.bs b o e).1
  have kin : K.In s.heap := e0.mod.kin.keeps up
  have room := hr.deeper (envOfC qual (defScope st) s.heap.objs.size f cdv)
  refine codeAny_call_function hr.depth (kin f _ lk) rfl S.co S.gen rfl (PySem.W.codeRec_of kin hcd) ?_
  refine hbi _ _ _ _ ?_
  have kinds : ∀ y ∈ ps.zip us, (defScope st).names.lookup y.1 = some .local ∨ ((defScope st).names.lookup y.1 = some .cell ∧ ((cellsFrom (s.heap.objs.size + 1) (defScope st).names []).lookup y.1).isSome = true) := by
    rintro ⟨n, v⟩ hy
    have hn := S.par n (List.of_mem_zip hy).1
    exact hn.imp id fun q => ⟨q, PySem.W.cellsFrom_some _ _ _ (.inl q)⟩
  refine wpAny_newFunctionEnv_cells S.kind kinds ?_
  rintro env rfl s1 x
  constructor
  · exact (e0.mod.nolimit.keeps up).keeps x.toInCall.keep
  refine codeAny_func ?_
  obtain ⟨t, ht, hq⟩ := hb cdv A fr s H vs Q hg room hsp
  have inv := inv_start (CX := CX0) (E := E0) (cd := cdv) (f := f) S hr.hd e0 (len vs H Q E0 hsp) rv x
  refine wpAny_mono (ht.nox.run [] s1 (start N vs) H _ inv hq) ?_ (fun _ _ h => h)
  intro fl s2 h2
  match fl, h2 with
  | .ret u, h2 =>
    obtain ⟨v, σ2, H2, J, r2, q⟩ := h2
    exact ⟨v, H2, J.os, J.bare, J.base, J.hok, r2, q⟩
  | .next, h2 =>
    obtain ⟨σ2, H2, J, q⟩ := h2
    exact ⟨V.non, H2, J.os, J.bare, J.base, J.hok, rfl, q⟩
  | .brk, h2 =>
    obtain ⟨_, _, _, q⟩ := h2
    exact q.elim
  | .cont, h2 =>
    obtain ⟨_, _, _, q⟩ := h2
    exact q.elim
end
section
variable {X : Cx} {k : Nat} {f : Addr} {fd : FuncData} {ps : List Str} {sp : Sp} {x : Str} {p pos : Pos} {e : Expr} {es : List Expr} {t : TA}
theorem runG {pins : List (Addr × Obj)} {σ : L2.St} {H : Hp} {s : Shared} {Q : VK} {us us' : List Value} {vs : List V} {kw : List (Str × Value)} (F : FnG X.prog X.w X.K X.mg X.base k f fd ps sp) (hr : Room k X.A) (gu : X.A.guards = some [])
    (I : Inv X pins σ H s) (hb : BindsTo s fd ⟨us', kw⟩ (ps.zip us)) (r : Vals vs us) (h : sp vs H Q E0) : wpAny (model X.prog X.w) X.A (call (.ref f) us' kw) (EP X pins σ Q) X.xe s := by
  refine wpAny_call (codeAny_mono (F.run X.A X.stack s H _ us vs Q gu hr I.env0 hb r h) ?_)
  intro res s' hq
  match res, hq with
  | .ok (.ret u), hq => exact I.after hq
  | .ok .next, hq => exact hq.elim
  | .ok .brk, hq => exact hq.elim
  | .ok .cont, hq => exact hq.elim
  | .error e, hq => exact hq.elim
/-- f(..), all by place -/
theorem pe_callG (F : FnG X.prog X.w X.K X.mg X.base k f fd ps sp) (hr : Room k X.A) (gu : X.A.guards = some []) (hg : Gl X x) (hm : X.mg x = some (.ref f)) (hk : PySem.W.keepIn X.K (.ref f) = true) (hb : Binds X.K fd ps [])
    (ha : PA X (e :: es) t) (hdb : (x == ("__debug__" : Str)) = false := by decide) (he : starEach (e :: es) X.env = (false, eval e X.env) :: starEach es X.env := by rfl) (hpl : (backTo pos (starEach es X.env)).any (·.1) = false := by rfl) :
    PE X (.Call (.Name x p) (e :: es) [] pos) (tCall sp [] E0 t) := by
  constructor
  intro pins s σ H Q I h
  refine wpAny_Call_Name_kw (ld_glob I hg hm ?_ hdb)
  refine PySem.W.callWith_K (h₀ := X.base) I.ok.mod.kin hk (thn (ha.run pos pins s σ H _ I h) ?_) he hpl
  rintro us s1 ⟨vs, H1, I1, r, q⟩
  refine ⟨I1.kIn, ?_⟩
  have q' : sp vs H1 Q E0 := by rw [List.append_nil] at q; exact q
  have hl : (us ++ []).length = ps.length := by rw [List.append_nil, ← r.length]; exact F.len _ _ _ _ q'
  refine runG F hr gu I1 (hb s1 us I1.kIn hl) (us := us ++ []) ?_ q'
  rw [List.append_nil]; exact r
/-- f(k = e, ..): keywords alone; g puts them in the parameters' order -/
def tCallKw (n : Nat) (sp : Sp) (g : List V → List V) (tk : TA) : TE := fun σ H Q => tk σ H fun zs H2 => zs.length = n ∧ sp (g zs) H2 Q E0
structure KwB (fd : FuncData) (ps ks : List Str) (g : {α : Type} → List α → List α) : Prop where
  to : ∀ (s : Shared) (ws : List Value), ws.length = ks.length → BindsTo s fd ⟨[], ks.zip ws⟩ (ps.zip (g ws))
  rel : ∀ {zs : List V} {ws : List Value}, Vals zs ws → Vals (g zs) (g ws)
theorem pe_callGK {ks : List Str} {g : {α : Type} → List α → List α} {kws : List Keyword} {tk : TA} (F : FnG X.prog X.w X.K X.mg X.base k f fd ps sp) (hr : Room k X.A) (gu : X.A.guards = some []) (hg : Gl X x) (hm : X.mg x = some (.ref f)) (hk : PySem.W.keepIn X.K (.ref f) = true)
    (hb : KwB fd ps ks g) (hkw : PK X kws tk) (hall : (backToKw pos (keywordEach kws X.env)).all (·.1.isSome) = true := by rfl) (hks : (backToKw pos (keywordEach kws X.env)).filterMap (·.1) = ks := by rfl) (hdb : (x == ("__debug__" : Str)) = false := by decide)
    (hpl : ((backTo pos (starEach [] X.env)).any (·.1) || (backToKw pos (keywordEach kws X.env)).any (·.1.isNone)) = false := by rfl) : PE X (.Call (.Name x p) [] kws pos) (tCallKw ks.length sp g tk) := by
  constructor
  intro pins s σ H Q I h
  refine wpAny_Call_Name_kw (ld_glob I hg hm ?_ hdb)
  refine PySem.W.callWith_KW0 (h₀ := X.base) I.ok.mod.kin hk hall ?_ hpl
  refine thn (hkw.run pos pins s σ H _ I h) ?_
  rintro ws s2 ⟨zs, H2, I2, rz, l2, q2⟩
  refine ⟨I2.kIn, ?_⟩
  rw [hks]
  exact runG F hr gu I2 (hb.to s2 ws (rz.length.symm.trans l2)) (hb.rel rz) q2
end

/-- the head -/
theorem lawG {P : Program} {w : World} {K : PySem.W.Frag} {mg mb : Str → Option Value} {k : Nat} {fa a : Addr} {fd : FuncData} {x : Str} {sp : Sp} {s₁ : Shared} {vs : List Value} {ns : List Int}
    (kin : K.In s₁.heap) (n1 : s₁.heap.Ns mainGlobals mg) (n2 : s₁.heap.Ns builtinsNs mb) (n3 : ∀ x : Str, x ≠ "__name__" → mb x = bootBuiltins x) (lim : s₁.heap.NoLimit) (gens : s₁.gens = #[])
    (ha : s₁.heap.get? a = some { cls := .type "list", data := .seq vs.toArray }) (hi : IntsAre vs ns) (hl : ns.length ≤ sizeLine) (hr : Room k callerA)
    (F : ∀ base : Heap, K.In base → base.Ns mainGlobals mg → FnG P w K mg base k fa fd [x] sp) (hbind : ∀ (s : Shared) (u : Value), BindsTo s fd ⟨[u], []⟩ [(x, u)])
    (hsp : ∀ H : Hp, Only H → SqL K H a (ns.map V.int) → sp [.ref a] H (fun v _ => v = .bl true) E0) :
    codeAny (model P w) callerA (.call (.ref fa) ⟨[.ref a], []⟩) (fun r s' => r = .ok (.ret (.bool true)) ∧ OldK s₁.heap s'.heap ∧ s'.os = s₁.os ∧ AllBare s'.gens) s₁ := by
  have rv := vals_ints hi
  have go : ∀ H : Hp, Only H → SqL K H a (ns.map V.int) → HOk P w H s₁.heap → (∀ b u, H b = some u → b = a ∧ K.lookup a = none) →
      codeAny (model P w) callerA (.call (.ref fa) ⟨[.ref a], []⟩) (fun r s' => r = .ok (.ret (.bool true)) ∧ OldK s₁.heap s'.heap ∧ s'.os = s₁.os ∧ AllBare s'.gens) s₁ := by
    intro H only sq ok one
    have keep : ∀ {b : Addr} {m : Str → Option Value}, s₁.heap.Ns b m → (hidT s₁.heap H).Ns b m := by
      rintro b m ⟨o, es, ep, e, d, r⟩
      refine ⟨o, es, ep, hidT_get e ?_, d, r⟩
      cases q : H b with
      | none => rfl
      | some u =>
        obtain ⟨rfl, _⟩ := one b u q
        rw [ha] at e
        cases e
        cases (show Data.seq vs.toArray _ = Data.dict es ep from d)
    have kb : K.In (hidT s₁.heap H) := by
      intro b o e
      refine hidT_get (kin b o e) ?_
      cases q : H b with
      | none => rfl
      | some u =>
        obtain ⟨rfl, z⟩ := one b u q
        rw [z] at e
        cases e
    obtain ⟨mc, l1, l2⟩ := lim
    have e0 : Env0 P w K mg (hidT s₁.heap H) callerA [] s₁ H := {
      frames := rfl
      mod := ⟨kb, keep n1, ⟨mb, keep n2, n3⟩, mc, keep l1, l2⟩
      bs := fun _ _ e => of_hidT e
      bsz := Nat.le_of_eq (hidT_size _ _)
      funs := trivial
      frf := fun b hb => by cases (show b ∈ ([] : List Addr) from hb)
      hok := ok
      bare := .of_eq gens }
    refine codeAny_mono ((F _ kb (keep n1)).run callerA [] s₁ H ⟨[.ref a], []⟩ [.ref a] [.ref a] (fun v _ => v = .bl true) rfl hr e0 (hbind s₁ (.ref a)) (.cons rfl .nil) (hsp H only sq)) ?_
    intro r s' h
    match r, h with
    | .error e, h => exact h.elim
    | .ok .next, h => exact h.elim
    | .ok .brk, h => exact h.elim
    | .ok .cont, h => exact h.elim
    | .ok (.ret u), h =>
      obtain ⟨v, H', os, bare, un, hok', r', rfl⟩ := h
      cases (show u = Value.bool true from r')
      refine ⟨rfl, OldK.of_keep ?_, os, bare⟩
      intro b o e
      have nob : b ∉ ([] : List Addr) := by simp
      rcases only b with z | ⟨ob, xs, z⟩
      · exact un.keep b o e z nob nob
      · have z2 := (hok' b _ (un.frzs b ob _ z)).1
        rw [(ok b _ z).1] at e
        cases e
        exact z2
  cases hk : K.lookup a with
  | some o =>
    have e := kin a o hk
    rw [ha] at e
    cases e
    refine go (fun _ => none) (fun _ => .inl rfl) (.inr ⟨_, vs.toArray, _, hk, rfl, rfl, rfl, ?_, by simpa using rv⟩) (fun b u z => by cases z) (fun b u z => by cases z)
    rw [List.size_toArray, hi.length]; exact hl
  | none =>
    have pick : ∀ {b : Addr} {u : HO}, (if b = a then some (HO.frz { cls := .type "list", data := .seq vs.toArray } (.lst (ns.map V.int))) else none) = some u → b = a ∧ u = HO.frz { cls := .type "list", data := .seq vs.toArray } (.lst (ns.map V.int)) := by
      intro b u z
      by_cases hb : b = a
      · rw [if_pos hb] at z; exact ⟨hb, (Option.some.inj z).symm⟩
      · rw [if_neg hb] at z; cases z
    refine go (fun b => if b = a then some (.frz { cls := .type "list", data := .seq vs.toArray } (.lst (ns.map V.int))) else none) (fun b => ?_) (.inl (.inr ⟨_, if_pos rfl⟩)) (fun b u z => ?_) (fun b u z => ⟨(pick z).1, hk⟩)
    · by_cases hb : b = a
      · exact .inr ⟨_, _, if_pos hb⟩
      · exact .inl (if_neg hb)
    · obtain ⟨rfl, rfl⟩ := pick z
      exact ⟨ha, by rw [List.length_map]; exact hl, vs, _, rv, ha⟩
theorem walkG {l : PySem.W.OpenLaw} {n k : Nat} {q : Program} {loose : List Str} {XP : (Str → Option Value) → Heap → Prop} {YP : World → Heap → Prop} {d : DefRec} {K : Params → PySem.W.Frag} {sp : PySem.W.Frag → Sp} {x : Str}
    (hn : l.most = some n) (hz : n ≤ sizeLine) (hdf : d.params.defaults = []) (hr : Room k callerA) (hY : ∀ (w : World) (h : Heap), YP w h → (K w.params).In h)
    (F : ∀ (w : World) (mg : Str → Option Value) (fa : Addr) (h : Heap), (K w.params).In h → h.Ns mainGlobals mg → mg d.name = some (.ref fa) →
      ∃ fd : FuncData, (∀ (s : Shared) (u : Value), BindsTo s fd ⟨[u], []⟩ [(x, u)]) ∧ ∀ base : Heap, (K w.params).In base → base.Ns mainGlobals mg → FnG l.prog w (K w.params) mg base k fa fd [x] (sp (K w.params)))
    (hsp : ∀ (K : PySem.W.Frag) (H : Hp) (a : Addr) (ns : List Int), ns.length ≤ n → Only H → SqL K H a (ns.map V.int) → sp K [.ref a] H (fun v _ => v = .bl true) E0) :
    PySem.W.WalkO q loose XP YP l.row.toRowW d [] (fun f vs => PySem.call f vs) := by
  refine Att.attach_call hn hdf ?_
  intro w s₀ s₁ mg mb fa o pm cd doc a vs ns G Y ho hd hcd hmg hobj hints hlen hg
  have kin := hY w _ Y
  obtain ⟨fd, hb, hF⟩ := F w mg fa _ kin G.T.g hmg
  exact lawG kin G.T.g G.T.b G.T.builtins G.T.nolimit hg hobj hints (Nat.le_trans hlen hz) hr hF hb fun H hO hS => hsp (K w.params) H a ns hlen hO hS
end DL

namespace DL
open PySem PySem.Spec PyProof.Rows L2

/-! ### statements -/
structure Fr where
  M0 : AP
  L : AP
  H0 : Hp
structure Stf (K : PySem.W.Frag) (F : Fr) (P : List Pin) (M L : AP) (σ : L2.St) (H : Hp) (es : Env') : Prop where
  st : Sts K P (fun a => F.H0 a = none) M L σ H es
  bs0 : Bs F.L F.M0 F.H0
  kp : Kp F.L F.H0 H
  m0 : ∀ a, F.M0 a → M a
  lo : ∀ a, F.L a → L a
  ln : ∀ a, L a → F.L a ∨ F.H0 a = none
structure DEnds where
  nx : Env' → Prop
  rt : SV → Prop
  bk : Env' → Prop := fun _ => False
  ct : Env' → Prop := fun _ => False
  xo : Fr → Prop := fun _ => True
abbrev NO : AP := fun _ => False
structure EOk (K : PySem.W.Frag) (F : Fr) (P : List Pin) (B : DEnds) (E : Ends) : Prop where
  nx : ∀ es M L σ H, Stf K F P M L σ H es → B.nx es → E.nx σ H
  rt : ∀ s v H, Kp F.L F.H0 H → SvOk K NO F.M0 F.L F.H0 H v s → B.rt s → E.rt v H
  bk : ∀ es M L σ H, Stf K F P M L σ H es → B.bk es → E.bk σ H
  ct : ∀ es M L σ H, Stf K F P M L σ H es → B.ct es → E.ct σ H
  xo : B.xo F
def DS (K : PySem.W.Frag) (ts : TS) (es : Env') (B : DEnds) : Prop :=
  ∀ F P M L σ H, Stf K F P M L σ H es → ∀ E : Ends, EOk K F P B E → ts E σ H
def SV.out : SV → SV
  | .own xs => .new xs
  | s => s
def SV.ret : SV → Prop
  | .bag => False
  | _ => True
def SV.sto : SV → SV
  | .new xs => .own xs
  | s => s
def SV.nown : SV → Prop
  | .own _ => False
  | _ => True
section
variable {K : PySem.W.Frag} {F : Fr} {P : List Pin} {N L M : AP} {H0 H1 H H' : Hp} {σ : L2.St} {es : Env'} {ta tb tc te : TE} {tt tu : TT} {Q : SV → Prop} {t u : TS} {B : DEnds}
theorem Stf.up (S : Stf K F P M L σ H es) (k : Kp L H H') : Kp F.L F.H0 H' := ⟨fun a o l e => k.k a o (fun z => (S.ln a z).elim l fun n => by rw [n] at e; cases e) (S.kp.k a o l e), fun a l => k.b a (S.lo a l)⟩
theorem Stf.kp' (S : Stf K F P M L σ H es) (k : Kp L H H') : Stf K F P M L σ H' es := ⟨S.st.kp k, S.bs0, S.up k, S.m0, S.lo, S.ln⟩
theorem Stf.was (S : Stf K F P M L σ H es) {a : Addr} (n : H a = none) : F.H0 a = none := S.kp.was n
/-- what goes out of a frame -/
theorem SvOk.leave (S : Stf K F P M L σ H es) (k : Kp L H H') {s : SV} {v : V} (h : SvOk K (fun a => F.H0 a = none) M L H H' v s) (r : s.ret) : SvOk K NO F.M0 F.L F.H0 H' v s.out := by
  cases s with
  | d x => exact Is.sub S.m0 h
  | own xs =>
    obtain ⟨a, vs, e, m, n, l, h1, h2⟩ := h
    exact ⟨a, vs, e, n, h1, h2.sub fun b q => q.elim (S.m0 b) fun z => by rw [z]; exact m⟩
  | new xs =>
    obtain ⟨a, vs, e, n, h1, h2⟩ := h
    exact ⟨a, vs, e, S.kp.was n, h1, h2.sub fun b q => q.elim (fun z => .inl (S.m0 b z)) .inr⟩
  | bag => exact r.elim
  | scr ns => exact h
  | rng lo hi => exact h
  | dic kvs => exact h
  | ty n => exact h
  | cls C => exact h
theorem ds_next (q : B.nx es) : DS K tNext es B := fun F P M L σ H S E o => o.nx es M L σ H S q
theorem ds_brk (q : B.bk es) : DS K tBreak es B := fun F P M L σ H S E o => o.bk es M L σ H S q
theorem ds_cont (q : B.ct es) : DS K tCont es B := fun F P M L σ H S E o => o.ct es M L σ H S q
theorem ds_seq (h : DS K t es { B with nx := fun e => DS K u e B }) : DS K (tSeq t u) es B := fun F P M L σ H S E o =>
  h F P M L σ H S { E with nx := u E } ⟨fun e M L σ H S q => q F P M L σ H S E o, o.rt, o.bk, o.ct, o.xo⟩
theorem ds_ret (h : DE K te es fun s => s.ret ∧ B.rt s.out) : DS K (tRet te) es B := fun F P M L σ H S E o =>
  h P _ M L σ H S.st _ fun s v H' k ok q => o.rt s.out v H' (S.up k) (ok.leave S k q.1) q.2
theorem ds_retN (q : B.rt (.d .non)) : DS K tRetN es B := fun F P M L σ H S E o => o.rt (.d .non) .non H S.kp Is.non q
theorem ds_if (h : DT K tt es fun b => if b = true then DS K t es B else DS K u es B) : DS K (tIfS tt t u) es B := fun F P M L σ H S E o =>
  h P _ M L σ H S.st _ fun b H' k q => by
    cases b with
    | true =>
      rw [if_pos rfl] at q ⊢
      exact q F P M L σ H' (S.kp' k) E o
    | false =>
      rw [if_neg Bool.false_ne_true] at q ⊢
      exact q F P M L σ H' (S.kp' k) E o
theorem ds_drop (h : DE K te es fun _ => B.nx es) : DS K (tDrop te) es B := fun F P M L σ H S E o =>
  h P _ M L σ H S.st _ fun s v H' k ok q => o.nx es M L σ H' (S.kp' k) q
theorem set_some {α : Type} {xs : List α} {i j : Nat} {x y : α} (h : (xs.set i x)[j]? = some y) : (i = j ∧ y = x) ∨ (i ≠ j ∧ xs[j]? = some y) := by
  by_cases e : i = j
  · subst e
    have hl := (List.getElem?_eq_some_iff.mp h).1
    rw [List.length_set] at hl
    rw [List.getElem?_set_self hl] at h
    exact .inl ⟨rfl, (Option.some.inj h).symm⟩
  · rw [List.getElem?_set_ne e] at h
    exact .inr ⟨e, h⟩
/-- a thing that stood ahead, when a new list is claimed -/
theorem SvOk.lift {a : Addr} {N : AP} (bs : Bs L M H) (k : Kp L H H') (n : H a = none) {w : V} {z : SV} (q : SvOk K N M L H H w z) : SvOk K N (M.add a) L H' H' w z := by
  have k1 : ∀ b o, H b = some o → ¬ (M.add a) b → H' b = some o ∧ ¬ (M.add a) b := fun b o e m => ⟨k.k b o (fun l => m (.inl (bs.lm b l))) e, m⟩
  have k2 := sqt_keep (K := K) (M := M) (fun b o m e => k.k b o (fun l => m (bs.lm b l)) e) bs.tr
  cases z with
  | d x => exact Is.chg k1 k2 _ _ (Is.add n q)
  | own ys =>
    obtain ⟨b, ws, e, m, nn, l, g1, g2⟩ := q
    exact ⟨b, ws, e, .inl m, nn, l, k.k _ _ l g1, IsAll.chg k1 k2 _ _ (g2.add n)⟩
  | new ys =>
    obtain ⟨b, ws, e, nn, g1, g2⟩ := q
    rw [nn] at g1; cases g1
  | bag => exact q
  | scr ns => exact (show SvOk K NO M L H H' w (.scr ns) from SvOk.kp (N := NO) bs (Kp.refl bs) k (show SvOk K NO M L H H w (.scr ns) from q))
  | rng lo hi => exact (show SvOk K NO M L H H' w (.rng lo hi) from SvOk.kp (N := NO) bs (Kp.refl bs) k (show SvOk K NO M L H H w (.rng lo hi) from q))
  | dic kvs => exact (show SvOk K NO M L H H' w (.dic kvs) from SvOk.kp (N := NO) bs (Kp.refl bs) k (show SvOk K NO M L H H w (.dic kvs) from q))
  | ty n => exact q
  | cls C => exact q
theorem Stf.claim (S : Stf K F P M L σ H es) (k : Kp L H H') {a : Addr} {vs : List V} (n : H a = none) (h1 : H' a = some (.lst vs)) :
    Stf K F P (M.add a) L σ H' es ∧ ∀ (j : Nat) (zs : List D), es[j]? = some (some (.own zs)) → σ[j]? ≠ some (some (.ref a)) := by
  have bs := S.st.bs
  refine ⟨⟨⟨(k.bs bs).add h1, S.st.len, fun j z ez => ?_, fun p hp => ?_, S.st.sep⟩, S.bs0, S.up k, fun b m => .inl (S.m0 b m), S.lo, S.ln⟩, fun j zs e q => ?_⟩
  · obtain ⟨w, g1, g2⟩ := S.st.ok j z ez
    exact ⟨w, g1, g2.lift bs k n⟩
  · refine PinOk.chg (fun b o e m => ?_) (sqt_keep (M := M) (fun b o m e => k.k b o (fun l => m (bs.lm b l)) e) bs.tr) (S.st.pin p hp)
    exact ⟨k.k b o (fun l => m (bs.lm b l)) e, fun q => q.elim m fun z => by rw [z, n] at e; cases e⟩
  · obtain ⟨w, g1, b', ws, g2, m, nn, l, g3, g4⟩ := S.st.ok j _ e
    rw [g1] at q
    cases q
    cases g2
    rw [n] at g3; cases g3
theorem set_lt {i : Nat} {α : Type} {β : Type} {xs : List α} {ys : List β} {x : β} {z : β} (l : xs.length = ys.length) (e : (ys.set i x)[i]? = some z) : i < xs.length := by
  have := (List.getElem?_eq_some_iff.mp e).1
  rw [List.length_set] at this
  rw [l]; exact this
theorem Sts.setp {N : AP} (S : Sts K P N M L σ H es) {i : Nat} {s : SV} {v : V} (h : SvOk K N M L H H v s) (no : s.nown) : Sts K P N M L (σ.set i (some v)) H (es.set i (some s)) := by
  refine ⟨S.bs, ?_, fun j z ez => ?_, S.pin, fun j1 j2 a xs ys hne e1 e2 e3 => ?_⟩
  · rw [List.length_set, List.length_set]; exact S.len
  · rcases set_some ez with ⟨rfl, e'⟩ | ⟨hij, e'⟩
    · cases e'
      exact ⟨v, List.getElem?_set_self (set_lt S.len ez), h⟩
    · obtain ⟨w, h1, h2⟩ := S.ok j z e'
      exact ⟨w, by rw [List.getElem?_set_ne hij]; exact h1, h2⟩
  · rcases set_some e1 with ⟨rfl, e'⟩ | ⟨h1, e'⟩
    · cases s with
      | own xs => exact no.elim
      | _ => cases e'
    · rcases set_some e2 with ⟨rfl, e''⟩ | ⟨h2, e''⟩
      · cases s with
        | own xs => exact no.elim
        | _ => cases e''
      · rw [List.getElem?_set_ne h1] at e3
        rw [List.getElem?_set_ne h2]
        exact S.sep j1 j2 a xs ys hne e' e'' e3
theorem Stf.setp (S : Stf K F P M L σ H es) {i : Nat} {s : SV} {v : V} (h : SvOk K (fun a => F.H0 a = none) M L H H v s) (no : s.nown) : Stf K F P M L (σ.set i (some v)) H (es.set i (some s)) :=
  ⟨S.st.setp h no, S.bs0, S.kp, S.m0, S.lo, S.ln⟩
/-- slots forgotten -/
theorem Sts.wipe1 {N : AP} (S : Sts K P N M L σ H es) (i : Nat) : Sts K P N M L (σ.set i none) H (es.set i none) := by
  refine ⟨S.bs, ?_, fun j z ez => ?_, S.pin, fun j1 j2 a xs ys hne e1 e2 e3 => ?_⟩
  · rw [List.length_set, List.length_set]; exact S.len
  · rcases set_some ez with ⟨rfl, e'⟩ | ⟨hij, e'⟩
    · cases e'
    · obtain ⟨w, h1, h2⟩ := S.ok j z e'
      exact ⟨w, by rw [List.getElem?_set_ne hij]; exact h1, h2⟩
  · rcases set_some e1 with ⟨rfl, e'⟩ | ⟨h1, e'⟩
    · cases e'
    · rcases set_some e2 with ⟨rfl, e''⟩ | ⟨h2, e''⟩
      · cases e''
      · rw [List.getElem?_set_ne h1] at e3
        rw [List.getElem?_set_ne h2]
        exact S.sep j1 j2 a xs ys hne e' e'' e3
theorem Sts.claim {N : AP} (S : Sts K P N M L σ H es) (k : Kp L H H') {a : Addr} {vs : List V} (n : H a = none) (h1 : H' a = some (.lst vs)) :
    Sts K P N (M.add a) L σ H' es ∧ ∀ (j : Nat) (zs : List D), es[j]? = some (some (.own zs)) → σ[j]? ≠ some (some (.ref a)) := by
  have bs := S.bs
  refine ⟨⟨(k.bs bs).add h1, S.len, fun j z ez => ?_, fun p hp => ?_, S.sep⟩, fun j zs e q => ?_⟩
  · obtain ⟨w, g1, g2⟩ := S.ok j z ez
    exact ⟨w, g1, g2.lift bs k n⟩
  · refine PinOk.chg (fun b o e m => ?_) (sqt_keep (M := M) (fun b o m e => k.k b o (fun l => m (bs.lm b l)) e) bs.tr) (S.pin p hp)
    exact ⟨k.k b o (fun l => m (bs.lm b l)) e, fun q => q.elim m fun z => by rw [z, n] at e; cases e⟩
  · obtain ⟨w, g1, b', ws, g2, m, nn, l, g3, g4⟩ := S.ok j _ e
    rw [g1] at q
    cases q
    cases g2
    rw [n] at g3; cases g3
/-- a claimed list that no name holds is changed -/
theorem Sts.updD {N : AP} (S : Sts K P N M L σ H es) {a : Addr} {vs ws : List V} (m : M a) (l : ¬ L a) (h1 : H a = some (.lst vs)) (old : ∀ (j : Nat) (zs : List D), es[j]? = some (some (.own zs)) → σ[j]? ≠ some (some (.ref a))) :
    Sts K P N M L σ (L2.upd H a (.lst ws)) es ∧ ∀ {us : List V} {ds : List D}, IsAll K M H us ds → IsAll K M (L2.upd H a (.lst ws)) us ds := by
  have bs := S.bs
  have kn : ∀ b o, ¬ M b → H b = some o → L2.upd H a (.lst ws) b = some o := fun b o q z => by rw [upd_ne (fun y => q (by rw [y]; exact m))]; exact z
  have kt := sqt_keep (K := K) (M := M) kn bs.tr
  have ki : ∀ {w : V} {x : D}, Is K M H w x → Is K M (L2.upd H a (.lst ws)) w x := fun {w x} q => Is.chg (fun b o z q => ⟨kn b o q z, q⟩) kt _ _ q
  have kia : ∀ {w : List V} {x : List D}, IsAll K M H w x → IsAll K M (L2.upd H a (.lst ws)) w x := fun {w x} q => IsAll.chg (fun b o z q => ⟨kn b o q z, q⟩) kt _ _ q
  have frz : ∀ b o u, H b = some (.frz o u) → L2.upd H a (.lst ws) b = some (.frz o u) := fun b o u z => by rw [upd_ne (fun y => by rw [y, h1] at z; cases z)]; exact z
  refine ⟨⟨⟨bs.lm, fun b o q z => ?_, fun b q => ?_, fun b q => ?_⟩, S.len, fun j z ez => ?_, fun p hp => PinOk.chg (fun b o z q => ⟨kn b o q z, q⟩) kt (S.pin p hp), S.sep⟩, kia⟩
  · by_cases y : b = a
    · rw [y, upd_same] at z; cases z; exact True.intro
    · rw [upd_ne y] at z; exact bs.tr b o q z
  · by_cases y : b = a
    · rw [y]; exact ⟨_, upd_same⟩
    · rw [upd_ne y]; exact bs.tk b q
  · obtain ⟨g, m', z⟩ := bs.bag b q
    exact ⟨g, m', by rw [upd_ne (fun y => l (by rw [← y]; exact q))]; exact z⟩
  · obtain ⟨w, g1, g2⟩ := S.ok j z ez
    refine ⟨w, g1, ?_⟩
    cases z with
    | d x => exact ki g2
    | own zs =>
      obtain ⟨b, us, rfl, m', n', l', k1, k2⟩ := g2
      refine ⟨b, us, rfl, m', n', l', ?_, kia k2⟩
      rw [upd_ne]
      · exact k1
      · intro y
        subst y
        exact old j zs ez g1
    | new zs =>
      obtain ⟨b, us, _, n', k1, k2⟩ := g2
      rw [n'] at k1; cases k1
    | bag => exact g2
    | scr ns =>
      obtain ⟨b, z, y⟩ := g2
      exact ⟨b, z, y.keep frz⟩
    | rng lo hi =>
      obtain ⟨b, z, y⟩ := g2
      exact ⟨b, z, by rw [upd_ne (fun q => by rw [q, h1] at y; cases y)]; exact y⟩
    | dic kvs =>
      obtain ⟨b, z, y⟩ := g2
      exact ⟨b, z, by rw [upd_ne (fun q => by rw [q, h1] at y; cases y)]; exact y⟩
    | ty n => exact g2
    | cls C => exact g2
theorem Stf.seto (S : Stf K F P M L σ H es) {i : Nat} {a : Addr} {vs : List V} {xs : List D} (m : M a) (n : F.H0 a = none) (l : ¬ L a) (h1 : H a = some (.lst vs)) (h2 : IsAll K M H vs xs)
    (old : ∀ (j : Nat) (zs : List D), j ≠ i → es[j]? = some (some (.own zs)) → σ[j]? ≠ some (some (.ref a))) : Stf K F P M L (σ.set i (some (.ref a))) H (es.set i (some (.own xs))) := by
  refine ⟨⟨S.st.bs, ?_, fun j z ez => ?_, S.st.pin, fun j1 j2 b xs' ys' hne e1 e2 e3 => ?_⟩, S.bs0, S.kp, S.m0, S.lo, S.ln⟩
  · rw [List.length_set, List.length_set]; exact S.st.len
  · rcases set_some ez with ⟨rfl, e'⟩ | ⟨hij, e'⟩
    · cases e'
      exact ⟨_, List.getElem?_set_self (set_lt S.st.len ez), a, vs, rfl, m, n, l, h1, h2⟩
    · obtain ⟨w, g1, g2⟩ := S.st.ok j z e'
      exact ⟨w, by rw [List.getElem?_set_ne hij]; exact g1, g2⟩
  · rcases set_some e1 with ⟨rfl, e'⟩ | ⟨g1, e'⟩
    · rcases set_some e2 with ⟨rfl, e''⟩ | ⟨g2, e''⟩
      · exact absurd rfl hne
      · rw [List.getElem?_set_self (set_lt S.st.len e1)] at e3
        cases e3
        rw [List.getElem?_set_ne g2]
        exact old j2 _ (Ne.symm g2) e''
    · rcases set_some e2 with ⟨rfl, e''⟩ | ⟨g2, e''⟩
      · rw [List.getElem?_set_ne g1] at e3
        rw [List.getElem?_set_self (set_lt S.st.len e2)]
        intro z
        cases z
        exact old j1 _ (Ne.symm g1) e' e3
      · rw [List.getElem?_set_ne g1] at e3
        rw [List.getElem?_set_ne g2]
        exact S.st.sep j1 j2 b xs' ys' hne e' e'' e3
theorem SV.sto_plain {s : SV} (h : ∀ xs, s ≠ .new xs) : s.sto = s := by
  cases s with
  | new xs => exact absurd rfl (h xs)
  | _ => rfl
theorem SvOk.plain {N : AP} {s : SV} {v : V} (h : ∀ xs, s ≠ .new xs) (q : SvOk K N M L H0 H v s) : SvOk K N M L H1 H v s := by
  cases s with
  | new xs => exact absurd rfl (h xs)
  | _ => exact q
/-- a name is given a thing (base H: what was ahead) -/
theorem Stf.store (S : Stf K F P M L σ H es) (k : Kp L H H') {i : Nat} {s : SV} {v : V} (h : SvOk K (fun a => F.H0 a = none) M L H H' v s) (no : s.nown) : ∃ M', Stf K F P M' L (σ.set i (some v)) H' (es.set i (some s.sto)) := by
  by_cases hn : ∃ xs, s = .new xs
  · obtain ⟨xs, rfl⟩ := hn
    obtain ⟨a, vs, rfl, n, h1, h2⟩ := h
    obtain ⟨S1, old⟩ := S.claim k n h1
    exact ⟨M.add a, S1.seto (.inr rfl) (S.kp.was n) (fun l => fresh_nm S.st.bs n (S.st.bs.lm a l)) h1 h2 fun j zs _ => old j zs⟩
  · have hp : ∀ xs, s ≠ .new xs := fun xs e => hn ⟨xs, e⟩
    rw [SV.sto_plain hp]
    exact ⟨M, (S.kp' k).setp (h.plain hp) no⟩
theorem ds_set {i : Nat} (h : DE K te es fun s => s.nown ∧ B.nx (es.set i (some s.sto))) : DS K (tAsg te (gName i)) es B := fun F P M L σ H S E o =>
  h P _ M L σ H S.st _ fun s v H' k ok q => by
    obtain ⟨M', S'⟩ := S.store (i := i) k ok q.1
    exact o.nx _ _ _ _ _ S' q.2
/-- an owned list becomes a thing like others -/
theorem Stf.freeze (S : Stf K F P M L σ H es) {i : Nat} {xs : List D} (e : es[i]? = some (some (.own xs))) : ∃ M', Stf K F P M' L σ H (es.set i (some (.d (.lst xs)))) := by
  obtain ⟨v, hv, a, vs, rfl, m, n, l, h1, h2⟩ := S.st.ok i _ e
  have sub : ∀ b, (M b ∧ b ≠ a) → M b := fun b h => h.1
  refine ⟨fun b => M b ∧ b ≠ a, ⟨⟨fun b q => ⟨S.st.bs.lm b q, fun z => l (by rw [← z]; exact q)⟩, fun b o q e => S.st.bs.tr b o q.1 e, fun b q => S.st.bs.tk b q.1, S.st.bs.bag⟩, ?_, fun j z ez => ?_, fun p hp => PinOk.chg (fun b o e m => ⟨e, fun q => m q.1⟩) (TK.refl _ _) (S.st.pin p hp), fun j1 j2 b xs' ys' hne e1 e2 e3 => ?_⟩, S.bs0, S.kp, fun b q => ⟨S.m0 b q, fun z => ?_⟩, S.lo, S.ln⟩
  · rw [List.length_set]; exact S.st.len
  · rcases set_some ez with ⟨rfl, e'⟩ | ⟨hij, e'⟩
    · cases e'
      exact ⟨_, hv, Is.lst h1 (fun q => q.2 rfl) (h2.sub sub)⟩
    · obtain ⟨w, g1, g2⟩ := S.st.ok j z e'
      refine ⟨w, g1, ?_⟩
      cases z with
      | d x => exact Is.sub sub g2
      | own ys =>
        obtain ⟨b, ws, rfl, m', n', l', k1, k2⟩ := g2
        refine ⟨b, ws, rfl, ⟨m', fun z => ?_⟩, n', l', k1, k2.sub sub⟩
        subst z
        exact S.st.sep i j b xs ys hij e e' hv g1
      | new ys =>
        obtain ⟨b, ws, _, n', k1, k2⟩ := g2
        rw [n'] at k1; cases k1
      | bag => exact g2
      | scr ns => exact g2
      | rng lo hi => exact g2
      | dic kvs => exact g2
      | ty n => exact g2
      | cls C => exact g2
  · rcases set_some e1 with ⟨rfl, e'⟩ | ⟨g1, e'⟩
    · cases e'
    · rcases set_some e2 with ⟨rfl, e''⟩ | ⟨g2, e''⟩
      · cases e''
      · exact S.st.sep j1 j2 b xs' ys' hne e' e'' e3
  · obtain ⟨o, q'⟩ := S.bs0.tk b q
    rw [z, n] at q'; cases q'
theorem ds_freeze {i : Nat} {xs : List D} (e : es[i]? = some (some (.own xs))) (h : DS K t (es.set i (some (.d (.lst xs)))) B) : DS K t es B := fun F P M L σ H S E o => by
  obtain ⟨M', S'⟩ := S.freeze e
  exact h F P M' L σ H S' E o
/-- an owned list is changed -/
theorem Stf.upd (S : Stf K F P M L σ H es) {i : Nat} {xs ys : List D} {a : Addr} {ws : List V} (e : es[i]? = some (some (.own xs))) (hv : σ[i]? = some (some (.ref a))) (hw : IsAll K M H ws ys) : Stf K F P M L σ (L2.upd H a (.lst ws)) (es.set i (some (.own ys))) := by
  obtain ⟨v, hv', a', vs, rfl, m, n, l, h1, h2⟩ := S.st.ok i _ e
  rw [hv] at hv'
  cases hv'
  have bs := S.st.bs
  have kn : ∀ b o, ¬ M b → H b = some o → L2.upd H a (.lst ws) b = some o := fun b o q z => by rw [upd_ne (fun y => q (by rw [y]; exact m))]; exact z
  have kt := sqt_keep (K := K) (M := M) kn bs.tr
  have ki : ∀ {w : V} {x : D}, Is K M H w x → Is K M (L2.upd H a (.lst ws)) w x := fun {w x} q => Is.chg (fun b o z q => ⟨kn b o q z, q⟩) kt _ _ q
  have kia : ∀ {w : List V} {x : List D}, IsAll K M H w x → IsAll K M (L2.upd H a (.lst ws)) w x := fun {w x} q => IsAll.chg (fun b o z q => ⟨kn b o q z, q⟩) kt _ _ q
  have frz : ∀ b o u, H b = some (.frz o u) → L2.upd H a (.lst ws) b = some (.frz o u) := fun b o u z => by rw [upd_ne (fun y => by rw [y, h1] at z; cases z)]; exact z
  refine ⟨⟨⟨bs.lm, fun b o q z => ?_, fun b q => ?_, fun b q => ?_⟩, ?_, fun j z ez => ?_, fun p hp => PinOk.chg (fun b o z q => ⟨kn b o q z, q⟩) kt (S.st.pin p hp), fun j1 j2 b xs' ys' hne e1 e2 e3 => ?_⟩, S.bs0, ⟨fun b o q z => ?_, fun b q => ?_⟩, S.m0, S.lo, S.ln⟩
  · by_cases y : b = a
    · rw [y, upd_same] at z; cases z; exact True.intro
    · rw [upd_ne y] at z; exact bs.tr b o q z
  · by_cases y : b = a
    · rw [y]; exact ⟨_, upd_same⟩
    · rw [upd_ne y]; exact bs.tk b q
  · obtain ⟨g, m', z⟩ := bs.bag b q
    exact ⟨g, m', by rw [upd_ne (fun y => l (by rw [← y]; exact q))]; exact z⟩
  · rw [List.length_set]; exact S.st.len
  · rcases set_some ez with ⟨rfl, e'⟩ | ⟨hij, e'⟩
    · cases e'
      exact ⟨_, hv, a, ws, rfl, m, n, l, upd_same, kia hw⟩
    · obtain ⟨w, g1, g2⟩ := S.st.ok j z e'
      refine ⟨w, g1, ?_⟩
      cases z with
      | d x => exact ki g2
      | own zs =>
        obtain ⟨b, us, rfl, m', n', l', k1, k2⟩ := g2
        refine ⟨b, us, rfl, m', n', l', ?_, kia k2⟩
        rw [upd_ne]
        · exact k1
        · intro y
          subst y
          exact S.st.sep i j b xs zs hij e e' hv g1
      | new zs =>
        obtain ⟨b, us, _, n', k1, k2⟩ := g2
        rw [n'] at k1; cases k1
      | bag => exact g2
      | scr ns =>
        obtain ⟨b, z, y⟩ := g2
        exact ⟨b, z, y.keep frz⟩
      | rng lo hi =>
        obtain ⟨b, z, y⟩ := g2
        exact ⟨b, z, by rw [upd_ne (fun q => by rw [q, h1] at y; cases y)]; exact y⟩
      | dic kvs =>
        obtain ⟨b, z, y⟩ := g2
        exact ⟨b, z, by rw [upd_ne (fun q => by rw [q, h1] at y; cases y)]; exact y⟩
      | ty n => exact g2
      | cls C => exact g2
  · rcases set_some e1 with ⟨rfl, e'⟩ | ⟨g1, e'⟩
    · rcases set_some e2 with ⟨rfl, e''⟩ | ⟨g2, e''⟩
      · exact absurd rfl hne
      · exact S.st.sep _ j2 b xs ys' hne e e'' e3
    · rcases set_some e2 with ⟨rfl, e''⟩ | ⟨g2, e''⟩
      · exact S.st.sep j1 _ b xs' xs hne e' e e3
      · exact S.st.sep j1 j2 b xs' ys' hne e' e'' e3
  · rw [upd_ne (fun y => by rw [y, n] at z; cases z)]
    exact S.kp.k b o q z
  · have q := S.lo b q
    obtain ⟨g, m', z⟩ := bs.bag b q
    exact ⟨g, m', by rw [upd_ne (fun y => l (by rw [← y]; exact q))]; exact z⟩
theorem tyL {a : Addr} {H : Hp} {vs : List V} (h : H a = some (.lst vs)) : tyV K "list" (.ref a) H := .inl ⟨rfl, vs, .inl (.inl h)⟩
/-- an owned pair of numbers becomes a bag -/
theorem ds_tobag {i : Nat} {g m : Int} (e : es[i]? = some (some (.own [.int g, .int m]))) (h : DS K t (es.set i (some .bag)) B) : DS K t es B := fun F P M L σ H S E o => by
  obtain ⟨v, hv, a, vs, rfl, mm, n, l, h1, h2⟩ := S.st.ok i _ e
  have ev : vs = [.int g, .int m] := IsAll.ofInts (ns := [g, m]) h2
  subst ev
  refine h F P M (L.add a) σ H ⟨⟨⟨fun b q => q.elim (S.st.bs.lm b) fun z => by rw [z]; exact mm, S.st.bs.tr, S.st.bs.tk, fun b q => q.elim (S.st.bs.bag b) fun z => ⟨g, m, by rw [z]; exact h1⟩⟩, ?_, fun j z ez => ?_, S.st.pin, fun j1 j2 b xs' ys' hne e1 e2 e3 => ?_⟩, S.bs0, S.kp, S.m0, fun b q => .inl (S.lo b q), fun b q => q.elim (S.ln b) fun z => .inr (by rw [z]; exact n)⟩ E o
  · rw [List.length_set]; exact S.st.len
  · rcases set_some ez with ⟨rfl, e'⟩ | ⟨hij, e'⟩
    · cases e'
      exact ⟨_, hv, a, rfl, .inr rfl⟩
    · obtain ⟨w, g1, g2⟩ := S.st.ok j z e'
      refine ⟨w, g1, ?_⟩
      cases z with
      | own ys =>
        obtain ⟨b, ws, rfl, m', n', l', k1, k2⟩ := g2
        refine ⟨b, ws, rfl, m', n', fun q => q.elim l' fun z => ?_, k1, k2⟩
        subst z
        exact S.st.sep i j b _ ys hij e e' hv g1
      | bag =>
        obtain ⟨b, q1, q2⟩ := g2
        exact ⟨b, q1, .inl q2⟩
      | d x => exact g2
      | new ys => exact g2
      | scr ns => exact g2
      | rng lo hi => exact g2
      | dic kvs => exact g2
      | ty n => exact g2
      | cls C => exact g2
  · rcases set_some e1 with ⟨rfl, e'⟩ | ⟨g1, e'⟩
    · cases e'
    · rcases set_some e2 with ⟨rfl, e''⟩ | ⟨g2, e''⟩
      · cases e''
      · exact S.st.sep j1 j2 b xs' ys' hne e' e'' e3
/-- found.append(e) -/
theorem ds_app {i : Nat} {xs : List D} (e : es[i]? = some (some (.own xs))) (h : DE K te es fun s => ∃ x, s.dat = some x ∧ xs.length < 100000 ∧ B.nx (es.set i (some (.own (xs ++ [x]))))) :
    DS K (tDrop (tBM K "list" rAppend (tVar i) (tCons te tNil))) es B := fun F P M L σ H S E o => by
  obtain ⟨v, hv, a, vs, rfl, m, n, l, h1, h2⟩ := S.st.ok i _ e
  refine ⟨.ref a, hv, tyL h1, h P _ M L σ H S.st _ fun s w H' k ok q => ?_⟩
  obtain ⟨x, ex, hz, q⟩ := q
  have h1' := k.k _ _ l h1
  have S' := S.kp' k
  have ia := IsAll.kp k S.st.bs h2
  have ix : Is K M H' w x := ok.data S.st.bs ex
  refine ⟨a, vs, w, rfl, rfl, h1', by rw [h2.len]; exact Nat.lt_of_lt_of_le hz (by decide), ?_⟩
  exact o.nx _ _ _ _ _ (S'.upd e hv (ia.append (.cons ix .nil))) q
/-- found[k] = e -/
theorem ds_put {i : Nat} {xs : List D} {ti : TE} (e : es[i]? = some (some (.own xs))) (h : DE K te es fun s => ∃ x, s.dat = some x ∧ DE K ti es fun z => ∃ n j, z = .d (.int n) ∧ ixN xs.length n = some j ∧ B.nx (es.set i (some (.own (xs.set j x))))) :
    DS K (tAsg te (gSub (tVar i) ti rSetL)) es B := fun F P M L σ H S E o => by
  obtain ⟨v, hv, a, vs, rfl, m, n, l, h1, h2⟩ := S.st.ok i _ e
  refine h P _ M L σ H S.st _ fun s w H1 k1 ok q => ?_
  obtain ⟨x, ex, q⟩ := q
  have ix : Is K M H1 w x := ok.data S.st.bs ex
  refine ⟨.ref a, hv, q P _ M L σ H1 (S.kp' k1).st _ fun z u H2 k2 oz q2 => ?_⟩
  obtain ⟨nn, j, rfl, hj, q2⟩ := q2
  cases oz
  have k12 := k1.trans k2
  have S' := S.kp' k12
  refine ⟨a, vs, nn, j, rfl, rfl, k12.k _ _ l h1, by rw [h2.len]; exact hj, ?_⟩
  exact o.nx _ _ _ _ _ (S'.upd e hv ((IsAll.kp k12 S.st.bs h2).set (Is.kp k2 (k1.bs S.st.bs) ix) j)) q2
/-- x, y = e, e' -/
theorem ds_par {i j : Nat} (hij : i ≠ j) (h : DE K ta es fun s => DE K tb es fun z => s.nown ∧ z.nown ∧ B.nx ((es.set i (some s.sto)).set j (some z.sto))) : DS K (tPar i j (tCons ta (tCons tb tNil))) es B := fun F P M L σ H S E o => by
  refine h P _ M L σ H S.st _ fun s v H1 k1 o1 q1 => ?_
  by_cases hn : ∃ xs, s = .new xs
  · obtain ⟨xs, rfl⟩ := hn
    obtain ⟨a, vs, rfl, n, h1, h2⟩ := o1
    obtain ⟨S1, old⟩ := S.claim k1 n h1
    have la : ¬ L a := fun l => fresh_nm S.st.bs n (S.st.bs.lm a l)
    refine q1 P _ _ L σ H1 S1.st _ fun z w H2 k2 o2 q2 => ?_
    obtain ⟨n1, n2, q⟩ := q2
    refine ⟨.ref a, w, rfl, ?_⟩
    have h1' := k2.k _ _ la h1
    have h2' := IsAll.kp k2 S1.st.bs h2
    by_cases hm : ∃ ys, z = .new ys
    · obtain ⟨ys, rfl⟩ := hm
      obtain ⟨b, us, rfl, nb, g1, g2⟩ := o2
      obtain ⟨S2, old2⟩ := S1.claim k2 nb g1
      have ab : a ≠ b := fun e => by rw [← e, h1] at nb; cases nb
      have h2'' : IsAll K ((M.add a).add b) H2 vs xs := IsAll.chg (fun b' o' e m => ⟨k2.k b' o' (fun l => m (.inl (S1.st.bs.lm b' l))) e, m⟩) (sqt_keep (M := M.add a) (fun b' o' m e => k2.k b' o' (fun l => m (S1.st.bs.lm b' l)) e) S1.st.bs.tr) _ _ (h2.add nb)
      have S3 := S2.seto (i := i) (.inl (.inr rfl)) (S.kp.was n) la h1' h2'' fun j zs _ => old j zs
      refine o.nx _ _ _ _ _ (S3.seto (i := j) (.inr rfl) (S1.kp.was nb) (fun l => fresh_nm S1.st.bs nb (S1.st.bs.lm b l)) g1 g2 fun j' zs hj e => ?_) q
      rcases set_some e with ⟨rfl, _⟩ | ⟨hij', e'⟩
      · have hl : i < σ.length := by
          have := (List.getElem?_eq_some_iff.mp e).1
          rw [List.length_set] at this
          rw [S.st.len]; exact this
        rw [List.getElem?_set_self hl]
        intro zz
        cases zz
        exact ab rfl
      · rw [List.getElem?_set_ne hij']
        exact old2 j' zs e'
    · have hp : ∀ xs, z ≠ .new xs := fun xs e => hm ⟨xs, e⟩
      rw [SV.sto_plain hp] at q
      have S3 := (S1.kp' k2).seto (i := i) (.inr rfl) (S.kp.was n) la h1' h2' fun j zs _ => old j zs
      exact o.nx _ _ _ _ _ (S3.setp (o2.plain hp) n2) q
  · have hp : ∀ xs, s ≠ .new xs := fun xs e => hn ⟨xs, e⟩
    refine q1 P _ M L σ H1 (S.kp' k1).st _ fun z w H2 k2 o2 q2 => ?_
    obtain ⟨n1, n2, q⟩ := q2
    rw [SV.sto_plain hp] at q
    refine ⟨v, w, rfl, ?_⟩
    have S1 := S.kp' k1
    by_cases hm : ∃ ys, z = .new ys
    · obtain ⟨ys, rfl⟩ := hm
      obtain ⟨b, us, rfl, nb, g1, g2⟩ := o2
      obtain ⟨S2, old2⟩ := S1.claim k2 nb g1
      have S3 := S2.setp (i := i) ((o1.plain (H1 := H1) hp).lift S1.st.bs k2 nb) n1
      refine o.nx _ _ _ _ _ (S3.seto (i := j) (.inr rfl) (S1.kp.was nb) (fun l => fresh_nm S1.st.bs nb (S1.st.bs.lm b l)) g1 g2 fun j' zs hj e => ?_) q
      rcases set_some e with ⟨rfl, e'⟩ | ⟨hij', e'⟩
      · cases s with
        | own xs => exact n1.elim
        | _ => cases e'
      · rw [List.getElem?_set_ne hij']
        exact old2 j' zs e'
    · have hq : ∀ xs, z ≠ .new xs := fun xs e => hm ⟨xs, e⟩
      rw [SV.sto_plain hq] at q
      have o1' : SvOk K (fun a => F.H0 a = none) M L H2 H2 v s := (SvOk.kp (H0 := H1) S1.st.bs (Kp.refl S1.st.bs) k2 (o1.plain hp)).plain hp
      exact o.nx _ _ _ _ _ (((S1.kp' k2).setp (i := i) o1' n1).setp (o2.plain hq) n2) q
end
end DL

namespace DL
open PySem PySem.Spec PyProof.Rows L2

/-! ### repr of data -/
def rRepr (K : PySem.W.Frag) : List V → Hp → VK → Prop := fun vs H Q => ∃ (v : V) (d : PyData), vs = [v] ∧ Dp K H v d ∧ d.showable = true ∧ d.hasDict = false ∧ d.shown.length ≤ sizeLine ∧ d.depth ≤ 60 ∧ Q (.str d.shown) H
theorem call_repr {X : Cx} (gu : X.A.guards = some []) (hu : X.A.units + 64 < cLine) : CallR X (.builtin "repr") (rRepr X.K) := by
  intro pins s σ H xs us Q I r h
  obtain ⟨v, d, rfl, hd, hs, hk, hz, hp, q⟩ := h
  obtain ⟨u, rfl, ru⟩ := vals1 r
  have rd := Dp.reads I d v u hd ru
  have fin : ∀ (h' : Heap) (t tk : Nat), (∀ b o, s.heap.get? b = some o → h'.get? b = some o) → EP X pins σ Q (.str d.shown t) { s with heap := h', toks := tk } := fun h' t tk k => ⟨.str d.shown, H, I.kept k, ⟨t, rfl⟩, q⟩
  cases hd with
  | non =>
    cases ru
    exact PySem.P.repr_of_none (fin _ _ _ fun _ _ e => e)
  | bl b =>
    cases ru
    exact PySem.P.repr_of_bool (fin _ _ _ fun _ _ e => e)
  | int i =>
    obtain ⟨t, rfl⟩ := ru
    exact PySem.P.repr_of_int (of_decide_eq_true hs) (fin _ _ _ fun _ _ e => e)
  | str x =>
    obtain ⟨t, rfl⟩ := ru
    exact PySem.P.repr_of_str (fin _ _ _ fun _ _ e => e) hz
  | lst h1 h2 =>
    cases ru
    obtain ⟨as, rd⟩ := rd
    exact repr_of_reads' rd hs (PyData.noDict_hsm hk) gu (by omega) (fun _ _ e => e) (fun h' u tk k => fin h' u tk k) hz
  | tup h1 h2 =>
    cases ru
    obtain ⟨as, rd⟩ := rd
    exact repr_of_reads' rd hs (PyData.noDict_hsm hk) gu (by omega) (fun _ _ e => e) (fun h' u tk k => fin h' u tk k) hz
/-- the text that repr tells -/
def D.shown (d : D) : Str := d.py.shown
/-! what may be shown and compared: no object, texts of signs, numbers within 2^1900, so deep, so heavy -/
mutual
def D.fine : D → Bool
  | .non => true
  | .bl _ => true
  | .int i => decide (i.natAbs.log2 < 1900)
  | .str x => x.cps.all (· < 0x110000)
  | .lst xs => D.fineAll xs
  | .tup xs => D.fineAll xs
  | .obj _ _ => false
def D.fineAll : List D → Bool
  | [] => true
  | d :: ds => D.fine d && D.fineAll ds
end
mutual
def D.wt : D → Nat
  | .non => 8
  | .bl _ => 8
  | .int i => i.natAbs.log2 + 8
  | .str x => 10 * x.length + 8
  | .lst xs => 8 + D.wtAll xs
  | .tup xs => 8 + D.wtAll xs
  | .obj _ _ => 0
def D.wtAll : List D → Nat
  | [] => 0
  | d :: ds => D.wt d + 2 + D.wtAll ds
end
mutual
def D.dep : D → Nat
  | .lst xs => D.depAll xs + 1
  | .tup xs => D.depAll xs + 1
  | _ => 0
def D.depAll : List D → Nat
  | [] => 0
  | d :: ds => max (D.dep d) (D.depAll ds)
end
/-- fit to be shown: weight n, depth k -/
structure Fit (n k : Nat) (d : D) : Prop where
  f : d.fine = true
  w : d.wt ≤ n
  d : d.dep ≤ k
structure FitA (n k : Nat) (ds : List D) : Prop where
  f : D.fineAll ds = true
  w : D.wtAll ds ≤ n
  d : D.depAll ds ≤ k
theorem log2_le_of_lt {n m : Nat} (h : n < 2 ^ m) (hm : 0 < m) : n.log2 < m := by
  by_cases hn : n = 0
  · subst hn; simpa using hm
  · exact (Nat.log2_lt hn).mpr h
theorem FitA.nil : FitA 0 0 [] := ⟨rfl, Nat.le_refl _, Nat.le_refl _⟩
theorem FitA.cons {n m k j : Nat} {d : D} {ds : List D} (h : Fit n k d) (t : FitA m j ds) : FitA (n + 2 + m) (max k j) (d :: ds) := ⟨by
  show (D.fine d && D.fineAll ds) = true
  rw [h.f, t.f]; rfl, by
  show D.wt d + 2 + D.wtAll ds ≤ _
  have := h.w; have := t.w; omega, by
  show max (D.dep d) (D.depAll ds) ≤ _
  have := h.d; have := t.d; omega⟩
theorem FitA.of {n k : Nat} : ∀ {m : Nat} {ds : List D}, (∀ d ∈ ds, Fit n k d) → ds.length ≤ m → FitA (m * (n + 2)) k ds
  | m, [], _, _ => ⟨rfl, Nat.zero_le _, Nat.zero_le _⟩
  | 0, d :: ds, _, l => by simp at l
  | m + 1, d :: ds, h, l => by
    have h1 := h d List.mem_cons_self
    have h2 := FitA.of (m := m) (fun x hx => h x (List.mem_cons_of_mem _ hx)) (by simpa using l)
    have h3 := FitA.cons h1 h2
    refine ⟨h3.f, Nat.le_trans h3.w ?_, Nat.le_trans h3.d (by omega)⟩
    rw [Nat.succ_mul]; omega
theorem Fit.non : Fit 8 0 .non := ⟨rfl, Nat.le_refl _, Nat.le_refl _⟩
theorem Fit.bl (b : Bool) : Fit 8 0 (.bl b) := ⟨rfl, Nat.le_refl _, Nat.le_refl _⟩
theorem Fit.int {m : Nat} {i : Int} (h : i.natAbs < 2 ^ m) (hm : 0 < m) (hz : m ≤ 1900) : Fit (m + 8) 0 (.int i) := ⟨by
  show decide (i.natAbs.log2 < 1900) = true
  have := log2_le_of_lt h hm
  exact decide_eq_true (by omega), by
  show i.natAbs.log2 + 8 ≤ _
  have := log2_le_of_lt h hm
  omega, Nat.le_refl _⟩
theorem Fit.str {m : Nat} {x : Str} (h : x.cps.all (· < 0x110000) = true) (l : x.length ≤ m) : Fit (10 * m + 8) 0 (.str x) := ⟨h, by
  show 10 * x.length + 8 ≤ _
  omega, Nat.le_refl _⟩
theorem Fit.lst {n k : Nat} {ds : List D} (h : FitA n k ds) : Fit (8 + n) (k + 1) (.lst ds) := ⟨h.f, Nat.add_le_add_left h.w _, Nat.succ_le_succ h.d⟩
theorem Fit.tup {n k : Nat} {ds : List D} (h : FitA n k ds) : Fit (8 + n) (k + 1) (.tup ds) := ⟨h.f, Nat.add_le_add_left h.w _, Nat.succ_le_succ h.d⟩
theorem Fit.mono {n m k j : Nat} {d : D} (h : Fit n k d) (a : n ≤ m) (b : k ≤ j) : Fit m j d := ⟨h.f, Nat.le_trans h.w a, Nat.le_trans h.d b⟩
mutual
theorem fine_plain : ∀ d : D, d.fine = true → d.plain = true
  | .non, _ => rfl
  | .bl _, _ => rfl
  | .int _, _ => rfl
  | .str _, _ => rfl
  | .lst xs, h => fineAll_plain xs h
  | .tup xs, h => fineAll_plain xs h
theorem fineAll_plain : ∀ ds : List D, D.fineAll ds = true → D.plainAll ds = true
  | [], _ => rfl
  | d :: ds, h => by
    have h' := Bool.and_eq_true_iff.mp (show (D.fine d && D.fineAll ds) = true from h)
    show (D.plain d && D.plainAll ds) = true
    rw [fine_plain d h'.1, fineAll_plain ds h'.2]; rfl
end
mutual
theorem fine_lay : ∀ d : D, d.fine = true → d.py.canLay0 = true
  | .non, _ => rfl
  | .bl _, _ => rfl
  | .int _, _ => rfl
  | .str _, h => h
  | .lst xs, h => fineAll_lay xs h
  | .tup xs, h => fineAll_lay xs h
theorem fineAll_lay : ∀ ds : List D, D.fineAll ds = true → PyData.canLayAll0 (D.pyAll ds) = true
  | [], _ => rfl
  | d :: ds, h => by
    have h' := Bool.and_eq_true_iff.mp (show (D.fine d && D.fineAll ds) = true from h)
    show (PyData.canLay0 d.py && PyData.canLayAll0 (D.pyAll ds)) = true
    rw [fine_lay d h'.1, fineAll_lay ds h'.2]; rfl
end
mutual
theorem fine_show : ∀ d : D, d.fine = true → d.py.showable = true
  | .non, _ => rfl
  | .bl _, _ => rfl
  | .int i, h => by
    have h' : i.natAbs.log2 < 1900 := of_decide_eq_true h
    exact decide_eq_true (by omega)
  | .str _, h => rfl
  | .lst xs, h => fineAll_show xs h
  | .tup xs, h => fineAll_show xs h
theorem fineAll_show : ∀ ds : List D, D.fineAll ds = true → PyData.showableAll (D.pyAll ds) = true
  | [], _ => rfl
  | d :: ds, h => by
    have h' := Bool.and_eq_true_iff.mp (show (D.fine d && D.fineAll ds) = true from h)
    show (PyData.showable d.py && PyData.showableAll (D.pyAll ds)) = true
    rw [fine_show d h'.1, fineAll_show ds h'.2]; rfl
end
mutual
theorem py_dict : ∀ d : D, d.py.hasDict = false
  | .non => rfl
  | .bl _ => rfl
  | .int _ => rfl
  | .str _ => rfl
  | .lst xs => pyAll_dict xs
  | .tup xs => pyAll_dict xs
  | .obj _ _ => rfl
theorem pyAll_dict : ∀ ds : List D, PyData.hasDictAll (D.pyAll ds) = false
  | [] => rfl
  | d :: ds => by
    show (PyData.hasDict d.py || PyData.hasDictAll (D.pyAll ds)) = false
    rw [py_dict d, pyAll_dict ds]; rfl
end
mutual
theorem py_depth : ∀ d : D, d.py.depth ≤ d.dep + 1
  | .non => by simp [D.py, PyData.depth]
  | .bl _ => by simp [D.py, PyData.depth]
  | .int _ => by simp [D.py, PyData.depth]
  | .str _ => by simp [D.py, PyData.depth]
  | .lst xs => by
    have := pyAll_depth xs
    show PyData.depth (.list (D.pyAll xs)) ≤ D.depAll xs + 1 + 1
    simp only [PyData.depth]; omega
  | .tup xs => by
    have := pyAll_depth xs
    show PyData.depth (.tuple (D.pyAll xs)) ≤ D.depAll xs + 1 + 1
    simp only [PyData.depth]; omega
  | .obj _ _ => by simp [D.py, PyData.depth]
theorem pyAll_depth : ∀ ds : List D, PyData.depthAll (D.pyAll ds) ≤ D.depAll ds + 1
  | [] => by simp [D.pyAll, PyData.depthAll]
  | d :: ds => by
    have h1 := py_depth d
    have h2 := pyAll_depth ds
    show PyData.depthAll (d.py :: D.pyAll ds) ≤ max (D.dep d) (D.depAll ds) + 1
    simp only [PyData.depthAll]; omega
end
theorem textFrom_up : ∀ (ts : List Str) (k : Nat) (acc : Str), (textFrom k acc ts).length ≤ acc.length + piled ts
  | [], _, acc => by show acc.length ≤ _; omega
  | t :: r, k, acc => by
    have h := textFrom_up r (k + 1) (acc ++ (if k > 0 then ", " else "" : String) ++ t)
    rw [piled_cons]
    have e : (acc ++ (if k > 0 then ", " else "" : String) ++ t).length ≤ acc.length + 2 + t.length := by
      rw [strLen_append, strLen_append]
      split
      · exact Nat.le_refl _
      · show acc.length + 0 + t.length ≤ _
        omega
    show (textFrom (k + 1) (acc ++ (if k > 0 then ", " else "" : String) ++ t) r).length ≤ _
    omega
end DL

namespace DL
open PySem PySem.Spec PyProof.Rows L2
theorem listText_up (ts : List Str) : (listText ts).length ≤ 2 + piled ts := by
  unfold listText
  have h := textFrom_up ts 0 "["
  rw [strLen_append]
  have e1 : (("[" : String) : Str).length = 1 := rfl
  have e2 : (("]" : String) : Str).length = 1 := rfl
  rw [e1] at h
  rw [e2]; omega
theorem tupleText_up (ts : List Str) : (tupleText ts).length ≤ 3 + piled ts := by
  unfold tupleText
  rw [strLen_append, strLen_append]
  have e1 : (("(" : String) : Str).length = 1 := rfl
  have e2 : ((if ts.length == 1 then ",)" else ")" : String) : Str).length ≤ 2 := by split <;> decide
  have e3 : (Str.join ", " ts).length ≤ piled ts := by
    by_cases h : ts = []
    · subst h; exact Nat.zero_le _
    · have := join_length_add ts h; omega
  rw [e1]; omega
theorem cps_all {x : Str} (h : x.cps.all (· < 0x110000) = true) : ∀ c ∈ x.cps.toList, c < 16 ^ 8 := fun c hc => by
  have h' := (Array.all_eq_true_iff_forall_mem.mp h) c (by simpa using hc)
  have := of_decide_eq_true h'
  omega
mutual
theorem shown_wt : ∀ d : D, d.fine = true → d.py.shown.length ≤ d.wt
  | .non, _ => by decide
  | .bl b, _ => by cases b <;> decide
  | .int i, _ => by
    show (Str.ofString (toString i)).length ≤ i.natAbs.log2 + 8
    rw [PySem.ofString_length]
    have := int_text_length_le (a := i) (k := i.natAbs.log2 + 1) (Nat.succ_pos _) (Nat.lt_succ_self _)
    omega
  | .str x, h => by
    show (reprText x).length ≤ 10 * x.length + 8
    have := StrLaws.reprText_len x (cps_all h)
    omega
  | .lst xs, h => by
    have := shownAll_wt xs h
    show (listText (PyData.shownAll (D.pyAll xs))).length ≤ 8 + D.wtAll xs
    have := listText_up (PyData.shownAll (D.pyAll xs))
    omega
  | .tup xs, h => by
    have := shownAll_wt xs h
    show (tupleText (PyData.shownAll (D.pyAll xs))).length ≤ 8 + D.wtAll xs
    have := tupleText_up (PyData.shownAll (D.pyAll xs))
    omega
theorem shownAll_wt : ∀ ds : List D, D.fineAll ds = true → piled (PyData.shownAll (D.pyAll ds)) ≤ D.wtAll ds
  | [], _ => Nat.le_refl _
  | d :: ds, h => by
    have h' := Bool.and_eq_true_iff.mp (show (D.fine d && D.fineAll ds) = true from h)
    have h1 := shown_wt d h'.1
    have h2 := shownAll_wt ds h'.2
    show piled (PyData.shown d.py :: PyData.shownAll (D.pyAll ds)) ≤ D.wt d + 2 + D.wtAll ds
    rw [piled_cons]; omega
end
theorem Fit.shaped {n k : Nat} {d : D} (h : Fit n k d) (hk : k ≤ 40) : SeqAt.shaped d.py = true := by
  show (PyData.canLay0 d.py && decide (d.py.depth ≤ 64)) = true
  rw [fine_lay d h.f, Bool.true_and]
  have := py_depth d
  have := h.d
  exact decide_eq_true (by omega)
mutual
theorem eqv_self : ∀ d : D, d.fine = true → PyData.eqv d.py d.py = true
  | .non, _ => rfl
  | .bl b, _ => by show (b == b) = true; simp
  | .int i, _ => by show (i == i) = true; simp
  | .str x, _ => by show (x == x) = true; simp
  | .lst xs, h => eqvAll_self xs h
  | .tup xs, h => eqvAll_self xs h
theorem eqvAll_self : ∀ ds : List D, D.fineAll ds = true → PyData.eqvAll (D.pyAll ds) (D.pyAll ds) = true
  | [], _ => rfl
  | d :: ds, h => by
    have h' := Bool.and_eq_true_iff.mp (show (D.fine d && D.fineAll ds) = true from h)
    show (PyData.eqv d.py d.py && PyData.eqvAll (D.pyAll ds) (D.pyAll ds)) = true
    rw [eqv_self d h'.1, eqvAll_self ds h'.2]; rfl
end
section
variable {K : PySem.W.Frag} {N L M : AP} {H0 H1 H H' : Hp} {σ : L2.St} {es : Env'} {ta tb tc te : TE} {tt tu : TT} {Q : SV → Prop} {t u : TS} {B : DEnds}
theorem rc_repr {s : SV} {x : D} {n k : Nat} (e : s.rd = some x) (h : Fit n k x) (hn : n ≤ 16000000) (hk : k ≤ 40) (q : Q (.d (.str x.shown))) : RC K (rRepr K) [s] Q := fun N M L H0 H vs b kk o R r => by
  obtain ⟨v, rfl, hv⟩ := o.one
  refine ⟨v, x.py, rfl, hv.dp b e (fine_plain x h.f), fine_show x h.f, py_dict x, ?_, ?_, r (.d (.str x.shown)) _ H (Kp.refl (kk.bs b)) (Is.str _) q⟩
  · rw [sizeLine_eq]
    have := shown_wt x h.f
    have := h.w
    omega
  · have := py_depth x
    have := h.d
    omega
/-- == of two that are fit -/
theorem rr_eqF {s1 s2 : SV} {x y : D} {n1 n2 k1 k2 : Nat} (e1 : s1.rd = some x) (e2 : s2.rd = some y) (h1 : Fit n1 k1 x) (h2 : Fit n2 k2 y) (l1 : k1 ≤ 40) (l2 : k2 ≤ 40) (q : Q (.d (.bl (PyData.eqv x.py y.py)))) : RR K (rEqD K) s1 s2 Q :=
  rr_eq e1 e2 (fine_plain x h1.f) (fine_plain y h2.f) (h1.shaped l1) (h2.shaped l2) q
theorem rr_neF {s1 s2 : SV} {x y : D} {n1 n2 k1 k2 : Nat} (e1 : s1.rd = some x) (e2 : s2.rd = some y) (h1 : Fit n1 k1 x) (h2 : Fit n2 k2 y) (l1 : k1 ≤ 40) (l2 : k2 ≤ 40) (q : Q (.d (.bl (!PyData.eqv x.py y.py)))) : RR K (rNeD K) s1 s2 Q :=
  rr_ne e1 e2 (fine_plain x h1.f) (fine_plain y h2.f) (h1.shaped l1) (h2.shaped l2) q

/-! ### isinstance -/
def D.tyN : D → String
  | .non => "NoneType"
  | .bl _ => "bool"
  | .int _ => "int"
  | .str _ => "str"
  | .lst _ => "list"
  | .tup _ => "tuple"
  | .obj _ _ => "object"
theorem Is.ty {v : V} {x : D} (h : Is K M H v x) (p : x.plain = true) : TyX K H v (.type x.tyN) := by
  cases h with
  | non => exact .base .non
  | bl b => exact .base (.bl b)
  | int i => exact .base (.int i)
  | str y => exact .base (.str y)
  | lst h1 h2 h3 => exact .base (.lst h1)
  | tup h1 h3 => exact .base (.tup h1)
  | tupK h1 h3 h4 =>
    obtain ⟨o, its, m, h, hc, _⟩ := h1
    exact .kTuple h hc
  | tup0 h1 =>
    rcases h1 with (h | ⟨o, h⟩) | ⟨o, its, m, h, hc, _⟩
    · exact .base (.tup h)
    · exact .fTuple h
    · exact .kTuple h hc
  | obj h1 h2 h3 => cases p
theorem rc_isi {x : D} {T : String} {b : Bool} (p : x.plain = true) (hk : kitB x.tyN T = some b) (q : Q (.d (.bl b))) : RC K (rIsi K) [.d x, .ty T] Q := fun N M L H0 H vs bb k o R r => by
  obtain ⟨v, w, rfl, hv, hw⟩ := o.two
  have hw' : w = V.ty T := hw
  subst hw'
  exact ⟨v, .ty T, .type x.tyN, .type T, b, rfl, .ty T, Is.ty hv p, kit_ty hk, r (.d (.bl b)) _ H (Kp.refl (k.bs bb)) (Is.bl b) q⟩
theorem de_ty {n : String} (q : Q (.ty n)) : DE K (tC (.ty n)) es Q := fun P N M L σ H S R r => r (.ty n) _ H (Kp.refl S.bs) rfl q
/-! ### range as a value, in -/
theorem rc_rng {i j : Int} (q : Q (.rng i j)) : RC K (fun vs H Q => ∃ i j, vs = [V.int i, V.int j] ∧ ∀ p, H p = none → Q (.ref p) (upd H p (.rng i j))) [.d (.int i), .d (.int j)] Q := fun N M L H0 H vs b k o R r => by
  obtain ⟨v, w, rfl, hv, hw⟩ := o.two
  cases hv
  cases hw
  exact ⟨i, j, rfl, fun p hp => r (.rng i j) _ _ (Kp.new (k.bs b) hp) ⟨p, rfl, upd_same⟩ q⟩
theorem rr_inR {i lo hi : Int} (q : Q (.d (.bl (decide (lo ≤ i ∧ i < hi))))) : RR K (fun x y H Q => ∃ i a lo hi, x = V.int i ∧ y = V.ref a ∧ H a = some (.rng lo hi) ∧ Q (.bl (decide (lo ≤ i ∧ i < hi))) H) (.d (.int i)) (.rng lo hi) Q := fun N M L H0 H v1 v2 b k o1 o2 R r => by
  cases o1
  obtain ⟨a, rfl, h⟩ := o2
  exact ⟨i, a, lo, hi, rfl, rfl, h, r (.d (.bl _)) _ H (Kp.refl (k.bs b)) (Is.bl _) q⟩
/-- not in a range -/
def rNotInR : R2 := fun x y H Q => ∃ i a lo hi, x = V.int i ∧ y = V.ref a ∧ H a = some (.rng lo hi) ∧ Q (.bl (!decide (lo ≤ i ∧ i < hi))) H
theorem op_notInR {X : Cx} : OpR X (compareOp .NotIn) rNotInR := by
  intro pins s σ H x y v u Q I rx ry h
  obtain ⟨i, a, lo, hi, rfl, rfl, ha, q⟩ := h
  obtain ⟨k, rfl⟩ := rx
  cases (show u = Value.ref a from ry)
  obtain ⟨t1, t2, t3, ho⟩ := I.hok a _ ha
  show wpAny _ _ (do return Value.bool (!(← contains (Value.ref a) (Value.int i k)))) _ _ s
  refine wpAny_bind (wpAny_contains_slot (T := "range") ⟨_, ho, rfl⟩ F.slot_range_contains ?_)
  refine call_meets F.slot_range_contains ⟨_, ho, rfl⟩ F.entry_range_contains (F.args_range_contains_2 _ _) (q_contains a lo hi i t1 t2 t3 k) ⟨ho, ?_⟩
  refine wpAny_truthy_bool (wpAny_pure ⟨.bl _, H, I, rfl, ?_⟩)
  rw [place1]
  exact q
theorem rr_notInR {i lo hi : Int} (q : Q (.d (.bl (!decide (lo ≤ i ∧ i < hi))))) : RR K rNotInR (.d (.int i)) (.rng lo hi) Q := fun N M L H0 H v1 v2 b k o1 o2 R r => by
  cases o1
  obtain ⟨a, rfl, h⟩ := o2
  exact ⟨i, a, lo, hi, rfl, rfl, h, r (.d (.bl _)) _ H (Kp.refl (k.bs b)) (Is.bl _) q⟩
end
end DL

namespace DL
open PySem PySem.Spec PyProof.Rows L2
/-! ### defs -/
def nownAll : List SV → Prop
  | [] => True
  | s :: ss => s.nown ∧ nownAll ss
def SV.arg : SV → SV
  | .new xs => .d (.lst xs)
  | s => s
def spD (K : PySem.W.Frag) (n : Nat) (pre : List SV → Prop) (post : List SV → SV → Prop) : Sp := fun vs H Q _ => ∃ M L ss, Bs L M H ∧ SvAll K NO M L H H vs ss ∧ ss.length = n ∧ pre ss ∧ ∀ r v H', Kp L H H' → SvOk K NO M L H H' v r → post ss r → Q v H'
section
variable {K : PySem.W.Frag} {N L M : AP} {H0 H1 H H' : Hp} {σ : L2.St} {es : Env'} {ta tb tc te : TE} {tt tu : TT} {Q : SV → Prop} {t u : TS} {B : DEnds} {pre : List SV → Prop} {post : List SV → SV → Prop}
theorem spD.len {n : Nat} {vs : List V} {Q : VK} {E : XK} (h : spD K n pre post vs H Q E) : vs.length = n := by
  obtain ⟨M, L, ss, _, h2, h3, _⟩ := h
  rw [h2.len, h3]
theorem SvAll.get : ∀ {ss : List SV} {vs : List V} {i : Nat} {s : SV}, SvAll K N M L H0 H vs ss → ss[i]? = some s → ∃ v, vs[i]? = some v ∧ SvOk K N M L H0 H v s
  | _, _, _, _, .nil, e => by simp at e
  | _, _, 0, _, .cons h _, e => by simp at e; subst e; exact ⟨_, rfl, h⟩
  | _, _, i + 1, _, .cons _ h, e => by
    obtain ⟨v, h1, h2⟩ := SvAll.get (i := i) h (by simpa using e)
    exact ⟨v, by simpa using h1, h2⟩
theorem SvOk.noN {v : V} {s : SV} (h : SvOk K NO M L H0 H v s) : SvOk K N M L H0 H v s := by
  cases s with
  | own xs =>
    obtain ⟨_, _, _, _, n, _⟩ := h
    exact n.elim
  | _ => exact h
/-- the slots at a def's entry -/
def startE (n : Nat) (ss : List SV) : Env' := ss.map some ++ List.replicate (n - ss.length) none
theorem body_of {n : Nat} {names : List Str} {vs : List V} {R : VK} {E : XK} (h : spD K n pre post vs H R E) (hb : ∀ ss, ss.length = n → pre ss → DS K t (startE names.length ss) { nx := fun _ => post ss (.d .non), rt := post ss }) :
    t { nx := fun _ H' => R .non H', rt := R } (L2.start names vs) H := by
  obtain ⟨M, L, ss, bs, hv, hl, hp, q⟩ := h
  have no_ : ∀ (i : Nat) (s : SV), (startE names.length ss)[i]? = some (some s) → ss[i]? = some s := fun i s e => by
    unfold startE at e
    by_cases hi : i < ss.length
    · rw [List.getElem?_append_left (by simpa using hi), List.getElem?_map] at e
      cases z : ss[i]? with
      | none => rw [z] at e; cases e
      | some y => rw [z] at e; cases e; rfl
    · rw [List.getElem?_append_right (by simpa using hi), List.getElem?_replicate] at e
      split at e <;> cases e
  have nown : ∀ (i : Nat) (xs : List D), ss[i]? ≠ some (.own xs) := fun i xs e => by
    obtain ⟨v, _, _, _, _, _, n, _⟩ := hv.get e
    exact n
  have sl : ∀ (i : Nat) (v : V), vs[i]? = some v → (L2.start names vs)[i]? = some (some v) := fun i v e => by
    have hi := (List.getElem?_eq_some_iff.mp e).1
    unfold L2.start
    rw [List.getElem?_append_left (by simpa using hi), List.getElem?_map, e]
    rfl
  have S : Stf K ⟨M, L, H⟩ [] M L (L2.start names vs) H (startE names.length ss) := by
    refine ⟨⟨bs, ?_, fun i s e => ?_, fun p hp => absurd hp (by simp), fun i j a xs ys _ e _ _ => absurd (no_ i _ e) (nown i xs)⟩, bs, Kp.refl bs, fun _ h => h, fun _ h => h, fun _ h => .inl h⟩
    · unfold L2.start startE
      rw [List.length_append, List.length_append, List.length_map, List.length_map, List.length_replicate, List.length_replicate, hv.len]
    · obtain ⟨v, h1, h2⟩ := hv.get (no_ i s e)
      exact ⟨v, sl i v h1, h2.noN⟩
  refine hb ss hl hp ⟨M, L, H⟩ [] M L _ H S _ ⟨fun e M' L' σ' H' S' z => ?_, fun s v H' k ok z => q s v H' k ok z, fun _ _ _ _ _ _ z => z, fun _ _ _ _ _ _ z => z, trivial⟩
  exact q (.d .non) .non H' S'.kp Is.non z
theorem SvAll.args (bs0 : Bs L M H0) (k : Kp L H0 H) : ∀ {vs : List V} {ss : List SV}, SvAll K N M L H0 H vs ss → nownAll ss → SvAll K NO M L H H vs (ss.map SV.arg)
  | _, _, .nil, _ => .nil
  | _, _, .cons (s := s) h t, ⟨n1, n2⟩ => by
    refine .cons ?_ (SvAll.args bs0 k t n2)
    cases s with
    | new xs =>
      obtain ⟨a, vs, rfl, n, h1, h2⟩ := h
      exact Is.lst h1 (fresh_nm bs0 n) (h2.sub AP.sub_add)
    | own xs => exact n1.elim
    | d x => exact h
    | bag => exact h
    | scr ns => exact h
    | rng lo hi => exact h
    | dic kvs => exact h
    | ty n => exact h
    | cls C => exact h
theorem de_call {n : Nat} {tr : TA} {E : XK} (h : DA K tr es fun ss => nownAll ss ∧ ss.length = n ∧ pre (ss.map SV.arg) ∧ ∀ r, post (ss.map SV.arg) r → Q r) : DE K (tCall (spD K n pre post) [] E tr) es Q := fun P N M L σ H S R k => by
  refine h P N M L σ H S _ fun ss vs H1 k1 o1 q1 => ?_
  obtain ⟨hn, hl, hp, q⟩ := q1
  rw [List.append_nil]
  refine ⟨M, L, ss.map SV.arg, k1.bs S.bs, o1.args S.bs k1 hn, by rw [List.length_map]; exact hl, hp, fun r v H' k2 o2 q2 => ?_⟩
  exact k r v H' (k1.trans k2) ((SvOk.noN o2).back k1) (q r q2)
theorem de_callKw {n m : Nat} {tr : TA} {g : {α : Type} → List α → List α} (hg : ∀ {vs : List V} {ss : List SV} {N M L : AP} {H0 H : Hp}, SvAll K N M L H0 H vs ss → SvAll K N M L H0 H (g vs) (g ss))
    (h : DA K tr es fun ss => nownAll ss ∧ ss.length = m ∧ (g (ss.map SV.arg)).length = n ∧ pre (g (ss.map SV.arg)) ∧ ∀ r, post (g (ss.map SV.arg)) r → Q r) : DE K (tCallKw m (spD K n pre post) g tr) es Q := fun P N M L σ H S R k => by
  refine h P N M L σ H S _ fun ss vs H1 k1 o1 q1 => ?_
  obtain ⟨hn, hl, hl2, hp, q⟩ := q1
  refine ⟨by rw [o1.len]; exact hl, M, L, g (ss.map SV.arg), k1.bs S.bs, hg (o1.args S.bs k1 hn), hl2, hp, fun r v H' k2 o2 q2 => ?_⟩
  exact k r v H' (k1.trans k2) ((SvOk.noN o2).back k1) (q r q2)

/-! ### targets; js: the slots that are set -/
def Same' (js : List Nat) (σ σ' : L2.St) : Prop := σ'.length = σ.length ∧ ∀ k : Nat, k ∉ js → σ'[k]? = σ[k]?
def DG (K : PySem.W.Frag) (g : TG) (x : D) (js : List Nat) (es : Env') (Q : Env' → Prop) : Prop :=
  ∀ P N M L σ H v, Sts K P N M L σ H es → Is K M H v x → ∀ R : L2.St → Hp → Prop, (∀ es' σ', Sts K P N M L σ' H es' → Same' js σ σ' → Q es' → R σ' H) → g v σ H R
theorem Same'.set (σ : L2.St) (i : Nat) (v : Option V) : Same' [i] σ (σ.set i v) := ⟨List.length_set, fun k hk => List.getElem?_set_ne (fun e => hk (by rw [e]; simp))⟩
theorem Same'.trans {js ks : List Nat} {σ σ1 σ2 : L2.St} (a : Same' js σ σ1) (b : Same' ks σ1 σ2) : Same' (js ++ ks) σ σ2 := ⟨b.1.trans a.1, fun k hk => by
  rw [List.mem_append, not_or] at hk
  rw [b.2 k hk.2, a.2 k hk.1]⟩
theorem dg_name {i : Nat} {x : D} {Q : Env' → Prop} (q : Q (es.set i (some (.d x)))) : DG K (gName i) x [i] es Q := fun P N M L σ H v S o R k => k _ _ (S.setp (s := .d x) o trivial) (Same'.set σ i _) q
def DGs (K : PySem.W.Frag) (g : TGs) (xs : List D) (js : List Nat) (es : Env') (Q : Env' → Prop) : Prop :=
  ∀ P N M L σ H vs, Sts K P N M L σ H es → IsAll K M H vs xs → ∀ R : L2.St → Hp → Prop, (∀ es' σ', Sts K P N M L σ' H es' → Same' js σ σ' → Q es' → R σ' H) → g vs σ H R
theorem dgs_nil {Q : Env' → Prop} (q : Q es) : DGs K gNil [] [] es Q := fun P N M L σ H vs S o R k => by
  cases o
  exact ⟨rfl, k _ _ S ⟨rfl, fun _ _ => rfl⟩ q⟩
theorem dgs_cons {g : TG} {gs : TGs} {x : D} {xs : List D} {js ks : List Nat} {Q : Env' → Prop} (h : DG K g x js es fun es' => DGs K gs xs ks es' Q) : DGs K (gCons g gs) (x :: xs) (js ++ ks) es Q := fun P N M L σ H vs S o R k => by
  cases o with
  | @cons v vs _ _ h1 h2 =>
    exact ⟨v, vs, rfl, h P N M L σ H v S h1 _ fun es' σ' S' w q => q P N M L σ' H vs S' h2 R fun e2 σ2 S2 w2 => k e2 σ2 S2 (w.trans w2)⟩
theorem dg_tup {n : Nat} {gs : TGs} {xs : List D} {js : List Nat} {Q : Env' → Prop} (l : xs.length = n) (h : DGs K gs xs js es Q) : DG K (gTup K n gs) (.tup xs) js es Q := fun P N M L σ H v S o R k => by
  obtain ⟨a, vs, rfl, h1, h2⟩ := Is.tupS o
  exact ⟨a, vs, rfl, h1, h2.len.trans l, h P N M L σ H vs S h2 R k⟩
theorem DG.stf {F : Fr} {P : List Pin} {g : TG} {x : D} {js : List Nat} {Q : Env' → Prop} (h : DG K g x js es Q) {v : V} (S : Stf K F P M L σ H es) (o : Is K M H v x) (R : L2.St → Hp → Prop) (k : ∀ es' σ', Stf K F P M L σ' H es' → Q es' → R σ' H) : g v σ H R :=
  h P _ M L σ H v S.st o R fun es' σ' S' _ q => k es' σ' ⟨S', S.bs0, S.kp, S.m0, S.lo, S.ln⟩ q
/-- a, b = e, e a tuple -/
theorem ds_unp {g : TG} (h : DE K te es fun s => ∃ x js, s = .d x ∧ DG K g x js es B.nx) : DS K (tAsg te g) es B := fun F P M L σ H S E o =>
  h P _ M L σ H S.st _ fun s v H' k ok q => by
    obtain ⟨x, js, rfl, q⟩ := q
    exact q.stf (S.kp' k) ok E.nx fun es' σ' S' z => o.nx _ _ _ _ _ S' z

/-! ### loops: I i es ahead of turn i -/
theorem EOk.turn {F : Fr} {P : List Pin} {E : Ends} {I : Env' → Prop} (o : EOk K F P B E) (Nx : L2.St → Hp → Prop) (hN : ∀ es M L σ H, Stf K F P M L σ H es → I es → Nx σ H) : EOk K F P ⟨I, B.rt, B.nx, I, B.xo⟩ { E with nx := Nx, ct := Nx, bk := E.nx } :=
  ⟨hN, o.rt, o.nx, hN, o.xo⟩
theorem ds_for1 {j : Nat} {tr : TA} (h : DA K tr es fun ss => ∃ n : Int, ss = [.d (.int n)] ∧ -(2 ^ 62) ≤ n ∧ n < 2 ^ 62 ∧ ∃ I : Nat → Env' → Prop, I 0 es ∧
    (∀ (i : Nat) es', (i : Int) < n → I i es' → DS K t (es'.set j (some (.d (.int i)))) ⟨I (i + 1), B.rt, B.nx, I (i + 1), B.xo⟩) ∧ ∀ es', I n.toNat es' → B.nx es') : DS K (tFor (iRng1 tr) (gName j) t) es B := fun F P M L σ H S E o => by
  refine h P _ M L σ H S.st _ fun ss vs H1 k1 o1 q1 => ?_
  obtain ⟨n, rfl, b1, b2, I, h0, hs, hd⟩ := q1
  obtain ⟨v, rfl, hv⟩ := o1.one
  cases hv
  refine ⟨n, rfl, b1, b2, for_range (lo := 0) (n := n.toNat) (fun i σ H => ∃ es' M' L', Stf K F P M' L' σ H es' ∧ I i es') ⟨es, M, L, S.kp' k1, h0⟩ ?_ ?_⟩
  · rintro i σ' H' hi ⟨es', M', L', S', hI⟩
    have e0 : (0 : Int) + (i : Int) = (i : Int) := Int.zero_add _
    show t _ (σ'.set j (some (.int ((0 : Int) + (i : Int))))) H'
    rw [e0]
    exact hs i es' (by omega) hI F P M' L' _ H' (S'.setp (s := .d (.int i)) (Is.int _) trivial) _ (o.turn (fun σ H => ∃ es' M' L', Stf K F P M' L' σ H es' ∧ I (i + 1) es') fun e M'' L'' σ'' H'' S'' z => ⟨e, M'', L'', S'', z⟩)
  · rintro σ' H' ⟨es', M', L', S', hI⟩
    exact o.nx _ _ _ _ _ S' (hd es' hI)
theorem ds_for2 {j : Nat} {tr : TA} (h : DA K tr es fun ss => ∃ lo n : Int, ss = [.d (.int lo), .d (.int n)] ∧ (-(2 ^ 62) ≤ lo ∧ lo < 2 ^ 62 ∧ -(2 ^ 62) ≤ n ∧ n < 2 ^ 62) ∧ ∃ I : Nat → Env' → Prop, I 0 es ∧
    (∀ (i : Nat) es', lo + (i : Int) < n → I i es' → DS K t (es'.set j (some (.d (.int (lo + i))))) ⟨I (i + 1), B.rt, B.nx, I (i + 1), B.xo⟩) ∧ ∀ es', I (n - lo).toNat es' → B.nx es') : DS K (tFor (iRng2 tr) (gName j) t) es B := fun F P M L σ H S E o => by
  refine h P _ M L σ H S.st _ fun ss vs H1 k1 o1 q1 => ?_
  obtain ⟨lo, n, rfl, b1, I, h0, hs, hd⟩ := q1
  obtain ⟨v, w, rfl, hv, hw⟩ := o1.two
  cases hv
  cases hw
  refine ⟨lo, n, rfl, b1, for_range (lo := lo) (n := (n - lo).toNat) (fun i σ H => ∃ es' M' L', Stf K F P M' L' σ H es' ∧ I i es') ⟨es, M, L, S.kp' k1, h0⟩ ?_ ?_⟩
  · rintro i σ' H' hi ⟨es', M', L', S', hI⟩
    exact hs i es' (by omega) hI F P M' L' _ H' (S'.setp (s := .d (.int (lo + i))) (Is.int _) trivial) _ (o.turn (fun σ H => ∃ es' M' L', Stf K F P M' L' σ H es' ∧ I (i + 1) es') fun e M'' L'' σ'' H'' S'' z => ⟨e, M'', L'', S'', z⟩)
  · rintro σ' H' ⟨es', M', L', S', hI⟩
    exact o.nx _ _ _ _ _ S' (hd es' hI)
/-- a thing pinned through a loop -/
theorem Stf.pin {F : Fr} {P : List Pin} {p : Pin} (S : Stf K F P M L σ H es) (h : PinOk K M H p) : Stf K F (p :: P) M L σ H es :=
  ⟨⟨S.st.bs, S.st.len, S.st.ok, fun q hp => by
    rcases List.mem_cons.mp hp with rfl | hp
    · exact h
    · exact S.st.pin q hp, S.st.sep⟩, S.bs0, S.kp, S.m0, S.lo, S.ln⟩
theorem Stf.unpin {F : Fr} {P : List Pin} {p : Pin} (S : Stf K F (p :: P) M L σ H es) : Stf K F P M L σ H es :=
  ⟨⟨S.st.bs, S.st.len, S.st.ok, fun q hq => S.st.pin q (List.mem_cons_of_mem _ hq), S.st.sep⟩, S.bs0, S.kp, S.m0, S.lo, S.ln⟩
theorem EOk.pinned {F : Fr} {P : List Pin} {p : Pin} {E : Ends} (o : EOk K F P B E) : EOk K F (p :: P) B E :=
  ⟨fun e M L σ H S => o.nx e M L σ H S.unpin, o.rt, fun e M L σ H S => o.bk e M L σ H S.unpin, fun e M L σ H S => o.ct e M L σ H S.unpin, o.xo⟩
/-- over a list (a name's that is no own one, or a new one) -/
theorem ds_forL {g : TG} {tl : TE} (h : DE K tl es fun s => ∃ xs, s.dat = some (.lst xs) ∧ ∃ I : Nat → Env' → Prop, I 0 es ∧
    (∀ (i : Nat) x es', xs[i]? = some x → I i es' → ∃ js, DG K g x js es' fun e2 => DS K t e2 ⟨I (i + 1), B.rt, B.nx, I (i + 1), B.xo⟩) ∧ ∀ es', I xs.length es' → B.nx es') : DS K (tFor (iList K tl) g t) es B := fun F P M L σ H S E o => by
  refine h P _ M L σ H S.st _ fun s v H1 k1 o1 q1 => ?_
  obtain ⟨xs, e, I, h0, hs, hd⟩ := q1
  have hx : Is K M H1 v (.lst xs) := o1.data S.st.bs e
  cases hx with
  | @lst a vs _ g1 g2 g3 =>
    refine ⟨a, rfl, ⟨vs, .inl (.inl g1)⟩, for_list (K := K) (a := a) (xs := vs) (fun i σ H => ∃ es' M' L', Stf K F (⟨a, vs, xs, false⟩ :: P) M' L' σ H es' ∧ I i es') ⟨es, M, L, (S.kp' k1).pin ⟨⟨g1, g2⟩, g3⟩, h0⟩ ?_ ?_ ?_⟩
    · rintro i σ' H' hi ⟨es', M', L', S', hI⟩
      exact .inl (.inl (S'.st.pin _ List.mem_cons_self).1.1)
    · rintro i w σ' H' hw ⟨es', M', L', S', hI⟩
      obtain ⟨x, hx, ix⟩ := (S'.st.pin _ List.mem_cons_self).2.getV hw
      obtain ⟨js, dg⟩ := hs i x es' hx hI
      refine dg.stf S' ix _ fun e2 σ2 S2 q => ?_
      refine q F _ M' L' σ2 H' S2 _ ?_
      exact o.pinned.turn (fun σ H => ∃ es' M' L', Stf K F (⟨a, vs, xs, false⟩ :: P) M' L' σ H es' ∧ I (i + 1) es') fun e3 M3 L3 σ3 H3 S3 z => ⟨e3, M3, L3, S3, z⟩
    · rintro σ' H' ⟨es', M', L', S', hI⟩
      rw [g3.len] at hI
      exact o.nx _ _ _ _ _ S'.unpin (hd es' hI)
/-- over a tuple -/
theorem ds_forT {g : TG} {tl : TE} (h : DE K tl es fun s => ∃ xs, s = .d (.tup xs) ∧ ∃ I : Nat → Env' → Prop, I 0 es ∧
    (∀ (i : Nat) x es', xs[i]? = some x → I i es' → ∃ js, DG K g x js es' fun e2 => DS K t e2 ⟨I (i + 1), B.rt, B.nx, I (i + 1), B.xo⟩) ∧ ∀ es', I xs.length es' → B.nx es') : DS K (tFor (iTup K tl) g t) es B := fun F P M L σ H S E o => by
  refine h P _ M L σ H S.st _ fun s v H1 k1 o1 q1 => ?_
  obtain ⟨xs, rfl, I, h0, hs, hd⟩ := q1
  have hx : Is K M H1 v (.tup xs) := o1
  obtain ⟨a, vs, rfl, g1, g3⟩ := Is.tupS hx
  · refine ⟨a, rfl, ⟨vs, g1⟩, for_tup (K := K) (a := a) (xs := vs) (fun i σ H => ∃ es' M' L', Stf K F (⟨a, vs, xs, true⟩ :: P) M' L' σ H es' ∧ I i es') ⟨es, M, L, (S.kp' k1).pin ⟨g1, g3⟩, h0⟩ ?_ ?_ ?_⟩
    · rintro i σ' H' hi ⟨es', M', L', S', hI⟩
      exact (S'.st.pin _ List.mem_cons_self).1
    · rintro i w σ' H' hw ⟨es', M', L', S', hI⟩
      obtain ⟨x, hx, ix⟩ := (S'.st.pin _ List.mem_cons_self).2.getV hw
      obtain ⟨js, dg⟩ := hs i x es' hx hI
      refine dg.stf S' ix _ fun e2 σ2 S2 q => ?_
      refine q F _ M' L' σ2 H' S2 _ ?_
      exact o.pinned.turn (fun σ H => ∃ es' M' L', Stf K F (⟨a, vs, xs, true⟩ :: P) M' L' σ H es' ∧ I (i + 1) es') fun e3 M3 L3 σ3 H3 S3 z => ⟨e3, M3, L3, S3, z⟩
    · rintro σ' H' ⟨es', M', L', S', hI⟩
      rw [g3.len] at hI
      exact o.nx _ _ _ _ _ S'.unpin (hd es' hI)
end
end DL

namespace DL
open PySem PySem.Spec PyProof.Rows L2
/-! ### list comprehensions -/
theorem wipe_get : ∀ (vs : List Nat) (σ : L2.St) (k : Nat), (wipe σ vs)[k]? = if k ∈ vs ∧ k < σ.length then some none else σ[k]?
  | [], σ, k => by simp [wipe]
  | v :: vs, σ, k => by
    unfold wipe
    have ih := wipe_get vs σ k
    by_cases hk : v = k
    · subst hk
      by_cases hl : v < σ.length
      · rw [List.getElem?_set_self (by rw [wipe_length]; exact hl), if_pos ⟨by simp, hl⟩]
      · rw [List.getElem?_eq_none (by rw [List.length_set, wipe_length]; omega), if_neg (fun h => hl h.2), List.getElem?_eq_none (by omega)]
    · rw [List.getElem?_set_ne hk, ih]
      simp [Ne.symm hk]
theorem wipe_same {vs : List Nat} {σ σ' : L2.St} (h : Same' vs (wipe σ vs) σ') : wipe σ' vs = wipe σ vs := by
  apply List.ext_getElem?
  intro k
  rw [wipe_get, wipe_get]
  have hl : σ'.length = σ.length := by rw [h.1, wipe_length]
  rw [hl]
  by_cases hk : k ∈ vs
  · by_cases hl : k < σ.length
    · rw [if_pos ⟨hk, hl⟩, if_pos ⟨hk, hl⟩]
    · rw [if_neg (fun z => hl z.2), if_neg (fun z => hl z.2), List.getElem?_eq_none (by omega), List.getElem?_eq_none (by omega)]
  · rw [if_neg (fun z => hk z.1), if_neg (fun z => hk z.1), h.2 k hk, wipe_get, if_neg (fun z => hk z.1)]
def wipeE (es : Env') : List Nat → Env'
  | [] => es
  | v :: vs => (wipeE es vs).set v none
section
variable {K : PySem.W.Frag} {P : List Pin} {N L M : AP} {H0 H1 H H' : Hp} {σ : L2.St} {es : Env'} {ta tb tc te : TE} {tt tu : TT} {Q : SV → Prop} {t u : TS} {B : DEnds}
theorem Sts.wipes (S : Sts K P N M L σ H es) : ∀ vs : List Nat, Sts K P N M L (wipe σ vs) H (wipeE es vs)
  | [] => S
  | v :: vs => (S.wipes vs).wipe1 v
/-- what holds ahead of turn i: the new list stands at D -/
structure LcP (K : PySem.W.Frag) (P : List Pin) (N M L : AP) (σ : L2.St) (es : Env') (H1 : Hp) (D0 : Addr) (J : Nat → List D → Prop) (i : Nat) (H : Hp) : Prop where
  st : Sts K P N (M.add D0) L σ H es
  kp : Kp L H1 H
  acc : ∃ vs ds, H D0 = some (.lst vs) ∧ IsAll K (M.add D0) H vs ds ∧ J i ds ∧ ds.length ≤ i
/-- one turn, in data -/
def LcT (K : PySem.W.Frag) (g : TG) (tt : TT) (te : TE) (vs : List Nat) (es : Env') (J : Nat → List D → Prop) (i : Nat) (x : D) : Prop :=
  ∀ ds, J i ds → ds.length ≤ i → DG K g x vs (wipeE es vs) fun e2 => DT K tt e2 fun b => if b = true then DE K te e2 fun s => ∃ y, s.dat = some y ∧ J (i + 1) (ds ++ [y]) else J (i + 1) ds
theorem lc_turn {g : TG} {vs : List Nat} {D0 : Addr} {J : Nat → List D → Prop} {i : Nat} {v : V} {x : D} (old : ∀ (j : Nat) (zs : List D), es[j]? = some (some (.own zs)) → σ[j]? ≠ some (some (.ref D0))) (nl : ¬ L D0) (hD : H1 D0 = none) (hi : i < 100000)
    (h : LcP K P N M L σ es H1 D0 J i H) (ix : Is K (M.add D0) H v x) (body : LcT K g tt te vs es J i x) :
    g v (wipe σ vs) H fun σ2 H2 => wipe σ2 vs = wipe σ vs ∧ tt σ2 H2 fun b H3 => if b = true then te σ2 H3 fun y H4 => ∃ acc, H4 D0 = some (.lst acc) ∧ acc.length < sizeLine ∧ LcP K P N M L σ es H1 D0 J (i + 1) (upd H4 D0 (.lst (acc ++ [y]))) else LcP K P N M L σ es H1 D0 J (i + 1) H3 := by
  obtain ⟨ws, ds, hw, iw, hj, hl⟩ := h.acc
  refine body ds hj hl P N _ L _ H v (h.st.wipes vs) ix _ fun e2 σ2 S2 sm q => ⟨wipe_same sm, ?_⟩
  refine q P N _ L σ2 H S2 _ fun b H3 k3 q3 => ?_
  have S3 := h.st.kp k3
  cases b with
  | false =>
    rw [if_neg Bool.false_ne_true] at q3 ⊢
    exact ⟨S3, h.kp.trans k3, ws, ds, k3.k _ _ nl hw, IsAll.kp k3 h.st.bs iw, q3, Nat.le_succ_of_le hl⟩
  | true =>
    rw [if_pos rfl] at q3 ⊢
    refine q3 P N _ L σ2 H3 (S2.kp k3) _ fun s y H4 k4 o4 q4 => ?_
    obtain ⟨z, ez, hz⟩ := q4
    have k34 := k3.trans k4
    have hw4 := k34.k _ _ nl hw
    have iw4 := IsAll.kp k34 h.st.bs iw
    have iz : Is K (M.add D0) H4 y z := o4.data (k3.bs h.st.bs) ez
    refine ⟨ws, hw4, by rw [iw4.len]; exact Nat.lt_of_le_of_lt hl (Nat.lt_of_lt_of_le hi (by decide)), ?_⟩
    obtain ⟨S5, up⟩ := (h.st.kp k34).updD (ws := ws ++ [y]) (.inr rfl) nl hw4 old
    refine ⟨S5, ⟨fun a o l e => ?_, S5.bs.bag⟩, ws ++ [y], ds ++ [z], upd_same, up (iw4.append (.cons iz .nil)), hz, by rw [List.length_append, List.length_singleton]; omega⟩
    rw [upd_ne (fun e' => by rw [e', hD] at e; cases e)]
    exact (h.kp.trans k34).k a o l e
theorem lc_start {D0 : Addr} {J : Nat → List D → Prop} (S : Sts K P N M L σ H1 es) (hD : H1 D0 = none) (h0 : J 0 []) :
    LcP K P N M L σ es H1 D0 J 0 (upd H1 D0 (.lst [])) ∧ (∀ (j : Nat) (zs : List D), es[j]? = some (some (.own zs)) → σ[j]? ≠ some (some (.ref D0))) ∧ ¬ L D0 := by
  have kn := Kp.new (o := .lst []) S.bs hD
  obtain ⟨S1, old⟩ := S.claim kn hD upd_same
  exact ⟨⟨S1, kn, [], [], upd_same, .nil, h0, Nat.le_refl _⟩, old, fun l => fresh_nm S.bs hD (S.bs.lm _ l)⟩
theorem lc_end {D0 : Addr} {J : Nat → List D → Prop} {i : Nat} (k1 : Kp L H0 H1) (hD : H1 D0 = none) (h : LcP K P N M L σ es H1 D0 J i H) (hd : ∀ ds, J i ds → ds.length ≤ i → Q (.new ds)) : Kp L H0 H ∧ ∃ ds, SvOk K N M L H0 H (.ref D0) (.new ds) ∧ Q (.new ds) := by
  obtain ⟨ws, ds, hw, iw, hj, hl⟩ := h.acc
  exact ⟨k1.trans h.kp, ds, ⟨D0, ws, rfl, k1.was hD, hw, iw⟩, hd ds hj hl⟩
/-- [e for x in range(n) if t] -/
theorem de_lc1 {g : TG} {vs : List Nat} {tr : TA} (h : DA K tr es fun ss => ∃ n : Int, ss = [.d (.int n)] ∧ -(2 ^ 62) ≤ n ∧ n ≤ 100000 ∧ ∃ J : Nat → List D → Prop, J 0 [] ∧
    (∀ i : Nat, (i : Int) < n → LcT K g tt te vs es J i (.int i)) ∧ ∀ ds, J n.toNat ds → ds.length ≤ n.toNat → Q (.new ds)) : DE K (tLc (iRng1 tr) g tt te vs) es Q := fun P N M L σ H S R k => by
  refine h P N M L σ H S _ fun ss us H1 k1 o1 q1 => ?_
  obtain ⟨n, rfl, b1, b2, J, h0, hs, hd⟩ := q1
  obtain ⟨v, rfl, hv⟩ := o1.one
  cases hv
  refine ⟨n, rfl, b1, by omega, fun D0 hD => ?_⟩
  obtain ⟨p0, old, nl⟩ := lc_start (S.kp k1) hD h0
  refine lc_range (lo := 0) (n := n.toNat) (LcP K P N M L σ es H1 D0 J) p0 (fun i H hi p => ?_) fun H p => ?_
  · have e0 : (0 : Int) + (i : Int) = (i : Int) := Int.zero_add _
    rw [e0]
    exact lc_turn old nl hD (by omega) p (Is.int _) (hs i (by omega))
  · obtain ⟨kk, ds, ok, q⟩ := lc_end k1 hD p hd
    exact k _ _ _ kk ok q
/-- [e for x in xs if t], xs a list -/
theorem de_lcL {g : TG} {vs : List Nat} {tl : TE} (h : DE K tl es fun s => ∃ xs, s.rd = some (.lst xs) ∧ (∀ n, s ≠ .scr n) ∧ xs.length ≤ 100000 ∧ ∃ J : Nat → List D → Prop, J 0 [] ∧
    (∀ (i : Nat) x, xs[i]? = some x → LcT K g tt te vs es J i x) ∧ ∀ ds, J xs.length ds → ds.length ≤ xs.length → Q (.new ds)) : DE K (tLc (iList K tl) g tt te vs) es Q := fun P N M L σ H S R k => by
  refine h P N M L σ H S _ fun s v H1 k1 o1 q1 => ?_
  obtain ⟨xs, e, ns, b, J, h0, hs, hd⟩ := q1
  obtain ⟨a, ws, rfl, g1, g3⟩ := o1.lst S.bs e ns
  -- the list stays: a thing of the heap ahead that is no bag
  have na : ¬ L a := by
    cases s with
    | d y =>
      cases e
      cases o1 with
      | lst h1 h2 h3 => exact fun l => h2 (S.bs.lm _ l)
    | own ys =>
      obtain ⟨a', _, e', _, _, l, _⟩ := o1
      cases e'
      exact l
    | new ys =>
      obtain ⟨a', _, e', n, _⟩ := o1
      cases e'
      exact fun l => fresh_nm S.bs n (S.bs.lm _ l)
    | scr n => exact absurd rfl (ns n)
    | bag => cases e
    | rng lo hi => cases e
    | dic kvs => cases e
    | ty n => cases e
    | cls C => cases e
  refine ⟨a, rfl, ⟨ws, .inl (.inl g1)⟩, fun D0 hD => ?_⟩
  obtain ⟨p0, old, nl⟩ := lc_start (S.kp k1) hD h0
  have bs1 := (S.kp k1).bs
  have stay : ∀ {i : Nat} {H : Hp}, LcP K P N M L σ es H1 D0 J i H → H a = some (.lst ws) := fun {i H} p => p.kp.k a _ na g1
  refine lc_list (K := K) (a := a) (xs := ws) (LcP K P N M L σ es H1 D0 J) p0 (fun i H hi p => .inl (.inl (stay p))) (fun i x H hx p => ?_) fun H p => ?_
  · obtain ⟨d, hd', ix⟩ := g3.getV hx
    have ia : Is K (M.add D0) H x d := by
      refine Is.chg (fun b o e m => ⟨p.kp.k b o (fun l => m (.inl (bs1.lm b l))) e, m⟩) (sqt_keep (M := M) (fun b o m e => p.kp.k b o (fun l => m (bs1.lm b l)) e) bs1.tr) _ _ (ix.add hD)
    have hi : i < 100000 := by
      have := (List.getElem?_eq_some_iff.mp hd').1
      omega
    exact lc_turn old nl hD hi p ia (hs i d hd')
  · rw [g3.len] at p
    obtain ⟨kk, ds, ok, q⟩ := lc_end k1 hD p hd
    exact k _ _ _ kk ok q
/-- over a text's signs -/
theorem lc_str {x : Str} {g : TG} {vs : List Nat} {σ : L2.St} {H1 : Hp} {D0 : Addr} {Qd : Hp → Prop} (Pv : Nat → Hp → Prop) (h0 : Pv 0 (upd H1 D0 (.lst [])))
    (hs : ∀ (i : Nat) (c : Nat) (H : Hp), x.cps[i]? = some c → Pv i H → g (.str ⟨#[c]⟩) (wipe σ vs) H fun σ2 H2 => wipe σ2 vs = wipe σ vs ∧ tt σ2 H2 fun b H3 =>
      if b = true then te σ2 H3 fun y H4 => ∃ acc, H4 D0 = some (.lst acc) ∧ acc.length < sizeLine ∧ Pv (i + 1) (upd H4 D0 (.lst (acc ++ [y]))) else Pv (i + 1) H3) (hd : ∀ H, Pv x.cps.size H → Qd H) :
    ∃ W : Nat → Nat → Hp → Prop, (∃ m, W 0 m (upd H1 D0 (.lst []))) ∧ ∀ i m H, W i m H →
      ((Its x).stop i H ∧ Qd H) ∨ ((Its x).go i H ∧ ∃ Nx : Hp → Prop, (∀ H', Nx H' → ∃ m', m' < m ∧ W (i + 1) m' H') ∧ ∀ v H', (Its x).yld i H v H' → g v (wipe σ vs) H' fun σ2 H2 => wipe σ2 vs = wipe σ vs ∧ tt σ2 H2 fun b H3 =>
        if b = true then te σ2 H3 fun y H4 => ∃ acc, H4 D0 = some (.lst acc) ∧ acc.length < sizeLine ∧ Nx (upd H4 D0 (.lst (acc ++ [y]))) else Nx H3) := by
  refine ⟨fun i m H => m = x.cps.size - i ∧ i ≤ x.cps.size ∧ Pv i H, ⟨x.cps.size, by simp, Nat.zero_le _, h0⟩, ?_⟩
  rintro i m H ⟨rfl, hi, p⟩
  by_cases hlt : i < x.cps.size
  · refine .inr ⟨hlt, Pv (i + 1), fun H' p' => ⟨x.cps.size - (i + 1), by omega, rfl, hlt, p'⟩, fun v H' y => ?_⟩
    obtain ⟨rfl, c, hc, rfl⟩ := y
    exact hs i c _ hc p
  · obtain rfl : i = x.cps.size := by omega
    exact .inl ⟨Nat.le_refl _, hd H p⟩
theorem de_lcS {g : TG} {vs : List Nat} {tl : TE} (h : DE K tl es fun s => ∃ x, s = .d (.str x) ∧ x.length ≤ 100000 ∧ ∃ J : Nat → List D → Prop, J 0 [] ∧
    (∀ (i : Nat) c, x.cps[i]? = some c → LcT K g tt te vs es J i (.str ⟨#[c]⟩)) ∧ ∀ ds, J x.length ds → ds.length ≤ x.length → Q (.new ds)) : DE K (tLc (iStr tl) g tt te vs) es Q := fun P N M L σ H S R k => by
  refine h P N M L σ H S _ fun s v H1 k1 o1 q1 => ?_
  obtain ⟨x, rfl, b, J, h0, hs, hd⟩ := q1
  cases o1
  refine ⟨x, rfl, fun D0 hD => ?_⟩
  obtain ⟨p0, old, nl⟩ := lc_start (S.kp k1) hD h0
  refine lc_str (LcP K P N M L σ es H1 D0 J) p0 (fun i c H hc p => ?_) fun H p => ?_
  · have hi : i < 100000 := Nat.lt_of_lt_of_le (Array.getElem?_eq_some_iff.mp hc).1 b
    exact lc_turn old nl hD hi p (Is.str _) (hs i c hc)
  · obtain ⟨kk, ds, ok, q⟩ := lc_end k1 hD p hd
    exact k _ _ _ kk ok q
theorem dt_yes {Q : Bool → Prop} (q : Q true) : DT K tYes es Q := fun P N M L σ H S R k => k true H (Kp.refl S.bs) q
/-- sep.join(texts) -/
theorem de_join {r : V → List V → Hp → VK → Prop} (hr : r = fun x xs H Q => ∃ a p, ∃ ys : List Str, x = .str a ∧ xs = [.ref p] ∧ (SqL K H p (ys.map V.str) ∨ SqT K H p (ys.map V.str)) ∧ (ys.map (·.length)).sum + ys.length * a.length ≤ 16777216 ∧ Q (.str (Txt.join a ys)) H)
    (h : DE K ta es fun s => ∃ a, s = .d (.str a) ∧ DE K te es fun z => ∃ ys : List Str, z.rd = some (.lst (ys.map D.str)) ∧ (ys.map (·.length)).sum + ys.length * a.length ≤ 16777216 ∧ Q (.d (.str (Txt.join a ys)))) : DE K (tM1 r ta te) es Q := fun P N M L σ H S R k => by
  subst hr
  refine h P N M L σ H S _ fun s v H1 k1 o1 q1 => ?_
  obtain ⟨a, rfl, q1⟩ := q1
  cases o1
  refine ⟨⟨a, rfl⟩, q1 P N M L σ H1 (S.kp k1) _ fun z w H2 k2 o2 q2 => ?_⟩
  obtain ⟨ys, e, l, q⟩ := q2
  obtain ⟨p, vs, rfl, h1, h2⟩ := o2.list (k1.bs S.bs) e
  rw [h2.ofStrs] at h1
  exact ⟨a, p, ys, rfl, rfl, .inl h1, l, k (.d (.str _)) _ H2 (k1.trans k2) (Is.str _) q⟩
end
end DL

namespace DL
open PySem PySem.Spec PyProof.Rows L2
/-! ### operators by what stands there -/
def rAddI : R2 := rI0 fun i j => .int (i + j)
def rAddS : R2 := fun x y H Q => ∃ i j, x = .str i ∧ y = .str j ∧ i.length + j.length ≤ sizeLine ∧ Q (.str (i ++ j)) H
def rPlus (K : PySem.W.Frag) : R2 := fun x y H Q => rAddI x y H Q ∨ (rAddS x y H Q ∨ (rCat x y H Q ∨ rCatA K x y H Q))
def rSl3 (K : PySem.W.Frag) : V → Option Int → Option Int → Hp → VK → Prop := fun x lo hi H Q => rSlL K x lo hi H Q ∨ (rSlA K x lo hi H Q ∨ rSlS x lo hi H Q)
def rIsX : R2 := fun x y H Q => (∃ a b, x = .bl a ∧ y = .bl b ∧ Q (.bl (decide (a = b))) H) ∨ (y = .non ∧ Q (.bl (decide (x = .non))) H)
def rNotX : R2 := fun x y H Q => (∃ a b, x = .bl a ∧ y = .bl b ∧ Q (.bl (!decide (a = b))) H) ∨ (y = .non ∧ Q (.bl (!decide (x = .non))) H)
def rLeS : R2 := fun x y H Q => ∃ i j, x = .str i ∧ y = .str j ∧ Q (.bl (!decide (j.cps.toList < i.cps.toList))) H
def rLeI : R2 := rI0 fun i j => .bl (decide (i ≤ j))
def rLe (K : PySem.W.Frag) : R2 := fun x y H Q => rLeI x y H Q ∨ rLeS x y H Q
def rInR : R2 := fun x y H Q => ∃ i a lo hi, x = V.int i ∧ y = V.ref a ∧ H a = some (.rng lo hi) ∧ Q (.bl (decide (lo ≤ i ∧ i < hi))) H
def rInX (K : PySem.W.Frag) : R2 := fun x y H Q => rInR x y H Q ∨ rInD K x y H Q
def rNotInX (K : PySem.W.Frag) : R2 := fun x y H Q => rNotInR x y H Q ∨ rNotInD K x y H Q
def rLenX (K : PySem.W.Frag) : List V → Hp → VK → Prop := fun xs H Q => ∃ x n, xs = [x] ∧ LenV K x H n ∧ Q (.int n) H
def rAbsX : List V → Hp → VK → Prop := fun xs H Q => ∃ i, xs = [.int i] ∧ Q (.int (if i < 0 then -i else i)) H
def rMaxX : List V → Hp → VK → Prop := fun xs H Q => ∃ i j, xs = [.int i, .int j] ∧ Q (.int (if j > i then j else i)) H
def rMinX : List V → Hp → VK → Prop := fun xs H Q => ∃ i j, xs = [.int i, .int j] ∧ Q (.int (if j < i then j else i)) H
def rListX (K : PySem.W.Frag) : List V → Hp → VK → Prop := fun xs H Q => ∃ p ys, xs = [.ref p] ∧ (SqL K H p ys ∨ SqT K H p ys) ∧ ∀ l, H l = none → Q (.ref l) (upd H l (.lst ys))
def rTupleX (K : PySem.W.Frag) : List V → Hp → VK → Prop := fun xs H Q => ∃ p ys, xs = [.ref p] ∧ ((SqL K H p ys ∧ ∀ l, H l = none → Q (.ref l) (upd H l (.tup ys))) ∨ (SqT K H p ys ∧ Q (.ref p) H))
def rRngX : List V → Hp → VK → Prop := fun vs H Q => ∃ i j, vs = [V.int i, V.int j] ∧ ∀ p, H p = none → Q (.ref p) (upd H p (.rng i j))
def rStrX : List V → Hp → VK → Prop := fun xs H Q => ∃ i, xs = [.int i] ∧ i.natAbs.log2 < 1920 ∧ Q (.str (toString i)) H
def rJoinX (K : PySem.W.Frag) : V → List V → Hp → VK → Prop := fun x xs H Q => ∃ a p, ∃ ys : List Str, x = .str a ∧ xs = [.ref p] ∧ (SqL K H p (ys.map V.str) ∨ SqT K H p (ys.map V.str)) ∧ (ys.map (·.length)).sum + ys.length * a.length ≤ 16777216 ∧ Q (.str (Txt.join a ys)) H
def rMul1 : R2 := rI CMul fun i j => .int (i * j)
def rMul2 : R2 := rI CMulW fun i j => .int (i * j)
def rMul : R2 := fun x y H Q => rMul1 x y H Q ∨ rMul2 x y H Q
def rEqX (K : PySem.W.Frag) : R2 := fun x y H Q => rEqD K x y H Q ∨ rEq x y H Q
def rNeX (K : PySem.W.Frag) : R2 := fun x y H Q => rNeD K x y H Q ∨ rNe x y H Q
/-- a test that is a thing's truth -/
def tTruX (K : PySem.W.Frag) (ta : TE) : TT := fun σ H Q => ta σ H fun x H' => ∃ k, TruV K x H' k ∧ Q k H'
def rFdv : R2 := rI CDivW fun i j => .int (i / j)
def rMod : R2 := rI (fun _ j => 0 < j) fun i j => .int (i % j)
def rPow : R2 := rI CPow fun i j => .int (i ^ j.toNat)
def rSubX : R2 := rI0 fun i j => .int (i - j)
def rLt : R2 := rI0 fun i j => .bl (decide (i < j))
def rGt : R2 := rI0 fun i j => .bl (decide (j < i))
def rGe : R2 := rI0 fun i j => .bl (decide (j ≤ i))
def rNeg : V → Hp → VK → Prop := L2.rU fun i => .int (-i)
section
variable {X : Cx}
theorem op_eqX (hu : X.A.units + 64 < cLine) : OpR X (compareOp .Eq) (rEqX X.K) := (op_eqD hu).or op_eq
theorem op_neX (hu : X.A.units + 64 < cLine) : OpR X (compareOp .NotEq) (rNeX X.K) := (op_neD hu).or op_ne
theorem op_plus : OpR X (binaryOp .Add) (rPlus X.K) := op_add.or (op_add_str.or (op_cat.or op_catA))
theorem op_mulX' : OpR X (binaryOp .Mult) rMul := op_mul.or op_mulW
theorem op_fdvX : OpR X (binaryOp .FloorDiv) rFdv := op_fdivW
theorem op_modX : OpR X (binaryOp .Mod) rMod := op_mod
theorem op_powX : OpR X (binaryOp .Pow) rPow := op_pow
theorem op_subX : OpR X (binaryOp .Sub) rSubX := op_sub
theorem op_ltX : OpR X (compareOp .Lt) rLt := op_lt
theorem op_gtX : OpR X (compareOp .Gt) rGt := op_gt
theorem op_geX : OpR X (compareOp .GtE) rGe := op_ge
theorem op_leX : OpR X (compareOp .LtE) (rLe X.K) := op_le.or op_le_str
theorem un_negX : UnR X (unaryOp .USub) rNeg := un_neg
theorem op_isX : OpR X (compareOp .Is) rIsX := op_is_bl.or op_isN
theorem op_isnotX : OpR X (compareOp .IsNot) rNotX := op_isnot_bl.or op_notN
theorem op_inX (hu : X.A.units + 65 < cLine) : OpR X (compareOp .In) (rInX X.K) := op_in_rng.or (op_inD hu)
theorem op_notinX (hu : X.A.units + 65 < cLine) : OpR X (compareOp .NotIn) (rNotInX X.K) := op_notInR.or (op_notInD hu)
theorem sl_3 : SlR X (rSl3 X.K) := sl_list.or (sl_tupA.or sl_str)
theorem call_lenX : CallR X (.builtin "len") (rLenX X.K) := call_len
theorem call_absX : CallR X (.builtin "abs") rAbsX := call_abs
theorem call_maxX (hc : X.calm = true) : CallR X (.builtin "max") rMaxX := call_max2 hc
theorem call_minX (hc : X.calm = true) : CallR X (.builtin "min") rMinX := call_min2 hc
theorem call_listX : CallR X (.type "list") (rListX X.K) := call_list_of
theorem call_tupleX : CallR X (.type "tuple") (rTupleX X.K) := call_tuple_of
theorem call_rngX : CallR X (.type "range") rRngX := cr_range2
theorem call_strX : CallR X (.type "str") rStrX := call_str_int
theorem mt_joinX : MtR X "str.join" (rJoinX X.K) := mt_join
end
theorem room65 {k : Nat} {A : Around} (h : Room k A) : A.units + 65 < cLine := by have := h.un; omega
section
variable {K : PySem.W.Frag} {N L M : AP} {H0 H1 H H' : Hp} {σ : L2.St} {es : Env'} {ta tb tc te : TE} {tt tu : TT} {Q : SV → Prop} {t u : TS} {B : DEnds}
theorem plus_i {i j : Int} (q : Q (.d (.int (i + j)))) : RR K (rPlus K) (.d (.int i)) (.d (.int j)) Q := rr_or1 (rr_i (g := fun i j => i + j) q)
theorem plus_s {x y : Str} (z : x.length + y.length ≤ sizeLine) (q : Q (.d (.str (x ++ y)))) : RR K (rPlus K) (.d (.str x)) (.d (.str y)) Q := rr_or2 (rr_or1 (rr_addS z q))
theorem plus_l {s1 s2 : SV} {xs ys : List D} (e1 : s1.rd = some (.lst xs)) (e2 : s2.rd = some (.lst ys)) (n1 : ∀ n, s1 ≠ .scr n) (n2 : ∀ n, s2 ≠ .scr n) (z : xs.length + ys.length ≤ 100000) (q : Q (.new (xs ++ ys))) : RR K (rPlus K) s1 s2 Q := rr_or2 (rr_or2 (rr_or1 (rr_cat e1 e2 n1 n2 z q)))
theorem plus_t {xs ys : List D} (z : xs.length + ys.length ≤ 100000) (q : Q (.d (.tup (xs ++ ys)))) : RR K (rPlus K) (.d (.tup xs)) (.d (.tup ys)) Q := rr_or2 (rr_or2 (rr_or2 (rr_catT z q)))
theorem mul_i {i j : Int} (c : i.natAbs.log2 + j.natAbs.log2 < 1000000) (q : Q (.d (.int (i * j)))) : RR K rMul (.d (.int i)) (.d (.int j)) Q := rr_or2 (rr_ic (C := CMulW) (g := fun i j => i * j) c q)
theorem mul_r {i j : Int} (c : -(2 ^ 64) < j ∧ j < 2 ^ 64) (q : Q (.d (.int (i * j)))) : RR K rMul (.d (.int i)) (.d (.int j)) Q := rr_or1 (rr_ic (C := CMul) (g := fun i j => i * j) (.inr c) q)
theorem mul_l {i j : Int} (c : -(2 ^ 64) < i ∧ i < 2 ^ 64) (q : Q (.d (.int (i * j)))) : RR K rMul (.d (.int i)) (.d (.int j)) Q := rr_or1 (rr_ic (C := CMul) (g := fun i j => i * j) (.inl c) q)
theorem fdv_i {i j : Int} (c : 0 < j) (c2 : j.natAbs.log2 < 9000) (q : Q (.d (.int (i / j)))) : RR K rFdv (.d (.int i)) (.d (.int j)) Q := rr_ic (C := CDivW) (g := fun i j => i / j) ⟨c, c2⟩ q
theorem mod_i {i j : Int} (c : 0 < j) (q : Q (.d (.int (i % j)))) : RR K rMod (.d (.int i)) (.d (.int j)) Q := rr_ic (C := fun _ j => 0 < j) (g := fun i j => i % j) c q
theorem pow_i {i j : Int} (c : 0 ≤ j) (c1 : j ≤ 1000000) (c2 : i.natAbs < 2 ^ 64) (q : Q (.d (.int (i ^ j.toNat)))) : RR K rPow (.d (.int i)) (.d (.int j)) Q := rr_ic (C := CPow) (g := fun i j => i ^ j.toNat) ⟨c, c1, c2⟩ q
theorem sub_i {i j : Int} (q : Q (.d (.int (i - j)))) : RR K rSubX (.d (.int i)) (.d (.int j)) Q := rr_i (g := fun i j => i - j) q
theorem lt_i {i j : Int} (q : Q (.d (.bl (decide (i < j))))) : RR K rLt (.d (.int i)) (.d (.int j)) Q := rr_b (g := fun i j => decide (i < j)) q
theorem gt_i {i j : Int} (q : Q (.d (.bl (decide (j < i))))) : RR K rGt (.d (.int i)) (.d (.int j)) Q := rr_b (g := fun i j => decide (j < i)) q
theorem ge_i {i j : Int} (q : Q (.d (.bl (decide (j ≤ i))))) : RR K rGe (.d (.int i)) (.d (.int j)) Q := rr_b (g := fun i j => decide (j ≤ i)) q
theorem le_i {i j : Int} (q : Q (.d (.bl (decide (i ≤ j))))) : RR K (rLe K) (.d (.int i)) (.d (.int j)) Q := rr_or1 (rr_b (g := fun i j => decide (i ≤ j)) q)
theorem le_s {x y : Str} (q : Q (.d (.bl (!decide (y.cps.toList < x.cps.toList))))) : RR K (rLe K) (.d (.str x)) (.d (.str y)) Q := rr_or2 (rr_leS q)
theorem neg_i {i : Int} (q : Q (.d (.int (-i)))) : RU K rNeg (.d (.int i)) Q := ru_neg q
theorem is_b {a b : Bool} (q : Q (.d (.bl (decide (a = b))))) : RR K rIsX (.d (.bl a)) (.d (.bl b)) Q := rr_or1 (rr_isB q)
theorem isnot_b {a b : Bool} (q : Q (.d (.bl (!decide (a = b))))) : RR K rNotX (.d (.bl a)) (.d (.bl b)) Q := rr_or1 (rr_isnotB q)
theorem is_n {x : D} (q : Q (.d (.bl x.isNon))) : RR K rIsX (.d x) (.d .non) Q := rr_or2 (rr_isN q)
theorem isnot_n {x : D} (q : Q (.d (.bl (!x.isNon)))) : RR K rNotX (.d x) (.d .non) Q := rr_or2 (rr_isnotN q)
theorem in_r {i lo hi : Int} (q : Q (.d (.bl (decide (lo ≤ i ∧ i < hi))))) : RR K (rInX K) (.d (.int i)) (.rng lo hi) Q := rr_or1 (rr_inR q)
theorem notin_r {i lo hi : Int} (q : Q (.d (.bl (!decide (lo ≤ i ∧ i < hi))))) : RR K (rNotInX K) (.d (.int i)) (.rng lo hi) Q := rr_or1 (rr_notInR q)
theorem sl_l {s : SV} {xs : List D} {lo hi : Option Int} (e : s.rd = some (.lst xs)) (q : Q (.new (cutD xs lo hi))) : RS K (rSl3 K) s lo hi Q := rs_or1 (rs_L e q)
theorem sl_t {xs : List D} {lo hi : Option Int} (q : Q (.d (.tup (cutD xs lo hi)))) : RS K (rSl3 K) (.d (.tup xs)) lo hi Q := rs_or2 (rs_or1 (rs_T q))
theorem sl_s {z : Str} {lo hi : Option Int} (hz : z.length ≤ sizeLine) (q : Q (.d (.str (cutS z lo hi)))) : RS K (rSl3 K) (.d (.str z)) lo hi Q := rs_or2 (rs_or2 (rs_S hz q))
theorem de_joinX (h : DE K ta es fun s => ∃ a, s = .d (.str a) ∧ DE K te es fun z => ∃ ys : List Str, z.rd = some (.lst (ys.map D.str)) ∧ (ys.map (·.length)).sum + ys.length * a.length ≤ 16777216 ∧ Q (.d (.str (Txt.join a ys)))) : DE K (tM1 (rJoinX K) ta te) es Q := de_join rfl h
theorem eqF {s1 s2 : SV} {x y : D} {n1 n2 k1 k2 : Nat} (e1 : s1.rd = some x) (e2 : s2.rd = some y) (h1 : Fit n1 k1 x) (h2 : Fit n2 k2 y) (l1 : k1 ≤ 40) (l2 : k2 ≤ 40) (q : Q (.d (.bl (PyData.eqv x.py y.py)))) : RR K (rEqX K) s1 s2 Q := rr_or1 (rr_eqF e1 e2 h1 h2 l1 l2 q)
theorem neF {s1 s2 : SV} {x y : D} {n1 n2 k1 k2 : Nat} (e1 : s1.rd = some x) (e2 : s2.rd = some y) (h1 : Fit n1 k1 x) (h2 : Fit n2 k2 y) (l1 : k1 ≤ 40) (l2 : k2 ≤ 40) (q : Q (.d (.bl (!PyData.eqv x.py y.py)))) : RR K (rNeX K) s1 s2 Q := rr_or1 (rr_neF e1 e2 h1 h2 l1 l2 q)
theorem eq_ss {x y : Str} (q : Q (.d (.bl (decide (x = y))))) : RR K (rEqX K) (.d (.str x)) (.d (.str y)) Q := fun N M L H0 H v1 v2 b k o1 o2 R r => by
  cases o1
  cases o2
  have e : decide (V.str x = V.str y) = decide (x = y) := by
    by_cases h : x = y
    · subst h; simp
    · rw [decide_eq_false h, decide_eq_false fun z => h (V.str.inj z)]
  exact .inr ⟨rfl, by rw [e]; exact r (.d (.bl _)) _ H (Kp.refl (k.bs b)) (Is.bl _) q⟩
theorem ne_ss {x y : Str} (q : Q (.d (.bl (!decide (x = y))))) : RR K (rNeX K) (.d (.str x)) (.d (.str y)) Q := fun N M L H0 H v1 v2 b k o1 o2 R r => by
  cases o1
  cases o2
  have e : decide (V.str x = V.str y) = decide (x = y) := by
    by_cases h : x = y
    · subst h; simp
    · rw [decide_eq_false h, decide_eq_false fun z => h (V.str.inj z)]
  exact .inr ⟨rfl, by rw [e]; exact r (.d (.bl _)) _ H (Kp.refl (k.bs b)) (Is.bl _) q⟩
/-- one step at an operator or a call -/
theorem len_x {s : SV} {x : D} {n : Nat} (e : s.rd = some x) (hn : x.len = some n) (q : Q (.d (.int n))) : RC K (rLenX K) [s] Q := rc_len e hn q
theorem abs_x {i : Int} (q : Q (.d (.int (if i < 0 then -i else i)))) : RC K rAbsX [.d (.int i)] Q := rc_abs q
theorem max_x {i j : Int} (q : Q (.d (.int (if j > i then j else i)))) : RC K rMaxX [.d (.int i), .d (.int j)] Q := rc_max q
theorem min_x {i j : Int} (q : Q (.d (.int (if j < i then j else i)))) : RC K rMinX [.d (.int i), .d (.int j)] Q := rc_min q
theorem list_x {s : SV} {xs : List D} (e : s.rd = some (.lst xs)) (q : Q (.new xs)) : RC K (rListX K) [s] Q := rc_list e q
theorem list_t {xs : List D} (q : Q (.new xs)) : RC K (rListX K) [.d (.tup xs)] Q := rc_listT q
theorem tuple_x {s : SV} {xs : List D} (e : s.rd = some (.lst xs)) (q : Q (.d (.tup xs))) : RC K (rTupleX K) [s] Q := rc_tuple e q
theorem rng_x {i j : Int} (q : Q (.rng i j)) : RC K rRngX [.d (.int i), .d (.int j)] Q := rc_rng q
theorem str_x {i : Int} (hi : i.natAbs.log2 < 1920) (q : Q (.d (.str (toString i)))) : RC K rStrX [.d (.int i)] Q := rc_strI hi q

/-! ### the bag -/
/-- bag[k], k a written place -/
theorem bag_ix {k : Int} (hk : k = 0 ∨ k = 1) (q : ∀ g, Q (.d (.int g))) : RR K (rIx K) .bag (.d (.int k)) Q := fun N M L H0 H v1 v2 b kk o1 o2 R r => by
  cases o2
  obtain ⟨a, rfl, la⟩ := o1
  obtain ⟨g, m, e⟩ := kk.b a la
  rcases hk with rfl | rfl
  · exact .inl ⟨a, [.int g, .int m], 0, .int g, rfl, rfl, .inl (.inl e), rfl, r (.d (.int g)) _ H (Kp.refl (kk.bs b)) (Is.int g) (q g)⟩
  · exact .inl ⟨a, [.int g, .int m], 1, .int m, rfl, rfl, .inl (.inl e), rfl, r (.d (.int m)) _ H (Kp.refl (kk.bs b)) (Is.int m) (q m)⟩
/-- bag[k] = e -/
theorem ds_bag {i : Nat} {k : Int} (hk : k = 0 ∨ k = 1) (e : es[i]? = some (some .bag)) (h : DE K te es fun s => ∃ g, s = .d (.int g) ∧ B.nx es) : DS K (tAsg te (gSub (tVar i) (tC (.int k)) rSetL)) es B := fun F P M L σ H S E o => by
  refine h P _ M L σ H S.st _ fun s w H1 k1 o1 q1 => ?_
  obtain ⟨g', rfl, q⟩ := q1
  cases o1
  obtain ⟨v, hv, a, rfl, la⟩ := S.st.ok i _ e
  obtain ⟨g, m, ea⟩ := k1.b a la
  have bs1 := k1.bs S.st.bs
  refine ⟨.ref a, hv, ?_⟩
  have fin : ∀ x y : Int, Kp L H1 (upd H1 a (.lst [.int x, .int y])) := fun x y => ⟨fun b o' l z => by rw [upd_ne (fun q => l (by rw [q]; exact la))]; exact z, fun b l => by
    by_cases hb : b = a
    · exact ⟨x, y, by rw [hb, upd_same]⟩
    · obtain ⟨g2, m2, z⟩ := bs1.bag b l
      exact ⟨g2, m2, by rw [upd_ne hb]; exact z⟩⟩
  rcases hk with rfl | rfl
  · exact ⟨a, [.int g, .int m], 0, 0, rfl, rfl, ea, rfl, o.nx _ _ _ _ _ ((S.kp' k1).kp' (fin g' m)) q⟩
  · exact ⟨a, [.int g, .int m], 1, 1, rfl, rfl, ea, rfl, o.nx _ _ _ _ _ ((S.kp' k1).kp' (fin g g')) q⟩
end
end DL

namespace DL
open PySem PySem.Spec PyProof.Rows L2
section
variable {K : PySem.W.Frag} {es : Env'} {ta tb tc te : TE} {tt tu : TT} {Q : SV → Prop} {t u : TS} {B : DEnds}
def smallL (n : Nat) : Prop := n ≤ 100000
theorem small_and {A : Prop} {n : Nat} (h : n ≤ 100000) (q : A) : smallL n ∧ A := ⟨h, q⟩
/-- the things of a display -/
def dats : List SV → Option (List D)
  | [] => some []
  | s :: ss => match s.dat, dats ss with
    | some d, some ds => some (d :: ds)
    | _, _ => none
theorem dats_map : ∀ {ss : List SV} {ds : List D}, dats ss = some ds → ss.map SV.dat = ds.map some
  | [], ds, e => by cases e; rfl
  | s :: ss, ds, e => by
    unfold dats at e
    split at e
    · rename_i d ds' e1 e2
      cases e
      rw [List.map_cons, List.map_cons, e1, dats_map e2]
    · cases e
theorem de_tup' {tr : TA} (h : DA K tr es fun ss => ∃ ds, dats ss = some ds ∧ smallL ds.length ∧ Q (.d (.tup ds))) : DE K (tTup tr) es Q :=
  de_tup fun P N M L σ H S R k => h P N M L σ H S R fun ss vs H' k1 o q => k ss vs H' k1 o (by obtain ⟨ds, e, z, q⟩ := q; exact ⟨ds, dats_map e, z, q⟩)
theorem de_lst' {tr : TA} (h : DA K tr es fun ss => ∃ ds, dats ss = some ds ∧ smallL ds.length ∧ Q (.new ds)) : DE K (tLst tr) es Q :=
  de_lst fun P N M L σ H S R k => h P N M L σ H S R fun ss vs H' k1 o q => k ss vs H' k1 o (by obtain ⟨ds, e, z, q⟩ := q; exact ⟨ds, dats_map e, z, q⟩)
theorem atI_in {α : Type} {xs : List α} {i : Int} (h0 : 0 ≤ i) (h1 : i < (xs.length : Int)) : ∃ x ∈ xs, atI xs i = some x := by
  obtain ⟨n, rfl⟩ : ∃ n : Nat, i = (n : Int) := ⟨i.toNat, by omega⟩
  have hn : n < xs.length := by omega
  exact ⟨xs[n], List.getElem_mem hn, atI_nat (List.getElem?_eq_getElem hn)⟩
theorem ixL_any {s : SV} {xs : List D} {i : Int} (e : s.rd = some (.lst xs)) (h0 : 0 ≤ i) (h1 : i < (xs.length : Int)) (q : ∀ x ∈ xs, Q (.d x)) : RR K (rIx K) s (.d (.int i)) Q := by
  obtain ⟨x, hx, e'⟩ := atI_in h0 h1
  exact rr_xL e e' (q x hx)
theorem ixT_any {xs : List D} {i : Int} (h0 : 0 ≤ i) (h1 : i < (xs.length : Int)) (q : ∀ x ∈ xs, Q (.d x)) : RR K (rIx K) (.d (.tup xs)) (.d (.int i)) Q := by
  obtain ⟨x, hx, e'⟩ := atI_in h0 h1
  exact rr_xT e' (q x hx)
theorem ixS_any {z : Str} {i : Int} (hz : z.length ≤ sizeLine) (h0 : 0 ≤ i) (h1 : i < (z.cps.toList.length : Int)) (q : ∀ c ∈ z.cps.toList, Q (.d (.str ⟨#[c]⟩))) : RR K (rIx K) (.d (.str z)) (.d (.int i)) Q := by
  obtain ⟨x, hx, e'⟩ := atI_in h0 h1
  exact rr_xS hz e' (q x hx)
theorem ite_b {A C : Prop} {b : Bool} (h1 : b = true → A) (h2 : b = false → C) : if b = true then A else C := by
  cases b with
  | true => exact h1 rfl
  | false => exact h2 rfl
end
section
variable {A : Prop} {x : D} {xs : List D} {ns : List Int}
theorem sto_d : (SV.d x).sto = .d x := rfl
theorem sto_new : (SV.new xs).sto = .own xs := rfl
theorem sto_bag : SV.bag.sto = .bag := rfl
theorem sto_scr : (SV.scr ns).sto = .scr ns := rfl
theorem out_d : (SV.d x).out = .d x := rfl
theorem out_new : (SV.new xs).out = .new xs := rfl
theorem out_own : (SV.own xs).out = .new xs := rfl
theorem arg_d : (SV.d x).arg = .d x := rfl
theorem arg_new : (SV.new xs).arg = .d (.lst xs) := rfl
theorem arg_bag : SV.bag.arg = .bag := rfl
theorem arg_scr : (SV.scr ns).arg = .scr ns := rfl
theorem nall_d {ss : List SV} (h : nownAll ss ∧ A) : nownAll (.d x :: ss) ∧ A := ⟨⟨trivial, h.1⟩, h.2⟩
theorem nall_new {ss : List SV} (h : nownAll ss ∧ A) : nownAll (.new xs :: ss) ∧ A := ⟨⟨trivial, h.1⟩, h.2⟩
theorem nall_bag {ss : List SV} (h : nownAll ss ∧ A) : nownAll (.bag :: ss) ∧ A := ⟨⟨trivial, h.1⟩, h.2⟩
theorem nall_scr {ss : List SV} (h : nownAll ss ∧ A) : nownAll (.scr ns :: ss) ∧ A := ⟨⟨trivial, h.1⟩, h.2⟩
theorem nown_d (h : A) : (SV.d x).nown ∧ A := ⟨trivial, h⟩
theorem nown_new (h : A) : (SV.new xs).nown ∧ A := ⟨trivial, h⟩
theorem ret_d (h : A) : (SV.d x).ret ∧ A := ⟨trivial, h⟩
theorem ret_new (h : A) : (SV.new xs).ret ∧ A := ⟨trivial, h⟩
theorem ret_own (h : A) : (SV.own xs).ret ∧ A := ⟨trivial, h⟩
theorem nall_nil (h : A) : nownAll [] ∧ A := ⟨trivial, h⟩
end
section
variable {K : PySem.W.Frag} {Q : SV → Prop} {es : Env'}
theorem eq_ii {i j : Int} (q : Q (.d (.bl (i == j)))) : RR K (rEqX K) (.d (.int i)) (.d (.int j)) Q := rr_or1 <| rr_eq rfl rfl rfl rfl (by simp [SeqAt.shaped, D.py, PyData.canLay0, PyData.depth]) (by simp [SeqAt.shaped, D.py, PyData.canLay0, PyData.depth]) q
theorem ne_ii {i j : Int} (q : Q (.d (.bl (!(i == j))))) : RR K (rNeX K) (.d (.int i)) (.d (.int j)) Q := rr_or1 <| rr_ne rfl rfl rfl rfl (by simp [SeqAt.shaped, D.py, PyData.canLay0, PyData.depth]) (by simp [SeqAt.shaped, D.py, PyData.canLay0, PyData.depth]) q
theorem pow_lit {i j k : Int} (e : i ^ j.toNat = k) (c : 0 ≤ j) (c1 : j ≤ 1000000) (c2 : i.natAbs < 2 ^ 64) (q : Q (.d (.int k))) : RR K rPow (.d (.int i)) (.d (.int j)) Q := pow_i c c1 c2 (by rw [e]; exact q)
end
/-- a step -/
local macro_rules | `(tactic| walk_at "dl") => `(tactic| first
  | ((with_reducible refine de_var (s := ?sv) ?hv ?_); (case hv => exact rfl)) | with_reducible refine de_int ?_ | with_reducible refine de_bl ?_ | with_reducible refine de_str ?_ | with_reducible refine de_non ?_ | with_reducible refine de_ty ?_
  | with_reducible refine de_tup' ?_ | with_reducible refine de_lst' ?_ | ((with_reducible refine small_and ?hz ?_); (case hz => exact Nat.le_of_ble_eq_true rfl)) | with_reducible refine nall_d ?_ | with_reducible refine nall_new ?_ | with_reducible refine nall_bag ?_ | with_reducible refine nall_scr ?_ | with_reducible refine nall_nil ?_
  | with_reducible refine de_op ?_ | with_reducible refine de_un ?_ | with_reducible refine de_chain ?_ | with_reducible refine de_cb ?_ | with_reducible refine de_sl ?_
  | with_reducible refine do_none ?_ | with_reducible refine do_some ?_ | with_reducible refine da_cons ?_ | with_reducible refine da_nil ?_
  | with_reducible refine dt_test ?_ | with_reducible refine dt_B ?_ | with_reducible refine dt_not ?_ | with_reducible refine dt_and ?_ | with_reducible refine dt_or ?_ | with_reducible refine dt_yes ?_
  | with_reducible refine de_andV ?_ | with_reducible refine de_orV ?_ | with_reducible refine de_notV ?_
  | with_reducible refine ds_next ?_ | with_reducible refine ds_seq ?_ | with_reducible refine ds_ret ?_ | with_reducible refine ds_retN ?_ | with_reducible refine ds_if ?_ | with_reducible refine ds_brk ?_ | with_reducible refine ds_cont ?_
  | with_reducible refine ds_set ?_
  | with_reducible refine plus_i ?_ | with_reducible refine sub_i ?_ | with_reducible refine lt_i ?_ | with_reducible refine gt_i ?_ | with_reducible refine ge_i ?_ | with_reducible refine le_i ?_ | with_reducible refine le_s ?_ | with_reducible refine neg_i ?_
  | with_reducible refine eq_ii ?_ | with_reducible refine ne_ii ?_ | with_reducible refine eq_ss ?_ | with_reducible refine ne_ss ?_
  | with_reducible refine is_b ?_ | with_reducible refine isnot_b ?_ | with_reducible refine is_n ?_ | with_reducible refine isnot_n ?_ | with_reducible refine in_r ?_ | with_reducible refine notin_r ?_
  | with_reducible refine len_x rfl rfl ?_ | with_reducible refine abs_x ?_ | with_reducible refine max_x ?_ | with_reducible refine min_x ?_ | with_reducible refine rng_x ?_
  | with_reducible refine bag_ix (.inl rfl) (fun g => ?_) | with_reducible refine bag_ix (.inr rfl) (fun g => ?_)
  | with_reducible refine nown_d ?_ | with_reducible refine nown_new ?_ | with_reducible refine ret_d ?_ | with_reducible refine ret_new ?_ | with_reducible refine ret_own ?_
  | with_reducible refine ⟨_, rfl, ?_⟩ | dsimp only [sto_d, sto_new, sto_bag, sto_scr, out_d, out_new, out_own, arg_d, arg_new, arg_bag, arg_scr, List.set, List.map_cons, List.map_nil])
def preTake (ss : List SV) : Prop := ∃ n : Int, ss = [.bag, .d (.int n)] ∧ 0 < n ∧ n.natAbs.log2 < 9000
def postTake (ss : List SV) (r : SV) : Prop := ∃ n d : Int, ss = [.bag, .d (.int n)] ∧ r = .d (.int d) ∧ 0 ≤ d ∧ d < n
def sp__law_take (K : PySem.W.Frag) : Sp := spD K 2 preTake postTake
def rdTake (K : PySem.W.Frag) : TS := (tSeq (tIfS (tTest (tOp rGt (tOp (rIx K) (tVar 0) (tC (.int 0))) (tC (.int 0)))) (tSeq (tAsg (tOp rMod (tOp (rIx K) (tVar 0) (tC (.int 0))) (tVar 1)) (gName 2))
    (tSeq (tAsg (tOp rFdv (tOp (rIx K) (tVar 0) (tC (.int 0))) (tVar 1)) (gSub (tVar 0) (tC (.int 0)) rSetL))
    (tRet (tVar 2)))) tNext)
    (tSeq (tAsg (tOp rMod (tOp rMul (tOp (rIx K) (tVar 0) (tC (.int 1))) (tC (.int 48271))) (tC (.int 2147483647))) (gSub (tVar 0) (tC (.int 1)) rSetL))
    (tRet (tOp rMod (tOp rFdv (tOp rMod (tOp rMul (tOp (rIx K) (tVar 0) (tC (.int 1))) (tC (.int 69621))) (tC (.int 2147483629))) (tOp rPow (tC (.int 16)) (tC (.int 2)))) (tVar 1)))))
theorem semTake {K : PySem.W.Frag} (ss : List SV) (hp : preTake ss) : DS K (rdTake K) (startE 3 ss) { nx := fun _ => postTake ss (.d .non), rt := postTake ss } := by
  obtain ⟨n, rfl, h0, h1⟩ := hp
  show DS K (rdTake K) [some .bag, some (.d (.int n)), none] _
  unfold rdTake
  repeat walk_at "dl"
  refine ite_b (fun _ => ?_) (fun _ => ?_)
  · repeat walk_at "dl"
    refine mod_i h0 ?_
    repeat walk_at "dl"
    refine ds_bag (.inl rfl) rfl ?_
    repeat walk_at "dl"
    refine fdv_i h0 h1 ?_
    repeat walk_at "dl"
    exact ⟨n, _, rfl, rfl, Int.emod_nonneg _ (by omega), Int.emod_lt_of_pos _ h0⟩
  · repeat walk_at "dl"
    refine ds_bag (.inr rfl) rfl ?_
    repeat walk_at "dl"
    refine mul_r (by decide) ?_
    repeat walk_at "dl"
    refine mod_i (by decide) ?_
    repeat walk_at "dl"
    refine mul_r (by decide) ?_
    repeat walk_at "dl"
    refine mod_i (by decide) ?_
    repeat walk_at "dl"
    refine pow_i (by decide) (by decide) (by decide) ?_
    repeat walk_at "dl"
    refine fdv_i (by decide) (by decide) ?_
    repeat walk_at "dl"
    refine mod_i h0 ?_
    repeat walk_at "dl"
    exact ⟨n, _, rfl, rfl, Int.emod_nonneg _ (by omega), Int.emod_lt_of_pos _ h0⟩
def preBag (ss : List SV) : Prop := ∃ (ns : List Int) (k : Nat), ss = [.scr ns, .d (.int k)] ∧ k < 64
def postBag (ss : List SV) (r : SV) : Prop := ∃ g m : Int, r = .new [.int g, .int m]
def sp__law_bag (K : PySem.W.Frag) : Sp := spD K 2 preBag postBag
def rdBag (K : PySem.W.Frag) : TS := (tSeq (tAsg (tTup (tCons (tC (.int 2147483647)) (tCons (tC (.int 2147483629)) (tCons (tC (.int 2147483587)) (tCons (tC (.int 2147483579)) (tCons (tC (.int 2147483563)) (tCons (tC (.int 2147483549)) (tCons (tC (.int 2147483543)) tNil)))))))) (gName 2))
    (tSeq (tAsg (tIf (tTest (tOp rLt (tVar 1) (tCB (rLenX K) (tCons (tVar 0) tNil)))) (tOp (rIx K) (tVar 0) (tVar 1)) (tC (.int 0))) (gName 3))
    (tSeq (tAsg (tIf (tTest (tOp rGe (tCB rAbsX (tCons (tVar 3) tNil)) (tOp rPow (tC (.int 10)) (tC (.int 18))))) (tCB rAbsX (tCons (tVar 3) tNil)) (tC (.int 0))) (gName 4))
    (tSeq (tAsg (tOp rMod (tOp rPow (tOp (rPlus K) (tOp (rPlus K) (tOp rMod (tVar 3) (tC (.int 2305843009213693951))) (tOp rMul (tC (.int 40961)) (tVar 1))) (tC (.int 19))) (tC (.int 3))) (tOp (rIx K) (tVar 2) (tOp rMod (tVar 1) (tC (.int 7))))) (gName 5))
    (tRet (tLst (tCons (tVar 4) (tCons (tOp (rPlus K) (tOp rMod (tOp rMul (tVar 5) (tOp (rPlus K) (tOp (rPlus K) (tOp rFdv (tVar 5) (tC (.int 5))) (tOp rMul (tC (.int 3)) (tVar 1))) (tC (.int 11)))) (tOp (rIx K) (tVar 2) (tOp rMod (tOp (rPlus K) (tVar 1) (tC (.int 2))) (tC (.int 7))))) (tC (.int 1))) tNil))))))))
theorem semBag {K : PySem.W.Frag} (ss : List SV) (hp : preBag ss) : DS K (rdBag K) (startE 6 ss) { nx := fun _ => postBag ss (.d .non), rt := postBag ss } := by
  obtain ⟨ns, k, rfl, hk⟩ := hp
  show DS K (rdBag K) [some (.scr ns), some (.d (.int k)), none, none, none, none] _
  unfold rdBag
  repeat walk_at "dl"
  refine DE.mono (Q := fun s => ∃ c : Int, s = .d (.int c)) ?_ ?_
  · refine de_if ?_
    repeat walk_at "dl"
    refine ite_b (fun hb => ?_) (fun hb => ?_)
    · repeat walk_at "dl"
      have hb' := of_decide_eq_true hb
      refine ixL_any rfl (by omega) hb' (fun x hx => ?_)
      obtain ⟨c, _, rfl⟩ := List.mem_map.mp hx
      exact ⟨c, rfl⟩
    · repeat walk_at "dl"
      exact ⟨_, rfl⟩
  rintro _ ⟨c, rfl⟩
  repeat walk_at "dl"
  refine DE.mono (Q := fun s => ∃ c : Int, s = .d (.int c)) ?_ ?_
  · refine de_if ?_
    repeat walk_at "dl"
    refine pow_i (by decide) (by decide) (by decide) ?_
    repeat walk_at "dl"
    refine ite_b (fun hb => ?_) (fun hb => ?_)
    · repeat walk_at "dl"
      exact ⟨_, rfl⟩
    · repeat walk_at "dl"
      exact ⟨_, rfl⟩
  rintro _ ⟨g, rfl⟩
  repeat walk_at "dl"
  refine mod_i (by decide) ?_
  repeat walk_at "dl"
  refine mul_l (by decide) ?_
  repeat walk_at "dl"
  have h1 := Int.emod_nonneg c (b := 2305843009213693951) (by decide)
  have h2 := Int.emod_lt_of_pos c (b := 2305843009213693951) (by decide)
  refine pow_i (by decide) (by decide) (by omega) ?_
  repeat walk_at "dl"
  refine mod_i (by decide) ?_
  refine ixT_any (Int.emod_nonneg _ (by decide)) (Int.emod_lt_of_pos _ (by decide)) (fun x hx => ?_)
  have prime : ∀ {y : D}, y ∈ [D.int 2147483647, D.int 2147483629, D.int 2147483587, D.int 2147483579, D.int 2147483563, D.int 2147483549, D.int 2147483543] → ∃ p : Int, y = .int p ∧ 0 < p ∧ p < 2147483648 := by
    intro y hy
    simp only [List.mem_cons, List.not_mem_nil, or_false] at hy
    rcases hy with rfl | rfl | rfl | rfl | rfl | rfl | rfl <;> exact ⟨_, rfl, by decide, by decide⟩
  obtain ⟨p, rfl, p0, p1⟩ := prime hx
  refine mod_i p0 ?_
  generalize hm : (c % 2305843009213693951 + 40961 * (k : Int) + 19) ^ (3 : Int).toNat % p = m
  have m0 : 0 ≤ m := by rw [← hm]; exact Int.emod_nonneg _ (by omega)
  have m1 : m < 2147483648 := by have := Int.emod_lt_of_pos ((c % 2305843009213693951 + 40961 * (k : Int) + 19) ^ (3 : Int).toNat) p0; omega
  repeat walk_at "dl"
  refine fdv_i (by decide) (by decide) ?_
  repeat walk_at "dl"
  refine mul_l (by decide) ?_
  repeat walk_at "dl"
  refine mul_l (by omega) ?_
  repeat walk_at "dl"
  refine mod_i (by decide) ?_
  refine ixT_any (Int.emod_nonneg _ (by decide)) (Int.emod_lt_of_pos _ (by decide)) (fun x hx => ?_)
  obtain ⟨p', rfl, p0', p1'⟩ := prime hx
  refine mod_i p0' ?_
  repeat walk_at "dl"
  exact ⟨_, _, rfl⟩
end DL

namespace DL
open PySem PySem.Spec PyProof.Rows L2
/-! ### texts -/
def okS (z : Str) : Prop := z.cps.all (· < 0x110000) = true
theorem okS_iff {z : Str} : okS z ↔ ∀ c ∈ z.cps.toList, c < 0x110000 := by
  unfold okS
  rw [← Array.all_toList, List.all_eq_true]
  constructor
  · intro h c hc
    exact of_decide_eq_true (h c hc)
  · intro h c hc
    exact decide_eq_true (h c hc)
theorem okS_app {x y : Str} (a : okS x) (b : okS y) : okS (x ++ y) := okS_iff.mpr fun c hc => by
  have hc' : c ∈ (x.cps ++ y.cps).toList := hc
  rw [Array.toList_append, List.mem_append] at hc'
  exact hc'.elim (okS_iff.mp a c) (okS_iff.mp b c)
theorem okS_cut {x : Str} {lo hi : Option Int} (a : okS x) : okS (cutS x lo hi) := okS_iff.mpr fun c hc => by
  have hc' : c ∈ ((x.cps.toList.drop (HT.sIx x.length 0 lo)).take (HT.sIx x.length x.length hi - HT.sIx x.length 0 lo)) := by
    have h : c ∈ (((x.cps.toList.drop (HT.sIx x.length 0 lo)).take (HT.sIx x.length x.length hi - HT.sIx x.length 0 lo)).toArray).toList := hc
    simpa using h
  exact okS_iff.mp a c (List.mem_of_mem_drop (List.mem_of_mem_take hc'))
theorem okS_empty : okS ("" : String) := by unfold okS; decide +kernel
theorem okS_join0 : ∀ ys : List Str, (∀ y ∈ ys, okS y) → okS (Str.join (Str.ofString "") ys)
  | [], _ => okS_empty
  | [x], h => h x (by simp)
  | x :: y :: r, h => by
    show okS (x ++ Str.ofString "" ++ Str.join (Str.ofString "") (y :: r))
    exact okS_app (okS_app (h x (by simp)) okS_empty) (okS_join0 (y :: r) fun z hz => h z (List.mem_cons_of_mem _ hz))
theorem okS_join {ys : List Str} (h : ∀ y ∈ ys, okS y) : okS (Txt.join (Str.ofString "") ys) := by
  have e : Txt.join (Str.ofString "") ys = Str.join (Str.ofString "") ys := StrLaws.glued_eq_join _ _
  rw [e]
  exact okS_join0 ys h
theorem len_join0 : ∀ ys : List Str, (Str.join (Str.ofString "") ys).length = (ys.map (·.length)).sum
  | [] => rfl
  | [x] => by
    show x.length = _
    simp
  | x :: y :: r => by
    show (x ++ Str.ofString "" ++ Str.join (Str.ofString "") (y :: r)).length = _
    rw [strLen_append, strLen_append, len_join0 (y :: r), List.map_cons, List.sum_cons]
    rfl
theorem len_join {ys : List Str} : (Txt.join (Str.ofString "") ys).length = (ys.map (·.length)).sum := by
  have e : Txt.join (Str.ofString "") ys = Str.join (Str.ofString "") ys := StrLaws.glued_eq_join _ _
  rw [e]
  exact len_join0 ys
theorem sum_le {α : Type} {f : α → Nat} {b : Nat} : ∀ {xs : List α}, (∀ x ∈ xs, f x ≤ b) → (xs.map f).sum ≤ xs.length * b
  | [], _ => by simp
  | x :: xs, h => by
    rw [List.map_cons, List.sum_cons, List.length_cons, Nat.succ_mul]
    have h1 := h x (by simp)
    have h2 := sum_le (xs := xs) fun y hy => h y (List.mem_cons_of_mem _ hy)
    omega
theorem okS_one {z : Str} {c : Nat} (h : okS z) (hc : c ∈ z.cps.toList) : okS ⟨#[c]⟩ := okS_iff.mpr fun d hd => by
  have : d = c := by simpa using hd
  subst this
  exact okS_iff.mp h d hc
theorem take_get {α : Type} {xs : List α} {i : Nat} {x : α} (h : xs[i]? = some x) : xs.take (i + 1) = xs.take i ++ [x] := by
  rw [List.take_add_one, h]; rfl
theorem cps_len (z : Str) : z.cps.toList.length = z.length := by simp [Str.length]
theorem cps_get {z : Str} {i c : Nat} (h : z.cps[i]? = some c) : z.cps.toList[i]? = some c := by
  rw [← h]; simp
theorem len_s {z : Str} (hz : z.length ≤ 1000) : (D.str z).len = some z.length := by
  show (if z.length ≤ sizeLine then some z.length else none) = some z.length
  rw [if_pos (Nat.le_trans hz (by decide))]
theorem Fit.s {z : Str} (h : okS z) {m : Nat} (l : z.length ≤ m) : Fit (10 * m + 8) 0 (.str z) := Fit.str h l
theorem nil_eq {xs : List D} : PyData.eqv (D.lst xs).py (D.lst []).py = xs.isEmpty := by
  cases xs with
  | nil => rfl
  | cons x xs => rfl
theorem shown_bl (b : Bool) : Fit 100 0 (.str (D.bl b).shown) := by
  cases b
  · exact (Fit.s (m := 5) (by unfold okS; decide +kernel) (by decide)).mono (by decide) (by decide)
  · exact (Fit.s (m := 5) (by unfold okS; decide +kernel) (by decide)).mono (by decide) (by decide)
/-! ### isinstance by types -/
def isInt : D → Bool
  | .int _ => true
  | .bl _ => true
  | _ => false
theorem kit_isInt {x : D} (h : x.plain = true) : kitB x.tyN "int" = some (isInt x) := by
  have h0 : kitB "NoneType" "int" = some false := by decide +kernel
  have h1 : kitB "bool" "int" = some true := by decide +kernel
  have h2 : kitB "int" "int" = some true := by decide +kernel
  have h3 : kitB "str" "int" = some false := by decide +kernel
  have h4 : kitB "list" "int" = some false := by decide +kernel
  have h5 : kitB "tuple" "int" = some false := by decide +kernel
  cases x <;> first | exact h0 | exact h1 | exact h2 | exact h3 | exact h4 | exact h5 | cases h
def isBool : D → Bool
  | .bl _ => true
  | _ => false
theorem kit_isBool {x : D} (h : x.plain = true) : kitB x.tyN "bool" = some (isBool x) := by
  have h0 : kitB "NoneType" "bool" = some false := by decide +kernel
  have h1 : kitB "bool" "bool" = some true := by decide +kernel
  have h2 : kitB "int" "bool" = some false := by decide +kernel
  have h3 : kitB "str" "bool" = some false := by decide +kernel
  have h4 : kitB "list" "bool" = some false := by decide +kernel
  have h5 : kitB "tuple" "bool" = some false := by decide +kernel
  cases x <;> first | exact h0 | exact h1 | exact h2 | exact h3 | exact h4 | exact h5 | cases h
def isStr : D → Bool
  | .str _ => true
  | _ => false
theorem kit_isStr {x : D} (h : x.plain = true) : kitB x.tyN "str" = some (isStr x) := by
  have h0 : kitB "NoneType" "str" = some false := by decide +kernel
  have h1 : kitB "bool" "str" = some false := by decide +kernel
  have h2 : kitB "int" "str" = some false := by decide +kernel
  have h3 : kitB "str" "str" = some true := by decide +kernel
  have h4 : kitB "list" "str" = some false := by decide +kernel
  have h5 : kitB "tuple" "str" = some false := by decide +kernel
  cases x <;> first | exact h0 | exact h1 | exact h2 | exact h3 | exact h4 | exact h5 | cases h
def isTup : D → Bool
  | .tup _ => true
  | _ => false
theorem kit_isTup {x : D} (h : x.plain = true) : kitB x.tyN "tuple" = some (isTup x) := by
  have h0 : kitB "NoneType" "tuple" = some false := by decide +kernel
  have h1 : kitB "bool" "tuple" = some false := by decide +kernel
  have h2 : kitB "int" "tuple" = some false := by decide +kernel
  have h3 : kitB "str" "tuple" = some false := by decide +kernel
  have h4 : kitB "list" "tuple" = some false := by decide +kernel
  have h5 : kitB "tuple" "tuple" = some true := by decide +kernel
  cases x <;> first | exact h0 | exact h1 | exact h2 | exact h3 | exact h4 | exact h5 | cases h
def isLst : D → Bool
  | .lst _ => true
  | _ => false
theorem kit_isLst {x : D} (h : x.plain = true) : kitB x.tyN "list" = some (isLst x) := by
  have h0 : kitB "NoneType" "list" = some false := by decide +kernel
  have h1 : kitB "bool" "list" = some false := by decide +kernel
  have h2 : kitB "int" "list" = some false := by decide +kernel
  have h3 : kitB "str" "list" = some false := by decide +kernel
  have h4 : kitB "list" "list" = some true := by decide +kernel
  have h5 : kitB "tuple" "list" = some false := by decide +kernel
  cases x <;> first | exact h0 | exact h1 | exact h2 | exact h3 | exact h4 | exact h5 | cases h
theorem fit_plain {n k : Nat} {x : D} (h : Fit n k x) : x.plain = true := fine_plain x h.f
theorem call_take {K : PySem.W.Frag} {es : Env'} {i : Nat} {te : TE} {Q : SV → Prop} (e : es[i]? = some (some .bag)) (h : DE K te es fun s => ∃ n : Int, s = .d (.int n) ∧ 0 < n ∧ n.natAbs.log2 < 9000 ∧ ∀ d, 0 ≤ d → d < n → Q (.d (.int d))) :
    DE K (tCall (sp__law_take K) [] E0 (tCons (tVar i) (tCons te tNil))) es Q := by
  refine de_call (da_cons (de_var e (da_cons (DE.mono h ?_))))
  rintro s ⟨n, rfl, h0, h1, q⟩
  refine da_nil ⟨⟨trivial, trivial, trivial⟩, rfl, ⟨n, rfl, h0, h1⟩, ?_⟩
  rintro r ⟨n', d, e', rfl, d0, d1⟩
  injection e' with e1 e2
  injection e2 with e3 e4
  cases e3
  exact q d d0 d1
theorem kw1 {g : {α : Type} → List α → List α} (hg : ∀ {α : Type} (x : α), g [x] = [x]) (hn : ∀ {α : Type}, g ([] : List α) = []) (hm : ∀ {α : Type} (x y : α) (t : List α), g (x :: y :: t) = x :: y :: t) {K : PySem.W.Frag} {vs : List V} {ss : List SV} {N M L : AP} {H0 H : Hp} (h : SvAll K N M L H0 H vs ss) : SvAll K N M L H0 H (g vs) (g ss) := by
  match h with
  | .nil => rw [hn, hn]; exact .nil
  | .cons h .nil => rw [hg, hg]; exact .cons h .nil
  | .cons h (.cons h2 t) => rw [hm, hm]; exact .cons h (.cons h2 t)
/-! the shown text is fit to be compared -/
theorem ne_same {K : PySem.W.Frag} {s1 s2 : SV} {x : D} {n k : Nat} {Q : SV → Prop} (e1 : s1.rd = some x) (e2 : s2.rd = some x) (h : Fit n k x) (hk : k ≤ 40) (q : Q (.d (.bl false))) : RR K (rNeX K) s1 s2 Q :=
  neF e1 e2 h h hk hk (by rw [eqv_self x h.f]; exact q)
theorem eq_same {K : PySem.W.Frag} {s1 s2 : SV} {x : D} {n k : Nat} {Q : SV → Prop} (e1 : s1.rd = some x) (e2 : s2.rd = some x) (h : Fit n k x) (hk : k ≤ 40) (q : Q (.d (.bl true))) : RR K (rEqX K) s1 s2 Q :=
  eqF e1 e2 h h hk hk (by rw [eqv_self x h.f]; exact q)
/-- the law's promise, at the head -/
theorem law_end {K : PySem.W.Frag} {H : Hp} {a : Addr} {ns : List Int} {pre : List SV → Prop} {post : List SV → SV → Prop} (only : Only H) (sq : SqL K H a (ns.map V.int)) (hp : pre [.scr ns]) (hq : ∀ r, post [.scr ns] r → r = .d (.bl true)) :
    spD K 1 pre post [.ref a] H (fun v _ => v = .bl true) E0 := by
  refine ⟨fun _ => False, fun _ => False, [.scr ns], ⟨fun _ h => h, fun _ _ h => h.elim, fun _ h => h.elim, fun _ h => h.elim⟩, .cons ⟨a, rfl, ?_⟩ .nil, rfl, hp, fun r v H' k o q => ?_⟩
  · rcases sq with (h | ⟨o, h⟩) | h
    · rcases only a with z | ⟨o, xs, z⟩
      · rw [h] at z; cases z
      · rw [h] at z; cases z
    · exact .inl ⟨o, h⟩
    · exact .inr (.inr h)
  · rw [hq r q] at o
    cases o
    rfl
end DL

namespace DL
open PySem PySem.Spec PyProof.Rows L2
/-! ### stretches -/
def Cov (ps : List (Int × Int)) (c : Int) : Prop := ∃ p ∈ ps, p.1 ≤ c ∧ c < p.1 + p.2
def Canon (ps : List (Int × Int)) : Prop := (∀ p ∈ ps, 0 < p.2) ∧ ps.Pairwise fun p q => p.1 + p.2 < q.1
theorem cov_cons {p : Int × Int} {ps : List (Int × Int)} {c : Int} : Cov (p :: ps) c ↔ (p.1 ≤ c ∧ c < p.1 + p.2) ∨ Cov ps c := by
  unfold Cov
  simp only [List.mem_cons, exists_eq_or_imp]
theorem cov_nil {c : Int} : ¬ Cov [] c := by
  rintro ⟨p, h, _⟩
  cases h
theorem Canon.tail {p : Int × Int} {ps : List (Int × Int)} (h : Canon (p :: ps)) : Canon ps := ⟨fun q hq => h.1 q (List.mem_cons_of_mem _ hq), (List.pairwise_cons.mp h.2).2⟩
theorem Canon.ge {p : Int × Int} {ps : List (Int × Int)} (h : Canon (p :: ps)) {c : Int} (hc : Cov ps c) : p.1 + p.2 < c := by
  obtain ⟨q, hq, h1, h2⟩ := hc
  have := (List.pairwise_cons.mp h.2).1 q hq
  omega
theorem Canon.head {p q : Int × Int} {ps qs : List (Int × Int)} (h : Canon (p :: ps)) (k : Canon (q :: qs)) (e : ∀ c, Cov (p :: ps) c → Cov (q :: qs) c) : q.1 ≤ p.1 := by
  have hp := h.1 p (by simp)
  have hq := k.1 q (by simp)
  rcases cov_cons.mp (e p.1 (cov_cons.mpr (.inl ⟨Int.le_refl _, by omega⟩))) with z | z
  · exact z.1
  · have := k.ge z
    omega
theorem Canon.last {p q : Int × Int} {ps qs : List (Int × Int)} (h : Canon (p :: ps)) (k : Canon (q :: qs)) (e1 : p.1 = q.1) (e : ∀ c, Cov (q :: qs) c → Cov (p :: ps) c) : q.2 ≤ p.2 := by
  have hp := h.1 p (by simp)
  have hq := k.1 q (by simp)
  refine Int.not_lt.mp fun lt => ?_
  rcases cov_cons.mp (e (p.1 + p.2) (cov_cons.mpr (.inl ⟨by omega, by omega⟩))) with z | z
  · omega
  · have := h.ge z
    omega
theorem canon_uniq : ∀ {ps qs : List (Int × Int)}, Canon ps → Canon qs → (∀ c, Cov ps c ↔ Cov qs c) → ps = qs
  | [], [], _, _, _ => rfl
  | [], q :: qs, _, k, e => by
    have hq := k.1 q (by simp)
    exact absurd ((e q.1).mpr (cov_cons.mpr (.inl ⟨Int.le_refl _, by omega⟩))) cov_nil
  | p :: ps, [], h, _, e => by
    have hp := h.1 p (by simp)
    exact absurd ((e p.1).mp (cov_cons.mpr (.inl ⟨Int.le_refl _, by omega⟩))) cov_nil
  | p :: ps, q :: qs, h, k, e => by
    have a1 := h.head k fun c => (e c).mp
    have a2 := k.head h fun c => (e c).mpr
    have e1 : p.1 = q.1 := by omega
    have b1 := h.last k e1 fun c => (e c).mpr
    have b2 := k.last h e1.symm fun c => (e c).mp
    have e2 : p.2 = q.2 := by omega
    have e0 : p = q := Prod.ext e1 e2
    subst e0
    rw [canon_uniq h.tail k.tail fun c => ⟨fun z => ?_, fun z => ?_⟩]
    · have := h.ge z
      rcases cov_cons.mp ((e c).mp (cov_cons.mpr (.inr z))) with y | y
      · omega
      · exact y
    · have := k.ge z
      rcases cov_cons.mp ((e c).mpr (cov_cons.mpr (.inr z))) with y | y
      · omega
      · exact y
/-! runs: (begin, end), the last one ahead -/
def runStep (rs : List (Int × Int)) (p : Int × Int) : List (Int × Int) :=
  match rs with
  | [] => [(p.1, p.1 + p.2)]
  | (x, y) :: t => if p.1 ≤ y then (x, if p.1 + p.2 > y then p.1 + p.2 else y) :: t else (p.1, p.1 + p.2) :: (x, y) :: t
def CovR (rs : List (Int × Int)) (c : Int) : Prop := ∃ p ∈ rs, p.1 ≤ c ∧ c < p.2
def GoodR (rs : List (Int × Int)) : Prop := (∀ p ∈ rs, p.1 < p.2) ∧ rs.Pairwise fun p q => q.2 < p.1
theorem covr_cons {p : Int × Int} {ps : List (Int × Int)} {c : Int} : CovR (p :: ps) c ↔ (p.1 ≤ c ∧ c < p.2) ∨ CovR ps c := by
  unfold CovR
  simp only [List.mem_cons, exists_eq_or_imp]
theorem runStep_ok {rs : List (Int × Int)} {p : Int × Int} (g : GoodR rs) (hp : 0 < p.2) (hh : ∀ r, rs.head? = some r → r.1 ≤ p.1) :
    GoodR (runStep rs p) ∧ (∀ c, CovR (runStep rs p) c ↔ CovR rs c ∨ (p.1 ≤ c ∧ c < p.1 + p.2)) ∧ ∀ r, (runStep rs p).head? = some r → r.1 ≤ p.1 := by
  cases rs with
  | nil =>
    refine ⟨⟨fun q hq => ?_, List.pairwise_singleton _ _⟩, fun c => ?_, fun r e => ?_⟩
    · obtain rfl : q = _ := List.mem_singleton.mp hq
      show p.1 < p.1 + p.2
      omega
    · show CovR [(p.1, p.1 + p.2)] c ↔ _
      rw [covr_cons]
      constructor
      · rintro (h | h)
        · exact .inr h
        · exact .inl h
      · rintro (h | h)
        · exact .inr h
        · exact .inl h
    · cases e
      exact Int.le_refl _
  | cons r t =>
    obtain ⟨x, y⟩ := r
    have h1 : x ≤ p.1 := hh _ rfl
    have h2 : x < y := g.1 _ (List.mem_cons_self)
    have h3 := List.pairwise_cons.mp g.2
    show GoodR (if p.1 ≤ y then _ else _) ∧ (∀ c, CovR (if p.1 ≤ y then _ else _) c ↔ _) ∧ ∀ r, (if p.1 ≤ y then _ else _ : List (Int × Int)).head? = some r → _
    by_cases hy : p.1 ≤ y
    · rw [if_pos hy]
      refine ⟨⟨fun q hq => ?_, List.pairwise_cons.mpr ⟨h3.1, h3.2⟩⟩, fun c => ?_, fun r e => ?_⟩
      · rcases List.mem_cons.mp hq with rfl | hq
        · show x < if p.1 + p.2 > y then p.1 + p.2 else y
          split <;> omega
        · exact g.1 q (List.mem_cons_of_mem _ hq)
      · rw [covr_cons, covr_cons]
        show (x ≤ c ∧ c < if p.1 + p.2 > y then p.1 + p.2 else y) ∨ _ ↔ ((x ≤ c ∧ c < y) ∨ _) ∨ _
        constructor
        · rintro (⟨a, b⟩ | h)
          · split at b
            · by_cases q : c < y
              · exact .inl (.inl ⟨a, q⟩)
              · exact .inr ⟨by omega, b⟩
            · exact .inl (.inl ⟨a, b⟩)
          · exact .inl (.inr h)
        · rintro ((⟨a, b⟩ | h) | ⟨a, b⟩)
          · refine .inl ⟨a, ?_⟩
            split <;> omega
          · exact .inr h
          · refine .inl ⟨by omega, ?_⟩
            split <;> omega
      · cases e
        exact h1
    · rw [if_neg hy]
      refine ⟨⟨fun q hq => ?_, List.pairwise_cons.mpr ⟨fun q hq => ?_, g.2⟩⟩, fun c => ?_, fun r e => ?_⟩
      · rcases List.mem_cons.mp hq with rfl | hq
        · show p.1 < p.1 + p.2
          omega
        · exact g.1 q hq
      · rcases List.mem_cons.mp hq with rfl | hq
        · show y < p.1
          omega
        · have a := h3.1 q hq
          show q.2 < p.1
          have : q.2 < x := a
          omega
      · rw [covr_cons]
        constructor
        · rintro (h | h)
          · exact .inr h
          · exact .inl h
        · rintro (h | h)
          · exact .inr h
          · exact .inl h
      · cases e
        exact Int.le_refl _
theorem runs_ok : ∀ (qs rs : List (Int × Int)), GoodR rs → (∀ q ∈ qs, 0 < q.2) → (qs.Pairwise fun p q => p.1 ≤ q.1) → (∀ q ∈ qs, ∀ r, rs.head? = some r → r.1 ≤ q.1) →
    GoodR (qs.foldl runStep rs) ∧ ∀ c, CovR (qs.foldl runStep rs) c ↔ CovR rs c ∨ Cov qs c
  | [], rs, g, _, _, _ => ⟨g, fun c => ⟨.inl, fun h => h.elim id fun z => absurd z cov_nil⟩⟩
  | q :: qs, rs, g, hp, hs, hh => by
    obtain ⟨g1, c1, h1⟩ := runStep_ok g (hp q (by simp)) (hh q (by simp))
    have hs' := List.pairwise_cons.mp hs
    obtain ⟨g2, c2⟩ := runs_ok qs (runStep rs q) g1 (fun z hz => hp z (List.mem_cons_of_mem _ hz)) hs'.2 fun z hz r e => Int.le_trans (h1 r e) (hs'.1 z hz)
    refine ⟨g2, fun c => ?_⟩
    show CovR (qs.foldl runStep (runStep rs q)) c ↔ _
    rw [c2, c1, cov_cons, or_assoc]
def runOut (rs : List (Int × Int)) : List (Int × Int) := rs.reverse.map fun p => (p.1, p.2 - p.1)
theorem runOut_ok {rs : List (Int × Int)} (g : GoodR rs) : Canon (runOut rs) ∧ ∀ c, Cov (runOut rs) c ↔ CovR rs c := by
  refine ⟨⟨fun p hp => ?_, ?_⟩, fun c => ⟨?_, ?_⟩⟩
  · obtain ⟨q, hq, rfl⟩ := List.mem_map.mp hp
    have := g.1 q (List.mem_reverse.mp hq)
    show 0 < q.2 - q.1
    omega
  · unfold runOut
    rw [List.pairwise_map, List.pairwise_reverse]
    refine g.2.imp fun {a b} h => ?_
    show b.1 + (b.2 - b.1) < a.1
    omega
  · rintro ⟨p, hp, h1, h2⟩
    obtain ⟨q, hq, rfl⟩ := List.mem_map.mp hp
    refine ⟨q, List.mem_reverse.mp hq, h1, ?_⟩
    have h2' : c < q.1 + (q.2 - q.1) := h2
    omega
  · rintro ⟨q, hq, h1, h2⟩
    refine ⟨_, List.mem_map.mpr ⟨q, List.mem_reverse.mpr hq, rfl⟩, h1, ?_⟩
    show c < q.1 + (q.2 - q.1)
    omega
theorem cov_perm {ps qs : List (Int × Int)} (h : ps.Perm qs) (c : Int) : Cov ps c ↔ Cov qs c := by
  unfold Cov
  constructor
  · rintro ⟨p, hp, z⟩
    exact ⟨p, h.mem_iff.mp hp, z⟩
  · rintro ⟨p, hp, z⟩
    exact ⟨p, h.mem_iff.mpr hp, z⟩
/-- what least tells -/
theorem least_ok {ps qs : List (Int × Int)} (hq : ∀ p ∈ ps, 0 < p.2) (hp : qs.Perm ps) (hs : qs.Pairwise fun p q => p.1 ≤ q.1) : Canon (runOut (qs.foldl runStep [])) ∧ ∀ c, Cov (runOut (qs.foldl runStep [])) c ↔ Cov ps c := by
  obtain ⟨g, c1⟩ := runs_ok qs [] ⟨fun _ h => (by cases h), List.Pairwise.nil⟩ (fun q h => hq q (hp.mem_iff.mp h)) hs fun _ _ _ e => by cases e
  obtain ⟨g2, c2⟩ := runOut_ok g
  refine ⟨g2, fun c => ?_⟩
  rw [c2, c1, cov_perm hp]
  constructor
  · rintro (⟨_, z, _⟩ | h)
    · cases z
    · exact h
  · exact .inr
/-! ### the loop that makes the runs -/
def dPair (p : Int × Int) : D := .tup [.int p.1, .int p.2]
def dPairL (p : Int × Int) : D := .lst [.int p.1, .int p.2]
def keyP (H : Hp) (x : V) : Int × Int :=
  match x with
  | .ref t => (match H t with
    | some (.tup [.int a, .int b]) => (a, b)
    | _ => (0, 0))
  | _ => (0, 0)
theorem keyP_at {H : Hp} {t : Addr} {a b : Int} (h : H t = some (.tup [.int a, .int b])) : keyP H (.ref t) = (a, b) := by
  unfold keyP
  simp only [h]
theorem pair_at {K : PySem.W.Frag} {M : AP} {H : Hp} {v : V} {p : Int × Int} (h : Is K M H v (dPair p)) : ∃ t, v = .ref t ∧ H t = some (.tup [.int p.1, .int p.2]) := by
  cases h with
  | @tup a vs _ h1 h2 =>
    have e : vs = [.int p.1, .int p.2] := IsAll.ofInts (ns := [p.1, p.2]) h2
    subst e
    exact ⟨a, rfl, h1⟩
  | tupK _ _ h => cases h
theorem pairs_at {K : PySem.W.Frag} {M : AP} {H : Hp} : ∀ {ps : List (Int × Int)} {vs : List V}, IsAll K M H vs (ps.map dPair) → (∀ x ∈ vs, ∃ t, x = .ref t ∧ H t = some (.tup [.int (keyP H x).1, .int (keyP H x).2])) ∧ vs.map (keyP H) = ps
  | [], _, h => by
    cases h
    exact ⟨fun _ h => (by cases h), rfl⟩
  | p :: ps, _, h => by
    cases h with
    | cons h1 h2 =>
      obtain ⟨t, rfl, ht⟩ := pair_at h1
      obtain ⟨a, b⟩ := pairs_at h2
      refine ⟨fun x hx => ?_, ?_⟩
      · rcases List.mem_cons.mp hx with rfl | hx
        · exact ⟨t, rfl, by rw [keyP_at ht]; exact ht⟩
        · exact a x hx
      · rw [List.map_cons, b, keyP_at ht]
def RowsAt (H : Hp) : List Addr → List (Int × Int) → Prop
  | [], [] => True
  | b :: bs, p :: ps => H b = some (.lst [.int p.1, .int p.2]) ∧ RowsAt H bs ps
  | _, _ => False
theorem RowsAt.len {H : Hp} : ∀ {bs : List Addr} {ps : List (Int × Int)}, RowsAt H bs ps → bs.length = ps.length
  | [], [], _ => rfl
  | _ :: _, _ :: _, h => congrArg (· + 1) (RowsAt.len h.2)
  | [], _ :: _, h => h.elim
  | _ :: _, [], h => h.elim
theorem RowsAt.chg {H H' : Hp} : ∀ {bs : List Addr} {ps : List (Int × Int)}, (∀ b ∈ bs, H' b = H b) → RowsAt H bs ps → RowsAt H' bs ps
  | [], [], _, _ => trivial
  | b :: bs, p :: ps, k, h => ⟨(k b (by simp)).trans h.1, RowsAt.chg (fun z hz => k z (List.mem_cons_of_mem _ hz)) h.2⟩
  | [], _ :: _, _, h => h.elim
  | _ :: _, [], _, h => h.elim
theorem RowsAt.all {K : PySem.W.Frag} {M : AP} {H : Hp} : ∀ {bs : List Addr} {ps : List (Int × Int)}, (∀ b ∈ bs, ¬ M b) → RowsAt H bs ps → IsAll K M H (bs.reverse.map V.ref) (ps.reverse.map dPairL)
  | [], [], _, _ => .nil
  | b :: bs, p :: ps, k, h => by
    rw [List.reverse_cons, List.reverse_cons, List.map_append, List.map_append]
    exact (RowsAt.all (fun z hz => k z (List.mem_cons_of_mem _ hz)) h.2).append (.cons (.lst h.1 (k b (by simp)) (.cons (.int _) (.cons (.int _) .nil))) .nil)
  | [], _ :: _, _, h => h.elim
  | _ :: _, [], _, h => h.elim
theorem runStep_len (rs : List (Int × Int)) (p : Int × Int) : (runStep rs p).length ≤ rs.length + 1 := by
  cases rs with
  | nil => exact Nat.le_refl _
  | cons r t =>
    show (if p.1 ≤ r.2 then _ else _ : List (Int × Int)).length ≤ _
    split
    · simp
    · simp
theorem runs_len : ∀ (qs rs : List (Int × Int)), (qs.foldl runStep rs).length ≤ rs.length + qs.length
  | [], rs => Nat.le_refl _
  | q :: qs, rs => by
    have a := runs_len qs (runStep rs q)
    have b := runStep_len rs q
    show (qs.foldl runStep (runStep rs q)).length ≤ rs.length + (qs.length + 1)
    omega
structure RunI (H : Hp) (σ0 : L2.St) (r s : Addr) (ys : List V) (rows : List (Int × Int)) (σ : L2.St) (H' : Hp) : Prop where
  up : ∀ a o, a ≠ r → H a = some o → H' a = some o
  sl : Same' [2, 3] σ0 σ
  hs : H' s = some (.lst ys)
  ne : s ≠ r
  rw : ∃ bs : List Addr, H' r = some (.lst (bs.reverse.map V.ref)) ∧ RowsAt H' bs rows ∧ (∀ b ∈ bs, H b = none ∧ b ≠ r ∧ b ≠ s) ∧ bs.Nodup
theorem atI_last {α : Type} {xs : List α} {v : α} : atI (xs ++ [v]) (-1) = some v := by
  unfold atI ixN
  rw [if_neg (by decide), if_pos (by rw [List.length_append, List.length_singleton]; omega)]
  show (xs ++ [v])[((-1 : Int) + ((xs ++ [v]).length : Int)).toNat]? = some v
  have e : ((-1 : Int) + ((xs ++ [v]).length : Int)).toNat = xs.length := by
    rw [List.length_append, List.length_singleton]; omega
  rw [e, List.getElem?_append_right (Nat.le_refl _), Nat.sub_self]
  rfl
theorem Stf.loose {K : PySem.W.Frag} {F : Fr} {P : List Pin} {M L : AP} {σ σ' : L2.St} {H : Hp} {es es' : Env'} (S : Stf K F P M L σ H es) (hl : σ'.length = es'.length) (h : ∀ (i : Nat) (s : SV), es'[i]? = some (some s) → es[i]? = some (some s) ∧ σ'[i]? = σ[i]?) : Stf K F P M L σ' H es' := by
  refine ⟨⟨S.st.bs, hl, fun i s e => ?_, S.st.pin, fun i j a xs ys hne e1 e2 e3 => ?_⟩, S.bs0, S.kp, S.m0, S.lo, S.ln⟩
  · obtain ⟨e', q⟩ := h i s e
    rw [q]
    exact S.st.ok i s e'
  · obtain ⟨e1', q1⟩ := h i _ e1
    obtain ⟨e2', q2⟩ := h j _ e2
    rw [q1] at e3
    rw [q2]
    exact S.st.sep i j a xs ys hne e1' e2' e3
def Val (te : TE) (σ : L2.St) (H : Hp) (v : V) : Prop := ∀ Q : VK, Q v H → te σ H Q
section
variable {K : PySem.W.Frag} {B : DEnds}
abbrev tLast (K : PySem.W.Frag) : TE := tOp (rIx K) (tVar 1) (tUn rNeg (tC (.int 1)))
abbrev tLastE (K : PySem.W.Frag) : TE := tOp (rIx K) (tLast K) (tC (.int 1))
theorem val_last {σ : L2.St} {H : Hp} {r b : Addr} {bt : List Addr} (h1 : σ[1]? = some (some (.ref r))) (hr : H r = some (.lst ((b :: bt).reverse.map V.ref))) : Val (tLast K) σ H (.ref b) := fun Q q => by
  refine ⟨.ref r, h1, 1, rfl, .inl ⟨r, _, -1, .ref b, rfl, rfl, .inl (.inl hr), ?_, q⟩⟩
  rw [List.reverse_cons, List.map_append]
  exact atI_last
theorem val_lastE {σ : L2.St} {H : Hp} {r b : Addr} {bt : List Addr} {x y : Int} (h1 : σ[1]? = some (some (.ref r))) (hr : H r = some (.lst ((b :: bt).reverse.map V.ref))) (hb : H b = some (.lst [.int x, .int y])) : Val (tLastE K) σ H (.int y) := fun Q q =>
  val_last h1 hr _ (.inl ⟨b, _, 1, .int y, rfl, rfl, .inl (.inl hb), rfl, q⟩)
abbrev tRuns (K : PySem.W.Frag) : TS := (tFor (iList K (tCB (rSortedPO K) (tCons (tVar 0) tNil))) (gTup K 2 (gCons (gName 2) (gCons (gName 3) gNil))) (tIfS (tAnd (tTruX K (tVar 1)) (tTest (tOp (rLe K) (tVar 2) (tOp (rIx K) (tOp (rIx K) (tVar 1) (tUn rNeg (tC (.int 1)))) (tC (.int 1)))))) (tAsg (tCB rMaxX (tCons (tOp (rIx K) (tOp (rIx K) (tVar 1) (tUn rNeg (tC (.int 1)))) (tC (.int 1))) (tCons (tOp (rPlus K) (tVar 2) (tVar 3)) tNil))) (gSub (tOp (rIx K) (tVar 1) (tUn rNeg (tC (.int 1)))) (tC (.int 1)) rSetL)) (tDrop (tBM K "list" rAppend (tVar 1) (tCons (tLst (tCons (tVar 2) (tCons (tOp (rPlus K) (tVar 2) (tVar 3)) tNil))) tNil)))))
/-- the body's one turn -/
theorem runs_turn {H : Hp} {σ0 σ' : L2.St} {r s : Addr} {ys : List V} {rows : List (Int × Int)} {H' : Hp} {f m : Int} {D : Ends} (hl0 : 3 < σ0.length) (h01 : σ0[1]? = some (some (.ref r))) (hrH : H r = some (.lst [])) (hz : rows.length < 1000) (p : RunI H σ0 r s ys rows σ' H')
    (hN : ∀ σ2 H2, RunI H σ0 r s ys (runStep rows (f, m)) σ2 H2 → D.nx σ2 H2) :
    (tIfS (tAnd (tTruX K (tVar 1)) (tTest (tOp (rLe K) (tVar 2) (tLastE K)))) (tAsg (tCB rMaxX (tCons (tLastE K) (tCons (tOp (rPlus K) (tVar 2) (tVar 3)) tNil))) (gSub (tLast K) (tC (.int 1)) rSetL)) (tDrop (tBM K "list" rAppend (tVar 1) (tCons (tLst (tCons (tVar 2) (tCons (tOp (rPlus K) (tVar 2) (tVar 3)) tNil))) tNil)))) D ((σ'.set 2 (some (.int f))).set 3 (some (.int m))) H' := by
  obtain ⟨bs, hr, hrow, hbs, nd⟩ := p.rw
  have hl : σ'.length = σ0.length := p.sl.1
  generalize hσ : (σ'.set 2 (some (.int f))).set 3 (some (.int m)) = σ2
  have g1 : σ2[1]? = some (some (.ref r)) := by
    rw [← hσ, List.getElem?_set_ne (by decide), List.getElem?_set_ne (by decide), p.sl.2 1 (by decide)]
    exact h01
  have g2 : σ2[2]? = some (some (.int f)) := by
    rw [← hσ, List.getElem?_set_ne (by decide), List.getElem?_set_self (by omega)]
  have g3 : σ2[3]? = some (some (.int m)) := by
    rw [← hσ, List.getElem?_set_self (by rw [List.length_set]; omega)]
  have sl2 : Same' [2, 3] σ0 σ2 := by
    rw [← hσ]
    refine ⟨by rw [List.length_set, List.length_set]; exact hl, fun k hk => ?_⟩
    have k2 : 2 ≠ k := fun e => hk (by rw [← e]; decide)
    have k3 : 3 ≠ k := fun e => hk (by rw [← e]; decide)
    rw [List.getElem?_set_ne k3, List.getElem?_set_ne k2, p.sl.2 k hk]
  have plus : ∀ (H : Hp) (Q : VK), Q (.int (f + m)) H → tOp (rPlus K) (tVar 2) (tVar 3) σ2 H Q := fun H Q q => ⟨_, g2, _, g3, .inl ⟨f, m, rfl, rfl, q⟩⟩
  -- a new run
  have new : runStep rows (f, m) = (f, f + m) :: rows → tDrop (tBM K "list" rAppend (tVar 1) (tCons (tLst (tCons (tVar 2) (tCons (tOp (rPlus K) (tVar 2) (tVar 3)) tNil))) tNil)) D σ2 H' := by
    intro er
    refine ⟨.ref r, g1, tyL hr, ⟨.int f, g2, plus H' _ ⟨(by show 2 ≤ sizeLine; decide), fun q hq => ?_⟩⟩⟩
    have qr : q ≠ r := fun e => by rw [e, hr] at hq; cases hq
    have qs : q ≠ s := fun e => by rw [e, p.hs] at hq; cases hq
    have hqH : H q = none := by
      cases e : H q with
      | none => rfl
      | some o =>
        have := p.up q o qr e
        rw [hq] at this
        cases this
    have qb : q ∉ bs := fun hb => by
      have : ∀ {bs : List Addr} {ps : List (Int × Int)}, RowsAt H' bs ps → ∀ b ∈ bs, H' b ≠ none := fun {bs} => by
        induction bs with
        | nil => intro ps _ b hb; cases hb
        | cons b0 bs ih =>
          intro ps h b hb
          cases ps with
          | nil => exact h.elim
          | cons p0 ps =>
            rcases List.mem_cons.mp hb with rfl | hb
            · rw [h.1]; exact fun e => by cases e
            · exact ih h.2 b hb
      exact this hrow q hb hq
    refine ⟨r, _, .ref q, rfl, rfl, (upd_ne (Ne.symm qr)).trans hr, ?_, ?_⟩
    · rw [List.length_map, List.length_reverse, hrow.len]
      exact Nat.lt_trans hz (by decide)
    · refine hN _ _ ⟨fun a o n e => ?_, sl2, ?_, p.ne, q :: bs, ?_, ?_, ?_, List.nodup_cons.mpr ⟨qb, nd⟩⟩
      · rw [upd_ne n, upd_ne (fun z => by rw [z, hqH] at e; cases e)]
        exact p.up a o n e
      · have sr := p.ne
        rw [upd_ne sr, upd_ne (Ne.symm qs)]
        exact p.hs
      · rw [upd_same, List.reverse_cons, List.map_append]
        rfl
      · rw [er]
        refine ⟨by rw [upd_ne qr, upd_same], hrow.chg fun b hb => ?_⟩
        rw [upd_ne (hbs b hb).2.1, upd_ne (fun z => qb (by rw [← z]; exact hb))]
      · intro b hb
        rcases List.mem_cons.mp hb with rfl | hb
        · exact ⟨hqH, qr, qs⟩
        · exact hbs b hb
  cases bs with
  | nil =>
    cases rows with
    | cons _ _ => exact hrow.elim
    | nil =>
      refine ⟨.ref r, g1, false, .inl ⟨_, .inl (.inl hr), rfl⟩, ?_⟩
      dsimp only
      rw [if_neg Bool.false_ne_true, if_neg Bool.false_ne_true]
      exact new rfl
  | cons b bt =>
    cases rows with
    | nil => exact hrow.elim
    | cons z tl =>
      obtain ⟨x, y⟩ := z
      obtain ⟨hb, hbt⟩ := hrow
      have hb : H' b = some (.lst [.int x, .int y]) := hb
      refine ⟨.ref r, g1, true, .inl ⟨_, .inl (.inl hr), by simp⟩, ?_⟩
      dsimp only
      rw [if_pos rfl]
      refine ⟨.int f, g2, val_lastE g1 hr hb _ (.inl ⟨f, y, rfl, rfl, _, rfl, ?_⟩)⟩
      by_cases hy : f ≤ y
      · rw [decide_eq_true hy]
        dsimp only
        rw [if_pos rfl]
        have er : runStep ((x, y) :: tl) (f, m) = (x, if f + m > y then f + m else y) :: tl := if_pos hy
        refine val_lastE g1 hr hb _ (plus H' _ ⟨y, f + m, rfl, ?_⟩)
        refine val_last g1 hr _ ⟨b, _, 1, 1, rfl, rfl, hb, rfl, ?_⟩
        have nb := List.nodup_cons.mp nd
        have b1 := hbs b (by simp)
        refine hN _ _ ⟨fun a o n e => ?_, sl2, ?_, p.ne, b :: bt, ?_, ?_, hbs, nd⟩
        · rw [upd_ne (fun z => by rw [z, b1.1] at e; cases e)]
          exact p.up a o n e
        · rw [upd_ne (Ne.symm b1.2.2)]
          exact p.hs
        · rw [upd_ne (Ne.symm b1.2.1)]
          exact hr
        · rw [er]
          refine ⟨upd_same, hbt.chg fun c hc => ?_⟩
          rw [upd_ne (fun z => nb.1 (by rw [← z]; exact hc))]
      · rw [decide_eq_false hy]
        dsimp only
        rw [if_neg Bool.false_ne_true]
        exact new (if_neg hy)
theorem ds_runs {ps : List (Int × Int)} (hn : ps.length < 1000)
    (h : ∀ qs : List (Int × Int), qs.Perm ps → (qs.Pairwise fun p q => p.1 ≤ q.1) → B.nx [some (.d (.lst (ps.map dPair))), some (.d (.lst ((qs.foldl runStep []).reverse.map dPairL))), none, none, none]) :
    DS K (tRuns K) [some (.d (.lst (ps.map dPair))), some (.own []), none, none, none] B := fun F P M L σ H S E o => by
  obtain ⟨v0, hv0, ok0⟩ := S.st.ok 0 _ rfl
  have ok0 : Is K M H v0 (.lst (ps.map dPair)) := ok0
  cases ok0 with
  | @lst a0 vs0 _ h0 m0 hall =>
    obtain ⟨v1, hv1, r, us, rfl, mr, nr, lr, hr, hr2⟩ := S.st.ok 1 _ rfl
    cases hr2
    have hl0 : σ.length = 5 := S.st.len
    obtain ⟨hx, hk⟩ := pairs_at hall
    refine ⟨.ref a0, hv0, a0, vs0, keyP H, rfl, .inl (.inl h0), hx, fun ys s srt stb hs => ?_⟩
    have sr : s ≠ r := fun e => by rw [e, hr] at hs; cases hs
    have perm : (ys.map (keyP H)).Perm ps := by
      have := stb.perm.map (keyP H)
      rw [hk] at this
      exact this
    have srt' : (ys.map (keyP H)).Pairwise fun p q => p.1 ≤ q.1 := by
      rw [List.pairwise_map]
      refine List.Pairwise.imp ?_ srt
      intro a b q
      have := SrtO.lexB_no.mp q
      omega
    have ylen : ys.length < 1000 := by
      have := perm.length_eq
      rw [List.length_map] at this
      omega
    refine ⟨s, rfl, ⟨ys, .inl (.inl upd_same)⟩, for_list (K := K) (a := s) (xs := ys) (fun i σ' H' => RunI H σ r s ys (((ys.map (keyP H)).take i).foldl runStep []) σ' H') ?_ (fun i σ' H' hi p => .inl (.inl p.hs)) ?_ ?_⟩
    · refine ⟨fun a o n e => ?_, ⟨rfl, fun _ _ => rfl⟩, upd_same, sr, [], ?_, trivial, fun b hb => (by cases hb), List.Pairwise.nil⟩
      · rw [upd_ne (fun z => by rw [z, hs] at e; cases e)]
        exact e
      · rw [upd_ne (Ne.symm sr)]
        exact hr
    · intro i x σ' H' hxi p
      have hm : x ∈ vs0 := stb.perm.mem_iff.mp (List.mem_of_getElem? hxi)
      obtain ⟨t, rfl, ht⟩ := hx x hm
      have tr : t ≠ r := fun e => by rw [e, hr] at ht; cases ht
      have ht' := p.up t _ tr ht
      have hi := (List.getElem?_eq_some_iff.mp hxi).1
      refine ⟨t, _, rfl, .inl (.inl ht'), rfl, _, _, rfl, _, _, rfl, rfl, ?_⟩
      refine runs_turn (rows := ((ys.map (keyP H)).take i).foldl runStep []) (by omega) hv1 hr ?_ p fun σ2 H2 q => ?_
      · have := runs_len ((ys.map (keyP H)).take i) []
        rw [List.length_take] at this
        have e0 : ([] : List (Int × Int)).length = 0 := rfl
        omega
      · show RunI H σ r s ys _ σ2 H2
        have e : (ys.map (keyP H)).take (i + 1) = (ys.map (keyP H)).take i ++ [keyP H (.ref t)] := take_get (by rw [List.getElem?_map, hxi]; rfl)
        rw [e, List.foldl_append]
        exact q
    · intro σ' H' p
      have p : RunI H σ r s ys (((ys.map (keyP H)).take ys.length).foldl runStep []) σ' H' := p
      rw [List.take_of_length_le (by rw [List.length_map]; exact Nat.le_refl _)] at p
      obtain ⟨bs, hr', hrow, hbs, nd⟩ := p.rw
      have kx : Kp L H (upd H' r (.lst [])) := by
        refine ⟨fun a o nl e => ?_, fun a la => ?_⟩
        · by_cases ar : a = r
          · rw [ar, hr] at e
            cases e
            rw [ar, upd_same]
          · rw [upd_ne ar]
            exact p.up a o ar e
        · obtain ⟨g, m', z⟩ := S.st.bs.bag a la
          have ar : a ≠ r := fun e => lr (by rw [← e]; exact la)
          exact ⟨g, m', by rw [upd_ne ar]; exact p.up a _ ar z⟩
      have S1 := S.kp' kx
      have hw : IsAll K M (upd H' r (.lst [])) (bs.reverse.map V.ref) (((ys.map (keyP H)).foldl runStep []).reverse.map dPairL) := by
        refine RowsAt.all (fun b hb mb => ?_) (hrow.chg fun b hb => upd_ne (hbs b hb).2.1)
        obtain ⟨o', ho⟩ := S.st.bs.tk b mb
        rw [(hbs b hb).1] at ho
        cases ho
      have S2 := S1.upd (i := 1) (a := r) rfl hv1 hw
      rw [upd_upd] at S2
      have eH : upd H' r (.lst (bs.reverse.map V.ref)) = H' := by
        funext c
        by_cases cr : c = r
        · rw [cr, upd_same, hr']
        · rw [upd_ne cr]
      rw [eH] at S2
      obtain ⟨M', S3⟩ := S2.freeze (i := 1) rfl
      refine o.nx _ M' L σ' H' (S3.loose (by rw [p.sl.1]; exact hl0) fun i z e => ?_) (h _ perm srt')
      match i, e with
      | 0, e => exact ⟨e, p.sl.2 0 (by decide)⟩
      | 1, e => exact ⟨e, p.sl.2 1 (by decide)⟩
      | 2, e => cases e
      | 3, e => cases e
      | 4, e => cases e
/-- for a, b in xs, the items lists -/
theorem dg_unl {es : Env'} {n : Nat} {gs : TGs} {xs : List D} {js : List Nat} {Q : Env' → Prop} (l : xs.length = n) (h : DGs K gs xs js es Q) : DG K (gUnl K n gs) (.lst xs) js es Q := fun P N M L σ H v S o R k => by
  cases o with
  | lst h1 _ h2 => exact ⟨_, _, rfl, .inl (.inl h1), h2.len.trans l, h P N M L σ H _ S h2 R k⟩
end
end DL

namespace DL
open PySem PySem.Spec PyProof.Rows L2
section
variable {K : PySem.W.Frag} {es : Env'} {te : TE} {tt : TT} {t : TS} {B : DEnds}
/-- while: I m es, m falls -/
theorem ds_while (I : Nat → Env' → Prop) (m0 : Nat) (h0 : I m0 es) (hs : ∀ m es', I m es' → DT K tt es' fun b => if b = true then DS K t es' ⟨fun e => ∃ m', m' < m ∧ I m' e, B.rt, B.nx, fun e => ∃ m', m' < m ∧ I m' e, B.xo⟩ else B.nx es') : DS K (tWhile tt t) es B := fun F P M L σ H S E o => by
  refine ⟨fun m σ H => ∃ es' M' L', Stf K F P M' L' σ H es' ∧ I m es', ⟨m0, es, M, L, S, h0⟩, ?_⟩
  rintro m σ' H' ⟨es', M', L', S', hI⟩
  refine hs m es' hI P _ M' L' σ' H' S'.st _ fun b H1 k1 q => ?_
  cases b with
  | false =>
    rw [if_neg Bool.false_ne_true] at q ⊢
    exact o.nx _ _ _ _ _ (S'.kp' k1) q
  | true =>
    rw [if_pos rfl] at q ⊢
    refine ⟨fun σ2 H2 => ∃ m', m' < m ∧ ∃ es2 M2 L2, Stf K F P M2 L2 σ2 H2 es2 ∧ I m' es2, fun σ2 H2 h => h, ?_⟩
    refine q F P M' L' σ' H1 (S'.kp' k1) _ ⟨?_, o.rt, o.nx, ?_, o.xo⟩
    · rintro e M2 L2 σ2 H2 S2 ⟨m', lt, h⟩
      exact ⟨m', lt, e, M2, L2, S2, h⟩
    · rintro e M2 L2 σ2 H2 S2 ⟨m', lt, h⟩
      exact ⟨m', lt, e, M2, L2, S2, h⟩
/-- t, then u from one state -/
theorem ds_cut {u : TS} {e0 : Env'} (h1 : DS K t es { B with nx := fun e => e = e0 }) (h2 : DS K u e0 B) : DS K (tSeq t u) es B := fun F P M L σ H S E o =>
  h1 F P M L σ H S { E with nx := u E } ⟨fun e M L σ H S q => by subst q; exact h2 F P M L σ H S E o, o.rt, o.bk, o.ct, o.xo⟩
/-- x += e, ints -/
theorem ds_aug {i : Nat} {a : Int} (e : es[i]? = some (some (.d (.int a)))) (h : DE K te es fun s => ∃ b : Int, s = .d (.int b) ∧ B.nx (es.set i (some (.d (.int (a + b)))))) : DS K (tAug i te (ipI fun i j => i + j)) es B := fun F P M L σ H S E o => by
  obtain ⟨v, hv, ok⟩ := S.st.ok i _ e
  cases ok
  refine ⟨.int a, hv, h P _ M L σ H S.st _ fun s w H1 k1 ok1 q => ?_⟩
  obtain ⟨b, rfl, q⟩ := q
  cases ok1
  exact ⟨a, b, rfl, rfl, o.nx _ _ _ _ _ ((S.kp' k1).setp (s := .d (.int (a + b))) (Is.int _) trivial) q⟩
end
/-! ### cells of both -/
structure BI (L R A C S : List (Int × Int)) : Prop where
  can : Canon S
  cov : ∀ c, Cov S c ↔ Cov L c ∧ Cov R c ∧ (Cov A c ∨ Cov C c)
  last : ∀ p ∈ S, (∃ q ∈ A, p.1 + p.2 ≤ q.1 + q.2) ∨ ∃ q ∈ C, p.1 + p.2 ≤ q.1 + q.2
  len : S.length ≤ A.length + C.length
theorem BI.swap {L R A C S : List (Int × Int)} (h : BI L R A C S) : BI R L C A S := by
  refine ⟨h.can, fun c => (h.cov c).trans ?_, fun p hp => (h.last p hp).symm, by have := h.len; omega⟩
  constructor
  · rintro ⟨a, b, z⟩
    exact ⟨b, a, z.symm⟩
  · rintro ⟨a, b, z⟩
    exact ⟨b, a, z.symm⟩
theorem cov_app {ps qs : List (Int × Int)} {c : Int} : Cov (ps ++ qs) c ↔ Cov ps c ∨ Cov qs c := by
  unfold Cov
  constructor
  · rintro ⟨p, hp, z⟩
    exact (List.mem_append.mp hp).elim (fun h => .inl ⟨p, h, z⟩) fun h => .inr ⟨p, h, z⟩
  · rintro (⟨p, hp, z⟩ | ⟨p, hp, z⟩)
    · exact ⟨p, List.mem_append_left _ hp, z⟩
    · exact ⟨p, List.mem_append_right _ hp, z⟩
def addS (S : List (Int × Int)) (f e : Int) : List (Int × Int) := if f < e then S ++ [(f, e - f)] else S
def mx (x y : Int) : Int := if y > x then y else x
theorem BI.step {L R A A' C C' S : List (Int × Int)} {l r : Int × Int} (eL : L = A ++ l :: A') (eR : R = C ++ r :: C') (hL : Canon L) (hR : Canon R) (h : BI L R A C S) (hle : l.1 + l.2 ≤ r.1 + r.2) (f : Int) (hf : f = mx l.1 r.1) :
    BI L R (A ++ [l]) C (addS S f (l.1 + l.2)) := by
  have f1 : l.1 ≤ f := by rw [hf]; unfold mx; split <;> omega
  have f2 : r.1 ≤ f := by rw [hf]; unfold mx; split <;> omega
  have f3 : f = l.1 ∨ f = r.1 := by
    rw [hf]; unfold mx; split
    · exact .inr rfl
    · exact .inl rfl
  have pL : (∀ q ∈ A, q.1 + q.2 < l.1) ∧ ∀ q ∈ A', l.1 + l.2 < q.1 := by
    have := hL.2
    rw [eL] at this
    have q := List.pairwise_append.mp this
    exact ⟨fun z hz => q.2.2 z hz l (by simp), (List.pairwise_cons.mp q.2.1).1⟩
  have pR : (∀ q ∈ C, q.1 + q.2 < r.1) ∧ ∀ q ∈ C', r.1 + r.2 < q.1 := by
    have := hR.2
    rw [eR] at this
    have q := List.pairwise_append.mp this
    exact ⟨fun z hz => q.2.2 z hz r (by simp), (List.pairwise_cons.mp q.2.1).1⟩
  have cadd : ∀ c, Cov (addS S f (l.1 + l.2)) c ↔ Cov S c ∨ (f ≤ c ∧ c < l.1 + l.2) := by
    intro c
    unfold addS
    by_cases lt : f < l.1 + l.2
    · rw [if_pos lt, cov_app, cov_cons]
      constructor
      · rintro (z | z | z)
        · exact .inl z
        · have z : f ≤ c ∧ c < f + (l.1 + l.2 - f) := z
          exact .inr ⟨z.1, by omega⟩
        · exact absurd z cov_nil
      · rintro (z | z)
        · exact .inl z
        · exact .inr (.inl ⟨z.1, by show c < f + (l.1 + l.2 - f); omega⟩)
    · rw [if_neg lt]
      constructor
      · exact .inl
      · rintro (z | z)
        · exact z
        · omega
  refine ⟨?_, fun c => ?_, fun p hp => ?_, ?_⟩
  · unfold addS
    by_cases lt : f < l.1 + l.2
    · rw [if_pos lt]
      refine ⟨fun p hp => ?_, List.pairwise_append.mpr ⟨h.can.2, List.pairwise_singleton _ _, fun p hp q hq => ?_⟩⟩
      · rcases List.mem_append.mp hp with hp | hp
        · exact h.can.1 p hp
        · obtain rfl := List.mem_singleton.mp hp
          show 0 < l.1 + l.2 - f
          omega
      · obtain rfl := List.mem_singleton.mp hq
        show p.1 + p.2 < f
        rcases h.last p hp with ⟨q, hq, z⟩ | ⟨q, hq, z⟩
        · have := pL.1 q hq
          omega
        · have := pR.1 q hq
          omega
    · rw [if_neg lt]
      exact h.can
  · rw [cadd, h.cov, cov_app, cov_cons]
    constructor
    · rintro (⟨a, b, z⟩ | z)
      · exact ⟨a, b, z.elim (fun z => .inl (.inl z)) .inr⟩
      · refine ⟨?_, ?_, .inl (.inr (.inl ⟨by omega, z.2⟩))⟩
        · rw [eL, cov_app, cov_cons]
          exact .inr (.inl ⟨by omega, z.2⟩)
        · rw [eR, cov_app, cov_cons]
          exact .inr (.inl ⟨by omega, by omega⟩)
    · rintro ⟨a, b, (z | z | z) | z⟩
      · exact .inl ⟨a, b, .inl z⟩
      · have b' := b
        rw [eR, cov_app, cov_cons] at b'
        rcases b' with y | y | y
        · exact .inl ⟨a, b, .inr y⟩
        · refine .inr ⟨?_, z.2⟩
          rcases f3 with e | e
          · rw [e]; exact z.1
          · rw [e]; exact y.1
        · obtain ⟨q, hq, y1, _⟩ := y
          have := pR.2 q hq
          omega
      · exact absurd z cov_nil
      · exact .inl ⟨a, b, .inr z⟩
  · have old : p ∈ S → (∃ q ∈ A ++ [l], p.1 + p.2 ≤ q.1 + q.2) ∨ ∃ q ∈ C, p.1 + p.2 ≤ q.1 + q.2 := fun hp => by
      rcases h.last p hp with ⟨q, hq, z⟩ | z
      · exact .inl ⟨q, List.mem_append_left _ hq, z⟩
      · exact .inr z
    unfold addS at hp
    by_cases lt : f < l.1 + l.2
    · rw [if_pos lt] at hp
      rcases List.mem_append.mp hp with hp | hp
      · exact old hp
      · obtain rfl := List.mem_singleton.mp hp
        refine .inl ⟨l, List.mem_append_right _ (List.mem_singleton.mpr rfl), ?_⟩
        show f + (l.1 + l.2 - f) ≤ l.1 + l.2
        omega
    · rw [if_neg lt] at hp
      exact old hp
  · have := h.len
    rw [List.length_append, List.length_singleton]
    unfold addS
    split
    · rw [List.length_append, List.length_singleton]
      omega
    · omega
theorem split_at {α : Type} {xs : List α} {i : Nat} {x : α} (h : xs[i]? = some x) : xs = xs.take i ++ x :: xs.drop (i + 1) := by
  have hi := (List.getElem?_eq_some_iff.mp h).1
  have e : xs.drop i = x :: xs.drop (i + 1) := by
    rw [List.drop_eq_getElem_cons hi]
    congr 1
    exact (List.getElem?_eq_some_iff.mp h).2
  rw [← e, List.take_append_drop]
theorem BI.zero (L R : List (Int × Int)) : BI L R [] [] [] := by
  refine ⟨⟨fun p hp => (by cases hp), List.Pairwise.nil⟩, fun c => ⟨fun h => absurd h cov_nil, ?_⟩, fun p hp => (by cases hp), Nat.le_refl _⟩
  rintro ⟨_, _, h | h⟩
  · exact absurd h cov_nil
  · exact absurd h cov_nil
theorem BI.fin {L R A C S : List (Int × Int)} (h : BI L R A C S) (e : A = L ∨ C = R) (c : Int) : Cov S c ↔ Cov L c ∧ Cov R c := by
  rw [h.cov]
  constructor
  · rintro ⟨a, b, _⟩
    exact ⟨a, b⟩
  · rintro ⟨a, b⟩
    refine ⟨a, b, ?_⟩
    rcases e with rfl | rfl
    · exact .inl a
    · exact .inr b
theorem atI_at {α : Type} {xs : List α} {i : Nat} {x : α} (h : xs[i]? = some x) : atI xs (i : Int) = some x := by
  have hi := (List.getElem?_eq_some_iff.mp h).1
  unfold atI ixN
  rw [if_pos (Int.natCast_nonneg i), if_pos (by omega)]
  show xs[(i : Int).toNat]? = some x
  rw [Int.toNat_natCast]
  exact h
/-- what lies between -/
structure GI (rs T G : List (Int × Int)) (b : Int) : Prop where
  pos : ∀ p ∈ G, 0 < p.2
  len : G.length ≤ T.length
  out : ∀ c, Cov G c → ¬ Cov rs c
  all : ∀ c, 0 ≤ c → c < b → ¬ Cov rs c → Cov G c
  hi : ∀ q ∈ T, q.1 + q.2 ≤ b
theorem cov_addS {S : List (Int × Int)} {f e c : Int} : Cov (addS S f e) c ↔ Cov S c ∨ (f ≤ c ∧ c < e) := by
  unfold addS
  by_cases lt : f < e
  · rw [if_pos lt, cov_app, cov_cons]
    constructor
    · rintro (z | z | z)
      · exact .inl z
      · have z : f ≤ c ∧ c < f + (e - f) := z
        exact .inr ⟨z.1, by omega⟩
      · exact absurd z cov_nil
    · rintro (z | z)
      · exact .inl z
      · exact .inr (.inl ⟨z.1, by show c < f + (e - f); omega⟩)
  · rw [if_neg lt]
    constructor
    · exact .inl
    · rintro (z | z)
      · exact z
      · omega
theorem addS_pos {S : List (Int × Int)} {f e : Int} (h : ∀ p ∈ S, 0 < p.2) : ∀ p ∈ addS S f e, 0 < p.2 := by
  intro p hp
  unfold addS at hp
  by_cases lt : f < e
  · rw [if_pos lt] at hp
    rcases List.mem_append.mp hp with hp | hp
    · exact h p hp
    · obtain rfl := List.mem_singleton.mp hp
      show 0 < e - f
      omega
  · rw [if_neg lt] at hp
    exact h p hp
theorem addS_len {S : List (Int × Int)} {f e : Int} : (addS S f e).length ≤ S.length + 1 := by
  unfold addS
  split
  · rw [List.length_append, List.length_singleton]; omega
  · omega
theorem GI.zero (rs : List (Int × Int)) : GI rs [] [] 0 := ⟨fun p hp => (by cases hp), Nat.le_refl _, fun c h => absurd h cov_nil, fun c h0 h1 => by omega, fun p hp => (by cases hp)⟩
theorem GI.step {rs T T' G : List (Int × Int)} {b : Int} {p : Int × Int} (e : rs = T ++ p :: T') (hc : Canon rs) (h : GI rs T G b) : GI rs (T ++ [p]) (addS G b p.1) (p.1 + p.2) := by
  have pp : (∀ q ∈ T, q.1 + q.2 < p.1) ∧ ∀ q ∈ T', p.1 + p.2 < q.1 := by
    have := hc.2
    rw [e] at this
    have q := List.pairwise_append.mp this
    exact ⟨fun z hz => q.2.2 z hz p (by simp), (List.pairwise_cons.mp q.2.1).1⟩
  have p0 : 0 < p.2 := hc.1 p (by rw [e]; simp)
  refine ⟨addS_pos h.pos, ?_, fun c hcv => ?_, fun c h0 h1 hn => ?_, fun q hq => ?_⟩
  · have := addS_len (S := G) (f := b) (e := p.1)
    have := h.len
    rw [List.length_append, List.length_singleton]
    omega
  · rcases cov_addS.mp hcv with z | z
    · exact h.out c z
    · rw [e, cov_app, cov_cons]
      rintro (⟨q, hq, y1, y2⟩ | y | ⟨q, hq, y1, y2⟩)
      · have := h.hi q hq
        omega
      · omega
      · have := pp.2 q hq
        omega
  · rw [cov_addS]
    by_cases cb : c < b
    · exact .inl (h.all c h0 cb hn)
    · by_cases cp : c < p.1
      · exact .inr ⟨by omega, cp⟩
      · exact absurd (by rw [e, cov_app, cov_cons]; exact .inr (.inl ⟨by omega, h1⟩)) hn
  · rcases List.mem_append.mp hq with hq | hq
    · have := pp.1 q hq
      omega
    · obtain rfl := List.mem_singleton.mp hq
      exact Int.le_refl _
theorem GI.fin {rs G : List (Int × Int)} {b e : Int} (h : GI rs rs G b) : (∀ p ∈ addS G b e, 0 < p.2) ∧ (addS G b e).length ≤ rs.length + 1 ∧ (∀ c, Cov (addS G b e) c → ¬ Cov rs c) ∧ ∀ c, 0 ≤ c → c < e → ¬ Cov rs c → Cov (addS G b e) c := by
  refine ⟨addS_pos h.pos, ?_, fun c hcv => ?_, fun c h0 h1 hn => ?_⟩
  · have := addS_len (S := G) (f := b) (e := e)
    have := h.len
    omega
  · rcases cov_addS.mp hcv with z | z
    · exact h.out c z
    · rintro ⟨q, hq, y1, y2⟩
      have := h.hi q hq
      omega
  · rw [cov_addS]
    by_cases cb : c < b
    · exact .inl (h.all c h0 cb hn)
    · exact .inr ⟨by omega, h1⟩
/-- max(xs, default=d), xs ints -/
def rMaxD (K : PySem.W.Frag) : List V → List V → Hp → VK → Prop := fun vs zs H Q => ∃ (a : Addr) (ns : List Int) (d : Int), vs = [.ref a] ∧ zs = [.int d] ∧ SqL K H a (ns.map V.int) ∧ ∀ m : Int, (ns = [] → m = d) → (ns ≠ [] → m ∈ ns) → (∀ x ∈ ns, x ≤ m) → Q (.int m) H
theorem de_maxD {K : PySem.W.Frag} {es : Env'} {Q : SV → Prop} {i : Nat} {ns : List Int} {d : Int} (e : es[i]? = some (some (.d (.lst (ns.map D.int))))) (q : ∀ m : Int, (∀ x ∈ ns, x ≤ m) → Q (.d (.int m))) : DE K (tCKw (rMaxD K) (tCons (tVar i) tNil) (tCons (tC (.int d)) tNil)) es Q := fun P N M L σ H S R k => by
  obtain ⟨v, hv, ok⟩ := S.ok i _ e
  have ok : Is K M H v (.lst (ns.map D.int)) := ok
  cases ok with
  | @lst a vs _ h1 h2 h3 =>
    have ev := IsAll.ofInts h3
    subst ev
    exact ⟨.ref a, hv, ⟨a, ns, d, rfl, rfl, .inl (.inl h1), fun m _ _ h => k (.d (.int m)) _ H (Kp.refl S.bs) (Is.int m) (q m h)⟩⟩
end DL

namespace DL
open PySem PySem.Spec PyProof.Rows
/-! ### max(xs, default=d), the builtin -/
def OldIs (P : Nat → Value → Prop) (bt : Nat → Nat → Bool) (j : Nat) (old : Array Value) : Prop := (j = 0 ∧ old = #[]) ∨ (0 < j ∧ ∃ vb, old = #[vb, vb] ∧ P (argBest bt (j - 1)) vb)
section
variable {prog : Program} {w : World} {A : Around} {R : Result → Shared → Prop} {I : Addr} {fp wr : List Addr} {n : Nat} {P : Nat → Value → Prop} {St : Nat → Heap → Prop}
theorem maxD_loop (W : Walks prog w A.in1 I fp wr n P St) (bt : Nat → Nat → Bool) (hcmp : CmpOf prog w A.in1 .Gt P bt) (S : Addr) (hSf : S ∉ fp) (d : Value) :
    ∀ (k j : Nat) (s : Shared) (old : Array Value) (c : Nat), n - j = k → j ≤ n → St j s.heap → OldIs P bt j old →
    s.heap.get? S = some { cls := .type "list", dict := none, data := .seq old c, slots := #[] } →
    (∀ v h' tk, ((n = 0 ∧ v = d) ∨ (0 < n ∧ P (argBest bt (n - 1)) v)) → (∀ b o, b ∉ wr → b ≠ S → s.heap.get? b = some o → h'.get? b = some o) → R (.ok (.ret v)) { s with heap := h', toks := tk }) →
    codeAny (model prog w) A (.builtin "max.loop" ⟨[.ref I, .none, .ref S], [(Str.ofString "default", d)]⟩) R s := by
  have hSw : S ∉ wr := fun h => hSf (W.sub _ h)
  have hname : (toString "max" ++ toString ".loop" : String) = "max.loop" := by decide
  intro k
  induction k with
  | zero =>
    intro j s old c hk hj hst hold hS hR
    have hin : j = n := by omega
    refine codeAny_builtin F.entry_max_loop ?_
    rw [Around.under_plainId F.plain_max_loop _]
    refine wpAny_bind (wpAny_seqItems hS rfl ?_)
    refine wpAny_bind (wpAny_tryCatch (W.done s _ _ (hin ▸ hst) fun h' tk hk' => ?_))
    have hS' := hk' S _ hSw hS
    rcases hold with ⟨j0, rfl⟩ | ⟨j0, vb, rfl, hP⟩
    · show wpAny _ A.in1 (rule _ >>= fun _ => ret d) _ _ _
      refine wpAny_bind (wpAny_rule (wpAny_pure ?_))
      exact hR d _ tk (.inl ⟨by omega, rfl⟩) fun b o hbw hbS e => hk' b o hbw e
    · refine wpAny_bind ?_
      refine wpAny_updateSeq hS' rfl (wpAny_bind (wpAny_letGo (wpAny_pure ?_)))
      exact hR vb _ tk (.inr ⟨by omega, by rw [← hin]; exact hP⟩) fun b o hbw hbS e => (Heap.get?_update_other _ _ (Ne.symm hbS)).trans (hk' b o hbw e)
  | succ k ih =>
    intro j s old c hk hj hst hold hS hR
    have hlt : j < n := by omega
    refine codeAny_builtin F.entry_max_loop ?_
    rw [Around.under_plainId F.plain_max_loop _]
    refine wpAny_bind (wpAny_seqItems hS rfl ?_)
    refine wpAny_bind (wpAny_tryCatch (W.item j s _ _ hlt hst fun v h' tk hP hst' hk' => ?_))
    have hS' := hk' S _ hSw hS
    have go : ∀ (old' : Array Value) (c' : Nat) (hp : Heap) (tk' : Nat), St (j + 1) hp → OldIs P bt (j + 1) old' → hp.get? S = some { cls := .type "list", dict := none, data := .seq old' c', slots := #[] } →
        (∀ b o, b ∉ wr → b ≠ S → s.heap.get? b = some o → hp.get? b = some o) → codeAny (model prog w) A (.builtin "max.loop" ⟨[.ref I, .none, .ref S], [(Str.ofString "default", d)]⟩) R { s with heap := hp, toks := tk' } := fun old' c' hp tk' h1 h2 h3 h4 =>
      ih (j + 1) _ old' c' (by omega) hlt h1 h2 h3 fun v' h'' tk'' hP' hk'' => hR v' h'' tk'' hP' fun b o hbw hbS e => hk'' b o hbw hbS (h4 b o hbw hbS e)
    rcases hold with ⟨j0, rfl⟩ | ⟨j0, vb, rfl, hPb⟩
    · subst j0
      show wpAny _ A.in1 (updateSeq S (fun _ => #[v, v]) >>= _) _ _ _
      refine wpAny_bind (wpAny_updateSeq hS' rfl ?_)
      rw [hname]
      refine wpAny_pure ⟨plainId_quiet F.plain_max_loop _, go _ _ _ _ (W.frame _ _ _ hst' fun b hbf o e => ?_) (.inr ⟨by omega, v, rfl, hP⟩) (Heap.get?_update_self _ hS' rfl) fun b o hbw hbS e => ?_⟩
      · exact (Heap.get?_update_other _ _ (fun h : S = b => hSf (by rw [h]; exact hbf))).trans e
      · exact (Heap.get?_update_other _ _ (Ne.symm hbS)).trans (hk' b o hbw e)
    · have ej : j = (j - 1) + 1 := by omega
      show wpAny _ A.in1 (tryCatch (holding [v, v] (richCompare .Gt v vb >>= _)) _ >>= _) _ _ _
      refine wpAny_bind (wpAny_tryCatch (wpAny_holding (wpAny_bind (hcmp j (argBest bt (j - 1)) v vb _ _ _ hP hPb ?_))))
      refine wpAny_bind (wpAny_holding (wpAny_truthy_bool ?_))
      refine wpAny_bind (wpAny_letGo (wpAny_pure ?_))
      have eb : argBest bt j = if bt j (argBest bt (j - 1)) then j else argBest bt (j - 1) := by
        rw [ej]
        rfl
      cases hb : bt j (argBest bt (j - 1)) with
      | true =>
        rw [if_pos rfl]
        refine wpAny_bind (wpAny_updateSeq hS' rfl (wpAny_bind (wpAny_letGo ?_)))
        rw [hname]
        refine wpAny_pure ⟨plainId_quiet F.plain_max_loop _, go _ _ _ _ (W.frame _ _ _ hst' fun b hbf o e => ?_) (.inr ⟨by omega, v, rfl, ?_⟩) (Heap.get?_update_self _ hS' rfl) fun b o hbw hbS e => ?_⟩
        · exact (Heap.get?_update_other _ _ (fun h : S = b => hSf (by rw [h]; exact hbf))).trans e
        · show P (argBest bt j) v
          rw [eb, hb, if_pos rfl]
          exact hP
        · exact (Heap.get?_update_other _ _ (Ne.symm hbS)).trans (hk' b o hbw e)
      | false =>
        rw [if_neg Bool.false_ne_true]
        refine wpAny_bind (wpAny_letGo ?_)
        rw [hname]
        refine wpAny_pure ⟨plainId_quiet F.plain_max_loop _, go _ _ _ _ hst' (.inr ⟨by omega, vb, rfl, ?_⟩) hS' fun b o hbw hbS e => hk' b o hbw e⟩
        show P (argBest bt j) vb
        rw [eb, hb, if_neg Bool.false_ne_true]
        exact hPb
end
theorem args_maxD (a d : Value) : argsOk "max" ⟨[a], [(Str.ofString "default", d)]⟩ := by unfold argsOk; kernel_rfl
section
variable {prog : Program} {w : World} {A : Around} {E : Value → Shared → Prop} {s : Shared}
theorem max_dflt {l : Addr} {xs : Array (Int × Tok)} {d : Value} {Q : Value → Shared → Prop} (hh : A.handled = none) (hl : s.heap.IsList l (intItems xs))
    (h : ∀ v h' tk, ((xs.size = 0 ∧ v = d) ∨ (0 < xs.size ∧ (intItems xs)[argBest (fun i j => decide (numAt xs i > numAt xs j)) (xs.size - 1)]? = some v)) → (∀ b o, s.heap.get? b = some o → h'.get? b = some o) → Q v { s with heap := h', toks := tk }) :
    wpAny (model prog w) A (call (.builtin "max") [.ref l] [(Str.ofString "default", d)]) Q E s := by
  have hname : (toString "max" ++ toString ".loop" : String) = "max.loop" := by decide
  refine wpAny_call (codeAny_call_builtin F.plain_max F.entry_max ?_)
  simp only [checkBuiltinCall, F.kind_max]
  have go : wpAny (model prog w) A.in1 (Builtin.«max» ⟨[.ref l], [(Str.ofString "default", d)]⟩) (fun fin s' => match fin with
      | .done f => (match (Except.ok f : Result) with | .ok (.ret v) => Q v s' | .ok _ => False | .error e => E e s')
      | .again c' => c'.quiet = true ∧ codeAny (model prog w) A c' (fun r s' => match r with | .ok (.ret v) => Q v s' | .ok _ => False | .error e => E e s') s') E s := by
    show wpAny _ A.in1 (Builtin.Builtins.bindParams "max" ["key", "default"] 0 ⟨[], [(Str.ofString "default", d)]⟩ >>= _) _ _ s
    refine wpAny_bind (wpAny_of_eq (show Builtin.Builtins.bindParams "max" ["key", "default"] 0 ⟨[], [(Str.ofString "default", d)]⟩ = pure [none, some d] from rfl) ?_)
    refine wpAny_bind (wpAny_pure ?_)
    refine wpAny_bind (PySem.iter_intList hl fun s₂ e st hfp hlI => ?_)
    subst e
    refine wpAny_bind (wpAny_newObj_type ?_)
    have W := Walks.list (prog := prog) (w := w) (A := A.in1) hh s.heap.objs.size l hlI (intItems xs)
    rw [hname]
    refine wpAny_pure ⟨plainId_quiet F.plain_max_loop _, maxD_loop W _ (CmpOf.ints_gt (numAt xs) (fun _ _ => intItems_at)) _ ?_ d _ 0 _ #[] _ rfl (Nat.zero_le _) ?_ (.inl ⟨rfl, rfl⟩) (Heap.get?_push_size _ rfl) fun v h' tk hv hk => ?_⟩
    · exact fun hm => Nat.lt_irrefl _ (hfp _ hm)
    · exact W.frame _ _ _ st fun b _ o e => Heap.get?_push_of_some _ e
    · refine h v h' tk ?_ fun b o e => ?_
      · rcases hv with ⟨a, b⟩ | ⟨a, b⟩
        · exact .inl ⟨by simpa [intItems] using a, b⟩
        · exact .inr ⟨by simpa [intItems] using a, by simpa [intItems] using b⟩
      · have e1 : (s.heap.push { cls := .type "list_iterator", data := .fields #[.ref l, .int 0 0] }).get? b = some o := Heap.get?_push_of_some _ e
        refine hk b o ?_ (Nat.ne_of_lt (Heap.lt_size e1)) (Heap.get?_push_of_some _ e1)
        intro hm
        obtain rfl := List.mem_singleton.mp hm
        exact Nat.lt_irrefl _ (Heap.lt_size e)
  cases hsig : Manifest.signature? "max" with
  | none => exact wpAny_pure go
  | some sig =>
    have ha := args_maxD (.ref l) d
    simp only [argsOk, hsig] at ha
    have h2 : Bind.checkArgs "max" sig ⟨[.ref l], [(Str.ofString "default", d)]⟩ = pure () := ha
    show wpAny _ A.in1 (Bind.checkArgs "max" sig ⟨[.ref l], [(Str.ofString "default", d)]⟩) _ _ s
    rw [h2]; exact wpAny_pure go
end
end DL
namespace DL
open PySem PySem.Spec PyProof.Rows L2
theorem cr_maxD {X : Cx} (hc : X.calm = true) : CallRK X (.builtin "max") [Str.ofString "default"] (rMaxD X.K) := by
  intro pins s σ H vs zs us ws Q I r rz h
  obtain ⟨a, ns, d, rfl, rfl, hs, q⟩ := h
  obtain rfl := Vals.ref1 r
  obtain ⟨w1, rfl, e1⟩ := vals1 rz
  obtain ⟨t, rfl⟩ := e1
  obtain ⟨its, rv, hl, hz⟩ := I.list hs
  obtain ⟨xs, e⟩ := rv.ints.allInts.items
  have hn : numsOf (intItems xs).toList = ns := by rw [← e]; exact rv.ints.numsOf
  rw [nums_intItems] at hn
  have hl' := hl.isList
  rw [e] at hl'
  refine max_dflt (I.ok.hd hc) hl' fun v h' tk hv hk => ?_
  rcases hv with ⟨h0, rfl⟩ | ⟨h0, hv⟩
  · have e0 : ns = [] := by
      rw [← hn, List.map_eq_nil_iff, Array.toList_eq_nil_iff]
      exact Array.eq_empty_of_size_eq_zero h0
    exact ⟨.int d, H, I.kept hk, ⟨_, rfl⟩, q d (fun _ => rfl) (fun z => absurd e0 z) (fun x hx => by rw [e0] at hx; cases hx)⟩
  · obtain ⟨t', rfl⟩ := intItems_at hv
    obtain ⟨h1, h2⟩ := argBest_gt (numAt xs) (xs.size - 1)
    have hne : ns ≠ [] := by
      intro z
      rw [← hn, List.map_eq_nil_iff, Array.toList_eq_nil_iff] at z
      rw [z] at h0
      exact Nat.lt_irrefl _ h0
    refine ⟨.int _, H, I.kept hk, ⟨_, rfl⟩, q _ (fun z => absurd z hne) (fun _ => ?_) (fun x hx => ?_)⟩
    · rw [← hn, numAt_eq]; exact PySem.getD_mem (by rw [List.length_map, Array.length_toList]; omega)
    · rw [← hn] at hx
      obtain ⟨j, hj, rfl⟩ := mem_getD hx
      rw [List.length_map, Array.length_toList] at hj
      rw [← numAt_eq]; exact h2 j (by omega)
end DL

namespace DL
open PySem PySem.Spec PyProof.Rows L2
/-! ### new lists in a list, each changed at last -/
abbrev tSpoil (K : PySem.W.Frag) : TS := tFor (iList K (tVar 8)) (gName 10) (tDrop (tBM K "list" rAppend (tVar 10) (tCons (tTup (tCons (tC (.int 0)) (tCons (tC (.int 1)) tNil))) tNil)))
def ItemsAt (H H' : Hp) (p : Addr) (m : Nat) (vs : List V) : Prop := ∀ v ∈ vs, ∃ (a : Addr) (us : List V), v = .ref a ∧ H a = none ∧ a ≠ p ∧ H' a = some (.lst us) ∧ us.length < m
theorem news_at {K : PySem.W.Frag} {N M L : AP} {H H1 : Hp} (bs : Bs L M H) : ∀ {xs : List (List D)} {vs : List V}, SvAll K N M L H H1 vs (xs.map SV.new) → (∀ x ∈ xs, x.length < 1000) → IsAll K M H1 vs (xs.map D.lst) ∧ ∀ v ∈ vs, ∃ (a : Addr) (us : List V), v = .ref a ∧ H a = none ∧ H1 a = some (.lst us) ∧ us.length < 1000
  | [], _, h, _ => by
    cases h
    exact ⟨.nil, fun v h => (by cases h)⟩
  | x :: xs, _, h, hx => by
    cases h with
    | cons h1 h2 =>
      obtain ⟨a, us, rfl, n, g1, g2⟩ := h1
      obtain ⟨q1, q2⟩ := news_at bs h2 fun y hy => hx y (List.mem_cons_of_mem _ hy)
      refine ⟨.cons (.lst g1 (fresh_nm bs n) (g2.sub AP.sub_add)) q1, fun v hv => ?_⟩
      rcases List.mem_cons.mp hv with rfl | hv
      · exact ⟨a, us, rfl, n, g1, by rw [g2.len]; exact hx x (by simp)⟩
      · exact q2 v hv
structure SpoilI (L : AP) (H : Hp) (σ2 : L2.St) (p : Addr) (vs : List V) (i : Nat) (σ : L2.St) (H' : Hp) : Prop where
  kp : Kp L H H'
  hp : H' p = some (.lst vs)
  it : ItemsAt H H' p (1000 + i) vs
  sl : Same' [10] σ2 σ
theorem spoil_turn {K : PySem.W.Frag} {L M : AP} {H H' : Hp} {σ2 σ' : L2.St} {p : Addr} {vs : List V} {i : Nat} {x : V} {D : Ends} (bs : Bs L M H) (hl : 10 < σ2.length) (hi : i < 2000) (hx : x ∈ vs) (h : SpoilI L H σ2 p vs i σ' H') (hN : ∀ σ3 H3, SpoilI L H σ2 p vs (i + 1) σ3 H3 → D.nx σ3 H3) :
    tDrop (tBM K "list" rAppend (tVar 10) (tCons (tTup (tCons (tC (.int 0)) (tCons (tC (.int 1)) tNil))) tNil)) D (σ'.set 10 (some x)) H' := by
  obtain ⟨a, us, rfl, ha, hap, hus, hul⟩ := h.it x hx
  have g : (σ'.set 10 (some (.ref a)))[10]? = some (some (.ref a)) := List.getElem?_set_self (by rw [h.sl.1]; exact hl)
  refine ⟨.ref a, g, tyL hus, ⟨(by show 2 ≤ sizeLine; decide), fun t ht => ?_⟩⟩
  have hta : a ≠ t := fun e => by rw [← e, hus] at ht; cases ht
  have htp : p ≠ t := fun e => by rw [← e, h.hp] at ht; cases ht
  refine ⟨a, us, .ref t, rfl, rfl, (upd_ne hta).trans hus, Nat.lt_of_lt_of_le hul (Nat.le_trans (by omega : 1000 + i ≤ 3000) (by decide)), ?_⟩
  have old : ∀ b o, H b = some o → H' b = some o → upd (upd H' t (.tup [.int 0, .int 1])) a (.lst (us ++ [.ref t])) b = some o := fun b o e e' => by
    rw [upd_ne (fun z => by rw [z, ha] at e; cases e), upd_ne (fun z => by rw [z, ht] at e'; cases e')]
    exact e'
  refine hN _ _ ⟨⟨fun b o nl e => old b o e (h.kp.k b o nl e), fun b lb => ?_⟩, ?_, fun v hv => ?_, ⟨by rw [List.length_set]; exact h.sl.1, fun k hk => ?_⟩⟩
  · obtain ⟨g1, m1, z1⟩ := bs.bag b lb
    obtain ⟨g2, m2, z2⟩ := h.kp.b b lb
    refine ⟨g2, m2, ?_⟩
    rw [upd_ne (fun z => by rw [z, ha] at z1; cases z1), upd_ne (fun z => by rw [z, ht] at z2; cases z2)]
    exact z2
  · rw [upd_ne (Ne.symm hap), upd_ne htp]
    exact h.hp
  · obtain ⟨a', us', rfl, ha', hap', hus', hul'⟩ := h.it v hv
    by_cases e : a' = a
    · subst e
      rw [hus] at hus'
      cases hus'
      exact ⟨a', _, rfl, ha', hap', upd_same, by rw [List.length_append, List.length_singleton]; omega⟩
    · refine ⟨a', us', rfl, ha', hap', ?_, by omega⟩
      rw [upd_ne e, upd_ne (fun z => by rw [z, ht] at hus'; cases hus')]
      exact hus'
  · rw [List.getElem?_set_ne (fun e => hk (by rw [← e]; simp))]
    exact h.sl.2 k hk
theorem ds_block {K : PySem.W.Frag} {es : Env'} {B : DEnds} {ta : TA} {tw tr : TE} {tt : TT} (hl : es.length = 13)
    (h : DA K ta es fun ss => ∃ xs : List (List D), ss = xs.map SV.new ∧ (∀ x ∈ xs, x.length < 1000) ∧ xs.length ≤ 1000 ∧
      DE K tw (es.set 8 (some (.d (.lst (xs.map D.lst))))) fun s => ∃ ws, s = .new ws ∧ DT K tt ((es.set 8 (some (.d (.lst (xs.map D.lst))))).set 9 (some (.d (.lst ws)))) fun b => b = false)
    (hn : B.nx (((es.set 8 none).set 9 none).set 10 none)) : DS K (tSeq (tAsg (tLst ta) (gName 8)) (tSeq (tAsg tw (gName 9)) (tSeq (tIfS tt (tRet tr) tNext) (tSpoil K)))) es B := fun F P M L σ H S E o => by
  have hσ : σ.length = 13 := S.st.len.trans hl
  refine h P _ M L σ H S.st _ fun ss vs H1 k1 oss q1 => ?_
  obtain ⟨xs, rfl, hx, hxl, q1⟩ := q1
  obtain ⟨hall, hit⟩ := news_at S.st.bs oss hx
  have hvl : vs.length = xs.length := by rw [hall.len, List.length_map]
  refine ⟨by rw [hvl]; exact Nat.le_trans hxl (by decide), fun p hp => ?_⟩
  have S1 := S.kp' k1
  have kn := Kp.new (o := .lst vs) S1.st.bs hp
  have nmp : ¬ M p := fresh_nm S1.st.bs hp
  have nlp : ¬ L p := fun l => nmp (S1.st.bs.lm p l)
  have S2 := (S1.kp' kn).setp (i := 8) (s := .d (.lst (xs.map D.lst))) (v := .ref p) (Is.lst upd_same nmp (IsAll.kp kn S1.st.bs hall)) trivial
  refine q1 P _ M L _ _ S2.st _ fun s v H2 k2 ok2 q2 => ?_
  obtain ⟨ws, rfl, q2⟩ := q2
  obtain ⟨b, us, rfl, nb, g1, g2⟩ := ok2
  have S3 := (S2.kp' k2).setp (i := 9) (s := .d (.lst ws)) (v := .ref b) (Is.lst g1 (fresh_nm S2.st.bs nb) (g2.sub AP.sub_add)) trivial
  refine q2 P _ M L _ _ S3.st _ fun bb H3 k3 hb => ?_
  subst hb
  rw [if_neg Bool.false_ne_true]
  have k13 := (kn.trans k2).trans k3
  have hp3 : H3 p = some (.lst vs) := k3.k _ _ nlp (k2.k _ _ nlp upd_same)
  generalize hσ2 : (σ.set 8 (some (V.ref p))).set 9 (some (V.ref b)) = σ2
  have l2 : σ2.length = 13 := by rw [← hσ2, List.length_set, List.length_set]; exact hσ
  have g8 : σ2[8]? = some (some (.ref p)) := by
    rw [← hσ2, List.getElem?_set_ne (by decide), List.getElem?_set_self (by omega)]
  refine ⟨.ref p, g8, p, rfl, ⟨vs, .inl (.inl hp3)⟩, for_list (K := K) (a := p) (xs := vs) (fun i σ' H' => SpoilI L H σ2 p vs i σ' H') ?_ (fun i σ' H' hi z => .inl (.inl z.hp)) ?_ ?_⟩
  · refine ⟨k1.trans k13, hp3, fun v hv => ?_, ⟨rfl, fun _ _ => rfl⟩⟩
    obtain ⟨a, us, rfl, na, ga, gl⟩ := hit v hv
    have nla : ¬ L a := fun l => fresh_nm S.st.bs na (S.st.bs.lm a l)
    exact ⟨a, us, rfl, na, fun e => (by rw [e, hp] at ga; cases ga), k13.k _ _ nla ga, gl⟩
  · intro i x σ' H' hxi z
    have hi := (List.getElem?_eq_some_iff.mp hxi).1
    exact spoil_turn S.st.bs (by omega) (by omega) (List.mem_of_getElem? hxi) z fun σ3 H3 q => q
  · intro σ' H' z
    refine o.nx _ M L σ' H' ((S.kp' z.kp).loose (by rw [z.sl.1, List.length_set, List.length_set, List.length_set, l2, hl]) fun i s e => ?_) hn
    rcases set_some e with ⟨_, e'⟩ | ⟨n10, e⟩
    · cases e'
    rcases set_some e with ⟨_, e'⟩ | ⟨n9, e⟩
    · cases e'
    rcases set_some e with ⟨_, e'⟩ | ⟨n8, e⟩
    · cases e'
    refine ⟨e, ?_⟩
    rw [z.sl.2 i (by simp; exact Ne.symm n10), ← hσ2, List.getElem?_set_ne n9, List.getElem?_set_ne n8]
end DL

namespace DL
open PySem PySem.Spec PyProof.Rows L2
/-! ### what is shown is fit to be compared -/
theorem okS_of (s : String) : okS (Str.ofString s) := okS_iff.mpr fun c hc => by
  rw [PySem.Str.ofString_eq_toList] at hc
  simp at hc
  obtain ⟨ch, _, rfl⟩ := hc
  have h := ch.valid
  show ch.val.toNat < 0x110000
  rcases h with h | ⟨_, h⟩
  · have : ch.val.toNat < 0xd800 := h
    omega
  · exact h
theorem okS_joins (sep : Str) (hs : okS sep) : ∀ ys : List Str, (∀ y ∈ ys, okS y) → okS (Str.join sep ys)
  | [], _ => okS_empty
  | [x], h => h x (by simp)
  | x :: y :: r, h => by
    show okS (x ++ sep ++ Str.join sep (y :: r))
    exact okS_app (okS_app (h x (by simp)) hs) (okS_joins sep hs (y :: r) fun z hz => h z (List.mem_cons_of_mem _ hz))
theorem okS_textFrom : ∀ (ts : List Str) (k : Nat) (acc : Str), okS acc → (∀ t ∈ ts, okS t) → okS (textFrom k acc ts)
  | [], _, _, h, _ => h
  | t :: r, k, acc, h, hs => by
    show okS (textFrom (k + 1) (acc ++ (if k > 0 then ", " else "" : String) ++ t) r)
    exact okS_textFrom r (k + 1) _ (okS_app (okS_app h (okS_of _)) (hs t (by simp))) fun z hz => hs z (List.mem_cons_of_mem _ hz)
theorem okS_listText {ts : List Str} (h : ∀ t ∈ ts, okS t) : okS (listText ts) := okS_app (okS_textFrom ts 0 _ (okS_of _) h) (okS_of _)
theorem okS_tupleText {ts : List Str} (h : ∀ t ∈ ts, okS t) : okS (tupleText ts) := okS_app (okS_app (okS_of _) (okS_joins _ (okS_of _) ts h)) (okS_of _)
mutual
def D.nums : D → Bool
  | .int _ => true
  | .bl _ => true
  | .non => true
  | .lst xs => D.numsAll xs
  | .tup xs => D.numsAll xs
  | _ => false
def D.numsAll : List D → Bool
  | [] => true
  | d :: ds => D.nums d && D.numsAll ds
end
mutual
theorem okS_shown : ∀ d : D, d.nums = true → okS d.py.shown
  | .non, _ => okS_of "None"
  | .bl true, _ => okS_of "True"
  | .bl false, _ => okS_of "False"
  | .int i, _ => okS_of (toString i)
  | .str _, h => by cases h
  | .lst xs, h => okS_listText (okS_shownAll xs h)
  | .tup xs, h => okS_tupleText (okS_shownAll xs h)
  | .obj _ _, h => by cases h
theorem okS_shownAll : ∀ ds : List D, D.numsAll ds = true → ∀ t ∈ PyData.shownAll (D.pyAll ds), okS t
  | [], _, t, ht => by cases ht
  | d :: ds, h, t, ht => by
    have h' := Bool.and_eq_true_iff.mp (show (D.nums d && D.numsAll ds) = true from h)
    have ht' : t ∈ PyData.shown d.py :: PyData.shownAll (D.pyAll ds) := ht
    rcases List.mem_cons.mp ht' with rfl | ht'
    · exact okS_shown d h'.1
    · exact okS_shownAll ds h'.2 t ht'
end
theorem fit_shown {n k : Nat} {d : D} (h : Fit n k d) (hd : d.nums = true) : Fit (10 * n + 8) 0 (.str d.shown) := Fit.s (okS_shown d hd) (Nat.le_trans (shown_wt d h.f) h.w)
theorem nums_pairs : ∀ ps : List (Int × Int), D.numsAll (ps.map dPair) = true
  | [] => rfl
  | p :: ps => by
    show (D.nums (dPair p) && D.numsAll (ps.map dPair)) = true
    rw [nums_pairs ps]
    rfl
/-! ### a number among numbers -/
theorem fit_small {k : Int} (h : 0 ≤ k ∧ k < 1000) : Fit 20 0 (.int k) := (Fit.int (m := 10) (by omega) (by decide) (by decide)).mono (by decide) (by decide)
theorem any_ints {k : Int} : ∀ ks : List Int, ((D.pyAll (ks.map D.int)).any fun z => PyData.eqv z (D.int k).py) = decide (k ∈ ks)
  | [] => rfl
  | j :: ks => by
    show (PyData.eqv (.int j) (.int k) || (D.pyAll (ks.map D.int)).any fun z => PyData.eqv z (D.int k).py) = decide (k ∈ j :: ks)
    rw [any_ints ks]
    have e : PyData.eqv (.int j) (.int k) = (j == k) := rfl
    rw [e]
    by_cases h : j = k
    · subst h
      simp
    · have h' : ¬ k = j := fun z => h z.symm
      simp [h, h']
section
variable {K : PySem.W.Frag} {Q : SV → Prop}
theorem in_ints {k : Int} {ks : List Int} (hk : 0 ≤ k ∧ k < 1000) (hs : ∀ j ∈ ks, 0 ≤ j ∧ j < 1000) (hl : ks.length ≤ 1000) (q : Q (.d (.bl (decide (k ∈ ks))))) : RR K (rInX K) (.d (.int k)) (.d (.lst (ks.map D.int))) Q := fun N M L H0 H v1 v2 b kk o1 o2 R r => by
  have f1 := fit_small hk
  have f2 : Fit (8 + 1000 * 22) 1 (.lst (ks.map D.int)) := Fit.lst (FitA.of (n := 20) (k := 0) (fun d hd => by
    obtain ⟨j, hj, rfl⟩ := List.mem_map.mp hd
    exact fit_small (hs j hj)) (by rw [List.length_map]; exact hl))
  refine .inr ⟨(D.int k).py, D.pyAll (ks.map D.int), Is.dp _ _ o1 rfl, Is.dp _ _ o2 (fit_plain f2), f1.shaped (by decide), f2.shaped (by decide), ?_⟩
  rw [any_ints]
  exact r (.d (.bl _)) _ H (Kp.refl (kk.bs b)) (Is.bl _) q
theorem notin_ints {k : Int} {ks : List Int} (hk : 0 ≤ k ∧ k < 1000) (hs : ∀ j ∈ ks, 0 ≤ j ∧ j < 1000) (hl : ks.length ≤ 1000) (q : Q (.d (.bl (!decide (k ∈ ks))))) : RR K (rNotInX K) (.d (.int k)) (.d (.lst (ks.map D.int))) Q := fun N M L H0 H v1 v2 b kk o1 o2 R r => by
  have f1 := fit_small hk
  have f2 : Fit (8 + 1000 * 22) 1 (.lst (ks.map D.int)) := Fit.lst (FitA.of (n := 20) (k := 0) (fun d hd => by
    obtain ⟨j, hj, rfl⟩ := List.mem_map.mp hd
    exact fit_small (hs j hj)) (by rw [List.length_map]; exact hl))
  refine .inr ⟨(D.int k).py, D.pyAll (ks.map D.int), Is.dp _ _ o1 rfl, Is.dp _ _ o2 (fit_plain f2), f1.shaped (by decide), f2.shaped (by decide), ?_⟩
  rw [any_ints]
  exact r (.d (.bl _)) _ H (Kp.refl (kk.bs b)) (Is.bl _) q
end
end DL

namespace DL
open PySem PySem.Spec PyProof.Rows L2
/-! ### objects: == and repr by their own defs -/
section
variable {X : Cx} {k : Nat} {f C : Addr} {fd : FuncData} {ps : List Str} {sp : Sp}
/-- repr(x), x an instance of C, whose __repr__ is at f -/
def rReprOwn (C : Addr) (sp : Sp) : List V → Hp → VK → Prop := fun vs H Q => ∃ (a dx : Addr) (fs : List (Str × V)), vs = [.ref a] ∧ H a = some (.ins C dx fs) ∧ sp [.ref a] H (fun v H' => ∃ z, v = .str z ∧ Q (.str z) H') E0
theorem call_reprOwn (F : FnG X.prog X.w X.K X.mg X.base k f fd ps sp) (hr : Room (k + 1) X.A) (gu : X.A.guards = some []) (hs : PySem.W.findIn X.K (.ref C) "__repr__" = some (some (.ref f))) (hf : PySem.W.isFn X.K (.ref f) = true) (hb : Binds X.K fd ps []) : CallR X (.builtin "repr") (rReprOwn C sp) := by
  intro pins s σ H vs us Q I r h
  obtain ⟨a, dx, fs, rfl, ha, hsp⟩ := h
  obtain rfl := Vals.ref1 r
  obtain ⟨mA, J, _⟩ := ins_get I.hok ha
  obtain ⟨od, J, _⟩ := J.look
  obtain ⟨m, hF⟩ := I.fr
  refine PySem.W.repr_K hr.in1.units0 hF I.ok.mod.kin J hs hf ?_
  have hl := F.len _ _ _ _ hsp
  refine wpAny_call (codeAny_mono (F.run X.A.in1 X.stack s H ⟨[.ref a], []⟩ [.ref a] [.ref a] _ gu hr.in1 I.env0.in1 (by
    have := hb s [.ref a] I.kIn (by simpa using hl)
    simpa using this) (.cons rfl .nil) hsp) fun res s' hq => ?_)
  cases res with
  | error e => exact hq.elim
  | ok fl =>
    cases fl with
    | ret w =>
      obtain ⟨z, H', I', rz, x, ez, q⟩ := I.after hq
      subst ez
      obtain ⟨t, rfl⟩ := rz
      exact ⟨.str x, H', I', ⟨t, rfl⟩, q⟩
    | next => exact False.elim hq
    | brk => exact False.elim hq
    | cont => exact False.elim hq
/-- what the other side of == is -/
inductive YTy (K : PySem.W.Frag) (H : Hp) (C : Addr) : V → Value → Prop
  | ins {b dy : Addr} {gs : List (Str × V)} : H b = some (.ins C dy gs) → YTy K H C (.ref b) (.ref C)
  | tup {b : Addr} {xs : List V} : H b = some (.tup xs) → YTy K H C (.ref b) (.type "tuple")
  | lst {b : Addr} {xs : List V} : H b = some (.lst xs) → YTy K H C (.ref b) (.type "list")
  | str (x : Str) : YTy K H C (.str x) (.type "str")
  | int (x : Int) : YTy K H C (.int x) (.type "int")
  | bl (x : Bool) : YTy K H C (.bl x) (.type "bool")
  | non : YTy K H C .non (.type "NoneType")
  | ktup {b : Addr} {o : Obj} : K.lookup b = some o → o.cls = .type "tuple" → YTy K H C (.ref b) (.type "tuple")
theorem inv_k {X : Cx} {pins : List (Addr × Obj)} {σ : L2.St} {H : Hp} {s : Shared} (I : Inv X pins σ H s) {a : Addr} {o : Obj} (h : X.K.lookup a = some o) : ∃ o', s.heap.get? a = some o' ∧ o'.cls = o.cls ∧ o'.dict = o.dict ∧ o'.data = o.data := by
  have hb := I.ok.mod.kin a o h
  have h0 := I.ok.bs a o hb
  have hx := I.ok.noex a o hb
  by_cases hf : a ∈ X.fs
  · obtain ⟨sl, h1⟩ := I.base.slot a o h0.1 h0.2 hf hx
    exact ⟨_, h1, rfl, rfl, rfl⟩
  · exact ⟨o, I.base.keep a o h0.1 h0.2 hf hx, rfl, rfl, rfl⟩
theorem YTy.looks {pins : List (Addr × Obj)} {σ : L2.St} {H : Hp} {s : Shared} {y : V} {u t : Value} {M : Model} (I : Inv X pins σ H s) (h : YTy X.K H C y t) (r : RelV y u) : PySem.W.Looks M s.heap (typeOf u) t := by
  cases h with
  | ins e =>
    cases r
    obtain ⟨mA, J, _⟩ := ins_get I.hok e
    obtain ⟨od, J, _⟩ := J.look
    exact J.type
  | tup e =>
    cases r
    obtain ⟨_, its, rv, o, ho, hc, _⟩ := (show ObjOk X.prog X.w H s.heap _ (.tup _) from I.hok _ _ e)
    exact hc ▸ (PySem.W.Looks.ld ho).andThen .now
  | lst e =>
    cases r
    obtain ⟨hz, its, n, rv, ho⟩ := (show ObjOk X.prog X.w H s.heap _ (.lst _) from I.hok _ _ e)
    exact (PySem.W.Looks.ld ho).andThen .now
  | ktup e hc =>
    cases r
    obtain ⟨o', ho, c', _⟩ := inv_k I e
    exact (c'.trans hc) ▸ (PySem.W.Looks.ld ho).andThen .now
  | str x =>
    obtain ⟨t, rfl⟩ := r
    exact .now
  | int x =>
    obtain ⟨t, rfl⟩ := r
    exact .now
  | bl x =>
    cases r
    exact .now
  | non =>
    cases r
    exact .now
/-- x == y, x an instance of C, whose __eq__ is at f -/
def rEqOwn (K : PySem.W.Frag) (C : Addr) (sp : Sp) : R2 := fun x y H Q => ∃ (a dx : Addr) (fs : List (Str × V)) (t : Value), x = .ref a ∧ H a = some (.ins C dx fs) ∧ YTy K H C y t ∧ PySem.W.notFirst K C t = true ∧ sp [.ref a, y] H (fun v H' => ∃ b, v = .bl b ∧ Q (.bl b) H') E0
theorem op_eqOwn (F : FnG X.prog X.w X.K X.mg X.base k f fd ps sp) (hr : Room k X.A) (gu : X.A.guards = some []) (hs : PySem.W.findIn X.K (.ref C) "__eq__" = some (some (.ref f))) (hf : PySem.W.isFn X.K (.ref f) = true) (hb : Binds X.K fd ps []) : OpR X (compareOp .Eq) (rEqOwn X.K C sp) := by
  intro pins s σ H x y v u Q I rx ry h
  obtain ⟨a, dx, fs, t, rfl, ha, hy, hn, hsp⟩ := h
  cases rx
  obtain ⟨mA, J, _⟩ := ins_get I.hok ha
  obtain ⟨od, J, _⟩ := J.look
  obtain ⟨m, hF⟩ := I.fr
  show wpAny (model X.prog X.w) X.A (richCompare .Eq (.ref a) u) (EP X pins σ Q) X.xe s
  refine PySem.W.cmp_K (op := .Eq) (tb := t) hr.units0 hF I.ok.mod.kin J (hy.looks I ry) hn hs hf ?_
  have hl := F.len _ _ _ _ hsp
  refine wpAny_call (codeAny_mono (F.run X.A X.stack s H ⟨[.ref a, u], []⟩ [.ref a, u] [.ref a, y] _ gu hr I.env0 (by
    have := hb s [.ref a, u] I.kIn (by simpa using hl)
    simpa using this) (.cons rfl (.cons ry .nil)) hsp) fun res s' hq => ?_)
  cases res with
  | error e => exact hq.elim
  | ok fl =>
    cases fl with
    | ret w =>
      obtain ⟨z, H', I', rz, b, ez, q⟩ := I.after hq
      subst ez
      cases rz
      exact ⟨.bl b, H', I', rfl, q⟩
    | next => exact False.elim hq
    | brk => exact False.elim hq
    | cont => exact False.elim hq
end
end DL

namespace DL
open PySem PySem.Spec PyProof.Rows L2
/-! ### objects that stay as they were made -/
section
variable {K : PySem.W.Frag} {F : Fr} {P : List Pin} {N L M : AP} {H0 H1 H H' : Hp} {σ : L2.St} {es : Env'} {ta te : TE} {tt : TT} {t u t1 : TS} {tr tk : TA} {Q : SV → Prop} {C : Addr} {f m : Str}
/-- o.f -/
theorem de_fld (h : DE K ta es fun s => ∃ C ds d, s = .d (.obj C ds) ∧ Cls K C ∧ NoAttr K C f ∧ ds.lookup f = some d ∧ Q (.d d)) : DE K (tFld K ta f) es Q := fun P N M L σ H S R k => by
  refine h P N M L σ H S _ fun s v H1 k1 ok q => ?_
  obtain ⟨C, ds, d, rfl, cl, na, hl, q⟩ := q
  have ok : Is K M H1 v (.obj C ds) := ok
  cases ok with
  | obj h1 h2 h3 =>
    obtain ⟨w, hw, iw⟩ := h3.look hl
    exact ⟨_, _, _, _, w, rfl, h1, cl, na, hw, k (.d d) w H1 k1 iw q⟩
/-- o.m(..), a method of its class -/
theorem de_meth {n : Nat} {pre : List SV → Prop} {post : List SV → SV → Prop} {E : XK} (h : DE K ta es fun s => ∃ ds, s = .d (.obj C ds) ∧ ds.lookup m = none ∧ DA K tr es fun ss => nownAll ss ∧ ss.length + 1 = n ∧ pre (s :: ss.map SV.arg) ∧ ∀ r, post (s :: ss.map SV.arg) r → Q r) : DE K (tMeth C m (spD K n pre post) [] E ta tr) es Q := fun P N M L σ H S R k => by
  refine h P N M L σ H S _ fun s v H1 k1 ok q => ?_
  obtain ⟨ds, rfl, hl, q⟩ := q
  have ok' : Is K M H1 v (.obj C ds) := ok
  have hv := ok'
  cases ok' with
  | obj h1 h2 h3 =>
    refine ⟨_, _, _, rfl, h1, h3.lookN hl, q P N M L σ H1 (S.kp k1) _ fun ss vs H2 k2 o2 q2 => ?_⟩
    obtain ⟨hn, hlen, hp, q2⟩ := q2
    rw [List.append_nil]
    have bs1 := k1.bs S.bs
    refine ⟨M, L, .d (.obj C ds) :: ss.map SV.arg, k2.bs bs1, .cons (Is.kp k2 bs1 hv) (o2.args bs1 k2 hn), by rw [List.length_cons, List.length_map]; exact hlen, hp, fun r w H3 k3 o3 q3 => ?_⟩
    exact k r w H3 ((k1.trans k2).trans k3) ((SvOk.noN o3).back (k1.trans k2)) (q2 r q3)
/-- what __init__ promises: the fields of the new object -/
def spI (K : PySem.W.Frag) (C : Addr) (n : Nat) (pre : List SV → Prop) (post : List SV → List (Str × D) → Prop) : Sp := fun vs H Q _ => ∃ (H1 : Hp) (M L : AP) (x dx : Addr) (ws : List V) (ss : List SV), vs = .ref x :: ws ∧ Bs L M H1 ∧ H1 x = none ∧ H1 dx = none ∧ dx ≠ x ∧ H = L2.upd (L2.upd H1 dx (.own x)) x (.ins C dx []) ∧
  SvAll K NO M L H1 H1 ws ss ∧ ss.length = n ∧ pre ss ∧ ∀ (ds : List (Str × D)) (fs : List (Str × V)) (H' : Hp), Kp L H1 H' → H' x = some (.ins C dx fs) → IsFs K M H' fs ds → post ss ds → Q .non H'
theorem spI.len {n : Nat} {pre : List SV → Prop} {post : List SV → List (Str × D) → Prop} {vs : List V} {Q : VK} {E : XK} (h : spI K C n pre post vs H Q E) : vs.length = n + 1 := by
  obtain ⟨_, _, _, _, _, ws, ss, rfl, _, _, _, _, _, h2, h3, _⟩ := h
  rw [List.length_cons, h2.len, h3]
/-- C(.., k = v, ..) -/
theorem de_make {n l N' : Nat} {pre : List SV → Prop} {post : List SV → List (Str × D) → Prop} {gV : List V → List V → List V} {gS : List SV → List SV → List SV} {E : XK}
    (hg : ∀ {N M L : AP} {H0 H : Hp} {x : Addr} {vs zs : List V} {ss us : List SV}, SvAll K N M L H0 H vs ss → SvAll K N M L H0 H zs us → ss.length = n → us.length = l → ∃ ws, gV (.ref x :: vs) zs = .ref x :: ws ∧ SvAll K N M L H0 H ws (gS ss us))
    (h : DA K tr es fun ss => DA K tk es fun us => nownAll ss ∧ nownAll us ∧ ss.length = n ∧ us.length = l ∧ (gS (ss.map SV.arg) (us.map SV.arg)).length = N' ∧ pre (gS (ss.map SV.arg) (us.map SV.arg)) ∧ ∀ ds, post (gS (ss.map SV.arg) (us.map SV.arg)) ds → Q (.d (.obj C ds))) :
    DE K (tMakeK C n l (spI K C N' pre post) gV E tr tk) es Q := fun P N M L σ H S R k => by
  refine h P N M L σ H S _ fun ss vs H1 k1 o1 q1 => ?_
  refine q1 P N M L σ H1 (S.kp k1) _ fun us zs H2 k2 o2 q2 => ?_
  obtain ⟨n1, n2, l1, l2, l3, hp, q⟩ := q2
  have k12 := k1.trans k2
  have bs2 := k12.bs S.bs
  refine ⟨by rw [o1.len]; exact l1, by rw [o2.len]; exact l2, fun x dx nx ndx ne => ?_⟩
  have a1 := (o1.kp S.bs k1 k2).args S.bs k12 n1
  have a2 := o2.args (k1.bs S.bs) k2 n2
  obtain ⟨ws, hw, hws⟩ := hg (x := x) a1 a2 (by rw [List.length_map]; exact l1) (by rw [List.length_map]; exact l2)
  refine ⟨H2, M, L, x, dx, ws, _, hw, bs2, nx, ndx, ne, rfl, hws, l3, hp, fun ds fs H' k3 hx hfs hpost => ⟨rfl, ?_⟩⟩
  exact k (.d (.obj C ds)) (.ref x) H' (k12.trans k3) (Is.obj hx (fresh_nm bs2 nx) hfs) (q ds hpost)
/-! ### __init__ -/
theorem IsFs.append' : ∀ {ds : List (Str × D)} {fs : List (Str × V)} {x : Str} {v : V} {d : D}, IsFs K M H fs ds → Is K M H v d → IsFs K M H (fs ++ [(x, v)]) (ds ++ [(x, d)])
  | _, _, _, _, _, .nil, h => .cons h .nil
  | _, _, _, _, _, .cons a b, h => .cons a (IsFs.append' b h)
theorem IsFs.len : ∀ {ds : List (Str × D)} {fs : List (Str × V)}, IsFs K M H fs ds → fs.length = ds.length
  | _, _, .nil => rfl
  | _, _, .cons _ b => congrArg (· + 1) (IsFs.len b)
theorem putF_new {f : Str} {v : V} : ∀ {fs : List (Str × V)}, fs.lookup f = none → putF f v fs = fs ++ [(f, v)]
  | [], _ => rfl
  | (g, x) :: r, h => by
    rw [List.lookup_cons] at h
    have hne : ¬ g = f := fun e => by
      rw [e] at h
      simp at h
    have h' : r.lookup f = none := by
      have hb : (f == g) = false := by
        rw [beq_eq_false_iff_ne]
        exact fun e => hne e.symm
      rw [hb] at h
      exact h
    show (if g = f then (g, v) :: r else (g, x) :: putF f v r) = _
    rw [if_neg hne, putF_new h']
    rfl
/-- a claimed object that no name holds is changed -/
theorem Sts.updX {a : Addr} {C dx : Addr} {fs gs : List (Str × V)} (S : Sts K P N M L σ H es) (m : M a) (l : ¬ L a) (h1 : H a = some (.ins C dx fs)) :
    Sts K P N M L σ (L2.upd H a (.ins C dx gs)) es ∧ ∀ {v : V} {d : D}, Is K M H v d → Is K M (L2.upd H a (.ins C dx gs)) v d := by
  have bs := S.bs
  have kn : ∀ b o, ¬ M b → H b = some o → L2.upd H a (.ins C dx gs) b = some o := fun b o q z => by rw [upd_ne (fun y => q (by rw [y]; exact m))]; exact z
  have kt := sqt_keep (K := K) (M := M) kn bs.tr
  have ki : ∀ {w : V} {x : D}, Is K M H w x → Is K M (L2.upd H a (.ins C dx gs)) w x := fun {w x} q => Is.chg (fun b o z q => ⟨kn b o q z, q⟩) kt _ _ q
  have kia : ∀ {w : List V} {x : List D}, IsAll K M H w x → IsAll K M (L2.upd H a (.ins C dx gs)) w x := fun {w x} q => IsAll.chg (fun b o z q => ⟨kn b o q z, q⟩) kt _ _ q
  have frz : ∀ b o u, H b = some (.frz o u) → L2.upd H a (.ins C dx gs) b = some (.frz o u) := fun b o u z => by rw [upd_ne (fun y => by rw [y, h1] at z; cases z)]; exact z
  refine ⟨⟨⟨bs.lm, fun b o q z => ?_, fun b q => ?_, fun b q => ?_⟩, S.len, fun j z ez => ?_, fun p hp => PinOk.chg (fun b o z q => ⟨kn b o q z, q⟩) kt (S.pin p hp), S.sep⟩, ki⟩
  · by_cases y : b = a
    · rw [y, upd_same] at z; cases z; exact True.intro
    · rw [upd_ne y] at z; exact bs.tr b o q z
  · by_cases y : b = a
    · rw [y]; exact ⟨_, upd_same⟩
    · rw [upd_ne y]; exact bs.tk b q
  · obtain ⟨g, m', z⟩ := bs.bag b q
    exact ⟨g, m', by rw [upd_ne (fun y => l (by rw [← y]; exact q))]; exact z⟩
  · obtain ⟨w, g1, g2⟩ := S.ok j z ez
    refine ⟨w, g1, ?_⟩
    cases z with
    | d x => exact ki g2
    | own zs =>
      obtain ⟨b, us, rfl, m', n', l', k1, k2⟩ := g2
      exact ⟨b, us, rfl, m', n', l', by rw [upd_ne (fun y => by rw [y, h1] at k1; cases k1)]; exact k1, kia k2⟩
    | new zs =>
      obtain ⟨b, us, _, n', k1, k2⟩ := g2
      rw [n'] at k1; cases k1
    | bag => exact g2
    | scr ns =>
      obtain ⟨b, z, y⟩ := g2
      exact ⟨b, z, y.keep frz⟩
    | rng lo hi =>
      obtain ⟨b, z, y⟩ := g2
      exact ⟨b, z, by rw [upd_ne (fun q => by rw [q, h1] at y; cases y)]; exact y⟩
    | dic kvs =>
      obtain ⟨b, z, y⟩ := g2
      exact ⟨b, z, by rw [upd_ne (fun q => by rw [q, h1] at y; cases y)]; exact y⟩
    | ty n => exact g2
    | cls C => exact g2
/-- within __init__: self stands at x with the fields ds -/
def DI (K : PySem.W.Frag) (x C dx : Addr) (t : TS) (ds : List (Str × D)) (es : Env') (post : List (Str × D) → Prop) : Prop :=
  ∀ F P M L σ H fs, Stf K F P M L σ H es → M x → ¬ L x → F.H0 x = none → H x = some (.ins C dx fs) → IsFs K M H fs ds → ∀ E : Ends,
    (∀ σ' H' fs' ds', Kp F.L F.H0 H' → H' x = some (.ins C dx fs') → IsFs K F.M0 H' fs' ds' → post ds' → E.nx σ' H') → t E σ H
variable {x dx : Addr} {ds : List (Str × D)} {post : List (Str × D) → Prop}
theorem di_next (h : post ds) : DI K x C dx tNext ds es post := fun F P M L σ H fs S m l n hx hf E k => k σ H fs ds S.kp hx (IsFs.chg (fun a o e q => ⟨e, fun z => q (S.m0 a z)⟩) (TK.refl K H) _ _ hf) h
/-- a test that does not refuse -/
theorem di_if (h : DT K tt es fun b => b = false) (hu : DI K x C dx u ds es post) : DI K x C dx (tSeq (tIfS tt t1 tNext) u) ds es post := fun F P M L σ H fs S m l n hx hf E k => by
  refine h P _ M L σ H S.st _ fun b H1 k1 hb => ?_
  subst hb
  rw [if_neg Bool.false_ne_true]
  have hf1 : IsFs K M H1 fs ds := IsFs.chg (fun a o e q => ⟨k1.k a o (fun z => q (S.st.bs.lm a z)) e, q⟩) (sqt_keep (M := M) (fun b o q e => k1.k b o (fun z => q (S.st.bs.lm b z)) e) S.st.bs.tr) _ _ hf
  exact hu F P M L σ H1 fs (S.kp' k1) m l n (k1.k _ _ l hx) hf1 E k
/-- self.f = e -/
theorem di_fld (e0 : es[0]? = some (some (.cls x))) (cl : Cls K C) (na : NoAttr K C f) (hl : ds.length < 1000) (hd : ds.lookup f = none) (h : DE K te es fun s => ∃ d, s = .d d ∧ DI K x C dx u (ds ++ [(f, d)]) es post) : DI K x C dx (tSeq (sFld K (tVar 0) te f) u) ds es post := fun F P M L σ H fs S m l n hx hf E k => by
  refine h P _ M L σ H S.st _ fun s v H1 k1 ok q => ?_
  obtain ⟨d, rfl, q⟩ := q
  have hf1 : IsFs K M H1 fs ds := IsFs.chg (fun a o e q => ⟨k1.k a o (fun z => q (S.st.bs.lm a z)) e, q⟩) (sqt_keep (M := M) (fun b o q e => k1.k b o (fun z => q (S.st.bs.lm b z)) e) S.st.bs.tr) _ _ hf
  have hx1 := k1.k _ _ l hx
  have S1 := S.kp' k1
  obtain ⟨w, hw, ew⟩ := S1.st.ok 0 _ e0
  have ew : w = .ref x := ew
  subst ew
  refine ⟨.ref x, hw, x, C, dx, fs, rfl, hx1, cl, na, by rw [hf1.len]; exact hl, ?_⟩
  rw [putF_new (hf1.lookN hd)]
  obtain ⟨S2, ki⟩ := S1.st.updX (gs := fs ++ [(f, v)]) m l hx1
  have kf : IsFs K M (L2.upd H1 x (.ins C dx (fs ++ [(f, v)]))) fs ds := IsFs.chg (fun a o e q => ⟨by rw [upd_ne (fun y => q (by rw [y]; exact m))]; exact e, q⟩) (sqt_keep (M := M) (fun b o q e => by rw [upd_ne (fun y => q (by rw [y]; exact m))]; exact e) S1.st.bs.tr) _ _ hf1
  have S3 : Stf K F P M L σ (L2.upd H1 x (.ins C dx (fs ++ [(f, v)]))) es := ⟨S2, S1.bs0, ⟨fun b o lb e => by rw [upd_ne (fun y => by rw [y, n] at e; cases e)]; exact S1.kp.k b o lb e, fun b lb => by
    obtain ⟨g, m', z⟩ := S1.kp.b b lb
    exact ⟨g, m', by rw [upd_ne (fun y => by rw [y, hx1] at z; cases z)]; exact z⟩⟩, S1.m0, S1.lo, S1.ln⟩
  exact q F P M L σ _ _ S3 m l n upd_same (kf.append' (ki ok)) E k
/-- an __init__'s body -/
theorem init_of {n : Nat} {pre : List SV → Prop} {post : List SV → List (Str × D) → Prop} {names : List Str} {vs : List V} {R : VK} {E : XK} (h : spI K C n pre post vs H R E) (hb : ∀ x dx ss, ss.length = n → pre ss → DI K x C dx t [] (some (.cls x) :: startE (names.length - 1) ss) (post ss)) (hnm : 1 ≤ names.length) :
    t { nx := fun _ H' => R .non H', rt := R } (L2.start names vs) H := by
  obtain ⟨H1, M, L, x, dx, ws, ss, rfl, bs, nx, ndx, ne, rfl, hv, hl, hp, q⟩ := h
  have k1 := Kp.new (o := .own x) bs ndx
  have nx2 : (L2.upd H1 dx (.own x)) x = none := by rw [upd_ne (Ne.symm ne)]; exact nx
  have k2 := Kp.new (o := .ins C dx []) (k1.bs bs) nx2
  have kp := k1.trans k2
  have no_ : ∀ (i : Nat) (s : SV), (startE (names.length - 1) ss)[i]? = some (some s) → ss[i]? = some s := fun i s e => by
    unfold startE at e
    by_cases hi : i < ss.length
    · rw [List.getElem?_append_left (by simpa using hi), List.getElem?_map] at e
      cases z : ss[i]? with
      | none => rw [z] at e; cases e
      | some y => rw [z] at e; cases e; rfl
    · rw [List.getElem?_append_right (by simpa using hi), List.getElem?_replicate] at e
      split at e <;> cases e
  have nown : ∀ (i : Nat) (xs : List D), ss[i]? ≠ some (.own xs) := fun i xs e => by
    obtain ⟨v, _, _, _, _, _, n, _⟩ := hv.get e
    exact n
  have nown2 : ∀ (i : Nat) (xs : List D), (some (SV.cls x) :: startE (names.length - 1) ss)[i]? ≠ some (some (.own xs)) := fun i xs e => by
    cases i with
    | zero => cases e
    | succ i => exact nown i xs (no_ i _ (by simpa using e))
  have sl : ∀ (i : Nat) (v : V), (V.ref x :: ws)[i]? = some v → (L2.start names (V.ref x :: ws))[i]? = some (some v) := fun i v e => by
    have hi := (List.getElem?_eq_some_iff.mp e).1
    unfold L2.start
    rw [List.getElem?_append_left (by simpa using hi), List.getElem?_map, e]
    rfl
  have bsx : Bs L (M.add x) (L2.upd (L2.upd H1 dx (.own x)) x (.ins C dx [])) := by
    have b2 := kp.bs bs
    refine ⟨fun a l => .inl (b2.lm a l), fun a o m e => ?_, fun a m => ?_, b2.bag⟩
    · rcases m with m | rfl
      · exact b2.tr a o m e
      · rw [upd_same] at e
        cases e
        exact True.intro
    · rcases m with m | rfl
      · exact b2.tk a m
      · exact ⟨_, upd_same⟩
  have S : Stf K ⟨M, L, H1⟩ [] (M.add x) L (L2.start names (V.ref x :: ws)) (L2.upd (L2.upd H1 dx (.own x)) x (.ins C dx [])) (some (.cls x) :: startE (names.length - 1) ss) := by
    refine ⟨⟨bsx, ?_, fun i s e => ?_, fun p hp => absurd hp (by simp), fun i j a xs ys _ e _ _ => absurd e (nown2 i xs)⟩, bs, kp, fun _ h => .inl h, fun _ h => h, fun _ h => .inl h⟩
    · unfold L2.start startE
      rw [List.length_append, List.length_map, List.length_replicate, List.length_cons, List.length_cons, List.length_append, List.length_map, List.length_replicate, hv.len]
      omega
    · cases i with
      | zero =>
        cases e
        exact ⟨.ref x, sl 0 _ rfl, rfl⟩
      | succ i =>
        obtain ⟨v, h1, h2⟩ := hv.get (no_ i s (by simpa using e))
        exact ⟨v, sl (i + 1) v (by simpa using h1), (h2.noN).lift bs kp nx⟩
  refine hb x dx ss hl hp ⟨M, L, H1⟩ [] (M.add x) L _ _ [] S (.inr rfl) (fun l => fresh_nm bs nx (bs.lm x l)) nx upd_same .nil _ fun σ' H' fs' ds' k hx hf hpost => q ds' fs' H' k hx hf hpost
end
end DL

namespace DL
open PySem PySem.Spec PyProof.Rows L2
/-! ### methods and objects made, where no repr is under way -/
section
variable {X : Cx} {k n : Nat} {f C : Addr} {fd : FuncData} {ps ks : List Str} {sp : Sp} {x m : Str} {p pos apos : Pos} {e o : Expr} {es : List Expr} {kws : List Keyword} {ta : TE} {t tk : TA} {g : List Value → List Value → List Value} {gV : List V → List V → List V}
theorem run_fnG {pins : List (Addr × Obj)} {σ : L2.St} {H : Hp} {s : Shared} {Q : VK} {us : List Value} {vs : List V} (F : FnG X.prog X.w X.K X.mg X.base k f fd ps sp) (hr : Room k X.A) (gu : X.A.guards = some []) (hb : Binds X.K fd ps [])
    (I : Inv X pins σ H s) (r : Vals vs us) (h : sp (vs ++ []) H Q E0) : wpAny (model X.prog X.w) X.A (call (.ref f) us) (EP X pins σ Q) X.xe s := by
  rw [List.append_nil] at h
  have hl : (us ++ []).length = ps.length := by rw [List.append_nil, ← r.length]; exact F.len _ _ _ _ h
  refine runG F hr gu I (hb s us I.kIn hl) (us := us ++ []) ?_ h
  rw [List.append_nil]
  exact r
/-- o.m(e, ..) -/
theorem pe_methG {pl : Sem Bool} (he : PE X o ta) (c : Cls X.K C) (hm : Meth X.K C m f) (F : FnG X.prog X.w X.K X.mg X.base k f fd ps sp) (hr : Room k X.A) (gu : X.A.guards = some []) (hb : Binds X.K fd ps []) (ha : PA X (e :: es) t)
    (hst : starEach (e :: es) X.env = (false, eval e X.env) :: starEach es X.env := by rfl) (hpl : (backTo pos (starEach es X.env)).any (·.1) = false := by rfl)
    (ht : eval (.Call (.Attribute o m apos) (e :: es) [] pos) X.env = (do
      let ov ← eval o X.env
      standAt apos.atName
      let (f, first) ← holding [ov] (getMethod ov m pl)
      callWith pos f first (backTo pos (starEach (e :: es) X.env)) (backToKw pos (keywordEach [] X.env))) := by rfl) :
    PE X (.Call (.Attribute o m apos) (e :: es) [] pos) (tMeth C m sp [] E0 ta t) := by
  refine ⟨fun pins s σ H Q I h => ?_⟩
  refine PySem.W.methodCall_KW (pl := pl) (thn (he.run pins s σ H _ I h) fun u s1 ⟨y, H1, I1, rx, a, dx, fs, ex, ea, l, q⟩ => ?_) ht
  subst ex
  obtain rfl : u = Value.ref a := rx
  refine getmeth_ok I1 ea c hm l ?_
  refine PySem.W.callWith_K (first := [.ref a]) (h₀ := X.base) I.ok.mod.kin hm.kp (thn (ha.run pos pins s1 σ H1 _ I1 q) fun us s2 ⟨vs, H2, I2, r, q2⟩ => ⟨I2.kIn, ?_⟩) hst hpl
  exact run_fnG (us := .ref a :: us) (vs := .ref a :: vs) F hr gu hb I2 (.cons rfl r) q2
/-- o.m() -/
theorem pe_methG0 {pl : Sem Bool} (he : PE X o ta) (c : Cls X.K C) (hm : Meth X.K C m f) (F : FnG X.prog X.w X.K X.mg X.base k f fd ps sp) (hr : Room k X.A) (gu : X.A.guards = some []) (hb : Binds X.K fd ps [])
    (ht : eval (.Call (.Attribute o m apos) [] [] pos) X.env = (do
      let ov ← eval o X.env
      standAt apos.atName
      let (f, first) ← holding [ov] (getMethod ov m pl)
      callWith pos f first (backTo pos (starEach [] X.env)) (backToKw pos (keywordEach [] X.env))) := by rfl) :
    PE X (.Call (.Attribute o m apos) [] [] pos) (tMeth C m sp [] E0 ta tNil) := by
  refine ⟨fun pins s σ H Q I h => ?_⟩
  refine PySem.W.methodCall_KW (pl := pl) (thn (he.run pins s σ H _ I h) fun u s1 ⟨y, H1, I1, rx, a, dx, fs, ex, ea, l, q⟩ => ?_) ht
  subst ex
  obtain rfl : u = Value.ref a := rx
  refine getmeth_ok I1 ea c hm l ?_
  exact PySem.W.callWith_K0 (first := [.ref a]) I1.kIn hm.kp (run_fnG (us := [.ref a]) (vs := [.ref a]) F hr gu hb I1 (.cons rfl .nil) q)
theorem run_makeKG {pins : List (Addr × Obj)} {σ : L2.St} {H : Hp} {s : Shared} {Q : VK} {us ws : List Value} {vs zs : List V} (M : Mk X.K C f) (F : FnG X.prog X.w X.K X.mg X.base k f fd ps sp) (hr : Room (k + 1) X.A) (gu : X.A.guards = some []) (hb : KBn X.K fd ps (n + 1) ks g gV)
    (I : Inv X pins σ H s) (r : Vals vs us) (rz : Vals zs ws) (l1 : vs.length = n) (l2 : zs.length = ks.length)
    (h : ∀ x dx, H x = none → H dx = none → dx ≠ x → sp (gV (.ref x :: vs) zs) (L2.upd (L2.upd H dx (.own x)) x (.ins C dx [])) (fun v H2 => v = .non ∧ Q (.ref x) H2) E0) :
    wpAny (model X.prog X.w) X.A (call (.ref C) us (ks.zip ws)) (EP X pins σ Q) X.xe s := by
  have hq := h (s.heap.objs.size + 1) s.heap.objs.size (I.hok.fresh (Nat.le_succ _)) (I.hok.fresh (Nat.le_refl _)) (Nat.ne_of_lt (Nat.lt_succ_self _))
  have I2 := Inv.made (C := C) I
  have r1 : Vals (V.ref (s.heap.objs.size + 1) :: vs) (Value.ref (s.heap.objs.size + 1) :: us) := .cons rfl r
  have r2 := hb.rel r1 rz
  have n1 : (Value.ref (s.heap.objs.size + 1) :: us).length = n + 1 := by
    rw [List.length_cons, ← r.length, l1]
  have gu2 : (X.A.under (.builtin "type.__call__" ⟨.ref C :: us, ks.zip ws⟩)).guards = some [] := by
    first | exact gu | (simpa [Around.under, Code.isGuard, guardIds] using gu)
  refine wpAny_call (make_map (f := f) I.kIn M.makes M.init (beq_iff_eq.mp M.fn) (codeAny_mono (F.run _ X.stack _ _ ⟨Value.ref (s.heap.objs.size + 1) :: us, ks.zip ws⟩ (g (Value.ref (s.heap.objs.size + 1) :: us) ws) _ _ gu2 (hr.make C us (ks.zip ws))
    (I2.env0.make C us (ks.zip ws)) (hb.to _ (Value.ref (s.heap.objs.size + 1) :: us) ws I2.kIn n1 (rz.length.symm.trans l2)) r2 hq) fun r s' hq' => ?_))
  cases r with
  | error e => exact hq'.elim
  | ok fl =>
    cases fl with
    | ret u =>
      obtain ⟨v, H', I3, rv, ev, q3⟩ := I2.after hq'
      subst ev
      exact ⟨rv, ⟨V.ref (s.heap.objs.size + 1), H', I3, rfl, q3⟩⟩
    | next => exact False.elim hq'
    | brk => exact False.elim hq'
    | cont => exact False.elim hq'
end
end DL

namespace DL
open PySem PySem.Spec PyProof.Rows L2
section
variable {X : Cx} {k n : Nat} {f C : Addr} {fd : FuncData} {ps ks : List Str} {sp : Sp} {x m : Str} {p pos apos : Pos} {e o : Expr} {es : List Expr} {kws : List Keyword} {ta : TE} {t tk : TA} {g : List Value → List Value → List Value} {gV : List V → List V → List V}
/-- C(e, .., k = v, ..) -/
theorem pe_makeKG (M : Mk X.K C f) (F : FnG X.prog X.w X.K X.mg X.base k f fd ps sp) (hr : Room (k + 1) X.A) (gu : X.A.guards = some []) (hg : Gl X x) (hm : X.mg x = some (.ref C)) (hb : KBn X.K fd ps (n + 1) ks g gV) (ha : PA X (e :: es) t) (hkw : PK X kws tk)
    (hall : (backToKw pos (keywordEach kws X.env)).all (·.1.isSome) = true := by rfl) (hks : (backToKw pos (keywordEach kws X.env)).filterMap (·.1) = ks := by rfl) (hdb : (x == ("__debug__" : Str)) = false := by decide)
    (he : starEach (e :: es) X.env = (false, eval e X.env) :: starEach es X.env := by rfl) (hpl : ((backTo pos (starEach (e :: es) X.env)).any (·.1) || (backToKw pos (keywordEach kws X.env)).any (·.1.isNone)) = false := by rfl) :
    PE X (.Call (.Name x p) (e :: es) kws pos) (tMakeK C n ks.length sp gV E0 t tk) := by
  refine ⟨fun pins s σ H Q I h => ?_⟩
  refine wpAny_Call_Name_kw (ld_glob I hg hm ?_ hdb)
  refine PySem.W.callWith_KW (h₀ := X.base) I.ok.mod.kin M.kp hall (thn (ha.run pos pins s σ H _ I h) fun us s1 ⟨vs, H1, I1, r, q⟩ => ?_) hpl he
  refine thn (hkw.run pos pins s1 σ H1 _ I1 q) fun ws s2 ⟨zs, H2, I2, rz, l1, l2, q2⟩ => ⟨I2.kIn, ?_⟩
  rw [hks]
  exact run_makeKG M F hr gu hb I2 r rz l1 l2 q2
end
/-! ### isinstance(x, C), C of the program -/
structure InsF (K : PySem.W.Frag) (C : Addr) : Prop where
  cl : Cls K C
  ha : PySem.W.findIn K (.ref C) "__class__" = some (some (.builtin "object.__class__"))
  hn : PySem.W.specialIn K (.builtin "object.__class__") "__get__" = some (some (.builtin "getset_descriptor.__get__"))
  htk : PySem.W.takesIn K (.builtin "object.__class__") = some true
  hm : PySem.W.mroIn K C (.type "object") = some true
section
variable {K : PySem.W.Frag} {N L M : AP} {H0 H1 H H' : Hp} {σ : L2.St} {es : Env'} {Q : SV → Prop} {C : Addr}
theorem rc_isiO {ds : List (Str × D)} (i : InsF K C) (q : Q (.d (.bl true))) : RC K (rIsi K) [.d (.obj C ds), .cls C] Q := fun N M L H0 H vs bb k o R r => by
  obtain ⟨v, w, rfl, hv, hw⟩ := o.two
  have hw' : w = V.ref C := hw
  subst hw'
  have hv : Is K M H v (.obj C ds) := hv
  cases hv with
  | obj h1 h2 h3 =>
    refine ⟨_, .ref C, .ref C, .ref C, true, rfl, .own C, .base (.ins h1 i.cl i.ha i.hn i.htk i.hm), ?_, r (.d (.bl true)) _ H (Kp.refl (k.bs bb)) (Is.bl true) q⟩
    unfold PySem.W.kitOne
    rw [if_pos (by simp)]
theorem rc_isiC {x : D} {b : Bool} (p : x.plain = true) (hk : PySem.W.kitOne K (.type x.tyN) (.ref C) = some b) (q : Q (.d (.bl b))) : RC K (rIsi K) [.d x, .cls C] Q := fun N M L H0 H vs bb k o R r => by
  obtain ⟨v, w, rfl, hv, hw⟩ := o.two
  have hw' : w = V.ref C := hw
  subst hw'
  exact ⟨v, .ref C, .type x.tyN, .ref C, b, rfl, .own C, Is.ty hv p, hk, r (.d (.bl b)) _ H (Kp.refl (k.bs bb)) (Is.bl b) q⟩
theorem de_clsC (q : Q (.cls C)) : DE K (tC (.ref C)) es Q := fun P N M L σ H S R r => r (.cls C) _ H (Kp.refl S.bs) rfl q
/-! ### repr(o), o == y by the class's own defs -/
theorem rc_reprOwn {ds : List (Str × D)} {pre : List SV → Prop} {post : List SV → SV → Prop} (hp : pre [.d (.obj C ds)]) (q : ∀ r, post [.d (.obj C ds)] r → ∃ z, r = .d (.str z) ∧ Q (.d (.str z))) : RC K (rReprOwn C (spD K 1 pre post)) [.d (.obj C ds)] Q := fun N M L H0 H vs bb k o R r => by
  obtain ⟨v, rfl, hv⟩ := o.one
  have hv' : Is K M H v (.obj C ds) := hv
  have hv2 := hv'
  cases hv' with
  | obj h1 h2 h3 =>
    refine ⟨_, _, _, rfl, h1, M, L, [.d (.obj C ds)], k.bs bb, .cons hv2 .nil, rfl, hp, fun s w H' k2 o2 q2 => ?_⟩
    obtain ⟨z, rfl, q⟩ := q s q2
    cases o2
    exact ⟨z, rfl, r (.d (.str z)) _ H' k2 (Is.str z) q⟩
theorem YTy.of {v : V} {y : D} (h : Is K M H v y) (ok : (∃ ds, y = .obj C ds) ∨ (y.plain = true ∧ y ≠ .tup [])) : ∃ t, YTy K H C v t ∧ (t = .ref C ∨ t = .type y.tyN) := by
  rcases ok with ⟨ds, rfl⟩ | ⟨p, ne⟩
  · cases h with
    | obj h1 h2 h3 => exact ⟨_, .ins h1, .inl rfl⟩
  · cases h with
    | non => exact ⟨_, .non, .inr rfl⟩
    | bl b => exact ⟨_, .bl b, .inr rfl⟩
    | int i => exact ⟨_, .int i, .inr rfl⟩
    | str z => exact ⟨_, .str z, .inr rfl⟩
    | lst h1 h2 h3 => exact ⟨_, .lst h1, .inr rfl⟩
    | tup h1 h3 => exact ⟨_, .tup h1, .inr rfl⟩
    | tup0 h1 => exact absurd rfl ne
    | tupK h1 h3 h4 =>
      obtain ⟨o, its, m, h, hc, _⟩ := h1
      exact ⟨_, .ktup h hc, .inr rfl⟩
    | obj h1 h2 h3 => cases p
theorem eq_own {ds : List (Str × D)} {y : D} {pre : List SV → Prop} {post : List SV → SV → Prop} (ok : (∃ ds, y = .obj C ds) ∨ (y.plain = true ∧ y ≠ .tup [])) (n1 : PySem.W.notFirst K C (.ref C) = true) (n2 : PySem.W.notFirst K C (.type y.tyN) = true) (hp : pre [.d (.obj C ds), .d y]) (q : ∀ r, post [.d (.obj C ds), .d y] r → ∃ b, r = .d (.bl b) ∧ Q (.d (.bl b))) : RR K (rEqOwn K C (spD K 2 pre post)) (.d (.obj C ds)) (.d y) Q := fun N M L H0 H v1 v2 bb k o1 o2 R r => by
  have hv' : Is K M H v1 (.obj C ds) := o1
  have hv2 := hv'
  obtain ⟨t, ht, e⟩ := YTy.of (C := C) (show Is K M H v2 y from o2) ok
  cases hv' with
  | obj h1 h2 h3 =>
    refine ⟨_, _, _, t, rfl, h1, ht, ?_, M, L, [.d (.obj C ds), .d y], k.bs bb, .cons hv2 (.cons o2 .nil), rfl, hp, fun s w H' k2 o3 q2 => ?_⟩
    · rcases e with rfl | rfl
      · exact n1
      · exact n2
    · obtain ⟨b, rfl, q⟩ := q s q2
      cases o3
      exact ⟨b, rfl, r (.d (.bl b)) _ H' k2 (Is.bl b) q⟩
end
end DL
namespace DL
open PySem PySem.Spec PyProof.Rows L2
/-- an f-string's parts, one behind the other -/
def tJoined (ts : List TE) : TE := fun σ H Q => tJs ts Str.empty σ H fun out H1 => Q (.str out) H1
end DL

namespace DL
open PySem PySem.Spec PyProof.Rows L2
section
variable {K : PySem.W.Frag} {P : List Pin} {N L M : AP} {H0 H1 H H' : Hp} {σ : L2.St} {es : Env'} {te : TE} {tt : TT} {Q : SV → Prop}
/-- an f-string -/
def DJ (K : PySem.W.Frag) : List TE → Str → Env' → (Str → Prop) → Prop
  | [], acc, _, Q => Q acc
  | t :: ts, acc, es, Q => DE K t es fun s => ∃ y : Str, s = .d (.str y) ∧ (acc ++ y).length ≤ sizeLine ∧ DJ K ts (acc ++ y) es Q
theorem js_ok : ∀ (ts : List TE) (acc : Str) (q : Str → Prop), DJ K ts acc es q → ∀ P N M L σ H, Sts K P N M L σ H es → ∀ R : Str → Hp → Prop, (∀ z H', Kp L H H' → q z → R z H') → tJs ts acc σ H R
  | [], acc, q, h, P, N, M, L, σ, H, S, R, k => k acc H (Kp.refl S.bs) h
  | t :: ts, acc, q, h, P, N, M, L, σ, H, S, R, k => by
    refine (show DE K t es _ from h) P N M L σ H S _ fun s v H1 k1 ok q1 => ?_
    obtain ⟨y, rfl, hz, q1⟩ := q1
    cases ok
    exact ⟨y, rfl, hz, js_ok ts (acc ++ y) q q1 P N M L σ H1 (S.kp k1) R fun z H' k2 qz => k z H' (k1.trans k2) qz⟩
theorem de_joined {ts : List TE} (h : DJ K ts Str.empty es fun z => Q (.d (.str z))) : DE K (tJoined ts) es Q := fun P N M L σ H S R k =>
  js_ok ts Str.empty _ h P N M L σ H S _ fun z H' k1 q => k (.d (.str z)) _ H' k1 (Is.str z) q
theorem de_fmtS (h : DE K te es fun s => ∃ y : Str, s = .d (.str y) ∧ y.length ≤ sizeLine ∧ Q (.d (.str y))) : DE K (tFmt te) es Q := fun P N M L σ H S R k => by
  refine h P N M L σ H S _ fun s v H1 k1 ok q => ?_
  obtain ⟨y, rfl, hz, q⟩ := q
  cases ok
  exact .inl ⟨y, rfl, hz, k (.d (.str y)) _ H1 k1 (Is.str y) q⟩
theorem de_fmtI (h : DE K te es fun s => ∃ i : Int, s = .d (.int i) ∧ i.natAbs.log2 < 1920 ∧ Q (.d (.str (toString i)))) : DE K (tFmt te) es Q := fun P N M L σ H S R k => by
  refine h P N M L σ H S _ fun s v H1 k1 ok q => ?_
  obtain ⟨i, rfl, hz, q⟩ := q
  cases ok
  exact .inr ⟨i, rfl, hz, k (.d (.str (toString i))) _ H1 k1 (Is.str _) q⟩
/-- [e for x in xs if t], xs a tuple -/
theorem de_lcT {g : TG} {vs : List Nat} {tl : TE} (h : DE K tl es fun s => ∃ xs, s = .d (.tup xs) ∧ xs.length ≤ 100000 ∧ ∃ J : Nat → List D → Prop, J 0 [] ∧
    (∀ (i : Nat) x, xs[i]? = some x → LcT K g tt te vs es J i x) ∧ ∀ ds, J xs.length ds → ds.length ≤ xs.length → Q (.new ds)) : DE K (tLc (iTup K tl) g tt te vs) es Q := fun P N M L σ H S R k => by
  refine h P N M L σ H S _ fun s v H1 k1 o1 q1 => ?_
  obtain ⟨xs, rfl, b, J, h0, hs, hd⟩ := q1
  have hx : Is K M H1 v (.tup xs) := o1
  obtain ⟨a, ws, rfl, g1, g3⟩ := Is.tupS hx
  refine ⟨a, rfl, ⟨ws, g1⟩, fun D0 hD => ?_⟩
  obtain ⟨p0, old, nl⟩ := lc_start (S.kp k1) hD h0
  have bs1 := (S.kp k1).bs
  have tk : ∀ {i : Nat} {H : Hp}, LcP K P N M L σ es H1 D0 J i H → TK K H1 H := fun {i H} p => sqt_keep (M := M) (fun b o m e => p.kp.k b o (fun l => m (bs1.lm b l)) e) bs1.tr
  refine lc_tup (K := K) (a := a) (xs := ws) (LcP K P N M L σ es H1 D0 J) p0 (fun i H hi p => (tk p).s _ _ g1) (fun i x H hx p => ?_) fun H p => ?_
  · obtain ⟨d, hd', ix⟩ := g3.getV hx
    have ia : Is K (M.add D0) H x d := by
      refine Is.chg (fun b o e m => ⟨p.kp.k b o (fun l => m (.inl (bs1.lm b l))) e, m⟩) (tk p) _ _ (ix.add hD)
    have hi : i < 100000 := by
      have := (List.getElem?_eq_some_iff.mp hd').1
      omega
    exact lc_turn old nl hD hi p ia (hs i d hd')
  · rw [g3.len] at p
    obtain ⟨kk, ds, ok, q⟩ := lc_end k1 hD p hd
    exact k _ _ _ kk ok q
end
theorem kit_own {K : PySem.W.Frag} {C : Addr} {T : String} (h1 : PySem.W.isClsIn K C = true) (h2 : PySem.W.typeIn K (.ref C) = some (.type "type")) (h3 : PySem.W.subIn K (.type T) (.ref C) = some false) : PySem.W.kitOne K (.type T) (.ref C) = some false := by
  have h1' : (PySem.W.clsIn K C).isSome = true := h1
  unfold PySem.W.kitOne
  rw [if_neg (by simp)]
  unfold PySem.W.kitCls
  show (if ((PySem.W.clsIn K C).isSome && PySem.W.typeIn K (.ref C) == some (.type "type")) = true then PySem.W.subIn K (.type T) (.ref C) else none) = some false
  rw [h1', h2, if_pos (by simp)]
  exact h3
end DL

namespace DL
open PySem PySem.Spec PyProof.Rows L2
/-! ### calls with defaults and by names -/
def pick {α : Type} (ix : List Nat) (l : List α) : List α := ix.filterMap fun i => l[i]?
theorem Vals.get' : ∀ {vs : List V} {us : List Value} (i : Nat), Vals vs us → (vs[i]? = none ∧ us[i]? = none) ∨ ∃ v u, vs[i]? = some v ∧ us[i]? = some u ∧ RelV v u
  | _, _, _, .nil => .inl ⟨by simp, by simp⟩
  | _, _, 0, .cons r _ => .inr ⟨_, _, by simp, by simp, r⟩
  | _, _, i + 1, .cons _ t => by
    rcases Vals.get' i t with ⟨a, b⟩ | ⟨v, u, a, b, c⟩
    · exact .inl ⟨by simpa using a, by simpa using b⟩
    · exact .inr ⟨v, u, by simpa using a, by simpa using b, c⟩
theorem Vals.pick {vs : List V} {us : List Value} (r : Vals vs us) : ∀ ix : List Nat, Vals (DL.pick ix vs) (DL.pick ix us)
  | [] => .nil
  | i :: ix => by
    have ih := Vals.pick r ix
    unfold DL.pick at ih ⊢
    rw [List.filterMap_cons, List.filterMap_cons]
    rcases Vals.get' i r with ⟨a, b⟩ | ⟨v, u, a, b, c⟩
    · rw [a, b]; exact ih
    · rw [a, b]; exact .cons c ih
theorem SvAll.getB {K : PySem.W.Frag} {N M L : AP} {H0 H : Hp} : ∀ {vs : List V} {ss : List SV} (i : Nat), SvAll K N M L H0 H vs ss → (vs[i]? = none ∧ ss[i]? = none) ∨ ∃ v s, vs[i]? = some v ∧ ss[i]? = some s ∧ SvOk K N M L H0 H v s
  | _, _, _, .nil => .inl ⟨by simp, by simp⟩
  | _, _, 0, .cons r _ => .inr ⟨_, _, by simp, by simp, r⟩
  | _, _, i + 1, .cons _ t => by
    rcases SvAll.getB i t with ⟨a, b⟩ | ⟨v, u, a, b, c⟩
    · exact .inl ⟨by simpa using a, by simpa using b⟩
    · exact .inr ⟨v, u, by simpa using a, by simpa using b, c⟩
theorem SvAll.pick {K : PySem.W.Frag} {N M L : AP} {H0 H : Hp} {vs : List V} {ss : List SV} (r : SvAll K N M L H0 H vs ss) : ∀ ix : List Nat, SvAll K N M L H0 H (DL.pick ix vs) (DL.pick ix ss)
  | [] => .nil
  | i :: ix => by
    have ih := SvAll.pick r ix
    unfold DL.pick at ih ⊢
    rw [List.filterMap_cons, List.filterMap_cons]
    rcases SvAll.getB i r with ⟨a, b⟩ | ⟨v, u, a, b, c⟩
    · rw [a, b]; exact ih
    · rw [a, b]; exact .cons c ih
theorem SvAll.append {K : PySem.W.Frag} {N M L : AP} {H0 H : Hp} : ∀ {vs ws : List V} {ss us : List SV}, SvAll K N M L H0 H vs ss → SvAll K N M L H0 H ws us → SvAll K N M L H0 H (vs ++ ws) (ss ++ us)
  | _, _, _, _, .nil, s => s
  | _, _, _, _, .cons r t, s => .cons r (SvAll.append t s)
section
variable {P : Program} {w : World} {K : PySem.W.Frag} {mg : Str → Option Value} {base : Heap}
/-- okG for a def with defaults -/
theorem okGD {x qual : Str} {st : Stmt} {f : Addr} {fd : FuncData} {N ps : List Str} {k : Nat} {sp : Sp} {dvs : List V} {kws : List (Str × V)} (F : FunD K x qual (defArgs st) (defBody st) (defScope st) dvs kws f fd) (S : FnScope N ps (defScope st)) (len : ∀ vs H Q E, sp vs H Q E → vs.length = ps.length)
    (hb : ∀ (cdv : Value) (A : Around) (fr : List Env) (s : Shared) (H : Hp) (vs : List V) (Q : VK), A.guards = some [] → Room k (A.deeper (envOfC qual (defScope st) s.heap.objs.size f cdv)) → sp vs H Q E0 →
      ∃ t, PSs (cxOf CX0 P w K mg base N qual (defScope st) f cdv A fr s H E0).nox (defBody st) t ∧ t { nx := fun _ H' => Q .non H', rt := Q } (start N vs) H) : FnG P w K mg base (k + 1) f fd ps sp := by
  obtain ⟨oc, od, dV, kV, doc, pm, an, cdv, ct, osl, rfl, lk, hcd, _, _⟩ := F.ex
  constructor
  · exact len
  intro A fr s H ar us vs Q hg hr e0 hbi rv hsp
  have up : ∀ b o, base.get? b = some o → s.heap.get? b = some o := fun b o e => (e0.bs b o e).1
  have kin : K.In s.heap := e0.mod.kin.keeps up
  have room := hr.deeper (envOfC qual (defScope st) s.heap.objs.size f cdv)
  refine codeAny_call_function hr.depth (kin f _ lk) rfl S.co S.gen rfl (PySem.W.codeRec_of kin hcd) ?_
  refine hbi _ _ _ _ ?_
  have kinds : ∀ y ∈ ps.zip us, (defScope st).names.lookup y.1 = some .local ∨ ((defScope st).names.lookup y.1 = some .cell ∧ ((cellsFrom (s.heap.objs.size + 1) (defScope st).names []).lookup y.1).isSome = true) := by
    rintro ⟨n, v⟩ hy
    have hn := S.par n (List.of_mem_zip hy).1
    exact hn.imp id fun q => ⟨q, PySem.W.cellsFrom_some _ _ _ (.inl q)⟩
  refine wpAny_newFunctionEnv_cells S.kind kinds ?_
  rintro env rfl s1 x
  constructor
  · exact (e0.mod.nolimit.keeps up).keeps x.toInCall.keep
  refine codeAny_func ?_
  obtain ⟨t, ht, hq⟩ := hb cdv A fr s H vs Q hg room hsp
  have inv := inv_start (CX := CX0) (E := E0) (cd := cdv) (f := f) S hr.hd e0 (len vs H Q E0 hsp) rv x
  refine wpAny_mono (ht.nox.run [] s1 (start N vs) H _ inv hq) ?_ (fun _ _ h => h)
  intro fl s2 h2
  match fl, h2 with
  | .ret u, h2 =>
    obtain ⟨v, σ2, H2, J, r2, q⟩ := h2
    exact ⟨v, H2, J.os, J.bare, J.base, J.hok, r2, q⟩
  | .next, h2 =>
    obtain ⟨σ2, H2, J, q⟩ := h2
    exact ⟨V.non, H2, J.os, J.bare, J.base, J.hok, rfl, q⟩
  | .brk, h2 =>
    obtain ⟨_, _, _, q⟩ := h2
    exact q.elim
  | .cont, h2 =>
    obtain ⟨_, _, _, q⟩ := h2
    exact q.elim
end
section
variable {X : Cx} {k n : Nat} {f C : Addr} {fd : FuncData} {ps ks : List Str} {sp : Sp} {x : Str} {p pos : Pos} {e : Expr} {es : List Expr} {kws : List Keyword} {t tk : TA} {g : List Value → List Value → List Value} {gV : List V → List V → List V}
/-- f(e, .., k = v, ..) -/
theorem pe_callGN (F : FnG X.prog X.w X.K X.mg X.base k f fd ps sp) (hr : Room k X.A) (gu : X.A.guards = some []) (hg : Gl X x) (hm : X.mg x = some (.ref f)) (hk : PySem.W.keepIn X.K (.ref f) = true) (hb : KBn X.K fd ps n ks g gV)
    (ha : PA X (e :: es) t) (hkw : PK X kws tk) (hall : (backToKw pos (keywordEach kws X.env)).all (·.1.isSome) = true := by rfl) (hks : (backToKw pos (keywordEach kws X.env)).filterMap (·.1) = ks := by rfl)
    (hdb : (x == ("__debug__" : Str)) = false := by decide) (he : starEach (e :: es) X.env = (false, eval e X.env) :: starEach es X.env := by rfl)
    (hpl : ((backTo pos (starEach (e :: es) X.env)).any (·.1) || (backToKw pos (keywordEach kws X.env)).any (·.1.isNone)) = false := by rfl) :
    PE X (.Call (.Name x p) (e :: es) kws pos) (tCallN n ks.length sp gV E0 t tk) := by
  refine ⟨fun pins s σ H Q I h => ?_⟩
  refine wpAny_Call_Name_kw (ld_glob I hg hm ?_ hdb)
  refine PySem.W.callWith_KW (h₀ := X.base) I.ok.mod.kin hk hall (thn (ha.run pos pins s σ H _ I h) fun us s1 ⟨vs, H1, I1, r, q⟩ => ?_) hpl he
  refine thn (hkw.run pos pins s1 σ H1 _ I1 q) fun ws s2 ⟨zs, H2, I2, rz, l1, l2, q2⟩ => ⟨I2.kIn, ?_⟩
  rw [hks]
  exact runG F hr gu I2 (hb.to s2 us ws I2.kIn (r.length.symm.trans l1) (rz.length.symm.trans l2)) (hb.rel r rz) q2
/-- f(k = v, ..) -/
theorem pe_callG0N (F : FnG X.prog X.w X.K X.mg X.base k f fd ps sp) (hr : Room k X.A) (gu : X.A.guards = some []) (hg : Gl X x) (hm : X.mg x = some (.ref f)) (hk : PySem.W.keepIn X.K (.ref f) = true) (hb : KBn X.K fd ps 0 ks g gV)
    (hkw : PK X kws tk) (hall : (backToKw pos (keywordEach kws X.env)).all (·.1.isSome) = true := by rfl) (hks : (backToKw pos (keywordEach kws X.env)).filterMap (·.1) = ks := by rfl) (hdb : (x == ("__debug__" : Str)) = false := by decide)
    (hpl : ((backTo pos (starEach [] X.env)).any (·.1) || (backToKw pos (keywordEach kws X.env)).any (·.1.isNone)) = false := by rfl) : PE X (.Call (.Name x p) [] kws pos) (tCallN 0 ks.length sp gV E0 tNil tk) := by
  constructor
  intro pins s σ H Q I h
  refine wpAny_Call_Name_kw (ld_glob I hg hm ?_ hdb)
  refine PySem.W.callWith_KW0 (h₀ := X.base) I.ok.mod.kin hk hall ?_ hpl
  refine thn (hkw.run pos pins s σ H _ I h) ?_
  rintro ws s2 ⟨zs, H2, I2, rz, l1, l2, q2⟩
  refine ⟨I2.kIn, ?_⟩
  rw [hks]
  exact runG F hr gu I2 (hb.to s2 [] ws I2.kIn rfl (rz.length.symm.trans l2)) (hb.rel .nil rz) q2
/-- f(e, ..), defaults fill up -/
theorem pe_callGP (F : FnG X.prog X.w X.K X.mg X.base k f fd ps sp) (hr : Room k X.A) (gu : X.A.guards = some []) (hg : Gl X x) (hm : X.mg x = some (.ref f)) (hk : PySem.W.keepIn X.K (.ref f) = true) (hb : KBn X.K fd ps n [] g gV)
    (ha : PA X (e :: es) t) (hdb : (x == ("__debug__" : Str)) = false := by decide) (he : starEach (e :: es) X.env = (false, eval e X.env) :: starEach es X.env := by rfl) (hpl : (backTo pos (starEach es X.env)).any (·.1) = false := by rfl) :
    PE X (.Call (.Name x p) (e :: es) [] pos) (tCallN n 0 sp gV E0 t tNil) := by
  constructor
  intro pins s σ H Q I h
  refine wpAny_Call_Name_kw (ld_glob I hg hm ?_ hdb)
  refine PySem.W.callWith_K (h₀ := X.base) I.ok.mod.kin hk (thn (ha.run pos pins s σ H _ I h) ?_) he hpl
  rintro us s1 ⟨vs, H1, I1, r, l1, l2, q⟩
  exact ⟨I1.kIn, runG (kw := []) F hr gu I1 (hb.to s1 us [] I1.kIn (r.length.symm.trans l1) rfl) (hb.rel r .nil) q⟩
/-- C(e, ..), defaults fill up -/
theorem pe_makeGP (M : Mk X.K C f) (F : FnG X.prog X.w X.K X.mg X.base k f fd ps sp) (hr : Room (k + 1) X.A) (gu : X.A.guards = some []) (hg : Gl X x) (hm : X.mg x = some (.ref C)) (hb : KBn X.K fd ps (n + 1) [] g gV) (ha : PA X (e :: es) t)
    (hdb : (x == ("__debug__" : Str)) = false := by decide) (he : starEach (e :: es) X.env = (false, eval e X.env) :: starEach es X.env := by rfl) (hpl : (backTo pos (starEach es X.env)).any (·.1) = false := by rfl) :
    PE X (.Call (.Name x p) (e :: es) [] pos) (tMakeK C n 0 sp gV E0 t tNil) := by
  refine ⟨fun pins s σ H Q I h => ?_⟩
  refine wpAny_Call_Name_kw (ld_glob I hg hm ?_ hdb)
  refine PySem.W.callWith_K (h₀ := X.base) I.ok.mod.kin M.kp (thn (ha.run pos pins s σ H _ I h) ?_) he hpl
  rintro us s1 ⟨vs, H1, I1, r, l1, l2, q⟩
  exact ⟨I1.kIn, run_makeKG (ks := []) (ws := []) (zs := []) M F hr gu hb I1 r .nil l1 rfl q⟩
/-- C(k = v, ..) -/
theorem pe_makeG0 (M : Mk X.K C f) (F : FnG X.prog X.w X.K X.mg X.base k f fd ps sp) (hr : Room (k + 1) X.A) (gu : X.A.guards = some []) (hg : Gl X x) (hm : X.mg x = some (.ref C)) (hb : KBn X.K fd ps 1 ks g gV) (hkw : PK X kws tk)
    (hall : (backToKw pos (keywordEach kws X.env)).all (·.1.isSome) = true := by rfl) (hks : (backToKw pos (keywordEach kws X.env)).filterMap (·.1) = ks := by rfl) (hdb : (x == ("__debug__" : Str)) = false := by decide)
    (hpl : ((backTo pos (starEach [] X.env)).any (·.1) || (backToKw pos (keywordEach kws X.env)).any (·.1.isNone)) = false := by rfl) :
    PE X (.Call (.Name x p) [] kws pos) (tMakeK C 0 ks.length sp gV E0 tNil tk) := by
  refine ⟨fun pins s σ H Q I h => ?_⟩
  refine wpAny_Call_Name_kw (ld_glob I hg hm ?_ hdb)
  refine PySem.W.callWith_KW0 (h₀ := X.base) I.ok.mod.kin M.kp hall ?_ hpl
  refine thn (hkw.run pos pins s σ H _ I h) fun ws s2 ⟨zs, H2, I2, rz, l1, l2, q2⟩ => ⟨I2.kIn, ?_⟩
  rw [hks]
  exact run_makeKG (us := []) (vs := []) M F hr gu hb I2 .nil rz rfl l2 q2
end
section
variable {K : PySem.W.Frag} {N L M : AP} {H0 H1 H H' : Hp} {σ : L2.St} {es : Env'} {Q : SV → Prop} {pre : List SV → Prop} {post : List SV → SV → Prop}
/-- the things in their places: written ones, defaults ds, named ones -/
theorem de_callN {n m N' : Nat} {t tk : TA} {ix : List Nat} {dv : List V} {dS : List SV} {E : XK} (hd : ∀ (N M L : AP) (H0 H : Hp), SvAll K N M L H0 H dv dS)
    (h : DA K t es fun ss => DA K tk es fun us => nownAll ss ∧ nownAll us ∧ ss.length = n ∧ us.length = m ∧ (pick ix (ss.map SV.arg ++ dS ++ us.map SV.arg)).length = N' ∧ pre (pick ix (ss.map SV.arg ++ dS ++ us.map SV.arg)) ∧ ∀ r, post (pick ix (ss.map SV.arg ++ dS ++ us.map SV.arg)) r → Q r) :
    DE K (tCallN n m (spD K N' pre post) (fun vs zs => pick ix (vs ++ dv ++ zs)) E t tk) es Q := fun P N M L σ H S R k => by
  refine h P N M L σ H S _ fun ss vs H1 k1 o1 q1 => ?_
  refine q1 P N M L σ H1 (S.kp k1) _ fun us zs H2 k2 o2 q2 => ?_
  obtain ⟨n1, n2, l1, l2, l3, hp, q⟩ := q2
  have k12 := k1.trans k2
  refine ⟨by rw [o1.len]; exact l1, by rw [o2.len]; exact l2, M, L, _, k12.bs S.bs, ((((o1.kp S.bs k1 k2).args S.bs k12 n1).append (hd NO M L H2 H2)).append (o2.args (k1.bs S.bs) k2 n2)).pick ix, l3, hp, fun r v H' k3 o3 q3 => ?_⟩
  exact k r v H' (k12.trans k3) ((SvOk.noN o3).back k12) (q r q3)
theorem hg_make {ix : List Nat} {dv : List V} {dS : List SV} (hd : ∀ (N M L : AP) (H0 H : Hp), SvAll K N M L H0 H dv dS) {gV : List V → List V → List V} (hgV : ∀ (x : V) (vs zs : List V), gV (x :: vs) zs = x :: pick ix (vs ++ dv ++ zs)) :
    ∀ {N M L : AP} {H0 H : Hp} {x : Addr} {vs zs : List V} {ss us : List SV}, SvAll K N M L H0 H vs ss → SvAll K N M L H0 H zs us → ∃ ws, gV (.ref x :: vs) zs = .ref x :: ws ∧ SvAll K N M L H0 H ws (pick ix (ss ++ dS ++ us)) := fun {N M L H0 H x vs zs ss us} a b =>
  ⟨_, hgV _ _ _, ((a.append (hd N M L H0 H)).append b).pick ix⟩
/-- C(..) -/
theorem de_makeN {n l N' : Nat} {C : Addr} {t tk : TA} {ix : List Nat} {dv : List V} {dS : List SV} {gV : List V → List V → List V} {post : List SV → List (Str × D) → Prop} {E : XK} (hd : ∀ (N M L : AP) (H0 H : Hp), SvAll K N M L H0 H dv dS) (hgV : ∀ (x : V) (vs zs : List V), gV (x :: vs) zs = x :: pick ix (vs ++ dv ++ zs))
    (h : DA K t es fun ss => DA K tk es fun us => nownAll ss ∧ nownAll us ∧ ss.length = n ∧ us.length = l ∧ (pick ix (ss.map SV.arg ++ dS ++ us.map SV.arg)).length = N' ∧ pre (pick ix (ss.map SV.arg ++ dS ++ us.map SV.arg)) ∧ ∀ ds, post (pick ix (ss.map SV.arg ++ dS ++ us.map SV.arg)) ds → Q (.d (.obj C ds))) :
    DE K (tMakeK C n l (spI K C N' pre post) gV E t tk) es Q :=
  de_make (gS := fun ss us => pick ix (ss ++ dS ++ us)) (fun a b _ _ => hg_make hd hgV a b) h
theorem svi {N M L : AP} {H0 H : Hp} {i : Int} {vs : List V} {ss : List SV} (t : SvAll K N M L H0 H vs ss) : SvAll K N M L H0 H (.int i :: vs) (.d (.int i) :: ss) := .cons (Is.int i) t
theorem svt {N M L : AP} {H0 H : Hp} {a : Addr} (h : ∀ H : Hp, SqT K H a []) {vs : List V} {ss : List SV} (t : SvAll K N M L H0 H vs ss) : SvAll K N M L H0 H (.ref a :: vs) (.d (.tup []) :: ss) := .cons (Is.tup0 (h H)) t
theorem sqt_of {a : Addr} {o : Obj} {m : Nat} (h : K.lookup a = some o) (h1 : o.cls = .type "tuple") (h2 : o.data = .seq #[] m) : ∀ H : Hp, SqT K H a [] := fun H => .inr ⟨o, #[], m, h, h1, h2, Nat.zero_le _, .nil⟩
end
end DL
namespace DL
open PySem PySem.Spec PyProof.Rows L2
section
variable {K : PySem.W.Frag} {D : Addr}
theorem kwd_nil : ∀ q ∈ ([] : List (Str × V)), ∃ u, PySem.W.nsIn K D q.1 = some (some u) ∧ RelV q.2 u := fun q h => by cases h
theorem kwd_cons {x : Str} {v : V} {u : Value} {l : List (Str × V)} (h : PySem.W.nsIn K D x = some (some u)) (r : RelV v u) (t : ∀ q ∈ l, ∃ u, PySem.W.nsIn K D q.1 = some (some u) ∧ RelV q.2 u) : ∀ q ∈ (x, v) :: l, ∃ u, PySem.W.nsIn K D q.1 = some (some u) ∧ RelV q.2 u := fun q hq => by
  rcases List.mem_cons.mp hq with rfl | hq
  · exact ⟨u, h, r⟩
  · exact t q hq
def rShr : R2 := rI (fun _ j => 0 ≤ j) fun i j => .int (i / 2 ^ j.toNat)
def rAnd : R2 := rI0 fun i j => .int (Builtin.bitAnd i j)
end
end DL

namespace DL
open PySem PySem.Spec PyProof.Rows L2
/-! ### promises with a thing that tells the arguments -/
def spQ {α : Type} (K : PySem.W.Frag) (n : Nat) (args : α → List SV) (pre : α → Prop) (post : α → SV → Prop) : Sp := fun vs H Q E => ∃ x : α, spD K n (fun ss => ss = args x ∧ pre x) (fun _ r => post x r) vs H Q E
section
variable {α : Type} {K : PySem.W.Frag} {N L M : AP} {H0 H1 H H' : Hp} {σ : L2.St} {es : Env'} {ta : TE} {tr : TA} {Q : SV → Prop} {t : TS} {n : Nat} {args : α → List SV} {pre : α → Prop} {post : α → SV → Prop} {C : Addr} {m : Str}
theorem spQ.len {vs : List V} {R : VK} {E : XK} (h : spQ K n args pre post vs H R E) : vs.length = n := by
  obtain ⟨x, h⟩ := h
  exact spD.len h
theorem bodyQ {names : List Str} {vs : List V} {R : VK} {E : XK} (h : spQ K n args pre post vs H R E) (hb : ∀ x, pre x → DS K t (startE names.length (args x)) { nx := fun _ => post x (.d .non), rt := post x }) :
    t { nx := fun _ H' => R .non H', rt := R } (L2.start names vs) H := by
  obtain ⟨x, h⟩ := h
  exact body_of h fun ss hl hp => by
    obtain ⟨rfl, hp⟩ := hp
    exact hb x hp
theorem de_callQ {E : XK} (h : DA K tr es fun ss => nownAll ss ∧ ∃ x, ss.map SV.arg = args x ∧ ss.length = n ∧ pre x ∧ ∀ r, post x r → Q r) : DE K (tCall (spQ K n args pre post) [] E tr) es Q := fun P N M L σ H S R k => by
  refine h P N M L σ H S _ fun ss vs H1 k1 o1 q1 => ?_
  obtain ⟨hn, x, e, hl, hp, q⟩ := q1
  rw [List.append_nil]
  have a := o1.args S.bs k1 hn
  refine ⟨x, M, L, ss.map SV.arg, k1.bs S.bs, a, by rw [List.length_map]; exact hl, ⟨e, hp⟩, fun r v H' k2 o2 q2 => ?_⟩
  exact k r v H' (k1.trans k2) ((SvOk.noN o2).back k1) (q r q2)
theorem de_callNQ {n m N' : Nat} {t tk : TA} {ix : List Nat} {dv : List V} {dS : List SV} {E : XK} (hd : ∀ (N M L : AP) (H0 H : Hp), SvAll K N M L H0 H dv dS)
    (h : DA K t es fun ss => DA K tk es fun us => nownAll ss ∧ nownAll us ∧ ss.length = n ∧ us.length = m ∧ ∃ x, pick ix (ss.map SV.arg ++ dS ++ us.map SV.arg) = args x ∧ (args x).length = N' ∧ pre x ∧ ∀ r, post x r → Q r) :
    DE K (tCallN n m (spQ K N' args pre post) (fun vs zs => pick ix (vs ++ dv ++ zs)) E t tk) es Q := fun P N M L σ H S R k => by
  refine h P N M L σ H S _ fun ss vs H1 k1 o1 q1 => ?_
  refine q1 P N M L σ H1 (S.kp k1) _ fun us zs H2 k2 o2 q2 => ?_
  obtain ⟨n1, n2, l1, l2, x, e, l3, hp, q⟩ := q2
  have k12 := k1.trans k2
  refine ⟨by rw [o1.len]; exact l1, by rw [o2.len]; exact l2, x, M, L, _, k12.bs S.bs, ((((o1.kp S.bs k1 k2).args S.bs k12 n1).append (hd NO M L H2 H2)).append (o2.args (k1.bs S.bs) k2 n2)).pick ix, by rw [e]; exact l3, ⟨e, hp⟩, fun r v H' k3 o3 q3 => ?_⟩
  exact k r v H' (k12.trans k3) ((SvOk.noN o3).back k12) (q r q3)
/-- o.m(..), a method of its class -/
theorem de_methQ {E : XK} (h : DE K ta es fun s => ∃ ds, s = .d (.obj C ds) ∧ ds.lookup m = none ∧ DA K tr es fun ss => nownAll ss ∧ ∃ x, s :: ss.map SV.arg = args x ∧ (args x).length = n ∧ pre x ∧ ∀ r, post x r → Q r) : DE K (tMeth C m (spQ K n args pre post) [] E ta tr) es Q := fun P N M L σ H S R k => by
  refine h P N M L σ H S _ fun s v H1 k1 ok q => ?_
  obtain ⟨ds, rfl, hl, q⟩ := q
  have ok' : Is K M H1 v (.obj C ds) := ok
  have hv := ok'
  cases ok' with
  | obj h1 h2 h3 =>
    refine ⟨_, _, _, rfl, h1, h3.lookN hl, q P N M L σ H1 (S.kp k1) _ fun ss vs H2 k2 o2 q2 => ?_⟩
    obtain ⟨hn, x, e, hlen, hp, q2⟩ := q2
    rw [List.append_nil]
    have bs1 := k1.bs S.bs
    refine ⟨x, M, L, .d (.obj C ds) :: ss.map SV.arg, k2.bs bs1, .cons (Is.kp k2 bs1 hv) (o2.args bs1 k2 hn), by rw [e]; exact hlen, ⟨e, hp⟩, fun r w H3 k3 o3 q3 => ?_⟩
    exact k r w H3 ((k1.trans k2).trans k3) ((SvOk.noN o3).back (k1.trans k2)) (q2 r q3)
theorem pick_self {α : Type} (ix : List Nat) (x : α) (l : List α) : pick (0 :: ix.map (· + 1)) (x :: l) = x :: pick ix l := by
  unfold pick
  rw [List.filterMap_cons]
  show x :: _ = _
  rw [List.filterMap_map]
  rfl
theorem hgv {ix : List Nat} {dv : List V} (x : V) (vs zs : List V) : (fun vs zs => pick (0 :: ix.map (· + 1)) (vs ++ dv ++ zs)) (x :: vs) zs = x :: pick ix (vs ++ dv ++ zs) := pick_self ix x (vs ++ dv ++ zs)
end
end DL

namespace DL
open PySem PySem.Spec PyProof.Rows L2
/-! ### what is let out -/
abbrev XP := Addr → Str → D → Prop
def XOk (K : PySem.W.Frag) (F : Fr) (E : XK) (xp : XP) : Prop := ∀ (C dd : Addr) (f : Str) (v : V) (d : D) (H' : Hp), Kp F.L F.H0 H' → F.H0 dd = none → H' dd = some (.xd [(f, v)]) → Is K F.M0 H' v d → xp C f d → E (.ref C) (some dd) H'
def spX {α : Type} (K : PySem.W.Frag) (n : Nat) (args : α → List SV) (pre : α → Prop) (post : α → SV → Prop) (xp : α → XP) : Sp := fun vs H Q E => ∃ (x : α) (M L : AP), Bs L M H ∧ SvAll K NO M L H H vs (args x) ∧ (args x).length = n ∧ pre x ∧ (∀ r v H', Kp L H H' → SvOk K NO M L H H' v r → post x r → Q v H') ∧ XOk K ⟨M, L, H⟩ E (xp x)
/-- defs that may let an own error out, where no repr is under way -/
structure FnX (P : Program) (w : World) (K : PySem.W.Frag) (mg : Str → Option Value) (base : Heap) (k : Nat) (f : Addr) (fd : FuncData) (ps : List Str) (sp : Sp) : Prop where
  len : ∀ vs H Q E, sp vs H Q E → vs.length = ps.length
  run : ∀ (A : Around) (fr : List Env) (s : Shared) (H : Hp) (ar : Args) (us : List Value) (vs : List V) (Q : VK) (E : XK), A.guards = some [] → Room k A → Env0 P w K mg base A fr s H →
    BindsTo s fd ar (ps.zip us) → Vals vs us → sp vs H Q E → codeAny (model P w) A (.call (.ref f) ar) (CR (L2.CX P w) fr P w H s Q E) s
section
variable {P : Program} {w : World} {K : PySem.W.Frag} {mg : Str → Option Value} {base : Heap}
theorem okX0 {k : Nat} {f : Addr} {name qual : Str} {params : Arguments} {body : List Stmt} {scope : Scope} {dV kV doc pm cdv ct oc : Value} {an od : Option Addr}
    {osl : Array (Option Value)} {N ps : List Str} {sp : Sp} (lk : K.lookup f = some ⟨oc, od, .func (PySem.W.fnOf name qual params body scope dV kV doc pm an cdv ct), osl⟩) (hcd : PySem.W.codeIn K cdv qual = true) (S : FnScope N ps scope)
    (len : ∀ vs H Q E, sp vs H Q E → vs.length = ps.length)
    (hbody : ∀ (A : Around) (outer : List Env) (s : Shared) (H : Hp) (vs : List V) (Q : VK) (E : XK), A.guards = some [] → Room k (A.deeper (envOfC qual scope s.heap.objs.size f cdv)) → sp vs H Q E →
      ∃ t, PSs (cxOf (L2.CX P w) P w K mg base N qual scope f cdv A outer s H E) body t ∧ t { nx := fun _ H' => Q .non H', rt := Q } (start N vs) H) :
    FnX P w K mg base (k + 1) f (PySem.W.fnOf name qual params body scope dV kV doc pm an cdv ct) ps sp := by
  refine ⟨len, fun A outer s H args us vs Q E hg hr e0 hb r hsp => ?_⟩
  have hl := len _ _ _ _ hsp
  have KX : K.In s.heap := e0.mod.kin.keeps fun b o e => (e0.bs b o e).1
  have lim : s.heap.NoLimit := e0.mod.nolimit.keeps fun b o e => (e0.bs b o e).1
  have hkind : ∀ y ∈ ps.zip us, scope.names.lookup y.1 = some .local ∨ (scope.names.lookup y.1 = some .cell ∧ ((cellsFrom (s.heap.objs.size + 1) scope.names []).lookup y.1).isSome = true) := fun ⟨n, v⟩ hy => by
    rcases S.par n (List.of_mem_zip hy).1 with q | q
    · exact .inl q
    · exact .inr ⟨q, PySem.W.cellsFrom_some _ _ _ (.inl q)⟩
  refine codeAny_call_function hr.depth (KX _ _ lk) rfl S.co S.gen rfl (PySem.W.codeRec_of KX hcd) (hb _ _ _ _ ?_)
  refine wpAny_newFunctionEnv_cells S.kind hkind fun env he s1 x => ?_
  subst he
  refine ⟨lim.keeps x.toInCall.keep, codeAny_func ?_⟩
  obtain ⟨t, ht, hq⟩ := hbody A outer s H vs Q E hg (hr.deeper _) hsp
  have I : Inv (cxOf (L2.CX P w) P w K mg base N qual scope f cdv A outer s H E) [] (start N vs) H s1 := inv_start S hr.hd e0 hl r x
  refine wpAny_mono (ht.run [] s1 (start N vs) H _ I hq) (fun fl s' hs => ?_) fun e s' hs => hs
  have fin : ∀ {σ' : L2.St} {H' : Hp} {v : V} {u : Value}, Inv (cxOf (L2.CX P w) P w K mg base N qual scope f cdv A outer s H E) [] σ' H' s' → RelV v u → Q v H' → CE outer P w H s Q u s' :=
    fun {σ' H' v u} J rv q => ⟨v, H', J.os, J.bare, J.base, J.hok, rv, q⟩
  cases fl with
  | ret u =>
    obtain ⟨v, σ', H', J, rv, q⟩ := hs
    exact fin J rv q
  | next =>
    obtain ⟨σ', H', J, q⟩ := hs
    exact fin (v := V.non) (u := Value.none) J rfl q
  | brk =>
    obtain ⟨_, _, _, q⟩ := hs
    exact False.elim q
  | cont =>
    obtain ⟨_, _, _, q⟩ := hs
    exact False.elim q
theorem okX {x qual : Str} {st : Stmt} {f : Addr} {fd : FuncData} {N ps : List Str} {k : Nat} {sp : Sp} (F : Fun K x qual st f fd) (S : FnScope N ps (defScope st)) (len : ∀ vs H Q E, sp vs H Q E → vs.length = ps.length)
    (hb : ∀ (cdv : Value) (A : Around) (fr : List Env) (s : Shared) (H : Hp) (vs : List V) (Q : VK) (E : XK), A.guards = some [] → Room k (A.deeper (envOfC qual (defScope st) s.heap.objs.size f cdv)) → sp vs H Q E →
      ∃ t, PSs (cxOf (L2.CX P w) P w K mg base N qual (defScope st) f cdv A fr s H E) (defBody st) t ∧ t { nx := fun _ H' => Q .non H', rt := Q } (start N vs) H) : FnX P w K mg base (k + 1) f fd ps sp := by
  obtain ⟨oc, od, kV, doc, pm, an, cdv, ct, osl, rfl, lk, hcd⟩ := F.ex
  exact okX0 lk hcd S len fun A fr s H vs Q E => hb cdv A fr s H vs Q E
theorem okXD {x qual : Str} {st : Stmt} {f : Addr} {fd : FuncData} {N ps : List Str} {k : Nat} {sp : Sp} {dvs : List V} {kws : List (Str × V)} (F : FunD K x qual (defArgs st) (defBody st) (defScope st) dvs kws f fd) (S : FnScope N ps (defScope st)) (len : ∀ vs H Q E, sp vs H Q E → vs.length = ps.length)
    (hb : ∀ (cdv : Value) (A : Around) (fr : List Env) (s : Shared) (H : Hp) (vs : List V) (Q : VK) (E : XK), A.guards = some [] → Room k (A.deeper (envOfC qual (defScope st) s.heap.objs.size f cdv)) → sp vs H Q E →
      ∃ t, PSs (cxOf (L2.CX P w) P w K mg base N qual (defScope st) f cdv A fr s H E) (defBody st) t ∧ t { nx := fun _ H' => Q .non H', rt := Q } (start N vs) H) : FnX P w K mg base (k + 1) f fd ps sp := by
  obtain ⟨oc, od, dV, kV, doc, pm, an, cdv, ct, osl, rfl, lk, hcd, _, _⟩ := F.ex
  exact okX0 lk hcd S len fun A fr s H vs Q E => hb cdv A fr s H vs Q E
theorem FnX.mono {j k : Nat} {f : Addr} {fd : FuncData} {ps : List Str} {sp : Sp} (F : FnX P w K mg base j f fd ps sp) (h : j ≤ k) : FnX P w K mg base k f fd ps sp :=
  ⟨F.len, fun A fr s H ar us vs Q E hg hr => F.run A fr s H ar us vs Q E hg (hr.mono h)⟩
end
/-! ### calls of such: what is raised goes by W -/
def tCallNS (n m : Nat) (sp : Sp) (gV : List V → List V → List V) (W : WX) (t tk : TA) : TE := fun σ H Q => t σ H fun vs H1 => tk σ H1 fun zs H2 => vs.length = n ∧ zs.length = m ∧ sp (gV vs zs) H2 Q (WE W σ)
def tMakeS (C : Addr) (n m : Nat) (sp : Sp) (gV : List V → List V → List V) (W : WX) (t tk : TA) : TE := fun σ H Q => t σ H fun vs H1 => tk σ H1 fun zs H2 => vs.length = n ∧ zs.length = m ∧ ∀ x dx, H2 x = none → H2 dx = none → dx ≠ x →
  sp (gV (.ref x :: vs) zs) (L2.upd (L2.upd H2 dx (.own x)) x (.ins C dx [])) (fun v H3 => v = .non ∧ Q (.ref x) H3) (WE W σ)
section
variable {X : Cx} {k n : Nat} {f C : Addr} {fd : FuncData} {ps ks : List Str} {sp : Sp} {x : Str} {p pos : Pos} {e : Expr} {es : List Expr} {kws : List Keyword} {t tk : TA} {g : List Value → List Value → List Value} {gV : List V → List V → List V} {W : WX}
theorem runX {pins : List (Addr × Obj)} {σ : L2.St} {H : Hp} {s : Shared} {Q : VK} {us us' : List Value} {vs : List V} {kw : List (Str × Value)} (F : FnX X.prog X.w X.K X.mg X.base k f fd ps sp) (hr : Room k X.A) (gu : X.A.guards = some []) (tk : Takes X W)
    (I : Inv X pins σ H s) (hb : BindsTo s fd ⟨us', kw⟩ (ps.zip us)) (r : Vals vs us) (h : sp vs H Q (WE W σ)) : wpAny (model X.prog X.w) X.A (call (.ref f) us' kw) (EP X pins σ Q) X.xe s := by
  refine wpAny_call (codeAny_mono (F.run X.A X.stack s H _ us vs Q (WE W σ) gu hr I.env0 hb r h) ?_)
  intro res s' hq
  match res, hq with
  | .ok (.ret u), hq => exact I.after hq
  | .ok .next, hq => exact hq.elim
  | .ok .brk, hq => exact hq.elim
  | .ok .cont, hq => exact hq.elim
  | .error e, hq => exact passAt tk σ pins H s e s' I hq
/-- f(e, .., k = v, ..) -/
theorem pe_callXN (F : FnX X.prog X.w X.K X.mg X.base k f fd ps sp) (hr : Room k X.A) (gu : X.A.guards = some []) (tW : Takes X W) (hg : Gl X x) (hm : X.mg x = some (.ref f)) (hk : PySem.W.keepIn X.K (.ref f) = true) (hb : KBn X.K fd ps n ks g gV)
    (ha : PA X (e :: es) t) (hkw : PK X kws tk) (hall : (backToKw pos (keywordEach kws X.env)).all (·.1.isSome) = true := by rfl) (hks : (backToKw pos (keywordEach kws X.env)).filterMap (·.1) = ks := by rfl)
    (hdb : (x == ("__debug__" : Str)) = false := by decide) (he : starEach (e :: es) X.env = (false, eval e X.env) :: starEach es X.env := by rfl)
    (hpl : ((backTo pos (starEach (e :: es) X.env)).any (·.1) || (backToKw pos (keywordEach kws X.env)).any (·.1.isNone)) = false := by rfl) :
    PE X (.Call (.Name x p) (e :: es) kws pos) (tCallNS n ks.length sp gV W t tk) := by
  refine ⟨fun pins s σ H Q I h => ?_⟩
  refine wpAny_Call_Name_kw (ld_glob I hg hm ?_ hdb)
  refine PySem.W.callWith_KW (h₀ := X.base) I.ok.mod.kin hk hall (thn (ha.run pos pins s σ H _ I h) fun us s1 ⟨vs, H1, I1, r, q⟩ => ?_) hpl he
  refine thn (hkw.run pos pins s1 σ H1 _ I1 q) fun ws s2 ⟨zs, H2, I2, rz, l1, l2, q2⟩ => ⟨I2.kIn, ?_⟩
  rw [hks]
  exact runX F hr gu tW I2 (hb.to s2 us ws I2.kIn (r.length.symm.trans l1) (rz.length.symm.trans l2)) (hb.rel r rz) q2
/-- f(k = v, ..) -/
theorem pe_callX0N (F : FnX X.prog X.w X.K X.mg X.base k f fd ps sp) (hr : Room k X.A) (gu : X.A.guards = some []) (tW : Takes X W) (hg : Gl X x) (hm : X.mg x = some (.ref f)) (hk : PySem.W.keepIn X.K (.ref f) = true) (hb : KBn X.K fd ps 0 ks g gV)
    (hkw : PK X kws tk) (hall : (backToKw pos (keywordEach kws X.env)).all (·.1.isSome) = true := by rfl) (hks : (backToKw pos (keywordEach kws X.env)).filterMap (·.1) = ks := by rfl) (hdb : (x == ("__debug__" : Str)) = false := by decide)
    (hpl : ((backTo pos (starEach [] X.env)).any (·.1) || (backToKw pos (keywordEach kws X.env)).any (·.1.isNone)) = false := by rfl) : PE X (.Call (.Name x p) [] kws pos) (tCallNS 0 ks.length sp gV W tNil tk) := by
  constructor
  intro pins s σ H Q I h
  refine wpAny_Call_Name_kw (ld_glob I hg hm ?_ hdb)
  refine PySem.W.callWith_KW0 (h₀ := X.base) I.ok.mod.kin hk hall ?_ hpl
  refine thn (hkw.run pos pins s σ H _ I h) ?_
  rintro ws s2 ⟨zs, H2, I2, rz, l1, l2, q2⟩
  refine ⟨I2.kIn, ?_⟩
  rw [hks]
  exact runX F hr gu tW I2 (hb.to s2 [] ws I2.kIn rfl (rz.length.symm.trans l2)) (hb.rel .nil rz) q2
/-- f(e, ..) -/
theorem pe_callXP (F : FnX X.prog X.w X.K X.mg X.base k f fd ps sp) (hr : Room k X.A) (gu : X.A.guards = some []) (tW : Takes X W) (hg : Gl X x) (hm : X.mg x = some (.ref f)) (hk : PySem.W.keepIn X.K (.ref f) = true) (hb : KBn X.K fd ps n [] g gV)
    (ha : PA X (e :: es) t) (hdb : (x == ("__debug__" : Str)) = false := by decide) (he : starEach (e :: es) X.env = (false, eval e X.env) :: starEach es X.env := by rfl) (hpl : (backTo pos (starEach es X.env)).any (·.1) = false := by rfl) :
    PE X (.Call (.Name x p) (e :: es) [] pos) (tCallNS n 0 sp gV W t tNil) := by
  constructor
  intro pins s σ H Q I h
  refine wpAny_Call_Name_kw (ld_glob I hg hm ?_ hdb)
  refine PySem.W.callWith_K (h₀ := X.base) I.ok.mod.kin hk (thn (ha.run pos pins s σ H _ I h) ?_) he hpl
  rintro us s1 ⟨vs, H1, I1, r, l1, l2, q⟩
  exact ⟨I1.kIn, runX (kw := []) F hr gu tW I1 (hb.to s1 us [] I1.kIn (r.length.symm.trans l1) rfl) (hb.rel r .nil) q⟩
theorem run_makeX {pins : List (Addr × Obj)} {σ : L2.St} {H : Hp} {s : Shared} {Q : VK} {us ws : List Value} {vs zs : List V} (M : Mk X.K C f) (F : FnX X.prog X.w X.K X.mg X.base k f fd ps sp) (hr : Room (k + 1) X.A) (gu : X.A.guards = some []) (tW : Takes X W) (hb : KBn X.K fd ps (n + 1) ks g gV)
    (I : Inv X pins σ H s) (r : Vals vs us) (rz : Vals zs ws) (l1 : vs.length = n) (l2 : zs.length = ks.length)
    (h : ∀ x dx, H x = none → H dx = none → dx ≠ x → sp (gV (.ref x :: vs) zs) (L2.upd (L2.upd H dx (.own x)) x (.ins C dx [])) (fun v H2 => v = .non ∧ Q (.ref x) H2) (WE W σ)) :
    wpAny (model X.prog X.w) X.A (call (.ref C) us (ks.zip ws)) (EP X pins σ Q) X.xe s := by
  have hq := h (s.heap.objs.size + 1) s.heap.objs.size (I.hok.fresh (Nat.le_succ _)) (I.hok.fresh (Nat.le_refl _)) (Nat.ne_of_lt (Nat.lt_succ_self _))
  have I2 := Inv.made (C := C) I
  have r1 : Vals (V.ref (s.heap.objs.size + 1) :: vs) (Value.ref (s.heap.objs.size + 1) :: us) := .cons rfl r
  have r2 := hb.rel r1 rz
  have n1 : (Value.ref (s.heap.objs.size + 1) :: us).length = n + 1 := by
    rw [List.length_cons, ← r.length, l1]
  have gu2 : (X.A.under (.builtin "type.__call__" ⟨.ref C :: us, ks.zip ws⟩)).guards = some [] := by
    first | exact gu | (simpa [Around.under, Code.isGuard, guardIds] using gu)
  refine wpAny_call (make_map (f := f) I.kIn M.makes M.init (beq_iff_eq.mp M.fn) (codeAny_mono (F.run _ X.stack _ _ ⟨Value.ref (s.heap.objs.size + 1) :: us, ks.zip ws⟩ (g (Value.ref (s.heap.objs.size + 1) :: us) ws) _ _ (WE W σ) gu2 (hr.make C us (ks.zip ws))
    (I2.env0.make C us (ks.zip ws)) (hb.to _ (Value.ref (s.heap.objs.size + 1) :: us) ws I2.kIn n1 (rz.length.symm.trans l2)) r2 hq) fun r s' hq' => ?_))
  cases r with
  | error e => exact passAt tW σ pins _ _ e s' I2 hq'
  | ok fl =>
    cases fl with
    | ret u =>
      obtain ⟨v, H', I3, rv, ev, q3⟩ := I2.after hq'
      subst ev
      exact ⟨rv, ⟨V.ref (s.heap.objs.size + 1), H', I3, rfl, q3⟩⟩
    | next => exact False.elim hq'
    | brk => exact False.elim hq'
    | cont => exact False.elim hq'
/-- C(e, .., k = v, ..) -/
theorem pe_makeXN (M : Mk X.K C f) (F : FnX X.prog X.w X.K X.mg X.base k f fd ps sp) (hr : Room (k + 1) X.A) (gu : X.A.guards = some []) (tW : Takes X W) (hg : Gl X x) (hm : X.mg x = some (.ref C)) (hb : KBn X.K fd ps (n + 1) ks g gV) (ha : PA X (e :: es) t) (hkw : PK X kws tk)
    (hall : (backToKw pos (keywordEach kws X.env)).all (·.1.isSome) = true := by rfl) (hks : (backToKw pos (keywordEach kws X.env)).filterMap (·.1) = ks := by rfl) (hdb : (x == ("__debug__" : Str)) = false := by decide)
    (he : starEach (e :: es) X.env = (false, eval e X.env) :: starEach es X.env := by rfl) (hpl : ((backTo pos (starEach (e :: es) X.env)).any (·.1) || (backToKw pos (keywordEach kws X.env)).any (·.1.isNone)) = false := by rfl) :
    PE X (.Call (.Name x p) (e :: es) kws pos) (tMakeS C n ks.length sp gV W t tk) := by
  refine ⟨fun pins s σ H Q I h => ?_⟩
  refine wpAny_Call_Name_kw (ld_glob I hg hm ?_ hdb)
  refine PySem.W.callWith_KW (h₀ := X.base) I.ok.mod.kin M.kp hall (thn (ha.run pos pins s σ H _ I h) fun us s1 ⟨vs, H1, I1, r, q⟩ => ?_) hpl he
  refine thn (hkw.run pos pins s1 σ H1 _ I1 q) fun ws s2 ⟨zs, H2, I2, rz, l1, l2, q2⟩ => ⟨I2.kIn, ?_⟩
  rw [hks]
  exact run_makeX M F hr gu tW hb I2 r rz l1 l2 q2
/-- C(e, ..), defaults fill up -/
theorem pe_makeXP (M : Mk X.K C f) (F : FnX X.prog X.w X.K X.mg X.base k f fd ps sp) (hr : Room (k + 1) X.A) (gu : X.A.guards = some []) (tW : Takes X W) (hg : Gl X x) (hm : X.mg x = some (.ref C)) (hb : KBn X.K fd ps (n + 1) [] g gV) (ha : PA X (e :: es) t)
    (hdb : (x == ("__debug__" : Str)) = false := by decide) (he : starEach (e :: es) X.env = (false, eval e X.env) :: starEach es X.env := by rfl) (hpl : (backTo pos (starEach es X.env)).any (·.1) = false := by rfl) :
    PE X (.Call (.Name x p) (e :: es) [] pos) (tMakeS C n 0 sp gV W t tNil) := by
  refine ⟨fun pins s σ H Q I h => ?_⟩
  refine wpAny_Call_Name_kw (ld_glob I hg hm ?_ hdb)
  refine PySem.W.callWith_K (h₀ := X.base) I.ok.mod.kin M.kp (thn (ha.run pos pins s σ H _ I h) ?_) he hpl
  rintro us s1 ⟨vs, H1, I1, r, l1, l2, q⟩
  exact ⟨I1.kIn, run_makeX (ks := []) (ws := []) (zs := []) M F hr gu tW hb I1 r .nil l1 rfl q⟩
end
/-! ### raise C(e), C an own ValueError of one field -/
def spErr (C : Addr) (f : Str) : Sp := fun vs H Q _ => ∃ (a : Addr) (y : V), vs = [.ref a, y] ∧ H a = some (exo a C none) ∧ ∀ dx, H dx = none → dx ≠ a → Q .non (L2.upd (L2.upd H dx (exd dx [(f, y)])) a (exo a C (some dx)))
/-- what is known of the class -/
structure ErrC (K : PySem.W.Frag) (mg : Str → Option Value) (x : Str) (C fI : Addr) (f : Str) : Prop where
  o : OexC K C
  g : mg x = some (.ref C)
  noF : PySem.W.findIn K (.ref C) f = some none
  iC : PySem.W.findIn K (.ref C) "__init__" = some (some (.ref fI))
  tI : PySem.W.typeIn K (.ref fI) = some (.type "function")
  gaC : PySem.W.findIn K (.ref C) "__getattribute__" = some (some (.builtin "BaseException.__getattribute__"))
  ggC : PySem.W.findIn K (.ref C) "__getattr__" = some none
  hdC : PySem.W.hasDictIn K C = true
def tRaiseE (C : Addr) (f : Str) (W : WX) (ta : TA) : TS := fun _ σ H => tMkO C (spErr C f) [] ta σ H fun cls d H' => W cls d σ H'
theorem ps_raiseE {X : Cx} {W : WX} {x f : Str} {C fI : Addr} {fd : FuncData} {ps : List Str} {k : Nat} {e : Expr} {ta : TA} {p pos pos2 : Pos} (hc : X.calm = true) (T : ErrC X.K X.mg x C fI f) (F1 : FnOk X.prog X.w X.K X.mg X.base CX0 k fI fd ps (spErr C f)) (hr : Room (k + 1) X.A) (hb : Binds X.K fd ps []) (tk : Takes X W) (ha : PA X [e] ta)
    (hg : Gl X x) (hdb : (x == ("__debug__" : Str)) = false := by decide) (he : starEach (e :: []) X.env = (false, eval e X.env) :: starEach [] X.env := by rfl) (hpl : (backTo pos (starEach [] X.env)).any (·.1) = false := by rfl) :
    PS X (.Raise (some (.Call (.Name x p) [e] [] pos)) none pos2) (tRaiseE C f W ta) :=
  ps_raise hc tk (pmk_oex T.o T.iC T.tI F1 hr hb .nil (fun _ _ _ _ _ _ _ h => h.elim) hg T.g ha hdb he hpl)
end DL

namespace DL
open PySem PySem.Spec PyProof.Rows L2
abbrev wOut (E : XK) : WX := fun cls d _ H => E cls d H
/-- W takes what may be raised at these slots, from this heap on -/
def WOk (K : PySem.W.Frag) (M L : AP) (σ : L2.St) (H : Hp) (xp : XP) (W : WX) : Prop := ∀ (C dd : Addr) (f : Str) (v : V) (d : D) (H' : Hp), Kp L H H' → H dd = none → H' dd = some (.xd [(f, v)]) → Is K M H' v d → xp C f d → W (.ref C) (some dd) σ H'
def DSX (K : PySem.W.Frag) (tb : WX → TS) (es : Env') (B : DEnds) (xp : XP) : Prop := ∀ F P M L σ H, Stf K F P M L σ H es → ∀ E : Ends, EOk K F P B E → ∀ W : WX, WOk K M L σ H xp W → tb W E σ H
def DEX (K : PySem.W.Frag) (te : WX → TE) (es : Env') (Q : SV → Prop) (xp : XP) : Prop := ∀ P N M L σ H, Sts K P N M L σ H es → ∀ W : WX, WOk K M L σ H xp W → ∀ R : VK, (∀ s v H', Kp L H H' → SvOk K N M L H H' v s → Q s → R v H') → te W σ H R
section
variable {K : PySem.W.Frag} {F : Fr} {P : List Pin} {N L M : AP} {H0 H1 H H' : Hp} {σ : L2.St} {es : Env'} {ta te : TE} {tt : TT} {t u t1 : TS} {tr tk : TA} {Q : SV → Prop} {C : Addr} {f m : Str} {B : DEnds} {xp xp' : XP}
theorem XOk.mono {E : XK} (h : XOk K F E xp) (q : ∀ C f d, xp' C f d → xp C f d) : XOk K F E xp' := fun C dd f v d H' k n e i z => h C dd f v d H' k n e i (q C f d z)
theorem WOk.at {W : WX} (h : WOk K M L σ H xp W) (k : Kp L H H') : WOk K M L σ H' xp W := fun C dd f v d H2 k2 n e i z => h C dd f v d H2 (k.trans k2) (k.was n) e i z
theorem ds_ofX {E : XK} {tb : WX → TS} (h : DSX K tb es B xp) (q : ∀ F, B.xo F → XOk K F E xp) : DS K (tb (wOut E)) es B := fun F P M L σ H S E' o =>
  h F P M L σ H S E' o (wOut E) fun C dd f v d H' k n e i z => q F o.xo C dd f v d H' (S.up k) (S.was n) e (Is.sub S.m0 i) z
theorem dsx_drop {te : WX → TE} (h : DEX K te es (fun _ => B.nx es) xp) : DSX K (fun W => tDrop (te W)) es B xp := fun F P M L σ H S E o W w =>
  h P _ M L σ H S.st W w _ fun s v H' k ok q => o.nx es M L σ H' (S.kp' k) q
theorem dsx_set {te : WX → TE} {i : Nat} (h : DEX K te es (fun s => s.nown ∧ B.nx (es.set i (some s.sto))) xp) : DSX K (fun W => tAsg (te W) (gName i)) es B xp := fun F P M L σ H S E o W w =>
  h P _ M L σ H S.st W w _ fun s v H' k ok q => by
    obtain ⟨M', S'⟩ := S.store (i := i) k ok q.1
    exact o.nx _ _ _ _ _ S' q.2
theorem dsx_ret {te : WX → TE} (h : DEX K te es (fun s => s.ret ∧ B.rt s.out) xp) : DSX K (fun W => tRet (te W)) es B xp := fun F P M L σ H S E o W w =>
  h P _ M L σ H S.st W w _ fun s v H' k ok q => o.rt s.out v H' (S.up k) (ok.leave S k q.1) q.2
theorem dsx_raise (h : DE K te es fun s => ∃ d, s.dat = some d ∧ xp C f d) : DSX K (fun W => tRaiseE C f W (tCons te tNil)) es B xp := fun F P M L σ H S E o W w => by
  show tMkO C (spErr C f) [] (tCons te tNil) σ H (fun cls d H' => W cls d σ H')
  show tCons te tNil σ H _
  refine (da_cons (tr := tNil) (Q := fun ss => ∃ s d, ss = [s] ∧ s.dat = some d ∧ xp C f d) (DE.mono h fun s ⟨d, h1, h2⟩ => da_nil ⟨s, d, rfl, h1, h2⟩)) P _ M L σ H S.st _ fun ss vs H1 k1 oss q => ?_
  obtain ⟨s, d, rfl, hd, hx⟩ := q
  obtain ⟨v, rfl, hv⟩ := oss.one
  refine ⟨by show 1 ≤ 1000; decide, fun a ha => ⟨a, v, rfl, upd_same, fun dx hdx hne => ?_⟩⟩
  have hdx1 : H1 dx = none := by rw [upd_ne hne] at hdx; exact hdx
  refine ⟨rfl, dx, [(f, v)], upd_same, by rw [upd_ne hne, upd_same], hdx1, ?_⟩
  have e : L2.upd (del (L2.upd (L2.upd (L2.upd H1 a (exo a C none)) dx (exd dx [(f, v)])) a (exo a C (some dx))) a) dx (.xd [(f, v)]) = L2.upd H1 dx (.xd [(f, v)]) := by
    funext b
    by_cases hb : b = dx
    · rw [hb, upd_same, upd_same]
    · rw [upd_ne hb, upd_ne hb]
      by_cases hba : b = a
      · rw [hba, del_same, ha]
      · rw [del_ne hba, upd_ne hba, upd_ne hb, upd_ne hba]
  rw [e]
  have bs1 := k1.bs S.st.bs
  have kn := Kp.new (o := .xd [(f, v)]) bs1 hdx1
  exact w C dx f v d _ (k1.trans kn) (k1.was hdx1) upd_same (Is.kp kn bs1 (hv.data S.st.bs hd)) hx
theorem spX.len {α : Type} {n : Nat} {args : α → List SV} {pre : α → Prop} {post : α → SV → Prop} {xp : α → XP} {vs : List V} {R : VK} {E : XK} (h : spX K n args pre post xp vs H R E) : vs.length = n := by
  obtain ⟨x, M, L, _, h2, h3, _⟩ := h
  rw [h2.len, h3]
theorem bodyX {α : Type} {n : Nat} {args : α → List SV} {pre : α → Prop} {post : α → SV → Prop} {xp : α → XP} {names : List Str} {vs : List V} {R : VK} {E : XK} (h : spX K n args pre post xp vs H R E)
    (hb : ∀ x, pre x → DS K t (startE names.length (args x)) { nx := fun _ => post x (.d .non), rt := post x, xo := fun F => XOk K F E (xp x) }) : t { nx := fun _ H' => R .non H', rt := R } (L2.start names vs) H := by
  obtain ⟨x, M, L, bs, hv, hl, hp, q, hxo⟩ := h
  have hb' := hb x hp
  generalize hss : args x = ss at hv hl hb'
  have no_ : ∀ (i : Nat) (s : SV), (startE names.length ss)[i]? = some (some s) → ss[i]? = some s := fun i s e => by
    unfold startE at e
    by_cases hi : i < ss.length
    · rw [List.getElem?_append_left (by simpa using hi), List.getElem?_map] at e
      cases z : ss[i]? with
      | none => rw [z] at e; cases e
      | some y => rw [z] at e; cases e; rfl
    · rw [List.getElem?_append_right (by simpa using hi), List.getElem?_replicate] at e
      split at e <;> cases e
  have nown : ∀ (i : Nat) (xs : List D), ss[i]? ≠ some (.own xs) := fun i xs e => by
    obtain ⟨v, _, _, _, _, _, n, _⟩ := hv.get e
    exact n
  have sl : ∀ (i : Nat) (v : V), vs[i]? = some v → (L2.start names vs)[i]? = some (some v) := fun i v e => by
    have hi := (List.getElem?_eq_some_iff.mp e).1
    unfold L2.start
    rw [List.getElem?_append_left (by simpa using hi), List.getElem?_map, e]
    rfl
  have S : Stf K ⟨M, L, H⟩ [] M L (L2.start names vs) H (startE names.length ss) := by
    refine ⟨⟨bs, ?_, fun i s e => ?_, fun p hp => absurd hp (by simp), fun i j a xs ys _ e _ _ => absurd (no_ i _ e) (nown i xs)⟩, bs, Kp.refl bs, fun _ h => h, fun _ h => h, fun _ h => .inl h⟩
    · unfold L2.start startE
      rw [List.length_append, List.length_append, List.length_map, List.length_map, List.length_replicate, List.length_replicate, hv.len]
    · obtain ⟨v, h1, h2⟩ := hv.get (no_ i s e)
      exact ⟨v, sl i v h1, h2.noN⟩
  refine hb' ⟨M, L, H⟩ [] M L _ H S _ ⟨fun e M' L' σ' H' S' z => ?_, fun s v H' k ok z => q s v H' k ok z, fun _ _ _ _ _ _ z => z, fun _ _ _ _ _ _ z => z, hxo⟩
  exact q (.d .non) .non H' S'.kp Is.non z
/-- f(..) -/
theorem dex_call {α : Type} {n m N' : Nat} {args : α → List SV} {pre : α → Prop} {post : α → SV → Prop} {xq : α → XP} {t tk : TA} {ix : List Nat} {dv : List V} {dS : List SV} (hd : ∀ (N M L : AP) (H0 H : Hp), SvAll K N M L H0 H dv dS)
    (h : DA K t es fun ss => DA K tk es fun us => nownAll ss ∧ nownAll us ∧ ss.length = n ∧ us.length = m ∧ ∃ x, pick ix (ss.map SV.arg ++ dS ++ us.map SV.arg) = args x ∧ (args x).length = N' ∧ pre x ∧ (∀ r, post x r → Q r) ∧ ∀ C f d, xq x C f d → xp C f d) :
    DEX K (fun W => tCallNS n m (spX K N' args pre post xq) (fun vs zs => pick ix (vs ++ dv ++ zs)) W t tk) es Q xp := fun P N M L σ H S W w R k => by
  refine h P N M L σ H S _ fun ss vs H1 k1 o1 q1 => ?_
  refine q1 P N M L σ H1 (S.kp k1) _ fun us zs H2 k2 o2 q2 => ?_
  obtain ⟨n1, n2, l1, l2, x, e, l3, hp, q, qx⟩ := q2
  have k12 := k1.trans k2
  refine ⟨by rw [o1.len]; exact l1, by rw [o2.len]; exact l2, x, M, L, k12.bs S.bs, by rw [← e]; exact ((((o1.kp S.bs k1 k2).args S.bs k12 n1).append (hd NO M L H2 H2)).append (o2.args (k1.bs S.bs) k2 n2)).pick ix, l3, hp, fun r v H' k3 o3 q3 => ?_, fun C dd f v d H' k3 n3 e3 i3 z => ?_⟩
  · exact k r v H' (k12.trans k3) ((SvOk.noN o3).back k12) (q r q3)
  · exact w C dd f v d H' (k12.trans k3) (k12.was n3) e3 i3 (qx C f d z)
/-- what __init__ promises, or refuses -/
def spIX {α : Type} (K : PySem.W.Frag) (C : Addr) (n : Nat) (args : α → List SV) (pre : α → Prop) (post : α → List (Str × D) → Prop) (xp : α → XP) : Sp := fun vs H Q E => ∃ (y : α) (H1 : Hp) (M L : AP) (x dx : Addr) (ws : List V), vs = .ref x :: ws ∧ Bs L M H1 ∧ H1 x = none ∧ H1 dx = none ∧ dx ≠ x ∧ H = L2.upd (L2.upd H1 dx (.own x)) x (.ins C dx []) ∧
  SvAll K NO M L H1 H1 ws (args y) ∧ (args y).length = n ∧ pre y ∧ (∀ (ds : List (Str × D)) (fs : List (Str × V)) (H' : Hp), Kp L H1 H' → H' x = some (.ins C dx fs) → IsFs K M H' fs ds → post y ds → Q .non H') ∧ XOk K ⟨M, L, H1⟩ E (xp y)
theorem spIX.len {α : Type} {n : Nat} {args : α → List SV} {pre : α → Prop} {post : α → List (Str × D) → Prop} {xp : α → XP} {vs : List V} {Q : VK} {E : XK} (h : spIX K C n args pre post xp vs H Q E) : vs.length = n + 1 := by
  obtain ⟨_, _, _, _, _, _, ws, rfl, _, _, _, _, _, h2, h3, _⟩ := h
  rw [List.length_cons, h2.len, h3]
theorem dex_make {α : Type} {n l N' : Nat} {args : α → List SV} {pre : α → Prop} {post : α → List (Str × D) → Prop} {xq : α → XP} {ix : List Nat} {dv : List V} {dS : List SV} {gV : List V → List V → List V} (hd : ∀ (N M L : AP) (H0 H : Hp), SvAll K N M L H0 H dv dS) (hgV : ∀ (x : V) (vs zs : List V), gV (x :: vs) zs = x :: pick ix (vs ++ dv ++ zs))
    (h : DA K tr es fun ss => DA K tk es fun us => nownAll ss ∧ nownAll us ∧ ss.length = n ∧ us.length = l ∧ ∃ y, pick ix (ss.map SV.arg ++ dS ++ us.map SV.arg) = args y ∧ (args y).length = N' ∧ pre y ∧ (∀ ds, post y ds → Q (.d (.obj C ds))) ∧ ∀ C f d, xq y C f d → xp C f d) :
    DEX K (fun W => tMakeS C n l (spIX K C N' args pre post xq) gV W tr tk) es Q xp := fun P N M L σ H S W w R k => by
  refine h P N M L σ H S _ fun ss vs H1 k1 o1 q1 => ?_
  refine q1 P N M L σ H1 (S.kp k1) _ fun us zs H2 k2 o2 q2 => ?_
  obtain ⟨n1, n2, l1, l2, y, e, l3, hp, q, qx⟩ := q2
  have k12 := k1.trans k2
  have bs2 := k12.bs S.bs
  refine ⟨by rw [o1.len]; exact l1, by rw [o2.len]; exact l2, fun x dx nx ndx ne => ?_⟩
  have a1 := (o1.kp S.bs k1 k2).args S.bs k12 n1
  have a2 := o2.args (k1.bs S.bs) k2 n2
  refine ⟨y, H2, M, L, x, dx, _, hgV _ _ _, bs2, nx, ndx, ne, rfl, by rw [← e]; exact ((a1.append (hd NO M L H2 H2)).append a2).pick ix, l3, hp, fun ds fs H' k3 hx hfs hpost => ⟨rfl, ?_⟩, fun C dd f v d H' k3 n3 e3 i3 z => ?_⟩
  · exact k (.d (.obj C ds)) (.ref x) H' (k12.trans k3) (Is.obj hx (fresh_nm bs2 nx) hfs) (q ds hpost)
  · exact w C dd f v d H' (k12.trans k3) (k12.was n3) e3 i3 (qx C f d z)
/-- within __init__: self stands at x with the fields ds -/
def DIX (K : PySem.W.Frag) (x C dx : Addr) (t : TS) (ds : List (Str × D)) (es : Env') (post : List (Str × D) → Prop) (xo : Fr → Prop) : Prop :=
  ∀ F P M L σ H fs, Stf K F P M L σ H es → xo F → M x → ¬ L x → F.H0 x = none → H x = some (.ins C dx fs) → IsFs K M H fs ds → ∀ E : Ends,
    (∀ σ' H' fs' ds', Kp F.L F.H0 H' → H' x = some (.ins C dx fs') → IsFs K F.M0 H' fs' ds' → post ds' → E.nx σ' H') → t E σ H
variable {xo : Fr → Prop} {x dx : Addr} {ds : List (Str × D)} {post : List (Str × D) → Prop}
theorem dix_next (h : post ds) : DIX K x C dx tNext ds es post xo := fun F P M L σ H fs S xf m l n hx hf E k => k σ H fs ds S.kp hx (IsFs.chg (fun a o e q => ⟨e, fun z => q (S.m0 a z)⟩) (TK.refl K H) _ _ hf) h
/-- a test that refuses -/
theorem dix_if (h : DT K tt es fun b => if b = true then DS K t1 es { nx := fun _ => False, rt := fun _ => False, xo := xo } else DIX K x C dx u ds es post xo) : DIX K x C dx (tSeq (tIfS tt t1 tNext) u) ds es post xo := fun F P M L σ H fs S xf m l n hx hf E k => by
  refine h P _ M L σ H S.st _ fun b H1 k1 hb => ?_
  cases b with
  | true =>
    rw [if_pos rfl] at hb ⊢
    exact hb F P M L σ H1 (S.kp' k1) _ ⟨fun _ _ _ _ _ _ z => z.elim, fun _ _ _ _ _ z => z.elim, fun _ _ _ _ _ _ z => z.elim, fun _ _ _ _ _ _ z => z.elim, xf⟩
  | false =>
    rw [if_neg Bool.false_ne_true] at hb ⊢
    have hf1 : IsFs K M H1 fs ds := IsFs.chg (fun a o e q => ⟨k1.k a o (fun z => q (S.st.bs.lm a z)) e, q⟩) (sqt_keep (M := M) (fun b o q e => k1.k b o (fun z => q (S.st.bs.lm b z)) e) S.st.bs.tr) _ _ hf
    exact hb F P M L σ H1 fs (S.kp' k1) xf m l n (k1.k _ _ l hx) hf1 E k
/-- self.f = e -/
theorem dix_fld (e0 : es[0]? = some (some (.cls x))) (cl : Cls K C) (na : NoAttr K C f) (hl : ds.length < 1000) (hd : ds.lookup f = none) (h : DE K te es fun s => ∃ d, s = .d d ∧ DIX K x C dx u (ds ++ [(f, d)]) es post xo) : DIX K x C dx (tSeq (sFld K (tVar 0) te f) u) ds es post xo := fun F P M L σ H fs S xf m l n hx hf E k => by
  refine h P _ M L σ H S.st _ fun s v H1 k1 ok q => ?_
  obtain ⟨d, rfl, q⟩ := q
  have hf1 : IsFs K M H1 fs ds := IsFs.chg (fun a o e q => ⟨k1.k a o (fun z => q (S.st.bs.lm a z)) e, q⟩) (sqt_keep (M := M) (fun b o q e => k1.k b o (fun z => q (S.st.bs.lm b z)) e) S.st.bs.tr) _ _ hf
  have hx1 := k1.k _ _ l hx
  have S1 := S.kp' k1
  obtain ⟨w, hw, ew⟩ := S1.st.ok 0 _ e0
  have ew : w = .ref x := ew
  subst ew
  refine ⟨.ref x, hw, x, C, dx, fs, rfl, hx1, cl, na, by rw [hf1.len]; exact hl, ?_⟩
  rw [putF_new (hf1.lookN hd)]
  obtain ⟨S2, ki⟩ := S1.st.updX (gs := fs ++ [(f, v)]) m l hx1
  have kf : IsFs K M (L2.upd H1 x (.ins C dx (fs ++ [(f, v)]))) fs ds := IsFs.chg (fun a o e q => ⟨by rw [upd_ne (fun y => q (by rw [y]; exact m))]; exact e, q⟩) (sqt_keep (M := M) (fun b o q e => by rw [upd_ne (fun y => q (by rw [y]; exact m))]; exact e) S1.st.bs.tr) _ _ hf1
  have S3 : Stf K F P M L σ (L2.upd H1 x (.ins C dx (fs ++ [(f, v)]))) es := ⟨S2, S1.bs0, ⟨fun b o lb e => by rw [upd_ne (fun y => by rw [y, n] at e; cases e)]; exact S1.kp.k b o lb e, fun b lb => by
    obtain ⟨g, m', z⟩ := S1.kp.b b lb
    exact ⟨g, m', by rw [upd_ne (fun y => by rw [y, hx1] at z; cases z)]; exact z⟩⟩, S1.m0, S1.lo, S1.ln⟩
  exact q F P M L σ _ _ S3 xf m l n upd_same (kf.append' (ki ok)) E k
/-- an __init__'s body -/
theorem init_ofX {α : Type} {n : Nat} {args : α → List SV} {pre : α → Prop} {post : α → List (Str × D) → Prop} {xp : α → XP} {names : List Str} {vs : List V} {R : VK} {E : XK} (h : spIX K C n args pre post xp vs H R E) (hb : ∀ x dx y, pre y → DIX K x C dx t [] (some (.cls x) :: startE (names.length - 1) (args y)) (post y) (fun F => XOk K F E (xp y))) (hnm : 1 ≤ names.length) :
    t { nx := fun _ H' => R .non H', rt := R } (L2.start names vs) H := by
  obtain ⟨y, H1, M, L, x, dx, ws, rfl, bs, nx, ndx, ne, rfl, hv, hl, hp, q, hxo⟩ := h
  generalize hss : args y = ss at hv hl
  have k1 := Kp.new (o := .own x) bs ndx
  have nx2 : (L2.upd H1 dx (.own x)) x = none := by rw [upd_ne (Ne.symm ne)]; exact nx
  have k2 := Kp.new (o := .ins C dx []) (k1.bs bs) nx2
  have kp := k1.trans k2
  have no_ : ∀ (i : Nat) (s : SV), (startE (names.length - 1) ss)[i]? = some (some s) → ss[i]? = some s := fun i s e => by
    unfold startE at e
    by_cases hi : i < ss.length
    · rw [List.getElem?_append_left (by simpa using hi), List.getElem?_map] at e
      cases z : ss[i]? with
      | none => rw [z] at e; cases e
      | some y => rw [z] at e; cases e; rfl
    · rw [List.getElem?_append_right (by simpa using hi), List.getElem?_replicate] at e
      split at e <;> cases e
  have nown : ∀ (i : Nat) (xs : List D), ss[i]? ≠ some (.own xs) := fun i xs e => by
    obtain ⟨v, _, _, _, _, _, n, _⟩ := hv.get e
    exact n
  have nown2 : ∀ (i : Nat) (xs : List D), (some (SV.cls x) :: startE (names.length - 1) ss)[i]? ≠ some (some (.own xs)) := fun i xs e => by
    cases i with
    | zero => cases e
    | succ i => exact nown i xs (no_ i _ (by simpa using e))
  have sl : ∀ (i : Nat) (v : V), (V.ref x :: ws)[i]? = some v → (L2.start names (V.ref x :: ws))[i]? = some (some v) := fun i v e => by
    have hi := (List.getElem?_eq_some_iff.mp e).1
    unfold L2.start
    rw [List.getElem?_append_left (by simpa using hi), List.getElem?_map, e]
    rfl
  have bsx : Bs L (M.add x) (L2.upd (L2.upd H1 dx (.own x)) x (.ins C dx [])) := by
    have b2 := kp.bs bs
    refine ⟨fun a l => .inl (b2.lm a l), fun a o m e => ?_, fun a m => ?_, b2.bag⟩
    · rcases m with m | rfl
      · exact b2.tr a o m e
      · rw [upd_same] at e
        cases e
        exact True.intro
    · rcases m with m | rfl
      · exact b2.tk a m
      · exact ⟨_, upd_same⟩
  have S : Stf K ⟨M, L, H1⟩ [] (M.add x) L (L2.start names (V.ref x :: ws)) (L2.upd (L2.upd H1 dx (.own x)) x (.ins C dx [])) (some (.cls x) :: startE (names.length - 1) ss) := by
    refine ⟨⟨bsx, ?_, fun i s e => ?_, fun p hp => absurd hp (by simp), fun i j a xs ys _ e _ _ => absurd e (nown2 i xs)⟩, bs, kp, fun _ h => .inl h, fun _ h => h, fun _ h => .inl h⟩
    · unfold L2.start startE
      rw [List.length_append, List.length_map, List.length_replicate, List.length_cons, List.length_cons, List.length_append, List.length_map, List.length_replicate, hv.len]
      omega
    · cases i with
      | zero =>
        cases e
        exact ⟨.ref x, sl 0 _ rfl, rfl⟩
      | succ i =>
        obtain ⟨v, h1, h2⟩ := hv.get (no_ i s (by simpa using e))
        exact ⟨v, sl (i + 1) v (by simpa using h1), (h2.noN).lift bs kp nx⟩
  have hb' := hb x dx y hp
  rw [hss] at hb'
  refine hb' ⟨M, L, H1⟩ [] (M.add x) L _ _ [] S hxo (.inr rfl) (fun l => fresh_nm bs nx (bs.lm x l)) nx upd_same .nil _ fun σ' H' fs' ds' k hx hf hpost => q ds' fs' H' k hx hf hpost
end
end DL

namespace DL
open PySem PySem.Spec PyProof.Rows L2
/-! ### except C as e: others = isinstance(e, (..)); return 'else' if others or not isinstance(e, ValueError) else e.f -/
def rIsX1 (K : PySem.W.Frag) (a : Addr) (cls : Value) (d : Option Addr) : List V → Hp → VK → Prop := fun xs H Q => ∃ (D dd : Addr) (fs : List (Str × V)) (c : V) (u : Value) (b : Bool), cls = .ref D ∧ d = some dd ∧ H dd = some (.xd fs) ∧ ExcC K D ∧ xs = [.ref a, c] ∧ ClsV c u ∧ PySem.W.kitOne K (.ref D) u = some b ∧ Q (.bl b) H
def rIsXT (K : PySem.W.Frag) (a : Addr) (cls : Value) (d : Option Addr) : List V → Hp → VK → Prop := fun xs H Q => ∃ (D dd tp : Addr) (fs : List (Str × V)) (cs : List V) (us : List Value) (b : Bool), cls = .ref D ∧ d = some dd ∧ H dd = some (.xd fs) ∧ ExcC K D ∧ xs = [.ref a, .ref tp] ∧ H tp = some (.tup cs) ∧ PySem.Paired ClsV cs us ∧ PySem.W.kitAny K (.ref D) us = some b ∧ Q (.bl b) H
section
variable {X : Cx} {a : Addr} {oe : Obj} {cls : Value} {d : Option Addr} {pn : List (Addr × Obj)}
theorem inst_of {pins : List (Addr × Obj)} {σ : L2.St} {H : Hp} {s : Shared} {D dd : Addr} {fs : List (Str × V)} (I : Inv (X.suite a ((a, oe) :: pn)) pins σ H s) (hz : Zc cls d oe) (hf : ∃ vs, oe.data = .fields vs) (ec : cls = .ref D) (ed : d = some dd) (ea : H dd = some (.xd fs)) : ∃ od, PySem.W.InstAt s.heap a oe D (some od) := by
  subst ec
  subst ed
  obtain ⟨ha, _⟩ := I.pin (a, oe) (List.mem_append_left _ List.mem_cons_self)
  obtain ⟨vs, hd⟩ := hf
  have hx : ObjOk X.prog X.w H s.heap dd (.xd fs) := I.hok dd _ ea
  obtain ⟨mA, hns, hr⟩ := hx
  obtain ⟨od, ho, hl⟩ := lookIn_ns hns
  exact ⟨od, ha, hz.1, by unfold PySem.W.notCls; rw [hd] <;> rfl, by rw [hz.2]; exact ho⟩
theorem kitE {K : PySem.W.Frag} {x D : Addr} {ox : Obj} {od : Option Obj} (C : ExcC K D) : PySem.W.KitX K (.ref x) (.ref D) (fun h => PySem.W.InstAt h x ox D od) :=
  PySem.W.kitx_exc (by obtain ⟨cd, hc, _⟩ := PySem.W.any_some C.hd; rw [hc]; rfl) C.hg C.hk C.hs C.ha C.hn C.ht C.hm
theorem call_isX1 (hz : Zc cls d oe) (hf : ∃ vs, oe.data = .fields vs) : CallR (X.suite a ((a, oe) :: pn)) (.builtin "isinstance") (rIsX1 X.K a cls d) := by
  intro pins s σ H xs us Q I r h
  obtain ⟨D, dd, fs, c, u, b, ec, ed, ea, C, rfl, k, e, q⟩ := h
  obtain ⟨u1, u2, rfl, r1, r2⟩ := vals2 r
  cases (show u1 = Value.ref a from r1)
  have e2 := k.eq r2
  subst e2
  obtain ⟨od, J⟩ := inst_of I hz hf ec ed ea
  exact PySem.W.kia_one (kitE C) I.kIn J e (fun z => nomatch z) fun tk => ⟨.bl b, H, I.kept (t' := tk) fun _ _ z => z, rfl, q⟩
theorem call_isXT (hz : Zc cls d oe) (hf : ∃ vs, oe.data = .fields vs) : CallR (X.suite a ((a, oe) :: pn)) (.builtin "isinstance") (rIsXT X.K a cls d) := by
  intro pins s σ H xs us Q I r h
  obtain ⟨D, dd, tp, fs, cs, ws, b, ec, ed, ea, C, rfl, hT, k, e, q⟩ := h
  obtain ⟨u1, u2, rfl, r1, r2⟩ := vals2 r
  cases (show u1 = Value.ref a from r1)
  cases (show u2 = Value.ref tp from r2)
  obtain ⟨od, J⟩ := inst_of I hz hf ec ed ea
  obtain ⟨_, its, rv, o, h1, h2, n, h3⟩ := (show ObjOk X.prog X.w H s.heap tp (.tup cs) from I.hok tp _ hT)
  have e3 := ClsV.all k rv
  subst e3
  obtain ⟨oc, od2, dt, sl⟩ := o
  simp only at h2 h3
  subst h2 h3
  exact PySem.W.kia_tup (kitE C) I.kIn J h1 e (fun z => nomatch z) fun tk => ⟨.bl b, H, I.kept (t' := tk) fun _ _ z => z, rfl, q⟩
end
def tConsL : List V → TA
  | [] => tNil
  | v :: vs => tCons (tC v) (tConsL vs)
theorem tConsL_ok {σ : L2.St} {H : Hp} : ∀ {vs : List V} {Q : List V → Hp → Prop}, Q vs H → tConsL vs σ H Q
  | [], Q, h => h
  | v :: vs, Q, h => tConsL_ok (vs := vs) (Q := fun ws H' => Q (v :: ws) H') h
def tSuite (K : PySem.W.Frag) (i j : Nat) (Cs : List V) (C : Addr) (f : Str) : Addr → Value → Option Addr → TS := fun a cls d =>
  tSeq (tAsg (tCB (rIsXT K a cls d) (tCons (tVar i) (tCons (tTup (tConsL Cs)) tNil))) (gName j)) (tRet (tIf (tOr (tB (tVar j)) (tNot (tB (tCB (rIsX1 K a cls d) (tCons (tVar i) (tCons (tC (.ty "ValueError")) tNil)))))) (tC (.str "else")) (tXf a cls d C f (tVar i))))
/-- what must hold of the class at C, that the others aren't it -/
structure SuiteF (K : PySem.W.Frag) (Cs : List V) (C : Addr) : Prop where
  ex : ExcC K C
  all : ∃ us, PySem.Paired ClsV Cs us ∧ PySem.W.kitAny K (.ref C) us = some false
  ve : PySem.W.kitOne K (.ref C) (.type "ValueError") = some true
  me : PySem.W.exmOne K (.ref C) (.ref C) = some true
def tTryE (K : PySem.W.Frag) (i j : Nat) (Cs : List V) (C : Addr) (f : Str) (tb : WX → TS) : TS := fun D σ H => tb (wAs K (.ref C) i (tSuite K i j Cs C f) (fun _ _ _ _ => False) D) D σ H
theorem ds_tryE {K : PySem.W.Frag} {es : Env'} {B : DEnds} {xp : XP} {i j : Nat} {Cs : List V} {C : Addr} {f : Str} {tb : WX → TS} (sf : SuiteF K Cs C) (hi : i < es.length) (hj : j < es.length) (hij : i ≠ j) (hl : Cs.length ≤ 100)
    (hb : DSX K tb es B xp) (hx : ∀ C' f' d, xp C' f' d → C' = C ∧ f' = f ∧ B.rt (.d d)) : DS K (tTryE K i j Cs C f tb) es B := fun F P M L σ H S E o => by
  refine hb F P M L σ H S E o _ fun C' dd f' v d H' k n e iv z => ?_
  obtain ⟨rfl, rfl, q⟩ := hx C' f' d z
  refine ⟨true, sf.me, fun _ a ha => ?_, fun z => by cases z⟩
  have li : i < σ.length := by rw [S.st.len]; exact hi
  have lj : j < (σ.set i (some (.ref a))).length := by rw [List.length_set, S.st.len]; exact hj
  have gi : (σ.set i (some (V.ref a)))[i]? = some (some (.ref a)) := List.getElem?_set_self li
  obtain ⟨us, pu, ku⟩ := sf.all
  refine ⟨.ref a, gi, ?_⟩
  show tCons (tTup (tConsL Cs)) tNil _ _ _
  refine tConsL_ok ?_
  refine ⟨by rw [sizeLine_eq]; omega, fun p hp => ?_⟩
  have hpd : dd ≠ p := ne_of_none e hp
  refine ⟨C', dd, p, [(f', v)], Cs, us, false, rfl, rfl, by rw [upd_ne hpd]; exact e, sf.ex, rfl, upd_same, pu, ku, ?_⟩
  have g2 : ((σ.set i (some (V.ref a))).set j (some (.bl false)))[j]? = some (some (.bl false)) := List.getElem?_set_self lj
  have g3 : ((σ.set i (some (V.ref a))).set j (some (.bl false)))[i]? = some (some (.ref a)) := by rw [List.getElem?_set_ne (Ne.symm hij)]; exact gi
  refine ⟨_, g2, false, rfl, ?_⟩
  show (if false = true then _ else _)
  rw [if_neg Bool.false_ne_true]
  refine ⟨_, g3, C', dd, [(f', v)], .ty "ValueError", .type "ValueError", true, rfl, rfl, by rw [upd_ne hpd]; exact e, sf.ex, rfl, .ty _, sf.ve, true, rfl, ?_⟩
  show (if (!true) = true then _ else _)
  rw [if_neg (by decide)]
  refine ⟨_, g3, rfl, rfl, dd, [(f', v)], v, rfl, by rw [upd_ne hpd]; exact e, by simp [List.lookup], ?_⟩
  have bs1 := k.bs S.st.bs
  have kn := Kp.new (o := .tup Cs) bs1 hp
  exact o.rt (.d d) v _ (S.up (k.trans kn)) (Is.sub S.m0 (Is.kp kn bs1 iv)) q
end DL
namespace DL
open PySem PySem.Spec PyProof.Rows L2
abbrev W0 : WX := fun _ _ _ _ => False
theorem err_pure {K : PySem.W.Frag} {C : Addr} {f : Str} (o : OexC K C) (no : PySem.W.findIn K (.ref C) f = some none) {names : List Str} (hn : names.length = 2) {vs : List V} {H : Hp} {Q : VK} {E : XK} (h : spErr C f vs H Q E) : tOst K f (tVar 0) (tVar 1) { nx := fun _ H' => Q .non H', rt := Q } (L2.start names vs) H := by
  obtain ⟨a, y, rfl, ha, q⟩ := h
  have e : L2.start names [V.ref a, y] = [some (.ref a), some y] := by
    unfold L2.start
    rw [hn]
    rfl
  rw [e]
  exact ⟨y, rfl, .ref a, rfl, a, C, rfl, o, no, .inl ⟨ha, fun dx n ne => q dx n ne⟩⟩
theorem spErr.len {C : Addr} {f : Str} {vs : List V} {H : Hp} {Q : VK} {E : XK} (h : spErr C f vs H Q E) : vs.length = 2 := by
  obtain ⟨a, y, rfl, _⟩ := h
  rfl
section
variable {K : PySem.W.Frag} {C D : Addr}
theorem kit_ref (h1 : PySem.W.isClsIn K D = true) (h2 : PySem.W.typeIn K (.ref D) = some (.type "type")) (h0 : PySem.W.subIn K (.ref C) (.ref C) = some true) (h3 : PySem.W.subIn K (.ref C) (.ref D) = some false) : PySem.W.kitOne K (.ref C) (.ref D) = some false := by
  have ne : C ≠ D := fun e => by rw [← e, h0] at h3; cases h3
  have h1' : (PySem.W.clsIn K D).isSome = true := h1
  unfold PySem.W.kitOne
  rw [if_neg (by simpa using ne)]
  unfold PySem.W.kitCls
  show (if ((PySem.W.clsIn K D).isSome && PySem.W.typeIn K (.ref D) == some (.type "type")) = true then PySem.W.subIn K (.ref C) (.ref D) else none) = some false
  rw [h1', h2, if_pos (by simp)]
  exact h3
theorem kit_ve (h : PySem.W.subIn K (.ref C) (.type "ValueError") = some true) : PySem.W.kitOne K (.ref C) (.type "ValueError") = some true := by
  unfold PySem.W.kitOne
  rw [if_neg (by simp)]
  show (if PySem.W.kitMeta "ValueError" = true then PySem.W.subIn K (.ref C) (.type "ValueError") else none) = some true
  rw [if_pos (by decide +kernel)]
  exact h
theorem kitAny_f {t c : Value} {cs : List Value} (h : PySem.W.kitOne K t c = some false) (hr : PySem.W.kitAny K t cs = some false) : PySem.W.kitAny K t (c :: cs) = some false := by
  show (match PySem.W.kitOne K t c with | some true => some true | some false => PySem.W.kitAny K t cs | none => none) = some false
  rw [h]
  exact hr
theorem exm_self (h1 : PySem.W.subIn K (.ref C) (.type "BaseException") = some true) (h2 : PySem.W.isClsIn K C = true) (h3 : PySem.W.typeIn K (.ref C) = some (.type "type")) (h4 : PySem.W.subIn K (.ref C) (.ref C) = some true) :
    PySem.W.exmOne K (.ref C) (.ref C) = some true := by
  have e1 : (PySem.W.subIn K (.ref C) (.type "BaseException") == some true) = true := by rw [h1] <;> rfl
  have e2 : ((PySem.W.clsIn K C).isSome && PySem.W.typeIn K (.ref C) == some (.type "type")) = true := by
    have h2' : (PySem.W.clsIn K C).isSome = true := h2
    rw [h2', h3] <;> rfl
  show (if (PySem.W.subIn K (.ref C) (.type "BaseException") == some true) = true then (if ((PySem.W.clsIn K C).isSome && PySem.W.typeIn K (.ref C) == some (.type "type")) = true then PySem.W.subIn K (.ref C) (.ref C) else none) else none) = some true
  rw [if_pos e1, if_pos e2]
  exact h4
end
section
variable {K : PySem.W.Frag} {es : Env'} {Q : SV → Prop}
/-- a call that refuses nothing here -/
theorem de_ofX {te : WX → TE} (h : DEX K te es Q fun _ _ _ => False) : DE K (te W0) es Q := fun P N M L σ H S R k => h P N M L σ H S W0 (fun _ _ _ _ _ _ _ _ _ _ z => z.elim) R k
end
end DL

namespace DL
open PySem PySem.Spec PyProof.Rows L2
/-! ### zip -/
theorem lc_zip {K : PySem.W.Frag} {a b : Addr} {xs ys : List V} {g : TG} {tt : TT} {te : TE} {vs : List Nat} {σ : L2.St} {H1 : Hp} {D : Addr} {Qd : Hp → Prop} (hl : xs.length = ys.length) (Pv : Nat → Hp → Prop) (h0 : Pv 0 (upd H1 D (.lst []))) (hq : ∀ i H, Pv i H → SqL K H a xs ∧ SqL K H b ys)
    (hs : ∀ (i : Nat) (x y : V) (T : Addr) (H : Hp), xs[i]? = some x → ys[i]? = some y → Pv i H → H T = none → g (.ref T) (wipe σ vs) (upd H T (.tup [x, y])) fun σ2 H2 => wipe σ2 vs = wipe σ vs ∧ tt σ2 H2 fun b H3 =>
      if b = true then te σ2 H3 fun y H4 => ∃ acc, H4 D = some (.lst acc) ∧ acc.length < sizeLine ∧ Pv (i + 1) (upd H4 D (.lst (acc ++ [y]))) else Pv (i + 1) H3) (hd : ∀ H, Pv xs.length H → Qd H) :
    ∃ W : Nat → Nat → Hp → Prop, (∃ m, W 0 m (upd H1 D (.lst []))) ∧ ∀ i m H, W i m H →
      ((Itz K a b).stop i H ∧ Qd H) ∨ ((Itz K a b).go i H ∧ ∃ Nx : Hp → Prop, (∀ H', Nx H' → ∃ m', m' < m ∧ W (i + 1) m' H') ∧ ∀ x H', (Itz K a b).yld i H x H' → g x (wipe σ vs) H' fun σ2 H2 => wipe σ2 vs = wipe σ vs ∧ tt σ2 H2 fun b H3 =>
        if b = true then te σ2 H3 fun y H4 => ∃ acc, H4 D = some (.lst acc) ∧ acc.length < sizeLine ∧ Nx (upd H4 D (.lst (acc ++ [y]))) else Nx H3) := by
  refine ⟨fun i m H => m = xs.length - i ∧ i ≤ xs.length ∧ Pv i H, ⟨xs.length, rfl, Nat.zero_le _, h0⟩, ?_⟩
  rintro i m H ⟨rfl, hi, p⟩
  obtain ⟨qx, qy⟩ := hq i H p
  by_cases hlt : i < xs.length
  · have hx : xs[i]? = some xs[i] := List.getElem?_eq_getElem hlt
    have hlt2 : i < ys.length := by omega
    have hy : ys[i]? = some ys[i] := List.getElem?_eq_getElem hlt2
    refine .inr ⟨⟨xs, ys, _, _, qx, qy, hx, hy⟩, Pv (i + 1), fun H' p' => ⟨xs.length - (i + 1), by omega, rfl, hlt, p'⟩, fun v H' y => ?_⟩
    obtain ⟨T, x', y', rfl, hT, rfl, f1, f2⟩ := y
    exact hs i x' y' T H (f1 xs qx) (f2 ys qy) p hT
  · have e : i = xs.length := by omega
    subst e
    exact .inl ⟨⟨xs, ys, qx, qy, Or.inl (Nat.le_refl _)⟩, hd H p⟩
section
variable {K : PySem.W.Frag} {P : List Pin} {N L M : AP} {H0 H1 H H' : Hp} {σ : L2.St} {es : Env'} {ta tb tc te : TE} {tt tu : TT} {Q : SV → Prop} {t u : TS} {B : DEnds}
theorem LcP.kp' {D0 : Addr} {J : Nat → List D → Prop} {i : Nat} (h : LcP K P N M L σ es H1 D0 J i H) (nl : ¬ L D0) (k : Kp L H H') : LcP K P N M L σ es H1 D0 J i H' := by
  obtain ⟨ws, ds, hw, iw, hj, hl⟩ := h.acc
  exact ⟨h.st.kp k, h.kp.trans k, ws, ds, k.k _ _ nl hw, IsAll.kp k h.st.bs iw, hj, hl⟩
/-- a list that is data: where it stands -/
theorem SvOk.lstD (bs0 : Bs L M H0) {v : V} {s : SV} {xs : List D} (h : SvOk K N M L H0 H v s) (e : s.dat = some (.lst xs)) : ∃ a vs, v = .ref a ∧ H a = some (.lst vs) ∧ ¬ M a ∧ IsAll K M H vs xs := by
  have hx := h.data bs0 e
  cases hx with
  | lst h1 h2 h3 => exact ⟨_, _, rfl, h1, h2, h3⟩
theorem de_lcZ {g : TG} {vs : List Nat} {tr : TA} (h : DA K tr es fun ss => ∃ s1 s2 xs ys, ss = [s1, s2] ∧ s1.dat = some (.lst xs) ∧ s2.dat = some (.lst ys) ∧ xs.length = ys.length ∧ xs.length ≤ 100000 ∧ ∃ J : Nat → List D → Prop, J 0 [] ∧
    (∀ (i : Nat) x y, xs[i]? = some x → ys[i]? = some y → LcT K g tt te vs es J i (.tup [x, y])) ∧ ∀ ds, J xs.length ds → ds.length ≤ xs.length → Q (.new ds)) : DE K (tLc (iZip K tr) g tt te vs) es Q := fun P N M L σ H S R k => by
  refine h P N M L σ H S _ fun ss us H1 k1 o1 q1 => ?_
  obtain ⟨s1, s2, xs, ys, rfl, e1, e2, hl, b, J, h0, hs, hd⟩ := q1
  obtain ⟨v, w, rfl, hv, hw⟩ := o1.two
  obtain ⟨a, ws, rfl, g1, m1, i1⟩ := hv.lstD S.bs e1
  obtain ⟨c, zs, rfl, g2, m2, i2⟩ := hw.lstD S.bs e2
  refine ⟨a, c, ws, zs, rfl, .inl (.inl g1), .inl (.inl g2), fun D0 hD => ?_⟩
  obtain ⟨p0, old, nl⟩ := lc_start (S.kp k1) hD h0
  have bs1 := (S.kp k1).bs
  have na : ¬ L a := fun l => m1 (bs1.lm _ l)
  have nc : ¬ L c := fun l => m2 (bs1.lm _ l)
  have hll : ws.length = zs.length := by rw [i1.len, i2.len, hl]
  refine lc_zip (K := K) (a := a) (b := c) (xs := ws) (ys := zs) hll (LcP K P N M L σ es H1 D0 J) p0 (fun i H p => ⟨.inl (.inl (p.kp.k a _ na g1)), .inl (.inl (p.kp.k c _ nc g2))⟩) (fun i x y T H hx hy p hT => ?_) fun H p => ?_
  · obtain ⟨dx, hdx, ix⟩ := i1.getV hx
    obtain ⟨dy, hdy, iy⟩ := i2.getV hy
    have bsD := p.st.bs
    have kn := Kp.new (o := .tup [x, y]) bsD hT
    have tr : ∀ {v : V} {d : D}, Is K M H1 v d → Is K (M.add D0) (upd H T (.tup [x, y])) v d := fun {v d} i => by
      have k2 : Kp L H1 (upd H T (.tup [x, y])) := p.kp.trans kn
      exact Is.chg (fun b o e m => ⟨k2.k b o (fun l => m (.inl (bs1.lm b l))) e, m⟩) (sqt_keep (M := M) (fun b o m e => k2.k b o (fun l => m (bs1.lm b l)) e) bs1.tr) _ _ (i.add hD)
    have hi : i < 100000 := by
      have := (List.getElem?_eq_some_iff.mp hdx).1
      omega
    exact lc_turn old nl hD hi (p.kp' nl kn) (Is.tup upd_same (.cons (tr ix) (.cons (tr iy) .nil))) (hs i dx dy hdx hdy)
  · rw [i1.len] at p
    obtain ⟨kk, ds, ok, q⟩ := lc_end k1 hD p hd
    exact k _ _ _ kk ok q
/-- for a, b in zip(two tuples) -/
theorem ds_forZT {g : TG} {tr : TA} (h : DA K tr es fun ss => ∃ xs ys, ss = [.d (.tup xs), .d (.tup ys)] ∧ xs.length = ys.length ∧ ∃ I : Nat → Env' → Prop, I 0 es ∧
    (∀ (i : Nat) x y es', xs[i]? = some x → ys[i]? = some y → I i es' → ∃ js, DG K g (.tup [x, y]) js es' fun e2 => DS K t e2 ⟨I (i + 1), B.rt, B.nx, I (i + 1), B.xo⟩) ∧ ∀ es', I xs.length es' → B.nx es') : DS K (tFor (RZ.iZipA K tr) g t) es B := fun F P M L σ H S E o => by
  refine h P _ M L σ H S.st _ fun ss us H1 k1 o1 q1 => ?_
  obtain ⟨xs, ys, rfl, hl, I, h0, hs, hd⟩ := q1
  obtain ⟨v, w, rfl, hv, hw⟩ := o1.two
  have hv : Is K M H1 v (.tup xs) := hv
  have hw : Is K M H1 w (.tup ys) := hw
  obtain ⟨a, ws, rfl, g1, i1⟩ := Is.tupS hv
  obtain ⟨c, zs, rfl, g2, i2⟩ := Is.tupS hw
  have hll : ws.length = zs.length := by rw [i1.len, i2.len, hl]
  refine ⟨a, c, ws, zs, rfl, .inr ⟨g1, g2, RZ.for_zipT (K := K) (a := a) (b := c) (xs := ws) (ys := zs) hll (fun i σ H => ∃ es' M' L', Stf K F (⟨a, ws, xs, true⟩ :: ⟨c, zs, ys, true⟩ :: P) M' L' σ H es' ∧ I i es') ⟨es, M, L, ((S.kp' k1).pin (p := ⟨c, zs, ys, true⟩) ⟨g2, i2⟩).pin ⟨g1, i1⟩, h0⟩ ?_ ?_ ?_⟩⟩
  · rintro i σ' H' ⟨es', M', L', S', hI⟩
    exact ⟨(S'.st.pin _ List.mem_cons_self).1, (S'.st.pin _ (List.mem_cons_of_mem _ List.mem_cons_self)).1⟩
  · rintro i x y T σ' H' hx hy ⟨es', M', L', S', hI⟩ hT
    obtain ⟨dx, hdx, ix⟩ := (S'.st.pin _ List.mem_cons_self).2.getV hx
    obtain ⟨dy, hdy, iy⟩ := (S'.st.pin _ (List.mem_cons_of_mem _ List.mem_cons_self)).2.getV hy
    have kn := Kp.new (o := .tup [x, y]) S'.st.bs hT
    obtain ⟨js, dg⟩ := hs i dx dy es' hdx hdy hI
    refine dg.stf (S'.kp' kn) (Is.tup upd_same (.cons (Is.kp kn S'.st.bs ix) (.cons (Is.kp kn S'.st.bs iy) .nil))) _ fun e2 σ2 S2 q => ?_
    refine q F _ M' L' σ2 _ S2 _ ?_
    exact o.pinned.pinned.turn (fun σ H => ∃ es' M' L', Stf K F (⟨a, ws, xs, true⟩ :: ⟨c, zs, ys, true⟩ :: P) M' L' σ H es' ∧ I (i + 1) es') fun e3 M3 L3 σ3 H3 S3 z => ⟨e3, M3, L3, S3, z⟩
  · rintro σ' H' ⟨es', M', L', S', hI⟩
    rw [i1.len] at hI
    exact o.nx _ _ _ _ _ S'.unpin.unpin (hd es' hI)
end
end DL

namespace DL
open PySem PySem.W PySem.Spec PyProof.Rows L2
/-! ### a dict of the module with texts as keys: d.get(k, x) -/
theorem kd_find {prog : Program} {w : World} {A : Around} {E : Value → Shared → Prop} {s : Shared} {a : Addr} {o : Obj} {es : Array DictEntry} {ep : Nat} {k : Str} {tk : Tok} {Q : Option Value → Shared → Prop}
    (ho : s.heap.get? a = some o) (hd : o.data = .dict es ep) (hall : (es.all fun e => isExactStrKey e.key) = true) (h : Q ((es.toList.find? fun e => e.key.isStr k).map (·.val)) { heap := s.heap, gens := s.gens, drawn := s.drawn, toks := s.toks + 1, os := s.os }) :
    wpAny (model prog w) A (dictGet a (.str k tk)) Q E s := by
  unfold dictGet
  refine wpAny_holding (wpAny_bind (wpAny_pyHash_str (wpAny_bind (KTD.kt_dictFind_strs ho hd hall ?_))))
  have hf : findBy (fun k v => v.isStr k) es k = (es.toList.find? fun e => e.key.isStr k).map (·.val) := by
    cases es
    simp [findBy]
  rw [← hf, findBy_of_findIdx?] at h
  cases hi : es.findIdx? fun e => e.key.isStr k with
  | none =>
    rw [hi] at h
    exact wpAny_pure h
  | some i =>
    rw [hi] at h
    exact wpAny_bind (wpAny_dictEntries ho hd (wpAny_pure h))
theorem kd_meets {prog : Program} {w : World} {a : Addr} {k : Str} {tk : Tok} {dflt : Value} :
    MeetsIn prog w (Builtin.«dict.get» { pos := [.ref a, .str k tk, dflt] }) fun _ R s => (a == sysModules) = false ∧ ∃ o es ep, s.heap.get? a = some o ∧ o.data = .dict es ep ∧ (es.all fun e => isExactStrKey e.key) = true ∧
      R (.ok (.ret (((es.toList.find? fun e => e.key.isStr k).map (·.val)).getD dflt))) { heap := s.heap, gens := s.gens, drawn := s.drawn, toks := s.toks + 1, os := s.os } :=
  MeetsIn.of_wp fun A R s x => by
    obtain ⟨hs, o, es, ep, ho, hd, hall, h⟩ := x
    refine wpAny_bind (show wpAny _ _ (pure (a, Value.str k tk, some dflt)) _ _ s from wpAny_pure ?_)
    refine wpAny_bind (kd_find ho hd hall ?_)
    cases hv : (es.toList.find? fun e => e.key.isStr k).map (·.val) with
    | none =>
      rw [hv] at h
      exact wpAny_bind (wpAny_missed_other hs (wpAny_pure ⟨dflt, rfl, h⟩))
    | some v =>
      rw [hv] at h
      exact wpAny_pure ⟨v, rfl, h⟩
/-- texts and what stands at them, as a dict of the module holds them -/
def lookT (k : Str) : List (Str × V) → Option V
  | [] => none
  | (x, v) :: kvs => if x = k then some v else lookT k kvs
structure KDict (K : PySem.W.Frag) (a : Addr) (kvs : List (Str × V)) : Prop where
  ns : (a == sysModules) = false
  ob : ∃ o es ep, K.lookup a = some o ∧ o.cls = .type "dict" ∧ o.dict = none ∧ o.data = .dict es ep ∧ KTD.Rows (fun (v : V) (u : Value) => L2.RelV v u) es.toList kvs
theorem rows_find {l : List DictEntry} {kvs : List (Str × V)} (h : KTD.Rows (fun (v : V) (u : Value) => L2.RelV v u) l kvs) (k : Str) :
    (lookT k kvs = none ∧ (l.find? fun e => e.key.isStr k).map (·.val) = none) ∨ ∃ v u, lookT k kvs = some v ∧ (l.find? fun e => e.key.isStr k).map (·.val) = some u ∧ L2.RelV v u := by
  induction h with
  | nil => exact .inl ⟨rfl, rfl⟩
  | @cons e x t d es D hk hr _ ih =>
    have hs : e.key.isStr k = decide (x = k) := by
      rw [hk]
      first | rfl | simp [Value.isStr] | exact decide_eq_decide.mpr Iff.rfl
    by_cases hx : x = k
    · refine .inr ⟨d, e.val, ?_, ?_, hr⟩
      · show (if x = k then some d else lookT k D) = some d
        rw [if_pos hx]
      · rw [List.find?_cons_of_pos (by rw [hs]; exact decide_eq_true hx)]
        rfl
    · rw [List.find?_cons_of_neg (by rw [hs]; simp [hx])]
      have e1 : lookT k ((x, d) :: D) = lookT k D := by
        show (if x = k then some d else lookT k D) = lookT k D
        rw [if_neg hx]
      rw [e1]
      exact ih
def tKGet (kvs : List (Str × V)) (ty tx : TE) : TE := fun σ H Q => ty σ H fun y H1 => ∃ k, y = .str k ∧ tx σ H1 fun z H2 => Q ((lookT k kvs).getD z) H2
theorem pe_kget {X : Cx} {x : Str} {a : Addr} {kvs : List (Str × V)} {e f : Expr} {p apos cpos : Pos} {ty tx : TE} (D : KDict X.K a kvs) (hg : Gl X x) (hm : X.mg x = some (.ref a)) (he : PE X e ty) (hf : PE X f tx) (m : M2 X (.Name x p) "get" apos e f cpos)
    (hdb : (x == ("__debug__" : Str)) = false := by decide) :
    PE X (.Call (.Attribute (.Name x p) "get" apos) [e, f] [] cpos) (tKGet kvs ty tx) where
  run pins s σ H Q I h := by
    obtain ⟨ns, o, es, ep, ho, hc, hdd, hd, hr⟩ := D
    have hall : (es.all fun e => isExactStrKey e.key) = true := by
      have := KTD.Rows.exact hr
      cases es
      simpa using this
    refine wpAny_Call_method m.base m.few m.line F.plainAttrs_dict F.slot_dict_get F.type_dict_get ?_
    refine thn ((pe_glob (pos := p) hg hm (show L2.RelV (.ref a) (.ref a) from rfl) hdb).run pins s σ H (fun x H1 => x = .ref a ∧ ty σ H1 fun y H2 => ∃ k, y = .str k ∧ tx σ H2 fun z H3 => Q ((lookT k kvs).getD z) H3) I ⟨rfl, h⟩) ?_
    rintro u s1 ⟨_, H1, I1, rx, rfl, q1⟩
    cases rx
    obtain ⟨o1, p1, c1, d1, _⟩ := inv_k I1 ho
    refine ⟨⟨o1, p1, c1.trans hc⟩, fun b e => by cases e; exact ⟨o1, p1, d1.trans hdd⟩, ?_⟩
    rw [m.trees]
    refine Calls.callWith_builtin rfl (Calls.evalArgs_plain (Calls.spliced_cons (thn (he.run pins s1 σ H1 _ I1 q1) ?_)))
    rintro iv s2 ⟨y, H2, I2, ry, k, rfl, q2⟩
    obtain ⟨tk, rfl⟩ := ry
    refine Calls.spliced_cons (thn (hf.run pins s2 σ H2 _ I2 q2) ?_)
    rintro fv s3 ⟨z, H3, I3, rz, q3⟩
    refine Calls.spliced_nil ?_
    obtain ⟨o3, p3, c3, _, d3⟩ := inv_k I3 ho
    refine call_meetsIn F.slot_dict_get ⟨o3, p3, c3.trans hc⟩ F.entry_dict_get (F.args_dict_get_3 _ _ _) kd_meets ⟨ns, o3, es, ep, p3, d3.trans hd, hall, ?_⟩
    rcases rows_find hr k with ⟨e1, e2⟩ | ⟨v, u, e1, e2, r⟩
    · rw [e2]
      rw [e1] at q3
      exact ⟨z, H3, I3.tok _, rz, q3⟩
    · rw [e2]
      rw [e1] at q3
      exact ⟨v, H3, I3.tok _, r, q3⟩
end DL

namespace DL
open PySem PySem.W PySem.Spec PyProof.Rows L2
/-- enumerate(t, start = c) over a tuple -/
def ItsT (K : PySem.W.Frag) (a : Addr) (c : Int) : It where
  go i H := ∃ xs x, SqT K H a xs ∧ xs[i]? = some x
  yld i H v H' := ∃ T x, v = .ref T ∧ H T = none ∧ H' = upd H T (.tup [.int (c + i), x]) ∧ ∀ xs : List V, SqT K H a xs → xs[i]? = some x
  stop i H := ∃ xs, SqT K H a xs ∧ xs.length = i
theorem turn_enumS {P : Program} {w : World} {K : PySem.W.Frag} {elts : List Expr} {kk : Nat} {tpos : Pos} {a e it : Addr} (c : Int) :
    Turn P w K (.Tuple elts kk tpos) (ItsT K a c) [e, it] e fun i h => (∃ old, IsEnum h e it (c + i) old) ∧ h.IsTupleIter it a i ∧ e ≠ it where
  mem := by simp
  obj i h st b hb := by
    obtain ⟨⟨old, he⟩, ⟨o, ho, hc, hd⟩, hne⟩ := st
    simp only [List.mem_cons, List.not_mem_nil, or_false] at hb
    rcases hb with rfl | rfl
    · exact ⟨_, he, fun v q => nomatch q⟩
    · exact ⟨o, ho, fun v q => by rw [hd] at q; cases q⟩
  keep i h h' st k := by
    obtain ⟨⟨old, he⟩, ⟨o, ho, hc, hd⟩, hne⟩ := st
    exact ⟨⟨old, k e (by simp) _ he⟩, ⟨o, k it (by simp) _ ho, hc, hd⟩, hne⟩
  item X hP hw hK hcalm i pins s σ H E I hf st hg := by
    subst hP hw hK
    obtain ⟨⟨old, he⟩, hit, hne⟩ := st
    obtain ⟨xs, x, hq, hx⟩ := hg
    obtain ⟨its, rv, p, hz⟩ := I.tuple hq
    obtain ⟨u, hu, ru⟩ := Vals.get rv hx
    obtain ⟨oi, hoi, hci, hdi⟩ := hit
    have p' := p
    obtain ⟨ot, hot, hct, _⟩ := p'
    have nia : a ≠ it := by
      rintro rfl
      rw [hot] at hoi
      injection hoi with hoi
      rw [← hoi, hct] at hci
      injection hci with hci
      exact absurd hci (by decide)
    have nea : e ≠ a := by
      rintro rfl
      have he' : s.heap.get? e = _ := he
      rw [hot] at he'
      injection he' with he'
      rw [he'] at hct
      injection hct with hct
      exact absurd hct (by decide)
    have hel := Heap.lt_size he
    have hil := Heap.lt_size hoi
    refine wpAny_pyNext_enum_itemC (Draws.tuple (show X.A.in1.handled = none from I.ok.hd hcalm) it a nia its.toArray) he ⟨⟨oi, hoi, hci, hdi⟩, p⟩ ?_ hne (by simp [hne, nea]) fun x' h' tk hx' ho hst hT hsz hk => ?_
    · have := (List.getElem?_eq_some_iff.mp hu).1
      simpa using this
    have ex : x' = u := by
      have hx' : its.toArray[i]? = some x' := hx'
      rw [List.getElem?_toArray, hu] at hx'
      injection hx' with hx'
      exact hx'.symm
    subst ex
    refine ⟨_, rfl, wpAny_letOwnedTupleGo_enum ho fun h'' he' sb => ?_⟩
    have hT2 := (sb.right s.heap.objs.size (Nat.ne_of_gt hel)).trans hT
    have new : ObjOk X.prog X.w (upd H s.heap.objs.size (.tup [.int (c + i), x])) h'' s.heap.objs.size (.tup [.int (c + i), x]) :=
      ⟨Nat.le_of_ble_eq_true rfl, [Value.int (c + i) tk, x'], .cons ⟨tk, rfl⟩ (.cons ru .nil), ⟨_, hT2, rfl, 0, rfl⟩⟩
    have I1 := Inv.turnedNew (t' := tk + 1) (ch := [e, it]) I (fun b ob hb q => by
      simp only [List.mem_cons, List.not_mem_nil, or_false, not_or] at hb
      exact (sb.right b hb.1).trans (hk b ob hb.1 hb.2 q)) hf (Nat.le_refl _) new
    refine ⟨.ref s.heap.objs.size, _, I1, rfl, ⟨_, x, rfl, I.hok.fresh (Nat.le_refl _), rfl, fun ys hy => by rw [Inv.tuple_inj I hy hq]; exact hx⟩, ⟨⟨x', ?_⟩, ?_, hne⟩, fun b hb => ?_⟩
    · have e1 : c + ((i + 1 : Nat) : Int) = c + i + 1 := by omega
      rw [e1]
      exact he'
    · obtain ⟨⟨o2, h2, c2, d2⟩, _⟩ := hst
      exact ⟨o2, (sb.right it (Ne.symm hne)).trans h2, c2, d2⟩
    · have hb' : b < s.heap.objs.size := by
        simp only [List.mem_cons, List.not_mem_nil, or_false] at hb
        rcases hb with rfl | rfl
        · exact hel
        · exact hil
      rw [upd_ne (Nat.ne_of_lt hb')]
      exact (hf b hb).1
  done X hP hw hK hcalm i pins s σ H E I hf st hg := by
    subst hP hw hK
    obtain ⟨⟨old, he⟩, hit, hne⟩ := st
    obtain ⟨xs, hq, hx⟩ := hg
    obtain ⟨its, rv, p, hz⟩ := I.tuple hq
    obtain ⟨oi, hoi, hci, hdi⟩ := hit
    have p' := p
    obtain ⟨ot, hot, hct, _⟩ := p'
    have nia : a ≠ it := by
      rintro rfl
      rw [hot] at hoi
      injection hoi with hoi
      rw [← hoi, hct] at hci
      injection hci with hci
      exact absurd hci (by decide)
    obtain ⟨f0, f1, f2, f3, f4, f5⟩ := hf it (by simp)
    have hn : i = its.toArray.size := by
      rw [← hx, Vals.length rv]
      simp
    subst hn
    exact wpAny_pyNext_enum_endD (Draws.tuple (show X.A.in1.handled = none from I.ok.hd hcalm) it a nia its.toArray) he ⟨⟨oi, hoi, hci, hdi⟩, p⟩ fun h' eb => ⟨rfl, Inv.turned I (fun b o hb q => eb b o hb q) f0 f1 f3 f4 f5⟩
  self A i s Q E st h := by
    obtain ⟨⟨old, he⟩, _⟩ := st
    exact wpAny_pyIter_enum he h
theorem callWith_tyKw {M : Model} {A : Around} {E : Value → Shared → Prop} {s : Shared} {env : Env} {pos : Pos} {T : String} {e : Expr} {rest : List Expr} {kws : List Keyword} {Q : Value → Shared → Prop}
    (h : wpAny M A (spliced (backTo pos (starEach (e :: rest) env))) (fun vs s₁ => wpAny M A (evalAll ((backToKw pos (keywordEach kws env)).map (·.2))) (fun kvs s₂ => wpAny M A (call (.type T) vs (((backToKw pos (keywordEach kws env)).filterMap (·.1)).zip kvs)) Q E s₂) E s₁) E s)
    (he : backTo pos (starEach (e :: rest) env) = (false, eval e env) :: backTo pos (starEach rest env)) (hpl : ((backTo pos (starEach (e :: rest) env)).any (·.1)) = false)
    (hall : ((backToKw pos (keywordEach kws env)).all (·.1.isSome)) = true) (hkw : ((backToKw pos (keywordEach kws env)).any (·.1.isNone)) = false) :
    wpAny M A (callWith pos (.type T) [] (backTo pos (starEach (e :: rest) env)) (backToKw pos (keywordEach kws env))) Q E s := by
  refine W.callWith_of (P := fun _ => True) (by rw [hpl, hkw]; rfl) (fun h _ => ⟨.machine, .inr (.inl rfl), W.Looks.of_pure rfl⟩) ?_
  rw [he] at h ⊢
  refine evalArgs_kwB hall (thn h fun vs s1 q => thn q fun ks s2 q2 => ?_)
  exact ⟨trivial, q2⟩
def iEnumS (K : PySem.W.Frag) (ta tk : TA) : TI := fun σ H R => ta σ H fun vs H1 => tk σ H1 fun zs H2 => ∃ a xs c, vs = [.ref a] ∧ zs = [.int c] ∧ SqT K H2 a xs ∧ -2 ^ 63 ≤ c ∧ c < 2 ^ 63 ∧ R (ItsT K a c) H2
theorem pi_enumS {X : Cx} {e : Expr} {kws : List Keyword} {ta tk : TA} {p pos tpos : Pos} {elts : List Expr} {kk : Nat} (hg : Gl X "enumerate") (hm : X.mg "enumerate" = none) (ha : PA X [e] ta) (hk : PK X kws tk)
    (he : backTo pos (starEach [e] X.env) = (false, eval e X.env) :: backTo pos (starEach [] X.env) := by rfl) (hpl : ((backTo pos (starEach [e] X.env)).any (·.1)) = false := by rfl)
    (hall : ((backToKw pos (keywordEach kws X.env)).all (·.1.isSome)) = true := by rfl) (hkw : ((backToKw pos (keywordEach kws X.env)).any (·.1.isNone)) = false := by rfl)
    (hks : (backToKw pos (keywordEach kws X.env)).filterMap (·.1) = [Str.ofString "start"] := by rfl) :
    PI X (.Tuple elts kk tpos) (.Call (.Name "enumerate" p) [e] kws pos) (iEnumS X.K ta tk) where
  run pins s σ H R I h := by
    refine wpAny_Call_Name_kw (ld_blt I hg hm boot_enumerate (callWith_tyKw (thn (ha.run pos pins s σ H _ I h) ?_) he hpl hall hkw) (by decide +kernel) (by decide +kernel))
    rintro us s1 ⟨vs, H1, I1, r1, q1⟩
    refine thn (hk.run pos pins s1 σ H1 _ I1 q1) ?_
    rintro ws s2 ⟨zs, H2, I2, r2, a, xs, c, rfl, rfl, hq, c1, c2, q⟩
    rw [hks]
    cases r1 with
    | cons r rr =>
      cases rr
      cases r2 with
      | cons r' rr' =>
        cases rr'
        cases r
        obtain ⟨t, rfl⟩ := r'
        obtain ⟨its, rv, pp, hz⟩ := I2.tuple hq
        refine enum_begins_start (begins_tuple a its.toArray) pp c1 c2 fun h' hen hit hsz hkeep => ?_
        refine wpAny_pyIter_enum hen ?_
        have I3 := Inv.kept (t' := s2.toks) I2 hkeep
        refine ⟨s2.heap.objs.size + 1, [s2.heap.objs.size + 1, s2.heap.objs.size], fun i h => (∃ old, IsEnum h (s2.heap.objs.size + 1) s2.heap.objs.size (c + i) old) ∧ h.IsTupleIter s2.heap.objs.size a i ∧ s2.heap.objs.size + 1 ≠ s2.heap.objs.size, ItsT X.K a c, H2, rfl, I3, turn_enumS c, ⟨⟨Value.none, ?_⟩, ⟨_, hit, rfl, rfl⟩, Nat.succ_ne_self _⟩, fun b hb => ?_, q⟩
        · show IsEnum h' _ _ (c + ((0 : Nat) : Int)) _
          rw [show c + ((0 : Nat) : Int) = c by omega]
          exact hen
        · have hb' : s2.heap.objs.size ≤ b := by
            simp only [List.mem_cons, List.not_mem_nil, or_false] at hb
            rcases hb with hb | hb
            · rw [hb]; exact Nat.le_succ _
            · rw [hb]; exact Nat.le_refl _
          exact I2.fpOk hb' (I2.hok.fresh hb')
theorem for_enumS {K : PySem.W.Frag} {a : Addr} {c : Int} {xs : List V} {g : TG} {tb : TS} {D : Ends} {σ : L2.St} {H : Hp} (Pv : Nat → L2.St → Hp → Prop) (h0 : Pv 0 σ H) (hq : ∀ i σ H, Pv i σ H → SqT K H a xs)
    (hs : ∀ (i : Nat) (x : V) (T : Addr) (σ : L2.St) (H : Hp), xs[i]? = some x → Pv i σ H → H T = none → g (.ref T) σ (upd H T (.tup [.int (c + i), x])) fun σ2 H2 => tb { nx := Pv (i + 1), rt := D.rt, bk := D.nx, ct := Pv (i + 1) } σ2 H2)
    (hd : ∀ σ H, Pv xs.length σ H → D.nx σ H) :
    ∃ W : Nat → Nat → L2.St → Hp → Prop, (∃ m, W 0 m σ H) ∧ ∀ i m σ H, W i m σ H → ((ItsT K a c).stop i H ∧ D.nx σ H) ∨ ((ItsT K a c).go i H ∧ ∃ N : L2.St → Hp → Prop, (∀ σ' H', N σ' H' → ∃ m', m' < m ∧ W (i + 1) m' σ' H') ∧
      ∀ v H', (ItsT K a c).yld i H v H' → g v σ H' fun σ2 H2 => tb { nx := N, rt := D.rt, bk := D.nx, ct := N } σ2 H2) := by
  refine ⟨fun i m σ H => m = xs.length - i ∧ i ≤ xs.length ∧ Pv i σ H, ⟨xs.length, rfl, Nat.zero_le _, h0⟩, ?_⟩
  rintro i m σ H ⟨rfl, hi, p⟩
  have q := hq i σ H p
  by_cases hlt : i < xs.length
  · have hx : xs[i]? = some xs[i] := List.getElem?_eq_getElem hlt
    refine .inr ⟨⟨xs, _, q, hx⟩, Pv (i + 1), fun σ' H' p' => ⟨xs.length - (i + 1), by omega, rfl, hlt, p'⟩, fun v H' y => ?_⟩
    obtain ⟨T, x', rfl, hT, rfl, f⟩ := y
    exact hs i x' T σ H (f xs q) p hT
  · have e : i = xs.length := by omega
    subst e
    exact .inl ⟨⟨xs, q, rfl⟩, hd σ H p⟩
section
variable {K : PySem.W.Frag} {es : Env'} {B : DEnds} {t : TS}
/-- for i, x in enumerate(a tuple, start = c) -/
theorem ds_forE {g : TG} {tr tk : TA} (h : DA K tr es fun ss => DA K tk es fun us => ∃ xs c, ss = [.d (.tup xs)] ∧ us = [.d (.int c)] ∧ -2 ^ 63 ≤ c ∧ c < 2 ^ 63 ∧ ∃ I : Nat → Env' → Prop, I 0 es ∧
    (∀ (i : Nat) x es', xs[i]? = some x → I i es' → ∃ js, DG K g (.tup [.int (c + i), x]) js es' fun e2 => DS K t e2 ⟨I (i + 1), B.rt, B.nx, I (i + 1), B.xo⟩) ∧ ∀ es', I xs.length es' → B.nx es') : DS K (tFor (iEnumS K tr tk) g t) es B := fun F P M L σ H S E o => by
  refine h P _ M L σ H S.st _ fun ss us H1 k1 o1 q1 => ?_
  refine q1 P _ M L σ H1 (S.kp' k1).st _ fun ss2 us2 H2 k2 o2 q2 => ?_
  obtain ⟨xs, c, rfl, rfl, c1, c2, I, h0, hs, hd⟩ := q2
  have k12 := k1.trans k2
  obtain ⟨v, rfl, hv⟩ := o1.one
  obtain ⟨w, rfl, hw⟩ := o2.one
  have hv1 : Is K M H1 v (.tup xs) := hv
  have hv2 : Is K M H2 v (.tup xs) := Is.kp k2 (S.kp' k1).st.bs hv1
  have hw : Is K M H2 w (.int c) := hw
  cases hw
  obtain ⟨a, ws, rfl, g1, i1⟩ := Is.tupS hv2
  refine ⟨a, ws, c, rfl, rfl, g1, c1, c2, for_enumS (K := K) (a := a) (c := c) (xs := ws) (fun i σ H => ∃ es' M' L', Stf K F (⟨a, ws, xs, true⟩ :: P) M' L' σ H es' ∧ I i es') ⟨es, M, L, (S.kp' k12).pin (p := ⟨a, ws, xs, true⟩) ⟨g1, i1⟩, h0⟩ ?_ ?_ ?_⟩
  · rintro i σ' H' ⟨es', M', L', S', hI⟩
    exact (S'.st.pin _ List.mem_cons_self).1
  · rintro i x T σ' H' hx ⟨es', M', L', S', hI⟩ hT
    obtain ⟨dx, hdx, ix⟩ := (S'.st.pin _ List.mem_cons_self).2.getV hx
    have kn := Kp.new (o := .tup [.int (c + i), x]) S'.st.bs hT
    obtain ⟨js, dg⟩ := hs i dx es' hdx hI
    refine dg.stf (S'.kp' kn) (Is.tup upd_same (.cons (.int _) (.cons (Is.kp kn S'.st.bs ix) .nil))) _ fun e2 σ2 S2 q => ?_
    refine q F _ M' L' σ2 _ S2 _ ?_
    exact o.pinned.turn (fun σ H => ∃ es' M' L', Stf K F (⟨a, ws, xs, true⟩ :: P) M' L' σ H es' ∧ I (i + 1) es') fun e3 M3 L3 σ3 H3 S3 z => ⟨e3, M3, L3, S3, z⟩
  · rintro σ' H' ⟨es', M', L', S', hI⟩
    rw [i1.len] at hI
    exact o.nx _ _ _ _ _ S'.unpin (hd es' hI)
/-- d.get(k, x), d a dict of the module -/
theorem de_kget {kvs : List (Str × V)} {ds : List (Str × D)} {ta tx : TE} {Q : SV → Prop} (hd : ∀ (M : AP) (H : Hp), IsFs K M H kvs ds)
    (h : DE K ta es fun s => ∃ k, s = .d (.str k) ∧ DE K tx es fun z => ∃ d, z = .d d ∧ Q (.d (((ds.find? fun p => decide (p.1 = k)).map (·.2)).getD d))) : DE K (tKGet kvs ta tx) es Q := fun P N M L σ H S R r => by
  refine h P N M L σ H S _ fun s v H1 k1 o1 q1 => ?_
  obtain ⟨k, rfl, q1⟩ := q1
  have o1' : Is K M H1 v (.str k) := o1
  cases o1'
  refine ⟨k, rfl, q1 P N M L σ H1 (S.kp k1) _ fun z w H2 k2 o2 q2 => ?_⟩
  obtain ⟨d, rfl, q2⟩ := q2
  have hl : ∀ {kvs : List (Str × V)} {ds : List (Str × D)}, IsFs K M H2 kvs ds → (lookT k kvs = none ∧ ((ds.find? fun p => decide (p.1 = k)).map (·.2)) = none) ∨ ∃ v d, lookT k kvs = some v ∧ ((ds.find? fun p => decide (p.1 = k)).map (·.2)) = some d ∧ Is K M H2 v d := by
    intro kvs
    induction kvs with
    | nil => intro ds h; cases h; exact .inl ⟨rfl, rfl⟩
    | cons p kvs ih =>
      intro ds h
      cases h with
      | @cons x v vs d ds h1 h2 =>
        by_cases hx : x = k
        · refine .inr ⟨v, d, ?_, ?_, h1⟩
          · show (if x = k then some v else lookT k kvs) = some v
            rw [if_pos hx]
          · rw [List.find?_cons_of_pos (by exact decide_eq_true hx)]
            rfl
        · rw [List.find?_cons_of_neg (by simp [hx])]
          have e1 : lookT k ((x, v) :: kvs) = lookT k kvs := by
            show (if x = k then some v else lookT k kvs) = lookT k kvs
            rw [if_neg hx]
          rw [e1]
          exact ih h2
  rcases hl (hd M H2) with ⟨e1, e2⟩ | ⟨v, d', e1, e2, i⟩
  · rw [e1]
    rw [e2] at q2
    exact r (.d d) _ H2 (k1.trans k2) o2 q2
  · rw [e1]
    rw [e2] at q2
    exact r (.d d') _ H2 (k1.trans k2) i q2
end
end DL

namespace DL
open PySem PySem.Spec PyProof.Rows L2
/-! ### split, partition, int(text), sorted whole numbers, str of texts too, is True -/
def rSplit : V → List V → Hp → VK → Prop := fun x xs H Q => ∃ a b, x = .str a ∧ xs = [.str b] ∧ (b.length == 0) = false ∧ a.length + 2 ≤ sizeLine ∧ rNewStrs (Txt.split a b) H Q
def rPart : V → List V → Hp → VK → Prop := fun x xs H Q => ∃ a b, x = .str a ∧ xs = [.str b] ∧ (b.length == 0) = false ∧ a.length ≤ sizeLine ∧ ∀ p, H p = none → Q (.ref p) (upd H p (.tup [.str (Txt.partition a b).1, .str (Txt.partition a b).2.1, .str (Txt.partition a b).2.2]))
def rIntS : List V → Hp → VK → Prop := fun xs H Q => ∃ a n, xs = [.str a] ∧ PySem.intText? a = some n ∧ a.length ≤ 640 ∧ Q (.int n) H
def rStrS : List V → Hp → VK → Prop := fun xs H Q => ∃ a, xs = [.str a] ∧ Q (.str a) H
def rStr2 : List V → Hp → VK → Prop := fun xs H Q => rStrX xs H Q ∨ rStrS xs H Q
def rIsV : R2 := fun x y H Q => rIsX x y H Q ∨ ∃ b, y = .bl b ∧ ((∃ i, x = .int i) ∨ ∃ z, x = .str z) ∧ Q (.bl false) H
def rNotV : R2 := fun x y H Q => rNotX x y H Q ∨ ∃ b, y = .bl b ∧ ((∃ i, x = .int i) ∨ ∃ z, x = .str z) ∧ Q (.bl true) H
section
variable {X : Cx}
theorem call_intS : CallR X (.type "int") rIntS := call_int_str
theorem call_strS : CallR X (.type "str") rStrS := by
  intro pins s σ H xs us Q I r h
  obtain ⟨a, rfl, q⟩ := h
  obtain ⟨u, rfl, t, rfl⟩ := vals1 r
  exact PySem.P.str_of_str ⟨.str a, H, I, ⟨t, rfl⟩, q⟩
theorem call_str2 : CallR X (.type "str") rStr2 := call_strX.or call_strS
theorem op_isV : OpR X (compareOp .Is) rIsV := op_isX.or (by
  intro pins s σ H x y v u Q I rx ry h
  obtain ⟨b, rfl, h, q⟩ := h
  cases (show u = Value.bool b from ry)
  rcases h with ⟨i, rfl⟩ | ⟨z, rfl⟩
  · obtain ⟨t, rfl⟩ := (show ∃ t, v = Value.int i t from rx)
    exact wpAny_is_other rfl (fun z => by cases z) ⟨.bl false, H, I, rfl, q⟩
  · obtain ⟨t, rfl⟩ := (show ∃ t, v = Value.str z t from rx)
    exact wpAny_is_other rfl (fun z => by cases z) ⟨.bl false, H, I, rfl, q⟩)
theorem op_isnotV : OpR X (compareOp .IsNot) rNotV := op_isnotX.or (by
  intro pins s σ H x y v u Q I rx ry h
  obtain ⟨b, rfl, h, q⟩ := h
  cases (show u = Value.bool b from ry)
  rcases h with ⟨i, rfl⟩ | ⟨z, rfl⟩
  · obtain ⟨t, rfl⟩ := (show ∃ t, v = Value.int i t from rx)
    exact wpAny_isNot_other rfl (fun z => by cases z) ⟨.bl true, H, I, rfl, q⟩
  · obtain ⟨t, rfl⟩ := (show ∃ t, v = Value.str z t from rx)
    exact wpAny_isNot_other rfl (fun z => by cases z) ⟨.bl true, H, I, rfl, q⟩)
end
section
variable {K : PySem.W.Frag} {P : List Pin} {N L M M' : AP} {H0 H1 H H' : Hp} {σ : L2.St} {es : Env'} {ta tb tc te : TE} {tr : TA} {tt tu : TT} {Q : SV → Prop} {t u : TS} {B : DEnds}
theorem IsAll.strs : ∀ (ns : List Str), IsAll K M H (ns.map V.str) (ns.map D.str)
  | [] => .nil
  | n :: ns => .cons (.str n) (IsAll.strs ns)
theorem de_split (h : DE K ta es fun s => ∃ a : Str, s = .d (.str a) ∧ DE K te es fun z => ∃ b : Str, z = .d (.str b) ∧ (b.length == 0) = false ∧ a.length + 2 ≤ sizeLine ∧ Q (.new ((Txt.split a b).map D.str))) : DE K (tM1 rSplit ta te) es Q := fun P N M L σ H S R k => by
  refine h P N M L σ H S _ fun s v H1 k1 o1 q1 => ?_
  obtain ⟨a, rfl, q1⟩ := q1
  cases o1
  refine ⟨⟨a, rfl⟩, q1 P N M L σ H1 (S.kp k1) _ fun z w H2 k2 o2 q2 => ?_⟩
  obtain ⟨b, rfl, hb, hz, q⟩ := q2
  cases o2
  have k12 := k1.trans k2
  refine ⟨a, b, rfl, rfl, hb, hz, fun p hp => ?_⟩
  exact k (.new _) _ _ (k12.trans (Kp.new (k12.bs S.bs) hp)) ⟨p, _, rfl, k12.was hp, upd_same, IsAll.strs _⟩ q
theorem de_part (h : DE K ta es fun s => ∃ a : Str, s = .d (.str a) ∧ DE K te es fun z => ∃ b : Str, z = .d (.str b) ∧ (b.length == 0) = false ∧ a.length ≤ sizeLine ∧ Q (.d (.tup [.str (Txt.partition a b).1, .str (Txt.partition a b).2.1, .str (Txt.partition a b).2.2]))) : DE K (tM1 rPart ta te) es Q := fun P N M L σ H S R k => by
  refine h P N M L σ H S _ fun s v H1 k1 o1 q1 => ?_
  obtain ⟨a, rfl, q1⟩ := q1
  cases o1
  refine ⟨⟨a, rfl⟩, q1 P N M L σ H1 (S.kp k1) _ fun z w H2 k2 o2 q2 => ?_⟩
  obtain ⟨b, rfl, hb, hz, q⟩ := q2
  cases o2
  have k12 := k1.trans k2
  refine ⟨a, b, rfl, rfl, hb, hz, fun p hp => ?_⟩
  exact k (.d _) _ _ (k12.trans (Kp.new (k12.bs S.bs) hp)) (Is.tup upd_same (.cons (.str _) (.cons (.str _) (.cons (.str _) .nil)))) q
theorem int_s {a : Str} {n : Int} (e : PySem.intText? a = some n) (l : a.length ≤ 640) (q : Q (.d (.int n))) : RC K rIntS [.d (.str a)] Q := fun N M L H0 H vs b k o R r => by
  obtain ⟨v, rfl, hv⟩ := o.one
  cases hv
  exact ⟨a, n, rfl, e, l, r (.d (.int n)) _ H (Kp.refl (k.bs b)) (Is.int n) q⟩
theorem str_i {i : Int} (hi : i.natAbs.log2 < 1920) (q : Q (.d (.str (toString i)))) : RC K rStr2 [.d (.int i)] Q := fun N M L H0 H vs b k o R r => .inl (rc_strI hi q N M L H0 H vs b k o R r)
theorem str_s {a : Str} (q : Q (.d (.str a))) : RC K rStr2 [.d (.str a)] Q := fun N M L H0 H vs b k o R r => by
  obtain ⟨v, rfl, hv⟩ := o.one
  cases hv
  exact .inr ⟨a, rfl, r (.d (.str a)) _ H (Kp.refl (k.bs b)) (Is.str a) q⟩
theorem isv_b {a c : Bool} (q : Q (.d (.bl (decide (a = c))))) : RR K rIsV (.d (.bl a)) (.d (.bl c)) Q := rr_or1 (is_b q)
theorem isv_n {x : D} (q : Q (.d (.bl x.isNon))) : RR K rIsV (.d x) (.d .non) Q := rr_or1 (is_n q)
theorem isv_i {i : Int} {c : Bool} (q : Q (.d (.bl false))) : RR K rIsV (.d (.int i)) (.d (.bl c)) Q := fun N M L H0 H v1 v2 b k o1 o2 R r => by
  cases o1
  cases o2
  exact .inr ⟨c, rfl, .inl ⟨i, rfl⟩, r (.d (.bl false)) _ H (Kp.refl (k.bs b)) (Is.bl _) q⟩
theorem isv_s {i : Str} {c : Bool} (q : Q (.d (.bl false))) : RR K rIsV (.d (.str i)) (.d (.bl c)) Q := fun N M L H0 H v1 v2 b k o1 o2 R r => by
  cases o1
  cases o2
  exact .inr ⟨c, rfl, .inr ⟨i, rfl⟩, r (.d (.bl false)) _ H (Kp.refl (k.bs b)) (Is.bl _) q⟩
theorem nov_b {a c : Bool} (q : Q (.d (.bl (!decide (a = c))))) : RR K rNotV (.d (.bl a)) (.d (.bl c)) Q := rr_or1 (isnot_b q)
theorem nov_n {x : D} (q : Q (.d (.bl (!x.isNon)))) : RR K rNotV (.d x) (.d .non) Q := rr_or1 (isnot_n q)
theorem nov_i {i : Int} {c : Bool} (q : Q (.d (.bl true))) : RR K rNotV (.d (.int i)) (.d (.bl c)) Q := fun N M L H0 H v1 v2 b k o1 o2 R r => by
  cases o1
  cases o2
  exact .inr ⟨c, rfl, .inl ⟨i, rfl⟩, r (.d (.bl true)) _ H (Kp.refl (k.bs b)) (Is.bl _) q⟩
theorem nov_s {i : Str} {c : Bool} (q : Q (.d (.bl true))) : RR K rNotV (.d (.str i)) (.d (.bl c)) Q := fun N M L H0 H v1 v2 b k o1 o2 R r => by
  cases o1
  cases o2
  exact .inr ⟨c, rfl, .inr ⟨i, rfl⟩, r (.d (.bl true)) _ H (Kp.refl (k.bs b)) (Is.bl _) q⟩
theorem sorted_i {s : SV} {ns : List Int} (e : s.rd = some (.lst (ns.map D.int))) (l : ns.length < 64) (q : ∀ ms : List Int, ms.Perm ns → ms.Pairwise (· ≤ ·) → Q (.new (ms.map D.int))) : RC K (L2.rSorted K) [s] Q := fun N M L H0 H vs b k o R r => by
  obtain ⟨v, rfl, hv⟩ := o.one
  obtain ⟨a, vs, rfl, h1, h2⟩ := hv.list b e
  rw [h2.ofInts] at h1
  refine ⟨a, ns, rfl, h1, l, fun ms p h3 h4 hp => ?_⟩
  obtain ⟨kn, ok⟩ := new_of (N := N) b k hp (IsAll.ints (K := K) (M := M) (H := H) ms)
  exact r _ _ _ kn ok (q ms h3 h4)
/-! ### an own list lent to a def that leaves it as it is and tells nothing that holds it -/
mutual
def D.flat : D → Bool
  | .lst _ => false
  | .obj _ _ => false
  | .tup xs => D.flatAll xs
  | _ => true
def D.flatAll : List D → Bool
  | [] => true
  | d :: ds => D.flat d && D.flatAll ds
end
mutual
theorem Is.flatM : ∀ (d : D) (v : V), d.flat = true → Is K M H v d → Is K M' H v d
  | .non, _, _, h => by cases h; exact .non
  | .bl _, _, _, h => by cases h; exact .bl _
  | .int _, _, _, h => by cases h; exact .int _
  | .str _, _, _, h => by cases h; exact .str _
  | .lst _, _, f, _ => by cases f
  | .obj _ _, _, f, _ => by cases f
  | .tup ds, _, f, h => by
    cases h with
    | tup h1 h3 => exact .tup h1 (IsAll.flatM ds _ f h3)
    | tup0 h1 => exact .tup0 h1
    | tupK h1 h3 h4 => exact .tupK h1 (IsAll.flatM ds _ f h3) h4
theorem IsAll.flatM : ∀ (ds : List D) (vs : List V), D.flatAll ds = true → IsAll K M H vs ds → IsAll K M' H vs ds
  | [], _, _, h => by cases h; exact .nil
  | d :: ds, _, f, h => by
    have f' := Bool.and_eq_true_iff.mp (show (D.flat d && D.flatAll ds) = true from f)
    cases h with
    | cons h1 h2 => exact .cons (Is.flatM d _ f'.1 h1) (IsAll.flatM ds _ f'.2 h2)
end
def SV.lend : SV → SV
  | .new xs => .d (.lst xs)
  | .own xs => .d (.lst xs)
  | s => s
theorem Bs.self (bs : Bs L M H) : Bs L L H := ⟨fun _ l => l, fun a o l e => bs.tr a o (bs.lm a l) e, fun a l => bs.tk a (bs.lm a l), bs.bag⟩
theorem SvAll.lend (bs0 : Bs L M H0) (k : Kp L H0 H) : ∀ {vs : List V} {ss : List SV}, SvAll K N M L H0 H vs ss → SvAll K NO L L H H vs (ss.map SV.lend)
  | _, _, .nil => .nil
  | _, _, .cons (s := s) h t => by
    refine .cons ?_ (SvAll.lend bs0 k t)
    cases s with
    | new xs =>
      obtain ⟨a, vs, rfl, n, h1, h2⟩ := h
      exact Is.lst h1 (fun l => fresh_nm bs0 n (bs0.lm a l)) (h2.sub fun b l => .inl (bs0.lm b l))
    | own xs =>
      obtain ⟨a, vs, rfl, m, n, l, h1, h2⟩ := h
      exact Is.lst h1 l (h2.sub bs0.lm)
    | d x => exact Is.sub bs0.lm h
    | bag => exact h
    | scr ns => exact h
    | rng lo hi => exact h
    | dic kvs => exact h
    | ty n => exact h
    | cls C => exact h
theorem de_lendQ {α : Type} {n : Nat} {args : α → List SV} {pre : α → Prop} {post : α → SV → Prop} {E : XK} (h : DA K tr es fun ss => ∃ x, ss.map SV.lend = args x ∧ ss.length = n ∧ pre x ∧ ∀ r, post x r → ∃ y, r = .d y ∧ y.flat = true ∧ Q (.d y)) : DE K (tCall (spQ K n args pre post) [] E tr) es Q := fun P N M L σ H S R k => by
  refine h P N M L σ H S _ fun ss vs H1 k1 o1 q1 => ?_
  obtain ⟨x, e, hl, hp, q⟩ := q1
  rw [List.append_nil]
  have bs1 := k1.bs S.bs
  refine ⟨x, L, L, ss.map SV.lend, bs1.self, o1.lend S.bs k1, by rw [List.length_map]; exact hl, ⟨e, hp⟩, fun r v H' k2 o2 q2 => ?_⟩
  obtain ⟨y, rfl, f, qy⟩ := q r q2
  exact k (.d y) v H' (k1.trans k2) (Is.flatM y v f o2) qy
/-- for a, b in zip(two lists that are data) -/
theorem ds_forZL {g : TG} {tr : TA} (h : DA K tr es fun ss => ∃ s1 s2 xs ys, ss = [s1, s2] ∧ s1.dat = some (.lst xs) ∧ s2.dat = some (.lst ys) ∧ xs.length = ys.length ∧ ∃ I : Nat → Env' → Prop, I 0 es ∧
    (∀ (i : Nat) x y es', xs[i]? = some x → ys[i]? = some y → I i es' → ∃ js, DG K g (.tup [x, y]) js es' fun e2 => DS K t e2 ⟨I (i + 1), B.rt, B.nx, I (i + 1), B.xo⟩) ∧ ∀ es', I xs.length es' → B.nx es') : DS K (tFor (RZ.iZipA K tr) g t) es B := fun F P M L σ H S E o => by
  refine h P _ M L σ H S.st _ fun ss us H1 k1 o1 q1 => ?_
  obtain ⟨s1, s2, xs, ys, rfl, e1, e2, hl, I, h0, hs, hd⟩ := q1
  obtain ⟨v, w, rfl, hv, hw⟩ := o1.two
  obtain ⟨a, ws, rfl, g1, m1, i1⟩ := hv.lstD S.st.bs e1
  obtain ⟨c, zs, rfl, g2, m2, i2⟩ := hw.lstD S.st.bs e2
  have hll : ws.length = zs.length := by rw [i1.len, i2.len, hl]
  refine ⟨a, c, ws, zs, rfl, .inl ⟨.inl (.inl g1), .inl (.inl g2), RZ.for_zipL (K := K) (a := a) (b := c) (xs := ws) (ys := zs) hll (fun i σ H => ∃ es' M' L', Stf K F (⟨a, ws, xs, false⟩ :: ⟨c, zs, ys, false⟩ :: P) M' L' σ H es' ∧ I i es') ⟨es, M, L, ((S.kp' k1).pin (p := ⟨c, zs, ys, false⟩) ⟨⟨g2, m2⟩, i2⟩).pin ⟨⟨g1, m1⟩, i1⟩, h0⟩ ?_ ?_ ?_⟩⟩
  · rintro i σ' H' ⟨es', M', L', S', hI⟩
    exact ⟨.inl (.inl (S'.st.pin _ List.mem_cons_self).1.1), .inl (.inl (S'.st.pin _ (List.mem_cons_of_mem _ List.mem_cons_self)).1.1)⟩
  · rintro i x y T σ' H' hx hy ⟨es', M', L', S', hI⟩ hT
    obtain ⟨dx, hdx, ix⟩ := (S'.st.pin _ List.mem_cons_self).2.getV hx
    obtain ⟨dy, hdy, iy⟩ := (S'.st.pin _ (List.mem_cons_of_mem _ List.mem_cons_self)).2.getV hy
    have kn := Kp.new (o := .tup [x, y]) S'.st.bs hT
    obtain ⟨js, dg⟩ := hs i dx dy es' hdx hdy hI
    refine dg.stf (S'.kp' kn) (Is.tup upd_same (.cons (Is.kp kn S'.st.bs ix) (.cons (Is.kp kn S'.st.bs iy) .nil))) _ fun e2 σ2 S2 q => ?_
    refine q F _ M' L' σ2 _ S2 _ ?_
    exact o.pinned.pinned.turn (fun σ H => ∃ es' M' L', Stf K F (⟨a, ws, xs, false⟩ :: ⟨c, zs, ys, false⟩ :: P) M' L' σ H es' ∧ I (i + 1) es') fun e3 M3 L3 σ3 H3 S3 z => ⟨e3, M3, L3, S3, z⟩
  · rintro σ' H' ⟨es', M', L', S', hI⟩
    rw [i1.len] at hI
    exact o.nx _ _ _ _ _ S'.unpin.unpin (hd es' hI)
end
end DL

namespace DL
open PySem PySem.Spec PyProof.Rows L2
/-! ### a sign in a text, a text's repeat, upper, extend, or by truth -/
def rInSg : R2 := fun x y H Q => ∃ (c : Nat) (z : Str), x = .str ⟨#[c]⟩ ∧ y = .str z ∧ Q (.bl (decide (c ∈ z.cps.toList))) H
def rRepS : R2 := fun x y H Q => ∃ (a : Str) (n : Int), x = .str a ∧ y = .int n ∧ PySem.MulOk a n ∧ Q (.str (Txt.mul a n)) H
def rUpper : V → List V → Hp → VK → Prop := fun x xs H Q => ∃ a, x = .str a ∧ xs = [] ∧ a.length ≤ 5592405 ∧ Q (.str (Txt.upper a)) H
def rNotInDic : R2 := fun x y H Q => ∃ a o, y = .ref a ∧ DGet H a x o ∧ Q (.bl (!o.isSome)) H
section
variable {X : Cx}
theorem op_inSg : OpR X (compareOp .In) rInSg := op_in_sign
theorem op_notInDic (hu : X.A.units + 1 < cLine) : OpR X (compareOp .NotIn) rNotInDic := by
  intro pins s σ H x y v u Q I rx ry h
  obtain ⟨a, o, rfl, g, q⟩ := h
  obtain rfl : u = Value.ref a := ry
  exact d_notIn hu I g rx fun s3 I3 => ⟨.bl (!o.isSome), H, I3, rfl, q⟩
end
section
variable {K : PySem.W.Frag} {P : List Pin} {N L M M' : AP} {H0 H1 H H' : Hp} {σ : L2.St} {es : Env'} {ta tb tc te : TE} {tr : TA} {tt tu : TT} {Q : SV → Prop} {t u : TS} {B : DEnds}
theorem in_sg {c : Nat} {z : Str} (q : Q (.d (.bl (decide (c ∈ z.cps.toList))))) : RR K rInSg (.d (.str ⟨#[c]⟩)) (.d (.str z)) Q := fun N M L H0 H v1 v2 b k o1 o2 R r => by
  cases o1
  cases o2
  exact ⟨c, z, rfl, rfl, r (.d (.bl _)) _ H (Kp.refl (k.bs b)) (Is.bl _) q⟩
theorem rep_s {a : Str} {n : Int} (ok : PySem.MulOk a n) (q : Q (.d (.str (Txt.mul a n)))) : RR K rRepS (.d (.str a)) (.d (.int n)) Q := fun N M L H0 H v1 v2 b k o1 o2 R r => by
  cases o1
  cases o2
  exact ⟨a, n, rfl, rfl, ok, r (.d (.str _)) _ H (Kp.refl (k.bs b)) (Is.str _) q⟩
theorem de_upper (h : DE K ta es fun s => ∃ a : Str, s = .d (.str a) ∧ a.length ≤ 5592405 ∧ Q (.d (.str (Txt.upper a)))) : DE K (tM0 rUpper ta) es Q := fun P N M L σ H S R k => by
  refine h P N M L σ H S _ fun s v H1 k1 o1 q1 => ?_
  obtain ⟨a, rfl, l, q⟩ := q1
  cases o1
  exact ⟨⟨a, rfl⟩, a, rfl, rfl, l, k (.d (.str _)) _ H1 k1 (Is.str _) q⟩
def D.tru : D → Option Bool
  | .non => some false
  | .bl b => some b
  | .int i => some (i != 0)
  | _ => none
theorem de_orT (h : DE K ta es fun s => ∃ x k, s = .d x ∧ x.tru = some k ∧ if k = true then Q (.d x) else DE K tb es Q) : DE K (tOrT K ta tb) es Q := fun P N M L σ H S R k => by
  refine h P N M L σ H S _ fun s v H1 k1 o1 q1 => ?_
  obtain ⟨x, b, rfl, e, q⟩ := q1
  have o1 : Is K M H1 v x := o1
  refine ⟨b, ?_, ?_⟩
  · cases o1 with
    | non => injection e with e; exact e.symm
    | bl c => injection e with e; exact e.symm
    | int i => injection e with e; exact e.symm
    | _ => cases e
  · cases b with
    | true =>
      rw [if_pos rfl] at q ⊢
      exact k (.d x) v H1 k1 o1 q
    | false =>
      rw [if_neg Bool.false_ne_true] at q ⊢
      exact q P N M L σ H1 (S.kp k1) R fun s v H2 k2 o2 q2 => k s v H2 (k1.trans k2) (o2.back k1) q2
theorem ds_ext {i : Nat} {xs : List D} (e : es[i]? = some (some (.own xs))) (h : DE K te es fun s => ∃ ys, s = .new ys ∧ xs.length + ys.length ≤ 100000 ∧ B.nx (es.set i (some (.own (xs ++ ys))))) :
    DS K (tDrop (tBM K "list" rExtend (tVar i) (tCons te tNil))) es B := fun F P M L σ H S E o => by
  obtain ⟨v, hv, a, vs, rfl, m, n, l, g1, i1⟩ := S.st.ok i _ e
  refine ⟨.ref a, hv, tyL g1, ?_⟩
  refine h P _ M L σ H S.st _ fun s w H1 k1 ok q => ?_
  obtain ⟨ys, rfl, hl, q⟩ := q
  obtain ⟨c, ws, rfl, hn, g2, i2⟩ := ok
  have S1 := S.kp' k1
  have g3 := k1.k _ _ l g1
  have i3 := IsAll.kp k1 S.st.bs i1
  have i4 : IsAll K M H1 ws ys := i2.sub AP.sub_add
  refine ⟨a, c, vs, ws, rfl, rfl, g3, g2, ?_, ?_⟩
  · rw [i1.len, i2.len]
    exact Nat.le_trans hl (by decide)
  · exact o.nx _ _ _ _ _ (S1.upd e hv (i3.append i4)) q
/-! ### a dict of texts by texts that is made here and asked -/
theorem upd_upd {a : Addr} {o o' : HO} : upd (upd H a o) a o' = upd H a o' := by
  funext b
  unfold upd
  split <;> rfl
theorem tPairs_c : ∀ (kvs : List (Str × Str)) {R : List (V × V) → Hp → Prop}, R (kvs.map fun kv => (V.str kv.1, V.str kv.2)) H → tPairs (kvs.map fun kv => (tC (.str kv.1), tC (.str kv.2))) σ H R
  | [], R, h => h
  | kv :: kvs, R, h => tPairs_c kvs (R := fun ps H' => R ((V.str kv.1, V.str kv.2) :: ps) H') h
theorem de_disp {kvs : List (Str × Str)} (hm : mergeK [] (dicV kvs) = dicV kvs) (hl : kvs.length ≤ 15) (q : Q (.dic kvs)) : DE K (tDisp (kvs.map fun kv => (tC (.str kv.1), tC (.str kv.2)))) es Q := fun P N M L σ H S R k => by
  intro p hp
  refine tPairs_c kvs ?_
  refine ⟨upd_same, dicV kvs, ?_, ?_, ?_⟩
  · unfold dicV
    rw [List.map_map]
    rfl
  · unfold dicV
    rw [List.length_map]
    exact hl
  · rw [upd_upd, hm]
    exact k (.dic kvs) _ _ (Kp.new S.bs hp) ⟨p, rfl, upd_same⟩ q
theorem valV_dic (kvs : List (Str × Str)) (z : Str) : valV (dicV kvs) (Sum.inr z) = (kvs.lookup z).map V.str := by
  induction kvs with
  | nil => rfl
  | cons kv kvs ih =>
    obtain ⟨k, x⟩ := kv
    rw [List.lookup_cons]
    by_cases h : z = k
    · subst h
      simp [dicV, valV]
    · have h' : (z == k) = false := by simpa using h
      rw [h']
      have e : valV (dicV ((k, x) :: kvs)) (Sum.inr z) = valV (dicV kvs) (Sum.inr z) := by
        have hk : ¬ (Sum.inr k : Key) = Sum.inr z := fun e => h (Sum.inr.inj e).symm
        simp [dicV, valV, hk]
      rw [e, ih]
theorem notin_dic {kvs : List (Str × Str)} {z : Str} (q : Q (.d (.bl (!(kvs.lookup z).isSome)))) : RR K rNotInDic (.d (.str z)) (.dic kvs) Q := fun N M L H0 H v1 v2 b k o1 o2 R r => by
  cases o1
  obtain ⟨a, rfl, g⟩ := o2
  refine ⟨a, _, rfl, DGet.k (k := Sum.inr z) g, ?_⟩
  rw [valV_dic]
  have e : ((kvs.lookup z).map V.str).isSome = (kvs.lookup z).isSome := by cases kvs.lookup z <;> rfl
  rw [e]
  exact r (.d (.bl _)) _ H (Kp.refl (k.bs b)) (Is.bl _) q
theorem de_dget (h : DE K ta es fun s => ∃ kvs, s = .dic kvs ∧ DE K tb es fun z => ∃ y x, z = .d (.str y) ∧ kvs.lookup y = some x ∧ Q (.d (.str x))) : DE K (tDGet ta tb) es Q := fun P N M L σ H S R k => by
  refine h P N M L σ H S _ fun s v H1 k1 o1 q1 => ?_
  obtain ⟨kvs, rfl, q⟩ := q1
  refine q P N M L σ H1 (S.kp k1) _ fun z w H2 k2 o2 q2 => ?_
  obtain ⟨y, x, rfl, e, q⟩ := q2
  cases o2
  obtain ⟨a, rfl, g⟩ := SvOk.kp S.bs k1 k2 o1
  refine ⟨a, .str x, rfl, ?_, k (.d (.str x)) _ H2 (k1.trans k2) (Is.str _) q⟩
  have := DGet.k (k := Sum.inr y) g
  rw [valV_dic, e] at this
  exact this
end
end DL

namespace DL
open PySem PySem.Spec PyProof.Rows L2
theorem op_repS {X : Cx} : OpR X (binaryOp .Mult) rRepS := by
  intro pins s σ H x y v u Q I rx ry h
  obtain ⟨a, n, rfl, rfl, ok, q⟩ := h
  obtain ⟨t, rfl⟩ := (show ∃ t, v = Value.str a t from rx)
  obtain ⟨t', rfl⟩ := (show ∃ t, u = Value.int n t from ry)
  exact PySem.SB.mul ok fun t2 k => ⟨.str _, H, I.tok k, ⟨t2, rfl⟩, q⟩
theorem room1 {k : Nat} {A : Around} (h : Room k A) : A.units + 1 < cLine := by have := h.un; omega
/-! ### try: return ("deed", f(..)) except C as e: strange = isinstance(e, (..)); return ("no", e.f if isinstance(e, ValueError) and not strange else None) -/
def tSuite2 (K : PySem.W.Frag) (w : Str) (i j : Nat) (Cs : List V) (C : Addr) (f : Str) : Addr → Value → Option Addr → TS := fun a cls d =>
  tSeq (tAsg (tCB (rIsXT K a cls d) (tCons (tVar i) (tCons (tTup (tConsL Cs)) tNil))) (gName j)) (tRet (tTup (tCons (tC (.str w)) (tCons (tIf (tAnd (tB (tCB (rIsX1 K a cls d) (tCons (tVar i) (tCons (tC (.ty "ValueError")) tNil)))) (tNot (tB (tVar j)))) (tXf a cls d C f (tVar i)) (tC .non)) tNil))))
def tTryE2 (K : PySem.W.Frag) (w : Str) (i j : Nat) (Cs : List V) (C : Addr) (f : Str) (tb : WX → TS) : TS := fun D σ H => tb (wAs K (.ref C) i (tSuite2 K w i j Cs C f) (fun _ _ _ _ => False) D) D σ H
theorem ds_tryE2 {K : PySem.W.Frag} {es : Env'} {B : DEnds} {xp : XP} {i j : Nat} {Cs : List V} {C : Addr} {f w : Str} {tb : WX → TS} (sf : SuiteF K Cs C) (hi : i < es.length) (hj : j < es.length) (hij : i ≠ j) (hl : Cs.length ≤ 100)
    (hb : DSX K tb es B xp) (hx : ∀ C' f' d, xp C' f' d → C' = C ∧ f' = f ∧ B.rt (.d (.tup [.str w, d]))) : DS K (tTryE2 K w i j Cs C f tb) es B := fun F P M L σ H S E o => by
  refine hb F P M L σ H S E o _ fun C' dd f' v d H' k n e iv z => ?_
  obtain ⟨rfl, rfl, q⟩ := hx C' f' d z
  refine ⟨true, sf.me, fun _ a ha => ?_, fun z => by cases z⟩
  have li : i < σ.length := by rw [S.st.len]; exact hi
  have lj : j < (σ.set i (some (.ref a))).length := by rw [List.length_set, S.st.len]; exact hj
  have gi : (σ.set i (some (V.ref a)))[i]? = some (some (.ref a)) := List.getElem?_set_self li
  obtain ⟨us, pu, ku⟩ := sf.all
  refine ⟨.ref a, gi, ?_⟩
  show tCons (tTup (tConsL Cs)) tNil _ _ _
  refine tConsL_ok ?_
  refine ⟨by rw [sizeLine_eq]; omega, fun p hp => ?_⟩
  have hpd : dd ≠ p := ne_of_none e hp
  refine ⟨C', dd, p, [(f', v)], Cs, us, false, rfl, rfl, by rw [upd_ne hpd]; exact e, sf.ex, rfl, upd_same, pu, ku, ?_⟩
  have g2 : ((σ.set i (some (V.ref a))).set j (some (.bl false)))[j]? = some (some (.bl false)) := List.getElem?_set_self lj
  have g3 : ((σ.set i (some (V.ref a))).set j (some (.bl false)))[i]? = some (some (.ref a)) := by rw [List.getElem?_set_ne (Ne.symm hij)]; exact gi
  refine ⟨_, g3, C', dd, [(f', v)], .ty "ValueError", .type "ValueError", true, rfl, rfl, by rw [upd_ne hpd]; exact e, sf.ex, rfl, .ty _, sf.ve, true, rfl, ?_⟩
  show (if true = true then _ else _)
  rw [if_pos rfl]
  refine ⟨_, g2, false, rfl, ?_⟩
  show (if (!false) = true then _ else _)
  rw [if_pos (show (!false) = true from rfl)]
  refine ⟨_, g3, rfl, rfl, dd, [(f', v)], v, rfl, by rw [upd_ne hpd]; exact e, by simp [List.lookup], ?_⟩
  refine ⟨by show 2 ≤ sizeLine; decide, fun p2 hp2 => ?_⟩
  have bs1 := k.bs S.st.bs
  have kn := Kp.new (o := .tup Cs) bs1 hp
  have bs2 := kn.bs bs1
  have kn2 := Kp.new (o := .tup [.str w, v]) bs2 hp2
  have iv2 : Is K F.M0 _ v d := Is.sub S.m0 (Is.kp kn2 bs2 (Is.kp kn bs1 iv))
  exact o.rt (.d (.tup [.str w, d])) _ _ (S.up ((k.trans kn).trans kn2)) (Is.tup upd_same (.cons (.str _) (.cons iv2 .nil))) q
section
variable {K : PySem.W.Frag} {es : Env'} {Q : SV → Prop} {xp : XP}
theorem dex_tup2 {c : Str} {te : WX → TE} (h : DEX K te es (fun s => ∃ x, s.dat = some x ∧ Q (.d (.tup [.str c, x]))) xp) : DEX K (fun W => tTup (tCons (tC (.str c)) (tCons (te W) tNil))) es Q xp := fun P N M L σ H S W w R k => by
  refine h P N M L σ H S W w _ fun s v H1 k1 ok q => ?_
  obtain ⟨x, hx, q⟩ := q
  have hv := ok.data S.bs hx
  refine ⟨by show 2 ≤ sizeLine; decide, fun p hp => ?_⟩
  have bs1 := k1.bs S.bs
  have kn := Kp.new (o := .tup [.str c, v]) bs1 hp
  exact k (.d _) _ _ (k1.trans kn) (Is.tup upd_same (.cons (.str _) (.cons (Is.kp kn bs1 hv) .nil))) q
end
/-! ### e.replace(y, z, 1) of written texts, a token given out -/
def Txt.repl1 (x y z : Str) : Str :=
  if ((Builtin.Str.occurrences x y 0 x.length 1).isEmpty || (y.length == 0 && z.length == 0)) = true then x
  else Builtin.Str.glued z (Builtin.Str.partsBetween x (Builtin.Str.occurrences x y 0 x.length 1) y.length)
theorem repl1_len (x y z : Str) : (Txt.repl1 x y z).length ≤ x.length + z.length := by
  unfold Txt.repl1
  split
  · exact Nat.le_add_right _ _
  · have h1 := StrLaws.occ_length_le x y 0 x.length 1
    have hy : (Builtin.Str.glued y (Builtin.Str.partsBetween x (Builtin.Str.occurrences x y 0 x.length 1) y.length)).length = x.length := by rw [StrLaws.glued_between_self]
    rw [size_glued, length_partsBetween, Nat.add_sub_cancel] at hy
    rw [size_glued, length_partsBetween, Nat.add_sub_cancel]
    have h2 : (Builtin.Str.occurrences x y 0 x.length 1).length * z.length ≤ 1 * z.length := Nat.mul_le_mul_right _ h1
    omega
theorem gives_repl1 (x y z : Str) (t u v k : Tok) (h0 : (u == 0 || v == 0) = false) (huv : (u == v) = false) (hyz : (y == z) = false) (hl : Builtin.Str.tooLong (x.length + (Builtin.Str.occurrences x y 0 x.length 1).length * z.length) = false) :
    Gives (Builtin.«str.replace» ⟨[.str x t, .str y u, .str z v, .int 1 k], []⟩) (if ((Builtin.Str.occurrences x y 0 x.length 1).isEmpty || (y.length == 0 && z.length == 0)) = true then .val (.str x t) else .str (Builtin.Str.glued z (Builtin.Str.partsBetween x (Builtin.Str.occurrences x y 0 x.length 1) y.length))) := by
  show Gives (if ((Builtin.Str.occurrences x y 0 x.length 1).isEmpty || (y.length == 0 && z.length == 0)) = true then (do rule "str.replace.nothing"; ret (.str x t)) else
          (do let same ← isSame (.str y u) (.str z v)
              if same = true then (do rule "str.replace.old-is-new"; ret (.str x t)) else
              if Builtin.Str.tooLong (x.length + (Builtin.Str.occurrences x y 0 x.length 1).length * z.length) = true then unsupported "str.replace:memory" else
              retStr (Builtin.Str.glued z (Builtin.Str.partsBetween x (Builtin.Str.occurrences x y 0 x.length 1) y.length)))) _
  cases hc : ((Builtin.Str.occurrences x y 0 x.length 1).isEmpty || (y.length == 0 && z.length == 0))
  · rw [isSame_str_other y z u v h0 huv hyz, hl]
    exact .of_eq rfl
  · exact .rule (.of_eq rfl)
def tRepl1 (to : TE) (y z : Str) : TE := fun σ H Q => to σ H fun v H1 => ∃ x, v = .str x ∧ x.length + z.length ≤ 16777216 ∧ Q (.str (Txt.repl1 x y z)) H1
section
variable {X : Cx} {o : Expr} {to te : TE} {y z : Str} {j k i : Nat} {c0 c1 c2 apos pos : Pos} {es : List Expr} {ta : TA}
theorem pet_repl1 (ho : PE X o to) (hyz : (y == z) = false := by decide +kernel)
    (hst : starEach [.Constant (.str y) j c0, .Constant (.str z) k c1, .Constant (.int 1) i c2] X.env = [(false, eval (.Constant (.str y) j c0) X.env), (false, eval (.Constant (.str z) k c1) X.env), (false, eval (.Constant (.int 1) i c2) X.env)] := by rfl)
    (hbase : attributeBase o "replace" X.env (eval o X.env) = eval o X.env := by rfl) (hline : (apos.endLine == pos.line) = true := by rfl) :
    PET X (.Call (.Attribute o "replace" apos) [.Constant (.str y) j c0, .Constant (.str z) k c1, .Constant (.int 1) i c2] [] pos) (tRepl1 to y z) := by
  intro pins s σ H Q h0 I h
  refine wpAny_Call_method_lateS hbase (by rw [hst]; rfl) hline ?_
  rw [hst]
  refine (wpAny_mono (PySem.wpAny_toks (ho.run pins s σ H _ I h)) (fun v s1 q => ?_) fun _ _ z => z.2)
  obtain ⟨hk, v', H1, I1, r1, x, e1, hb, q⟩ := q
  subst e1
  obtain ⟨tx, e2⟩ := r1
  subst e2
  refine ⟨"str", _, PySem.F.plainAttrs_str, PySem.F.slot_str_replace, PySem.F.type_str_replace, typeIs_str _ _ _, (fun _ e => nomatch e), Calls.callWith_builtin rfl (Calls.evalArgs_plain (Calls.spliced_cons ?_))⟩
  refine Calls.Constant_str (k := j) (pos := c0) (Calls.spliced_cons (Calls.Constant_str (k := k) (pos := c1) (Calls.spliced_cons (wpAny_Constant_int (k := i) (pos := c2) (Calls.spliced_nil ?_)))))
  have hu : s1.toks ≠ 0 := by omega
  have hl : Builtin.Str.tooLong (x.length + (Builtin.Str.occurrences x y 0 x.length 1).length * z.length) = false := by
    have h1 := StrLaws.occ_length_le x y 0 x.length 1
    have h2 : (Builtin.Str.occurrences x y 0 x.length 1).length * z.length ≤ 1 * z.length := Nat.mul_le_mul_right _ h1
    unfold Builtin.Str.tooLong sizeLine
    exact decide_eq_false (by have : (2 : Nat) ^ 24 = 16777216 := by decide
                              omega)
  refine call_gives F.slot_str_replace (typeIs_str _ _ _) F.entry_str_replace (F.args_str_replace_4 _ _ _ _)
    (gives_repl1 x y z _ _ _ _ (by simp [hu]) (by simp) hyz hl) ?_
  have hlen := repl1_len x y z
  have q' := q
  unfold Txt.repl1 at q' hlen
  cases hc : ((Builtin.Str.occurrences x y 0 x.length 1).isEmpty || (y.length == 0 && z.length == 0))
  · rw [hc] at q' hlen
    simp only [Bool.false_eq_true, if_false] at q' hlen ⊢
    exact ⟨by rw [sizeLine_eq]; omega, ⟨.str _, H1, I1.tok _, ⟨_, rfl⟩, q'⟩⟩
  · rw [hc] at q'
    simp only [if_true] at q' ⊢
    exact ⟨.str _, H1, I1.tok _, ⟨_, rfl⟩, q'⟩
theorem pa_consT (hr : PAT X es ta) (hs : starEach (.Constant (.str y) j c0 :: es) X.env = (false, eval (.Constant (.str y) j c0) X.env) :: starEach es X.env := by rfl) : PA X (.Constant (.str y) j c0 :: es) (tCons (tC (.str y)) ta) := by
  refine ⟨fun pos pins s σ H Q I h => ?_⟩
  rw [hs]
  show wpAny _ _ (spliced ((false, eval (.Constant (.str y) j c0) X.env) :: backTo pos (starEach es X.env))) _ _ s
  refine Calls.spliced_cons (Calls.Constant_str ?_)
  exact thn (hr pos pins _ σ H _ (by show 1 ≤ s.toks + 1; omega) (I.tok _) h) fun us s2 ⟨xs, H2, I2, r2, q2⟩ => ⟨.str y :: xs, H2, I2, .cons ⟨_, rfl⟩ r2, q2⟩
theorem pet_of (h : PE X o te) : PET X o te := fun pins s σ H Q _ I q => h.run pins s σ H Q I q
end
section
variable {K : PySem.W.Frag} {es : Env'} {Q : SV → Prop} {ta : TE}
theorem de_repl1 {y z : Str} (h : DE K ta es fun s => ∃ x : Str, s = .d (.str x) ∧ x.length + z.length ≤ 16777216 ∧ Q (.d (.str (Txt.repl1 x y z)))) : DE K (tRepl1 ta y z) es Q := fun P N M L σ H S R k => by
  refine h P N M L σ H S _ fun s v H1 k1 ok q => ?_
  obtain ⟨x, rfl, hb, q⟩ := q
  cases ok
  exact ⟨x, rfl, hb, k (.d (.str _)) _ H1 k1 (Is.str _) q⟩
end
theorem for_sgn {x : Str} {g : TG} {tb : TS} {D : Ends} {σ : L2.St} {H : Hp} (Pv : Nat → L2.St → Hp → Prop) (h0 : Pv 0 σ H)
    (hs : ∀ (i c : Nat) (σ : L2.St) (H : Hp), x.cps[i]? = some c → Pv i σ H → g (.str ⟨#[c]⟩) σ H fun σ2 H2 => tb { D with nx := Pv (i + 1), ct := Pv (i + 1), bk := D.nx } σ2 H2) (hd : ∀ σ H, Pv x.cps.size σ H → D.nx σ H) :
    ∃ W : Nat → Nat → L2.St → Hp → Prop, (∃ m, W 0 m σ H) ∧ ∀ i m σ H, W i m σ H →
      ((Its x).stop i H ∧ D.nx σ H) ∨ ((Its x).go i H ∧ ∃ N : L2.St → Hp → Prop, (∀ σ' H', N σ' H' → ∃ m', m' < m ∧ W (i + 1) m' σ' H') ∧ ∀ v H', (Its x).yld i H v H' → g v σ H' fun σ2 H2 => tb { D with nx := N, ct := N, bk := D.nx } σ2 H2) := by
  refine ⟨fun i m σ H => m = x.cps.size - i ∧ i ≤ x.cps.size ∧ Pv i σ H, ⟨x.cps.size, rfl, Nat.zero_le _, h0⟩, ?_⟩
  rintro i m σ H ⟨rfl, hi, p⟩
  by_cases hlt : i < x.cps.size
  · refine .inr ⟨hlt, Pv (i + 1), fun σ' H' p' => ⟨x.cps.size - (i + 1), by omega, rfl, hlt, p'⟩, fun v H' y => ?_⟩
    obtain ⟨rfl, c, hc, rfl⟩ := y
    exact hs i c σ _ hc p
  · obtain rfl : i = x.cps.size := by omega
    exact .inl ⟨Nat.le_refl _, hd σ H p⟩
section
variable {K : PySem.W.Frag} {es : Env'} {B : DEnds} {t : TS}
/-- for c in a text -/
theorem ds_forS {g : TG} {tl : TE} (h : DE K tl es fun s => ∃ x : Str, s = .d (.str x) ∧ ∃ I : Nat → Env' → Prop, I 0 es ∧
    (∀ (i c : Nat) es', x.cps[i]? = some c → I i es' → ∃ js, DG K g (.str ⟨#[c]⟩) js es' fun e2 => DS K t e2 ⟨I (i + 1), B.rt, B.nx, I (i + 1), B.xo⟩) ∧ ∀ es', I x.cps.size es' → B.nx es') : DS K (tFor (iStr tl) g t) es B := fun F P M L σ H S E o => by
  refine h P _ M L σ H S.st _ fun s v H1 k1 o1 q1 => ?_
  obtain ⟨x, rfl, I, h0, hs, hd⟩ := q1
  cases o1
  refine ⟨x, rfl, for_sgn (x := x) (fun i σ H => ∃ es' M' L', Stf K F P M' L' σ H es' ∧ I i es') ⟨es, M, L, S.kp' k1, h0⟩ ?_ ?_⟩
  · rintro i c σ' H' hc ⟨es', M', L', S', hI⟩
    obtain ⟨js, dg⟩ := hs i c es' hc hI
    refine dg.stf S' (Is.str _) _ fun e2 σ2 S2 q => ?_
    refine q F P M' L' σ2 H' S2 _ ?_
    exact o.turn (fun σ H => ∃ es' M' L', Stf K F P M' L' σ H es' ∧ I (i + 1) es') fun e3 M3 L3 σ3 H3 S3 z => ⟨e3, M3, L3, S3, z⟩
  · rintro σ' H' ⟨es', M', L', S', hI⟩
    exact o.nx _ _ _ _ _ S' (hd es' hI)
end
end DL

namespace K82
open PySem PySem.Spec PyProof.Rows L2 DL
local macro_rules | `(tactic| walk_at "dl") => `(tactic| first
  | ((with_reducible refine de_var (s := ?sv) ?hv ?_); (case hv => exact rfl)) | with_reducible refine de_int ?_ | with_reducible refine de_bl ?_ | with_reducible refine de_str ?_ | with_reducible refine de_non ?_ | with_reducible refine de_ty ?_
  | with_reducible refine de_tup' ?_ | with_reducible refine de_lst' ?_ | ((with_reducible refine small_and ?hz ?_); (case hz => exact Nat.le_of_ble_eq_true rfl)) | with_reducible refine nall_d ?_ | with_reducible refine nall_new ?_ | with_reducible refine nall_bag ?_ | with_reducible refine nall_scr ?_ | with_reducible refine nall_nil ?_
  | with_reducible refine de_op ?_ | with_reducible refine de_un ?_ | with_reducible refine de_chain ?_ | with_reducible refine de_cb ?_ | with_reducible refine de_sl ?_
  | with_reducible refine do_none ?_ | with_reducible refine do_some ?_ | with_reducible refine da_cons ?_ | with_reducible refine da_nil ?_
  | with_reducible refine dt_test ?_ | with_reducible refine dt_B ?_ | with_reducible refine dt_not ?_ | with_reducible refine dt_and ?_ | with_reducible refine dt_or ?_ | with_reducible refine dt_yes ?_
  | with_reducible refine de_andV ?_ | with_reducible refine de_orV ?_ | with_reducible refine de_notV ?_
  | with_reducible refine ds_next ?_ | with_reducible refine ds_seq ?_ | with_reducible refine ds_ret ?_ | with_reducible refine ds_retN ?_ | with_reducible refine ds_if ?_ | with_reducible refine ds_brk ?_ | with_reducible refine ds_cont ?_
  | with_reducible refine ds_set ?_
  | with_reducible refine plus_i ?_ | with_reducible refine sub_i ?_ | with_reducible refine lt_i ?_ | with_reducible refine gt_i ?_ | with_reducible refine ge_i ?_ | with_reducible refine le_i ?_ | with_reducible refine le_s ?_ | with_reducible refine neg_i ?_
  | with_reducible refine eq_ii ?_ | with_reducible refine ne_ii ?_ | with_reducible refine eq_ss ?_ | with_reducible refine ne_ss ?_
  | with_reducible refine is_b ?_ | with_reducible refine isnot_b ?_ | with_reducible refine is_n ?_ | with_reducible refine isnot_n ?_ | with_reducible refine in_r ?_ | with_reducible refine notin_r ?_
  | with_reducible refine len_x rfl rfl ?_ | with_reducible refine abs_x ?_ | with_reducible refine max_x ?_ | with_reducible refine min_x ?_ | with_reducible refine rng_x ?_
  | with_reducible refine bag_ix (.inl rfl) (fun g => ?_) | with_reducible refine bag_ix (.inr rfl) (fun g => ?_)
  | with_reducible refine nown_d ?_ | with_reducible refine nown_new ?_ | with_reducible refine ret_d ?_ | with_reducible refine ret_new ?_ | with_reducible refine ret_own ?_
  | with_reducible refine ⟨_, rfl, ?_⟩ | dsimp only [sto_d, sto_new, sto_bag, sto_scr, out_d, out_new, out_own, arg_d, arg_new, arg_bag, arg_scr, List.set, List.map_cons, List.map_nil])

structure CS where
  C_NoCell : Addr
  C_NoDay : Addr
  C_NoDeed : Addr
  C_NoHand : Addr
  C_NoLand : Addr
  C_TooMany : Addr
  C_Unlike : Addr
  C_NoText : Addr
  A_PARTS : Addr
  A_PARTS_0 : Addr
  A_PARTS_1 : Addr
  A_PARTS_2 : Addr
  A_PARTS_3 : Addr

def wholeD : D → Bool
  | .int _ => true
  | _ => false
def sp_is_whole (K : PySem.W.Frag) (Z : CS) : Sp := spD K 1 (fun ss => ∃ x, ss = [.d x] ∧ x.plain = true) fun ss r => ∃ x, ss = [.d x] ∧ r = .d (.bl (wholeD x))
def low (c : Nat) : Bool := if (!decide ((⟨#[c]⟩ : Str).cps.toList < ("a" : Str).cps.toList)) = true then !decide (("z" : Str).cps.toList < (⟨#[c]⟩ : Str).cps.toList) else false
def isS : D → Bool
  | .str _ => true
  | _ => false
def sizedD : D → Bool
  | .str z => decide (1 ≤ z.length) && decide (z.length ≤ 8)
  | _ => false
def handD : D → Bool
  | .str z => sizedD (.str z) && z.cps.toList.all low
  | _ => false
/-- a thing of which it is asked -/
def ask : D → Prop
  | .str z => z.length ≤ 20000
  | x => x.plain = true
def sp_is_hand (K : PySem.W.Frag) (Z : CS) : Sp := spD K 1 (fun ss => ∃ x, ss = [.d x] ∧ ask x) fun ss r => ∃ x, ss = [.d x] ∧ r = .d (.bl (handD x))
def lowS (z : Str) : Prop := ∀ c ∈ z.cps.toList, low c = true
def handOk (z : Str) : Prop := (1 ≤ z.length ∧ z.length ≤ 8) ∧ okS z ∧ lowS z

def sp__law_names (K : PySem.W.Frag) (Z : CS) : Sp := spQ K 2 (fun n : Nat => [.bag, .d (.int (n : Int))]) (fun n => n ≤ 10) fun n r => ∃ zs : List Str, r = .new (zs.map D.str) ∧ zs.length = n ∧ ∀ z ∈ zs, handOk z
def preNo (K : PySem.W.Frag) (Z : CS) (n : Nat) : Sp := spQ K n (fun x : Empty => nomatch x) (fun _ => True) fun _ _ => True
def partsL (w : Str) : List Str := if w = "sale" then ["day", "stretch", "hand"] else if w = "grant" then ["day", "hand", "stretch", "stretch"] else if w = "end" then ["day", "hand", "stretch", "stretch"] else if w = "use" then ["day", "last", "stretch", "stretch", "leave"] else []
def sp_parts_of (K : PySem.W.Frag) (Z : CS) : Sp := spQ K 1 (fun w : Str => [.d (.str w)]) (fun _ => True) fun w r => r = .d (.tup ((partsL w).map D.str))
def dayD : D → Bool
  | .int n => decide (0 ≤ n) && decide (n ≤ 1000000000000000000000000000000)
  | _ => false
def sp_is_day (K : PySem.W.Frag) (Z : CS) : Sp := spQ K 1 (fun x : D => [.d x]) (fun x => x.plain = true) fun x r => r = .d (.bl (dayD x))
inductive PK where
  | day | last | hand | stretch | leave
def PK.s : PK → Str
  | .day => "day"
  | .last => "last"
  | .hand => "hand"
  | .stretch => "stretch"
  | .leave => "leave"
inductive DK where
  | sale | grant | fin | use
def DK.w : DK → Str
  | .sale => "sale"
  | .grant => "grant"
  | .fin => "end"
  | .use => "use"
def DK.ps : DK → List PK
  | .sale => [.day, .stretch, .hand]
  | .grant => [.day, .hand, .stretch, .stretch]
  | .fin => [.day, .hand, .stretch, .stretch]
  | .use => [.day, .last, .stretch, .stretch, .leave]
def nS (n : Nat) : Str := Str.ofString (toString ((n : Nat) : Int))
abbrev bigN : Nat := 1000000000000000000000000000000000000000000000000000000000000
/-- a part of a deed -/
inductive WOk : PK → D → Prop
  | day {n : Nat} (h : n ≤ 1000000000000000000000000000000) : WOk .day (.int (n : Int))
  | last {n : Nat} (h : n ≤ 1000000000000000000000000000000) : WOk .last (.int (n : Int))
  | hand {z : Str} (h : handOk z) : WOk .hand (.str z)
  | stretch {a b : Nat} (ha : a < bigN) (hb : b < bigN) (h1 : 1 ≤ b) : WOk .stretch (.tup [.int (a : Int), .int (b : Int)])
  | leave (b : Bool) : WOk .leave (.bl b)
inductive WAll : List PK → List D → Prop
  | nil : WAll [] []
  | cons {p : PK} {x : D} {ps : List PK} {xs : List D} : WOk p x → WAll ps xs → WAll (p :: ps) (x :: xs)
def LastOk (k : DK) (xs : List D) : Prop := k = .use → ∃ m n : Nat, xs[0]? = some (.int (m : Int)) ∧ xs[1]? = some (.int (n : Int)) ∧ m ≤ n
structure DX where
  k : DK
  xs : List D
def DX.ok (x : DX) : Prop := WAll x.k.ps x.xs ∧ LastOk x.k x.xs
def DX.d (x : DX) : D := .tup (.str x.k.w :: x.xs)
def iS (i : Int) : Str := Str.ofString (toString i)
/-- how a part is written -/
def wtxt : D → Option Str
  | .int n => some (iS n)
  | .str z => some z
  | .tup [.int a, .int b] => some (iS a ++ "+" ++ iS b)
  | .bl true => some "leave"
  | _ => none
def DX.words (x : DX) : List Str := x.k.w :: x.xs.filterMap wtxt
def DX.text (x : DX) : Str := Txt.join (Str.ofString " ") x.words
def sp_show_deed (K : PySem.W.Frag) (Z : CS) : Sp := spQ K 1 (fun x : DX => [.d x.d]) DX.ok fun x r => r = .d (.str x.text)
def dig (c : Nat) : Bool := if (!decide ((⟨#[c]⟩ : Str).cps.toList < ("0" : Str).cps.toList)) = true then !decide (("9" : Str).cps.toList < (⟨#[c]⟩ : Str).cps.toList) else false
def headBad (w : Str) : Bool := match w.cps.toList with
  | c :: _ => decide ((⟨#[c]⟩ : Str) = "0") && !decide (w = "0")
  | [] => false
/-- a word that writes a number, and which -/
def numB (w : Str) : Bool := (decide (1 ≤ w.length) && decide (w.length ≤ 60)) && (w.cps.toList.all dig && !headBad w)
def numV (w : Str) : Nat := NumText.digitsVal w.cps.toList
def numD (w : Str) : D := if numB w = true then .int (numV w : Int) else .non
def strW2 : D → D → D
  | .int m, .int n => if n = 0 then .non else .tup [.int m, .int n]
  | _, _ => .non
def strW (w : Str) : D := strW2 (numD (Txt.partition w (Str.ofString "+")).1) (numD (Txt.partition w (Str.ofString "+")).2.2)
def ltD : D → D → Bool
  | .int a, .int b => decide (a < b)
  | _, _ => false
/-- what the next word is as a part -/
def readP : PK → Option Str → D → D
  | .leave, none, _ => .bl false
  | .leave, some w, _ => if w = "leave" then .bl true else .non
  | .hand, some w, _ => if handD (.str w) = true then .str w else .non
  | .stretch, some w, _ => strW w
  | .day, some w, _ => if dayD (numD w) = true then numD w else .non
  | .last, some w, prev => if (dayD (numD w) && !ltD (numD w) prev) = true then numD w else .non
  | _, none, _ => .non
/-- the parts of the next words: the number of the first wrong one, or the parts -/
def goP : List PK → List Str → D → Nat → Nat ⊕ List D
  | [], ws, _, i => if ws.isEmpty = true then .inr [] else .inl i
  | p :: ps, ws, prev, i => match readP p ws.head? prev with
    | .non => .inl i
    | x => match goP ps ws.tail x (i + 1) with
      | .inl n => .inl n
      | .inr xs => .inr (x :: xs)
def kindOf (w : Str) : Option DK := if w = "sale" then some .sale else if w = "grant" then some .grant else if w = "end" then some .fin else if w = "use" then some .use else none
def readWs : List Str → Nat ⊕ D
  | [] => .inl 0
  | w :: ws => match kindOf w with
    | none => .inl 0
    | some k => match goP k.ps ws (.str w) 1 with
      | .inl n => .inl n
      | .inr xs => .inr (.tup (.str w :: xs))
def readT (t : Str) : Nat ⊕ D := readWs (Txt.split t (Str.ofString " "))
def readX : D → Nat ⊕ D
  | .str t => readT t
  | _ => .inl 0
def toldR : Nat ⊕ D → D
  | .inl n => .tup [.str "no", .int (n : Int)]
  | .inr d => .tup [.str "deed", d]
def boundX : D → Prop
  | .str t => t.length ≤ 20000
  | _ => True
def xpText (Z : CS) (r : Nat ⊕ D) : XP := fun C f d => C = Z.C_NoText ∧ f = "place" ∧ ∃ n : Nat, r = .inl n ∧ d = .int (n : Int)
def sp_read_deed (K : PySem.W.Frag) (Z : CS) : Sp := spX K 1 (fun x : D => [.d x]) (fun x => x.plain = true ∧ boundX x) (fun x r => ∃ d, r = .d d ∧ readX x = .inr d) fun x => xpText Z (readX x)
def sp_read_number (K : PySem.W.Frag) (Z : CS) : Sp := spQ K 1 (fun w : Str => [.d (.str w)]) (fun w => w.length ≤ 20000) fun w r => r = .d (numD w)
def sp__law_number_in (K : PySem.W.Frag) (Z : CS) : Sp := spQ K 1 (fun w : Str => [.d (.str w)]) (fun w => w.length ≤ 20000) fun w r => r = .d (numD w)
def optD : Option Str → D
  | none => .non
  | some z => .str z
def sp__read_leave (K : PySem.W.Frag) (Z : CS) : Sp := spQ K 1 (fun o : Option Str => [.d (optD o)]) (fun _ => True) fun o r => r = .d (readP .leave o .non)
def sp__read_stretch (K : PySem.W.Frag) (Z : CS) : Sp := spQ K 1 (fun w : Str => [.d (.str w)]) (fun w => w.length ≤ 20000) fun w r => r = .d (strW w)
structure RP where
  p : PK
  ws : List Str
  ds : List D
  prev : D
def RP.ok (y : RP) : Prop := (y.p = .last → ∃ m : Int, atI y.ds (-1) = some (.int m) ∧ y.prev = .int m) ∧ (∀ w ∈ y.ws, w.length ≤ 20000)
def sp__read_part (K : PySem.W.Frag) (Z : CS) : Sp := spQ K 3 (fun y : RP => [.d (.str y.p.s), .d (.lst (y.ws.map D.str)), .d (.lst y.ds)]) RP.ok fun y r => r = .d (readP y.p y.ws[y.ds.length]? y.prev)
/-- the law's signs -/
def PK.c : PK → Nat
  | .day => 110
  | .last => 109
  | .hand => 104
  | .stretch => 115
  | .leave => 0
structure IK where
  p : PK
  w : Str
  fs : List Str
  prev : D
def IK.ok (y : IK) : Prop := y.p ≠ .leave ∧ y.w.length ≤ 20000 ∧ (y.p = .last → ∃ f : Str, atI (y.fs.map D.str) (-1) = some (.str f) ∧ numB f = true ∧ y.prev = .int (numV f : Int))
def sp__law_is_kind (K : PySem.W.Frag) (Z : CS) : Sp := spQ K 3 (fun y : IK => [.d (.str y.w), .d (.str ⟨#[y.p.c]⟩), .d (.lst (y.fs.map D.str))]) IK.ok fun y r => r = .d (.bl (!(readP y.p (some y.w) y.prev).isNon))
def placeD : Nat ⊕ D → D
  | .inl n => .int (n : Int)
  | .inr _ => .non
def sp__law_place (K : PySem.W.Frag) (Z : CS) : Sp := spQ K 2 (fun ws : List Str => [.d (.lst (ws.map D.str)), .d (.int 0)]) (fun ws => (∀ w ∈ ws, w.length ≤ 20000 ∧ okS w) ∧ ws.length ≤ 20010) fun ws r => r = .d (placeD (readWs ws))
def sp__law_told (K : PySem.W.Frag) (Z : CS) : Sp := spQ K 1 (fun x : D => [.d x]) (fun x => x.plain = true ∧ boundX x) fun x r => r = .d (toldR (readX x))
def sp__law_due (K : PySem.W.Frag) (Z : CS) : Sp := spQ K 1 (fun t : Str => [.d (.str t)]) (fun t => t.length ≤ 20000 ∧ okS t) fun t r => r = .d (toldR (readT t))
def sp__law_odd_words (K : PySem.W.Frag) (Z : CS) : Sp := spQ K 2 (fun x : DX => [.bag, .d (.lst (x.words.map D.str))]) DX.ok fun x r => ∃ ws : List Str, (r = .new (ws.map D.str) ∨ r = .d (.lst (ws.map D.str))) ∧ ws.length ≤ 20 ∧ ∀ w ∈ ws, w.length ≤ 500 ∧ okS w
def sp__law_number_text (K : PySem.W.Frag) (Z : CS) : Sp := spQ K 2 (fun n : Nat => [.bag, .d (.int (n : Int))]) (fun n => 100 ≤ n ∧ n < bigN) fun n r => ∃ m : Nat, r = .d (.int (m : Int)) ∧ m ≤ n
def sp__law_any_stretch (K : PySem.W.Frag) (Z : CS) : Sp := spQ K 1 (fun _ : Unit => [.bag]) (fun _ => True) fun _ r => ∃ a b : Nat, r = .d (.tup [.int (a : Int), .int (b : Int)]) ∧ a < bigN ∧ b < bigN ∧ 1 ≤ b
def sp__law_any_deed (K : PySem.W.Frag) (Z : CS) : Sp := spQ K 1 (fun _ : Unit => [.bag]) (fun _ => True) fun _ r => ∃ x : DX, r = .d x.d ∧ x.ok
def sp__law_right (K : PySem.W.Frag) (Z : CS) : Sp := spQ K 1 (fun _ : Unit => [.bag]) (fun _ => True) fun _ r => r = .d (.bl true)
def sp_law (K : PySem.W.Frag) : Sp := spD K 1 (fun ss => ∃ ns : List Int, ss = [.scr ns] ∧ ns.length ≤ 63) fun _ r => r = .d (.bl true)


structure LF (K : PySem.W.Frag) (Z : CS) : Prop where
  sf_NoText : SuiteF K [.ref Z.C_NoCell, .ref Z.C_NoDay, .ref Z.C_NoDeed, .ref Z.C_NoHand, .ref Z.C_NoLand, .ref Z.C_TooMany, .ref Z.C_Unlike] Z.C_NoText
  pt_PARTS : ∀ (M : AP) (H : Hp), IsFs K M H [("sale", .ref Z.A_PARTS_0), ("grant", .ref Z.A_PARTS_1), ("end", .ref Z.A_PARTS_2), ("use", .ref Z.A_PARTS_3)] [("sale", .tup [.str "day", .str "stretch", .str "hand"]), ("grant", .tup [.str "day", .str "hand", .str "stretch", .str "stretch"]), ("end", .tup [.str "day", .str "hand", .str "stretch", .str "stretch"]), ("use", .tup [.str "day", .str "last", .str "stretch", .str "stretch", .str "leave"])]

/-- is_whole: 0 thing -/
def rd_is_whole (K : PySem.W.Frag) (Z : CS) : TS := (tRet (tAndV (tCB (rIsi K) (tCons (tVar 0) (tCons (tC (.ty "int")) tNil))) (tNotV (tCB (rIsi K) (tCons (tVar 0) (tCons (tC (.ty "bool")) tNil))))))
/-- is_hand: 0 thing, 1 sign -/
def rd_is_hand (K : PySem.W.Frag) (Z : CS) : TS := (tSeq (tIfS (tOr (tNot (tB (tCB (rIsi K) (tCons (tVar 0) (tCons (tC (.ty "str")) tNil))))) (tNot (tTest (tChain (rLe K) (rLe K) (tC (.int 1)) (tCB (rLenX K) (tCons (tVar 0) tNil)) (tC (.int 8)))))) (tRet (tC (.bl false))) tNext)
    (tRet (tCB (rAll K) (tCons (tLc (iStr (tVar 0)) (gName 1) tYes (tChain (rLe K) (rLe K) (tC (.str "a")) (tVar 1) (tC (.str "z"))) [1]) tNil))))
/-- parts_of: 0 word -/
def rd_parts_of (K : PySem.W.Frag) (Z : CS) : TS := (tRet (tKGet [("sale", .ref Z.A_PARTS_0), ("grant", .ref Z.A_PARTS_1), ("end", .ref Z.A_PARTS_2), ("use", .ref Z.A_PARTS_3)] (tVar 0) (tTup tNil)))
/-- is_day: 0 thing -/
def rd_is_day (K : PySem.W.Frag) (Z : CS) : TS := (tRet (tAndV (tCall (sp_is_whole K Z) [] E0 (tCons (tVar 0) tNil)) (tChain (rLe K) (rLe K) (tC (.int 0)) (tVar 0) (tC (.int 1000000000000000000000000000000)))))
/-- show_deed: 0 deed, 1 words, 2 part, 3 worth -/
def rd_show_deed (K : PySem.W.Frag) (Z : CS) : TS := (tSeq (tAsg (tLst (tCons (tOp (rIx K) (tVar 0) (tC (.int 0))) tNil)) (gName 1))
    (tSeq (tFor (RZ.iZipA K (tCons (tCall (sp_parts_of K Z) [] E0 (tCons (tOp (rIx K) (tVar 0) (tC (.int 0))) tNil)) (tCons (tSl (rSl3 K) (tVar 0) (tPart (tC (.int 1))) tNoPart) tNil))) (gTup K 2 (gCons (gName 2) (gCons (gName 3) gNil))) (tIfS (tTest (tOp (rEqX K) (tVar 2) (tC (.str "stretch")))) (tDrop (tBM K "list" rAppend (tVar 1) (tCons (tJoined ((tFmt (tOp (rIx K) (tVar 3) (tC (.int 0)))) :: ((tC (.str "+")) :: ((tFmt (tOp (rIx K) (tVar 3) (tC (.int 1)))) :: [])))) tNil))) (tIfS (tTest (tOp (rNeX K) (tVar 2) (tC (.str "leave")))) (tDrop (tBM K "list" rAppend (tVar 1) (tCons (tCB rStr2 (tCons (tVar 3) tNil)) tNil))) (tIfS (tB (tVar 3)) (tDrop (tBM K "list" rAppend (tVar 1) (tCons (tC (.str "leave")) tNil))) tNext))))
    (tRet (tM1 (rJoinX K) (tC (.str " ")) (tVar 1)))))
/-- read_deed: 0 text, 1 words, 2 parts, 3 deed, 4 part, 5 worth -/
def rd_read_deed (K : PySem.W.Frag) (Z : CS) (E : XK) : TS := (tSeq (tIfS (tNot (tB (tCB (rIsi K) (tCons (tVar 0) (tCons (tC (.ty "str")) tNil))))) (tRaiseE Z.C_NoText "place" (wOut E) (tCons (tC (.int 0)) tNil)) tNext)
    (tSeq (tAsg (tM1 rSplit (tVar 0) (tC (.str " "))) (gName 1))
    (tSeq (tAsg (tCall (sp_parts_of K Z) [] E0 (tCons (tOp (rIx K) (tVar 1) (tC (.int 0))) tNil)) (gName 2))
    (tSeq (tIfS (tNot (tTruX K (tVar 2))) (tRaiseE Z.C_NoText "place" (wOut E) (tCons (tC (.int 0)) tNil)) tNext)
    (tSeq (tAsg (tLst (tCons (tOp (rIx K) (tVar 1) (tC (.int 0))) tNil)) (gName 3))
    (tSeq (tFor (iTup K (tVar 2)) (gName 4) (tSeq (tAsg (tCall (sp__read_part K Z) [] E0 (tCons (tVar 4) (tCons (tVar 1) (tCons (tVar 3) tNil)))) (gName 5))
    (tSeq (tIfS (tTest (tOp rIsV (tVar 5) (tC .non))) (tRaiseE Z.C_NoText "place" (wOut E) (tCons (tCB (rLenX K) (tCons (tVar 3) tNil)) tNil)) tNext)
    (tDrop (tBM K "list" rAppend (tVar 3) (tCons (tVar 5) tNil))))))
    (tSeq (tIfS (tTest (tOp rGt (tCB (rLenX K) (tCons (tVar 1) tNil)) (tCB (rLenX K) (tCons (tVar 3) tNil)))) (tRaiseE Z.C_NoText "place" (wOut E) (tCons (tCB (rLenX K) (tCons (tVar 3) tNil)) tNil)) tNext)
    (tRet (tCB (rTupleX K) (tCons (tVar 3) tNil))))))))))
/-- read_number: 0 word, 1 sign -/
def rd_read_number (K : PySem.W.Frag) (Z : CS) : TS := (tSeq (tIfS (tNot (tTest (tChain (rLe K) (rLe K) (tC (.int 1)) (tCB (rLenX K) (tCons (tVar 0) tNil)) (tC (.int 60))))) (tRet (tC .non)) tNext)
    (tSeq (tIfS (tNot (tB (tCB (rAll K) (tCons (tLc (iStr (tVar 0)) (gName 1) tYes (tChain (rLe K) (rLe K) (tC (.str "0")) (tVar 1) (tC (.str "9"))) [1]) tNil)))) (tRet (tC .non)) tNext)
    (tSeq (tIfS (tAnd (tTest (tOp (rEqX K) (tOp (rIx K) (tVar 0) (tC (.int 0))) (tC (.str "0")))) (tTest (tOp (rNeX K) (tVar 0) (tC (.str "0"))))) (tRet (tC .non)) tNext)
    (tRet (tCB rIntS (tCons (tVar 0) tNil))))))
/-- _read_part: 0 part, 1 words, 2 deed, 3 word, 4 day -/
def rd__read_part (K : PySem.W.Frag) (Z : CS) : TS := (tSeq (tAsg (tIf (tTest (tOp rLt (tCB (rLenX K) (tCons (tVar 2) tNil)) (tCB (rLenX K) (tCons (tVar 1) tNil)))) (tOp (rIx K) (tVar 1) (tCB (rLenX K) (tCons (tVar 2) tNil))) (tC .non)) (gName 3))
    (tSeq (tIfS (tTest (tOp (rEqX K) (tVar 0) (tC (.str "leave")))) (tRet (tCall (sp__read_leave K Z) [] E0 (tCons (tVar 3) tNil))) tNext)
    (tSeq (tIfS (tTest (tOp rIsV (tVar 3) (tC .non))) (tRet (tC .non)) tNext)
    (tSeq (tIfS (tTest (tOp (rEqX K) (tVar 0) (tC (.str "hand")))) (tRet (tIf (tB (tCall (sp_is_hand K Z) [] E0 (tCons (tVar 3) tNil))) (tVar 3) (tC .non))) tNext)
    (tSeq (tIfS (tTest (tOp (rEqX K) (tVar 0) (tC (.str "stretch")))) (tRet (tCall (sp__read_stretch K Z) [] E0 (tCons (tVar 3) tNil))) tNext)
    (tSeq (tAsg (tCall (sp_read_number K Z) [] E0 (tCons (tVar 3) tNil)) (gName 4))
    (tSeq (tIfS (tOr (tNot (tB (tCall (sp_is_day K Z) [] E0 (tCons (tVar 4) tNil)))) (tAnd (tTest (tOp (rEqX K) (tVar 0) (tC (.str "last")))) (tTest (tOp rLt (tVar 4) (tOp (rIx K) (tVar 2) (tUn rNeg (tC (.int 1)))))))) (tRet (tC .non)) tNext)
    (tRet (tVar 4)))))))))
/-- _read_leave: 0 word -/
def rd__read_leave (K : PySem.W.Frag) (Z : CS) : TS := (tSeq (tIfS (tTest (tOp rIsV (tVar 0) (tC .non))) (tRet (tC (.bl false))) tNext)
    (tRet (tIf (tTest (tOp (rEqX K) (tVar 0) (tC (.str "leave")))) (tC (.bl true)) (tC .non))))
/-- _read_stretch: 0 word, 1 first_word, 2 _, 3 many_word, 4 first, 5 many -/
def rd__read_stretch (K : PySem.W.Frag) (Z : CS) : TS := (tSeq (tAsg (tM1 rPart (tVar 0) (tC (.str "+"))) (gTup K 3 (gCons (gName 1) (gCons (gName 2) (gCons (gName 3) gNil)))))
    (tSeq (tAsg (tCall (sp_read_number K Z) [] E0 (tCons (tVar 1) tNil)) (gName 4))
    (tSeq (tAsg (tCall (sp_read_number K Z) [] E0 (tCons (tVar 3) tNil)) (gName 5))
    (tSeq (tIfS (tOr (tTest (tOp rIsV (tVar 4) (tC .non))) (tOr (tTest (tOp rIsV (tVar 5) (tC .non))) (tTest (tOp (rEqX K) (tVar 5) (tC (.int 0)))))) (tRet (tC .non)) tNext)
    (tRet (tTup (tCons (tVar 4) (tCons (tVar 5) tNil))))))))
/-- _law_bag: 0 script, 1 at, 2 primes, 3 here, 4 great, 5 mixed -/
def rd__law_bag (K : PySem.W.Frag) (Z : CS) : TS := (tSeq (tAsg (tTup (tCons (tC (.int 2147483647)) (tCons (tC (.int 2147483629)) (tCons (tC (.int 2147483587)) (tCons (tC (.int 2147483579)) (tCons (tC (.int 2147483563)) (tCons (tC (.int 2147483549)) (tCons (tC (.int 2147483543)) tNil)))))))) (gName 2))
    (tSeq (tAsg (tIf (tTest (tOp rLt (tVar 1) (tCB (rLenX K) (tCons (tVar 0) tNil)))) (tOp (rIx K) (tVar 0) (tVar 1)) (tC (.int 0))) (gName 3))
    (tSeq (tAsg (tIf (tTest (tOp rGe (tCB rAbsX (tCons (tVar 3) tNil)) (tOp rPow (tC (.int 10)) (tC (.int 18))))) (tCB rAbsX (tCons (tVar 3) tNil)) (tC (.int 0))) (gName 4))
    (tSeq (tAsg (tOp rMod (tOp rPow (tOp (rPlus K) (tOp (rPlus K) (tOp rMod (tVar 3) (tC (.int 2305843009213693951))) (tOp rMul (tC (.int 40961)) (tVar 1))) (tC (.int 19))) (tC (.int 3))) (tOp (rIx K) (tVar 2) (tOp rMod (tVar 1) (tC (.int 7))))) (gName 5))
    (tRet (tLst (tCons (tVar 4) (tCons (tOp (rPlus K) (tOp rMod (tOp rMul (tVar 5) (tOp (rPlus K) (tOp (rPlus K) (tOp rFdv (tVar 5) (tC (.int 5))) (tOp rMul (tC (.int 3)) (tVar 1))) (tC (.int 11)))) (tOp (rIx K) (tVar 2) (tOp rMod (tOp (rPlus K) (tVar 1) (tC (.int 2))) (tC (.int 7))))) (tC (.int 1))) tNil))))))))
/-- _law_take: 0 bag, 1 size, 2 digit -/
def rd__law_take (K : PySem.W.Frag) (Z : CS) : TS := (tSeq (tIfS (tTest (tOp rGt (tOp (rIx K) (tVar 0) (tC (.int 0))) (tC (.int 0)))) (tSeq (tAsg (tOp rMod (tOp (rIx K) (tVar 0) (tC (.int 0))) (tVar 1)) (gName 2))
    (tSeq (tAsg (tOp rFdv (tOp (rIx K) (tVar 0) (tC (.int 0))) (tVar 1)) (gSub (tVar 0) (tC (.int 0)) rSetL))
    (tRet (tVar 2)))) tNext)
    (tSeq (tAsg (tOp rMod (tOp rMul (tOp (rIx K) (tVar 0) (tC (.int 1))) (tC (.int 48271))) (tC (.int 2147483647))) (gSub (tVar 0) (tC (.int 1)) rSetL))
    (tRet (tOp rMod (tOp rFdv (tOp rMod (tOp rMul (tOp (rIx K) (tVar 0) (tC (.int 1))) (tC (.int 69621))) (tC (.int 2147483629))) (tOp rPow (tC (.int 16)) (tC (.int 2)))) (tVar 1)))))
/-- _law_names: 0 bag, 1 size, 2 signs, 3 stem, 4 spot, 5 first, 6 pace, 7 some, 8 k, 9 sign -/
def rd__law_names (K : PySem.W.Frag) (Z : CS) : TS := (tSeq (tAsg (tC (.str "abcdefghijklmnopqrstuvwxyz")) (gName 2))
    (tSeq (tAsg (tM1 (rJoinX K) (tC (.str "")) (tLc (iRng1 (tCons (tOp (rIx K) (tLst (tCons (tC (.int 0)) (tCons (tC (.int 1)) (tCons (tC (.int 2)) (tCons (tC (.int 0)) (tCons (tC (.int 7)) tNil)))))) (tCall (sp__law_take K) [] E0 (tCons (tVar 0) (tCons (tC (.int 5)) tNil)))) tNil)) (gName 8) tYes (tOp (rIx K) (tVar 2) (tCall (sp__law_take K) [] E0 (tCons (tVar 0) (tCons (tC (.int 26)) tNil)))) [8])) (gName 3))
    (tSeq (tAsg (tTup (tCons (tCall (sp__law_take K) [] E0 (tCons (tVar 0) (tCons (tOp (rPlus K) (tCB (rLenX K) (tCons (tVar 3) tNil)) (tC (.int 1))) tNil))) (tCons (tCall (sp__law_take K) [] E0 (tCons (tVar 0) (tCons (tC (.int 26)) tNil))) (tCons (tOp (rIx K) (tLst (tCons (tC (.int 1)) (tCons (tC (.int 25)) (tCons (tC (.int 3)) (tCons (tC (.int 7)) tNil))))) (tCall (sp__law_take K) [] E0 (tCons (tVar 0) (tCons (tC (.int 4)) tNil)))) tNil)))) (gTup K 3 (gCons (gName 4) (gCons (gName 5) (gCons (gName 6) gNil)))))
    (tSeq (tAsg (tLc (iRng1 (tCons (tVar 1) tNil)) (gName 8) tYes (tOp (rIx K) (tVar 2) (tOp rMod (tOp (rPlus K) (tVar 5) (tOp rMul (tVar 6) (tVar 8))) (tC (.int 26)))) [8]) (gName 7))
    (tRet (tLc (iList K (tVar 7)) (gName 9) tYes (tOp (rPlus K) (tOp (rPlus K) (tSl (rSl3 K) (tVar 3) tNoPart (tPart (tVar 4))) (tVar 9)) (tSl (rSl3 K) (tVar 3) (tPart (tVar 4)) tNoPart)) [9]))))))
/-- _law_number_text: 0 bag, 1 most, 2 far -/
def rd__law_number_text (K : PySem.W.Frag) (Z : CS) : TS := (tSeq (tAsg (tOp rSubX (tVar 1) (tCall (sp__law_take K) [] E0 (tCons (tVar 0) (tCons (tOp (rPlus K) (tCB rMinX (tCons (tVar 1) (tCons (tC (.int 3)) tNil))) (tC (.int 1))) tNil)))) (gName 2))
    (tRet (tOp (rIx K) (tLst (tCons (tCall (sp__law_take K) [] E0 (tCons (tVar 0) (tCons (tOp (rPlus K) (tVar 1) (tC (.int 1))) tNil))) (tCons (tVar 2) (tCons (tCall (sp__law_take K) [] E0 (tCons (tVar 0) (tCons (tOp (rPlus K) (tCB rMinX (tCons (tVar 1) (tCons (tC (.int 30)) tNil))) (tC (.int 1))) tNil))) tNil)))) (tCall (sp__law_take K) [] E0 (tCons (tVar 0) (tCons (tC (.int 3)) tNil))))))
/-- _law_any_stretch: 0 bag -/
def rd__law_any_stretch (K : PySem.W.Frag) (Z : CS) : TS := (tRet (tTup (tCons (tCall (sp__law_number_text K Z) [] E0 (tCons (tVar 0) (tCons (tOp rPow (tC (.int 10)) (tC (.int 59))) tNil))) (tCons (tOp (rPlus K) (tC (.int 1)) (tCall (sp__law_number_text K Z) [] E0 (tCons (tVar 0) (tCons (tOp rPow (tC (.int 10)) (tC (.int 59))) tNil)))) tNil))))
/-- _law_any_deed: 0 bag, 1 way, 2 hand, 3 days, 4 froms, 5 overs -/
def rd__law_any_deed (K : PySem.W.Frag) (Z : CS) : TS := (tSeq (tPar 1 2 (tCons (tCall (sp__law_take K) [] E0 (tCons (tVar 0) (tCons (tC (.int 4)) tNil))) (tCons (tOp (rIx K) (tCall (sp__law_names K Z) [] E0 (tCons (tVar 0) (tCons (tC (.int 1)) tNil))) (tC (.int 0))) tNil)))
    (tSeq (tAsg (tCB (L2.rSorted K) (tCons (tLst (tCons (tCall (sp__law_number_text K Z) [] E0 (tCons (tVar 0) (tCons (tOp rPow (tC (.int 10)) (tC (.int 30))) tNil))) (tCons (tCall (sp__law_number_text K Z) [] E0 (tCons (tVar 0) (tCons (tOp rPow (tC (.int 10)) (tC (.int 30))) tNil))) tNil))) tNil)) (gName 3))
    (tSeq (tPar 4 5 (tCons (tCall (sp__law_any_stretch K Z) [] E0 (tCons (tVar 0) tNil)) (tCons (tCall (sp__law_any_stretch K Z) [] E0 (tCons (tVar 0) tNil)) tNil)))
    (tSeq (tIfS (tTest (tOp (rEqX K) (tVar 1) (tC (.int 0)))) (tRet (tTup (tCons (tC (.str "sale")) (tCons (tOp (rIx K) (tVar 3) (tC (.int 0))) (tCons (tVar 4) (tCons (tVar 2) tNil)))))) tNext)
    (tSeq (tIfS (tTest (tOp rLt (tVar 1) (tC (.int 3)))) (tRet (tTup (tCons (tOp (rIx K) (tLst (tCons (tC (.str "grant")) (tCons (tC (.str "end")) tNil))) (tOp rSubX (tVar 1) (tC (.int 1)))) (tCons (tOp (rIx K) (tVar 3) (tC (.int 0))) (tCons (tVar 2) (tCons (tVar 4) (tCons (tVar 5) tNil))))))) tNext)
    (tRet (tTup (tCons (tC (.str "use")) (tCons (tOp (rIx K) (tVar 3) (tCall (sp__law_take K) [] E0 (tCons (tVar 0) (tCons (tC (.int 2)) tNil)))) (tCons (tOp (rIx K) (tVar 3) (tC (.int 1))) (tCons (tVar 4) (tCons (tVar 5) (tCons (tOp (rEqX K) (tCall (sp__law_take K) [] E0 (tCons (tVar 0) (tCons (tC (.int 2)) tNil))) (tC (.int 0))) tNil)))))))))))))
/-- _law_number_in: 0 word, 1 sign -/
def rd__law_number_in (K : PySem.W.Frag) (Z : CS) : TS := (tSeq (tIfS (tOr (tTest (tOp rLt (tCB (rLenX K) (tCons (tVar 0) tNil)) (tC (.int 1)))) (tOr (tTest (tOp rGt (tCB (rLenX K) (tCons (tVar 0) tNil)) (tC (.int 60)))) (tNot (tB (tCB (rAll K) (tCons (tLc (iStr (tVar 0)) (gName 1) tYes (tOp rInSg (tVar 1) (tC (.str "0123456789"))) [1]) tNil)))))) (tRet (tC .non)) tNext)
    (tRet (tIf (tAnd (tTest (tOp (rEqX K) (tOp (rIx K) (tVar 0) (tC (.int 0))) (tC (.str "0")))) (tTest (tOp (rNeX K) (tVar 0) (tC (.str "0"))))) (tC .non) (tCB rIntS (tCons (tVar 0) tNil)))))
/-- _law_is_kind: 0 word, 1 kind, 2 found, 3 first, 4 plus, 5 many, 6 number, 7 sign -/
def rd__law_is_kind (K : PySem.W.Frag) (Z : CS) : TS := (tSeq (tIfS (tTest (tOp (rEqX K) (tVar 1) (tC (.str "h")))) (tRet (tAndV (tChain (rLe K) (rLe K) (tC (.int 1)) (tCB (rLenX K) (tCons (tVar 0) tNil)) (tC (.int 8))) (tCB (rAll K) (tCons (tLc (iStr (tVar 0)) (gName 7) tYes (tOp rInSg (tVar 7) (tC (.str "abcdefghijklmnopqrstuvwxyz"))) [7]) tNil)))) tNext)
    (tSeq (tIfS (tTest (tOp (rEqX K) (tVar 1) (tC (.str "s")))) (tSeq (tAsg (tM1 rPart (tVar 0) (tC (.str "+"))) (gTup K 3 (gCons (gName 3) (gCons (gName 4) (gCons (gName 5) gNil)))))
    (tRet (tAndV (tOp (rEqX K) (tVar 4) (tC (.str "+"))) (tAndV (tOp rNotV (tCall (sp__law_number_in K Z) [] E0 (tCons (tVar 3) tNil)) (tC .non)) (tOp rGt (tOrT K (tCall (sp__law_number_in K Z) [] E0 (tCons (tVar 5) tNil)) (tC (.int 0))) (tC (.int 0))))))) tNext)
    (tSeq (tAsg (tCall (sp__law_number_in K Z) [] E0 (tCons (tVar 0) tNil)) (gName 6))
    (tSeq (tIfS (tOr (tTest (tOp rIsV (tVar 6) (tC .non))) (tTest (tOp rGt (tVar 6) (tOp rPow (tC (.int 10)) (tC (.int 30)))))) (tRet (tC (.bl false))) tNext)
    (tRet (tOrV (tOp (rEqX K) (tVar 1) (tC (.str "n"))) (tOp rGe (tVar 6) (tCB rIntS (tCons (tOp (rIx K) (tVar 2) (tUn rNeg (tC (.int 1)))) tNil)))))))))
/-- _law_place: 0 words, 1 begin, 2 kinds, 3 at, 4 found, 5 kind -/
def rd__law_place (K : PySem.W.Frag) (Z : CS) : TS := (tSeq (tAsg (tDisp [((tC (.str "sale")), (tC (.str "nsh"))), ((tC (.str "grant")), (tC (.str "nhss"))), ((tC (.str "end")), (tC (.str "nhss"))), ((tC (.str "use")), (tC (.str "nmss")))]) (gName 2))
    (tSeq (tIfS (tOr (tTest (tOp (rLe K) (tCB (rLenX K) (tCons (tVar 0) tNil)) (tVar 1))) (tTest (tOp rNotInDic (tOp (rIx K) (tVar 0) (tVar 1)) (tVar 2)))) (tRet (tVar 1)) tNext)
    (tSeq (tPar 3 4 (tCons (tOp (rPlus K) (tVar 1) (tC (.int 1))) (tCons (tLst tNil) tNil)))
    (tSeq (tFor (iStr (tDGet (tVar 2) (tOp (rIx K) (tVar 0) (tVar 1)))) (gName 5) (tSeq (tIfS (tOr (tTest (tOp (rEqX K) (tVar 3) (tCB (rLenX K) (tCons (tVar 0) tNil)))) (tNot (tB (tCall (sp__law_is_kind K Z) [] E0 (tCons (tOp (rIx K) (tVar 0) (tVar 3)) (tCons (tVar 5) (tCons (tVar 4) tNil))))))) (tRet (tVar 3)) tNext)
    (tSeq (tDrop (tBM K "list" rAppend (tVar 4) (tCons (tOp (rIx K) (tVar 0) (tVar 3)) tNil)))
    (tAug 3 (tC (.int 1)) (ipI fun i j => i + j)))))
    (tSeq (tIfS (tAnd (tTest (tOp (rEqX K) (tOp (rIx K) (tVar 0) (tVar 1)) (tC (.str "use")))) (tTest (tOp (rEqX K) (tSl (rSl3 K) (tVar 0) (tPart (tVar 3)) (tPart (tOp (rPlus K) (tVar 3) (tC (.int 1))))) (tLst (tCons (tC (.str "leave")) tNil))))) (tAug 3 (tC (.int 1)) (ipI fun i j => i + j)) tNext)
    (tRet (tIf (tTest (tOp (rEqX K) (tVar 3) (tCB (rLenX K) (tCons (tVar 0) tNil)))) (tC .non) (tVar 3))))))))
/-- _law_odd_words: 0 bag, 1 words, 2 at, 3 way, 4 some, 5 odd -/
def rd__law_odd_words (K : PySem.W.Frag) (Z : CS) : TS := (tSeq (tPar 2 3 (tCons (tCall (sp__law_take K) [] E0 (tCons (tVar 0) (tCons (tCB (rLenX K) (tCons (tVar 1) tNil)) tNil))) (tCons (tCall (sp__law_take K) [] E0 (tCons (tVar 0) (tCons (tC (.int 6)) tNil))) tNil)))
    (tSeq (tAsg (tLst (tCons (tC (.str "")) (tCons (tC (.str "0")) (tCons (tC (.str "00")) (tCons (tC (.str "01")) (tCons (tC (.str "-1")) (tCons (tC (.str "+1")) (tCons (tC (.str "1_0")) (tCons (tC (.str "1+0")) (tCons (tC (.str "0+1")) (tCons (tC (.str "1+1+1")) (tCons (tC (.str "+")) (tCons (tC (.str "1+")) (tCons (tC (.str "a")) (tCons (tC (.str "Ann")) (tCons (tC (.str "abcdefghi")) (tCons (tC (.str "leave")) tNil))))))))))))))))) (gName 4))
    (tSeq (tDrop (tBM K "list" rExtend (tVar 4) (tCons (tLst (tCons (tC (.str "sale")) (tCons (tC (.str "use")) (tCons (tC (.str "1.0")) (tCons (tC (.str "1 ")) (tCons (tC (.str "x1")) (tCons (tCB rStr2 (tCons (tOp rPow (tC (.int 10)) (tC (.int 30))) tNil)) (tCons (tCB rStr2 (tCons (tOp (rPlus K) (tOp rPow (tC (.int 10)) (tC (.int 30))) (tC (.int 1))) tNil)) (tCons (tCB rStr2 (tCons (tOp rSubX (tOp rPow (tC (.int 10)) (tC (.int 60))) (tC (.int 1))) tNil)) tNil))))))))) tNil)))
    (tSeq (tDrop (tBM K "list" rExtend (tVar 4) (tCons (tLst (tCons (tCB rStr2 (tCons (tOp rPow (tC (.int 10)) (tC (.int 60))) tNil)) (tCons (tOp (rPlus K) (tOp (rIx K) (tVar 1) (tVar 2)) (tC (.str "0"))) (tCons (tOp (rPlus K) (tC (.str "0")) (tOp (rIx K) (tVar 1) (tVar 2))) (tCons (tM0 rUpper (tOp (rIx K) (tVar 1) (tVar 2))) (tCons (tSl (rSl3 K) (tOp (rIx K) (tVar 1) (tVar 2)) (tPart (tC (.int 1))) tNoPart) (tCons (tOp rRepS (tOp (rIx K) (tVar 1) (tVar 2)) (tC (.int 2))) tNil))))))) tNil)))
    (tSeq (tAsg (tOp (rIx K) (tVar 4) (tCall (sp__law_take K) [] E0 (tCons (tVar 0) (tCons (tCB (rLenX K) (tCons (tVar 4) tNil)) tNil)))) (gName 5))
    (tSeq (tIfS (tTest (tOp rLt (tVar 3) (tC (.int 3)))) (tRet (tOp (rPlus K) (tOp (rPlus K) (tSl (rSl3 K) (tVar 1) tNoPart (tPart (tVar 2))) (tLst (tCons (tVar 5) tNil))) (tSl (rSl3 K) (tVar 1) (tPart (tOp (rPlus K) (tVar 2) (tC (.int 1)))) tNoPart))) tNext)
    (tSeq (tIfS (tTest (tOp (rEqX K) (tVar 3) (tC (.int 3)))) (tRet (tOp (rPlus K) (tSl (rSl3 K) (tVar 1) tNoPart (tPart (tVar 2))) (tSl (rSl3 K) (tVar 1) (tPart (tOp (rPlus K) (tVar 2) (tC (.int 1)))) tNoPart))) tNext)
    (tSeq (tIfS (tTest (tOp (rEqX K) (tVar 3) (tC (.int 4)))) (tRet (tOp (rPlus K) (tOp (rPlus K) (tSl (rSl3 K) (tVar 1) tNoPart (tPart (tVar 2))) (tLst (tCons (tVar 5) tNil))) (tSl (rSl3 K) (tVar 1) (tPart (tVar 2)) tNoPart))) tNext)
    (tRet (tOp (rIx K) (tLst (tCons (tSl (rSl3 K) (tVar 1) tNoPart (tPart (tVar 2))) (tCons (tOp (rPlus K) (tVar 1) (tLst (tCons (tVar 5) tNil))) tNil))) (tCall (sp__law_take K) [] E0 (tCons (tVar 0) (tCons (tC (.int 2)) tNil)))))))))))))
/-- _law_told: 0 thing, 1 e, 2 strange -/
def rd__law_told (K : PySem.W.Frag) (Z : CS) : TS := (tTryE2 K "no" 1 2 [.ref Z.C_NoCell, .ref Z.C_NoDay, .ref Z.C_NoDeed, .ref Z.C_NoHand, .ref Z.C_NoLand, .ref Z.C_TooMany, .ref Z.C_Unlike] Z.C_NoText "place" (fun W => (tRet (tTup (tCons (tC (.str "deed")) (tCons (tCallNS 1 0 (sp_read_deed K Z) (fun vs zs => pick [0] (vs ++ [] ++ zs)) W (tCons (tVar 0) tNil) tNil) tNil))))))
/-- _law_due: 0 text, 1 words, 2 place, 3 parts, 4 word, 5 first, 6 plus, 7 many, 8 number -/
def rd__law_due (K : PySem.W.Frag) (Z : CS) : TS := (tSeq (tAsg (tIf (tTest (tOp (rNeX K) (tVar 0) (tC (.str "")))) (tM1 rSplit (tVar 0) (tC (.str " "))) (tLst tNil)) (gName 1))
    (tSeq (tAsg (tCall (sp__law_place K Z) [] E0 (tCons (tVar 1) (tCons (tC (.int 0)) tNil))) (gName 2))
    (tSeq (tIfS (tTest (tOp rNotV (tVar 2) (tC .non))) (tRet (tTup (tCons (tC (.str "no")) (tCons (tVar 2) tNil)))) tNext)
    (tSeq (tAsg (tLst (tCons (tOp (rIx K) (tVar 1) (tC (.int 0))) tNil)) (gName 3))
    (tSeq (tFor (iList K (tSl (rSl3 K) (tVar 1) (tPart (tC (.int 1))) tNoPart)) (gName 4) (tSeq (tAsg (tM1 rPart (tVar 4) (tC (.str "+"))) (gTup K 3 (gCons (gName 5) (gCons (gName 6) (gCons (gName 7) gNil)))))
    (tSeq (tAsg (tCall (sp__law_number_in K Z) [] E0 (tCons (tVar 4) tNil)) (gName 8))
    (tIfS (tTest (tOp (rEqX K) (tVar 6) (tC (.str "+")))) (tDrop (tBM K "list" rAppend (tVar 3) (tCons (tTup (tCons (tCB rIntS (tCons (tVar 5) tNil)) (tCons (tCB rIntS (tCons (tVar 7) tNil)) tNil))) tNil))) (tIfS (tTest (tOp rNotV (tVar 8) (tC .non))) (tDrop (tBM K "list" rAppend (tVar 3) (tCons (tVar 8) tNil))) (tIfS (tOr (tTest (tOp (rNeX K) (tVar 4) (tC (.str "leave")))) (tTest (tOp (rNeX K) (tOp (rIx K) (tVar 1) (tC (.int 0))) (tC (.str "use"))))) (tDrop (tBM K "list" rAppend (tVar 3) (tCons (tVar 4) tNil))) tNext))))))
    (tSeq (tIfS (tTest (tOp (rEqX K) (tOp (rIx K) (tVar 1) (tC (.int 0))) (tC (.str "use")))) (tDrop (tBM K "list" rAppend (tVar 3) (tCons (tOp (rEqX K) (tOp (rIx K) (tVar 1) (tUn rNeg (tC (.int 1)))) (tC (.str "leave"))) tNil))) tNext)
    (tRet (tTup (tCons (tC (.str "deed")) (tCons (tCB (rTupleX K) (tCons (tVar 3) tNil)) tNil))))))))))
/-- _law_right: 0 bag, 1 deed, 2 text, 3 turn, 4 odd, 5 thing, 6 more, 7 one -/
def rd__law_right (K : PySem.W.Frag) (Z : CS) : TS := (tSeq (tAsg (tCall (sp__law_any_deed K Z) [] E0 (tCons (tVar 0) tNil)) (gName 1))
    (tSeq (tAsg (tCall (sp_show_deed K Z) [] E0 (tCons (tVar 1) tNil)) (gName 2))
    (tSeq (tIfS (tTest (tOp (rNeX K) (tCB (rRepr K) (tCons (tCall (sp__law_told K Z) [] E0 (tCons (tVar 2) tNil)) tNil)) (tCB (rRepr K) (tCons (tTup (tCons (tC (.str "deed")) (tCons (tVar 1) tNil))) tNil)))) (tRet (tC (.bl false))) tNext)
    (tSeq (tFor (iRng1 (tCons (tC (.int 12)) tNil)) (gName 3) (tSeq (tAsg (tM1 (rJoinX K) (tC (.str " ")) (tCall (sp__law_odd_words K Z) [] E0 (tCons (tVar 0) (tCons (tM1 rSplit (tVar 2) (tC (.str " "))) tNil)))) (gName 4))
    (tIfS (tTest (tOp (rNeX K) (tCB (rRepr K) (tCons (tCall (sp__law_told K Z) [] E0 (tCons (tVar 4) tNil)) tNil)) (tCB (rRepr K) (tCons (tCall (sp__law_due K Z) [] E0 (tCons (tVar 4) tNil)) tNil)))) (tRet (tC (.bl false))) tNext)))
    (tSeq (tFor (iList K (tLst (tCons (tC .non) (tCons (tC (.int 0)) (tCons (tC (.bl true)) (tCons (tVar 1) (tCons (tCB (rListX K) (tCons (tVar 1) tNil)) (tCons (tTup (tCons (tC (.str "a")) tNil)) (tCons (tTup tNil) (tCons (tLst tNil) tNil)))))))))) (gName 5) (tIfS (tTest (tOp (rNeX K) (tCB (rRepr K) (tCons (tCall (sp__law_told K Z) [] E0 (tCons (tVar 5) tNil)) tNil)) (tCB (rRepr K) (tCons (tTup (tCons (tC (.str "no")) (tCons (tC (.int 0)) tNil))) tNil)))) (tRet (tC (.bl false))) tNext))
    (tSeq (tAsg (tLst (tCons (tC (.str "")) (tCons (tC (.str " ")) (tCons (tOp (rPlus K) (tC (.str " ")) (tVar 2)) (tCons (tOp (rPlus K) (tVar 2) (tC (.str " "))) (tCons (tRepl1 (tVar 2) " " "  ") (tCons (tRepl1 (tVar 2) " " "+") (tCons (tSl (rSl3 K) (tVar 2) tNoPart (tPart (tUn rNeg (tC (.int 1))))) (tCons (tSl (rSl3 K) (tVar 2) (tPart (tC (.int 1))) tNoPart) tNil))))))))) (gName 6))
    (tRet (tAndV (tCB (rAll K) (tCons (tLc (iList K (tVar 6)) (gName 7) tYes (tOp (rEqX K) (tCB (rRepr K) (tCons (tCall (sp__law_told K Z) [] E0 (tCons (tVar 7) tNil)) tNil)) (tCB (rRepr K) (tCons (tCall (sp__law_due K Z) [] E0 (tCons (tVar 7) tNil)) tNil))) [7]) tNil)) (tOp (rEqX K) (tOp (rIx K) (tCall (sp__law_told K Z) [] E0 (tCons (tVar 2) tNil)) (tC (.int 1))) (tVar 1))))))))))
/-- law: 0 script, 1 k, 2 bag, 3 turn -/
def rd_law (K : PySem.W.Frag) (Z : CS) : TS := (tSeq (tFor (iRng1 (tCons (tCB rMaxX (tCons (tC (.int 2)) (tCons (tCB rMinX (tCons (tC (.int 4)) (tCons (tCB (rLenX K) (tCons (tVar 0) tNil)) tNil))) tNil))) tNil)) (gName 1) (tSeq (tAsg (tCall (sp__law_bag K) [] E0 (tCons (tVar 0) (tCons (tVar 1) tNil))) (gName 2))
    (tFor (iRng1 (tCons (tC (.int 6)) tNil)) (gName 3) (tIfS (tNot (tB (tCall (sp__law_right K Z) [] E0 (tCons (tVar 2) tNil)))) (tRet (tC (.bl false))) tNext))))
    (tRet (tC (.bl true))))

section
variable {K : PySem.W.Frag} {Z : CS}
theorem sem__law_bag (ss : List SV) (hp : preBag ss) : DS K (rd__law_bag K Z) (startE 6 ss) { nx := fun _ => postBag ss (.d .non), rt := postBag ss } := semBag ss hp
theorem sem__law_take (ss : List SV) (hp : preTake ss) : DS K (rd__law_take K Z) (startE 3 ss) { nx := fun _ => postTake ss (.d .non), rt := postTake ss } := semTake ss hp
theorem len_sB {z : Str} (hz : z.length ≤ 20000) : (D.str z).len = some z.length := by
  show (if z.length ≤ sizeLine then some z.length else none) = _
  rw [if_pos (Nat.le_trans hz (by decide))]
theorem whole_is {x : D} : (isInt x && !isBool x) = wholeD x := by cases x <;> rfl
theorem sem_is_whole (lf : LF K Z) (ss : List SV) (hp : ∃ x, ss = [.d x] ∧ x.plain = true) : DS K (rd_is_whole K Z) (startE 1 ss) { nx := fun _ => ∃ x, ss = [.d x] ∧ SV.d .non = .d (.bl (wholeD x)), rt := fun r => ∃ x, ss = [.d x] ∧ r = .d (.bl (wholeD x)) } := by
  obtain ⟨x, rfl, hx⟩ := hp
  show DS K (rd_is_whole K Z) [some (.d x)] _
  unfold rd_is_whole
  repeat walk_at "dl"
  refine rc_isi hx (kit_isInt hx) ?_
  repeat walk_at "dl"
  refine ite_b (fun h => ?_) (fun h => ?_)
  · repeat walk_at "dl"
    refine rc_isi hx (kit_isBool hx) ?_
    repeat walk_at "dl"
    rw [← whole_is, h, Bool.true_and]
  · repeat walk_at "dl"
    rw [← whole_is, h, Bool.false_and]
theorem call_whole {es : Env'} {i : Nat} {x : D} {Q : SV → Prop} (e : es[i]? = some (some (.d x))) (hx : x.plain = true) (q : Q (.d (.bl (wholeD x)))) : DE K (tCall (sp_is_whole K Z) [] E0 (tCons (tVar i) tNil)) es Q := by
  refine de_call (da_cons (de_var e (da_nil ⟨⟨trivial, trivial⟩, rfl, ⟨x, rfl, hx⟩, ?_⟩)))
  rintro r ⟨y, e', rfl⟩
  injection e' with e1 e2
  cases e1
  exact q
theorem ask_plain {x : D} (h : ask x) : x.plain = true := by
  cases x <;> first | rfl | exact h

theorem kit_str (x : D) (h : x.plain = true) : kitB x.tyN "str" = some (isS x) := by
  have h1 : kitB "NoneType" "str" = some false := by decide +kernel
  have h2 : kitB "bool" "str" = some false := by decide +kernel
  have h3 : kitB "int" "str" = some false := by decide +kernel
  have h4 : kitB "str" "str" = some true := by decide +kernel
  have h5 : kitB "list" "str" = some false := by decide +kernel
  have h6 : kitB "tuple" "str" = some false := by decide +kernel
  cases x <;> first | exact h1 | exact h2 | exact h3 | exact h4 | exact h5 | exact h6 | cases h


theorem low_e {z : Str} {es : Env'} {c : Nat} {i : Nat} (h : es[i]? = some (some (.d (.str ⟨#[c]⟩)))) {Q : SV → Prop} (q : Q (.d (.bl (low c)))) : DE K (tChain (rLe K) (rLe K) (tC (.str "a")) (tVar i) (tC (.str "z"))) es Q := by
  refine DE.mono (Q := fun s => s = .d (.bl (low c))) ?_ (fun s e => by rw [e]; exact q)
  refine de_chain (de_str (de_var h ?_))
  repeat walk_at "dl"
  refine ite_b (fun h => ?_) (fun h => ?_)
  · repeat walk_at "dl"
    show SV.d (.bl _) = SV.d (.bl (low c))
    unfold low
    rw [if_pos h]
  · show SV.d (.bl _) = SV.d (.bl (low c))
    unfold low
    rw [if_neg (by rw [h]; decide)]
theorem sem_is_hand (lf : LF K Z) (ss : List SV) (hp : ∃ x, ss = [.d x] ∧ ask x) : DS K (rd_is_hand K Z) (startE 2 ss) { nx := fun _ => ∃ x, ss = [.d x] ∧ SV.d .non = .d (.bl (handD x)), rt := fun r => ∃ x, ss = [.d x] ∧ r = .d (.bl (handD x)) } := by
  obtain ⟨x, rfl, hx⟩ := hp
  show DS K (rd_is_hand K Z) [some (.d x), none] _
  unfold rd_is_hand
  refine ds_seq (ds_if (DT.mono (Q := fun b => b = !(sizedD x)) ?_ ?_))
  · repeat walk_at "dl"
    refine rc_isi (ask_plain hx) (kit_str x (ask_plain hx)) ?_
    repeat walk_at "dl"
    cases x with
    | str z =>
      have hz : z.length ≤ 20000 := hx
      refine ite_b (fun h => by cases h) (fun _ => ?_)
      repeat walk_at "dl"
      refine len_x rfl (len_sB hz) ?_
      repeat walk_at "dl"
      refine ite_b (fun h => ?_) (fun h => ?_)
      · repeat walk_at "dl"
        have h' := of_decide_eq_true h
        show (!decide ((z.length : Int) ≤ 8)) = !(decide (1 ≤ z.length) && decide (z.length ≤ 8))
        rw [decide_eq_true (show 1 ≤ z.length by omega), Bool.true_and]
        congr 1
        exact decide_eq_decide.mpr (by omega)
      · have h' := of_decide_eq_false h
        refine ⟨_, rfl, ?_⟩
        show (!false) = !(decide (1 ≤ z.length) && decide (z.length ≤ 8))
        rw [decide_eq_false (show ¬ 1 ≤ z.length by omega), Bool.false_and]
    | _ => exact ite_b (fun _ => rfl) (fun h => by cases h)
  · rintro _ rfl
    refine ite_b (fun h => ?_) (fun h => ?_)
    · repeat walk_at "dl"
      have : sizedD x = false := by simpa using h
      cases x <;> first | rfl | skip
      rename_i z
      show SV.d (D.bl false) = SV.d (D.bl (sizedD (.str z) && z.cps.toList.all low))
      rw [this]; rfl
    · have hs : sizedD x = true := by simpa using h
      cases x <;> first | (cases hs; done) | skip
      rename_i z
      have hz : z.length ≤ 20000 := hx
      repeat walk_at "dl"
      refine de_lcS ?_
      repeat walk_at "dl"
      refine ⟨Nat.le_trans hz (by decide), fun i acc => acc = ((z.cps.toList.take i).map fun c => D.bl (low c)), rfl, fun i c hc acc hJ _ => ?_, fun acc hJ _ => ?_⟩
      · show DG K _ _ _ [some (SV.d (D.str z)), none] _
        refine dg_name ?_
        repeat walk_at "dl"
        refine ite_b (fun _ => ?_) (fun h => by cases h)
        refine low_e (z := z) rfl ⟨_, rfl, ?_⟩
        have hc' : z.cps.toList[i]? = some c := by rw [← hc]; simp
        rw [hJ, take_get hc', List.map_append]; rfl
      · have hJ' : acc = (z.cps.toList.map low).map D.bl := by
          rw [hJ, ← cps_len z, List.take_length, List.map_map]; rfl
        repeat walk_at "dl"
        refine rc_all (bs := z.cps.toList.map low) (by rw [hJ']; rfl) ?_
        repeat walk_at "dl"
        show SV.d (D.bl _) = SV.d (D.bl (sizedD (.str z) && z.cps.toList.all low))
        rw [hs, List.all_map]; rfl
theorem log2_small {n : Int} (h : n.natAbs < 100000) : n.natAbs.log2 < 9000 := by
  have : n.natAbs.log2 < 64 := log2_le_of_lt (by omega) (by decide)
  omega
theorem call_bag {ns : List Int} {i k : Nat} {es : Env'} {j : Nat} {Q : SV → Prop} (hk : k < 64) (h0 : es[i]? = some (some (.scr ns))) (h1 : es[j]? = some (some (.d (.int k)))) (q : ∀ g m : Int, Q (.new [.int g, .int m])) : DE K (tCall (sp__law_bag K) [] E0 (tCons (tVar i) (tCons (tVar j) tNil))) es Q := by
  refine de_call (da_cons (de_var h0 (da_cons (de_var h1 (da_nil ⟨⟨trivial, trivial, trivial⟩, rfl, ⟨ns, k, rfl, hk⟩, ?_⟩)))))
  rintro r ⟨g, m, rfl⟩
  exact q g m
theorem ixN_nat {n t : Nat} (h : t < n) : ixN n (t : Int) = some t := by
  unfold ixN
  split
  · rw [if_pos (by omega)]
    congr 1
  · omega
theorem at_0 (x : D) (xs : List D) : atI (x :: xs) 0 = some x := by
  unfold atI
  rw [show (0 : Int) = ((0 : Nat) : Int) from rfl, ixN_nat (n := (x :: xs).length) (t := 0) (Nat.succ_pos _)]
  rfl

theorem dt_truT {es : Env'} {ta : TE} {Q : Bool → Prop} (h : DE K ta es fun s => ∃ xs, s = .d (.tup xs) ∧ Q (!xs.isEmpty)) : DT K (tTruX K ta) es Q := fun P N M L σ H S R k => by
  refine h P N M L σ H S _ fun s v H1 k1 o q => ?_
  obtain ⟨xs, rfl, q⟩ := q
  have o' : Is K M H1 v (.tup xs) := o
  obtain ⟨a, vs, rfl, g, i⟩ := Is.tupS o'
  refine ⟨!vs.isEmpty, .inr (.inl ⟨vs, g, rfl⟩), k _ H1 k1 ?_⟩
  have : vs.isEmpty = xs.isEmpty := by
    have := i.len
    cases vs <;> cases xs <;> first | rfl | (simp at this)
  rw [this]
  exact q
theorem sem_parts_of (lf : LF K Z) (w : Str) (hp : True) : DS K (rd_parts_of K Z) (startE 1 [.d (.str w)]) { nx := fun _ => SV.d .non = .d (.tup ((partsL w).map D.str)), rt := fun r => r = .d (.tup ((partsL w).map D.str)) } := by
  show DS K (rd_parts_of K Z) [some (.d (.str w))] _
  unfold rd_parts_of
  refine ds_ret (de_kget lf.pt_PARTS (de_var rfl ⟨w, rfl, de_tup' (da_nil ⟨[], rfl, Nat.le_of_ble_eq_true rfl, .tup [], rfl, trivial, ?_⟩)⟩))
  unfold partsL
  by_cases h1 : w = "sale"
  · subst h1; rfl
  by_cases h2 : w = "grant"
  · subst h2; rfl
  by_cases h3 : w = "end"
  · subst h3; rfl
  by_cases h4 : w = "use"
  · subst h4; rfl
  rw [if_neg h1, if_neg h2, if_neg h3, if_neg h4]
  have e : ∀ z : Str, ¬ w = z → decide (z = w) = false := fun z h => decide_eq_false fun e => h e.symm
  rw [List.find?_cons_of_neg (by rw [e _ h1]; exact Bool.false_ne_true), List.find?_cons_of_neg (by rw [e _ h2]; exact Bool.false_ne_true), List.find?_cons_of_neg (by rw [e _ h3]; exact Bool.false_ne_true), List.find?_cons_of_neg (by rw [e _ h4]; exact Bool.false_ne_true)]
  rfl
theorem sem_is_day (lf : LF K Z) (x : D) (hp : x.plain = true) : DS K (rd_is_day K Z) (startE 1 [.d x]) { nx := fun _ => SV.d .non = .d (.bl (dayD x)), rt := fun r => r = .d (.bl (dayD x)) } := by
  show DS K (rd_is_day K Z) [some (.d x)] _
  unfold rd_is_day
  refine ds_ret (de_andV (call_whole rfl hp ⟨_, rfl, ?_⟩))
  refine ite_b (fun h => ?_) (fun h => ?_)
  · obtain ⟨n, rfl⟩ : ∃ n, x = .int n := by
      cases x <;> first | exact ⟨_, rfl⟩ | cases h
    refine de_chain (de_int (de_var rfl (le_i ⟨_, rfl, ?_⟩)))
    show if decide (0 ≤ n) = true then _ else SV.ret (.d (.bl false)) ∧ SV.out (.d (.bl false)) = .d (.bl (decide (0 ≤ n) && decide (n ≤ 1000000000000000000000000000000)))
    refine ite_b (fun h1 => ?_) (fun h1 => ?_)
    · refine de_int (le_i ⟨trivial, ?_⟩)
      show SV.d (.bl (decide (n ≤ 1000000000000000000000000000000))) = .d (.bl (decide (0 ≤ n) && decide (n ≤ 1000000000000000000000000000000)))
      rw [h1]
      rfl
    · rw [h1]
      exact ⟨trivial, rfl⟩
  · refine ⟨trivial, ?_⟩
    have : dayD x = false := by
      cases x <;> first | rfl | cases h
    rw [this]
    rfl
theorem hand_ok {z : Str} (h : handOk z) : handD (.str z) = true ∧ okS z := by
  refine ⟨?_, h.2.1⟩
  show (decide (1 ≤ z.length) && decide (z.length ≤ 8) && z.cps.toList.all low) = true
  rw [decide_eq_true h.1.1, decide_eq_true h.1.2]
  rw [show z.cps.toList.all low = true from List.all_eq_true.mpr h.2.2]
  rfl
theorem lowS_app {x y : Str} (a : lowS x) (b : lowS y) : lowS (x ++ y) := fun c hc => by
  have hc' : c ∈ (x.cps ++ y.cps).toList := hc
  rw [Array.toList_append, List.mem_append] at hc'
  exact hc'.elim (a c) (b c)
theorem lowS_cut {x : Str} {lo hi : Option Int} (a : lowS x) : lowS (cutS x lo hi) := fun c hc => by
  have hc' : c ∈ ((x.cps.toList.drop (HT.sIx x.length 0 lo)).take (HT.sIx x.length x.length hi - HT.sIx x.length 0 lo)) := by
    have h : c ∈ (((x.cps.toList.drop (HT.sIx x.length 0 lo)).take (HT.sIx x.length x.length hi - HT.sIx x.length 0 lo)).toArray).toList := hc
    simpa using h
  exact a c (List.mem_of_mem_drop (List.mem_of_mem_take hc'))
theorem lowS_nil : lowS ("" : Str) := fun c hc => by
  have e : (("" : Str)).cps.toList = [] := by decide +kernel
  rw [e] at hc
  cases hc
theorem lowS_join0 : ∀ ys : List Str, (∀ y ∈ ys, lowS y) → lowS (Str.join (Str.ofString "") ys)
  | [], _ => lowS_nil
  | [x], h => h x (by simp)
  | x :: y :: r, h => by
    show lowS (x ++ Str.ofString "" ++ Str.join (Str.ofString "") (y :: r))
    exact lowS_app (lowS_app (h x (by simp)) lowS_nil) (lowS_join0 (y :: r) fun z hz => h z (List.mem_cons_of_mem _ hz))
theorem lowS_join {ys : List Str} (h : ∀ y ∈ ys, lowS y) : lowS (Txt.join (Str.ofString "") ys) := by
  have e : Txt.join (Str.ofString "") ys = Str.join (Str.ofString "") ys := StrLaws.glued_eq_join _ _
  rw [e]
  exact lowS_join0 ys h
theorem lowS_one {c : Nat} (h : low c = true) : lowS ⟨#[c]⟩ := fun d hd => by
  have : d = c := by simpa using hd
  rw [this]
  exact h
theorem low_abc : ∀ c ∈ (("abcdefghijklmnopqrstuvwxyz" : Str)).cps.toList, low c = true := by
  have h : (("abcdefghijklmnopqrstuvwxyz" : Str)).cps.toList.all low = true := by decide +kernel
  exact List.all_eq_true.mp h
theorem ok_abc : okS ("abcdefghijklmnopqrstuvwxyz" : Str) := by unfold okS; decide +kernel
def oneS (y : Str) : Prop := y.length = 1 ∧ okS y ∧ lowS y
theorem oneS_of {c : Nat} (hc : c ∈ (("abcdefghijklmnopqrstuvwxyz" : Str)).cps.toList) : oneS ⟨#[c]⟩ := ⟨rfl, okS_one ok_abc hc, lowS_one (low_abc c hc)⟩
theorem cut2 (z : Str) (k : Int) : (cutS z none (some k)).length + (cutS z (some k) none).length ≤ z.length := by
  have e1 : (cutS z none (some k)).length = min (HT.sIx z.length z.length (some k) - 0) (z.cps.size - 0) := by
    show (((z.cps.toList.drop 0).take (HT.sIx z.length z.length (some k) - 0)).toArray).size = _
    rw [List.size_toArray, List.length_take, List.length_drop, Array.length_toList]
  have e2 : (cutS z (some k) none).length = min (z.length - HT.sIx z.length 0 (some k)) (z.cps.size - HT.sIx z.length 0 (some k)) := by
    show (((z.cps.toList.drop (HT.sIx z.length 0 (some k))).take (z.length - HT.sIx z.length 0 (some k))).toArray).size = _
    rw [List.size_toArray, List.length_take, List.length_drop, Array.length_toList]
  have e3 : HT.sIx z.length 0 (some k) = HT.sIx z.length z.length (some k) := rfl
  have e4 : HT.sIx z.length z.length (some k) ≤ z.length := HT.sIx_le _ _ (Nat.le_refl _) _
  have e5 : z.length = z.cps.size := rfl
  omega
theorem cut7 (z : Str) : (cutS z none (some 7)).length ≤ 7 := by
  have e1 : (cutS z none (some 7)).length = min (HT.sIx z.length z.length (some 7) - 0) (z.cps.size - 0) := by
    show (((z.cps.toList.drop 0).take (HT.sIx z.length z.length (some 7) - 0)).toArray).size = _
    rw [List.size_toArray, List.length_take, List.length_drop, Array.length_toList]
  have e2 : HT.sIx z.length z.length (some 7) = min 7 z.length := HT.sIx_nat _ _ 7
  omega
theorem sem__law_names (lf : LF K Z) (n : Nat) (hp : n ≤ 10) : DS K (rd__law_names K Z) (startE 10 [.bag, .d (.int (n : Int))]) { nx := fun _ => ∃ zs : List Str, SV.d .non = .new (zs.map D.str) ∧ zs.length = n ∧ ∀ z ∈ zs, handOk z, rt := fun r => ∃ zs : List Str, r = .new (zs.map D.str) ∧ zs.length = n ∧ ∀ z ∈ zs, handOk z } := by
  show DS K (rd__law_names K Z) [some .bag, some (.d (.int (n : Int))), none, none, none, none, none, none, none, none] _
  unfold rd__law_names
  repeat walk_at "dl"
  refine de_joinX ?_
  repeat walk_at "dl"
  refine de_lc1 ?_
  repeat walk_at "dl"
  refine call_take rfl ?_
  repeat walk_at "dl"
  refine ⟨by decide, by decide +kernel, fun t t0 t1 => ?_⟩
  refine ixL_any rfl t0 (by exact t1) (fun x hx => ?_)
  obtain ⟨m, rfl, m0, m1⟩ : ∃ m : Int, x = .int m ∧ 0 ≤ m ∧ m ≤ 7 := by
    simp only [List.mem_cons, List.not_mem_nil, or_false] at hx
    rcases hx with rfl | rfl | rfl | rfl | rfl <;> exact ⟨_, rfl, by decide, by decide⟩
  refine da_nil ⟨m, rfl, by omega, by omega, fun i acc => ∃ ys : List Str, acc = ys.map D.str ∧ ys.length = i ∧ ∀ y ∈ ys, oneS y, ⟨[], rfl, rfl, fun _ h => (by cases h)⟩, fun i hi acc hJ _ => ?_, fun acc hJ hl => ?_⟩
  · show DG K _ _ _ [some .bag, some (.d (.int (n : Int))), some (.d (.str "abcdefghijklmnopqrstuvwxyz")), none, none, none, none, none, none, none] _
    refine dg_name ?_
    repeat walk_at "dl"
    refine ite_b (fun _ => ?_) (fun h => by cases h)
    repeat walk_at "dl"
    refine call_take rfl ?_
    repeat walk_at "dl"
    refine ⟨by decide, by decide +kernel, fun d d0 d1 => ?_⟩
    refine ixS_any (by decide) d0 (by exact d1) (fun c hc => ⟨_, rfl, ?_⟩)
    obtain ⟨ys, rfl, h1, h2⟩ := hJ
    refine ⟨ys ++ [⟨#[c]⟩], by rw [List.map_append]; rfl, by rw [List.length_append, h1]; rfl, fun y hy => ?_⟩
    rcases List.mem_append.mp hy with h | h
    · exact h2 y h
    · obtain rfl := List.mem_singleton.mp h
      exact oneS_of hc
  · obtain ⟨ys, rfl, h1, h2⟩ := hJ
    have hs : (ys.map (·.length)).sum ≤ ys.length * 1 := sum_le fun y hy => Nat.le_of_eq (h2 y hy).1
    have hy : ys.length ≤ 7 := by omega
    refine ⟨ys, rfl, by show (ys.map (·.length)).sum + ys.length * 0 ≤ 16777216; omega, ?_⟩
    have lz := len_join (ys := ys)
    have oz : okS (Txt.join (Str.ofString "") ys) := okS_join fun y hy => (h2 y hy).2.1
    have wz : lowS (Txt.join (Str.ofString "") ys) := lowS_join fun y hy => (h2 y hy).2.2
    generalize Txt.join (Str.ofString "") ys = z at lz oz wz
    have hz : z.length ≤ 7 := by omega
    refine ⟨trivial, ?_⟩
    refine ds_seq (ds_unp (de_tup' (da_cons (call_take rfl ?_))))
    repeat walk_at "dl"
    refine len_x rfl (len_s (by omega)) ?_
    repeat walk_at "dl"
    refine ⟨by omega, log2_small (by omega), fun spot s0 s1 => ?_⟩
    repeat walk_at "dl"
    refine call_take rfl ?_
    repeat walk_at "dl"
    refine ⟨by decide, by decide +kernel, fun fst f0 f1 => ?_⟩
    repeat walk_at "dl"
    refine call_take rfl ?_
    repeat walk_at "dl"
    refine ⟨by decide, by decide +kernel, fun pc q0 q1 => ?_⟩
    refine ixL_any rfl q0 (by exact q1) (fun x hx => ?_)
    obtain ⟨pace, rfl, e0, e1⟩ : ∃ m : Int, x = .int m ∧ 0 ≤ m ∧ m ≤ 25 := by
      simp only [List.mem_cons, List.not_mem_nil, or_false] at hx
      rcases hx with rfl | rfl | rfl | rfl <;> exact ⟨_, rfl, by decide, by decide⟩
    refine da_nil ⟨_, rfl, Nat.le_of_ble_eq_true rfl, _, _, rfl, dg_tup rfl (dgs_cons (dg_name (dgs_cons (dg_name (dgs_cons (dg_name (dgs_nil ?_)))))))⟩
    show DS K _ [some .bag, some (.d (.int (n : Int))), some (.d (.str "abcdefghijklmnopqrstuvwxyz")), some (.d (.str z)), some (.d (.int spot)), some (.d (.int fst)), some (.d (.int pace)), none, none, none] _
    refine ds_seq (ds_set (de_lc1 (da_cons (de_var rfl (da_nil ⟨(n : Int), rfl, by omega, by omega, fun i acc => ∃ ys : List Str, acc = ys.map D.str ∧ ys.length = i ∧ ∀ y ∈ ys, oneS y, ⟨[], rfl, rfl, fun _ h => (by cases h)⟩, fun i hi acc hJ _ => ?_, fun acc hJ hl => ⟨trivial, ?_⟩⟩)))))
    · refine dg_name ?_
      repeat walk_at "dl"
      refine ite_b (fun _ => ?_) (fun h => by cases h)
      repeat walk_at "dl"
      refine mul_l (by omega) ?_
      repeat walk_at "dl"
      refine mod_i (by decide) ?_
      refine ixS_any (by decide) (Int.emod_nonneg _ (by decide)) (Int.emod_lt_of_pos _ (by decide)) (fun c hc => ⟨_, rfl, ?_⟩)
      obtain ⟨ys, rfl, h1, h2⟩ := hJ
      refine ⟨ys ++ [⟨#[c]⟩], by rw [List.map_append]; rfl, by rw [List.length_append, h1]; rfl, fun y hy => ?_⟩
      rcases List.mem_append.mp hy with h | h
      · exact h2 y h
      · obtain rfl := List.mem_singleton.mp h
        exact oneS_of hc
    · obtain ⟨us, rfl, u1, u2⟩ := hJ
      have u1 : us.length = n := by rw [u1]; omega
      refine ds_ret (de_lcL (de_var rfl ⟨us.map D.str, rfl, fun n h => (by cases h), by rw [List.length_map]; omega, fun i acc => ∃ zs : List Str, acc = zs.map D.str ∧ zs.length = i ∧ ∀ z ∈ zs, handOk z, ⟨[], rfl, rfl, fun _ h => (by cases h)⟩, fun i x hx acc hJ _ => ?_, fun acc hJ _ => ?_⟩))
      · rw [List.getElem?_map] at hx
        obtain ⟨u, hu', rfl⟩ := Option.map_eq_some_iff.mp hx
        have hu := u2 u (List.mem_of_getElem? hu')
        obtain ⟨zs, rfl, z1, z2⟩ := hJ
        refine dg_name ?_
        repeat walk_at "dl"
        refine ite_b (fun _ => ?_) (fun h => by cases h)
        repeat walk_at "dl"
        refine sl_s (Nat.le_trans hz (by decide)) ?_
        repeat walk_at "dl"
        have c1 := cutS_length z none (some spot)
        have c2 := cutS_length z (some spot) none
        refine plus_s (Nat.le_trans (show _ ≤ 100 by have := hu.1; omega) (by decide)) ?_
        repeat walk_at "dl"
        refine sl_s (Nat.le_trans hz (by decide)) ?_
        have c3 := strLen_append (cutS z none (some spot)) u
        refine plus_s (Nat.le_trans (show _ ≤ 100 by have := hu.1; omega) (by decide)) ?_
        refine ⟨_, rfl, zs ++ [cutS z none (some spot) ++ u ++ cutS z (some spot) none], by rw [List.map_append]; rfl, by rw [List.length_append, z1]; rfl, fun y hy => ?_⟩
        rcases List.mem_append.mp hy with h | h
        · exact z2 y h
        · obtain rfl := List.mem_singleton.mp h
          refine ⟨⟨?_, ?_⟩, okS_app (okS_app (okS_cut oz) hu.2.1) (okS_cut oz), lowS_app (lowS_app (lowS_cut wz) hu.2.2) (lowS_cut wz)⟩
          · rw [strLen_append, strLen_append]
            have := hu.1
            omega
          · rw [strLen_append, strLen_append]
            have := hu.1
            have := cut2 z spot
            omega
      · obtain ⟨zs, rfl, z1, z2⟩ := hJ
        exact ⟨trivial, zs, rfl, by rw [z1, List.length_map, u1], z2⟩
/-! numbers as texts -/
theorem iS_S (n : Nat) : iS (n : Int) = SX.S (TL.numL n) := SX.num_S n
theorem iS_cps (n : Nat) : (iS (n : Int)).cps.toList = TL.numL n := by rw [iS_S]
theorem iS_len {n : Nat} (h : n < bigN) : 1 ≤ (iS (n : Int)).length ∧ (iS (n : Int)).length ≤ 60 := by
  rw [iS_S, SX.S_len]
  refine ⟨?_, TL.numL_len (by decide) (by simpa using h)⟩
  have := TL.numL_ne n
  cases e : TL.numL n with
  | nil => exact absurd e this
  | cons a b => simp
theorem iS_int {n : Nat} (h : n < bigN) : PySem.intText? (iS (n : Int)) = some (n : Int) := by
  have h1 := (iS_len h).2
  rw [iS_S, SX.S_len] at h1
  exact TL.int_num (by omega)
theorem iS_free {n c : Nat} (h : c < 48 ∨ 57 < c) : c ∉ (iS (n : Int)).cps.toList := by
  rw [iS_cps]
  exact TL.numL_free h
theorem num_head : ∀ (m n : Nat), n ≤ m → ∀ c r, TL.numL n = c :: r → c = 48 → n = 0
  | 0, n, hn, c, r, e, hc => by omega
  | m + 1, n, hn, c, r, e, hc => by
    by_cases h : n < 10
    · rw [TL.numL_lt h] at e
      injection e with e1 e2
      omega
    · rw [TL.numL_step (by omega)] at e
      have hne := TL.numL_ne (n / 10)
      cases e2 : TL.numL (n / 10) with
      | nil => exact absurd e2 hne
      | cons a b =>
        rw [e2] at e
        injection e with e3 e4
        have := num_head m (n / 10) (by omega) a b e2 (by omega)
        omega
theorem iS_zero {n : Nat} (h : atI (iS (n : Int)).cps.toList 0 = some 48) : iS (n : Int) = ("0" : Str) := by
  rw [iS_cps] at h
  have hne := TL.numL_ne n
  cases e : TL.numL n with
  | nil => exact absurd e hne
  | cons a b =>
    rw [e] at h
    unfold atI at h
    rw [show (0 : Int) = ((0 : Nat) : Int) from rfl, ixN_nat (n := (a :: b).length) (t := 0) (Nat.succ_pos _)] at h
    have h : some a = some 48 := h
    injection h with h
    have := num_head n n (Nat.le_refl _) a b e h
    subst this
    rfl
theorem iS_log {n : Nat} (h : n < bigN) : ((n : Int)).natAbs.log2 < 1920 := by
  have e : ((n : Int)).natAbs = n := rfl
  rw [e]
  have : n < 2 ^ 200 := Nat.lt_of_lt_of_le h (by decide +kernel)
  have := log2_le_of_lt this (by decide)
  omega
theorem iS_digit {n : Nat} : ∀ c ∈ (iS (n : Int)).cps.toList, 48 ≤ c ∧ c ≤ 57 := by
  rw [iS_cps]
  exact TL.numL_digits n
theorem dig_ok {c : Nat} (h : 48 ≤ c ∧ c ≤ 57) : dig c = true := by
  unfold dig
  have e0 : ("0" : Str).cps.toList = [48] := by decide +kernel
  have e9 : ("9" : Str).cps.toList = [57] := by decide +kernel
  rw [e0, e9]
  have a : decide ((⟨#[c]⟩ : Str).cps.toList < [48]) = false := decide_eq_false fun h2 => by
    have h2 : [c] < [48] := h2
    rw [List.cons_lt_cons_iff] at h2
    rcases h2 with h2 | ⟨_, h2⟩
    · omega
    · cases h2
  have b : decide ([57] < (⟨#[c]⟩ : Str).cps.toList) = false := decide_eq_false fun h2 => by
    have h2 : [57] < [c] := h2
    rw [List.cons_lt_cons_iff] at h2
    rcases h2 with h2 | ⟨_, h2⟩
    · omega
    · cases h2
  rw [a, b]
  rfl
theorem dig_e {es : Env'} {c : Nat} {i : Nat} (h : es[i]? = some (some (.d (.str ⟨#[c]⟩)))) {Q : SV → Prop} (q : Q (.d (.bl (dig c)))) : DE K (tChain (rLe K) (rLe K) (tC (.str "0")) (tVar i) (tC (.str "9"))) es Q := by
  refine de_chain (de_str (de_var h (le_s ⟨_, rfl, ?_⟩)))
  unfold dig at q
  refine ite_b (fun h1 => ?_) (fun h1 => ?_)
  · rw [if_pos h1] at q
    exact de_str (le_s q)
  · rw [if_neg (by rw [h1]; exact Bool.false_ne_true)] at q
    exact q
theorem dig_iff {c : Nat} : dig c = true ↔ 48 ≤ c ∧ c ≤ 57 := by
  refine ⟨fun h => ?_, dig_ok⟩
  unfold dig at h
  have e0 : ("0" : Str).cps.toList = [48] := by decide +kernel
  have e9 : ("9" : Str).cps.toList = [57] := by decide +kernel
  rw [e0, e9] at h
  have lt : ∀ a b : Nat, ([a] < [b]) ↔ a < b := fun a b => by
    rw [List.cons_lt_cons_iff]
    refine ⟨fun h => ?_, .inl⟩
    rcases h with h | ⟨_, h⟩
    · exact h
    · cases h
  by_cases h1 : (!decide ((⟨#[c]⟩ : Str).cps.toList < [48])) = true
  · rw [if_pos h1] at h
    have h1 : ¬ ([c] < [48]) := by simpa using h1
    have h2 : ¬ ([57] < [c]) := by simpa using h
    rw [lt] at h1 h2
    omega
  · rw [if_neg h1] at h
    cases h
theorem dig_in (c : Nat) : dig c = decide (c ∈ ("0123456789" : Str).cps.toList) := by
  have e : ("0123456789" : Str).cps.toList = [48, 49, 50, 51, 52, 53, 54, 55, 56, 57] := by decide +kernel
  rw [e]
  cases h : dig c with
  | true =>
    have := dig_iff.mp h
    refine (decide_eq_true ?_).symm
    simp only [List.mem_cons, List.not_mem_nil, or_false]
    omega
  | false =>
    refine (decide_eq_false fun hm => ?_).symm
    simp only [List.mem_cons, List.not_mem_nil, or_false] at hm
    rw [dig_iff.mpr (by omega)] at h
    cases h
theorem low_iff {c : Nat} : low c = true ↔ 97 ≤ c ∧ c ≤ 122 := by
  unfold low
  have e0 : ("a" : Str).cps.toList = [97] := by decide +kernel
  have e9 : ("z" : Str).cps.toList = [122] := by decide +kernel
  rw [e0, e9]
  have lt : ∀ a b : Nat, ([a] < [b]) ↔ a < b := fun a b => by
    rw [List.cons_lt_cons_iff]
    refine ⟨fun h => ?_, .inl⟩
    rcases h with h | ⟨_, h⟩
    · exact h
    · cases h
  have a1 : decide ((⟨#[c]⟩ : Str).cps.toList < [97]) = decide (c < 97) := decide_eq_decide.mpr (lt c 97)
  have a2 : decide ([122] < (⟨#[c]⟩ : Str).cps.toList) = decide (122 < c) := decide_eq_decide.mpr (lt 122 c)
  rw [a1, a2]
  by_cases h : c < 97
  · rw [decide_eq_true h, if_neg (by simp)]
    exact ⟨fun h => (by cases h), fun h2 => by omega⟩
  · rw [decide_eq_false h, if_pos (show (!false) = true from rfl), Bool.not_eq_true', decide_eq_false_iff_not]
    omega
theorem low_in (c : Nat) : low c = decide (c ∈ ("abcdefghijklmnopqrstuvwxyz" : Str).cps.toList) := by
  have e : ("abcdefghijklmnopqrstuvwxyz" : Str).cps.toList = [97, 98, 99, 100, 101, 102, 103, 104, 105, 106, 107, 108, 109, 110, 111, 112, 113, 114, 115, 116, 117, 118, 119, 120, 121, 122] := by decide +kernel
  rw [e]
  cases h : low c with
  | true =>
    have := low_iff.mp h
    refine (decide_eq_true ?_).symm
    simp only [List.mem_cons, List.not_mem_nil, or_false]
    omega
  | false =>
    refine (decide_eq_false fun hm => ?_).symm
    simp only [List.mem_cons, List.not_mem_nil, or_false] at hm
    rw [low_iff.mpr (by omega)] at h
    cases h
theorem numB_iff {w : Str} : numB w = true ↔ (1 ≤ w.length ∧ w.length ≤ 60) ∧ (∀ c ∈ w.cps.toList, dig c = true) ∧ headBad w = false := by
  unfold numB
  rw [Bool.and_eq_true, Bool.and_eq_true, Bool.and_eq_true, decide_eq_true_eq, decide_eq_true_eq, List.all_eq_true, Bool.not_eq_true']
theorem numB_int {w : Str} (h : numB w = true) : PySem.intText? w = some (numV w : Int) := by
  obtain ⟨⟨h1, h2⟩, h3, _⟩ := numB_iff.mp h
  have e : w = SX.S w.cps.toList := (SX.S_tl w).symm
  have hne : w.cps.toList ≠ [] := fun e => by
    have := cps_len w
    rw [e] at this
    simp at this
    omega
  have := SX.int_S (a := w.cps.toList) (by
    rw [List.all_eq_true]
    intro c hc
    have := dig_iff.mp (h3 c hc)
    rw [decide_eq_true this.1, decide_eq_true this.2]
    rfl) hne (by rw [cps_len]; omega)
  rw [← e] at this
  exact this
theorem vals_up : ∀ (l : List Nat) (a : Nat), (∀ c ∈ l, c ≤ 57) → l.foldl (fun acc c => acc * 10 + (c - 48)) a < (a + 1) * 10 ^ l.length
  | [], a, _ => by simp
  | c :: r, a, h => by
    have hc := h c (by simp)
    have := vals_up r (a * 10 + (c - 48)) fun d hd => h d (List.mem_cons_of_mem _ hd)
    rw [List.foldl_cons, List.length_cons]
    refine Nat.lt_of_lt_of_le this ?_
    rw [Nat.pow_succ, Nat.mul_comm (10 ^ r.length) 10, ← Nat.mul_assoc]
    exact Nat.mul_le_mul_right _ (by omega)
theorem numV_big {w : Str} (h : numB w = true) : numV w < bigN := by
  obtain ⟨⟨h1, h2⟩, h3, _⟩ := numB_iff.mp h
  have := vals_up w.cps.toList 0 fun c hc => (dig_iff.mp (h3 c hc)).2
  rw [cps_len] at this
  have e : numV w = w.cps.toList.foldl (fun acc c => acc * 10 + (c - 48)) 0 := rfl
  rw [e]
  refine Nat.lt_of_lt_of_le this ?_
  have : (10 : Nat) ^ w.length ≤ 10 ^ 60 := Nat.pow_le_pow_right (by decide) h2
  have e60 : (10 : Nat) ^ 60 = bigN := by decide +kernel
  omega
theorem head_at {w : Str} (h : 1 ≤ w.length) : ∃ c r, w.cps.toList = c :: r ∧ atI w.cps.toList 0 = some c := by
  cases e : w.cps.toList with
  | nil =>
    have := cps_len w
    rw [e] at this
    simp at this
    omega
  | cons c r =>
    refine ⟨c, r, rfl, ?_⟩
    unfold atI
    rw [show (0 : Int) = ((0 : Nat) : Int) from rfl, ixN_nat (n := (c :: r).length) (t := 0) (Nat.succ_pos _)]
    rfl
theorem numD_f {w : Str} (h : numB w = false) : numD w = .non := by
  unfold numD
  rw [h]
  rfl
theorem numD_t {w : Str} (h : numB w = true) : numD w = .int (numV w : Int) := by
  unfold numD
  rw [if_pos h]
theorem all_dig {w : Str} {es : Env'} {i j : Nat} {te : TE} {Q : SV → Prop} (hw : es[i]? = some (some (.d (.str w)))) (hl : w.length ≤ 20000) (hij : i ≠ j) (hj : j < es.length)
    (he : ∀ (es' : Env') (c : Nat) (Q' : SV → Prop), es'[j]? = some (some (.d (.str ⟨#[c]⟩))) → Q' (.d (.bl (dig c))) → DE K te es' Q') (q : Q (.d (.bl (w.cps.toList.all dig)))) :
    DE K (tCB (rAll K) (tCons (tLc (iStr (tVar i)) (gName j) tYes te [j]) tNil)) es Q := by
  refine de_cb (da_cons (de_lcS (de_var hw ⟨w, rfl, by omega, fun i acc => acc = ((w.cps.toList.take i).map fun c => D.bl (dig c)), rfl, fun i c hc acc hJ _ => ?_, fun acc hJ _ => ?_⟩)))
  · refine dg_name ?_
    refine dt_yes ?_
    refine ite_b (fun _ => ?_) (fun h => by cases h)
    refine he _ c _ ?_ ⟨_, rfl, ?_⟩
    · rw [List.getElem?_set_self]
      show j < (wipeE es [j]).length
      simpa [wipeE] using hj
    have hc' : w.cps.toList[i]? = some c := by rw [← hc]; simp
    have hJ : acc = ((w.cps.toList.take i).map fun c => D.bl (dig c)) := hJ
    show acc ++ [D.bl (dig c)] = ((w.cps.toList.take (i + 1)).map fun c => D.bl (dig c))
    rw [hJ, take_get hc', List.map_append]
    rfl
  · have hJ : acc = ((w.cps.toList.take w.length).map fun c => D.bl (dig c)) := hJ
    refine da_nil (rc_all (bs := w.cps.toList.map dig) (by rw [hJ, ← cps_len w, List.take_length, List.map_map]; rfl) ?_)
    have e : (w.cps.toList.map dig).all id = w.cps.toList.all dig := by rw [List.all_map]; rfl
    rw [e]
    exact q
theorem sem_read_number (lf : LF K Z) (w : Str) (hp : w.length ≤ 20000) : DS K (rd_read_number K Z) (startE 2 [.d (.str w)]) { nx := fun _ => SV.d .non = .d (numD w), rt := fun r => r = .d (numD w) } := by
  show DS K (rd_read_number K Z) [some (.d (.str w)), none] _
  unfold rd_read_number
  have no : numB w = false → ∀ es, DS K (tRet (tC .non)) es { nx := fun _ => True, rt := fun r => r = .d (numD w) } := fun h es => ds_ret (de_non ⟨trivial, by rw [numD_f h]; rfl⟩)
  have no' : numB w = false → ∀ es {nx : Env' → Prop}, DS K (tRet (tC .non)) es { nx := nx, rt := fun r => r = .d (numD w) } := fun h es nx => ds_ret (de_non ⟨trivial, by rw [numD_f h]; rfl⟩)
  have sz : (D.str w).len = some w.length := by
    show (if w.length ≤ sizeLine then some w.length else none) = _
    rw [if_pos (Nat.le_trans hp (by decide))]
  have bad : ¬ (1 ≤ w.length ∧ w.length ≤ 60) → numB w = false := fun h => by
    cases e : numB w with
    | false => rfl
    | true => exact absurd (numB_iff.mp e).1 h
  refine ds_seq (ds_if (dt_not (dt_test (de_chain (de_int (de_cb (da_cons (de_var rfl (da_nil (len_x rfl sz (le_i ⟨_, rfl, ?_⟩)))))))))))
  refine ite_b (fun h1 => ?_) (fun h1 => ⟨_, rfl, ?_⟩)
  · refine de_int (le_i ⟨_, rfl, ?_⟩)
    refine ite_b (fun h2 => ?_) (fun h2 => ds_next ?_)
    · have : ¬ (w.length : Int) ≤ 60 := by simpa using h2
      exact no' (bad (by omega)) _
    have h1 := of_decide_eq_true h1
    have h2 : (w.length : Int) ≤ 60 := by simpa using h2
    have hl : 1 ≤ w.length ∧ w.length ≤ 60 := by omega
    refine ds_seq (ds_if (dt_not (dt_B (all_dig rfl hp (by decide) (Nat.le_of_ble_eq_true rfl) (fun es' c Q' e q => dig_e e q) ⟨_, rfl, ?_⟩))))
    refine ite_b (fun h3 => ?_) (fun h3 => ds_next ?_)
    · refine no' ?_ _
      have h3 : w.cps.toList.all dig = false := by simpa using h3
      unfold numB
      rw [h3]
      simp
    have h3 : w.cps.toList.all dig = true := by simpa using h3
    obtain ⟨c, r, e, ha⟩ := head_at hl.1
    have nb : numB w = !(decide ((⟨#[c]⟩ : Str) = "0") && !decide (w = "0")) := by
      unfold numB headBad
      rw [decide_eq_true hl.1, decide_eq_true hl.2, h3, e]
      rfl
    have yes : numB w = true → DS K (tRet (tCB rIntS (tCons (tVar 0) tNil))) [some (.d (.str w)), none] { nx := fun _ => SV.d .non = .d (numD w), rt := fun r => r = .d (numD w) } := fun h => by
      refine ds_ret (de_cb (da_cons (de_var rfl (da_nil (int_s (numB_int h) (by omega) ⟨trivial, ?_⟩)))))
      rw [numD_t h]
      rfl
    refine ds_seq (ds_if (dt_and (dt_test (de_op (de_op (de_var rfl (de_int (rr_xS (Nat.le_trans hp (by decide)) ha (de_str (eq_ss ⟨_, rfl, ?_⟩))))))))))
    refine ite_b (fun h4 => ?_) (fun h4 => ds_next (yes ?_))
    · refine dt_test (de_op (de_var rfl (de_str (ne_ss ⟨_, rfl, ?_⟩))))
      refine ite_b (fun h5 => ?_) (fun h5 => ds_next (yes ?_))
      · refine no' ?_ _
        rw [nb, h4, h5]
        rfl
      · rw [nb, h5]
        simp
    · rw [nb, h4]
      rfl
  · refine ite_b (fun _ => ?_) (fun h => by cases h)
    have h1 := of_decide_eq_false h1
    exact no' (bad (by omega)) _
theorem call_num {es : Env'} {i : Nat} {w : Str} {Q : SV → Prop} (h : es[i]? = some (some (.d (.str w)))) (hn : w.length ≤ 20000) (q : Q (.d (numD w))) : DE K (tCall (sp_read_number K Z) [] E0 (tCons (tVar i) tNil)) es Q := by
  refine de_callQ (da_cons (de_var h (da_nil ⟨⟨trivial, trivial⟩, w, rfl, rfl, hn, ?_⟩)))
  rintro r rfl
  exact q
theorem call_numL {es : Env'} {i : Nat} {w : Str} {Q : SV → Prop} (h : es[i]? = some (some (.d (.str w)))) (hn : w.length ≤ 20000) (q : Q (.d (numD w))) : DE K (tCall (sp__law_number_in K Z) [] E0 (tCons (tVar i) tNil)) es Q := by
  refine de_callQ (da_cons (de_var h (da_nil ⟨⟨trivial, trivial⟩, w, rfl, rfl, hn, ?_⟩)))
  rintro r rfl
  exact q
theorem numD_cases (w : Str) : (numB w = false ∧ numD w = .non) ∨ (numB w = true ∧ numD w = .int (numV w : Int)) := by
  cases h : numB w with
  | false => exact .inl ⟨rfl, numD_f h⟩
  | true => exact .inr ⟨rfl, numD_t h⟩
theorem sem__law_number_in (lf : LF K Z) (w : Str) (hp : w.length ≤ 20000) : DS K (rd__law_number_in K Z) (startE 2 [.d (.str w)]) { nx := fun _ => SV.d .non = .d (numD w), rt := fun r => r = .d (numD w) } := by
  show DS K (rd__law_number_in K Z) [some (.d (.str w)), none] _
  unfold rd__law_number_in
  have no' : numB w = false → ∀ es {nx : Env' → Prop}, DS K (tRet (tC .non)) es { nx := nx, rt := fun r => r = .d (numD w) } := fun h es nx => ds_ret (de_non ⟨trivial, by rw [numD_f h]; rfl⟩)
  have sz := len_sB hp
  have bad : ¬ (1 ≤ w.length ∧ w.length ≤ 60) → numB w = false := fun h => by
    cases e : numB w with
    | false => rfl
    | true => exact absurd (numB_iff.mp e).1 h
  refine ds_seq (ds_if (dt_or (dt_test (de_op (de_cb (da_cons (de_var rfl (da_nil (len_x rfl sz (de_int (lt_i ⟨_, rfl, ?_⟩)))))))))))
  refine ite_b (fun h1 => ?_) (fun h1 => ?_)
  · have h1 := of_decide_eq_true h1
    exact no' (bad (by omega)) _
  have h1 := of_decide_eq_false h1
  refine dt_or (dt_test (de_op (de_cb (da_cons (de_var rfl (da_nil (len_x rfl sz (de_int (gt_i ⟨_, rfl, ?_⟩)))))))))
  refine ite_b (fun h2 => ?_) (fun h2 => ?_)
  · have h2 := of_decide_eq_true h2
    exact no' (bad (by omega)) _
  have h2 := of_decide_eq_false h2
  have hl : 1 ≤ w.length ∧ w.length ≤ 60 := by omega
  refine dt_not (dt_B (all_dig rfl hp (by decide) (Nat.le_of_ble_eq_true rfl) (fun es' c Q' e q => de_op (de_var e (de_str (in_sg (by rw [← dig_in]; exact q))))) ⟨_, rfl, ?_⟩))
  refine ite_b (fun h3 => ?_) (fun h3 => ds_next ?_)
  · refine no' ?_ _
    have h3 : w.cps.toList.all dig = false := by simpa using h3
    unfold numB
    rw [h3]
    simp
  have h3 : w.cps.toList.all dig = true := by simpa using h3
  obtain ⟨c, r, e, ha⟩ := head_at hl.1
  have nb : numB w = !(decide ((⟨#[c]⟩ : Str) = "0") && !decide (w = "0")) := by
    unfold numB headBad
    rw [decide_eq_true hl.1, decide_eq_true hl.2, h3, e]
    rfl
  have yes : numB w = true → DE K (tCB rIntS (tCons (tVar 0) tNil)) [some (.d (.str w)), none] (fun s => s.ret ∧ s.out = .d (numD w)) := fun h => by
    refine de_cb (da_cons (de_var rfl (da_nil (int_s (numB_int h) (by omega) ⟨trivial, ?_⟩))))
    rw [numD_t h]
    rfl
  refine ds_ret (de_if (dt_and (dt_test (de_op (de_op (de_var rfl (de_int (rr_xS (Nat.le_trans hp (by decide)) ha (de_str (eq_ss ⟨_, rfl, ?_⟩))))))))))
  refine ite_b (fun h4 => ?_) (fun h4 => yes ?_)
  · refine dt_test (de_op (de_var rfl (de_str (ne_ss ⟨_, rfl, ?_⟩))))
    refine ite_b (fun h5 => ?_) (fun h5 => yes ?_)
    · refine de_non ⟨trivial, ?_⟩
      rw [numD_f (by rw [nb, h4, h5]; rfl)]
      rfl
    · rw [nb, h5]
      simp
  · rw [nb, h4]
    rfl
theorem sem__read_leave (lf : LF K Z) (o : Option Str) (hp : True) : DS K (rd__read_leave K Z) (startE 1 [.d (optD o)]) { nx := fun _ => SV.d .non = .d (readP .leave o .non), rt := fun r => r = .d (readP .leave o .non) } := by
  show DS K (rd__read_leave K Z) [some (.d (optD o))] _
  unfold rd__read_leave
  refine ds_seq (ds_if (dt_test (de_op (de_var rfl (de_non (isv_n ⟨_, rfl, ?_⟩))))))
  cases o with
  | none => exact ite_b (fun _ => ds_ret (de_bl ⟨trivial, rfl⟩)) (fun h => by cases h)
  | some z =>
    refine ite_b (fun h => by cases h) (fun _ => ds_next ?_)
    refine ds_ret (de_if (dt_test (de_op (de_var (s := .d (.str z)) rfl (de_str (eq_ss ⟨_, rfl, ?_⟩))))))
    refine ite_b (fun h => de_bl ⟨trivial, ?_⟩) (fun h => de_non ⟨trivial, ?_⟩)
    · show SV.d (.bl true) = .d (if z = "leave" then D.bl true else D.non)
      rw [if_pos (of_decide_eq_true h)]
    · show SV.d .non = .d (if z = "leave" then D.bl true else D.non)
      rw [if_neg (of_decide_eq_false h)]
theorem first_in {c : Nat} : ∀ {l : List Nat}, c ∈ l → ∃ p q, l = p ++ c :: q ∧ c ∉ p
  | [], h => by cases h
  | d :: l, h => by
    by_cases e : c = d
    · subst e
      exact ⟨[], l, rfl, by simp⟩
    · have h' : c ∈ l := by
        rcases List.mem_cons.mp h with h | h
        · exact absurd h e
        · exact h
      obtain ⟨p, q, rfl, hp⟩ := first_in h'
      exact ⟨d :: p, q, rfl, fun hm => by
        rcases List.mem_cons.mp hm with h | h
        · exact e h
        · exact hp h⟩
theorem plusS : (Str.ofString "+") = SX.S [43] := by decide +kernel
theorem part_spec (w : Str) : (∃ p q, w = SX.S (p ++ 43 :: q) ∧ 43 ∉ p ∧ Txt.partition w (Str.ofString "+") = (SX.S p, Str.ofString "+", SX.S q)) ∨ (43 ∉ w.cps.toList ∧ Txt.partition w (Str.ofString "+") = (w, SX.S [], SX.S [])) := by
  have ew : w = SX.S w.cps.toList := (SX.S_tl w).symm
  by_cases h : 43 ∈ w.cps.toList
  · obtain ⟨p, q, e, hp⟩ := first_in h
    refine .inl ⟨p, q, by rw [← e], hp, ?_⟩
    rw [plusS, ew, e]
    exact SX.partition_some (by decide) (SX.par_head q hp)
  · refine .inr ⟨h, ?_⟩
    have := SX.partition_none (a := w.cps.toList) (b := [43]) (by decide) (SX.par_head_none h)
    rw [← ew, ← plusS] at this
    exact this
theorem part_len (w : Str) : (Txt.partition w (Str.ofString "+")).1.length ≤ w.length ∧ (Txt.partition w (Str.ofString "+")).2.2.length ≤ w.length := by
  rcases part_spec w with ⟨p, q, e, _, h⟩ | ⟨_, h⟩
  · rw [h, e]
    show (SX.S p).length ≤ (SX.S (p ++ 43 :: q)).length ∧ (SX.S q).length ≤ (SX.S (p ++ 43 :: q)).length
    rw [SX.S_len, SX.S_len, SX.S_len, List.length_append, List.length_cons]
    omega
  · rw [h, SX.S_len]
    exact ⟨Nat.le_refl _, Nat.zero_le _⟩
theorem sem__read_stretch (lf : LF K Z) (w : Str) (hp : w.length ≤ 20000) : DS K (rd__read_stretch K Z) (startE 6 [.d (.str w)]) { nx := fun _ => SV.d .non = .d (strW w), rt := fun r => r = .d (strW w) } := by
  show DS K (rd__read_stretch K Z) [some (.d (.str w)), none, none, none, none, none] _
  unfold rd__read_stretch
  have l3 := part_len w
  refine ds_seq (ds_unp (de_part (de_var rfl ⟨_, rfl, de_str ⟨_, rfl, by decide +kernel, Nat.le_trans hp (by decide), ?_⟩⟩)))
  have es : strW w = strW2 (numD (Txt.partition w (Str.ofString "+")).1) (numD (Txt.partition w (Str.ofString "+")).2.2) := rfl
  rw [es]
  generalize Txt.partition w (Str.ofString "+") = pt at l3
  obtain ⟨a, s, b⟩ := pt
  have la : a.length ≤ 20000 := Nat.le_trans l3.1 hp
  have lb : b.length ≤ 20000 := Nat.le_trans l3.2 hp
  refine ⟨_, _, rfl, dg_tup rfl (dgs_cons (dg_name (dgs_cons (dg_name (dgs_cons (dg_name (dgs_nil ?_)))))))⟩
  show DS K _ [some (.d (.str w)), some (.d (.str a)), some (.d (.str s)), some (.d (.str b)), none, none] _
  refine ds_seq (ds_set (call_num rfl la ⟨trivial, ?_⟩))
  show DS K _ [some (.d (.str w)), some (.d (.str a)), some (.d (.str s)), some (.d (.str b)), some (.d (numD a)), none] _
  refine ds_seq (ds_set (call_num rfl lb ⟨trivial, ?_⟩))
  show DS K _ [some (.d (.str w)), some (.d (.str a)), some (.d (.str s)), some (.d (.str b)), some (.d (numD a)), some (.d (numD b))] { nx := fun _ => SV.d .non = .d (strW2 (numD a) (numD b)), rt := fun r => r = .d (strW2 (numD a) (numD b)) }
  refine ds_seq (ds_if (dt_or (dt_test (de_op (de_var rfl (de_non (isv_n ⟨_, rfl, ?_⟩)))))))
  rcases numD_cases a with ⟨ha, ea⟩ | ⟨ha, ea⟩
  · rw [ea]
    exact ite_b (fun _ => ds_ret (de_non ⟨trivial, rfl⟩)) (fun h => by cases h)
  rw [ea]
  refine ite_b (fun h => by cases h) (fun _ => ?_)
  refine dt_or (dt_test (de_op (de_var rfl (de_non (isv_n ⟨_, rfl, ?_⟩)))))
  rcases numD_cases b with ⟨hb, eb⟩ | ⟨hb, eb⟩
  · rw [eb]
    exact ite_b (fun _ => ds_ret (de_non ⟨trivial, rfl⟩)) (fun h => by cases h)
  rw [eb]
  refine ite_b (fun h => by cases h) (fun _ => ?_)
  refine dt_test (de_op (de_var rfl (de_int (eq_ii ⟨_, rfl, ?_⟩))))
  refine ite_b (fun h => ds_ret (de_non ⟨trivial, ?_⟩)) (fun h => ds_next ?_)
  · show SV.d .non = .d (if (numV b : Int) = 0 then D.non else .tup [.int (numV a : Int), .int (numV b : Int)])
    rw [if_pos (beq_iff_eq.mp h)]
  · refine ds_ret (de_tup' (da_cons (de_var rfl (da_cons (de_var rfl (da_nil ⟨_, rfl, Nat.le_of_ble_eq_true rfl, trivial, ?_⟩))))))
    show SV.d (.tup [.int (numV a : Int), .int (numV b : Int)]) = .d (if (numV b : Int) = 0 then D.non else .tup [.int (numV a : Int), .int (numV b : Int)])
    rw [if_neg (fun e => by rw [e] at h; cases h)]
theorem atI_nat {xs : List D} {i : Nat} {x : D} (h : xs[i]? = some x) : atI xs (i : Int) = some x := by
  have hi : i < xs.length := (List.getElem?_eq_some_iff.mp h).1
  unfold atI
  rw [ixN_nat (n := xs.length) (t := i) hi]
  exact h
theorem eqs {p : PK} {z : Str} (h : decide (p.s = z) = true) : p.s = z := of_decide_eq_true h
theorem sem__read_part (lf : LF K Z) (y : RP) (hp : y.ok) : DS K (rd__read_part K Z) (startE 5 [.d (.str y.p.s), .d (.lst (y.ws.map D.str)), .d (.lst y.ds)]) { nx := fun _ => SV.d .non = .d (readP y.p y.ws[y.ds.length]? y.prev), rt := fun r => r = .d (readP y.p y.ws[y.ds.length]? y.prev) } := by
  obtain ⟨p, ws, ds, prev⟩ := y
  obtain ⟨hl, hw⟩ := hp
  have hl : p = .last → ∃ m : Int, atI ds (-1) = some (.int m) ∧ prev = .int m := hl
  have hw : ∀ w ∈ ws, w.length ≤ 20000 := hw
  show DS K (rd__read_part K Z) [some (.d (.str p.s)), some (.d (.lst (ws.map D.str))), some (.d (.lst ds)), none, none] { nx := fun _ => SV.d .non = .d (readP p ws[ds.length]? prev), rt := fun r => r = .d (readP p ws[ds.length]? prev) }
  unfold rd__read_part
  refine ds_seq (ds_set (de_if (dt_test (de_op (de_cb (da_cons (de_var rfl (da_nil (len_x (n := ds.length) rfl rfl (de_cb (da_cons (de_var rfl (da_nil (len_x (n := ws.length) rfl ?_ (lt_i ⟨_, rfl, ?_⟩)))))))))))))))
  · show some (ws.map D.str).length = some ws.length
    rw [List.length_map]
  have key : ∀ {Q : SV → Prop}, Q (.d (optD ws[ds.length]?)) → if decide ((ds.length : Int) < (ws.length : Int)) = true then DE K (tOp (rIx K) (tVar 1) (tCB (rLenX K) (tCons (tVar 2) tNil))) [some (.d (.str p.s)), some (.d (.lst (ws.map D.str))), some (.d (.lst ds)), none, none] Q else DE K (tC .non) [some (.d (.str p.s)), some (.d (.lst (ws.map D.str))), some (.d (.lst ds)), none, none] Q := by
    intro Q q
    cases e : ws[ds.length]? with
    | none =>
      rw [e] at q
      have := List.getElem?_eq_none_iff.mp e
      refine ite_b (fun h => absurd (of_decide_eq_true h) (by omega)) (fun _ => de_non q)
    | some t =>
      rw [e] at q
      have h2 := (List.getElem?_eq_some_iff.mp e).1
      refine ite_b (fun _ => ?_) (fun h => absurd (of_decide_eq_false h) (by omega))
      refine de_op (de_var rfl (de_cb (da_cons (de_var rfl (da_nil (len_x (n := ds.length) rfl rfl (rr_xL (x := .str t) rfl (atI_nat ?_) q)))))))
      rw [List.getElem?_map, e]
      rfl
  refine key ⟨trivial, ?_⟩
  have hwl : ∀ w, ws[ds.length]? = some w → w.length ≤ 20000 := fun w h => hw w (List.mem_of_getElem? h)
  generalize ws[ds.length]? = o at hwl
  show DS K _ [some (.d (.str p.s)), some (.d (.lst (ws.map D.str))), some (.d (.lst ds)), some (.d (optD o)), none] { nx := fun _ => SV.d .non = .d (readP p o prev), rt := fun r => r = .d (readP p o prev) }
  have tr : ∀ {a b : Str} {A C : Prop}, decide (a = b) = true → A → (if decide (a = b) = true then A else C) := fun h x => by rw [if_pos h]; exact x
  have fa : ∀ {a b : Str} {A C : Prop}, decide (a = b) = false → C → (if decide (a = b) = true then A else C) := fun h x => by rw [if_neg (by rw [h]; exact Bool.false_ne_true)]; exact x
  refine ds_seq (ds_if (dt_test (de_op (de_var rfl (de_str (eq_ss ⟨_, rfl, ?_⟩))))))
  cases p with
  | leave =>
    refine tr (by decide +kernel) ?_
    refine ds_ret (de_callQ (da_cons (de_var rfl (da_nil ⟨⟨trivial, trivial⟩, o, rfl, rfl, trivial, ?_⟩))))
    rintro r rfl
    refine ⟨trivial, ?_⟩
    cases o <;> rfl
  | hand =>
    refine fa (by decide +kernel) (ds_next ?_)
    refine ds_seq (ds_if (dt_test (de_op (de_var rfl (de_non (isv_n ⟨_, rfl, ?_⟩))))))
    cases o with
    | none => exact ite_b (fun _ => ds_ret (de_non ⟨trivial, rfl⟩)) (fun h => by cases h)
    | some w =>
      refine ite_b (fun h => by cases h) (fun _ => ds_next ?_)
      refine ds_seq (ds_if (dt_test (de_op (de_var rfl (de_str (eq_ss ⟨_, rfl, ?_⟩))))))
      refine tr (by decide +kernel) ?_
      refine ds_ret (de_if (dt_B (de_call (da_cons (de_var rfl (da_nil ⟨⟨trivial, trivial⟩, rfl, ⟨.str w, rfl, hwl w rfl⟩, ?_⟩))))))
      rintro r ⟨x', e, rfl⟩
      injection e with e _
      injection e with e
      subst e
      refine ⟨_, rfl, ?_⟩
      refine ite_b (fun h => de_var rfl ⟨trivial, ?_⟩) (fun h => de_non ⟨trivial, ?_⟩)
      · show SV.d (.str w) = .d (if handD (.str w) = true then D.str w else D.non)
        rw [if_pos (show handD (.str w) = true from h)]
      · show SV.d .non = .d (if handD (.str w) = true then D.str w else D.non)
        rw [if_neg (by rw [show handD (.str w) = false from h]; exact Bool.false_ne_true)]
  | stretch =>
    refine fa (by decide +kernel) (ds_next ?_)
    refine ds_seq (ds_if (dt_test (de_op (de_var rfl (de_non (isv_n ⟨_, rfl, ?_⟩))))))
    cases o with
    | none => exact ite_b (fun _ => ds_ret (de_non ⟨trivial, rfl⟩)) (fun h => by cases h)
    | some w =>
      refine ite_b (fun h => by cases h) (fun _ => ds_next ?_)
      refine ds_seq (ds_if (dt_test (de_op (de_var rfl (de_str (eq_ss ⟨_, rfl, ?_⟩))))))
      refine fa (by decide +kernel) (ds_next ?_)
      refine ds_seq (ds_if (dt_test (de_op (de_var rfl (de_str (eq_ss ⟨_, rfl, ?_⟩))))))
      refine tr (by decide +kernel) ?_
      refine ds_ret (de_callQ (da_cons (de_var rfl (da_nil ⟨⟨trivial, trivial⟩, w, rfl, rfl, hwl w rfl, ?_⟩))))
      rintro r rfl
      exact ⟨trivial, rfl⟩
  | day =>
    refine fa (by decide +kernel) (ds_next ?_)
    refine ds_seq (ds_if (dt_test (de_op (de_var rfl (de_non (isv_n ⟨_, rfl, ?_⟩))))))
    cases o with
    | none => exact ite_b (fun _ => ds_ret (de_non ⟨trivial, rfl⟩)) (fun h => by cases h)
    | some w =>
      refine ite_b (fun h => by cases h) (fun _ => ds_next ?_)
      refine ds_seq (ds_if (dt_test (de_op (de_var rfl (de_str (eq_ss ⟨_, rfl, ?_⟩))))))
      refine fa (by decide +kernel) (ds_next ?_)
      refine ds_seq (ds_if (dt_test (de_op (de_var rfl (de_str (eq_ss ⟨_, rfl, ?_⟩))))))
      refine fa (by decide +kernel) (ds_next ?_)
      refine ds_seq (ds_set (call_num rfl (hwl w rfl) ⟨trivial, ?_⟩))
      show DS K _ [some (.d (.str PK.day.s)), some (.d (.lst (ws.map D.str))), some (.d (.lst ds)), some (.d (.str w)), some (.d (numD w))] _
      have pl : (numD w).plain = true := by rcases numD_cases w with ⟨_, e⟩ | ⟨_, e⟩ <;> rw [e] <;> rfl
      refine ds_seq (ds_if (dt_or (dt_not (dt_B (de_callQ (da_cons (de_var rfl (da_nil ⟨⟨trivial, trivial⟩, numD w, rfl, rfl, pl, ?_⟩))))))))
      rintro r rfl
      refine ⟨_, rfl, ?_⟩
      show (if (!dayD (numD w)) = true then _ else _)
      refine ite_b (fun h => ds_ret (de_non ⟨trivial, ?_⟩)) (fun h => ?_)
      · have h : dayD (numD w) = false := by simpa using h
        show SV.d .non = .d (if dayD (numD w) = true then numD w else D.non)
        rw [if_neg (by rw [h]; exact Bool.false_ne_true)]
      have h : dayD (numD w) = true := by simpa using h
      refine dt_and (dt_test (de_op (de_var rfl (de_str (eq_ss ⟨_, rfl, ?_⟩)))))
      refine fa (by decide +kernel) (ds_next ?_)
      refine ds_ret (de_var rfl ⟨trivial, ?_⟩)
      show SV.d (numD w) = .d (if dayD (numD w) = true then numD w else D.non)
      rw [if_pos h]
  | last =>
    obtain ⟨m, hm, rfl⟩ := hl rfl
    refine fa (by decide +kernel) (ds_next ?_)
    refine ds_seq (ds_if (dt_test (de_op (de_var rfl (de_non (isv_n ⟨_, rfl, ?_⟩))))))
    cases o with
    | none => exact ite_b (fun _ => ds_ret (de_non ⟨trivial, rfl⟩)) (fun h => by cases h)
    | some w =>
      refine ite_b (fun h => by cases h) (fun _ => ds_next ?_)
      refine ds_seq (ds_if (dt_test (de_op (de_var rfl (de_str (eq_ss ⟨_, rfl, ?_⟩))))))
      refine fa (by decide +kernel) (ds_next ?_)
      refine ds_seq (ds_if (dt_test (de_op (de_var rfl (de_str (eq_ss ⟨_, rfl, ?_⟩))))))
      refine fa (by decide +kernel) (ds_next ?_)
      refine ds_seq (ds_set (call_num rfl (hwl w rfl) ⟨trivial, ?_⟩))
      show DS K _ [some (.d (.str PK.last.s)), some (.d (.lst (ws.map D.str))), some (.d (.lst ds)), some (.d (.str w)), some (.d (numD w))] { nx := fun _ => SV.d .non = .d (if (dayD (numD w) && !ltD (numD w) (.int m)) = true then numD w else .non), rt := fun r => r = .d (if (dayD (numD w) && !ltD (numD w) (.int m)) = true then numD w else .non) }
      have pl : (numD w).plain = true := by rcases numD_cases w with ⟨_, e⟩ | ⟨_, e⟩ <;> rw [e] <;> rfl
      refine ds_seq (ds_if (dt_or (dt_not (dt_B (de_callQ (da_cons (de_var rfl (da_nil ⟨⟨trivial, trivial⟩, numD w, rfl, rfl, pl, ?_⟩))))))))
      rintro r rfl
      refine ⟨_, rfl, ?_⟩
      show (if (!dayD (numD w)) = true then _ else _)
      refine ite_b (fun h => ds_ret (de_non ⟨trivial, ?_⟩)) (fun h => ?_)
      · have h : dayD (numD w) = false := by simpa using h
        rw [h]
        rfl
      have h : dayD (numD w) = true := by simpa using h
      rw [h]
      refine dt_and (dt_test (de_op (de_var rfl (de_str (eq_ss ⟨_, rfl, ?_⟩)))))
      refine tr (by decide +kernel) ?_
      rcases numD_cases w with ⟨_, e⟩ | ⟨_, e⟩
      · rw [e] at h
        cases h
      rw [e]
      refine dt_test (de_op (de_var rfl (de_op (de_var rfl (de_un (de_int (neg_i (rr_xL (x := .int m) rfl hm (lt_i ⟨_, rfl, ?_⟩)))))))))
      refine ite_b (fun h => ds_ret (de_non ⟨trivial, ?_⟩)) (fun h => ds_next ?_)
      · show SV.d .non = .d (if (true && !decide ((numV w : Int) < m)) = true then D.int (numV w : Int) else D.non)
        rw [h]
        rfl
      · refine ds_ret (de_var rfl ⟨trivial, ?_⟩)
        show SV.d (.int (numV w : Int)) = .d (if (true && !decide ((numV w : Int) < m)) = true then D.int (numV w : Int) else D.non)
        rw [h]
        rfl
theorem kind_parts (w : Str) : partsL w = match kindOf w with
    | none => []
    | some k => k.ps.map PK.s := by
  unfold partsL kindOf
  by_cases h1 : w = "sale"
  · rw [if_pos h1, if_pos h1]
    rfl
  rw [if_neg h1, if_neg h1]
  by_cases h2 : w = "grant"
  · rw [if_pos h2, if_pos h2]
    rfl
  rw [if_neg h2, if_neg h2]
  by_cases h3 : w = "end"
  · rw [if_pos h3, if_pos h3]
    rfl
  rw [if_neg h3, if_neg h3]
  by_cases h4 : w = "use"
  · rw [if_pos h4, if_pos h4]
    rfl
  rw [if_neg h4, if_neg h4]
theorem kind_w {w : Str} {k : DK} (h : kindOf w = some k) : w = k.w := by
  unfold kindOf at h
  by_cases h1 : w = "sale"
  · rw [if_pos h1] at h
    injection h with h
    rw [← h, h1]
    rfl
  rw [if_neg h1] at h
  by_cases h2 : w = "grant"
  · rw [if_pos h2] at h
    injection h with h
    rw [← h, h2]
    rfl
  rw [if_neg h2] at h
  by_cases h3 : w = "end"
  · rw [if_pos h3] at h
    injection h with h
    rw [← h, h3]
    rfl
  rw [if_neg h3] at h
  by_cases h4 : w = "use"
  · rw [if_pos h4] at h
    injection h with h
    rw [← h, h4]
    rfl
  rw [if_neg h4] at h
  cases h
theorem kind_of (k : DK) : kindOf k.w = some k := by
  unfold kindOf
  cases k
  · rw [if_pos (by decide +kernel)]
  · rw [if_neg (by decide +kernel), if_pos (by decide +kernel)]
  · rw [if_neg (by decide +kernel), if_neg (by decide +kernel), if_pos (by decide +kernel)]
  · rw [if_neg (by decide +kernel), if_neg (by decide +kernel), if_neg (by decide +kernel), if_pos (by decide +kernel)]
/-- what is read is such a part -/
theorem read_ok {p : PK} {o : Option Str} {prev x : D} (h : readP p o prev = x) (hx : x.isNon = false) : WOk p x := by
  subst h
  cases p with
  | leave =>
    cases o with
    | none => exact .leave false
    | some w =>
      by_cases e : w = "leave"
      · have : readP .leave (some w) prev = .bl true := if_pos e
        rw [this]
        exact .leave true
      · have : readP .leave (some w) prev = .non := if_neg e
        rw [this] at hx
        cases hx
  | hand =>
    cases o with
    | none => cases hx
    | some w =>
      by_cases e : handD (.str w) = true
      · have e2 : readP .hand (some w) prev = .str w := if_pos e
        rw [e2]
        refine .hand ?_
        have e : (decide (1 ≤ w.length) && decide (w.length ≤ 8) && w.cps.toList.all low) = true := e
        rw [Bool.and_eq_true, Bool.and_eq_true, decide_eq_true_eq, decide_eq_true_eq, List.all_eq_true] at e
        refine ⟨e.1, okS_iff.mpr fun c hc => ?_, e.2⟩
        have := low_iff.mp (e.2 c hc)
        omega
      · have : readP .hand (some w) prev = .non := if_neg e
        rw [this] at hx
        cases hx
  | stretch =>
    cases o with
    | none => cases hx
    | some w =>
      have e : readP .stretch (some w) prev = strW2 (numD (Txt.partition w (Str.ofString "+")).1) (numD (Txt.partition w (Str.ofString "+")).2.2) := rfl
      rw [e] at hx ⊢
      generalize Txt.partition w (Str.ofString "+") = pt at hx ⊢
      obtain ⟨a, s, b⟩ := pt
      have hx : (strW2 (numD a) (numD b)).isNon = false := hx
      show WOk .stretch (strW2 (numD a) (numD b))
      rcases numD_cases a with ⟨ha, ea⟩ | ⟨ha, ea⟩
      · rw [ea] at hx
        cases hx
      rcases numD_cases b with ⟨hb, eb⟩ | ⟨hb, eb⟩
      · rw [ea, eb] at hx
        cases hx
      rw [ea, eb] at hx ⊢
      have e2 : strW2 (.int (numV a : Int)) (.int (numV b : Int)) = if (numV b : Int) = 0 then .non else .tup [.int (numV a : Int), .int (numV b : Int)] := rfl
      rw [e2] at hx ⊢
      by_cases h0 : (numV b : Int) = 0
      · rw [if_pos h0] at hx
        cases hx
      · rw [if_neg h0]
        exact .stretch (numV_big ha) (numV_big hb) (by omega)
  | day =>
    cases o with
    | none => cases hx
    | some w =>
      have e : readP .day (some w) prev = if dayD (numD w) = true then numD w else .non := rfl
      rw [e] at hx ⊢
      by_cases h : dayD (numD w) = true
      · rw [if_pos h]
        rcases numD_cases w with ⟨ha, ea⟩ | ⟨ha, ea⟩
        · rw [ea] at h
          cases h
        · rw [ea] at h ⊢
          have h : (decide (0 ≤ (numV w : Int)) && decide ((numV w : Int) ≤ 1000000000000000000000000000000)) = true := h
          rw [Bool.and_eq_true, decide_eq_true_eq, decide_eq_true_eq] at h
          exact .day (by omega)
      · rw [if_neg h] at hx
        cases hx
  | last =>
    cases o with
    | none => cases hx
    | some w =>
      have e : readP .last (some w) prev = if (dayD (numD w) && !ltD (numD w) prev) = true then numD w else .non := rfl
      rw [e] at hx ⊢
      by_cases h : (dayD (numD w) && !ltD (numD w) prev) = true
      · rw [if_pos h]
        rw [Bool.and_eq_true] at h
        have h := h.1
        rcases numD_cases w with ⟨ha, ea⟩ | ⟨ha, ea⟩
        · rw [ea] at h
          cases h
        · rw [ea] at h ⊢
          have h : (decide (0 ≤ (numV w : Int)) && decide ((numV w : Int) ≤ 1000000000000000000000000000000)) = true := h
          rw [Bool.and_eq_true, decide_eq_true_eq, decide_eq_true_eq] at h
          exact .last (by omega)
      · rw [if_neg h] at hx
        cases hx
theorem goP_cons {p : PK} {ps : List PK} {ws : List Str} {prev x : D} {i : Nat} (h : readP p ws.head? prev = x) (hx : x.isNon = false) : goP (p :: ps) ws prev i = match goP ps ws.tail x (i + 1) with
      | .inl n => .inl n
      | .inr xs => .inr (x :: xs) := by
  have e : goP (p :: ps) ws prev i = match readP p ws.head? prev with
    | .non => .inl i
    | x => match goP ps ws.tail x (i + 1) with
      | .inl n => .inl n
      | .inr xs => .inr (x :: xs) := rfl
  rw [e, h]
  cases x <;> first | rfl | cases hx
theorem goP_stop {p : PK} {ps : List PK} {ws : List Str} {prev : D} {i : Nat} (h : readP p ws.head? prev = .non) : goP (p :: ps) ws prev i = .inl i := by
  have e : goP (p :: ps) ws prev i = match readP p ws.head? prev with
    | .non => .inl i
    | x => match goP ps ws.tail x (i + 1) with
      | .inl n => .inl n
      | .inr xs => .inr (x :: xs) := rfl
  rw [e, h]
theorem isNon_iff {x : D} (h : x.isNon = true) : x = .non := by cases x <;> first | rfl | cases h
/-- what is read: its parts -/
inductive RdAll : List PK → List Str → D → List D → Prop
  | nil (prev : D) : RdAll [] [] prev []
  | cons {p : PK} {ps : List PK} {ws : List Str} {prev x : D} {xs : List D} : readP p ws.head? prev = x → x.isNon = false → RdAll ps ws.tail x xs → RdAll (p :: ps) ws prev (x :: xs)
theorem goP_all : ∀ {ps : List PK} {ws : List Str} {prev : D} {i : Nat} {xs : List D}, goP ps ws prev i = .inr xs → RdAll ps ws prev xs
  | [], ws, prev, i, xs, h => by
    have h : (if ws.isEmpty = true then Sum.inr [] else Sum.inl i : Nat ⊕ List D) = .inr xs := h
    by_cases e : ws.isEmpty = true
    · rw [if_pos e] at h
      injection h with h
      subst h
      have : ws = [] := by simpa using e
      subst this
      exact .nil prev
    · rw [if_neg e] at h
      cases h
  | p :: ps, ws, prev, i, xs, h => by
    cases e : (readP p ws.head? prev).isNon with
    | true =>
      rw [goP_stop (isNon_iff e)] at h
      cases h
    | false =>
      rw [goP_cons rfl e] at h
      cases e2 : goP ps ws.tail (readP p ws.head? prev) (i + 1) with
      | inl n => rw [e2] at h; cases h
      | inr ys =>
        rw [e2] at h
        injection h with h
        subst h
        exact .cons rfl e (goP_all e2)
theorem RdAll.go : ∀ {ps : List PK} {ws : List Str} {prev : D} {xs : List D}, RdAll ps ws prev xs → ∀ i, goP ps ws prev i = .inr xs
  | _, _, _, _, .nil _, _ => rfl
  | _, _, _, _, .cons h1 h2 t, i => by
    rw [goP_cons h1 h2, t.go]
theorem RdAll.wok : ∀ {ps : List PK} {ws : List Str} {prev : D} {xs : List D}, RdAll ps ws prev xs → WAll ps xs
  | _, _, _, _, .nil _ => .nil
  | _, _, _, _, .cons h1 h2 t => .cons (read_ok h1 h2) t.wok
theorem spcS : (Str.ofString " ") = SX.S [32] := by decide +kernel
theorem spl_ne : ∀ (S : List Nat) (k : Nat) (acc l : List Nat), TL.spl S k acc l ≠ []
  | S, k, acc, [] => by cases k <;> exact List.cons_ne_nil _ _
  | S, 0, acc, c :: r => by
    show (if TL.pre S (c :: r) = true then acc :: TL.spl S (S.length - 1) [] r else TL.spl S 0 (acc ++ [c]) r) ≠ []
    split
    · exact List.cons_ne_nil _ _
    · exact spl_ne S 0 _ r
  | S, k + 1, acc, c :: r => spl_ne S k acc r
theorem spl_mem : ∀ (S : List Nat) (k : Nat) (acc l p : List Nat), p ∈ TL.spl S k acc l → p.length ≤ acc.length + l.length ∧ ∀ c ∈ p, c ∈ acc ∨ c ∈ l
  | S, k, acc, [], p, h => by
    have h : p ∈ [acc] := by cases k <;> exact h
    obtain rfl := List.mem_singleton.mp h
    exact ⟨Nat.le_add_right _ _, fun c hc => .inl hc⟩
  | S, 0, acc, d :: r, p, h => by
    have h : p ∈ (if TL.pre S (d :: r) = true then acc :: TL.spl S (S.length - 1) [] r else TL.spl S 0 (acc ++ [d]) r) := h
    split at h
    · rcases List.mem_cons.mp h with rfl | h
      · exact ⟨Nat.le_add_right _ _, fun c hc => .inl hc⟩
      · obtain ⟨h1, h2⟩ := spl_mem S _ [] r p h
        refine ⟨by simp at h1 ⊢; omega, fun c hc => .inr (List.mem_cons_of_mem _ ?_)⟩
        rcases h2 c hc with h | h
        · cases h
        · exact h
    · obtain ⟨h1, h2⟩ := spl_mem S 0 (acc ++ [d]) r p h
      refine ⟨by simp at h1 ⊢; omega, fun c hc => ?_⟩
      rcases h2 c hc with h | h
      · rcases List.mem_append.mp h with h | h
        · exact .inl h
        · obtain rfl := List.mem_singleton.mp h
          exact .inr (by simp)
      · exact .inr (List.mem_cons_of_mem _ h)
  | S, k + 1, acc, d :: r, p, h => by
    obtain ⟨h1, h2⟩ := spl_mem S k acc r p h
    refine ⟨by simp; omega, fun c hc => ?_⟩
    rcases h2 c hc with h | h
    · exact .inl h
    · exact .inr (List.mem_cons_of_mem _ h)
theorem split_ne (t : Str) : Txt.split t (Str.ofString " ") ≠ [] := by
  have et : t = SX.S t.cps.toList := (SX.S_tl t).symm
  rw [et, spcS, SX.split_S (by decide) (by decide)]
  intro h
  exact spl_ne _ _ _ _ (List.map_eq_nil_iff.mp h)
theorem split_mem {t w : Str} (h : w ∈ Txt.split t (Str.ofString " ")) : w.length ≤ t.length ∧ (okS t → okS w) := by
  have et : t = SX.S t.cps.toList := (SX.S_tl t).symm
  rw [et, spcS, SX.split_S (by decide) (by decide)] at h
  obtain ⟨p, hp, rfl⟩ := List.mem_map.mp h
  obtain ⟨h1, h2⟩ := spl_mem _ _ _ _ _ hp
  refine ⟨?_, fun ho => okS_iff.mpr fun c hc => ?_⟩
  · rw [SX.S_len]
    show p.length ≤ t.cps.size
    simp at h1
    omega
  · rcases h2 c hc with h | h
    · cases h
    · exact okS_iff.mp ho c h
theorem split_len (t : Str) : (Txt.split t (Str.ofString " ")).length ≤ t.length + 2 := PyProof.Rows.split_le _ _
theorem part_get {ps : List PK} {i : Nat} {z : D} (h : ((ps.map PK.s).map D.str)[i]? = some z) : ∃ p, ps[i]? = some p ∧ z = .str p.s := by
  rw [List.getElem?_map, List.getElem?_map] at h
  cases e : ps[i]? with
  | none => rw [e] at h; cases h
  | some p => rw [e] at h; injection h with h; exact ⟨p, rfl, h.symm⟩
theorem drop_get {α : Type} {xs : List α} {i : Nat} {x : α} (h : xs[i]? = some x) : xs.drop i = x :: xs.drop (i + 1) := by
  have hi := (List.getElem?_eq_some_iff.mp h).1
  rw [List.drop_eq_getElem_cons hi, (List.getElem?_eq_some_iff.mp h).2]
theorem drop_head {α : Type} (xs : List α) (i : Nat) : (xs.drop i).head? = xs[i]? := by rw [List.head?_drop]
theorem drop_tail {α : Type} (xs : List α) (i : Nat) : (xs.drop i).tail = xs.drop (i + 1) := by rw [List.tail_drop]
theorem leave_last : ∀ (k : DK) (j : Nat), k.ps[j]? = some .leave → k = .use ∧ j = 4
  | .sale, 0, h => by cases h
  | .sale, 1, h => by cases h
  | .sale, 2, h => by cases h
  | .sale, n + 3, h => by cases h
  | .grant, 0, h => by cases h
  | .grant, 1, h => by cases h
  | .grant, 2, h => by cases h
  | .grant, 3, h => by cases h
  | .grant, n + 4, h => by cases h
  | .fin, 0, h => by cases h
  | .fin, 1, h => by cases h
  | .fin, 2, h => by cases h
  | .fin, 3, h => by cases h
  | .fin, n + 4, h => by cases h
  | .use, 0, h => by cases h
  | .use, 1, h => by cases h
  | .use, 2, h => by cases h
  | .use, 3, h => by cases h
  | .use, 4, h => ⟨rfl, rfl⟩
  | .use, n + 5, h => by cases h
theorem last_k : ∀ (k : DK) (j : Nat), k.ps[j]? = some .last → k = .use ∧ j = 1
  | .sale, 0, h => by cases h
  | .sale, 1, h => by cases h
  | .sale, 2, h => by cases h
  | .sale, n + 3, h => by cases h
  | .grant, 0, h => by cases h
  | .grant, 1, h => by cases h
  | .grant, 2, h => by cases h
  | .grant, 3, h => by cases h
  | .grant, n + 4, h => by cases h
  | .fin, 0, h => by cases h
  | .fin, 1, h => by cases h
  | .fin, 2, h => by cases h
  | .fin, 3, h => by cases h
  | .fin, n + 4, h => by cases h
  | .use, 0, h => by cases h
  | .use, 1, h => ⟨rfl, rfl⟩
  | .use, 2, h => by cases h
  | .use, 3, h => by cases h
  | .use, 4, h => by cases h
  | .use, n + 5, h => by cases h
theorem read_flat (p : PK) (o : Option Str) (prev : D) : (readP p o prev).flat = true := by
  cases h : (readP p o prev).isNon with
  | true => rw [isNon_iff h]; rfl
  | false =>
    have := read_ok rfl h
    generalize readP p o prev = x at this
    cases this <;> rfl
/-- how far one has read -/
def Done (k : DK) (w : Str) (ws : List Str) (i : Nat) (xs : List D) (prev : D) : Prop :=
  xs.length = i ∧ (∀ (j : Nat) (p : PK) (x : D), k.ps[j]? = some p → xs[j]? = some x → WOk p x) ∧ (i = 0 → prev = .str w) ∧ (∀ j : Nat, i = j + 1 → xs[j]? = some prev) ∧
  (goP k.ps ws (.str w) 1 = match goP (k.ps.drop i) (ws.drop i) prev (i + 1) with
    | .inl n => .inl n
    | .inr ys => .inr (xs ++ ys))
theorem Done.start (k : DK) (w : Str) (ws : List Str) : Done k w ws 0 [] (.str w) := by
  refine ⟨rfl, fun j p x _ h => (by cases h), fun _ => rfl, fun j h => (by omega), ?_⟩
  rw [List.drop_zero, List.drop_zero]
  cases goP k.ps ws (.str w) (0 + 1) <;> rfl
theorem Done.stop {k : DK} {w : Str} {ws : List Str} {i : Nat} {xs : List D} {prev : D} {p : PK} (d : Done k w ws i xs prev) (hp : k.ps[i]? = some p) (h : (readP p ws[i]? prev).isNon = true) : goP k.ps ws (.str w) 1 = .inl (i + 1) := by
  rw [d.2.2.2.2, drop_get hp, goP_stop (by rw [drop_head]; exact isNon_iff h)]
theorem Done.step {k : DK} {w : Str} {ws : List Str} {i : Nat} {xs : List D} {prev : D} {p : PK} (d : Done k w ws i xs prev) (hp : k.ps[i]? = some p) (h : (readP p ws[i]? prev).isNon = false) : Done k w ws (i + 1) (xs ++ [readP p ws[i]? prev]) (readP p ws[i]? prev) := by
  obtain ⟨h1, h2, h3, h4, h5⟩ := d
  refine ⟨by rw [List.length_append, h1]; rfl, fun j q x hq hx => ?_, fun e => by omega, fun j e => ?_, ?_⟩
  · by_cases hj : j < i
    · rw [List.getElem?_append_left (by omega)] at hx
      exact h2 j q x hq hx
    · rw [List.getElem?_append_right (by omega), h1] at hx
      have e0 : j - i = 0 := by
        have := (List.getElem?_eq_some_iff.mp hx).1
        simp at this
        omega
      rw [e0] at hx
      have hx : some (readP p ws[i]? prev) = some x := hx
      injection hx with hx
      have : j = i := by omega
      subst this
      rw [hp] at hq
      injection hq with hq
      subst hq
      exact read_ok hx (by rw [← hx]; exact h)
  · have : j = i := by omega
    subst this
    rw [List.getElem?_append_right (by omega), h1, Nat.sub_self]
    rfl
  · rw [h5, drop_get hp, goP_cons (x := readP p ws[i]? prev) (by rw [drop_head]) h, drop_tail]
    cases goP (k.ps.drop (i + 1)) (ws.drop (i + 1)) (readP p ws[i]? prev) (i + 1 + 1) with
    | inl n => rfl
    | inr ys =>
      show Sum.inr (xs ++ (readP p ws[i]? prev :: ys)) = Sum.inr (xs ++ [readP p ws[i]? prev] ++ ys)
      rw [List.append_assoc]
      rfl
theorem sem_read_deed (lf : LF K Z) (E : XK) (x : D) (hp : x.plain = true ∧ boundX x) : DS K (rd_read_deed K Z E) (startE 6 [.d x]) { nx := fun _ => ∃ d, SV.d .non = .d d ∧ readX x = .inr d, rt := fun r => ∃ d, r = .d d ∧ readX x = .inr d, xo := fun F => XOk K F E (xpText Z (readX x)) } := by
  obtain ⟨hpl, hb⟩ := hp
  show DS K (rd_read_deed K Z E) [some (.d x), none, none, none, none, none] _
  unfold rd_read_deed
  refine ds_seq (ds_if (dt_not (dt_B (de_cb (da_cons (de_var rfl (da_cons (de_ty (da_nil (rc_isi hpl (kit_isStr hpl) ⟨_, rfl, ?_⟩))))))))))
  refine ite_b (fun h => ?_) (fun h => ds_next ?_)
  · have h0 : readX x = .inl 0 := by cases x <;> first | rfl | cases h
    exact ds_ofX (tb := fun W => tRaiseE Z.C_NoText "place" W (tCons (tC (.int 0)) tNil)) (xp := xpText Z (readX x)) (dsx_raise (de_int ⟨_, rfl, rfl, rfl, 0, h0, rfl⟩)) fun F h => h
  obtain ⟨t, rfl⟩ : ∃ t, x = .str t := by
    cases x <;> first | exact ⟨_, rfl⟩ | cases h
  have hb : t.length ≤ 20000 := hb
  refine ds_seq (ds_set (de_split (de_var rfl ⟨_, rfl, de_str ⟨_, rfl, by decide +kernel, Nat.le_trans (show t.length + 2 ≤ 30000 by omega) (by decide), ?_⟩⟩)))
  refine ⟨trivial, ?_⟩
  have hr : readX (.str t) = readWs (Txt.split t (Str.ofString " ")) := rfl
  rw [hr]
  have hne := split_ne t
  have hm : ∀ w ∈ Txt.split t (Str.ofString " "), w.length ≤ 20000 := fun w h => Nat.le_trans (split_mem h).1 hb
  have hwl := split_len t
  generalize Txt.split t (Str.ofString " ") = words at hne hm hwl
  match words, hne with
  | w :: ws, _ =>
    show DS K _ [some (.d (.str t)), some (.own ((w :: ws).map D.str)), none, none, none, none] _
    refine ds_seq (ds_set (de_callQ (da_cons (de_op (de_var rfl (de_int (rr_xL (x := .str w) rfl (at_0 _ _) (da_nil ⟨⟨trivial, trivial⟩, w, rfl, rfl, trivial, ?_⟩))))))))
    rintro r rfl
    refine ⟨trivial, ?_⟩
    rw [kind_parts]
    cases hk : kindOf w with
    | none =>
      have h0 : readWs (w :: ws) = .inl 0 := by
        show (match kindOf w with
          | none => Sum.inl 0
          | some k => match goP k.ps ws (.str w) 1 with
            | .inl n => .inl n
            | .inr xs => .inr (D.tup (.str w :: xs))) = _
        rw [hk]
      show DS K _ [some (.d (.str t)), some (.own ((w :: ws).map D.str)), some (.d (.tup [])), none, none, none] _
      refine ds_seq (ds_if (dt_not (dt_truT (de_var rfl ⟨_, rfl, ?_⟩))))
      refine ite_b (fun _ => ?_) (fun h => by cases h)
      exact ds_ofX (tb := fun W => tRaiseE Z.C_NoText "place" W (tCons (tC (.int 0)) tNil)) (xp := xpText Z (readWs (w :: ws))) (dsx_raise (de_int ⟨_, rfl, rfl, rfl, 0, h0, rfl⟩)) fun F h => h
    | some k =>
      have hg : readWs (w :: ws) = match goP k.ps ws (.str w) 1 with
          | .inl n => .inl n
          | .inr xs => .inr (D.tup (.str w :: xs)) := by
        show (match kindOf w with
          | none => Sum.inl 0
          | some k => match goP k.ps ws (.str w) 1 with
            | .inl n => .inl n
            | .inr xs => .inr (D.tup (.str w :: xs))) = _
        rw [hk]
      show DS K _ [some (.d (.str t)), some (.own ((w :: ws).map D.str)), some (.d (.tup ((k.ps.map PK.s).map D.str))), none, none, none] _
      refine ds_seq (ds_if (dt_not (dt_truT (de_var rfl ⟨_, rfl, ?_⟩))))
      have ne : (!((k.ps.map PK.s).map D.str).isEmpty) = true := by cases k <;> rfl
      rw [ne]
      refine ite_b (fun h => by cases h) (fun _ => ds_next ?_)
      refine ds_seq (ds_set (de_lst' (da_cons (de_op (de_var rfl (de_int (rr_xL (x := .str w) rfl (at_0 _ _) (da_nil ⟨_, rfl, Nat.le_of_ble_eq_true rfl, trivial, ?_⟩))))))))
      show DS K _ [some (.d (.str t)), some (.own ((w :: ws).map D.str)), some (.d (.tup ((k.ps.map PK.s).map D.str))), some (.own [.str w]), none, none] _
      have kl : k.ps.length ≤ 5 := by cases k <;> exact Nat.le_of_ble_eq_true rfl
      refine ds_seq (ds_forT (de_var rfl ⟨_, rfl, fun i e => ∃ (a b : Option SV) (xs : List D) (prev : D), e = [some (.d (.str t)), some (.own ((w :: ws).map D.str)), some (.d (.tup ((k.ps.map PK.s).map D.str))), some (.own (.str w :: xs)), a, b] ∧ Done k w ws i xs prev, ⟨_, _, [], .str w, rfl, Done.start k w ws⟩, ?_, ?_⟩))
      · rintro i z es' hz ⟨a, b, xs, prev, rfl, dn⟩
        obtain ⟨p, hp1, rfl⟩ := part_get hz
        have hi : i < k.ps.length := (List.getElem?_eq_some_iff.mp hp1).1
        refine ⟨_, dg_name ?_⟩
        show DS K _ [some (.d (.str t)), some (.own ((w :: ws).map D.str)), some (.d (.tup ((k.ps.map PK.s).map D.str))), some (.own (.str w :: xs)), some (.d (.str p.s)), b] _
        refine ds_seq (ds_set (de_lendQ (da_cons (de_var rfl (da_cons (de_var rfl (da_cons (de_var rfl (da_nil ⟨⟨p, w :: ws, .str w :: xs, prev⟩, rfl, rfl, ⟨?_, hm⟩, ?_⟩)))))))))
        · intro hpl
          have hpl : p = .last := hpl
          rw [hpl] at hp1
          obtain ⟨rfl, rfl⟩ := last_k _ _ hp1
          obtain ⟨h1, h2, h3, h4, h5⟩ := dn
          match xs, h1 with
          | [x0], _ =>
            have e0 := h4 0 rfl
            have e0 : some x0 = some prev := e0
            injection e0 with e0
            subst e0
            have := h2 0 .day x0 rfl rfl
            cases this with
            | @day n hn => exact ⟨(n : Int), rfl, rfl⟩
        rintro r rfl
        have ew : ((w :: ws)[(D.str w :: xs).length]?) = ws[i]? := by
          rw [List.length_cons, dn.1]
          rfl
        show ∃ y, SV.d (readP p ((w :: ws)[(D.str w :: xs).length]?) prev) = .d y ∧ _
        rw [ew]
        refine ⟨_, rfl, read_flat _ _ _, trivial, ?_⟩
        show DS K _ [some (.d (.str t)), some (.own ((w :: ws).map D.str)), some (.d (.tup ((k.ps.map PK.s).map D.str))), some (.own (.str w :: xs)), some (.d (.str p.s)), some (.d (readP p ws[i]? prev))] _
        refine ds_seq (ds_if (dt_test (de_op (de_var rfl (de_non (isv_n ⟨_, rfl, ?_⟩))))))
        refine ite_b (fun hnon => ?_) (fun hnon => ds_next ?_)
        · have hs := dn.stop hp1 hnon
          refine ds_ofX (tb := fun W => tRaiseE Z.C_NoText "place" W (tCons (tCB (rLenX K) (tCons (tVar 3) tNil)) tNil)) (xp := xpText Z (readWs (w :: ws))) (dsx_raise (de_cb (da_cons (de_var rfl (da_nil (len_x (n := xs.length + 1) rfl rfl ⟨_, rfl, rfl, rfl, i + 1, ?_, ?_⟩)))))) fun F h => h
          · rw [hg, hs]
          · rw [dn.1]
        refine ds_app (i := 3) rfl (de_var rfl ⟨_, rfl, by rw [List.length_cons, dn.1]; omega, some (.d (.str p.s)), some (.d (readP p ws[i]? prev)), xs ++ [readP p ws[i]? prev], readP p ws[i]? prev, rfl, dn.step hp1 hnon⟩)
      · rintro _ ⟨a, b, xs, prev, rfl, dn⟩
        rw [List.length_map, List.length_map] at dn
        have dnl := dn.1
        have hgo := dn.2.2.2.2
        rw [List.drop_length] at hgo
        have hgo : goP k.ps ws (.str w) 1 = match (if (ws.drop k.ps.length).isEmpty = true then Sum.inr [] else Sum.inl (k.ps.length + 1) : Nat ⊕ List D) with
          | .inl n => .inl n
          | .inr ys => .inr (xs ++ ys) := hgo
        refine ds_seq (ds_if (dt_test (de_op (de_cb (da_cons (de_var rfl (da_nil (len_x (n := ws.length + 1) rfl ?_ (de_cb (da_cons (de_var rfl (da_nil (len_x (n := xs.length + 1) rfl rfl (gt_i ⟨_, rfl, ?_⟩))))))))))))))
        · show some ((w :: ws).map D.str).length = some (ws.length + 1)
          rw [List.length_map]
          rfl
        refine ite_b (fun h => ?_) (fun h => ds_next ?_)
        · have h := of_decide_eq_true h
          have e : (ws.drop k.ps.length).isEmpty = false := by
            cases e : ws.drop k.ps.length with
            | nil =>
              have := List.drop_eq_nil_iff.mp e
              omega
            | cons a b => rfl
          rw [e] at hgo
          refine ds_ofX (tb := fun W => tRaiseE Z.C_NoText "place" W (tCons (tCB (rLenX K) (tCons (tVar 3) tNil)) tNil)) (xp := xpText Z (readWs (w :: ws))) (dsx_raise (de_cb (da_cons (de_var rfl (da_nil (len_x (n := xs.length + 1) rfl rfl ⟨_, rfl, rfl, rfl, k.ps.length + 1, ?_, ?_⟩)))))) fun F h => h
          · rw [hg, hgo]
            rfl
          · rw [dnl]
        · have h := of_decide_eq_false h
          have e : ws.drop k.ps.length = [] := List.drop_eq_nil_iff.mpr (by omega)
          rw [e] at hgo
          refine ds_ret (de_cb (da_cons (de_var rfl (da_nil (tuple_x rfl ⟨trivial, .tup (.str w :: xs), rfl, ?_⟩)))))
          rw [hg, hgo]
          show Sum.inr (D.tup (.str w :: (xs ++ []))) = _
          rw [List.append_nil]
theorem all_sg {f : Nat → Bool} {w : Str} {es : Env'} {i j : Nat} {te : TE} {Q : SV → Prop} (hw : es[i]? = some (some (.d (.str w)))) (hl : w.length ≤ 20000) (hj : j < es.length)
    (he : ∀ (es' : Env') (c : Nat) (Q' : SV → Prop), es'[j]? = some (some (.d (.str ⟨#[c]⟩))) → Q' (.d (.bl (f c))) → DE K te es' Q') (q : Q (.d (.bl (w.cps.toList.all f)))) :
    DE K (tCB (rAll K) (tCons (tLc (iStr (tVar i)) (gName j) tYes te [j]) tNil)) es Q := by
  refine de_cb (da_cons (de_lcS (de_var hw ⟨w, rfl, by omega, fun i acc => acc = ((w.cps.toList.take i).map fun c => D.bl (f c)), rfl, fun i c hc acc hJ _ => ?_, fun acc hJ _ => ?_⟩)))
  · refine dg_name ?_
    refine dt_yes ?_
    refine ite_b (fun _ => ?_) (fun h => by cases h)
    refine he _ c _ ?_ ⟨_, rfl, ?_⟩
    · rw [List.getElem?_set_self]
      show j < (wipeE es [j]).length
      simpa [wipeE] using hj
    have hc' : w.cps.toList[i]? = some c := by rw [← hc]; simp
    have hJ : acc = ((w.cps.toList.take i).map fun c => D.bl (f c)) := hJ
    show acc ++ [D.bl (f c)] = ((w.cps.toList.take (i + 1)).map fun c => D.bl (f c))
    rw [hJ, take_get hc', List.map_append]
    rfl
  · have hJ : acc = ((w.cps.toList.take w.length).map fun c => D.bl (f c)) := hJ
    refine da_nil (rc_all (bs := w.cps.toList.map f) (by rw [hJ, ← cps_len w, List.take_length, List.map_map]; rfl) ?_)
    have e : (w.cps.toList.map f).all id = w.cps.toList.all f := by rw [List.all_map]; rfl
    rw [e]
    exact q
theorem numD_nil : numD (SX.S []) = .non := numD_f (by decide +kernel)
theorem sem__law_is_kind (lf : LF K Z) (y : IK) (hp : y.ok) : DS K (rd__law_is_kind K Z) (startE 8 [.d (.str y.w), .d (.str ⟨#[y.p.c]⟩), .d (.lst (y.fs.map D.str))]) { nx := fun _ => SV.d .non = .d (.bl (!(readP y.p (some y.w) y.prev).isNon)), rt := fun r => r = .d (.bl (!(readP y.p (some y.w) y.prev).isNon)) } := by
  obtain ⟨p, w, fs, prev⟩ := y
  obtain ⟨h1, h2, h3⟩ := hp
  have h1 : p ≠ .leave := h1
  have h2 : w.length ≤ 20000 := h2
  have h3 : p = .last → ∃ f : Str, atI (fs.map D.str) (-1) = some (.str f) ∧ numB f = true ∧ prev = .int (numV f : Int) := h3
  show DS K (rd__law_is_kind K Z) [some (.d (.str w)), some (.d (.str ⟨#[p.c]⟩)), some (.d (.lst (fs.map D.str))), none, none, none, none, none] { nx := fun _ => SV.d .non = .d (.bl (!(readP p (some w) prev).isNon)), rt := fun r => r = .d (.bl (!(readP p (some w) prev).isNon)) }
  unfold rd__law_is_kind
  have tr : ∀ {a b : Str} {A C : Prop}, decide (a = b) = true → A → (if decide (a = b) = true then A else C) := fun h x => by rw [if_pos h]; exact x
  have fa : ∀ {a b : Str} {A C : Prop}, decide (a = b) = false → C → (if decide (a = b) = true then A else C) := fun h x => by rw [if_neg (by rw [h]; exact Bool.false_ne_true)]; exact x
  have sz := len_sB h2
  refine ds_seq (ds_if (dt_test (de_op (de_var rfl (de_str (eq_ss ⟨_, rfl, ?_⟩))))))
  have num : (p = .day ∨ p = .last) → ∀ {R : SV → Prop}, (∀ {es : Env'}, es = [some (.d (.str w)), some (.d (.str ⟨#[p.c]⟩)), some (.d (.lst (fs.map D.str))), none, none, none, some (.d (numD w)), none] → True) → True := fun _ _ _ => trivial
  cases p with
  | leave => exact absurd rfl h1
  | hand =>
    refine tr (by decide +kernel) ?_
    have e : (!(readP .hand (some w) prev).isNon) = handD (.str w) := by
      show (!(if handD (.str w) = true then D.str w else D.non).isNon) = handD (.str w)
      cases handD (.str w) <;> rfl
    rw [e]
    refine ds_ret (de_andV (de_chain (de_int (de_cb (da_cons (de_var rfl (da_nil (len_x rfl sz (le_i ⟨_, rfl, ?_⟩)))))))))
    have eh : handD (.str w) = (decide (1 ≤ w.length) && decide (w.length ≤ 8) && w.cps.toList.all low) := rfl
    refine ite_b (fun a1 => ?_) (fun a1 => ?_)
    · have a1 := of_decide_eq_true a1
      refine de_int (le_i ⟨_, rfl, ?_⟩)
      refine ite_b (fun a2 => ?_) (fun a2 => ?_)
      · have a2 := of_decide_eq_true a2
        refine all_sg (f := low) rfl h2 (Nat.le_of_ble_eq_true rfl) (fun es' c Q' e q => de_op (de_var e (de_str (in_sg (by rw [← low_in]; exact q))))) ⟨trivial, ?_⟩
        rw [eh, decide_eq_true (show 1 ≤ w.length by omega), decide_eq_true (show w.length ≤ 8 by omega)]
        rfl
      · have a2 := of_decide_eq_false a2
        refine ⟨trivial, ?_⟩
        rw [eh, decide_eq_false (show ¬ w.length ≤ 8 by omega)]
        simp [SV.out]
    · have a1 := of_decide_eq_false a1
      refine ⟨_, rfl, ?_⟩
      refine ite_b (fun h => by cases h) (fun _ => ?_)
      refine ⟨trivial, ?_⟩
      rw [eh, decide_eq_false (show ¬ 1 ≤ w.length by omega)]
      rfl
  | stretch =>
    refine fa (by decide +kernel) (ds_next ?_)
    refine ds_seq (ds_if (dt_test (de_op (de_var rfl (de_str (eq_ss ⟨_, rfl, ?_⟩))))))
    refine tr (by decide +kernel) ?_
    have l3 := part_len w
    have hsp := part_spec w
    have hplus : (Txt.partition w (Str.ofString "+")).2.1 = Str.ofString "+" ∨ ((Txt.partition w (Str.ofString "+")).2.1 = SX.S [] ∧ (Txt.partition w (Str.ofString "+")).2.2 = SX.S []) := by
      rcases hsp with ⟨p, q, _, _, h⟩ | ⟨_, h⟩
      · rw [h]
        exact .inl rfl
      · rw [h]
        exact .inr ⟨rfl, rfl⟩
    refine ds_seq (ds_unp (de_part (de_var rfl ⟨_, rfl, de_str ⟨_, rfl, by decide +kernel, Nat.le_trans h2 (by decide), ?_⟩⟩)))
    have e : readP .stretch (some w) prev = strW2 (numD (Txt.partition w (Str.ofString "+")).1) (numD (Txt.partition w (Str.ofString "+")).2.2) := rfl
    rw [e]
    generalize Txt.partition w (Str.ofString "+") = pt at l3 hplus
    obtain ⟨a, s, b⟩ := pt
    have la : a.length ≤ 20000 := Nat.le_trans l3.1 h2
    have lb : b.length ≤ 20000 := Nat.le_trans l3.2 h2
    have hplus : s = Str.ofString "+" ∨ (s = SX.S [] ∧ b = SX.S []) := hplus
    refine ⟨_, _, rfl, dg_tup rfl (dgs_cons (dg_name (dgs_cons (dg_name (dgs_cons (dg_name (dgs_nil ?_)))))))⟩
    show DS K _ [some (.d (.str w)), some (.d (.str ⟨#[PK.stretch.c]⟩)), some (.d (.lst (fs.map D.str))), some (.d (.str a)), some (.d (.str s)), some (.d (.str b)), none, none] { nx := _, rt := fun r => r = .d (.bl (!(strW2 (numD a) (numD b)).isNon)) }
    refine ds_ret (de_andV (de_op (de_var rfl (de_str (eq_ss ⟨_, rfl, ?_⟩)))))
    rcases hplus with rfl | ⟨rfl, rfl⟩
    · refine tr (by decide +kernel) ?_
      refine de_andV (de_op (call_numL rfl la (de_non (nov_n ⟨_, rfl, ?_⟩))))
      rcases numD_cases a with ⟨ha, ea⟩ | ⟨ha, ea⟩
      · rw [ea]
        exact ite_b (fun h => by cases h) (fun _ => ⟨trivial, rfl⟩)
      rw [ea]
      refine ite_b (fun _ => ?_) (fun h => by cases h)
      refine de_op (de_orT (call_numL rfl lb ?_))
      rcases numD_cases b with ⟨hb, eb⟩ | ⟨hb, eb⟩
      · rw [eb]
        refine ⟨_, false, rfl, rfl, ?_⟩
        refine ite_b (fun h => by cases h) (fun _ => de_int (de_int (gt_i ⟨trivial, rfl⟩)))
      · rw [eb]
        refine ⟨_, _, rfl, rfl, ?_⟩
        have e2 : strW2 (.int (numV a : Int)) (.int (numV b : Int)) = if (numV b : Int) = 0 then .non else .tup [.int (numV a : Int), .int (numV b : Int)] := rfl
        rw [e2]
        refine ite_b (fun h => de_int (gt_i ⟨trivial, ?_⟩)) (fun h => de_int (de_int (gt_i ⟨trivial, ?_⟩)))
        · have h : (numV b : Int) ≠ 0 := by simpa using h
          rw [if_neg h, decide_eq_true (show (0 : Int) < (numV b : Int) by omega)]
          rfl
        · have h : (numV b : Int) = 0 := by simpa using h
          rw [if_pos h]
          rfl
    · refine fa (by decide +kernel) ⟨trivial, ?_⟩
      rw [numD_nil]
      have : strW2 (numD a) .non = .non := by cases numD a <;> rfl
      rw [this]
      rfl
  | day =>
    refine fa (by decide +kernel) (ds_next ?_)
    refine ds_seq (ds_if (dt_test (de_op (de_var rfl (de_str (eq_ss ⟨_, rfl, ?_⟩))))))
    refine fa (by decide +kernel) (ds_next ?_)
    refine ds_seq (ds_set (call_numL rfl h2 ⟨trivial, ?_⟩))
    show DS K _ [some (.d (.str w)), some (.d (.str ⟨#[PK.day.c]⟩)), some (.d (.lst (fs.map D.str))), none, none, none, some (.d (numD w)), none] { nx := _, rt := fun r => r = .d (.bl (!(if dayD (numD w) = true then numD w else D.non).isNon)) }
    refine ds_seq (ds_if (dt_or (dt_test (de_op (de_var rfl (de_non (isv_n ⟨_, rfl, ?_⟩)))))))
    rcases numD_cases w with ⟨ha, ea⟩ | ⟨ha, ea⟩
    · rw [ea]
      exact ite_b (fun _ => ds_ret (de_bl ⟨trivial, rfl⟩)) (fun h => by cases h)
    rw [ea]
    refine ite_b (fun h => by cases h) (fun _ => ?_)
    refine dt_test (de_op (de_var rfl (de_op (de_int (de_int (pow_lit (k := 1000000000000000000000000000000) (by decide +kernel) (by decide) (by decide) (by decide) (gt_i ⟨_, rfl, ?_⟩)))))))
    have ed : dayD (.int (numV w : Int)) = (decide (0 ≤ (numV w : Int)) && decide ((numV w : Int) ≤ 1000000000000000000000000000000)) := rfl
    rw [ed, decide_eq_true (show 0 ≤ (numV w : Int) by omega)]
    refine ite_b (fun h => ds_ret (de_bl ⟨trivial, ?_⟩)) (fun h => ds_next ?_)
    · have h := of_decide_eq_true h
      rw [decide_eq_false (show ¬ (numV w : Int) ≤ 1000000000000000000000000000000 by omega)]
      rfl
    · have h := of_decide_eq_false h
      rw [decide_eq_true (show (numV w : Int) ≤ 1000000000000000000000000000000 by omega)]
      refine ds_ret (de_orV (de_op (de_var rfl (de_str (eq_ss ⟨_, rfl, ?_⟩)))))
      exact tr (by decide +kernel) ⟨trivial, rfl⟩
  | last =>
    obtain ⟨f, hf, hb, rfl⟩ := h3 rfl
    refine fa (by decide +kernel) (ds_next ?_)
    refine ds_seq (ds_if (dt_test (de_op (de_var rfl (de_str (eq_ss ⟨_, rfl, ?_⟩))))))
    refine fa (by decide +kernel) (ds_next ?_)
    refine ds_seq (ds_set (call_numL rfl h2 ⟨trivial, ?_⟩))
    show DS K _ [some (.d (.str w)), some (.d (.str ⟨#[PK.last.c]⟩)), some (.d (.lst (fs.map D.str))), none, none, none, some (.d (numD w)), none] { nx := _, rt := fun r => r = .d (.bl (!(if (dayD (numD w) && !ltD (numD w) (.int (numV f : Int))) = true then numD w else D.non).isNon)) }
    refine ds_seq (ds_if (dt_or (dt_test (de_op (de_var rfl (de_non (isv_n ⟨_, rfl, ?_⟩)))))))
    rcases numD_cases w with ⟨ha, ea⟩ | ⟨ha, ea⟩
    · rw [ea]
      exact ite_b (fun _ => ds_ret (de_bl ⟨trivial, rfl⟩)) (fun h => by cases h)
    rw [ea]
    refine ite_b (fun h => by cases h) (fun _ => ?_)
    refine dt_test (de_op (de_var rfl (de_op (de_int (de_int (pow_lit (k := 1000000000000000000000000000000) (by decide +kernel) (by decide) (by decide) (by decide) (gt_i ⟨_, rfl, ?_⟩)))))))
    have ed : dayD (.int (numV w : Int)) = (decide (0 ≤ (numV w : Int)) && decide ((numV w : Int) ≤ 1000000000000000000000000000000)) := rfl
    rw [ed, decide_eq_true (show 0 ≤ (numV w : Int) by omega)]
    refine ite_b (fun h => ds_ret (de_bl ⟨trivial, ?_⟩)) (fun h => ds_next ?_)
    · have h := of_decide_eq_true h
      rw [decide_eq_false (show ¬ (numV w : Int) ≤ 1000000000000000000000000000000 by omega)]
      rfl
    · have h := of_decide_eq_false h
      rw [decide_eq_true (show (numV w : Int) ≤ 1000000000000000000000000000000 by omega)]
      refine ds_ret (de_orV (de_op (de_var rfl (de_str (eq_ss ⟨_, rfl, ?_⟩)))))
      refine fa (by decide +kernel) ?_
      have hfl := (numB_iff.mp hb).1
      refine de_op (de_var rfl (de_cb (da_cons (de_op (de_var rfl (de_un (de_int (neg_i (rr_xL (x := .str f) rfl hf (da_nil (int_s (numB_int hb) (by omega) (ge_i ⟨trivial, ?_⟩))))))))))))
      have el : ltD (.int (numV w : Int)) (.int (numV f : Int)) = decide ((numV w : Int) < (numV f : Int)) := rfl
      rw [el]
      by_cases hc : (numV w : Int) < (numV f : Int)
      · rw [decide_eq_true hc, decide_eq_false (show ¬ (numV f : Int) ≤ (numV w : Int) by omega)]
        rfl
      · rw [decide_eq_false hc, decide_eq_true (show (numV f : Int) ≤ (numV w : Int) by omega)]
        rfl
def DK.qs : DK → List PK
  | .sale => [.day, .stretch, .hand]
  | .grant => [.day, .hand, .stretch, .stretch]
  | .fin => [.day, .hand, .stretch, .stretch]
  | .use => [.day, .last, .stretch, .stretch]
def DK.sg : DK → Str
  | .sale => "nsh"
  | .grant => "nhss"
  | .fin => "nhss"
  | .use => "nmss"
abbrev kinds : List (Str × Str) := [("sale", "nsh"), ("grant", "nhss"), ("end", "nhss"), ("use", "nmss")]
theorem kinds_at (w : Str) : kinds.lookup w = (kindOf w).map DK.sg := by
  have b : ∀ z : Str, (w == z) = decide (w = z) := fun z => by
    cases h : decide (w = z) with
    | true => exact beq_iff_eq.mpr (of_decide_eq_true h)
    | false => exact beq_eq_false_iff_ne.mpr (of_decide_eq_false h)
  unfold kindOf
  rw [List.lookup_cons, List.lookup_cons, List.lookup_cons, List.lookup_cons, b, b, b, b]
  by_cases h1 : w = "sale"
  · rw [if_pos h1, decide_eq_true h1]
    rfl
  rw [if_neg h1, decide_eq_false h1]
  by_cases h2 : w = "grant"
  · rw [if_pos h2, decide_eq_true h2]
    rfl
  rw [if_neg h2, decide_eq_false h2]
  by_cases h3 : w = "end"
  · rw [if_pos h3, decide_eq_true h3]
    rfl
  rw [if_neg h3, decide_eq_false h3]
  by_cases h4 : w = "use"
  · rw [if_pos h4, decide_eq_true h4]
    rfl
  rw [if_neg h4, decide_eq_false h4]
  rfl
theorem sg_qs (k : DK) : k.sg.cps.toList = k.qs.map PK.c := by cases k <;> decide +kernel
theorem qs_ps (k : DK) : ∀ (j : Nat) (p : PK), k.qs[j]? = some p → k.ps[j]? = some p ∧ p ≠ .leave := by
  intro j p h
  cases k
  · match j, h with
    | 0, h => injection h with h; subst h; exact ⟨rfl, nofun⟩
    | 1, h => injection h with h; subst h; exact ⟨rfl, nofun⟩
    | 2, h => injection h with h; subst h; exact ⟨rfl, nofun⟩
    | n + 3, h => cases h
  · match j, h with
    | 0, h => injection h with h; subst h; exact ⟨rfl, nofun⟩
    | 1, h => injection h with h; subst h; exact ⟨rfl, nofun⟩
    | 2, h => injection h with h; subst h; exact ⟨rfl, nofun⟩
    | 3, h => injection h with h; subst h; exact ⟨rfl, nofun⟩
    | n + 4, h => cases h
  · match j, h with
    | 0, h => injection h with h; subst h; exact ⟨rfl, nofun⟩
    | 1, h => injection h with h; subst h; exact ⟨rfl, nofun⟩
    | 2, h => injection h with h; subst h; exact ⟨rfl, nofun⟩
    | 3, h => injection h with h; subst h; exact ⟨rfl, nofun⟩
    | n + 4, h => cases h
  · match j, h with
    | 0, h => injection h with h; subst h; exact ⟨rfl, nofun⟩
    | 1, h => injection h with h; subst h; exact ⟨rfl, nofun⟩
    | 2, h => injection h with h; subst h; exact ⟨rfl, nofun⟩
    | 3, h => injection h with h; subst h; exact ⟨rfl, nofun⟩
    | n + 4, h => cases h
theorem cut5 (x0 x1 x2 x3 x4 : D) (rest : List D) : DL.cutD (x0 :: x1 :: x2 :: x3 :: x4 :: rest) (some 5) (some 6) = rest.take 1 := by
  have e1 : HT.sIx (rest.length + 5) 0 (some (5 : Int)) = min 5 (rest.length + 5) := HT.sIx_nat _ _ 5
  have e2 : HT.sIx (rest.length + 5) (rest.length + 5) (some (6 : Int)) = min 6 (rest.length + 5) := HT.sIx_nat _ _ 6
  show ((x0 :: x1 :: x2 :: x3 :: x4 :: rest).drop (HT.sIx (rest.length + 5) 0 (some (5 : Int)))).take (HT.sIx (rest.length + 5) (rest.length + 5) (some (6 : Int)) - HT.sIx (rest.length + 5) 0 (some (5 : Int))) = _
  rw [e1, e2, Nat.min_eq_left (show 5 ≤ rest.length + 5 by omega)]
  show rest.take (min 6 (rest.length + 5) - 5) = rest.take 1
  cases rest with
  | nil => rfl
  | cons y ys =>
    rw [List.length_cons, Nat.min_eq_left (show 6 ≤ ys.length + 1 + 5 by omega)]
def plD : Nat ⊕ List D → D
  | .inl n => .int (n : Int)
  | .inr _ => .non
theorem place_go {w : Str} {ws : List Str} {k : DK} (hk : kindOf w = some k) : placeD (readWs (w :: ws)) = plD (goP k.ps ws (.str w) 1) := by
  have hg : readWs (w :: ws) = match goP k.ps ws (.str w) 1 with
      | .inl n => .inl n
      | .inr xs => .inr (D.tup (.str w :: xs)) := by
    show (match kindOf w with
      | none => Sum.inl 0
      | some k => match goP k.ps ws (.str w) 1 with
        | .inl n => .inl n
        | .inr xs => .inr (D.tup (.str w :: xs))) = _
    rw [hk]
  rw [hg]
  cases goP k.ps ws (.str w) 1 <;> rfl
/-- how far the law has looked -/
def Seen (k : DK) (w : Str) (ws : List Str) (i : Nat) (prev : D) : Prop :=
  i ≤ ws.length ∧ plD (goP k.ps ws (.str w) 1) = plD (goP (k.ps.drop i) (ws.drop i) prev (i + 1)) ∧ (∀ (j : Nat) (p : PK), i = j + 1 → k.ps[j]? = some p → ∃ f pr, ws[j]? = some f ∧ readP p (some f) pr = prev ∧ prev.isNon = false)
theorem plD_go {x : D} {r : Nat ⊕ List D} : plD (match r with
      | .inl n => .inl n
      | .inr xs => .inr (x :: xs)) = plD r := by cases r <;> rfl
theorem sem__law_place (lf : LF K Z) (words : List Str) (hp : (∀ w ∈ words, w.length ≤ 20000 ∧ okS w) ∧ words.length ≤ 20010) : DS K (rd__law_place K Z) (startE 6 [.d (.lst (words.map D.str)), .d (.int 0)]) { nx := fun _ => SV.d .non = .d (placeD (readWs words)), rt := fun r => r = .d (placeD (readWs words)) } := by
  obtain ⟨hw, hl⟩ := hp
  show DS K (rd__law_place K Z) [some (.d (.lst (words.map D.str))), some (.d (.int 0)), none, none, none, none] _
  unfold rd__law_place
  refine ds_seq (ds_set (de_disp (kvs := kinds) rfl (by decide) ⟨trivial, ?_⟩))
  show DS K _ [some (.d (.lst (words.map D.str))), some (.d (.int 0)), some (.dic kinds), none, none, none] _
  have sz : (D.lst (words.map D.str)).len = some words.length := by
    show some (words.map D.str).length = some words.length
    rw [List.length_map]
  refine ds_seq (ds_if (dt_or (dt_test (de_op (de_cb (da_cons (de_var rfl (da_nil (len_x rfl sz (de_var rfl (le_i ⟨_, rfl, ?_⟩)))))))))))
  match words with
  | [] =>
    refine ite_b (fun _ => ds_ret (de_var rfl ⟨trivial, rfl⟩)) (fun h => by cases h)
  | w :: ws =>
    refine ite_b (fun h => absurd (of_decide_eq_true h) (by rw [List.length_cons]; omega)) (fun _ => ?_)
    refine dt_test (de_op (de_op (de_var rfl (de_var rfl (rr_xL (x := .str w) rfl (at_0 _ _) (de_var rfl (notin_dic ⟨_, rfl, ?_⟩)))))))
    rw [kinds_at]
    cases hk : kindOf w with
    | none =>
      refine ite_b (fun _ => ds_ret (de_var rfl ⟨trivial, ?_⟩)) (fun h => by cases h)
      have h0 : readWs (w :: ws) = .inl 0 := by
        show (match kindOf w with
          | none => Sum.inl 0
          | some k => match goP k.ps ws (.str w) 1 with
            | .inl n => .inl n
            | .inr xs => .inr (D.tup (.str w :: xs))) = _
        rw [hk]
      rw [h0]
      rfl
    | some k =>
      refine ite_b (fun h => by cases h) (fun _ => ds_next ?_)
      rw [place_go hk]
      have hlw : ws.length ≤ 20010 := by rw [List.length_cons] at hl; omega
      refine ds_seq (ds_par (by decide) (de_op (de_var rfl (de_int (plus_i (de_lst' (da_nil ⟨[], rfl, Nat.le_of_ble_eq_true rfl, trivial, trivial, ?_⟩)))))))
      show DS K _ [some (.d (.lst ((w :: ws).map D.str))), some (.d (.int 0)), some (.dic kinds), some (.d (.int (0 + 1))), some (.own []), none] _
      have kl : k.qs.length ≤ 4 := by cases k <;> exact Nat.le_of_ble_eq_true rfl
      have sgl : k.sg.cps.size = k.qs.length := by
        have := congrArg List.length (sg_qs k)
        rw [List.length_map, Array.length_toList] at this
        exact this
      refine ds_seq (ds_forS (de_dget (de_var rfl ⟨kinds, rfl, de_op (de_var rfl (de_var rfl (rr_xL (x := .str w) rfl (at_0 _ _) ⟨w, k.sg, rfl, by rw [kinds_at, hk]; rfl, ?_⟩)))⟩)))
      refine ⟨k.sg, rfl, fun i e => ∃ (a : Option SV) (prev : D), e = [some (.d (.lst ((w :: ws).map D.str))), some (.d (.int 0)), some (.dic kinds), some (.d (.int ((i : Int) + 1))), some (.own ((ws.take i).map D.str)), a] ∧ Seen k w ws i prev, ⟨_, .str w, rfl, Nat.zero_le _, rfl, fun j p h => (by omega)⟩, ?_, ?_⟩
      · rintro i c es' hc ⟨a, prev, rfl, sn⟩
        obtain ⟨s1, s2, s3⟩ := sn
        obtain ⟨p, hq, hpc⟩ : ∃ p, k.qs[i]? = some p ∧ p.c = c := by
          have h : k.sg.cps.toList[i]? = some c := by rw [← hc]; simp
          rw [sg_qs, List.getElem?_map] at h
          obtain ⟨p, hq, hpc⟩ := Option.map_eq_some_iff.mp h
          exact ⟨p, hq, hpc⟩
        subst hpc
        obtain ⟨hps, hne⟩ := qs_ps k i p hq
        have hi : i < k.qs.length := (List.getElem?_eq_some_iff.mp hq).1
        refine ⟨_, dg_name ?_⟩
        show DS K _ [some (.d (.lst ((w :: ws).map D.str))), some (.d (.int 0)), some (.dic kinds), some (.d (.int ((i : Int) + 1))), some (.own ((ws.take i).map D.str)), some (.d (.str ⟨#[p.c]⟩))] _
        refine ds_seq (ds_if (dt_or (dt_test (de_op (de_var rfl (de_cb (da_cons (de_var rfl (da_nil (len_x (n := ws.length + 1) rfl ?_ (eq_ii ⟨_, rfl, ?_⟩)))))))))))
        · show some ((w :: ws).map D.str).length = some (ws.length + 1)
          rw [List.length_map]
          rfl
        refine ite_b (fun h => ?_) (fun h => ?_)
        · have h : (i : Int) + 1 = ((ws.length + 1 : Nat) : Int) := beq_iff_eq.mp h
          have e : ws[i]? = none := List.getElem?_eq_none_iff.mpr (by omega)
          refine ds_ret (de_var rfl ⟨trivial, ?_⟩)
          rw [s2, drop_get hps, goP_stop (by
            rw [drop_head, e]
            cases p <;> first | rfl | exact absurd rfl hne)]
          show SV.d (.int ((i : Int) + 1)) = .d (.int ((i + 1 : Nat) : Int))
          congr 2
        have h : ¬ (i : Int) + 1 = ((ws.length + 1 : Nat) : Int) := fun e => by rw [e] at h; simp at h
        have hil : i < ws.length := by omega
        obtain ⟨f, hf⟩ : ∃ f, ws[i]? = some f := ⟨ws[i], List.getElem?_eq_getElem hil⟩
        have hfm : f ∈ w :: ws := List.mem_cons_of_mem _ (List.mem_of_getElem? hf)
        have hat : atI ((w :: ws).map D.str) ((i : Int) + 1) = some (.str f) := by
          have : (i : Int) + 1 = ((i + 1 : Nat) : Int) := by omega
          rw [this]
          refine atI_nat ?_
          rw [List.getElem?_map]
          show ((ws[i]?).map D.str) = _
          rw [hf]
          rfl
        refine dt_not (dt_B (de_lendQ (da_cons (de_op (de_var rfl (de_var rfl (rr_xL (x := .str f) rfl hat ?_)))))))
        refine da_cons (de_var rfl (da_cons (de_var rfl (da_nil ⟨⟨p, f, ws.take i, prev⟩, rfl, rfl, ⟨hne, (hw f hfm).1, ?_⟩, ?_⟩))))
        · intro hpl
          have hpl : p = .last := hpl
          rw [hpl] at hps
          obtain ⟨rfl, rfl⟩ := last_k _ _ hps
          obtain ⟨g, pr, hg, hr, hn⟩ := s3 0 .day rfl rfl
          have hg' : (ws.take 1).map D.str = [.str g] := by
            cases ws with
            | nil => cases hg
            | cons u us =>
              have hg : some u = some g := hg
              injection hg with hg
              subst hg
              rfl
          refine ⟨g, by rw [hg']; rfl, ?_⟩
          have hr : (if dayD (numD g) = true then numD g else .non) = prev := hr
          by_cases hd : dayD (numD g) = true
          · rw [if_pos hd] at hr
            rcases numD_cases g with ⟨_, e⟩ | ⟨hb, e⟩
            · rw [e] at hd
              cases hd
            · exact ⟨hb, by rw [← hr, e]⟩
          · rw [if_neg hd] at hr
            rw [← hr] at hn
            cases hn
        rintro r rfl
        refine ⟨_, rfl, rfl, _, rfl, ?_⟩
        show (if (!(!(readP p (some f) prev).isNon)) = true then _ else _)
        rw [Bool.not_not]
        refine ite_b (fun hnon => ?_) (fun hnon => ds_next ?_)
        · refine ds_ret (de_var rfl ⟨trivial, ?_⟩)
          rw [s2, drop_get hps, goP_stop (by rw [drop_head, hf]; exact isNon_iff hnon)]
          show SV.d (.int ((i : Int) + 1)) = .d (.int ((i + 1 : Nat) : Int))
          congr 2
        refine ds_seq (ds_app (i := 4) rfl (de_op (de_var rfl (de_var rfl (rr_xL (x := .str f) rfl hat ⟨_, rfl, ?_, ?_⟩)))))
        · rw [List.length_map, List.length_take]
          omega
        show DS K _ [some (.d (.lst ((w :: ws).map D.str))), some (.d (.int 0)), some (.dic kinds), some (.d (.int ((i : Int) + 1))), some (.own ((ws.take i).map D.str ++ [.str f])), some (.d (.str ⟨#[p.c]⟩))] _
        refine ds_aug (i := 3) rfl (de_int ⟨_, rfl, some (.d (.str ⟨#[p.c]⟩)), readP p (some f) prev, ?_, by omega, ?_, ?_⟩)
        · rw [take_get hf, List.map_append]
          rfl
        · rw [s2, drop_get hps, goP_cons (x := readP p (some f) prev) (by rw [drop_head, hf]) hnon, plD_go, drop_tail]
        · intro j q hj hq2
          have : j = i := by omega
          subst this
          rw [hps] at hq2
          injection hq2 with hq2
          subst hq2
          exact ⟨f, prev, hf, rfl, hnon⟩
      · rintro _ ⟨a, prev, rfl, sn⟩
        rw [sgl] at sn ⊢
        obtain ⟨s1, s2, s3⟩ := sn
        have hat0 : atI ((w :: ws).map D.str) 0 = some (.str w) := at_0 _ _
        have fin : ∀ (n : Nat) (g : List D) (a : Option SV) (r : D), n ≤ ws.length + 1 → (r = if n = ws.length + 1 then D.non else .int (n : Int)) → DS K (tRet (tIf (tTest (tOp (rEqX K) (tVar 3) (tCB (rLenX K) (tCons (tVar 0) tNil)))) (tC .non) (tVar 3))) [some (.d (.lst ((w :: ws).map D.str))), some (.d (.int 0)), some (.dic kinds), some (.d (.int (n : Int))), some (.own g), a] { nx := fun _ => SV.d .non = .d r, rt := fun z => z = .d r } := by
          intro n g a r hn hr
          refine ds_ret (de_if (dt_test (de_op (de_var rfl (de_cb (da_cons (de_var rfl (da_nil (len_x (n := ws.length + 1) rfl ?_ (eq_ii ⟨_, rfl, ?_⟩))))))))))
          · show some ((w :: ws).map D.str).length = some (ws.length + 1)
            rw [List.length_map]
            rfl
          refine ite_b (fun h => de_non ⟨trivial, ?_⟩) (fun h => de_var rfl ⟨trivial, ?_⟩)
          · have h : (n : Int) = ((ws.length + 1 : Nat) : Int) := beq_iff_eq.mp h
            rw [hr, if_pos (by omega)]
            rfl
          · rw [hr, if_neg (fun e => by rw [e] at h; simp at h)]
            rfl
        refine ds_seq (ds_if (dt_and (dt_test (de_op (de_op (de_var rfl (de_var rfl (rr_xL (x := .str w) rfl hat0 (de_str (eq_ss ⟨_, rfl, ?_⟩))))))))))
        by_cases hu : k = .use
        · subst hu
          have hwu : w = "use" := kind_w hk
          have s1 : 4 ≤ ws.length := s1
          rw [decide_eq_true hwu, if_pos rfl]
          have s2 : plD (goP DK.use.ps ws (.str w) 1) = plD (goP [.leave] (ws.drop 4) prev 5) := s2
          rw [s2]
          match ws, s1 with
          | x1 :: x2 :: x3 :: x4 :: rest, _ =>
            show DT K _ [some (.d (.lst (.str w :: .str x1 :: .str x2 :: .str x3 :: .str x4 :: rest.map D.str))), some (.d (.int 0)), some (.dic kinds), some (.d (.int 5)), some (.own (([x1, x2, x3, x4]).map D.str)), a] _
            refine dt_test (de_op (de_sl (de_var rfl (do_some (de_var rfl ⟨_, rfl, do_some (de_op (de_var rfl (de_int (plus_i ⟨_, rfl, sl_l rfl ?_⟩))))⟩)))))
            rw [show ((5 : Int) + 1) = 6 from rfl, cut5]
            refine de_lst' (da_cons (de_str (da_nil ⟨_, rfl, Nat.le_of_ble_eq_true rfl, ?_⟩)))
            have fl : Fit 100 3 (.lst [.str "leave"]) := (Fit.lst (FitA.cons (Fit.s (m := 5) (show okS (Str.ofString "leave") from okS_of _) (by decide +kernel)) FitA.nil)).mono (by decide) (by decide)
            match rest with
            | [] =>
              refine eqF rfl rfl (show Fit 100 3 (.lst []) from (Fit.lst FitA.nil).mono (by decide) (by decide)) fl (by decide) (by decide) ⟨_, rfl, ?_⟩
              refine ite_b (fun h => by cases h) (fun _ => ds_next ?_)
              exact fin 5 _ _ _ (Nat.le_refl _) rfl
            | z :: rs =>
              have hz := hw z (by simp)
              refine eqF rfl rfl (show Fit 300000 3 (.lst [.str z]) from (Fit.lst (FitA.cons (Fit.s (m := 20000) hz.2 hz.1) FitA.nil)).mono (by decide) (by decide)) fl (by decide) (by decide) ⟨_, rfl, ?_⟩
              have ev : PyData.eqv (D.lst [.str z]).py (D.lst [.str "leave"]).py = ((z == (Str.ofString "leave")) && true) := rfl
              have gd : goP [.leave] ((x1 :: x2 :: x3 :: x4 :: z :: rs).drop 4) prev 5 = goP [.leave] (z :: rs) prev 5 := rfl
              show (if PyData.eqv (D.lst [.str z]).py (D.lst [.str "leave"]).py = true then _ else _)
              rw [ev, Bool.and_true, gd]
              refine ite_b (fun h => ?_) (fun h => ds_next ?_)
              · have h : z = "leave" := eq_of_beq h
                have e : goP [.leave] (z :: rs) prev 5 = match goP [] rs (.bl true) 6 with
                    | .inl n => .inl n
                    | .inr xs => .inr (.bl true :: xs) := goP_cons (x := .bl true) (if_pos h) rfl
                rw [e, plD_go]
                refine ds_aug (i := 3) rfl (de_int ⟨_, rfl, ?_⟩)
                refine fin 6 _ _ _ (by simp) ?_
                show plD (if rs.isEmpty = true then .inr [] else .inl 6) = _
                cases rs with
                | nil => rfl
                | cons y ys =>
                  rw [if_neg (by simp)]
                  rfl
              · have h : ¬ z = "leave" := fun e => by rw [e] at h; simp at h
                rw [goP_stop (show readP .leave (some z) prev = .non from if_neg h)]
                refine fin 5 _ _ _ (by simp) ?_
                rw [if_neg (by simp)]
                rfl
        · have hwu : ¬ w = "use" := fun e => by
            rw [e] at hk
            have := hk.symm.trans (kind_of .use)
            injection this with this
            exact hu this
          rw [decide_eq_false hwu, if_neg Bool.false_ne_true]
          refine ds_next ?_
          have hd : k.ps.drop k.qs.length = [] := by cases k <;> first | rfl | exact absurd rfl hu
          rw [hd] at s2
          have e : ((k.qs.length : Nat) : Int) + 1 = ((k.qs.length + 1 : Nat) : Int) := by omega
          rw [e]
          refine fin _ _ _ _ (by omega) ?_
          rw [s2]
          show plD (if (ws.drop k.qs.length).isEmpty = true then .inr [] else .inl (k.qs.length + 1)) = _
          cases h : ws.drop k.qs.length with
          | nil =>
            have := List.drop_eq_nil_iff.mp h
            rw [if_pos (show k.qs.length + 1 = ws.length + 1 by omega)]
            rfl
          | cons x xs =>
            have : ¬ ws.length ≤ k.qs.length := fun hh => by rw [List.drop_eq_nil_iff.mpr hh] at h; cases h
            rw [if_neg (show ¬ k.qs.length + 1 = ws.length + 1 by omega)]
            rfl
theorem spc0 : (Str.ofString " ") = SX.S [32] := by decide +kernel
theorem words_back {ys : List Str} (hne : ys ≠ []) (h : ∀ y ∈ ys, 32 ∉ y.cps.toList) : Txt.split (Txt.join (Str.ofString " ") ys) (Str.ofString " ") = ys := by
  have e : ys = (ys.map fun y => y.cps.toList).map SX.S := by
    rw [List.map_map]
    have : (SX.S ∘ fun y : Str => y.cps.toList) = id := funext fun y => SX.S_tl y
    rw [this, List.map_id]
  rw [spc0]
  generalize hz : (ys.map fun y => y.cps.toList) = zs at e
  rw [e, SX.join_S, SX.split_S (by decide) (by decide)]
  have h1 : zs ≠ [] := by
    intro hn
    rw [← hz] at hn
    exact hne (List.map_eq_nil_iff.mp hn)
  have h2 : ∀ p ∈ zs, 32 ∉ p := by
    intro p hp
    rw [← hz] at hp
    obtain ⟨y, hy, rfl⟩ := List.mem_map.mp hp
    exact h y hy
  rw [SX.spl_join h1 h2]
theorem WAll.len : ∀ {ps : List PK} {xs : List D}, WAll ps xs → xs.length = ps.length
  | _, _, .nil => rfl
  | _, _, .cons _ t => congrArg (· + 1) t.len
theorem WAll.get : ∀ {ps : List PK} {xs : List D} {i : Nat} {p : PK} {x : D}, WAll ps xs → ps[i]? = some p → xs[i]? = some x → WOk p x
  | _, _, _, _, _, .nil, h, _ => by simp at h
  | _, _, 0, _, _, .cons r t, h, g => by
    simp at h g
    subst h g
    exact r
  | _, _, i + 1, _, _, .cons r t, h, g => WAll.get (i := i) t (by simpa using h) (by simpa using g)
theorem WAll.mem : ∀ {ps : List PK} {xs : List D}, WAll ps xs → ∀ x ∈ xs, ∃ p, WOk p x
  | _, _, .nil, _, h => by cases h
  | _, _, .cons r t, x, h => by
    rcases List.mem_cons.mp h with rfl | h
    · exact ⟨_, r⟩
    · exact WAll.mem t x h
theorem kn {n : Nat} (h : n ≤ 1000000000000000000000000000000) : n < bigN := Nat.lt_of_le_of_lt h (by decide +kernel)
theorem low_32 : low 32 = false := by decide +kernel
/-- a word: no blank in it, not too long -/
theorem wtxt_ok {p : PK} {x : D} {t : Str} (h : WOk p x) (e : wtxt x = some t) : 32 ∉ t.cps.toList ∧ t.length ≤ 200 := by
  have app : ∀ a b : Str, (a ++ b).cps.toList = a.cps.toList ++ b.cps.toList := fun a b => by
    show (a.cps ++ b.cps).toList = _
    rw [Array.toList_append]
  cases h with
  | @day n h =>
    injection e with e
    subst e
    exact ⟨iS_free (.inl (by decide)), by have := (iS_len (kn h)).2; omega⟩
  | @last n h =>
    injection e with e
    subst e
    exact ⟨iS_free (.inl (by decide)), by have := (iS_len (kn h)).2; omega⟩
  | @hand z h =>
    injection e with e
    subst e
    refine ⟨fun hm => ?_, by have := h.1.2; omega⟩
    have := h.2.2 32 hm
    rw [low_32] at this
    cases this
  | @stretch a b ha hb h1 =>
    injection e with e
    subst e
    have ep : (Str.ofString "+").cps.toList = [43] := by decide +kernel
    refine ⟨fun hm => ?_, ?_⟩
    · rw [app, app, List.mem_append, List.mem_append] at hm
      rcases hm with (hm | hm) | hm
      · exact iS_free (.inl (by decide)) hm
      · rw [ep] at hm
        exact absurd hm (by decide)
      · exact iS_free (.inl (by decide)) hm
    · rw [strLen_append, strLen_append]
      have l1 := (iS_len ha).2
      have l2 := (iS_len hb).2
      have l3 : (Str.ofString "+").length = 1 := by decide +kernel
      omega
  | leave b =>
    cases b with
    | true =>
      injection e with e
      subst e
      exact ⟨by decide +kernel, by decide +kernel⟩
    | false => cases e
theorem DK.w_ok (k : DK) : 32 ∉ k.w.cps.toList ∧ k.w.length ≤ 200 := by cases k <;> exact ⟨by decide +kernel, by decide +kernel⟩
theorem DX.words_ok {x : DX} (h : x.ok) : ∀ y ∈ x.words, 32 ∉ y.cps.toList ∧ y.length ≤ 200 := fun y hy => by
  rcases List.mem_cons.mp hy with rfl | hy
  · exact x.k.w_ok
  · obtain ⟨d, hd, e⟩ := List.mem_filterMap.mp hy
    obtain ⟨p, hp⟩ := h.1.mem d hd
    exact wtxt_ok hp e
theorem DX.len {x : DX} (h : x.ok) : 3 ≤ x.xs.length ∧ x.xs.length ≤ 5 := by
  rw [h.1.len]
  cases x.k <;> exact ⟨Nat.le_of_ble_eq_true rfl, Nat.le_of_ble_eq_true rfl⟩
theorem DX.wlen {x : DX} (h : x.ok) : x.words.length ≤ 6 := by
  have h1 : (x.xs.filterMap wtxt).length ≤ x.xs.length := List.length_filterMap_le _ _
  have h2 := (DX.len h).2
  show (x.xs.filterMap wtxt).length + 1 ≤ 6
  omega
theorem DX.back {x : DX} (h : x.ok) : Txt.split x.text (Str.ofString " ") = x.words := words_back (List.cons_ne_nil _ _) fun y hy => (DX.words_ok h y hy).1
theorem joins_len (sep : Str) : ∀ ys : List Str, (Str.join sep ys).length ≤ (ys.map fun y => y.length + sep.length).sum
  | [] => by show (0 : Nat) ≤ _; exact Nat.zero_le _
  | [y] => by show y.length ≤ _; simp
  | x :: y :: r => by
    show (x ++ sep ++ Str.join sep (y :: r)).length ≤ _
    rw [strLen_append, strLen_append, List.map_cons, List.sum_cons]
    have := joins_len sep (y :: r)
    omega
theorem DX.text_len {x : DX} (h : x.ok) : x.text.length ≤ 2000 := by
  have e : x.text = Str.join (Str.ofString " ") x.words := StrLaws.glued_eq_join _ _
  rw [e]
  have h1 := joins_len (Str.ofString " ") x.words
  have h2 : (x.words.map fun y => y.length + (Str.ofString " ").length).sum ≤ x.words.length * 201 := sum_le fun y hy => by
    have := (DX.words_ok h y hy).2
    have e : (Str.ofString " ").length = 1 := by decide +kernel
    omega
  have h3 := DX.wlen h
  omega
theorem parts_k (k : DK) : partsL k.w = k.ps.map PK.s := by cases k <;> decide +kernel
theorem cut1 (d : D) : ∀ xs : List D, xs.length ≤ 5 → cutD (d :: xs) (some 1) none = xs
  | [], _ => rfl
  | [_], _ => rfl
  | [_, _], _ => rfl
  | [_, _, _], _ => rfl
  | [_, _, _, _], _ => rfl
  | [_, _, _, _, _], _ => rfl
  | _ :: _ :: _ :: _ :: _ :: _ :: r, h => by simp at h
theorem acc_some {xs : List D} {i : Nat} {x : D} {t w : Str} (h : xs[i]? = some x) (e : wtxt x = some t) : (D.str w :: ((xs.take i).filterMap wtxt).map D.str) ++ [.str t] = .str w :: ((xs.take (i + 1)).filterMap wtxt).map D.str := by
  rw [take_get h, List.filterMap_append, List.map_append, List.filterMap_cons_some e]
  rfl
theorem acc_none {xs : List D} {i : Nat} {x : D} (h : xs[i]? = some x) (e : wtxt x = none) : (xs.take (i + 1)).filterMap wtxt = (xs.take i).filterMap wtxt := by
  rw [take_get h, List.filterMap_append, List.filterMap_cons_none e]
  show _ ++ [] = _
  rw [List.append_nil]
theorem emp_app (x : Str) : Str.empty ++ x = x := by
  show (⟨(#[] : Array Nat) ++ x.cps⟩ : Str) = x
  simp
theorem acc_len (xs : List D) (i : Nat) (w : Str) (h : xs.length ≤ 5) : (D.str w :: ((xs.take i).filterMap wtxt).map D.str).length < 100000 := by
  rw [List.length_cons, List.length_map]
  have h1 : ((xs.take i).filterMap wtxt).length ≤ (xs.take i).length := List.length_filterMap_le _ _
  have h2 : (xs.take i).length ≤ xs.length := by rw [List.length_take]; omega
  omega
theorem join_end {x : DX} (hp : x.ok) {es : Env'} {i : Nat} {Q : SV → Prop} (e : es[i]? = some (some (.own (x.words.map D.str)))) (q : Q (.d (.str x.text))) : DE K (tM1 (rJoinX K) (tC (.str " ")) (tVar i)) es Q := by
  refine de_joinX (de_str ⟨_, rfl, de_var e ⟨x.words, rfl, ?_, q⟩⟩)
  have h1 : (x.words.map (·.length)).sum ≤ x.words.length * 200 := sum_le fun y hy => (DX.words_ok hp y hy).2
  have h2 := DX.wlen hp
  have e : (Str.ofString " ").length = 1 := by decide +kernel
  have e2 : x.words.length * (Str.ofString " ").length = x.words.length := by rw [e, Nat.mul_one]
  show (x.words.map (·.length)).sum + x.words.length * (Str.ofString " ").length ≤ 16777216
  rw [e2]
  omega
theorem str_fit {n : Nat} (h : n < bigN) (acc : Str) (l : acc.length ≤ 500) : (acc ++ iS (n : Int)).length ≤ sizeLine := by
  have := (iS_len h).2
  rw [strLen_append]
  exact Nat.le_trans (show _ ≤ 600 by omega) (by decide)
theorem sem_show_deed (lf : LF K Z) (x : DX) (hp : x.ok) : DS K (rd_show_deed K Z) (startE 4 [.d x.d]) { nx := fun _ => SV.d .non = .d (.str x.text), rt := fun r => r = .d (.str x.text) } := by
  show DS K (rd_show_deed K Z) [some (.d (.tup (.str x.k.w :: x.xs))), none, none, none] _
  unfold rd_show_deed
  have hlen := DX.len hp
  have hpl := hp.1.len
  refine ds_seq (ds_set (de_lst' (da_cons (de_op (de_var rfl (de_int (rr_xT (x := .str x.k.w) (at_0 _ _) (da_nil ⟨_, rfl, Nat.le_of_ble_eq_true rfl, trivial, ?_⟩))))))))
  show DS K _ [some (.d (.tup (.str x.k.w :: x.xs))), some (.own [.str x.k.w]), none, none] _
  refine ds_seq (ds_forZT (da_cons (de_callQ (da_cons (de_op (de_var rfl (de_int (rr_xT (x := .str x.k.w) (at_0 _ _) (da_nil ⟨⟨trivial, trivial⟩, x.k.w, rfl, rfl, trivial, ?_⟩)))))))))
  rintro r rfl
  rw [parts_k]
  refine da_cons (de_sl (de_var rfl (do_some (de_int ⟨_, rfl, do_none (sl_t ?_)⟩))))
  rw [cut1 _ _ hlen.2]
  refine da_nil ⟨_, _, rfl, by rw [List.length_map, List.length_map, hpl], fun i e => ∃ a b : Option SV, e = [some (.d (.tup (.str x.k.w :: x.xs))), some (.own (.str x.k.w :: ((x.xs.take i).filterMap wtxt).map D.str)), a, b], ⟨_, _, rfl⟩, ?_, ?_⟩
  · rintro i z xi es' hz hxi ⟨a, b, rfl⟩
    obtain ⟨p, hp1, rfl⟩ := part_get hz
    have wo := hp.1.get hp1 hxi
    have al := acc_len x.xs i x.k.w hlen.2
    refine ⟨_, dg_tup rfl (dgs_cons (dg_name (dgs_cons (dg_name (dgs_nil ?_)))))⟩
    show DS K _ [some (.d (.tup (.str x.k.w :: x.xs))), some (.own (.str x.k.w :: ((x.xs.take i).filterMap wtxt).map D.str)), some (.d (.str p.s)), some (.d xi)] _
    have tr : ∀ {a b : Str} {A C : Prop}, decide (a = b) = true → A → (if decide (a = b) = true then A else C) := fun h x => by rw [if_pos h]; exact x
    have fa : ∀ {a b : Str} {A C : Prop}, decide (a = b) = false → C → (if decide (a = b) = true then A else C) := fun h x => by rw [if_neg (by rw [h]; exact Bool.false_ne_true)]; exact x
    have ntr : ∀ {a b : Str} {A C : Prop}, decide (a = b) = false → A → (if (!decide (a = b)) = true then A else C) := fun h x => by rw [if_pos (by rw [h]; rfl)]; exact x
    have nfa : ∀ {a b : Str} {A C : Prop}, decide (a = b) = true → C → (if (!decide (a = b)) = true then A else C) := fun h x => by rw [if_neg (by rw [h]; exact Bool.false_ne_true)]; exact x
    refine ds_if (dt_test (de_op (de_var rfl (de_str (eq_ss ⟨_, rfl, ?_⟩)))))
    cases wo with
    | @stretch a b ha hb h1 =>
      refine tr (by decide +kernel) ?_
      refine ds_app (i := 1) rfl (de_joined (de_fmtI (de_op (de_var rfl (de_int (rr_xT (x := .int (a : Int)) rfl ⟨_, rfl, iS_log ha, _, rfl, str_fit ha _ (by decide), ?_⟩))))))
      have l1 := (iS_len ha).2
      have l3 : (Str.ofString "+").length = 1 := by decide +kernel
      have l4 : (Str.empty ++ iS (a : Int)).length ≤ 60 := by rw [emp_app]; exact l1
      have l5 : (Str.empty ++ iS (a : Int) ++ Str.ofString "+").length ≤ 61 := by rw [strLen_append]; omega
      refine (show DE K (tC (.str "+")) _ _ from de_str ⟨_, rfl, Nat.le_trans l5 (by decide), ?_⟩)
      refine (show DE K (tFmt _) _ _ from de_fmtI (de_op (de_var rfl (de_int (rr_xT (x := .int (b : Int)) rfl ⟨_, rfl, iS_log hb, _, rfl, str_fit hb _ (Nat.le_trans l5 (by decide)), ?_⟩)))))
      refine ⟨_, rfl, al, some (.d (.str PK.stretch.s)), some (.d (.tup [.int (a : Int), .int (b : Int)])), ?_⟩
      rw [← acc_some hxi (t := iS (a : Int) ++ "+" ++ iS (b : Int)) rfl, ← emp_app (iS (a : Int))]
      rfl
    | @day n h =>
      refine fa (by decide +kernel) (ds_if (dt_test (de_op (de_var rfl (de_str (ne_ss ⟨_, rfl, ?_⟩))))))
      refine ntr (by decide +kernel) ?_
      refine ds_app (i := 1) rfl (de_cb (da_cons (de_var rfl (da_nil (str_i (iS_log (kn h)) ⟨_, rfl, al, some (.d (.str PK.day.s)), some (.d (.int (n : Int))), ?_⟩)))))
      rw [← acc_some hxi (t := iS (n : Int)) rfl]
      rfl
    | @last n h =>
      refine fa (by decide +kernel) (ds_if (dt_test (de_op (de_var rfl (de_str (ne_ss ⟨_, rfl, ?_⟩))))))
      refine ntr (by decide +kernel) ?_
      refine ds_app (i := 1) rfl (de_cb (da_cons (de_var rfl (da_nil (str_i (iS_log (kn h)) ⟨_, rfl, al, some (.d (.str PK.last.s)), some (.d (.int (n : Int))), ?_⟩)))))
      rw [← acc_some hxi (t := iS (n : Int)) rfl]
      rfl
    | @hand z h =>
      refine fa (by decide +kernel) (ds_if (dt_test (de_op (de_var rfl (de_str (ne_ss ⟨_, rfl, ?_⟩))))))
      refine ntr (by decide +kernel) ?_
      refine ds_app (i := 1) rfl (de_cb (da_cons (de_var rfl (da_nil (str_s ⟨_, rfl, al, some (.d (.str PK.hand.s)), some (.d (.str z)), ?_⟩)))))
      rw [← acc_some hxi (t := z) rfl]
      rfl
    | leave b =>
      refine fa (by decide +kernel) (ds_if (dt_test (de_op (de_var rfl (de_str (ne_ss ⟨_, rfl, ?_⟩))))))
      refine nfa (by decide +kernel) ?_
      refine ds_if (dt_B (de_var rfl ⟨b, rfl, ?_⟩))
      cases b with
      | true =>
        refine ite_b (fun _ => ?_) (fun h => by cases h)
        refine ds_app (i := 1) rfl (de_str ⟨_, rfl, al, some (.d (.str PK.leave.s)), some (.d (.bl true)), ?_⟩)
        rw [← acc_some hxi (t := "leave") rfl]
        rfl
      | false =>
        refine ite_b (fun h => by cases h) (fun _ => ds_next ⟨some (.d (.str PK.leave.s)), some (.d (.bl false)), ?_⟩)
        rw [acc_none hxi rfl]
  · rintro _ ⟨a, b, rfl⟩
    have e : x.xs.take ((x.k.ps.map PK.s).map D.str).length = x.xs := by
      rw [List.length_map, List.length_map]
      exact List.take_of_length_le (by omega)
    rw [e]
    exact ds_ret (join_end hp rfl ⟨trivial, rfl⟩)
theorem big_log {n : Int} (h0 : 0 ≤ n) (h : n ≤ (bigN : Int)) : n.natAbs.log2 < 9000 := by
  have : n.natAbs < 2 ^ 201 := Nat.lt_of_le_of_lt (show n.natAbs ≤ bigN by omega) (by decide +kernel)
  have := log2_le_of_lt this (by decide)
  omega
theorem sem__law_number_text (lf : LF K Z) (n : Nat) (hp : 100 ≤ n ∧ n < bigN) : DS K (rd__law_number_text K Z) (startE 3 [.bag, .d (.int (n : Int))]) { nx := fun _ => ∃ m : Nat, SV.d .non = .d (.int (m : Int)) ∧ m ≤ n, rt := fun r => ∃ m : Nat, r = .d (.int (m : Int)) ∧ m ≤ n } := by
  obtain ⟨h1, h2⟩ := hp
  have m3 : (if (3 : Int) < (n : Int) then (3 : Int) else (n : Int)) = 3 := if_pos (by omega)
  have m30 : (if (30 : Int) < (n : Int) then (30 : Int) else (n : Int)) = 30 := if_pos (by omega)
  show DS K (rd__law_number_text K Z) [some .bag, some (.d (.int (n : Int))), none] _
  unfold rd__law_number_text
  refine ds_seq (ds_set (de_op (de_var rfl (call_take rfl (de_op (de_cb (da_cons (de_var rfl (da_cons (de_int (da_nil (min_x ?_)))))))))))) 
  rw [m3]
  refine de_int (plus_i ⟨_, rfl, by decide, by decide +kernel, fun t t0 t1 => sub_i ⟨trivial, ?_⟩⟩)
  show DS K _ [some .bag, some (.d (.int (n : Int))), some (.d (.int ((n : Int) - t)))] _
  refine ds_ret (de_op (de_lst' (da_cons (call_take rfl (de_op (de_var rfl (de_int (plus_i ⟨_, rfl, by omega, big_log (by omega) (by omega), fun d d0 d1 => ?_⟩))))))))
  refine da_cons (de_var rfl (da_cons (call_take rfl (de_op (de_cb (da_cons (de_var rfl (da_cons (de_int (da_nil (min_x ?_))))))))))) 
  rw [m30]
  refine de_int (plus_i ⟨_, rfl, by decide, by decide +kernel, fun e e0 e1 => ?_⟩)
  refine da_nil ⟨_, rfl, Nat.le_of_ble_eq_true rfl, call_take rfl (de_int ⟨3, rfl, by decide, by decide +kernel, fun s s0 s1 => ixL_any rfl s0 (by exact s1) (fun x hx => ⟨trivial, ?_⟩)⟩)⟩
  simp only [List.mem_cons, List.not_mem_nil, or_false] at hx
  have nat : ∀ i : Int, 0 ≤ i → i ≤ (n : Int) → ∃ m : Nat, (SV.d (.int i)).out = .d (.int (m : Int)) ∧ m ≤ n := fun i h h' => ⟨i.toNat, by rw [Int.toNat_of_nonneg h]; rfl, by omega⟩
  rcases hx with rfl | rfl | rfl
  · exact nat _ d0 (by omega)
  · exact nat _ (by omega) (by omega)
  · exact nat _ e0 (by omega)
theorem call_nt (n : Nat) (hn : 100 ≤ n ∧ n < bigN) {es : Env'} {i : Nat} {te : TE} {Q : SV → Prop} (h1 : es[i]? = some (some .bag)) (h2 : ∀ Q' : SV → Prop, Q' (.d (.int (n : Int))) → DE K te es Q') (q : ∀ m : Nat, m ≤ n → Q (.d (.int (m : Int)))) : DE K (tCall (sp__law_number_text K Z) [] E0 (tCons (tVar i) (tCons te tNil))) es Q := by
  refine de_callQ (da_cons (de_var h1 (da_cons (h2 _ (da_nil ⟨⟨trivial, trivial, trivial⟩, n, rfl, rfl, hn, ?_⟩)))))
  rintro r ⟨m, rfl, hm⟩
  exact q m hm
theorem e59 : (100 : Nat) ≤ 100000000000000000000000000000000000000000000000000000000000 ∧ (100000000000000000000000000000000000000000000000000000000000 : Nat) < bigN := by decide +kernel
theorem e30 : (100 : Nat) ≤ 1000000000000000000000000000000 ∧ (1000000000000000000000000000000 : Nat) < bigN := by decide +kernel
theorem sem__law_any_stretch (lf : LF K Z) (y : Unit) (hp : True) : DS K (rd__law_any_stretch K Z) (startE 1 [.bag]) { nx := fun _ => ∃ a b : Nat, SV.d .non = .d (.tup [.int (a : Int), .int (b : Int)]) ∧ a < bigN ∧ b < bigN ∧ 1 ≤ b, rt := fun r => ∃ a b : Nat, r = .d (.tup [.int (a : Int), .int (b : Int)]) ∧ a < bigN ∧ b < bigN ∧ 1 ≤ b } := by
  show DS K (rd__law_any_stretch K Z) [some .bag] _
  unfold rd__law_any_stretch
  have hb := e59.2
  refine ds_ret (de_tup' (da_cons (call_nt _ e59 rfl (fun Q' q => de_op (de_int (de_int (pow_lit (k := 100000000000000000000000000000000000000000000000000000000000) (by decide +kernel) (by decide) (by decide) (by decide) q)))) fun a ha => ?_)))
  refine da_cons (de_op (de_int (call_nt _ e59 rfl (fun Q' q => de_op (de_int (de_int (pow_lit (k := 100000000000000000000000000000000000000000000000000000000000) (by decide +kernel) (by decide) (by decide) (by decide) q)))) fun b hb' => plus_i ?_)))
  refine da_nil ⟨_, rfl, Nat.le_of_ble_eq_true rfl, trivial, a, 1 + b, ?_, Nat.lt_of_le_of_lt ha hb, ?_, by omega⟩
  · show SV.d (.tup [.int (a : Int), .int (1 + (b : Int))]) = .d (.tup [.int (a : Int), .int ((1 + b : Nat) : Int)])
    rw [show ((1 + b : Nat) : Int) = 1 + (b : Int) by omega]
  · have : (100000000000000000000000000000000000000000000000000000000000 : Nat) + 1 < bigN := by decide +kernel
    omega
theorem call_as {es : Env'} {i : Nat} {Q : SV → Prop} (h1 : es[i]? = some (some .bag)) (q : ∀ a b : Nat, a < bigN → b < bigN → 1 ≤ b → Q (.d (.tup [.int (a : Int), .int (b : Int)]))) : DE K (tCall (sp__law_any_stretch K Z) [] E0 (tCons (tVar i) tNil)) es Q := by
  refine de_callQ (da_cons (de_var h1 (da_nil ⟨⟨trivial, trivial⟩, (), rfl, rfl, trivial, ?_⟩)))
  rintro r ⟨a, b, rfl, ha, hb, h⟩
  exact q a b ha hb h
theorem two_sorted {a b : Nat} {ms : List Int} (p : ms.Perm [(a : Int), (b : Int)]) (w : ms.Pairwise (· ≤ ·)) : ∃ c d : Nat, ms = [(c : Int), (d : Int)] ∧ c ≤ d ∧ (c = a ∨ c = b) ∧ (d = a ∨ d = b) := by
  have l := p.length_eq
  match ms, l with
  | [x, y], _ =>
    have hx : x ∈ [(a : Int), (b : Int)] := p.mem_iff.mp (by simp)
    have hy : y ∈ [(a : Int), (b : Int)] := p.mem_iff.mp (by simp)
    have hxy : x ≤ y := by
      rw [List.pairwise_cons] at w
      exact w.1 y (by simp)
    simp only [List.mem_cons, List.not_mem_nil, or_false] at hx hy
    refine ⟨x.toNat, y.toNat, ?_, ?_, ?_, ?_⟩
    · rw [Int.toNat_of_nonneg (by omega), Int.toNat_of_nonneg (by omega)]
    · omega
    · omega
    · omega
theorem sem__law_any_deed (lf : LF K Z) (y : Unit) (hp : True) : DS K (rd__law_any_deed K Z) (startE 6 [.bag]) { nx := fun _ => ∃ x : DX, SV.d .non = .d x.d ∧ x.ok, rt := fun r => ∃ x : DX, r = .d x.d ∧ x.ok } := by
  show DS K (rd__law_any_deed K Z) [some .bag, none, none, none, none, none] _
  unfold rd__law_any_deed
  refine ds_seq (ds_par (by decide) (call_take rfl (de_int ⟨4, rfl, by decide, by decide +kernel, fun way y0 y1 => ?_⟩)))
  refine de_op (de_callQ (da_cons (de_var rfl (da_cons (de_int (da_nil ⟨⟨trivial, trivial, trivial⟩, 1, rfl, rfl, by decide, ?_⟩))))))
  rintro r ⟨zs, rfl, hl, hz⟩
  match zs, hl with
  | [z], _ =>
    have hh := hz z (by simp)
    refine de_int (rr_xL (x := .str z) rfl (at_0 _ _) ⟨trivial, trivial, ?_⟩)
    show DS K _ [some .bag, some (.d (.int way)), some (.d (.str z)), none, none, none] _
    refine ds_seq (ds_set (de_cb (da_cons (de_lst' (da_cons (call_nt _ e30 rfl (fun Q' q => de_op (de_int (de_int (pow_lit (k := 1000000000000000000000000000000) (by decide +kernel) (by decide) (by decide) (by decide) q)))) fun a ha => ?_))))))
    refine da_cons (call_nt _ e30 rfl (fun Q' q => de_op (de_int (de_int (pow_lit (k := 1000000000000000000000000000000) (by decide +kernel) (by decide) (by decide) (by decide) q)))) fun b hb => ?_)
    refine da_nil ⟨_, rfl, Nat.le_of_ble_eq_true rfl, da_nil (sorted_i (ns := [(a : Int), (b : Int)]) rfl (Nat.le_of_ble_eq_true rfl) fun ms pm pw => ⟨trivial, ?_⟩)⟩
    obtain ⟨c, d, rfl, hcd, hc, hd⟩ := two_sorted pm pw
    have hc' : c ≤ 1000000000000000000000000000000 := by rcases hc with rfl | rfl <;> assumption
    have hd' : d ≤ 1000000000000000000000000000000 := by rcases hd with rfl | rfl <;> assumption
    show DS K _ [some .bag, some (.d (.int way)), some (.d (.str z)), some (.own [.int (c : Int), .int (d : Int)]), none, none] _
    refine ds_seq (ds_par (by decide) (call_as rfl fun a1 b1 ha1 hb1 h1 => call_as rfl fun a2 b2 ha2 hb2 h2 => ⟨trivial, trivial, ?_⟩))
    show DS K _ [some .bag, some (.d (.int way)), some (.d (.str z)), some (.own [.int (c : Int), .int (d : Int)]), some (.d (.tup [.int (a1 : Int), .int (b1 : Int)])), some (.d (.tup [.int (a2 : Int), .int (b2 : Int)]))] _
    have ix : ∀ (i : Int), (i = 0 ∨ i = 1) → ∃ m : Nat, (m = c ∨ m = d) ∧ (i = 1 → m = d) ∧ atI [D.int (c : Int), D.int (d : Int)] i = some (.int (m : Int)) := by
      rintro i (rfl | rfl)
      · exact ⟨c, .inl rfl, fun h => (by cases h), rfl⟩
      · exact ⟨d, .inr rfl, fun _ => rfl, rfl⟩
    refine ds_seq (ds_if (dt_test (de_op (de_var rfl (de_int (eq_ii ⟨_, rfl, ?_⟩))))))
    refine ite_b (fun _ => ?_) (fun hw => ds_next ?_)
    · refine ds_ret (de_tup' (da_cons (de_str (da_cons (de_op (de_var rfl (de_int (rr_xL (x := .int (c : Int)) rfl rfl (da_cons (de_var rfl (da_cons (de_var rfl (da_nil ⟨_, rfl, Nat.le_of_ble_eq_true rfl, trivial, ⟨.sale, _⟩, rfl, ?_, fun h => by cases h⟩)))))))))))) )
      exact .cons (.day hc') (.cons (.stretch ha1 hb1 h1) (.cons (.hand hh) .nil))
    have w0 : way ≠ 0 := fun e => by rw [e] at hw; cases hw
    refine ds_seq (ds_if (dt_test (de_op (de_var rfl (de_int (lt_i ⟨_, rfl, ?_⟩))))))
    refine ite_b (fun hw2 => ?_) (fun _ => ds_next ?_)
    · have hw2 : way < 3 := of_decide_eq_true hw2
      refine ds_ret (de_tup' (da_cons (de_op (de_lst' (da_cons (de_str (da_cons (de_str (da_nil ⟨_, rfl, Nat.le_of_ble_eq_true rfl, de_op (de_var rfl (de_int (sub_i ?_)))⟩)))))))))
      refine ixL_any rfl (by omega) (show way - 1 < ((2 : Nat) : Int) by omega) (fun x hx => ?_)
      obtain ⟨k, rfl, hk⟩ : ∃ k : DK, x = .str k.w ∧ (k = .grant ∨ k = .fin) := by
        simp only [List.mem_cons, List.not_mem_nil, or_false] at hx
        rcases hx with rfl | rfl
        · exact ⟨.grant, rfl, .inl rfl⟩
        · exact ⟨.fin, rfl, .inr rfl⟩
      refine da_cons (de_op (de_var rfl (de_int (rr_xL (x := .int (c : Int)) rfl rfl (da_cons (de_var rfl (da_cons (de_var rfl (da_cons (de_var rfl (da_nil ⟨_, rfl, Nat.le_of_ble_eq_true rfl, trivial, ⟨k, _⟩, rfl, ?_, ?_⟩)))))))))))
      · rcases hk with rfl | rfl
        · exact .cons (.day hc') (.cons (.hand hh) (.cons (.stretch ha1 hb1 h1) (.cons (.stretch ha2 hb2 h2) .nil)))
        · exact .cons (.day hc') (.cons (.hand hh) (.cons (.stretch ha1 hb1 h1) (.cons (.stretch ha2 hb2 h2) .nil)))
      · intro h
        rcases hk with rfl | rfl <;> cases h
    · refine ds_ret (de_tup' (da_cons (de_str (da_cons (de_op (de_var rfl (call_take rfl (de_int ⟨2, rfl, by decide, by decide +kernel, fun v v0 v1 => ?_⟩))))))))
      obtain ⟨m, hm, _, hat⟩ := ix v (by omega)
      refine rr_xL (x := .int (m : Int)) rfl hat ?_
      refine da_cons (de_op (de_var rfl (de_int (rr_xL (x := .int (d : Int)) rfl rfl (da_cons (de_var rfl (da_cons (de_var rfl ?_))))))))
      refine da_cons (de_op (call_take rfl (de_int ⟨2, rfl, by decide, by decide +kernel, fun u u0 u1 => de_int (eq_ii ?_)⟩)))
      refine da_nil ⟨_, rfl, Nat.le_of_ble_eq_true rfl, trivial, ⟨.use, _⟩, rfl, ?_, fun _ => ⟨m, d, rfl, rfl, by omega⟩⟩
      exact .cons (.day (by omega)) (.cons (.last hd') (.cons (.stretch ha1 hb1 h1) (.cons (.stretch ha2 hb2 h2) (.cons (.leave _) .nil))))
theorem fit_w {p : PK} {x : D} (h : WOk p x) : Fit 1000 1 x := by
  have big : ∀ n : Nat, n < bigN → Fit 258 0 (.int (n : Int)) := fun n hn => Fit.int (m := 250) (show n < 2 ^ 250 from Nat.lt_of_lt_of_le hn (by decide +kernel)) (by decide) (by decide)
  cases h with
  | @day n h => exact (big n (kn h)).mono (by decide) (by decide)
  | @last n h => exact (big n (kn h)).mono (by decide) (by decide)
  | @hand z h => exact (Fit.s (m := 8) h.2.1 h.1.2).mono (by decide) (by decide)
  | @stretch a b ha hb h1 => exact (Fit.tup (FitA.cons (big a ha) (FitA.cons (big b hb) FitA.nil))).mono (by decide) (by decide)
  | leave b => exact (Fit.bl b).mono (by decide) (by decide)
theorem DK.fit (k : DK) : Fit 1000 1 (.str k.w) := by
  cases k <;> exact ⟨by decide +kernel, by decide +kernel, by decide +kernel⟩
/-! what is written is read -/
theorem num_back {n : Nat} (h : n < bigN) : numB (iS (n : Int)) = true ∧ numV (iS (n : Int)) = n := by
  refine ⟨numB_iff.mpr ⟨iS_len h, fun c hc => dig_iff.mpr (iS_digit c hc), ?_⟩, ?_⟩
  · obtain ⟨c, r, e, ha⟩ := head_at (iS_len h).1
    unfold headBad
    rw [e]
    show (decide ((⟨#[c]⟩ : Str) = "0") && !decide (iS (n : Int) = "0")) = false
    by_cases h0 : (⟨#[c]⟩ : Str) = "0"
    · have ec : c = 48 := by
        have : (⟨#[c]⟩ : Str).cps.toList = ("0" : Str).cps.toList := by rw [h0]
        have e0 : ("0" : Str).cps.toList = [48] := by decide +kernel
        rw [e0] at this
        injection this
      rw [ec] at ha
      rw [decide_eq_true (iS_zero ha)]
      simp
    · rw [decide_eq_false h0]
      rfl
  · unfold numV
    rw [iS_cps]
    exact TL.numL_val n
theorem numD_back {n : Nat} (h : n < bigN) : numD (iS (n : Int)) = .int (n : Int) := by
  rw [numD_t (num_back h).1, (num_back h).2]
theorem dayD_ok {n : Nat} (h : n ≤ 1000000000000000000000000000000) : dayD (.int (n : Int)) = true := by
  show (decide (0 ≤ (n : Int)) && decide ((n : Int) ≤ 1000000000000000000000000000000)) = true
  rw [decide_eq_true (by omega), decide_eq_true (by omega)]
  rfl
theorem part_at (a b : Nat) : Txt.partition (iS (a : Int) ++ "+" ++ iS (b : Int)) (Str.ofString "+") = (iS (a : Int), Str.ofString "+", iS (b : Int)) := by
  have e : (Str.ofString "+") = SX.S [43] := plusS
  have e1 : iS (a : Int) ++ "+" ++ iS (b : Int) = SX.S (TL.numL a ++ ([43] ++ TL.numL b)) := by
    rw [iS_S, iS_S, show (("+" : String) : Str) = SX.S [43] from e, SX.S_cat, SX.S_cat, List.append_assoc]
  rw [e1, e, iS_S, iS_S]
  exact SX.partition_some (by decide) (SX.par_head _ (TL.numL_free (.inl (by decide))))
theorem back_day {n : Nat} {prev : D} (h : n ≤ 1000000000000000000000000000000) : readP .day (some (iS (n : Int))) prev = .int (n : Int) := by
  show (if dayD (numD (iS (n : Int))) = true then numD (iS (n : Int)) else .non) = _
  rw [numD_back (kn h), if_pos (dayD_ok h)]
theorem back_last {m n : Nat} (h : n ≤ 1000000000000000000000000000000) (hm : m ≤ n) : readP .last (some (iS (n : Int))) (.int (m : Int)) = .int (n : Int) := by
  show (if (dayD (numD (iS (n : Int))) && !ltD (numD (iS (n : Int))) (.int (m : Int))) = true then numD (iS (n : Int)) else .non) = _
  rw [numD_back (kn h), dayD_ok h]
  have : ltD (.int (n : Int)) (.int (m : Int)) = decide ((n : Int) < (m : Int)) := rfl
  rw [this, decide_eq_false (by omega)]
  rfl
theorem back_hand {z : Str} {prev : D} (h : handOk z) : readP .hand (some z) prev = .str z := if_pos (hand_ok h).1
theorem back_stretch {a b : Nat} {prev : D} (ha : a < bigN) (hb : b < bigN) (h1 : 1 ≤ b) : readP .stretch (some (iS (a : Int) ++ "+" ++ iS (b : Int))) prev = .tup [.int (a : Int), .int (b : Int)] := by
  show strW2 (numD (Txt.partition (iS (a : Int) ++ "+" ++ iS (b : Int)) (Str.ofString "+")).1) (numD (Txt.partition (iS (a : Int) ++ "+" ++ iS (b : Int)) (Str.ofString "+")).2.2) = _
  rw [part_at, numD_back ha, numD_back hb]
  show (if (b : Int) = 0 then D.non else .tup [.int (a : Int), .int (b : Int)]) = _
  rw [if_neg (by omega)]
theorem DX.rd {x : DX} (h : x.ok) : RdAll x.k.ps (x.xs.filterMap wtxt) (.str x.k.w) x.xs := by
  obtain ⟨k, xs⟩ := x
  obtain ⟨h1, h2⟩ := h
  have h1 : WAll k.ps xs := h1
  have h2 : LastOk k xs := h2
  show RdAll k.ps (xs.filterMap wtxt) (.str k.w) xs
  cases k with
  | sale =>
    cases h1 with
    | cons a1 t =>
      cases t with
      | cons a2 t =>
        cases t with
        | cons a3 t =>
          cases t
          cases a1 with
          | day hd =>
            cases a2 with
            | stretch ha hb hc =>
              cases a3 with
              | hand hh => exact .cons (back_day hd) rfl (.cons (back_stretch ha hb hc) rfl (.cons (back_hand hh) rfl (.nil _)))
  | grant =>
    cases h1 with
    | cons a1 t =>
      cases t with
      | cons a2 t =>
        cases t with
        | cons a3 t =>
          cases t with
          | cons a4 t =>
            cases t
            cases a1 with
            | day hd =>
              cases a2 with
              | hand hh =>
                cases a3 with
                | stretch ha hb hc =>
                  cases a4 with
                  | stretch ha' hb' hc' => exact .cons (back_day hd) rfl (.cons (back_hand hh) rfl (.cons (back_stretch ha hb hc) rfl (.cons (back_stretch ha' hb' hc') rfl (.nil _))))
  | fin =>
    cases h1 with
    | cons a1 t =>
      cases t with
      | cons a2 t =>
        cases t with
        | cons a3 t =>
          cases t with
          | cons a4 t =>
            cases t
            cases a1 with
            | day hd =>
              cases a2 with
              | hand hh =>
                cases a3 with
                | stretch ha hb hc =>
                  cases a4 with
                  | stretch ha' hb' hc' => exact .cons (back_day hd) rfl (.cons (back_hand hh) rfl (.cons (back_stretch ha hb hc) rfl (.cons (back_stretch ha' hb' hc') rfl (.nil _))))
  | use =>
    obtain ⟨m, n, e0, e1, hmn⟩ := h2 rfl
    cases h1 with
    | cons a1 t =>
      cases t with
      | cons a2 t =>
        cases t with
        | cons a3 t =>
          cases t with
          | cons a4 t =>
            cases t with
            | cons a5 t =>
              cases t
              cases a1 with
              | @day d1 hd =>
                cases a2 with
                | @last d2 hd2 =>
                  have e0 : some (D.int (d1 : Int)) = some (.int (m : Int)) := e0
                  have e1 : some (D.int (d2 : Int)) = some (.int (n : Int)) := e1
                  injection e0 with e0
                  injection e0 with e0
                  injection e1 with e1
                  injection e1 with e1
                  have hle : d1 ≤ d2 := by omega
                  cases a3 with
                  | stretch ha hb hc =>
                    cases a4 with
                    | stretch ha' hb' hc' =>
                      cases a5 with
                      | leave b =>
                        cases b with
                        | true => exact .cons (back_day hd) rfl (.cons (back_last hd2 hle) rfl (.cons (back_stretch ha hb hc) rfl (.cons (back_stretch ha' hb' hc') rfl (.cons (x := .bl true) (show (if (Str.ofString "leave") = "leave" then D.bl true else D.non) = .bl true from if_pos rfl) rfl (.nil _)))))
                        | false => exact .cons (back_day hd) rfl (.cons (back_last hd2 hle) rfl (.cons (back_stretch ha hb hc) rfl (.cons (back_stretch ha' hb' hc') rfl (.cons (x := .bl false) rfl rfl (.nil _)))))
theorem read_back {x : DX} (h : x.ok) : readT x.text = .inr x.d := by
  unfold readT
  rw [DX.back h]
  show (match kindOf x.k.w with
    | none => Sum.inl 0
    | some k => match goP k.ps (x.xs.filterMap wtxt) (.str x.k.w) 1 with
      | .inl n => .inl n
      | .inr xs => .inr (D.tup (.str x.k.w :: xs))) = _
  rw [kind_of]
  show (match goP x.k.ps (x.xs.filterMap wtxt) (.str x.k.w) 1 with
      | .inl n => Sum.inl n
      | .inr xs => .inr (D.tup (.str x.k.w :: xs))) = _
  rw [(DX.rd h).go]
  rfl
/-! what is told may be shown -/
theorem goP_le : ∀ {ps : List PK} {ws : List Str} {prev : D} {i n : Nat}, goP ps ws prev i = .inl n → n ≤ i + ps.length
  | [], ws, prev, i, n, h => by
    have h : (if ws.isEmpty = true then Sum.inr [] else Sum.inl i : Nat ⊕ List D) = .inl n := h
    split at h
    · cases h
    · injection h with h
      omega
  | p :: ps, ws, prev, i, n, h => by
    cases e : (readP p ws.head? prev).isNon with
    | true =>
      rw [goP_stop (isNon_iff e)] at h
      injection h with h
      omega
    | false =>
      rw [goP_cons rfl e] at h
      cases e2 : goP ps ws.tail (readP p ws.head? prev) (i + 1) with
      | inl m =>
        rw [e2] at h
        injection h with h
        have := goP_le e2
        rw [List.length_cons]
        omega
      | inr ys => rw [e2] at h; cases h
theorem readWs_cases (ws : List Str) : (∃ n, n ≤ 6 ∧ readWs ws = .inl n) ∨ ∃ (k : DK) (r : List Str) (xs : List D), ws = k.w :: r ∧ RdAll k.ps r (.str k.w) xs ∧ readWs ws = .inr (.tup (.str k.w :: xs)) := by
  match ws with
  | [] => exact .inl ⟨0, by omega, rfl⟩
  | w :: ws =>
    have hg : readWs (w :: ws) = match kindOf w with
        | none => Sum.inl 0
        | some k => match goP k.ps ws (.str w) 1 with
          | .inl n => .inl n
          | .inr xs => .inr (D.tup (.str w :: xs)) := rfl
    rw [hg]
    cases hk : kindOf w with
    | none => exact .inl ⟨0, by omega, rfl⟩
    | some k =>
      have kl : k.ps.length ≤ 5 := by cases k <;> exact Nat.le_of_ble_eq_true rfl
      have hw := kind_w hk
      subst hw
      cases e : goP k.ps ws (.str k.w) 1 with
      | inl n =>
        have := goP_le e
        refine .inl ⟨n, by omega, ?_⟩
        show (match goP k.ps ws (.str k.w) 1 with
          | .inl n => Sum.inl n
          | .inr xs => .inr (D.tup (.str k.w :: xs))) = _
        rw [e]
      | inr xs =>
        refine .inr ⟨k, ws, xs, rfl, goP_all e, ?_⟩
        show (match goP k.ps ws (.str k.w) 1 with
          | .inl n => Sum.inl n
          | .inr xs => .inr (D.tup (.str k.w :: xs))) = _
        rw [e]
theorem fit_xs {k : DK} {xs : List D} (h : WAll k.ps xs) : Fit 10000 5 (.tup (.str k.w :: xs)) := by
  refine (Fit.tup (FitA.of (n := 1000) (k := 1) (m := 6) (fun d hd => ?_) ?_)).mono (by decide) (by decide)
  · rcases List.mem_cons.mp hd with rfl | hd
    · exact k.fit
    · obtain ⟨p, hp⟩ := h.mem d hd
      exact fit_w hp
  · rw [List.length_cons, h.len]
    cases k <;> exact Nat.le_of_ble_eq_true rfl
theorem fit_d {x : DX} (h : x.ok) : Fit 10000 5 x.d := fit_xs h.1
theorem fit_told (t : Str) : Fit 20000 8 (toldR (readT t)) := by
  unfold readT
  rcases readWs_cases (Txt.split t (Str.ofString " ")) with ⟨n, hn, e⟩ | ⟨k, r, xs, _, h, e⟩
  · rw [e]
    exact (Fit.tup (FitA.cons (Fit.s (m := 2) (show okS (Str.ofString "no") from okS_of _) (by decide +kernel)) (FitA.cons (Fit.int (m := 10) (show ((n : Int)).natAbs < 2 ^ 10 by omega) (by decide) (by decide)) FitA.nil))).mono (by decide) (by decide)
  · rw [e]
    exact (Fit.tup (FitA.cons (Fit.s (m := 4) (show okS (Str.ofString "deed") from okS_of _) (by decide +kernel)) (FitA.cons (fit_xs h.wok) FitA.nil))).mono (by decide) (by decide)
theorem sem__law_told (lf : LF K Z) (x : D) (hp : x.plain = true ∧ boundX x) : DS K (rd__law_told K Z) (startE 3 [.d x]) { nx := fun _ => SV.d .non = .d (toldR (readX x)), rt := fun r => r = .d (toldR (readX x)) } := by
  show DS K (rd__law_told K Z) [some (.d x), none, none] _
  unfold rd__law_told
  refine ds_tryE2 (xp := xpText Z (readX x)) lf.sf_NoText (Nat.le_of_ble_eq_true rfl) (Nat.le_of_ble_eq_true rfl) (by decide) (Nat.le_of_ble_eq_true rfl) (dsx_ret (dex_tup2 (dex_call (ix := [0]) (dS := []) (fun N M L H0 H => .nil) ?_))) ?_
  · refine da_cons (de_var rfl (da_nil (da_nil ⟨⟨trivial, trivial⟩, trivial, rfl, rfl, x, rfl, rfl, hp, ?_, fun C f d h => h⟩)))
    rintro r ⟨d, rfl, e⟩
    refine ⟨d, rfl, trivial, ?_⟩
    show SV.d (.tup [.str "deed", d]) = .d (toldR (readX x))
    rw [e]
    rfl
  · rintro C f d ⟨rfl, rfl, n, e, rfl⟩
    refine ⟨rfl, rfl, ?_⟩
    show SV.d (.tup [.str "no", .int (n : Int)]) = .d (toldR (readX x))
    rw [e]
    rfl
theorem RdAll.wl : ∀ {ps : List PK} {ws : List Str} {prev : D} {xs : List D}, RdAll ps ws prev xs → ws.length ≤ ps.length ∧ xs.length = ps.length
  | _, _, _, _, .nil _ => ⟨Nat.le_refl _, rfl⟩
  | _, _, _, _, .cons (ws := ws) _ _ t => by
    have := t.wl
    rw [List.length_tail] at this
    rw [List.length_cons, List.length_cons]
    omega
theorem RdAll.get : ∀ {ps : List PK} {ws : List Str} {prev : D} {xs : List D}, RdAll ps ws prev xs → ∀ (i : Nat) (p : PK), ps[i]? = some p → ∃ pr x, xs[i]? = some x ∧ readP p ws[i]? pr = x ∧ x.isNon = false
  | _, _, _, _, .nil _, i, p, h => by simp at h
  | _, _, _, _, .cons (ws := ws) h1 h2 t, 0, p, h => by
    simp at h
    subst h
    exact ⟨_, _, rfl, by rw [← List.head?_eq_getElem?]; exact h1, h2⟩
  | _, _, _, _, .cons (ws := ws) h1 h2 t, i + 1, p, h => by
    obtain ⟨pr, x, e1, e2, e3⟩ := t.get i p (by simpa using h)
    refine ⟨pr, x, by simpa using e1, ?_, e3⟩
    rw [List.getElem?_tail] at e2
    exact e2
theorem cutT (x : D) (xs : List D) : DL.cutD (x :: xs) (some 1) none = xs := by
  have e1 : HT.sIx (xs.length + 1) 0 (some (1 : Int)) = min 1 (xs.length + 1) := HT.sIx_nat _ _ 1
  show ((x :: xs).drop (HT.sIx (xs.length + 1) 0 (some (1 : Int)))).take (xs.length + 1 - HT.sIx (xs.length + 1) 0 (some (1 : Int))) = xs
  rw [e1, Nat.min_eq_left (show 1 ≤ xs.length + 1 by omega)]
  show xs.take (xs.length + 1 - 1) = xs
  rw [Nat.add_sub_cancel, List.take_length]
/-- the forms of a word -/
theorem form_num {w : Str} (h : numB w = true) : Txt.partition w (Str.ofString "+") = (w, SX.S [], SX.S []) := by
  rcases part_spec w with ⟨p, q, e, _, _⟩ | ⟨_, h2⟩
  · exfalso
    have := (numB_iff.mp h).2.1 43 (by rw [e]; simp)
    have := dig_iff.mp this
    omega
  · exact h2
theorem form_hand {w : Str} (h : handD (.str w) = true) : Txt.partition w (Str.ofString "+") = (w, SX.S [], SX.S []) ∧ numB w = false := by
  have e : (decide (1 ≤ w.length) && decide (w.length ≤ 8) && w.cps.toList.all low) = true := h
  rw [Bool.and_eq_true, Bool.and_eq_true, decide_eq_true_eq, decide_eq_true_eq, List.all_eq_true] at e
  refine ⟨?_, ?_⟩
  · rcases part_spec w with ⟨p, q, e1, _, _⟩ | ⟨_, h2⟩
    · exfalso
      have := e.2 43 (by rw [e1]; simp)
      have := low_iff.mp this
      omega
    · exact h2
  · cases hb : numB w with
    | false => rfl
    | true =>
      exfalso
      obtain ⟨c, r, ec, _⟩ := head_at e.1.1
      have h1 := (numB_iff.mp hb).2.1 c (by rw [ec]; simp)
      have h2 := e.2 c (by rw [ec]; simp)
      have := dig_iff.mp h1
      have := low_iff.mp h2
      omega
theorem form_stretch {w : Str} {pr x : D} (h : readP .stretch (some w) pr = x) (hx : x.isNon = false) : ∃ a b, Txt.partition w (Str.ofString "+") = (a, Str.ofString "+", b) ∧ numB a = true ∧ numB b = true ∧ x = .tup [.int (numV a : Int), .int (numV b : Int)] ∧ ¬ w = "leave" := by
  have h : strW2 (numD (Txt.partition w (Str.ofString "+")).1) (numD (Txt.partition w (Str.ofString "+")).2.2) = x := h
  rcases part_spec w with ⟨p, q, e, _, e2⟩ | ⟨_, e2⟩
  · rw [e2] at h
    have h : strW2 (numD (SX.S p)) (numD (SX.S q)) = x := h
    rcases numD_cases (SX.S p) with ⟨ha, ea⟩ | ⟨ha, ea⟩
    · rw [ea] at h
      rw [← h] at hx
      cases hx
    rcases numD_cases (SX.S q) with ⟨hb, eb⟩ | ⟨hb, eb⟩
    · rw [ea, eb] at h
      rw [← h] at hx
      cases hx
    rw [ea, eb] at h
    have h : (if (numV (SX.S q) : Int) = 0 then D.non else .tup [.int (numV (SX.S p) : Int), .int (numV (SX.S q) : Int)]) = x := h
    by_cases h0 : (numV (SX.S q) : Int) = 0
    · rw [if_pos h0] at h
      rw [← h] at hx
      cases hx
    · rw [if_neg h0] at h
      refine ⟨_, _, e2, ha, hb, h.symm, fun el => ?_⟩
      have h43 : 43 ∈ (Str.ofString "leave").cps.toList := by
        rw [← el, e]
        simp
      exact absurd h43 (by decide +kernel)
  · rw [e2] at h
    have h : strW2 (numD w) (numD (SX.S [])) = x := h
    rw [numD_nil] at h
    have e3 : strW2 (numD w) .non = .non := by cases numD w <;> rfl
    rw [e3] at h
    rw [← h] at hx
    cases hx
theorem leave_form : Txt.partition (Str.ofString "leave") (Str.ofString "+") = (Str.ofString "leave", SX.S [], SX.S []) := by
  rcases part_spec (Str.ofString "leave") with ⟨p, q, e, _, _⟩ | ⟨_, h2⟩
  · have h43 : 43 ∈ (Str.ofString "leave").cps.toList := by
      rw [e]
      simp
    exact absurd h43 (by decide +kernel)
  · exact h2
theorem split_empty : Txt.split (Str.ofString "") (Str.ofString " ") = [SX.S []] := by
  have e : (Str.ofString "") = SX.S [] := by decide +kernel
  rw [e, spcS, SX.split_S (by decide) (by decide)]
  rfl
theorem qs_len (k : DK) : k.qs.length ≤ k.ps.length ∧ k.ps.length ≤ 5 ∧ (k ≠ .use → k.qs.length = k.ps.length) := by
  cases k <;> refine ⟨Nat.le_of_ble_eq_true rfl, Nat.le_of_ble_eq_true rfl, fun h => ?_⟩ <;> first | rfl | exact absurd rfl h
theorem sem__law_due (lf : LF K Z) (t : Str) (hp : t.length ≤ 20000 ∧ okS t) : DS K (rd__law_due K Z) (startE 9 [.d (.str t)]) { nx := fun _ => SV.d .non = .d (toldR (readT t)), rt := fun r => r = .d (toldR (readT t)) } := by
  obtain ⟨hl, ho⟩ := hp
  show DS K (rd__law_due K Z) [some (.d (.str t)), none, none, none, none, none, none, none, none] _
  unfold rd__law_due
  refine ds_seq (ds_set (DE.mono (Q := fun s => ∃ W : List Str, s = .new (W.map D.str) ∧ readT t = readWs W ∧ (∀ w ∈ W, w.length ≤ 20000 ∧ okS w) ∧ W.length ≤ 20010) (de_if (dt_test (de_op (de_var rfl (de_str (ne_ss ⟨_, rfl, ?_⟩)))))) ?_))
  · refine ite_b (fun h => ?_) (fun h => ?_)
    · refine de_split (de_var rfl ⟨_, rfl, de_str ⟨_, rfl, by decide +kernel, Nat.le_trans (show t.length + 2 ≤ 30000 by omega) (by decide), _, rfl, rfl, fun w hw => ⟨Nat.le_trans (split_mem hw).1 hl, (split_mem hw).2 ho⟩, ?_⟩⟩)
      have := split_len t
      omega
    · have h : t = Str.ofString "" := of_decide_eq_true (by simpa using h)
      refine de_lst' (da_nil ⟨[], rfl, Nat.le_of_ble_eq_true rfl, [], rfl, ?_, fun w h => (by cases h), by decide⟩)
      unfold readT
      rw [h, split_empty]
      show (match kindOf (SX.S []) with
        | none => Sum.inl 0
        | some k => match goP k.ps [] (.str (SX.S [])) 1 with
          | .inl n => .inl n
          | .inr xs => .inr (D.tup (.str (SX.S []) :: xs))) = _
      rw [show kindOf (SX.S []) = none from by decide +kernel]
      rfl
  rintro s ⟨W, rfl, hr, hw, hW⟩
  refine ⟨trivial, ?_⟩
  rw [hr]
  show DS K _ [some (.d (.str t)), some (.own (W.map D.str)), none, none, none, none, none, none, none] _
  refine ds_seq (ds_set (de_lendQ (da_cons (de_var rfl (da_cons (de_int (da_nil ⟨W, rfl, rfl, ⟨hw, hW⟩, ?_⟩)))))))
  rintro r rfl
  refine ⟨_, rfl, by cases readWs W <;> rfl, trivial, ?_⟩
  show DS K _ [some (.d (.str t)), some (.own (W.map D.str)), some (.d (placeD (readWs W))), none, none, none, none, none, none] _
  refine ds_seq (ds_if (dt_test (de_op (de_var rfl (de_non (nov_n ⟨_, rfl, ?_⟩))))))
  rcases readWs_cases W with ⟨n, hn, e⟩ | ⟨k, ws, xs, rfl, hrd, e⟩
  · rw [e]
    refine ite_b (fun _ => ?_) (fun h => by cases h)
    exact ds_ret (de_tup' (da_cons (de_str (da_cons (de_var rfl (da_nil ⟨_, rfl, Nat.le_of_ble_eq_true rfl, trivial, rfl⟩))))))
  rw [e]
  refine ite_b (fun h => by cases h) (fun _ => ds_next ?_)
  obtain ⟨q1, q2, q3⟩ := qs_len k
  obtain ⟨w1, w2⟩ := hrd.wl
  refine ds_seq (ds_set (de_lst' (da_cons (de_op (de_var rfl (de_int (rr_xL (x := .str k.w) rfl (at_0 _ _) (da_nil ⟨_, rfl, Nat.le_of_ble_eq_true rfl, trivial, ?_⟩))))))))
  show DS K _ [some (.d (.str t)), some (.own ((k.w :: ws).map D.str)), some (.d .non), some (.own [.str k.w]), none, none, none, none, none] _
  have hsome : ∀ (i : Nat), i < k.qs.length → ∃ f, ws[i]? = some f := fun i hi => by
    obtain ⟨p, hq⟩ : ∃ p, k.qs[i]? = some p := ⟨k.qs[i], List.getElem?_eq_getElem hi⟩
    obtain ⟨hps, hne⟩ := qs_ps k i p hq
    obtain ⟨pr, x, _, e2, e3⟩ := hrd.get i p hps
    cases ef : ws[i]? with
    | some f => exact ⟨f, rfl⟩
    | none =>
      rw [ef] at e2
      have : readP p none pr = .non := by cases p <;> first | rfl | exact absurd rfl hne
      rw [this] at e2
      rw [← e2] at e3
      cases e3
  have hqw : k.qs.length ≤ ws.length := by
    by_cases h0 : k.qs.length = 0
    · omega
    · obtain ⟨f, hf⟩ := hsome (k.qs.length - 1) (by omega)
      have := (List.getElem?_eq_some_iff.mp hf).1
      omega
  have hat0 : atI ((k.w :: ws).map D.str) 0 = some (.str k.w) := at_0 _ _
  refine ds_seq (ds_forL (de_sl (de_var rfl (do_some (de_int ⟨_, rfl, do_none (sl_l rfl ?_)⟩)))))
  have ecut : DL.cutD ((k.w :: ws).map D.str) (some 1) none = ws.map D.str := cutT _ _
  rw [ecut]
  refine ⟨ws.map D.str, rfl, fun i e => ∃ a b c d f : Option SV, e = [some (.d (.str t)), some (.own ((k.w :: ws).map D.str)), some (.d .non), some (.own (.str k.w :: xs.take (min i k.qs.length))), a, b, c, d, f], ⟨_, _, _, _, _, rfl⟩, ?_, ?_⟩
  · rintro i z es' hz ⟨a, b, c, d, f, rfl⟩
    rw [List.getElem?_map] at hz
    obtain ⟨g, hg, rfl⟩ := Option.map_eq_some_iff.mp hz
    have hi : i < ws.length := (List.getElem?_eq_some_iff.mp hg).1
    have hgl := (hw g (List.mem_cons_of_mem _ (List.mem_of_getElem? hg))).1
    obtain ⟨p, hps⟩ : ∃ p, k.ps[i]? = some p := ⟨k.ps[i]'(by omega), List.getElem?_eq_getElem (by omega)⟩
    obtain ⟨pr, x, hx, hrx, hnx⟩ := hrd.get i p hps
    rw [hg] at hrx
    refine ⟨_, dg_name ?_⟩
    show DS K _ [some (.d (.str t)), some (.own ((k.w :: ws).map D.str)), some (.d .non), some (.own (.str k.w :: xs.take (min i k.qs.length))), some (.d (.str g)), b, c, d, f] _
    refine ds_seq (ds_unp (de_part (de_var rfl ⟨_, rfl, de_str ⟨_, rfl, by decide +kernel, Nat.le_trans hgl (by decide), ?_⟩⟩)))
    have lt5 : (D.str k.w :: xs.take (min i k.qs.length)).length < 100000 := by
      rw [List.length_cons, List.length_take]
      omega
    have grow : p ≠ .leave → (D.str k.w :: xs.take (min i k.qs.length)) ++ [x] = .str k.w :: xs.take (min (i + 1) k.qs.length) := fun hne => by
      have hq : i < k.qs.length := by
        by_cases h : i < k.qs.length
        · exact h
        · exfalso
          have hlt : i < k.ps.length := (List.getElem?_eq_some_iff.mp hps).1
          by_cases hk : k = .use
          · subst hk
            have : DK.use.qs.length = 4 := rfl
            have : DK.use.ps.length = 5 := rfl
            have e4 : i = 4 := by omega
            subst e4
            have hps : some PK.leave = some p := hps
            injection hps with hps
            exact hne hps.symm
          · have := q3 hk
            omega
      rw [Nat.min_eq_left (by omega), Nat.min_eq_left (by omega), take_get hx]
      rfl
    cases p with
    | stretch =>
      obtain ⟨a1, b1, e1, ha, hb, rfl, _⟩ := form_stretch hrx hnx
      rw [e1]
      refine ⟨_, _, rfl, dg_tup rfl (dgs_cons (dg_name (dgs_cons (dg_name (dgs_cons (dg_name (dgs_nil ?_)))))))⟩
      show DS K _ [some (.d (.str t)), some (.own ((k.w :: ws).map D.str)), some (.d .non), some (.own (.str k.w :: xs.take (min i k.qs.length))), some (.d (.str g)), some (.d (.str a1)), some (.d (.str (Str.ofString "+"))), some (.d (.str b1)), f] _
      refine ds_seq (ds_set (call_numL rfl hgl ⟨trivial, ?_⟩))
      show DS K _ [some (.d (.str t)), some (.own ((k.w :: ws).map D.str)), some (.d .non), some (.own (.str k.w :: xs.take (min i k.qs.length))), some (.d (.str g)), some (.d (.str a1)), some (.d (.str (Str.ofString "+"))), some (.d (.str b1)), some (.d (numD g))] _
      refine ds_if (dt_test (de_op (de_var rfl (de_str (eq_ss ⟨_, rfl, ?_⟩)))))
      refine ite_b (fun _ => ?_) (fun h => by simp at h)
      have l1 := (numB_iff.mp ha).1
      have l2 := (numB_iff.mp hb).1
      refine ds_app (i := 3) rfl (de_tup' (da_cons (de_cb (da_cons (de_var rfl (da_nil (int_s (numB_int ha) (by omega) ?_)))))))
      refine da_cons (de_cb (da_cons (de_var rfl (da_nil (int_s (numB_int hb) (by omega) ?_)))))
      refine da_nil ⟨_, rfl, Nat.le_of_ble_eq_true rfl, _, rfl, lt5, some (.d (.str g)), some (.d (.str a1)), some (.d (.str (Str.ofString "+"))), some (.d (.str b1)), some (.d (numD g)), ?_⟩
      rw [← grow nofun]
      rfl
    | day =>
      have hrx : (if dayD (numD g) = true then numD g else .non) = x := hrx
      by_cases hd : dayD (numD g) = true
      · rw [if_pos hd] at hrx
        rcases numD_cases g with ⟨hb, eb⟩ | ⟨hb, eb⟩
        · rw [eb] at hd
          cases hd
        rw [form_num hb]
        refine ⟨_, _, rfl, dg_tup rfl (dgs_cons (dg_name (dgs_cons (dg_name (dgs_cons (dg_name (dgs_nil ?_)))))))⟩
        show DS K _ [some (.d (.str t)), some (.own ((k.w :: ws).map D.str)), some (.d .non), some (.own (.str k.w :: xs.take (min i k.qs.length))), some (.d (.str g)), some (.d (.str g)), some (.d (.str (SX.S []))), some (.d (.str (SX.S []))), f] _
        refine ds_seq (ds_set (call_numL rfl hgl ⟨trivial, ?_⟩))
        rw [hrx]
        show DS K _ [some (.d (.str t)), some (.own ((k.w :: ws).map D.str)), some (.d .non), some (.own (.str k.w :: xs.take (min i k.qs.length))), some (.d (.str g)), some (.d (.str g)), some (.d (.str (SX.S []))), some (.d (.str (SX.S []))), some (.d x)] _
        refine ds_if (dt_test (de_op (de_var rfl (de_str (eq_ss ⟨_, rfl, ?_⟩)))))
        rw [show decide ((SX.S [] : Str) = Str.ofString "+") = false from by decide +kernel]
        refine ite_b (fun h => by cases h) (fun _ => ?_)
        refine ds_if (dt_test (de_op (de_var rfl (de_non (nov_n ⟨_, rfl, ?_⟩)))))
        rw [hnx]
        refine ite_b (fun _ => ?_) (fun h => by cases h)
        refine ds_app (i := 3) rfl (de_var rfl ⟨_, rfl, lt5, some (.d (.str g)), some (.d (.str g)), some (.d (.str (SX.S []))), some (.d (.str (SX.S []))), some (.d x), ?_⟩)
        rw [← grow nofun]
        rfl
      · rw [if_neg hd] at hrx
        rw [← hrx] at hnx
        cases hnx
    | last =>
      have hrx : (if (dayD (numD g) && !ltD (numD g) pr) = true then numD g else .non) = x := hrx
      by_cases hd : (dayD (numD g) && !ltD (numD g) pr) = true
      · rw [if_pos hd] at hrx
        rcases numD_cases g with ⟨hb, eb⟩ | ⟨hb, eb⟩
        · rw [eb] at hd
          cases hd
        rw [form_num hb]
        refine ⟨_, _, rfl, dg_tup rfl (dgs_cons (dg_name (dgs_cons (dg_name (dgs_cons (dg_name (dgs_nil ?_)))))))⟩
        show DS K _ [some (.d (.str t)), some (.own ((k.w :: ws).map D.str)), some (.d .non), some (.own (.str k.w :: xs.take (min i k.qs.length))), some (.d (.str g)), some (.d (.str g)), some (.d (.str (SX.S []))), some (.d (.str (SX.S []))), f] _
        refine ds_seq (ds_set (call_numL rfl hgl ⟨trivial, ?_⟩))
        rw [hrx]
        show DS K _ [some (.d (.str t)), some (.own ((k.w :: ws).map D.str)), some (.d .non), some (.own (.str k.w :: xs.take (min i k.qs.length))), some (.d (.str g)), some (.d (.str g)), some (.d (.str (SX.S []))), some (.d (.str (SX.S []))), some (.d x)] _
        refine ds_if (dt_test (de_op (de_var rfl (de_str (eq_ss ⟨_, rfl, ?_⟩)))))
        rw [show decide ((SX.S [] : Str) = Str.ofString "+") = false from by decide +kernel]
        refine ite_b (fun h => by cases h) (fun _ => ?_)
        refine ds_if (dt_test (de_op (de_var rfl (de_non (nov_n ⟨_, rfl, ?_⟩)))))
        rw [hnx]
        refine ite_b (fun _ => ?_) (fun h => by cases h)
        refine ds_app (i := 3) rfl (de_var rfl ⟨_, rfl, lt5, some (.d (.str g)), some (.d (.str g)), some (.d (.str (SX.S []))), some (.d (.str (SX.S []))), some (.d x), ?_⟩)
        rw [← grow nofun]
        rfl
      · rw [if_neg hd] at hrx
        rw [← hrx] at hnx
        cases hnx
    | hand =>
      have hrx : (if handD (.str g) = true then D.str g else .non) = x := hrx
      by_cases hd : handD (.str g) = true
      · rw [if_pos hd] at hrx
        obtain ⟨f1, f2⟩ := form_hand hd
        rw [f1]
        refine ⟨_, _, rfl, dg_tup rfl (dgs_cons (dg_name (dgs_cons (dg_name (dgs_cons (dg_name (dgs_nil ?_)))))))⟩
        show DS K _ [some (.d (.str t)), some (.own ((k.w :: ws).map D.str)), some (.d .non), some (.own (.str k.w :: xs.take (min i k.qs.length))), some (.d (.str g)), some (.d (.str g)), some (.d (.str (SX.S []))), some (.d (.str (SX.S []))), f] _
        refine ds_seq (ds_set (call_numL rfl hgl ⟨trivial, ?_⟩))
        rw [numD_f f2]
        show DS K _ [some (.d (.str t)), some (.own ((k.w :: ws).map D.str)), some (.d .non), some (.own (.str k.w :: xs.take (min i k.qs.length))), some (.d (.str g)), some (.d (.str g)), some (.d (.str (SX.S []))), some (.d (.str (SX.S []))), some (.d .non)] _
        refine ds_if (dt_test (de_op (de_var rfl (de_str (eq_ss ⟨_, rfl, ?_⟩)))))
        rw [show decide ((SX.S [] : Str) = Str.ofString "+") = false from by decide +kernel]
        refine ite_b (fun h => by cases h) (fun _ => ?_)
        refine ds_if (dt_test (de_op (de_var rfl (de_non (nov_n ⟨_, rfl, ?_⟩)))))
        refine ite_b (fun h => by cases h) (fun _ => ?_)
        have app : DS K (tDrop (tBM K "list" rAppend (tVar 3) (tCons (tVar 4) tNil))) [some (.d (.str t)), some (.own ((k.w :: ws).map D.str)), some (.d .non), some (.own (.str k.w :: xs.take (min i k.qs.length))), some (.d (.str g)), some (.d (.str g)), some (.d (.str (SX.S []))), some (.d (.str (SX.S []))), some (.d .non)] ⟨fun e => ∃ a b c d f : Option SV, e = [some (.d (.str t)), some (.own ((k.w :: ws).map D.str)), some (.d .non), some (.own (.str k.w :: xs.take (min (i + 1) k.qs.length))), a, b, c, d, f], fun r => r = .d (toldR (.inr (.tup (.str k.w :: xs)))), fun _ => False, fun _ => True, fun _ => True⟩ := by
          refine ds_app (i := 3) rfl (de_var rfl ⟨_, rfl, lt5, some (.d (.str g)), some (.d (.str g)), some (.d (.str (SX.S []))), some (.d (.str (SX.S []))), some (.d .non), ?_⟩)
          rw [← grow nofun, ← hrx]
          rfl
        have app' : ∀ {B : DEnds}, B.nx = (fun e => ∃ a b c d f : Option SV, e = [some (.d (.str t)), some (.own ((k.w :: ws).map D.str)), some (.d .non), some (.own (.str k.w :: xs.take (min (i + 1) k.qs.length))), a, b, c, d, f]) → DS K (tDrop (tBM K "list" rAppend (tVar 3) (tCons (tVar 4) tNil))) [some (.d (.str t)), some (.own ((k.w :: ws).map D.str)), some (.d .non), some (.own (.str k.w :: xs.take (min i k.qs.length))), some (.d (.str g)), some (.d (.str g)), some (.d (.str (SX.S []))), some (.d (.str (SX.S []))), some (.d .non)] B := by
          intro B hB
          refine ds_app (i := 3) rfl (de_var rfl ⟨_, rfl, lt5, ?_⟩)
          rw [hB]
          refine ⟨some (.d (.str g)), some (.d (.str g)), some (.d (.str (SX.S []))), some (.d (.str (SX.S []))), some (.d .non), ?_⟩
          rw [← grow nofun, ← hrx]
          rfl
        refine ds_if (dt_or (dt_test (de_op (de_var rfl (de_str (ne_ss ⟨_, rfl, ?_⟩))))))
        refine ite_b (fun _ => app' rfl) (fun _ => ?_)
        refine dt_test (de_op (de_op (de_var rfl (de_int (rr_xL (x := .str k.w) rfl hat0 (de_str (ne_ss ⟨_, rfl, ?_⟩)))))))
        refine ite_b (fun _ => app' rfl) (fun h => ?_)
        exfalso
        have h : k.w = "use" := of_decide_eq_true (by simpa using h)
        have hku : k = .use := by
          cases k <;> first | rfl | exact absurd h (by decide +kernel)
        subst hku
        match i, hps with
        | 0, hps => cases hps
        | 1, hps => cases hps
        | 2, hps => cases hps
        | 3, hps => cases hps
        | 4, hps => cases hps
        | n + 5, hps => cases hps
      · rw [if_neg hd] at hrx
        rw [← hrx] at hnx
        cases hnx
    | leave =>
      obtain ⟨hku, hi4⟩ := leave_last _ _ hps
      subst hku hi4
      have hrx : (if g = "leave" then D.bl true else .non) = x := hrx
      by_cases hgl2 : g = "leave"
      · subst hgl2
        rw [leave_form]
        refine ⟨_, _, rfl, dg_tup rfl (dgs_cons (dg_name (dgs_cons (dg_name (dgs_cons (dg_name (dgs_nil ?_)))))))⟩
        show DS K _ [some (.d (.str t)), some (.own ((DK.use.w :: ws).map D.str)), some (.d .non), some (.own (.str DK.use.w :: xs.take (min 4 DK.use.qs.length))), some (.d (.str (Str.ofString "leave"))), some (.d (.str (Str.ofString "leave"))), some (.d (.str (SX.S []))), some (.d (.str (SX.S []))), f] _
        refine ds_seq (ds_set (call_numL rfl hgl ⟨trivial, ?_⟩))
        rw [numD_f (show numB (Str.ofString "leave") = false from by decide +kernel)]
        show DS K _ [some (.d (.str t)), some (.own ((DK.use.w :: ws).map D.str)), some (.d .non), some (.own (.str DK.use.w :: xs.take (min 4 DK.use.qs.length))), some (.d (.str (Str.ofString "leave"))), some (.d (.str (Str.ofString "leave"))), some (.d (.str (SX.S []))), some (.d (.str (SX.S []))), some (.d .non)] _
        refine ds_if (dt_test (de_op (de_var rfl (de_str (eq_ss ⟨_, rfl, ?_⟩)))))
        rw [show decide ((SX.S [] : Str) = Str.ofString "+") = false from by decide +kernel]
        refine ite_b (fun h => by cases h) (fun _ => ?_)
        refine ds_if (dt_test (de_op (de_var rfl (de_non (nov_n ⟨_, rfl, ?_⟩)))))
        refine ite_b (fun h => by cases h) (fun _ => ?_)
        refine ds_if (dt_or (dt_test (de_op (de_var rfl (de_str (ne_ss ⟨_, rfl, ?_⟩))))))
        refine ite_b (fun h => by simp at h) (fun _ => ?_)
        refine dt_test (de_op (de_op (de_var rfl (de_int (rr_xL (x := .str DK.use.w) rfl hat0 (de_str (ne_ss ⟨_, rfl, ?_⟩)))))))
        rw [show decide (DK.use.w = Str.ofString "use") = true from by decide +kernel]
        refine ite_b (fun h => by cases h) (fun _ => ds_next ?_)
        exact ⟨_, _, _, _, _, rfl⟩
      · rw [if_neg hgl2] at hrx
        rw [← hrx] at hnx
        cases hnx
  · rintro _ ⟨a, b, c, d, f, rfl⟩
    rw [List.length_map, Nat.min_eq_right hqw]
    refine ds_seq (ds_if (dt_test (de_op (de_op (de_var rfl (de_int (rr_xL (x := .str k.w) rfl hat0 (de_str (eq_ss ⟨_, rfl, ?_⟩))))))))) 
    by_cases hku : k = .use
    · subst hku
      rw [show decide (DK.use.w = Str.ofString "use") = true from by decide +kernel, if_pos rfl]
      obtain ⟨pr, x4, hx4, hr4, hn4⟩ := hrd.get 4 .leave rfl
      obtain ⟨pr3, x3, hx3, hr3, hn3⟩ := hrd.get 3 .stretch rfl
      have hfull : xs = xs.take 4 ++ [x4] := by
        have hl5 : xs.length = 5 := w2
        rw [← take_get hx4, List.take_of_length_le (by omega)]
      have fin : ∀ {B : DEnds}, (∀ r, B.rt r ↔ r = .d (toldR (.inr (.tup (.str DK.use.w :: xs))))) → DS K (tRet (tTup (tCons (tC (.str "deed")) (tCons (tCB (rTupleX K) (tCons (tVar 3) tNil)) tNil)))) [some (.d (.str t)), some (.own ((DK.use.w :: ws).map D.str)), some (.d .non), some (.own (.str DK.use.w :: xs.take 4 ++ [x4])), a, b, c, d, f] B := by
        intro B hB
        refine ds_ret (de_tup' (da_cons (de_str (da_cons (de_cb (da_cons (de_var rfl (da_nil (tuple_x rfl (da_nil ⟨_, rfl, Nat.le_of_ble_eq_true rfl, trivial, ?_⟩))))))))))
        rw [hB]
        show SV.d (.tup [.str "deed", .tup (.str DK.use.w :: xs.take 4 ++ [x4])]) = .d (.tup [.str "deed", .tup (.str DK.use.w :: xs)])
        rw [show (D.str DK.use.w :: xs.take 4 ++ [x4]) = .str DK.use.w :: xs from by rw [List.cons_append, ← hfull]]
      have lx : (D.str DK.use.w :: xs.take DK.use.qs.length).length < 100000 := by
        rw [List.length_cons, List.length_take]
        omega
      have w5 : ws.length ≤ 5 := w1
      have w4 : 4 ≤ ws.length := hqw
      match ws, w4, w5 with
      | [y0, y1, y2, y3], _, _ =>
        have hr4 : D.bl false = x4 := hr4
        obtain ⟨_, _, _, _, _, _, nl⟩ := form_stretch (w := y3) hr3 hn3
        refine ds_app (i := 3) rfl (de_op (de_op (de_var rfl (de_un (de_int (neg_i (rr_xL (x := .str y3) rfl rfl (de_str (eq_ss ⟨_, rfl, lx, ?_⟩)))))))))
        rw [decide_eq_false nl]
        subst hr4
        exact fin fun r => Iff.rfl
      | [y0, y1, y2, y3, y4], _, _ =>
        have hr4 : (if y4 = "leave" then D.bl true else .non) = x4 := hr4
        by_cases hy : y4 = "leave"
        · rw [if_pos hy] at hr4
          refine ds_app (i := 3) rfl (de_op (de_op (de_var rfl (de_un (de_int (neg_i (rr_xL (x := .str y4) rfl rfl (de_str (eq_ss ⟨_, rfl, lx, ?_⟩)))))))))
          rw [decide_eq_true hy]
          subst hr4
          exact fin fun r => Iff.rfl
        · rw [if_neg hy] at hr4
          rw [← hr4] at hn4
          cases hn4
    · have hwu : ¬ k.w = "use" := fun e => by
        cases k <;> first | exact hku rfl | exact absurd e (by decide +kernel)
      rw [decide_eq_false hwu, if_neg Bool.false_ne_true]
      refine ds_next ?_
      refine ds_ret (de_tup' (da_cons (de_str (da_cons (de_cb (da_cons (de_var rfl (da_nil (tuple_x rfl (da_nil ⟨_, rfl, Nat.le_of_ble_eq_true rfl, trivial, ?_⟩))))))))))
      rw [show xs.take k.qs.length = xs from List.take_of_length_le (by have := q3 hku; omega)]
      rfl
theorem asc_ok {w : Str} (h : ∀ c ∈ w.cps.toList, c < 128) : okS w := okS_iff.mpr fun c hc => by
  have := h c hc
  omega
theorem cps_app (a b : Str) : (a ++ b).cps.toList = a.cps.toList ++ b.cps.toList := by
  show (a.cps ++ b.cps).toList = _
  rw [Array.toList_append]
theorem iS_asc {n : Nat} : ∀ c ∈ (iS (n : Int)).cps.toList, c < 128 := fun c hc => by
  have := iS_digit c hc
  omega
theorem plus_asc : ∀ c ∈ (Str.ofString "+").cps.toList, c < 128 := by
  have h : (Str.ofString "+").cps.toList.all (fun c => decide (c < 128)) = true := by decide +kernel
  exact fun c hc => of_decide_eq_true (List.all_eq_true.mp h c hc)
theorem wtxt_asc {p : PK} {x : D} {t : Str} (h : WOk p x) (e : wtxt x = some t) : ∀ c ∈ t.cps.toList, c < 128 := by
  cases h with
  | @day n h =>
    injection e with e
    subst e
    exact iS_asc
  | @last n h =>
    injection e with e
    subst e
    exact iS_asc
  | @hand z h =>
    injection e with e
    subst e
    intro c hc
    have := low_iff.mp (h.2.2 c hc)
    omega
  | @stretch a b ha hb h1 =>
    injection e with e
    subst e
    intro c hc
    rw [cps_app, cps_app, List.mem_append, List.mem_append] at hc
    rcases hc with (hc | hc) | hc
    · exact iS_asc c hc
    · exact plus_asc c hc
    · exact iS_asc c hc
  | leave b =>
    cases b with
    | true =>
      injection e with e
      subst e
      have h : (Str.ofString "leave").cps.toList.all (fun c => decide (c < 128)) = true := by decide +kernel
      exact fun c hc => of_decide_eq_true (List.all_eq_true.mp h c hc)
    | false => cases e
theorem DK.w_asc (k : DK) : ∀ c ∈ k.w.cps.toList, c < 128 := by
  have h : k.w.cps.toList.all (fun c => decide (c < 128)) = true := by cases k <;> decide +kernel
  exact fun c hc => of_decide_eq_true (List.all_eq_true.mp h c hc)
theorem DX.words_asc {x : DX} (h : x.ok) : ∀ y ∈ x.words, ∀ c ∈ y.cps.toList, c < 128 := fun y hy => by
  rcases List.mem_cons.mp hy with rfl | hy
  · exact x.k.w_asc
  · obtain ⟨d, hd, e⟩ := List.mem_filterMap.mp hy
    obtain ⟨p, hp⟩ := h.1.mem d hd
    exact wtxt_asc hp e
theorem cut_map (ws : List Str) (lo hi : Option Int) : ∃ us : List Str, DL.cutD (ws.map D.str) lo hi = us.map D.str ∧ us.length ≤ ws.length ∧ ∀ u ∈ us, u ∈ ws := by
  refine ⟨(ws.drop (HT.sIx (ws.map D.str).length 0 lo)).take (HT.sIx (ws.map D.str).length (ws.map D.str).length hi - HT.sIx (ws.map D.str).length 0 lo), ?_, ?_, fun u hu => ?_⟩
  · unfold DL.cutD
    rw [← List.map_drop, ← List.map_take]
  · rw [List.length_take, List.length_drop]
    omega
  · exact List.mem_of_mem_drop (List.mem_of_mem_take hu)
def goodW (w : Str) : Prop := w.length ≤ 500 ∧ okS w
theorem good_all {ws : List Str} (h : ws.all (fun y => decide (y.length ≤ 500) && y.cps.all (· < 0x110000)) = true) : ∀ w ∈ ws, goodW w := fun w hw => by
  have := List.all_eq_true.mp h w hw
  rw [Bool.and_eq_true, decide_eq_true_eq] at this
  exact this
theorem iS_good {n k : Nat} (hk : 0 < k) (h : n < 10 ^ k) (hk2 : k ≤ 500) : goodW (iS (n : Int)) := by
  refine ⟨?_, asc_ok iS_asc⟩
  rw [iS_S, SX.S_len]
  exact Nat.le_trans (TL.numL_len hk h) hk2
abbrev G0 : List Str := ["", "0", "00", "01", "-1", "+1", "1_0", "1+0", "0+1", "1+1+1", "+", "1+", "a", "Ann", "abcdefghi", "leave"]
abbrev G1 : List Str := ["sale", "use", "1.0", "1 ", "x1", iS ((1000000000000000000000000000000 : Nat) : Int), iS ((1000000000000000000000000000001 : Nat) : Int), iS ((999999999999999999999999999999999999999999999999999999999999 : Nat) : Int)]
abbrev G2 (u : Str) : List Str := [iS ((1000000000000000000000000000000000000000000000000000000000000 : Nat) : Int), u ++ "0", "0" ++ u, Txt.upper u, cutS u (some 1) none, Txt.mul u 2]
theorem up_good {u : Str} (hl : u.length ≤ 200) (ha : ∀ c ∈ u.cps.toList, c < 128) : goodW (Txt.upper u) := by
  rw [PyProof.Rows.upper_ascii ha]
  refine ⟨?_, okS_iff.mpr fun c hc => ?_⟩
  · show (u.cps.map PyProof.Rows.up1).size ≤ 500
    rw [Array.size_map]
    have : u.length = u.cps.size := rfl
    omega
  · have hc : c ∈ (u.cps.map PyProof.Rows.up1).toList := hc
    rw [Array.toList_map] at hc
    obtain ⟨d, hd, rfl⟩ := List.mem_map.mp hc
    have := ha d hd
    unfold PyProof.Rows.up1
    split <;> omega
theorem mul_two (u : Str) : Txt.mul u 2 = u ++ u ∨ Txt.mul u 2 = u := by
  unfold Txt.mul
  rw [if_neg (by decide)]
  split
  · exact .inr rfl
  · refine .inl ?_
    show (⟨([u.cps, u.cps]).foldl (· ++ ·) #[]⟩ : Str) = ⟨u.cps ++ u.cps⟩
    simp
theorem g2_good {u : Str} (hl : u.length ≤ 200) (ha : ∀ c ∈ u.cps.toList, c < 128) : ∀ w ∈ G2 u, goodW w := fun w hw => by
  have ho := asc_ok ha
  have l0 : (Str.ofString "0").length = 1 := by decide +kernel
  simp only [List.mem_cons, List.not_mem_nil, or_false] at hw
  rcases hw with rfl | rfl | rfl | rfl | rfl | rfl
  · exact iS_good (k := 61) (by decide) (by decide +kernel) (by decide)
  · refine ⟨?_, okS_app ho (okS_of _)⟩
    rw [strLen_append]
    omega
  · refine ⟨?_, okS_app (okS_of _) ho⟩
    rw [strLen_append]
    omega
  · exact up_good hl ha
  · refine ⟨?_, okS_cut ho⟩
    have := cutS_length u (some 1) none
    omega
  · rcases mul_two u with e | e
    · rw [e]
      refine ⟨?_, okS_app ho ho⟩
      rw [strLen_append]
      omega
    · rw [e]
      exact ⟨by omega, ho⟩
theorem g1_good : ∀ w ∈ G1, goodW w := fun w hw => by
  simp only [List.mem_cons, List.not_mem_nil, or_false] at hw
  rcases hw with rfl | rfl | rfl | rfl | rfl | rfl | rfl | rfl
  · exact ⟨by decide +kernel, okS_of _⟩
  · exact ⟨by decide +kernel, okS_of _⟩
  · exact ⟨by decide +kernel, okS_of _⟩
  · exact ⟨by decide +kernel, okS_of _⟩
  · exact ⟨by decide +kernel, okS_of _⟩
  · exact iS_good (k := 61) (by decide) (by decide +kernel) (by decide)
  · exact iS_good (k := 61) (by decide) (by decide +kernel) (by decide)
  · exact iS_good (k := 61) (by decide) (by decide +kernel) (by decide)
theorem g0_good : ∀ w ∈ G0, goodW w := good_all (by decide +kernel)
theorem str_log {n : Nat} (h : n < 10 ^ 61) : ((n : Int)).natAbs.log2 < 1920 := by
  have e : ((n : Int)).natAbs = n := rfl
  rw [e]
  have : n < 2 ^ 210 := Nat.lt_of_lt_of_le h (by decide +kernel)
  have := log2_le_of_lt this (by decide)
  omega
theorem sem__law_odd_words (lf : LF K Z) (x : DX) (hp : x.ok) : DS K (rd__law_odd_words K Z) (startE 6 [.bag, .d (.lst (x.words.map D.str))]) { nx := fun _ => ∃ ws : List Str, (SV.d .non = .new (ws.map D.str) ∨ SV.d .non = .d (.lst (ws.map D.str))) ∧ ws.length ≤ 20 ∧ ∀ w ∈ ws, w.length ≤ 500 ∧ okS w, rt := fun r => ∃ ws : List Str, (r = .new (ws.map D.str) ∨ r = .d (.lst (ws.map D.str))) ∧ ws.length ≤ 20 ∧ ∀ w ∈ ws, w.length ≤ 500 ∧ okS w } := by
  show DS K (rd__law_odd_words K Z) [some .bag, some (.d (.lst (x.words.map D.str))), none, none, none, none] _
  unfold rd__law_odd_words
  have hwl := DX.wlen hp
  have hw1 : 1 ≤ x.words.length := by
    show 1 ≤ (x.k.w :: x.xs.filterMap wtxt).length
    rw [List.length_cons]
    omega
  have hgood : ∀ y ∈ x.words, goodW y := fun y hy => ⟨by have := (DX.words_ok hp y hy).2; omega, asc_ok (DX.words_asc hp y hy)⟩
  have hsm : ∀ y ∈ x.words, y.length ≤ 200 ∧ ∀ c ∈ y.cps.toList, c < 128 := fun y hy => ⟨(DX.words_ok hp y hy).2, DX.words_asc hp y hy⟩
  generalize x.words = ws at hwl hw1 hgood hsm
  have sz : (D.lst (ws.map D.str)).len = some ws.length := by
    show some (ws.map D.str).length = some ws.length
    rw [List.length_map]
  refine ds_seq (ds_par (by decide) (call_take rfl (de_cb (da_cons (de_var rfl (da_nil (len_x rfl sz ⟨(ws.length : Int), rfl, by omega, log2_small (by omega), fun at_ a0 a1 => ?_⟩)))))))
  refine call_take rfl (de_int ⟨6, rfl, by decide, by decide +kernel, fun way y0 y1 => ⟨trivial, trivial, ?_⟩⟩)
  show DS K _ [some .bag, some (.d (.lst (ws.map D.str))), some (.d (.int at_)), some (.d (.int way)), none, none] _
  obtain ⟨u, hu, hat⟩ : ∃ u ∈ ws, atI (ws.map D.str) at_ = some (.str u) := by
    obtain ⟨z, hz, e⟩ := atI_in (xs := ws.map D.str) a0 (by rw [List.length_map]; exact a1)
    obtain ⟨u, hu, rfl⟩ := List.mem_map.mp hz
    exact ⟨u, hu, e⟩
  obtain ⟨ul, ua⟩ := hsm u hu
  refine ds_seq (ds_set (de_lst' ?_))
  repeat refine da_cons (de_str ?_)
  refine da_nil ⟨_, rfl, Nat.le_of_ble_eq_true rfl, trivial, ?_⟩
  show DS K _ [some .bag, some (.d (.lst (ws.map D.str))), some (.d (.int at_)), some (.d (.int way)), some (.own (G0.map D.str)), none] _
  refine ds_seq (ds_ext (i := 4) rfl (de_lst' ?_))
  repeat refine da_cons (de_str ?_)
  refine da_cons (de_cb (da_cons (de_op (de_int (de_int (pow_lit (k := 1000000000000000000000000000000) (by decide +kernel) (by decide) (by decide) (by decide) (da_nil (str_i (str_log (n := 1000000000000000000000000000000) (by decide +kernel)) ?_))))))))
  refine da_cons (de_cb (da_cons (de_op (de_op (de_int (de_int (pow_lit (k := 1000000000000000000000000000000) (by decide +kernel) (by decide) (by decide) (by decide) (de_int (plus_i (da_nil (str_i (str_log (n := 1000000000000000000000000000001) (by decide +kernel)) ?_)))))))))))
  refine da_cons (de_cb (da_cons (de_op (de_op (de_int (de_int (pow_lit (k := 1000000000000000000000000000000000000000000000000000000000000) (by decide +kernel) (by decide) (by decide) (by decide) (de_int (sub_i (da_nil (str_i (str_log (n := 999999999999999999999999999999999999999999999999999999999999) (by decide +kernel)) ?_)))))))))))
  refine da_nil ⟨G1.map D.str, rfl, Nat.le_of_ble_eq_true rfl, _, rfl, by decide, ?_⟩
  show DS K _ [some .bag, some (.d (.lst (ws.map D.str))), some (.d (.int at_)), some (.d (.int way)), some (.own ((G0 ++ G1).map D.str)), none] _
  have lu : u.length + (Str.ofString "0").length ≤ sizeLine := by
    have l0 : (Str.ofString "0").length = 1 := by decide +kernel
    exact Nat.le_trans (show _ ≤ 300 by omega) (by decide)
  refine ds_seq (ds_ext (i := 4) rfl (de_lst' ?_))
  refine da_cons (de_cb (da_cons (de_op (de_int (de_int (pow_lit (k := 1000000000000000000000000000000000000000000000000000000000000) (by decide +kernel) (by decide) (by decide) (by decide) (da_nil (str_i (str_log (n := 1000000000000000000000000000000000000000000000000000000000000) (by decide +kernel)) ?_))))))))
  refine da_cons (de_op (de_op (de_var rfl (de_var rfl (rr_xL (x := .str u) rfl hat (de_str (plus_s lu ?_)))))))
  refine da_cons (de_op (de_str (de_op (de_var rfl (de_var rfl (rr_xL (x := .str u) rfl hat (plus_s (by rw [Nat.add_comm]; exact lu) ?_)))))))
  refine da_cons (de_upper (de_op (de_var rfl (de_var rfl (rr_xL (x := .str u) rfl hat ⟨u, rfl, by omega, ?_⟩)))))
  refine da_cons (de_sl (de_op (de_var rfl (de_var rfl (rr_xL (x := .str u) rfl hat (do_some (de_int ⟨_, rfl, do_none (sl_s (Nat.le_trans ul (by decide)) ?_)⟩)))))))
  refine da_cons (de_op (de_op (de_var rfl (de_var rfl (rr_xL (x := .str u) rfl hat (de_int (rep_s (PyProof.Rows.mulOk_of 200 2 ul (by decide) (by decide) (by decide) (by decide)) ?_)))))))
  refine da_nil ⟨(G2 u).map D.str, rfl, Nat.le_of_ble_eq_true rfl, _, rfl, Nat.le_of_ble_eq_true rfl, ?_⟩
  show DS K _ [some .bag, some (.d (.lst (ws.map D.str))), some (.d (.int at_)), some (.d (.int way)), some (.own ((G0 ++ G1 ++ G2 u).map D.str)), none] _
  have gall : ∀ w ∈ G0 ++ G1 ++ G2 u, goodW w := fun w hw => by
    rcases List.mem_append.mp hw with hw | hw
    · rcases List.mem_append.mp hw with hw | hw
      · exact g0_good w hw
      · exact g1_good w hw
    · exact g2_good ul ua w hw
  refine ds_seq (ds_set (de_op (de_var rfl (call_take rfl (de_cb (da_cons (de_var rfl (da_nil (len_x (n := 30) rfl rfl ⟨30, rfl, by decide, by decide +kernel, fun j j0 j1 => ixL_any rfl j0 (by exact j1) (fun o ho => ⟨trivial, ?_⟩)⟩)))))))))
  obtain ⟨o, ho', rfl⟩ := List.mem_map.mp ho
  have og := gall o ho'
  show DS K _ [some .bag, some (.d (.lst (ws.map D.str))), some (.d (.int at_)), some (.d (.int way)), some (.own ((G0 ++ G1 ++ G2 u).map D.str)), some (.d (.str o))] _
  obtain ⟨us, e1, l1, m1⟩ := cut_map ws none (some at_)
  obtain ⟨vs, e2, l2, m2⟩ := cut_map ws (some (at_ + 1)) none
  obtain ⟨zs, e3, l3, m3⟩ := cut_map ws (some at_) none
  have gus : ∀ w ∈ us, goodW w := fun w hw => hgood w (m1 w hw)
  have gvs : ∀ w ∈ vs, goodW w := fun w hw => hgood w (m2 w hw)
  have gzs : ∀ w ∈ zs, goodW w := fun w hw => hgood w (m3 w hw)
  have app : ∀ {a b : List Str}, (∀ w ∈ a, goodW w) → (∀ w ∈ b, goodW w) → ∀ w ∈ a ++ b, goodW w := fun ha hb w hw => (List.mem_append.mp hw).elim (ha w) (hb w)
  have one : ∀ w ∈ [o], goodW w := fun w hw => by
    obtain rfl := List.mem_singleton.mp hw
    exact og
  have three : ∀ {a b : List Str}, a.length ≤ 6 → b.length ≤ 6 → (∀ w ∈ a, goodW w) → (∀ w ∈ b, goodW w) → ∃ ws : List Str, ((SV.new ((a.map D.str ++ [D.str o]) ++ b.map D.str)).out = .new (ws.map D.str) ∨ (SV.new ((a.map D.str ++ [D.str o]) ++ b.map D.str)).out = .d (.lst (ws.map D.str))) ∧ ws.length ≤ 20 ∧ ∀ w ∈ ws, w.length ≤ 500 ∧ okS w := fun {a b} la lb ha hb => by
    refine ⟨a ++ [o] ++ b, .inl ?_, by simp; omega, app (app ha one) hb⟩
    rw [List.map_append, List.map_append]
    rfl
  refine ds_seq (ds_if (dt_test (de_op (de_var rfl (de_int (lt_i ⟨_, rfl, ?_⟩))))))
  refine ite_b (fun _ => ?_) (fun _ => ds_next ?_)
  · refine ds_ret (de_op (de_op (de_sl (de_var rfl (do_none (do_some (de_var rfl ⟨_, rfl, sl_l rfl ?_⟩)))))))
    rw [e1]
    refine de_lst' (da_cons (de_var rfl (da_nil ⟨_, rfl, Nat.le_of_ble_eq_true rfl, plus_l rfl rfl nofun nofun (by rw [List.length_map]; simp; omega) ?_⟩)))
    refine de_sl (de_var rfl (do_some (de_op (de_var rfl (de_int (plus_i ⟨_, rfl, do_none (sl_l rfl ?_)⟩))))))
    rw [e2]
    exact plus_l rfl rfl nofun nofun (by simp; omega) ⟨trivial, three (by omega) (by omega) gus gvs⟩
  refine ds_seq (ds_if (dt_test (de_op (de_var rfl (de_int (eq_ii ⟨_, rfl, ?_⟩))))))
  refine ite_b (fun _ => ?_) (fun _ => ds_next ?_)
  · refine ds_ret (de_op (de_sl (de_var rfl (do_none (do_some (de_var rfl ⟨_, rfl, sl_l rfl ?_⟩))))))
    rw [e1]
    refine de_sl (de_var rfl (do_some (de_op (de_var rfl (de_int (plus_i ⟨_, rfl, do_none (sl_l rfl ?_)⟩))))))
    rw [e2]
    refine plus_l rfl rfl nofun nofun (by simp; omega) ⟨trivial, us ++ vs, .inl ?_, by simp; omega, app gus gvs⟩
    rw [List.map_append]
    rfl
  refine ds_seq (ds_if (dt_test (de_op (de_var rfl (de_int (eq_ii ⟨_, rfl, ?_⟩))))))
  refine ite_b (fun _ => ?_) (fun _ => ds_next ?_)
  · refine ds_ret (de_op (de_op (de_sl (de_var rfl (do_none (do_some (de_var rfl ⟨_, rfl, sl_l rfl ?_⟩)))))))
    rw [e1]
    refine de_lst' (da_cons (de_var rfl (da_nil ⟨_, rfl, Nat.le_of_ble_eq_true rfl, plus_l rfl rfl nofun nofun (by rw [List.length_map]; simp; omega) ?_⟩)))
    refine de_sl (de_var rfl (do_some (de_var rfl ⟨_, rfl, do_none (sl_l rfl ?_)⟩)))
    rw [e3]
    exact plus_l rfl rfl nofun nofun (by simp; omega) ⟨trivial, three (by omega) (by omega) gus gzs⟩
  refine ds_ret (de_op (de_lst' (da_cons (de_sl (de_var rfl (do_none (do_some (de_var rfl ⟨_, rfl, sl_l rfl ?_⟩))))))))
  rw [e1]
  refine da_cons (de_op (de_var rfl (de_lst' (da_cons (de_var rfl (da_nil ⟨_, rfl, Nat.le_of_ble_eq_true rfl, plus_l rfl rfl nofun nofun (by rw [List.length_map]; simp; omega) ?_⟩))))))
  refine da_nil ⟨_, rfl, Nat.le_of_ble_eq_true rfl, call_take rfl (de_int ⟨2, rfl, by decide, by decide +kernel, fun j j0 j1 => ixL_any rfl j0 (by exact j1) (fun z hz => ⟨trivial, ?_⟩)⟩)⟩
  simp only [List.mem_cons, List.not_mem_nil, or_false] at hz
  rcases hz with rfl | rfl
  · exact ⟨us, .inr rfl, by omega, gus⟩
  · refine ⟨ws ++ [o], .inr ?_, by simp; omega, app hgood one⟩
    rw [List.map_append]
    rfl
theorem call_told {x : D} (hx : x.plain = true ∧ boundX x) {es : Env'} {i : Nat} {Q : SV → Prop} (h : es[i]? = some (some (.d x))) (q : Q (.d (toldR (readX x)))) : DE K (tCall (sp__law_told K Z) [] E0 (tCons (tVar i) tNil)) es Q := by
  refine de_callQ (da_cons (de_var h (da_nil ⟨⟨trivial, trivial⟩, x, rfl, rfl, hx, ?_⟩)))
  rintro r rfl
  exact q
theorem call_due {t : Str} (ht : t.length ≤ 20000 ∧ okS t) {es : Env'} {i : Nat} {Q : SV → Prop} (h : es[i]? = some (some (.d (.str t)))) (q : Q (.d (toldR (readT t)))) : DE K (tCall (sp__law_due K Z) [] E0 (tCons (tVar i) tNil)) es Q := by
  refine de_callQ (da_cons (de_var h (da_nil ⟨⟨trivial, trivial⟩, t, rfl, rfl, ht, ?_⟩)))
  rintro r rfl
  exact q
theorem okS_sub (x : Str) (i j : Nat) (h : okS x) : okS (Builtin.Str.strSub x i j) := okS_iff.mpr fun c hc => by
  have hc : c ∈ (x.cps.extract i j).toList := hc
  rw [Array.toList_extract] at hc
  exact okS_iff.mp h c (List.mem_of_mem_drop (List.mem_of_mem_take (by simpa [List.extract] using hc)))
theorem parts_ok {x : Str} (h : okS x) (cuts : List Nat) (w : Nat) : ∀ p ∈ Builtin.Str.partsBetween x cuts w, okS p := by
  intro p hp
  unfold Builtin.Str.partsBetween at hp
  obtain ⟨⟨i, j⟩, _, rfl⟩ := List.mem_map.mp hp
  exact okS_sub x i j h
theorem okS_repl1 {x y z : Str} (hx : okS x) (hz : okS z) : okS (Txt.repl1 x y z) := by
  unfold Txt.repl1
  split
  · exact hx
  · rw [StrLaws.glued_eq_join]
    exact okS_joins z hz _ (parts_ok hx _ _)
theorem plain_d {x : DX} (h : x.ok) : x.d.plain = true := fit_plain (fit_d h)
theorem text_ok {x : DX} (h : x.ok) : x.text.length ≤ 2000 ∧ okS x.text := by
  refine ⟨DX.text_len h, ?_⟩
  have e : x.text = Str.join (Str.ofString " ") x.words := StrLaws.glued_eq_join _ _
  rw [e]
  exact okS_joins _ (okS_of _) _ fun y hy => asc_ok (DX.words_asc h y hy)
theorem no_read {x : D} (h : isStr x = false) : readX x = .inl 0 ∧ boundX x := by
  cases x <;> first | exact ⟨rfl, trivial⟩ | cases h
theorem fit_no : Fit 20000 8 (toldR (.inl 0)) := (Fit.tup (FitA.cons (Fit.s (m := 2) (show okS (Str.ofString "no") from okS_of _) (by decide +kernel)) (FitA.cons (Fit.int (m := 10) (show ((0 : Nat) : Int).natAbs < 2 ^ 10 by decide) (by decide) (by decide)) FitA.nil))).mono (by decide) (by decide)
theorem sem__law_right (lf : LF K Z) (y : Unit) (hp : True) : DS K (rd__law_right K Z) (startE 8 [.bag]) { nx := fun _ => SV.d .non = .d (.bl true), rt := fun r => r = .d (.bl true) } := by
  show DS K (rd__law_right K Z) [some .bag, none, none, none, none, none, none, none] _
  unfold rd__law_right
  refine ds_seq (ds_set (de_callQ (da_cons (de_var rfl (da_nil ⟨⟨trivial, trivial⟩, (), rfl, rfl, trivial, ?_⟩)))))
  rintro r ⟨x, rfl, xo⟩
  refine ⟨trivial, ?_⟩
  show DS K _ [some .bag, some (.d x.d), none, none, none, none, none, none] _
  refine ds_seq (ds_set (de_callQ (da_cons (de_var rfl (da_nil ⟨⟨trivial, trivial⟩, x, rfl, rfl, xo, ?_⟩)))))
  rintro r rfl
  refine ⟨trivial, ?_⟩
  have tk := text_ok xo
  have rb : readX (.str x.text) = .inr x.d := read_back xo
  have fd := fit_d xo
  have bT : (D.str x.text).plain = true ∧ boundX (.str x.text) := ⟨rfl, Nat.le_trans tk.1 (by decide)⟩
  show DS K _ [some .bag, some (.d x.d), some (.d (.str x.text)), none, none, none, none, none] _
  have fdd : Fit 20000 8 (.tup [.str "deed", x.d]) := (Fit.tup (FitA.cons (Fit.s (m := 4) (show okS (Str.ofString "deed") from okS_of _) (by decide +kernel)) (FitA.cons fd FitA.nil))).mono (by decide) (by decide)
  have ftt : Fit 20000 8 (toldR (readX (.str x.text))) := by rw [rb]; exact fdd
  refine ds_seq (ds_if (dt_test (de_op (de_cb (da_cons (call_told bT rfl (da_nil (rc_repr rfl ftt (by decide) (by decide) ?_))))))))
  refine de_cb (da_cons (de_tup' (da_cons (de_str (da_cons (de_var rfl (da_nil ⟨_, rfl, Nat.le_of_ble_eq_true rfl, da_nil (rc_repr rfl fdd (by decide) (by decide) (ne_ss ⟨_, rfl, ?_⟩))⟩)))))))
  rw [rb, decide_eq_true (show (toldR (.inr x.d)).shown = (D.tup [.str "deed", x.d]).shown from rfl)]
  refine ite_b (fun h => by cases h) (fun _ => ds_next ?_)
  refine ds_seq (ds_for1 (da_cons (de_int (da_nil ⟨12, rfl, by decide, by decide, fun _ e => ∃ a b c d f : Option SV, e = [some .bag, some (.d x.d), some (.d (.str x.text)), a, b, c, d, f], ⟨_, _, _, _, _, rfl⟩, ?_, ?_⟩))))
  · rintro i _ hi ⟨a, b, c, d, f, rfl⟩
    show DS K _ [some .bag, some (.d x.d), some (.d (.str x.text)), some (.d (.int i)), b, c, d, f] _
    refine ds_seq (ds_set (de_joinX (de_str ⟨_, rfl, de_callQ (da_cons (de_var rfl (da_cons (de_split (de_var rfl ⟨_, rfl, de_str ⟨_, rfl, by decide +kernel, Nat.le_trans (show x.text.length + 2 ≤ 3000 by omega) (by decide), ?_⟩⟩)))))⟩)))
    rw [DX.back xo]
    refine da_nil ⟨⟨trivial, trivial, trivial⟩, x, rfl, rfl, xo, ?_⟩
    rintro r ⟨ws, hr, hl, hw⟩
    have hrd : r.rd = some (.lst (ws.map D.str)) := by rcases hr with rfl | rfl <;> rfl
    have e1 : (Str.ofString " ").length = 1 := by decide +kernel
    have hsum : (ws.map (·.length)).sum ≤ ws.length * 500 := sum_le fun w h => (hw w h).1
    have hjl : (Txt.join (Str.ofString " ") ws).length ≤ 20000 := by
      have e : Txt.join (Str.ofString " ") ws = Str.join (Str.ofString " ") ws := StrLaws.glued_eq_join _ _
      rw [e]
      have h1 := joins_len (Str.ofString " ") ws
      have h2 : (ws.map fun y => y.length + (Str.ofString " ").length).sum ≤ ws.length * 501 := sum_le fun w h => by
        have := (hw w h).1
        omega
      omega
    have hjo : okS (Txt.join (Str.ofString " ") ws) := by
      have e : Txt.join (Str.ofString " ") ws = Str.join (Str.ofString " ") ws := StrLaws.glued_eq_join _ _
      rw [e]
      exact okS_joins _ (okS_of _) _ fun w h => (hw w h).2
    refine ⟨ws, hrd, ?_, trivial, ?_⟩
    · rw [e1]
      omega
    generalize Txt.join (Str.ofString " ") ws = odd at hjl hjo
    show DS K _ [some .bag, some (.d x.d), some (.d (.str x.text)), some (.d (.int i)), some (.d (.str odd)), c, d, f] _
    have fo := fit_told odd
    refine ds_if (dt_test (de_op (de_cb (da_cons (call_told (x := .str odd) ⟨rfl, hjl⟩ rfl (da_nil (rc_repr rfl fo (by decide) (by decide) ?_)))))))
    refine de_cb (da_cons (call_due ⟨hjl, hjo⟩ rfl (da_nil (rc_repr rfl fo (by decide) (by decide) (ne_ss ⟨_, rfl, ?_⟩)))))
    rw [decide_eq_true (show (toldR (readX (.str odd))).shown = (toldR (readT odd)).shown from rfl)]
    exact ite_b (fun h => by cases h) (fun _ => ds_next ⟨_, _, _, _, _, rfl⟩)
  rintro _ ⟨a, b, c, d, f, rfl⟩
  refine ds_seq (ds_forL (de_lst' (da_cons (de_non (da_cons (de_int (da_cons (de_bl (da_cons (de_var rfl ?_)))))))))) 
  refine da_cons (de_cb (da_cons (de_var rfl (da_nil (list_t ?_)))))
  refine da_cons (de_tup' (da_cons (de_str (da_nil ⟨_, rfl, Nat.le_of_ble_eq_true rfl, ?_⟩))))
  refine da_cons (de_tup' (da_nil ⟨[], rfl, Nat.le_of_ble_eq_true rfl, ?_⟩))
  refine da_cons (de_lst' (da_nil ⟨[], rfl, Nat.le_of_ble_eq_true rfl, ?_⟩))
  refine da_nil ⟨_, rfl, Nat.le_of_ble_eq_true rfl, _, rfl, fun _ e => ∃ a b c d f : Option SV, e = [some .bag, some (.d x.d), some (.d (.str x.text)), a, b, c, d, f], ⟨_, _, _, _, _, rfl⟩, ?_, ?_⟩
  · rintro i z es' hz ⟨a, b, c, d, f, rfl⟩
    have hz := List.mem_of_getElem? hz
    have pd : D.plainAll (.str x.k.w :: x.xs) = true := plain_d xo
    have hzz : z.plain = true ∧ isStr z = false := by
      simp only [List.mem_cons, List.not_mem_nil, or_false] at hz
      rcases hz with rfl | rfl | rfl | rfl | rfl | rfl | rfl | rfl
      · exact ⟨rfl, rfl⟩
      · exact ⟨rfl, rfl⟩
      · exact ⟨rfl, rfl⟩
      · exact ⟨pd, rfl⟩
      · exact ⟨pd, rfl⟩
      · exact ⟨rfl, rfl⟩
      · exact ⟨rfl, rfl⟩
      · exact ⟨rfl, rfl⟩
    obtain ⟨r0, b0⟩ := no_read hzz.2
    refine ⟨_, dg_name ?_⟩
    show DS K _ [some .bag, some (.d x.d), some (.d (.str x.text)), a, b, some (.d z), d, f] _
    have fz : Fit 20000 8 (toldR (readX z)) := by rw [r0]; exact fit_no
    refine ds_if (dt_test (de_op (de_cb (da_cons (call_told ⟨hzz.1, b0⟩ rfl (da_nil (rc_repr rfl fz (by decide) (by decide) ?_)))))))
    refine de_cb (da_cons (de_tup' (da_cons (de_str (da_cons (de_int (da_nil ⟨_, rfl, Nat.le_of_ble_eq_true rfl, da_nil (rc_repr rfl fit_no (by decide) (by decide) (ne_ss ⟨_, rfl, ?_⟩))⟩)))))))
    rw [r0, show (toldR (.inl 0)).shown = (D.tup [.str "no", .int 0]).shown from rfl, decide_eq_true (show (D.tup [.str "no", .int 0]).shown = (D.tup [.str "no", .int 0]).shown from rfl)]
    exact ite_b (fun h => by cases h) (fun _ => ds_next ⟨_, _, _, _, _, rfl⟩)
  rintro _ ⟨a, b, c, d, f, rfl⟩
  have e1 : (Str.ofString " ").length = 1 := by decide +kernel
  have lt1 : (Str.ofString " ").length + x.text.length ≤ sizeLine := Nat.le_trans (show _ ≤ 3000 by omega) (by decide)
  refine ds_seq (ds_set (de_lst' (da_cons (de_str (da_cons (de_str (da_cons (de_op (de_str (de_var rfl (plus_s lt1 ?_)))))))))))
  refine da_cons (de_op (de_var rfl (de_str (plus_s (by rw [Nat.add_comm]; exact lt1) ?_))))
  have r1 := repl1_len x.text (Str.ofString " ") (Str.ofString "  ")
  have r2 := repl1_len x.text (Str.ofString " ") (Str.ofString "+")
  have l2 : (Str.ofString "  ").length = 2 := by decide +kernel
  have l3 : (Str.ofString "+").length = 1 := by decide +kernel
  refine da_cons (de_repl1 (de_var rfl ⟨_, rfl, by omega, ?_⟩))
  refine da_cons (de_repl1 (de_var rfl ⟨_, rfl, by omega, ?_⟩))
  refine da_cons (de_sl (de_var rfl (do_none (do_some (de_un (de_int (neg_i ⟨_, rfl, sl_s (Nat.le_trans tk.1 (by decide)) ?_⟩)))))))
  refine da_cons (de_sl (de_var rfl (do_some (de_int ⟨_, rfl, do_none (sl_s (Nat.le_trans tk.1 (by decide)) ?_)⟩))))
  refine da_nil ⟨_, rfl, Nat.le_of_ble_eq_true rfl, trivial, ?_⟩
  have hc1 := cutS_length x.text none (some (-1))
  have hc2 := cutS_length x.text (some 1) none
  have mem : ∀ w ∈ ([("" : Str), " ", (Str.ofString " ") ++ x.text, x.text ++ (Str.ofString " "), Txt.repl1 x.text (Str.ofString " ") (Str.ofString "  "), Txt.repl1 x.text (Str.ofString " ") (Str.ofString "+"), cutS x.text none (some (-1)), cutS x.text (some 1) none] : List Str), w.length ≤ 20000 ∧ okS w := by
    intro w hw
    simp only [List.mem_cons, List.not_mem_nil, or_false] at hw
    rcases hw with rfl | rfl | rfl | rfl | rfl | rfl | rfl | rfl
    · exact ⟨by decide +kernel, okS_of _⟩
    · exact ⟨by decide +kernel, okS_of _⟩
    · refine ⟨?_, okS_app (okS_of _) tk.2⟩
      rw [strLen_append]
      omega
    · refine ⟨?_, okS_app tk.2 (okS_of _)⟩
      rw [strLen_append]
      omega
    · exact ⟨by omega, okS_repl1 tk.2 (okS_of _)⟩
    · exact ⟨by omega, okS_repl1 tk.2 (okS_of _)⟩
    · exact ⟨by omega, okS_cut tk.2⟩
    · exact ⟨by omega, okS_cut tk.2⟩
  show DS K _ [some .bag, some (.d x.d), some (.d (.str x.text)), a, b, c, some (.own (([("" : Str), " ", (Str.ofString " ") ++ x.text, x.text ++ (Str.ofString " "), Txt.repl1 x.text (Str.ofString " ") (Str.ofString "  "), Txt.repl1 x.text (Str.ofString " ") (Str.ofString "+"), cutS x.text none (some (-1)), cutS x.text (some 1) none] : List Str).map D.str)), f] _
  generalize hmore : ([("" : Str), " ", (Str.ofString " ") ++ x.text, x.text ++ (Str.ofString " "), Txt.repl1 x.text (Str.ofString " ") (Str.ofString "  "), Txt.repl1 x.text (Str.ofString " ") (Str.ofString "+"), cutS x.text none (some (-1)), cutS x.text (some 1) none] : List Str) = more at mem
  have ml : more.length = 8 := by rw [← hmore]; rfl
  refine ds_ret (de_andV (de_cb (da_cons (de_lcL (de_var rfl ⟨more.map D.str, rfl, fun n h => (by cases h), by rw [List.length_map]; omega, fun i acc => acc = (List.replicate i true).map D.bl, rfl, fun i z hz acc hJ _ => ?_, fun acc hJ _ => ?_⟩)))))
  · rw [List.getElem?_map] at hz
    obtain ⟨w, hw, rfl⟩ := Option.map_eq_some_iff.mp hz
    have wk := mem w (List.mem_of_getElem? hw)
    have fw := fit_told w
    refine dg_name ?_
    refine dt_yes ?_
    refine ite_b (fun _ => ?_) (fun h => by cases h)
    refine de_op (de_cb (da_cons (call_told (x := .str w) ⟨rfl, wk.1⟩ rfl (da_nil (rc_repr rfl fw (by decide) (by decide) ?_)))))
    refine de_cb (da_cons (call_due wk rfl (da_nil (rc_repr rfl fw (by decide) (by decide) (eq_ss ⟨_, rfl, ?_⟩)))))
    rw [decide_eq_true (show (toldR (readX (.str w))).shown = (toldR (readT w)).shown from rfl)]
    have hJ : acc = (List.replicate i true).map D.bl := hJ
    show acc ++ [D.bl true] = (List.replicate (i + 1) true).map D.bl
    rw [hJ, List.replicate_succ', List.map_append]
    rfl
  have hJ : acc = (List.replicate (more.map D.str).length true).map D.bl := hJ
  refine da_nil (rc_all (bs := List.replicate (more.map D.str).length true) (by rw [hJ]; rfl) ⟨_, rfl, ?_⟩)
  have ha : (List.replicate (more.map D.str).length true).all id = true := by
    rw [List.all_eq_true]
    intro b hb
    exact (List.mem_replicate.mp hb).2
  rw [ha]
  refine ite_b (fun _ => ?_) (fun h => by cases h)
  refine de_op (de_op (call_told bT rfl (de_int (?_ : RR K (rIx K) (.d (toldR (readX (.str x.text)))) (.d (.int 1)) _))))
  rw [rb]
  refine rr_xT (xs := [.str "deed", x.d]) (x := x.d) rfl (de_var rfl (eqF rfl rfl fd fd (by decide) (by decide) ⟨trivial, ?_⟩))
  rw [eqv_self _ fd.f]
  rfl
theorem sem_law (lf : LF K Z) (ss : List SV) (hp : ∃ ns : List Int, ss = [.scr ns] ∧ ns.length ≤ 63) : DS K (rd_law K Z) (startE 4 ss) { nx := fun _ => SV.d .non = .d (.bl true), rt := fun r => r = .d (.bl true) } := by
  obtain ⟨ns, rfl, hn⟩ := hp
  show DS K (rd_law K Z) [some (.scr ns), none, none, none] _
  unfold rd_law
  refine ds_seq (ds_for1 ?_)
  repeat walk_at "dl"
  refine ⟨by split <;> (try split) <;> omega, by rw [List.length_map]; split <;> (try split) <;> omega, fun _ e => ∃ a b c : Option SV, e = [some (.scr ns), a, b, c], ⟨_, _, _, rfl⟩, ?_, ?_⟩
  · rintro i0 _ hi ⟨a, b, c, rfl⟩
    have hi' : i0 < 64 := by
      rw [List.length_map] at hi
      split at hi <;> (try split at hi) <;> omega
    show DS K _ [some (.scr ns), some (.d (.int i0)), b, c] _
    refine ds_seq (ds_set (call_bag hi' rfl rfl fun gg mm => ⟨trivial, ?_⟩))
    refine ds_tobag (i := 2) rfl ?_
    show DS K _ [some (.scr ns), some (.d (.int i0)), some .bag, c] _
    refine ds_for1 (da_cons (de_int (da_nil ⟨6, rfl, by decide, by decide, fun _ e => ∃ c : Option SV, e = [some (.scr ns), some (.d (.int i0)), some .bag, c], ⟨_, rfl⟩, ?_, ?_⟩)))
    · rintro i1 _ h1 ⟨c, rfl⟩
      show DS K _ [some (.scr ns), some (.d (.int i0)), some .bag, some (.d (.int i1))] _
      refine ds_if (dt_not (dt_B (de_callQ (da_cons (de_var rfl (da_nil ⟨⟨trivial, trivial⟩, (), rfl, rfl, trivial, ?_⟩))))))
      rintro r rfl
      refine ⟨_, rfl, ?_⟩
      exact ite_b (fun h => by cases h) (fun _ => ds_next ⟨_, rfl⟩)
    · rintro _ ⟨c, rfl⟩
      exact ⟨_, _, _, rfl⟩
  · rintro _ ⟨a, b, c, rfl⟩
    exact ds_ret (de_bl ⟨trivial, rfl⟩)
end
theorem law_end {K : PySem.W.Frag} {H : Hp} {a : Addr} {ns : List Int} (hl : ns.length ≤ 63) (ho : Only H) (hS : SqL K H a (ns.map V.int)) : sp_law K [.ref a] H (fun v _ => v = .bl true) E0 :=
  DL.law_end ho hS ⟨ns, rfl, hl⟩ fun r h => h

def topS (i : Nat) : Stmt := PySem.Challenge.pw_oldways_k82_texts_refused.main.body.getD i (.Pass ⟨0, 0, 0, 0⟩)
abbrev s_is_whole : Stmt := (topS 1)
abbrev s_is_hand : Stmt := (topS 14)
abbrev s_parts_of : Stmt := (topS 18)
abbrev s_is_day : Stmt := (topS 19)
abbrev s_show_deed : Stmt := (topS 22)
abbrev s_read_deed : Stmt := (topS 23)
abbrev s_read_number : Stmt := (topS 24)
abbrev s__read_part : Stmt := (topS 25)
abbrev s__read_leave : Stmt := (topS 26)
abbrev s__read_stretch : Stmt := (topS 27)
abbrev s__law_bag : Stmt := (topS 29)
abbrev s__law_take : Stmt := (topS 30)
abbrev s__law_names : Stmt := (topS 31)
abbrev s__law_number_text : Stmt := (topS 32)
abbrev s__law_any_stretch : Stmt := (topS 33)
abbrev s__law_any_deed : Stmt := (topS 34)
abbrev s__law_number_in : Stmt := (topS 35)
abbrev s__law_is_kind : Stmt := (topS 36)
abbrev s__law_place : Stmt := (topS 37)
abbrev s__law_odd_words : Stmt := (topS 38)
abbrev s__law_told : Stmt := (topS 39)
abbrev s__law_due : Stmt := (topS 40)
abbrev s__law_right : Stmt := (topS 41)
abbrev s_law : Stmt := (topS 42)
abbrev se_NoText : Stmt := (inClass (topS 6) 0)
theorem sce_NoText : FnScope ["self", "place"] ["self", "place"] (defScope se_NoText) := ⟨rfl, rfl, rfl, by decide +kernel, rfl, by decide +kernel, by decide +kernel⟩
theorem sc_is_whole : FnScope ["thing"] ["thing"] (defScope s_is_whole) := ⟨rfl, rfl, rfl, by decide +kernel, rfl, by decide +kernel, by decide +kernel⟩
theorem sc_is_hand : FnScope ["thing", "sign"] ["thing"] (defScope s_is_hand) := ⟨rfl, rfl, rfl, by decide +kernel, rfl, by decide +kernel, by decide +kernel⟩
theorem sc_parts_of : FnScope ["word"] ["word"] (defScope s_parts_of) := ⟨rfl, rfl, rfl, by decide +kernel, rfl, by decide +kernel, by decide +kernel⟩
theorem sc_is_day : FnScope ["thing"] ["thing"] (defScope s_is_day) := ⟨rfl, rfl, rfl, by decide +kernel, rfl, by decide +kernel, by decide +kernel⟩
theorem sc_show_deed : FnScope ["deed", "words", "part", "worth"] ["deed"] (defScope s_show_deed) := ⟨rfl, rfl, rfl, by decide +kernel, rfl, by decide +kernel, by decide +kernel⟩
theorem sc_read_deed : FnScope ["text", "words", "parts", "deed", "part", "worth"] ["text"] (defScope s_read_deed) := ⟨rfl, rfl, rfl, by decide +kernel, rfl, by decide +kernel, by decide +kernel⟩
theorem sc_read_number : FnScope ["word", "sign"] ["word"] (defScope s_read_number) := ⟨rfl, rfl, rfl, by decide +kernel, rfl, by decide +kernel, by decide +kernel⟩
theorem sc__read_part : FnScope ["part", "words", "deed", "word", "day"] ["part", "words", "deed"] (defScope s__read_part) := ⟨rfl, rfl, rfl, by decide +kernel, rfl, by decide +kernel, by decide +kernel⟩
theorem sc__read_leave : FnScope ["word"] ["word"] (defScope s__read_leave) := ⟨rfl, rfl, rfl, by decide +kernel, rfl, by decide +kernel, by decide +kernel⟩
theorem sc__read_stretch : FnScope ["word", "first_word", "_", "many_word", "first", "many"] ["word"] (defScope s__read_stretch) := ⟨rfl, rfl, rfl, by decide +kernel, rfl, by decide +kernel, by decide +kernel⟩
theorem sc__law_bag : FnScope ["script", "at", "primes", "here", "great", "mixed"] ["script", "at"] (defScope s__law_bag) := ⟨rfl, rfl, rfl, by decide +kernel, rfl, by decide +kernel, by decide +kernel⟩
theorem sc__law_take : FnScope ["bag", "size", "digit"] ["bag", "size"] (defScope s__law_take) := ⟨rfl, rfl, rfl, by decide +kernel, rfl, by decide +kernel, by decide +kernel⟩
theorem sc__law_names : FnScope ["bag", "size", "signs", "stem", "spot", "first", "pace", "some", "k", "sign"] ["bag", "size"] (defScope s__law_names) := ⟨rfl, rfl, rfl, by decide +kernel, rfl, by decide +kernel, by decide +kernel⟩
theorem sc__law_number_text : FnScope ["bag", "most", "far"] ["bag", "most"] (defScope s__law_number_text) := ⟨rfl, rfl, rfl, by decide +kernel, rfl, by decide +kernel, by decide +kernel⟩
theorem sc__law_any_stretch : FnScope ["bag"] ["bag"] (defScope s__law_any_stretch) := ⟨rfl, rfl, rfl, by decide +kernel, rfl, by decide +kernel, by decide +kernel⟩
theorem sc__law_any_deed : FnScope ["bag", "way", "hand", "days", "froms", "overs"] ["bag"] (defScope s__law_any_deed) := ⟨rfl, rfl, rfl, by decide +kernel, rfl, by decide +kernel, by decide +kernel⟩
theorem sc__law_number_in : FnScope ["word", "sign"] ["word"] (defScope s__law_number_in) := ⟨rfl, rfl, rfl, by decide +kernel, rfl, by decide +kernel, by decide +kernel⟩
theorem sc__law_is_kind : FnScope ["word", "kind", "found", "first", "plus", "many", "number", "sign"] ["word", "kind", "found"] (defScope s__law_is_kind) := ⟨rfl, rfl, rfl, by decide +kernel, rfl, by decide +kernel, by decide +kernel⟩
theorem sc__law_place : FnScope ["words", "begin", "kinds", "at", "found", "kind"] ["words", "begin"] (defScope s__law_place) := ⟨rfl, rfl, rfl, by decide +kernel, rfl, by decide +kernel, by decide +kernel⟩
theorem sc__law_odd_words : FnScope ["bag", "words", "at", "way", "some", "odd"] ["bag", "words"] (defScope s__law_odd_words) := ⟨rfl, rfl, rfl, by decide +kernel, rfl, by decide +kernel, by decide +kernel⟩
theorem sc__law_told : FnScope ["thing", "e", "strange"] ["thing"] (defScope s__law_told) := ⟨rfl, rfl, rfl, by decide +kernel, rfl, by decide +kernel, by decide +kernel⟩
theorem sc__law_due : FnScope ["text", "words", "place", "parts", "word", "first", "plus", "many", "number"] ["text"] (defScope s__law_due) := ⟨rfl, rfl, rfl, by decide +kernel, rfl, by decide +kernel, by decide +kernel⟩
theorem sc__law_right : FnScope ["bag", "deed", "text", "turn", "odd", "thing", "more", "one"] ["bag"] (defScope s__law_right) := ⟨rfl, rfl, rfl, by decide +kernel, rfl, by decide +kernel, by decide +kernel⟩
theorem sc_law : FnScope ["script", "k", "bag", "turn"] ["script"] (defScope s_law) := ⟨rfl, rfl, rfl, by decide +kernel, rfl, by decide +kernel, by decide +kernel⟩
structure Txt (K : PySem.W.Frag) (mg : Str → Option Value) (Z : CS) (f_is_whole f_is_hand f_parts_of f_is_day f_show_deed f_read_deed f_read_number f__read_part f__read_leave f__read_stretch f__law_bag f__law_take f__law_names f__law_number_text f__law_any_stretch f__law_any_deed f__law_number_in f__law_is_kind f__law_place f__law_odd_words f__law_told f__law_due f__law_right f_law fe_NoText : Addr) (d_is_whole d_is_hand d_parts_of d_is_day d_show_deed d_read_deed d_read_number d__read_part d__read_leave d__read_stretch d__law_bag d__law_take d__law_names d__law_number_text d__law_any_stretch d__law_any_deed d__law_number_in d__law_is_kind d__law_place d__law_odd_words d__law_told d__law_due d__law_right d_law de_NoText : FuncData) : Prop where
  F_is_whole : Fun K "is_whole" "is_whole" s_is_whole f_is_whole d_is_whole
  g_is_whole : mg "is_whole" = some (.ref f_is_whole)
  b_is_whole : Binds K d_is_whole ["thing"] []
  F_is_hand : Fun K "is_hand" "is_hand" s_is_hand f_is_hand d_is_hand
  g_is_hand : mg "is_hand" = some (.ref f_is_hand)
  b_is_hand : Binds K d_is_hand ["thing"] []
  F_parts_of : Fun K "parts_of" "parts_of" s_parts_of f_parts_of d_parts_of
  g_parts_of : mg "parts_of" = some (.ref f_parts_of)
  b_parts_of : Binds K d_parts_of ["word"] []
  F_is_day : Fun K "is_day" "is_day" s_is_day f_is_day d_is_day
  g_is_day : mg "is_day" = some (.ref f_is_day)
  b_is_day : Binds K d_is_day ["thing"] []
  F_show_deed : Fun K "show_deed" "show_deed" s_show_deed f_show_deed d_show_deed
  g_show_deed : mg "show_deed" = some (.ref f_show_deed)
  b_show_deed : Binds K d_show_deed ["deed"] []
  F_read_deed : Fun K "read_deed" "read_deed" s_read_deed f_read_deed d_read_deed
  g_read_deed : mg "read_deed" = some (.ref f_read_deed)
  b_read_deed : Binds K d_read_deed ["text"] []
  F_read_number : Fun K "read_number" "read_number" s_read_number f_read_number d_read_number
  g_read_number : mg "read_number" = some (.ref f_read_number)
  b_read_number : Binds K d_read_number ["word"] []
  F__read_part : Fun K "_read_part" "_read_part" s__read_part f__read_part d__read_part
  g__read_part : mg "_read_part" = some (.ref f__read_part)
  b__read_part : Binds K d__read_part ["part", "words", "deed"] []
  F__read_leave : Fun K "_read_leave" "_read_leave" s__read_leave f__read_leave d__read_leave
  g__read_leave : mg "_read_leave" = some (.ref f__read_leave)
  b__read_leave : Binds K d__read_leave ["word"] []
  F__read_stretch : Fun K "_read_stretch" "_read_stretch" s__read_stretch f__read_stretch d__read_stretch
  g__read_stretch : mg "_read_stretch" = some (.ref f__read_stretch)
  b__read_stretch : Binds K d__read_stretch ["word"] []
  F__law_bag : Fun K "_law_bag" "_law_bag" s__law_bag f__law_bag d__law_bag
  g__law_bag : mg "_law_bag" = some (.ref f__law_bag)
  b__law_bag : Binds K d__law_bag ["script", "at"] []
  F__law_take : Fun K "_law_take" "_law_take" s__law_take f__law_take d__law_take
  g__law_take : mg "_law_take" = some (.ref f__law_take)
  b__law_take : Binds K d__law_take ["bag", "size"] []
  F__law_names : Fun K "_law_names" "_law_names" s__law_names f__law_names d__law_names
  g__law_names : mg "_law_names" = some (.ref f__law_names)
  b__law_names : Binds K d__law_names ["bag", "size"] []
  F__law_number_text : Fun K "_law_number_text" "_law_number_text" s__law_number_text f__law_number_text d__law_number_text
  g__law_number_text : mg "_law_number_text" = some (.ref f__law_number_text)
  b__law_number_text : Binds K d__law_number_text ["bag", "most"] []
  F__law_any_stretch : Fun K "_law_any_stretch" "_law_any_stretch" s__law_any_stretch f__law_any_stretch d__law_any_stretch
  g__law_any_stretch : mg "_law_any_stretch" = some (.ref f__law_any_stretch)
  b__law_any_stretch : Binds K d__law_any_stretch ["bag"] []
  F__law_any_deed : Fun K "_law_any_deed" "_law_any_deed" s__law_any_deed f__law_any_deed d__law_any_deed
  g__law_any_deed : mg "_law_any_deed" = some (.ref f__law_any_deed)
  b__law_any_deed : Binds K d__law_any_deed ["bag"] []
  F__law_number_in : Fun K "_law_number_in" "_law_number_in" s__law_number_in f__law_number_in d__law_number_in
  g__law_number_in : mg "_law_number_in" = some (.ref f__law_number_in)
  b__law_number_in : Binds K d__law_number_in ["word"] []
  F__law_is_kind : Fun K "_law_is_kind" "_law_is_kind" s__law_is_kind f__law_is_kind d__law_is_kind
  g__law_is_kind : mg "_law_is_kind" = some (.ref f__law_is_kind)
  b__law_is_kind : Binds K d__law_is_kind ["word", "kind", "found"] []
  F__law_place : Fun K "_law_place" "_law_place" s__law_place f__law_place d__law_place
  g__law_place : mg "_law_place" = some (.ref f__law_place)
  b__law_place : Binds K d__law_place ["words", "begin"] []
  F__law_odd_words : Fun K "_law_odd_words" "_law_odd_words" s__law_odd_words f__law_odd_words d__law_odd_words
  g__law_odd_words : mg "_law_odd_words" = some (.ref f__law_odd_words)
  b__law_odd_words : Binds K d__law_odd_words ["bag", "words"] []
  F__law_told : Fun K "_law_told" "_law_told" s__law_told f__law_told d__law_told
  g__law_told : mg "_law_told" = some (.ref f__law_told)
  b__law_told : Binds K d__law_told ["thing"] []
  F__law_due : Fun K "_law_due" "_law_due" s__law_due f__law_due d__law_due
  g__law_due : mg "_law_due" = some (.ref f__law_due)
  b__law_due : Binds K d__law_due ["text"] []
  F__law_right : Fun K "_law_right" "_law_right" s__law_right f__law_right d__law_right
  g__law_right : mg "_law_right" = some (.ref f__law_right)
  b__law_right : Binds K d__law_right ["bag"] []
  F_law : Fun K "law" "law" s_law f_law d_law
  g_law : mg "law" = some (.ref f_law)
  b_law : Binds K d_law ["script"] []
  lf : LF K Z
  gC_NoCell : mg "NoCell" = some (.ref Z.C_NoCell)
  gC_NoDay : mg "NoDay" = some (.ref Z.C_NoDay)
  gC_NoDeed : mg "NoDeed" = some (.ref Z.C_NoDeed)
  gC_NoHand : mg "NoHand" = some (.ref Z.C_NoHand)
  gC_NoLand : mg "NoLand" = some (.ref Z.C_NoLand)
  gC_TooMany : mg "TooMany" = some (.ref Z.C_TooMany)
  gC_Unlike : mg "Unlike" = some (.ref Z.C_Unlike)
  gC_NoText : mg "NoText" = some (.ref Z.C_NoText)
  er_NoText : ErrC K mg "NoText" Z.C_NoText fe_NoText "place"
  xf_NoText : XfC K Z.C_NoText
  Fe_NoText : Fun K "__init__" "NoText.__init__" se_NoText fe_NoText de_NoText
  be_NoText : Binds K de_NoText ["self", "place"] []
  kd_PARTS : KDict K Z.A_PARTS [("sale", .ref Z.A_PARTS_0), ("grant", .ref Z.A_PARTS_1), ("end", .ref Z.A_PARTS_2), ("use", .ref Z.A_PARTS_3)]
  mg_PARTS : mg "PARTS" = some (.ref Z.A_PARTS)
  z_int : mg "int" = none
  z_isinstance : mg "isinstance" = none
  z_bool : mg "bool" = none
  z_str : mg "str" = none
  z_len : mg "len" = none
  z_all : mg "all" = none
  z_zip : mg "zip" = none
  z_tuple : mg "tuple" = none
  z_abs : mg "abs" = none
  z_range : mg "range" = none
  z_min : mg "min" = none
  z_sorted : mg "sorted" = none
  z_ValueError : mg "ValueError" = none
  z_repr : mg "repr" = none
  z_list : mg "list" = none
  z_max : mg "max" = none
  c_MOST_LETTERS : ∃ t : Tok, mg "MOST_LETTERS" = some (.int 8 t)
  c_LAST_DAY : ∃ t : Tok, mg "LAST_DAY" = some (.int 1000000000000000000000000000000 t)
  c_MOST_FIGURES : ∃ t : Tok, mg "MOST_FIGURES" = some (.int 60 t)
section
variable {P : Program} {w : World} {K : PySem.W.Frag} {mg : Str → Option Value} {base : Heap} {Z : CS} {f_is_whole f_is_hand f_parts_of f_is_day f_show_deed f_read_deed f_read_number f__read_part f__read_leave f__read_stretch f__law_bag f__law_take f__law_names f__law_number_text f__law_any_stretch f__law_any_deed f__law_number_in f__law_is_kind f__law_place f__law_odd_words f__law_told f__law_due f__law_right f_law fe_NoText : Addr} {d_is_whole d_is_hand d_parts_of d_is_day d_show_deed d_read_deed d_read_number d__read_part d__read_leave d__read_stretch d__law_bag d__law_take d__law_names d__law_number_text d__law_any_stretch d__law_any_deed d__law_number_in d__law_is_kind d__law_place d__law_odd_words d__law_told d__law_due d__law_right d_law de_NoText : FuncData}
theorem kb_read_deed_1 (T : Txt K mg Z f_is_whole f_is_hand f_parts_of f_is_day f_show_deed f_read_deed f_read_number f__read_part f__read_leave f__read_stretch f__law_bag f__law_take f__law_names f__law_number_text f__law_any_stretch f__law_any_deed f__law_number_in f__law_is_kind f__law_place f__law_odd_words f__law_told f__law_due f__law_right f_law fe_NoText d_is_whole d_is_hand d_parts_of d_is_day d_show_deed d_read_deed d_read_number d__read_part d__read_leave d__read_stretch d__law_bag d__law_take d__law_names d__law_number_text d__law_any_stretch d__law_any_deed d__law_number_in d__law_is_kind d__law_place d__law_odd_words d__law_told d__law_due d__law_right d_law de_NoText) : ∃ _z : Unit, KBn K d_read_deed ["text"] 1 [] (fun us ws => pick [0] (us ++ [] ++ ws)) (fun vs zs => pick [0] (vs ++ [] ++ zs)) := by
  obtain ⟨oc, od, kV, doc, pm, an, cdv, ct, osl, rfl, lk, hcd⟩ := T.F_read_deed.ex
  refine ⟨(), fun s us ws X l1 l2 => .of_eq ?_, fun r1 r2 => Vals.pick ((r1.append .nil).append r2) _⟩
  match us, l1, ws, l2 with
  | [_], _, [], _ => rfl
theorem oke_NoText (T : Txt K mg Z f_is_whole f_is_hand f_parts_of f_is_day f_show_deed f_read_deed f_read_number f__read_part f__read_leave f__read_stretch f__law_bag f__law_take f__law_names f__law_number_text f__law_any_stretch f__law_any_deed f__law_number_in f__law_is_kind f__law_place f__law_odd_words f__law_told f__law_due f__law_right f_law fe_NoText d_is_whole d_is_hand d_parts_of d_is_day d_show_deed d_read_deed d_read_number d__read_part d__read_leave d__read_stretch d__law_bag d__law_take d__law_names d__law_number_text d__law_any_stretch d__law_any_deed d__law_number_in d__law_is_kind d__law_place d__law_odd_words d__law_told d__law_due d__law_right d_law de_NoText) : FnOk P w K mg base CX0 1 fe_NoText de_NoText ["self", "place"] (spErr Z.C_NoText "place") := by
  refine T.Fe_NoText.ok sce_NoText (fun vs H Q E h => spErr.len h) (fun cdv A outer s H vs Q E hr h => ⟨tOst K "place" (tVar 0) (tVar 1), ?_, err_pure T.er_NoText.o T.er_NoText.noF rfl h⟩)
  exact pss_one (ps_ost (pv 0) (pv 1))
theorem ok_is_whole (T : Txt K mg Z f_is_whole f_is_hand f_parts_of f_is_day f_show_deed f_read_deed f_read_number f__read_part f__read_leave f__read_stretch f__law_bag f__law_take f__law_names f__law_number_text f__law_any_stretch f__law_any_deed f__law_number_in f__law_is_kind f__law_place f__law_odd_words f__law_told f__law_due f__law_right f_law fe_NoText d_is_whole d_is_hand d_parts_of d_is_day d_show_deed d_read_deed d_read_number d__read_part d__read_leave d__read_stretch d__law_bag d__law_take d__law_names d__law_number_text d__law_any_stretch d__law_any_deed d__law_number_in d__law_is_kind d__law_place d__law_odd_words d__law_told d__law_due d__law_right d_law de_NoText) : FnG P w K mg base 1 f_is_whole d_is_whole ["thing"] (sp_is_whole K Z) := by
  refine okG T.F_is_whole sc_is_whole (fun vs H Q E h => spD.len (E := E) h) (fun cdv A fr s H vs Q gu hr h => ⟨rd_is_whole K Z, ?_, body_of (E := E0) h fun ss hl hp => sem_is_whole T.lf ss hp⟩)
  have gu : (A.deeper (envOfC "is_whole" (defScope s_is_whole) s.heap.objs.size f_is_whole cdv)).guards = some [] := gu
  exact (pss_one (ps_ret (pe_and (pe_callB call_isi (by rfl) T.z_isinstance (by decide +kernel) (pa_cons (pv 0) (pa_cons (pe_bltn (by rfl) T.z_int (by decide +kernel) rfl) pa_nil))) (pe_one (pe_not (pe_callB call_isi (by rfl) T.z_isinstance (by decide +kernel) (pa_cons (pv 0) (pa_cons (pe_bltn (by rfl) T.z_bool (by decide +kernel) rfl) pa_nil))))))))
theorem ok_is_hand (T : Txt K mg Z f_is_whole f_is_hand f_parts_of f_is_day f_show_deed f_read_deed f_read_number f__read_part f__read_leave f__read_stretch f__law_bag f__law_take f__law_names f__law_number_text f__law_any_stretch f__law_any_deed f__law_number_in f__law_is_kind f__law_place f__law_odd_words f__law_told f__law_due f__law_right f_law fe_NoText d_is_whole d_is_hand d_parts_of d_is_day d_show_deed d_read_deed d_read_number d__read_part d__read_leave d__read_stretch d__law_bag d__law_take d__law_names d__law_number_text d__law_any_stretch d__law_any_deed d__law_number_in d__law_is_kind d__law_place d__law_odd_words d__law_told d__law_due d__law_right d_law de_NoText) : FnG P w K mg base 1 f_is_hand d_is_hand ["thing"] (sp_is_hand K Z) := by
  refine okG T.F_is_hand sc_is_hand (fun vs H Q E h => spD.len (E := E) h) (fun cdv A fr s H vs Q gu hr h => ⟨rd_is_hand K Z, ?_, body_of (E := E0) h fun ss hl hp => sem_is_hand T.lf ss hp⟩)
  have gu : (A.deeper (envOfC "is_hand" (defScope s_is_hand) s.heap.objs.size f_is_hand cdv)).guards = some [] := gu
  exact (pss_cons (ps_if (PW.pt (pw_or (pt_not (pt_val (pe_callB call_isi (by rfl) T.z_isinstance (by decide +kernel) (pa_cons (pv 0) (pa_cons (pe_bltn (by rfl) T.z_str (by decide +kernel) rfl) pa_nil))))) (pw_or1 (pt_not (pt_chain op_leX op_leX pe_int (pe_callB call_lenX (by rfl) T.z_len (by decide +kernel) (pa_cons (pv 0) pa_nil)) (pe_glob (by rfl) T.c_MOST_LETTERS.choose_spec ⟨_, rfl⟩)))))) (pss_one (ps_ret pe_bl)) pss_nil)
    (pss_one (ps_ret (pe_callB (cr_all rfl) (by rfl) T.z_all (by decide +kernel) (pa_cons (pe_lc (own := [("sign", 1)]) (g := (gName 1)) (tt := tYes) (te := (tChain (rLe K) (rLe K) (tC (.str "a")) (tVar 1) (tC (.str "z")))) rfl sc_is_hand.nd (pi_str (pv 0)) (blkOk_by (N := ["thing", "sign"]) (sc := defScope s_is_hand) (by decide +kernel)) (fun _ _ _ _ _ => (pg_name (i := 1) sc_is_hand.nd rfl (by first | exact .inl rfl | exact .inr rfl))) (fun _ _ _ _ _ => pts_nil) (fun _ _ _ _ _ => (pe_chain op_leX op_leX pe_str (pv 1) pe_str))) pa_nil)))))
theorem ok_parts_of (T : Txt K mg Z f_is_whole f_is_hand f_parts_of f_is_day f_show_deed f_read_deed f_read_number f__read_part f__read_leave f__read_stretch f__law_bag f__law_take f__law_names f__law_number_text f__law_any_stretch f__law_any_deed f__law_number_in f__law_is_kind f__law_place f__law_odd_words f__law_told f__law_due f__law_right f_law fe_NoText d_is_whole d_is_hand d_parts_of d_is_day d_show_deed d_read_deed d_read_number d__read_part d__read_leave d__read_stretch d__law_bag d__law_take d__law_names d__law_number_text d__law_any_stretch d__law_any_deed d__law_number_in d__law_is_kind d__law_place d__law_odd_words d__law_told d__law_due d__law_right d_law de_NoText) : FnG P w K mg base 1 f_parts_of d_parts_of ["word"] (sp_parts_of K Z) := by
  refine okG T.F_parts_of sc_parts_of (fun vs H Q E h => spQ.len (E := E) h) (fun cdv A fr s H vs Q gu hr h => ⟨rd_parts_of K Z, ?_, bodyQ (E := E0) h fun x hp => sem_parts_of T.lf x hp⟩)
  have gu : (A.deeper (envOfC "parts_of" (defScope s_parts_of) s.heap.objs.size f_parts_of cdv)).guards = some [] := gu
  exact (pss_one (ps_ret (pe_kget T.kd_PARTS (by rfl) T.mg_PARTS (pv 0) (pe_tup pa_nil) ⟨by rfl, by rfl, by rfl, by rfl⟩)))
theorem ok_read_number (T : Txt K mg Z f_is_whole f_is_hand f_parts_of f_is_day f_show_deed f_read_deed f_read_number f__read_part f__read_leave f__read_stretch f__law_bag f__law_take f__law_names f__law_number_text f__law_any_stretch f__law_any_deed f__law_number_in f__law_is_kind f__law_place f__law_odd_words f__law_told f__law_due f__law_right f_law fe_NoText d_is_whole d_is_hand d_parts_of d_is_day d_show_deed d_read_deed d_read_number d__read_part d__read_leave d__read_stretch d__law_bag d__law_take d__law_names d__law_number_text d__law_any_stretch d__law_any_deed d__law_number_in d__law_is_kind d__law_place d__law_odd_words d__law_told d__law_due d__law_right d_law de_NoText) : FnG P w K mg base 1 f_read_number d_read_number ["word"] (sp_read_number K Z) := by
  refine okG T.F_read_number sc_read_number (fun vs H Q E h => spQ.len (E := E) h) (fun cdv A fr s H vs Q gu hr h => ⟨rd_read_number K Z, ?_, bodyQ (E := E0) h fun x hp => sem_read_number T.lf x hp⟩)
  have gu : (A.deeper (envOfC "read_number" (defScope s_read_number) s.heap.objs.size f_read_number cdv)).guards = some [] := gu
  exact (pss_cons (ps_if (pt_not (pt_chain op_leX op_leX pe_int (pe_callB call_lenX (by rfl) T.z_len (by decide +kernel) (pa_cons (pv 0) pa_nil)) (pe_glob (by rfl) T.c_MOST_FIGURES.choose_spec ⟨_, rfl⟩))) (pss_one (ps_ret pe_non)) pss_nil)
    (pss_cons (ps_if (pt_not (pt_val (pe_callB (cr_all rfl) (by rfl) T.z_all (by decide +kernel) (pa_cons (pe_lc (own := [("sign", 1)]) (g := (gName 1)) (tt := tYes) (te := (tChain (rLe K) (rLe K) (tC (.str "0")) (tVar 1) (tC (.str "9")))) rfl sc_read_number.nd (pi_str (pv 0)) (blkOk_by (N := ["word", "sign"]) (sc := defScope s_read_number) (by decide +kernel)) (fun _ _ _ _ _ => (pg_name (i := 1) sc_read_number.nd rfl (by first | exact .inl rfl | exact .inr rfl))) (fun _ _ _ _ _ => pts_nil) (fun _ _ _ _ _ => (pe_chain op_leX op_leX pe_str (pv 1) pe_str))) pa_nil)))) (pss_one (ps_ret pe_non)) pss_nil)
    (pss_cons (ps_if (PW.pt (pw_and (pt_cmpR (op_eqX hr.units) (pe_ix ix_seq (pv 0) pe_int (fun _ _ => rfl)) pe_str (nomark _)) (pw_and1 (pt_cmpR (op_neX hr.units) (pv 0) pe_str (nomark _))))) (pss_one (ps_ret pe_non)) pss_nil)
    (pss_one (ps_ret (pe_callTy call_intS (by rfl) T.z_int (by decide +kernel) (pa_cons (pv 0) pa_nil)))))))
theorem ok__read_leave (T : Txt K mg Z f_is_whole f_is_hand f_parts_of f_is_day f_show_deed f_read_deed f_read_number f__read_part f__read_leave f__read_stretch f__law_bag f__law_take f__law_names f__law_number_text f__law_any_stretch f__law_any_deed f__law_number_in f__law_is_kind f__law_place f__law_odd_words f__law_told f__law_due f__law_right f_law fe_NoText d_is_whole d_is_hand d_parts_of d_is_day d_show_deed d_read_deed d_read_number d__read_part d__read_leave d__read_stretch d__law_bag d__law_take d__law_names d__law_number_text d__law_any_stretch d__law_any_deed d__law_number_in d__law_is_kind d__law_place d__law_odd_words d__law_told d__law_due d__law_right d_law de_NoText) : FnG P w K mg base 1 f__read_leave d__read_leave ["word"] (sp__read_leave K Z) := by
  refine okG T.F__read_leave sc__read_leave (fun vs H Q E h => spQ.len (E := E) h) (fun cdv A fr s H vs Q gu hr h => ⟨rd__read_leave K Z, ?_, bodyQ (E := E0) h fun x hp => sem__read_leave T.lf x hp⟩)
  have gu : (A.deeper (envOfC "_read_leave" (defScope s__read_leave) s.heap.objs.size f__read_leave cdv)).guards = some [] := gu
  exact (pss_cons (ps_if (pt_cmpR op_isV (pv 0) pe_non (nomark _)) (pss_one (ps_ret pe_bl)) pss_nil)
    (pss_one (ps_ret (pe_ifExp (pt_cmpR (op_eqX hr.units) (pv 0) pe_str (nomark _)) pe_bl pe_non))))
theorem ok__law_bag (T : Txt K mg Z f_is_whole f_is_hand f_parts_of f_is_day f_show_deed f_read_deed f_read_number f__read_part f__read_leave f__read_stretch f__law_bag f__law_take f__law_names f__law_number_text f__law_any_stretch f__law_any_deed f__law_number_in f__law_is_kind f__law_place f__law_odd_words f__law_told f__law_due f__law_right f_law fe_NoText d_is_whole d_is_hand d_parts_of d_is_day d_show_deed d_read_deed d_read_number d__read_part d__read_leave d__read_stretch d__law_bag d__law_take d__law_names d__law_number_text d__law_any_stretch d__law_any_deed d__law_number_in d__law_is_kind d__law_place d__law_odd_words d__law_told d__law_due d__law_right d_law de_NoText) : FnG P w K mg base 1 f__law_bag d__law_bag ["script", "at"] (sp__law_bag K) := by
  refine okG T.F__law_bag sc__law_bag (fun vs H Q E h => spD.len (E := E) h) (fun cdv A fr s H vs Q gu hr h => ⟨rd__law_bag K Z, ?_, body_of (E := E0) h fun ss hl hp => sem__law_bag ss hp⟩)
  have gu : (A.deeper (envOfC "_law_bag" (defScope s__law_bag) s.heap.objs.size f__law_bag cdv)).guards = some [] := gu
  exact (pss_cons (ps_set (i := 2) sc__law_bag.nd rfl (by first | exact .inl rfl | exact .inr rfl) (pe_tup (pa_cons pe_int (pa_cons pe_int (pa_cons pe_int (pa_cons pe_int (pa_cons pe_int (pa_cons pe_int (pa_cons pe_int pa_nil)))))))))
    (pss_cons (ps_set (i := 3) sc__law_bag.nd rfl (by first | exact .inl rfl | exact .inr rfl) (pe_ifExp (pt_cmpR op_ltX (pv 1) (pe_callB call_lenX (by rfl) T.z_len (by decide +kernel) (pa_cons (pv 0) pa_nil)) (nomark _)) (pe_ix ix_seq (pv 0) (pv 1) (fun _ _ => rfl)) pe_int))
    (pss_cons (ps_set (i := 4) sc__law_bag.nd rfl (by first | exact .inl rfl | exact .inr rfl) (pe_ifExp (pt_cmpR op_geX (pe_callB call_absX (by rfl) T.z_abs (by decide +kernel) (pa_cons (pv 3) pa_nil)) (pe_op op_powX pe_int pe_int) (nomark _)) (pe_callB call_absX (by rfl) T.z_abs (by decide +kernel) (pa_cons (pv 3) pa_nil)) pe_int))
    (pss_cons (ps_set (i := 5) sc__law_bag.nd rfl (by first | exact .inl rfl | exact .inr rfl) (pe_op op_modX (pe_op op_powX (pe_op op_plus (pe_op op_plus (pe_op op_modX (pv 3) pe_int) (pe_op op_mulX' pe_int (pv 1))) pe_int) pe_int) (pe_ix ix_seq (pv 2) (pe_op op_modX (pv 1) pe_int) (fun _ _ => rfl))))
    (pss_one (ps_ret (pe_lst (pa_cons (pv 4) (pa_cons (pe_op op_plus (pe_op op_modX (pe_op op_mulX' (pv 5) (pe_op op_plus (pe_op op_plus (pe_op op_fdvX (pv 5) pe_int) (pe_op op_mulX' pe_int (pv 1))) pe_int)) (pe_ix ix_seq (pv 2) (pe_op op_modX (pe_op op_plus (pv 1) pe_int) pe_int) (fun _ _ => rfl))) pe_int) pa_nil)))))))))
theorem ok__law_take (T : Txt K mg Z f_is_whole f_is_hand f_parts_of f_is_day f_show_deed f_read_deed f_read_number f__read_part f__read_leave f__read_stretch f__law_bag f__law_take f__law_names f__law_number_text f__law_any_stretch f__law_any_deed f__law_number_in f__law_is_kind f__law_place f__law_odd_words f__law_told f__law_due f__law_right f_law fe_NoText d_is_whole d_is_hand d_parts_of d_is_day d_show_deed d_read_deed d_read_number d__read_part d__read_leave d__read_stretch d__law_bag d__law_take d__law_names d__law_number_text d__law_any_stretch d__law_any_deed d__law_number_in d__law_is_kind d__law_place d__law_odd_words d__law_told d__law_due d__law_right d_law de_NoText) : FnG P w K mg base 1 f__law_take d__law_take ["bag", "size"] (sp__law_take K) := by
  refine okG T.F__law_take sc__law_take (fun vs H Q E h => spD.len (E := E) h) (fun cdv A fr s H vs Q gu hr h => ⟨rd__law_take K Z, ?_, body_of (E := E0) h fun ss hl hp => sem__law_take ss hp⟩)
  have gu : (A.deeper (envOfC "_law_take" (defScope s__law_take) s.heap.objs.size f__law_take cdv)).guards = some [] := gu
  exact (pss_cons (ps_if (pt_cmpR op_gtX (pe_ix ix_seq (pv 0) pe_int (fun _ _ => rfl)) pe_int (nomark _)) (pss_cons (ps_set (i := 2) sc__law_take.nd rfl (by first | exact .inl rfl | exact .inr rfl) (pe_op op_modX (pe_ix ix_seq (pv 0) pe_int (fun _ _ => rfl)) (pv 1)))
    (pss_cons (ps_asg (pe_op op_fdvX (pe_ix ix_seq (pv 0) pe_int (fun _ _ => rfl)) (pv 1)) (pg_sub (pv 0) pe_int set_list))
    (pss_one (ps_ret (pv 2))))) pss_nil)
    (pss_cons (ps_asg (pe_op op_modX (pe_op op_mulX' (pe_ix ix_seq (pv 0) pe_int (fun _ _ => rfl)) pe_int) pe_int) (pg_sub (pv 0) pe_int set_list))
    (pss_one (ps_ret (pe_op op_modX (pe_op op_fdvX (pe_op op_modX (pe_op op_mulX' (pe_ix ix_seq (pv 0) pe_int (fun _ _ => rfl)) pe_int) pe_int) (pe_op op_powX pe_int pe_int)) (pv 1))))))
theorem ok__law_number_in (T : Txt K mg Z f_is_whole f_is_hand f_parts_of f_is_day f_show_deed f_read_deed f_read_number f__read_part f__read_leave f__read_stretch f__law_bag f__law_take f__law_names f__law_number_text f__law_any_stretch f__law_any_deed f__law_number_in f__law_is_kind f__law_place f__law_odd_words f__law_told f__law_due f__law_right f_law fe_NoText d_is_whole d_is_hand d_parts_of d_is_day d_show_deed d_read_deed d_read_number d__read_part d__read_leave d__read_stretch d__law_bag d__law_take d__law_names d__law_number_text d__law_any_stretch d__law_any_deed d__law_number_in d__law_is_kind d__law_place d__law_odd_words d__law_told d__law_due d__law_right d_law de_NoText) : FnG P w K mg base 1 f__law_number_in d__law_number_in ["word"] (sp__law_number_in K Z) := by
  refine okG T.F__law_number_in sc__law_number_in (fun vs H Q E h => spQ.len (E := E) h) (fun cdv A fr s H vs Q gu hr h => ⟨rd__law_number_in K Z, ?_, bodyQ (E := E0) h fun x hp => sem__law_number_in T.lf x hp⟩)
  have gu : (A.deeper (envOfC "_law_number_in" (defScope s__law_number_in) s.heap.objs.size f__law_number_in cdv)).guards = some [] := gu
  exact (pss_cons (ps_if (PW.pt (pw_or (pt_cmpR op_ltX (pe_callB call_lenX (by rfl) T.z_len (by decide +kernel) (pa_cons (pv 0) pa_nil)) pe_int (nomark _)) (pw_or (pt_cmpR op_gtX (pe_callB call_lenX (by rfl) T.z_len (by decide +kernel) (pa_cons (pv 0) pa_nil)) pe_int (nomark _)) (pw_or1 (pt_not (pt_val (pe_callB (cr_all rfl) (by rfl) T.z_all (by decide +kernel) (pa_cons (pe_lc (own := [("sign", 1)]) (g := (gName 1)) (tt := tYes) (te := (tOp rInSg (tVar 1) (tC (.str "0123456789")))) rfl sc__law_number_in.nd (pi_str (pv 0)) (blkOk_by (N := ["word", "sign"]) (sc := defScope s__law_number_in) (by decide +kernel)) (fun _ _ _ _ _ => (pg_name (i := 1) sc__law_number_in.nd rfl (by first | exact .inl rfl | exact .inr rfl))) (fun _ _ _ _ _ => pts_nil) (fun _ _ _ _ _ => (pe_cmpR op_inSg (pv 1) pe_str (by rfl)))) pa_nil)))))))) (pss_one (ps_ret pe_non)) pss_nil)
    (pss_one (ps_ret (pe_ifExp (PW.pt (pw_and (pt_cmpR (op_eqX hr.units) (pe_ix ix_seq (pv 0) pe_int (fun _ _ => rfl)) pe_str (nomark _)) (pw_and1 (pt_cmpR (op_neX hr.units) (pv 0) pe_str (nomark _))))) pe_non (pe_callTy call_intS (by rfl) T.z_int (by decide +kernel) (pa_cons (pv 0) pa_nil))))))
theorem ok_is_day (T : Txt K mg Z f_is_whole f_is_hand f_parts_of f_is_day f_show_deed f_read_deed f_read_number f__read_part f__read_leave f__read_stretch f__law_bag f__law_take f__law_names f__law_number_text f__law_any_stretch f__law_any_deed f__law_number_in f__law_is_kind f__law_place f__law_odd_words f__law_told f__law_due f__law_right f_law fe_NoText d_is_whole d_is_hand d_parts_of d_is_day d_show_deed d_read_deed d_read_number d__read_part d__read_leave d__read_stretch d__law_bag d__law_take d__law_names d__law_number_text d__law_any_stretch d__law_any_deed d__law_number_in d__law_is_kind d__law_place d__law_odd_words d__law_told d__law_due d__law_right d_law de_NoText) : FnG P w K mg base 2 f_is_day d_is_day ["thing"] (sp_is_day K Z) := by
  refine okG T.F_is_day sc_is_day (fun vs H Q E h => spQ.len (E := E) h) (fun cdv A fr s H vs Q gu hr h => ⟨rd_is_day K Z, ?_, bodyQ (E := E0) h fun x hp => sem_is_day T.lf x hp⟩)
  have gu : (A.deeper (envOfC "is_day" (defScope s_is_day) s.heap.objs.size f_is_day cdv)).guards = some [] := gu
  exact (pss_one (ps_ret (pe_and (pe_callG (ok_is_whole T) (hr.mono (by decide)) gu (by rfl) T.g_is_whole T.F_is_whole.kp T.b_is_whole (pa_cons (pv 0) pa_nil)) (pe_one (pe_chain op_leX op_leX pe_int (pv 0) (pe_glob (by rfl) T.c_LAST_DAY.choose_spec ⟨_, rfl⟩))))))
theorem ok_show_deed (T : Txt K mg Z f_is_whole f_is_hand f_parts_of f_is_day f_show_deed f_read_deed f_read_number f__read_part f__read_leave f__read_stretch f__law_bag f__law_take f__law_names f__law_number_text f__law_any_stretch f__law_any_deed f__law_number_in f__law_is_kind f__law_place f__law_odd_words f__law_told f__law_due f__law_right f_law fe_NoText d_is_whole d_is_hand d_parts_of d_is_day d_show_deed d_read_deed d_read_number d__read_part d__read_leave d__read_stretch d__law_bag d__law_take d__law_names d__law_number_text d__law_any_stretch d__law_any_deed d__law_number_in d__law_is_kind d__law_place d__law_odd_words d__law_told d__law_due d__law_right d_law de_NoText) : FnG P w K mg base 2 f_show_deed d_show_deed ["deed"] (sp_show_deed K Z) := by
  refine okG T.F_show_deed sc_show_deed (fun vs H Q E h => spQ.len (E := E) h) (fun cdv A fr s H vs Q gu hr h => ⟨rd_show_deed K Z, ?_, bodyQ (E := E0) h fun x hp => sem_show_deed T.lf x hp⟩)
  have gu : (A.deeper (envOfC "show_deed" (defScope s_show_deed) s.heap.objs.size f_show_deed cdv)).guards = some [] := gu
  exact (pss_cons (ps_set (i := 1) sc_show_deed.nd rfl (by first | exact .inl rfl | exact .inr rfl) (pe_lst (pa_cons (pe_ix ix_seq (pv 0) pe_int (fun _ _ => rfl)) pa_nil)))
    (pss_cons (ps_for PassesOwn.never rfl (RZ.pi_zipA (by rfl) T.z_zip (pa_cons (pe_callG (ok_parts_of T) (hr.mono (by decide)) gu (by rfl) T.g_parts_of T.F_parts_of.kp T.b_parts_of (pa_cons (pe_ix ix_seq (pv 0) pe_int (fun _ _ => rfl)) pa_nil)) (pa_cons (pe_slice sl_3 (pv 0) (po_some pe_int) po_none) pa_nil))) (pg_tup rfl (pgs_cons (pg_name (i := 2) sc_show_deed.nd rfl (by first | exact .inl rfl | exact .inr rfl)) (pgs_cons (pg_name (i := 3) sc_show_deed.nd rfl (by first | exact .inl rfl | exact .inr rfl)) pgs_nil))) (pss_one (ps_if (pt_cmpR (op_eqX hr.units) (pv 2) pe_str (nomark _)) (pss_one (ps_expr (pe_bm PySem.F.plainAttrs_list PySem.F.slot_list_append PySem.F.type_list_append mt_append (pv 1) (pa_cons (pe_joined (.cons (pe_fmt (pe_ix ix_seq (pv 3) pe_int (fun _ _ => rfl))) (.cons pe_str (.cons (pe_fmt (pe_ix ix_seq (pv 3) pe_int (fun _ _ => rfl))) .nil)))) pa_nil)))) (pss_one (ps_if (pt_cmpR (op_neX hr.units) (pv 2) pe_str (nomark _)) (pss_one (ps_expr (pe_bm PySem.F.plainAttrs_list PySem.F.slot_list_append PySem.F.type_list_append mt_append (pv 1) (pa_cons (pe_callTy call_str2 (by rfl) T.z_str (by decide +kernel) (pa_cons (pv 3) pa_nil)) pa_nil)))) (pss_one (ps_if (pt_val (pv 3)) (pss_one (ps_expr (pe_bm PySem.F.plainAttrs_list PySem.F.slot_list_append PySem.F.type_list_append mt_append (pv 1) (pa_cons pe_str pa_nil)))) pss_nil)))))))
    (pss_one (ps_ret (pe_join pe_str (pv 1))))))
theorem ok__read_stretch (T : Txt K mg Z f_is_whole f_is_hand f_parts_of f_is_day f_show_deed f_read_deed f_read_number f__read_part f__read_leave f__read_stretch f__law_bag f__law_take f__law_names f__law_number_text f__law_any_stretch f__law_any_deed f__law_number_in f__law_is_kind f__law_place f__law_odd_words f__law_told f__law_due f__law_right f_law fe_NoText d_is_whole d_is_hand d_parts_of d_is_day d_show_deed d_read_deed d_read_number d__read_part d__read_leave d__read_stretch d__law_bag d__law_take d__law_names d__law_number_text d__law_any_stretch d__law_any_deed d__law_number_in d__law_is_kind d__law_place d__law_odd_words d__law_told d__law_due d__law_right d_law de_NoText) : FnG P w K mg base 2 f__read_stretch d__read_stretch ["word"] (sp__read_stretch K Z) := by
  refine okG T.F__read_stretch sc__read_stretch (fun vs H Q E h => spQ.len (E := E) h) (fun cdv A fr s H vs Q gu hr h => ⟨rd__read_stretch K Z, ?_, bodyQ (E := E0) h fun x hp => sem__read_stretch T.lf x hp⟩)
  have gu : (A.deeper (envOfC "_read_stretch" (defScope s__read_stretch) s.heap.objs.size f__read_stretch cdv)).guards = some [] := gu
  exact (pss_cons (ps_asg (pe_partition (pv 0) pe_str) (pg_tup rfl (pgs_cons (pg_name (i := 1) sc__read_stretch.nd rfl (by first | exact .inl rfl | exact .inr rfl)) (pgs_cons (pg_name (i := 2) sc__read_stretch.nd rfl (by first | exact .inl rfl | exact .inr rfl)) (pgs_cons (pg_name (i := 3) sc__read_stretch.nd rfl (by first | exact .inl rfl | exact .inr rfl)) pgs_nil)))))
    (pss_cons (ps_set (i := 4) sc__read_stretch.nd rfl (by first | exact .inl rfl | exact .inr rfl) (pe_callG (ok_read_number T) (hr.mono (by decide)) gu (by rfl) T.g_read_number T.F_read_number.kp T.b_read_number (pa_cons (pv 1) pa_nil)))
    (pss_cons (ps_set (i := 5) sc__read_stretch.nd rfl (by first | exact .inl rfl | exact .inr rfl) (pe_callG (ok_read_number T) (hr.mono (by decide)) gu (by rfl) T.g_read_number T.F_read_number.kp T.b_read_number (pa_cons (pv 3) pa_nil)))
    (pss_cons (ps_if (PW.pt (pw_or (pt_cmpR op_isV (pv 4) pe_non (nomark _)) (pw_or (pt_cmpR op_isV (pv 5) pe_non (nomark _)) (pw_or1 (pt_cmpR (op_eqX hr.units) (pv 5) pe_int (nomark _)))))) (pss_one (ps_ret pe_non)) pss_nil)
    (pss_one (ps_ret (pe_tup (pa_cons (pv 4) (pa_cons (pv 5) pa_nil)))))))))
theorem ok__law_names (T : Txt K mg Z f_is_whole f_is_hand f_parts_of f_is_day f_show_deed f_read_deed f_read_number f__read_part f__read_leave f__read_stretch f__law_bag f__law_take f__law_names f__law_number_text f__law_any_stretch f__law_any_deed f__law_number_in f__law_is_kind f__law_place f__law_odd_words f__law_told f__law_due f__law_right f_law fe_NoText d_is_whole d_is_hand d_parts_of d_is_day d_show_deed d_read_deed d_read_number d__read_part d__read_leave d__read_stretch d__law_bag d__law_take d__law_names d__law_number_text d__law_any_stretch d__law_any_deed d__law_number_in d__law_is_kind d__law_place d__law_odd_words d__law_told d__law_due d__law_right d_law de_NoText) : FnG P w K mg base 2 f__law_names d__law_names ["bag", "size"] (sp__law_names K Z) := by
  refine okG T.F__law_names sc__law_names (fun vs H Q E h => spQ.len (E := E) h) (fun cdv A fr s H vs Q gu hr h => ⟨rd__law_names K Z, ?_, bodyQ (E := E0) h fun x hp => sem__law_names T.lf x hp⟩)
  have gu : (A.deeper (envOfC "_law_names" (defScope s__law_names) s.heap.objs.size f__law_names cdv)).guards = some [] := gu
  exact (pss_cons (ps_set (i := 2) sc__law_names.nd rfl (by first | exact .inl rfl | exact .inr rfl) pe_str)
    (pss_cons (ps_set (i := 3) sc__law_names.nd rfl (by first | exact .inl rfl | exact .inr rfl) (pe_join pe_str (pe_lc (own := [("k", 8)]) (g := (gName 8)) (tt := tYes) (te := (tOp (rIx K) (tVar 2) (tCall (sp__law_take K) [] E0 (tCons (tVar 0) (tCons (tC (.int 26)) tNil))))) rfl sc__law_names.nd (pi_range1 (by rfl) T.z_range (pa_cons (pe_ix ix_seq (pe_lst (pa_cons pe_int (pa_cons pe_int (pa_cons pe_int (pa_cons pe_int (pa_cons pe_int pa_nil)))))) (pe_callG (ok__law_take T) (hr.mono (by decide)) gu (by rfl) T.g__law_take T.F__law_take.kp T.b__law_take (pa_cons (pv 0) (pa_cons pe_int pa_nil))) (fun _ _ => rfl)) pa_nil)) (blkOk_by (N := ["bag", "size", "signs", "stem", "spot", "first", "pace", "some", "k", "sign"]) (sc := defScope s__law_names) (by decide +kernel)) (fun _ _ _ _ _ => (pg_name (i := 8) sc__law_names.nd rfl (by first | exact .inl rfl | exact .inr rfl))) (fun _ _ _ _ _ => pts_nil) (fun _ _ _ _ _ => (pe_ix ix_seq (pv 2) (pe_callG (ok__law_take T) (hr.mono (by decide)) gu (by rfl) T.g__law_take T.F__law_take.kp T.b__law_take (pa_cons (pv 0) (pa_cons pe_int pa_nil))) (fun _ _ => rfl))))))
    (pss_cons (ps_asg (pe_tup (pa_cons (pe_callG (ok__law_take T) (hr.mono (by decide)) gu (by rfl) T.g__law_take T.F__law_take.kp T.b__law_take (pa_cons (pv 0) (pa_cons (pe_op op_plus (pe_callB call_lenX (by rfl) T.z_len (by decide +kernel) (pa_cons (pv 3) pa_nil)) pe_int) pa_nil))) (pa_cons (pe_callG (ok__law_take T) (hr.mono (by decide)) gu (by rfl) T.g__law_take T.F__law_take.kp T.b__law_take (pa_cons (pv 0) (pa_cons pe_int pa_nil))) (pa_cons (pe_ix ix_seq (pe_lst (pa_cons pe_int (pa_cons pe_int (pa_cons pe_int (pa_cons pe_int pa_nil))))) (pe_callG (ok__law_take T) (hr.mono (by decide)) gu (by rfl) T.g__law_take T.F__law_take.kp T.b__law_take (pa_cons (pv 0) (pa_cons pe_int pa_nil))) (fun _ _ => rfl)) pa_nil)))) (pg_tup rfl (pgs_cons (pg_name (i := 4) sc__law_names.nd rfl (by first | exact .inl rfl | exact .inr rfl)) (pgs_cons (pg_name (i := 5) sc__law_names.nd rfl (by first | exact .inl rfl | exact .inr rfl)) (pgs_cons (pg_name (i := 6) sc__law_names.nd rfl (by first | exact .inl rfl | exact .inr rfl)) pgs_nil)))))
    (pss_cons (ps_setLc (i := 7) (own := [("k", 8)]) (g := (gName 8)) (tt := tYes) (te := (tOp (rIx K) (tVar 2) (tOp rMod (tOp (rPlus K) (tVar 5) (tOp rMul (tVar 6) (tVar 8))) (tC (.int 26))))) rfl sc__law_names.nd rfl rfl (sw_true rfl rfl rfl (by decide +kernel)) (pi_range1 (by rfl) T.z_range (pa_cons (pv 1) pa_nil)) (blkOk_by (N := ["bag", "size", "signs", "stem", "spot", "first", "pace", "some", "k", "sign"]) (sc := defScope s__law_names) (by decide +kernel)) (fun _ _ _ _ _ => (pg_name (i := 8) sc__law_names.nd rfl (by first | exact .inl rfl | exact .inr rfl))) (fun _ _ _ _ _ => pts_nil) (fun _ _ _ _ _ => (pe_ix ix_seq (pv 2) (pe_op op_modX (pe_op op_plus (pv 5) (pe_op op_mulX' (pv 6) (pv 8))) pe_int) (fun _ _ => rfl))))
    (pss_one (ps_ret (pe_lc (own := [("sign", 9)]) (g := (gName 9)) (tt := tYes) (te := (tOp (rPlus K) (tOp (rPlus K) (tSl (rSl3 K) (tVar 3) tNoPart (tPart (tVar 4))) (tVar 9)) (tSl (rSl3 K) (tVar 3) (tPart (tVar 4)) tNoPart))) rfl sc__law_names.nd (pi_list (pv 7)) (blkOk_by (N := ["bag", "size", "signs", "stem", "spot", "first", "pace", "some", "k", "sign"]) (sc := defScope s__law_names) (by decide +kernel)) (fun _ _ _ _ _ => (pg_name (i := 9) sc__law_names.nd rfl (by first | exact .inl rfl | exact .inr rfl))) (fun _ _ _ _ _ => pts_nil) (fun _ _ _ _ _ => (pe_op op_plus (pe_op op_plus (pe_slice sl_3 (pv 3) po_none (po_some (pv 4))) (pv 9)) (pe_slice sl_3 (pv 3) (po_some (pv 4)) po_none))))))))))
theorem ok__law_number_text (T : Txt K mg Z f_is_whole f_is_hand f_parts_of f_is_day f_show_deed f_read_deed f_read_number f__read_part f__read_leave f__read_stretch f__law_bag f__law_take f__law_names f__law_number_text f__law_any_stretch f__law_any_deed f__law_number_in f__law_is_kind f__law_place f__law_odd_words f__law_told f__law_due f__law_right f_law fe_NoText d_is_whole d_is_hand d_parts_of d_is_day d_show_deed d_read_deed d_read_number d__read_part d__read_leave d__read_stretch d__law_bag d__law_take d__law_names d__law_number_text d__law_any_stretch d__law_any_deed d__law_number_in d__law_is_kind d__law_place d__law_odd_words d__law_told d__law_due d__law_right d_law de_NoText) : FnG P w K mg base 2 f__law_number_text d__law_number_text ["bag", "most"] (sp__law_number_text K Z) := by
  refine okG T.F__law_number_text sc__law_number_text (fun vs H Q E h => spQ.len (E := E) h) (fun cdv A fr s H vs Q gu hr h => ⟨rd__law_number_text K Z, ?_, bodyQ (E := E0) h fun x hp => sem__law_number_text T.lf x hp⟩)
  have gu : (A.deeper (envOfC "_law_number_text" (defScope s__law_number_text) s.heap.objs.size f__law_number_text cdv)).guards = some [] := gu
  exact (pss_cons (ps_set (i := 2) sc__law_number_text.nd rfl (by first | exact .inl rfl | exact .inr rfl) (pe_op op_subX (pv 1) (pe_callG (ok__law_take T) (hr.mono (by decide)) gu (by rfl) T.g__law_take T.F__law_take.kp T.b__law_take (pa_cons (pv 0) (pa_cons (pe_op op_plus (pe_callB (call_minX rfl) (by rfl) T.z_min (by decide +kernel) (pa_cons (pv 1) (pa_cons pe_int pa_nil))) pe_int) pa_nil)))))
    (pss_one (ps_ret (pe_ix ix_seq (pe_lst (pa_cons (pe_callG (ok__law_take T) (hr.mono (by decide)) gu (by rfl) T.g__law_take T.F__law_take.kp T.b__law_take (pa_cons (pv 0) (pa_cons (pe_op op_plus (pv 1) pe_int) pa_nil))) (pa_cons (pv 2) (pa_cons (pe_callG (ok__law_take T) (hr.mono (by decide)) gu (by rfl) T.g__law_take T.F__law_take.kp T.b__law_take (pa_cons (pv 0) (pa_cons (pe_op op_plus (pe_callB (call_minX rfl) (by rfl) T.z_min (by decide +kernel) (pa_cons (pv 1) (pa_cons pe_int pa_nil))) pe_int) pa_nil))) pa_nil)))) (pe_callG (ok__law_take T) (hr.mono (by decide)) gu (by rfl) T.g__law_take T.F__law_take.kp T.b__law_take (pa_cons (pv 0) (pa_cons pe_int pa_nil))) (fun _ _ => rfl)))))
theorem ok__law_is_kind (T : Txt K mg Z f_is_whole f_is_hand f_parts_of f_is_day f_show_deed f_read_deed f_read_number f__read_part f__read_leave f__read_stretch f__law_bag f__law_take f__law_names f__law_number_text f__law_any_stretch f__law_any_deed f__law_number_in f__law_is_kind f__law_place f__law_odd_words f__law_told f__law_due f__law_right f_law fe_NoText d_is_whole d_is_hand d_parts_of d_is_day d_show_deed d_read_deed d_read_number d__read_part d__read_leave d__read_stretch d__law_bag d__law_take d__law_names d__law_number_text d__law_any_stretch d__law_any_deed d__law_number_in d__law_is_kind d__law_place d__law_odd_words d__law_told d__law_due d__law_right d_law de_NoText) : FnG P w K mg base 2 f__law_is_kind d__law_is_kind ["word", "kind", "found"] (sp__law_is_kind K Z) := by
  refine okG T.F__law_is_kind sc__law_is_kind (fun vs H Q E h => spQ.len (E := E) h) (fun cdv A fr s H vs Q gu hr h => ⟨rd__law_is_kind K Z, ?_, bodyQ (E := E0) h fun x hp => sem__law_is_kind T.lf x hp⟩)
  have gu : (A.deeper (envOfC "_law_is_kind" (defScope s__law_is_kind) s.heap.objs.size f__law_is_kind cdv)).guards = some [] := gu
  exact (pss_cons (ps_if (pt_cmpR (op_eqX hr.units) (pv 1) pe_str (nomark _)) (pss_one (ps_ret (pe_and (pe_chain op_leX op_leX pe_int (pe_callB call_lenX (by rfl) T.z_len (by decide +kernel) (pa_cons (pv 0) pa_nil)) pe_int) (pe_one (pe_callB (cr_all rfl) (by rfl) T.z_all (by decide +kernel) (pa_cons (pe_lc (own := [("sign", 7)]) (g := (gName 7)) (tt := tYes) (te := (tOp rInSg (tVar 7) (tC (.str "abcdefghijklmnopqrstuvwxyz")))) rfl sc__law_is_kind.nd (pi_str (pv 0)) (blkOk_by (N := ["word", "kind", "found", "first", "plus", "many", "number", "sign"]) (sc := defScope s__law_is_kind) (by decide +kernel)) (fun _ _ _ _ _ => (pg_name (i := 7) sc__law_is_kind.nd rfl (by first | exact .inl rfl | exact .inr rfl))) (fun _ _ _ _ _ => pts_nil) (fun _ _ _ _ _ => (pe_cmpR op_inSg (pv 7) pe_str (by rfl)))) pa_nil)))))) pss_nil)
    (pss_cons (ps_if (pt_cmpR (op_eqX hr.units) (pv 1) pe_str (nomark _)) (pss_cons (ps_asg (pe_partition (pv 0) pe_str) (pg_tup rfl (pgs_cons (pg_name (i := 3) sc__law_is_kind.nd rfl (by first | exact .inl rfl | exact .inr rfl)) (pgs_cons (pg_name (i := 4) sc__law_is_kind.nd rfl (by first | exact .inl rfl | exact .inr rfl)) (pgs_cons (pg_name (i := 5) sc__law_is_kind.nd rfl (by first | exact .inl rfl | exact .inr rfl)) pgs_nil)))))
    (pss_one (ps_ret (pe_and (pe_cmpR (op_eqX hr.units) (pv 4) pe_str (nomark _)) (pe_and (pe_cmpR op_isnotV (pe_callG (ok__law_number_in T) (hr.mono (by decide)) gu (by rfl) T.g__law_number_in T.F__law_number_in.kp T.b__law_number_in (pa_cons (pv 3) pa_nil)) pe_non (nomark _)) (pe_one (pe_cmpR op_gtX (pe_orT (pe_callG (ok__law_number_in T) (hr.mono (by decide)) gu (by rfl) T.g__law_number_in T.F__law_number_in.kp T.b__law_number_in (pa_cons (pv 5) pa_nil)) (pe_one pe_int)) pe_int (nomark _)))))))) pss_nil)
    (pss_cons (ps_set (i := 6) sc__law_is_kind.nd rfl (by first | exact .inl rfl | exact .inr rfl) (pe_callG (ok__law_number_in T) (hr.mono (by decide)) gu (by rfl) T.g__law_number_in T.F__law_number_in.kp T.b__law_number_in (pa_cons (pv 0) pa_nil)))
    (pss_cons (ps_if (PW.pt (pw_or (pt_cmpR op_isV (pv 6) pe_non (nomark _)) (pw_or1 (pt_cmpR op_gtX (pv 6) (pe_op op_powX pe_int pe_int) (nomark _))))) (pss_one (ps_ret pe_bl)) pss_nil)
    (pss_one (ps_ret (pe_or (pe_cmpR (op_eqX hr.units) (pv 1) pe_str (nomark _)) (pe_one (pe_cmpR op_geX (pv 6) (pe_callTy call_intS (by rfl) T.z_int (by decide +kernel) (pa_cons (pe_ix ix_seq (pv 2) (pe_un un_negX pe_int) (fun _ _ => rfl)) pa_nil)) (nomark _))))))))))
theorem ok__law_odd_words (T : Txt K mg Z f_is_whole f_is_hand f_parts_of f_is_day f_show_deed f_read_deed f_read_number f__read_part f__read_leave f__read_stretch f__law_bag f__law_take f__law_names f__law_number_text f__law_any_stretch f__law_any_deed f__law_number_in f__law_is_kind f__law_place f__law_odd_words f__law_told f__law_due f__law_right f_law fe_NoText d_is_whole d_is_hand d_parts_of d_is_day d_show_deed d_read_deed d_read_number d__read_part d__read_leave d__read_stretch d__law_bag d__law_take d__law_names d__law_number_text d__law_any_stretch d__law_any_deed d__law_number_in d__law_is_kind d__law_place d__law_odd_words d__law_told d__law_due d__law_right d_law de_NoText) : FnG P w K mg base 2 f__law_odd_words d__law_odd_words ["bag", "words"] (sp__law_odd_words K Z) := by
  refine okG T.F__law_odd_words sc__law_odd_words (fun vs H Q E h => spQ.len (E := E) h) (fun cdv A fr s H vs Q gu hr h => ⟨rd__law_odd_words K Z, ?_, bodyQ (E := E0) h fun x hp => sem__law_odd_words T.lf x hp⟩)
  have gu : (A.deeper (envOfC "_law_odd_words" (defScope s__law_odd_words) s.heap.objs.size f__law_odd_words cdv)).guards = some [] := gu
  exact (pss_cons (ps_par (i := 2) (j := 3) rfl sc__law_odd_words.nd rfl rfl (by decide) rfl rfl (pa_cons (pe_callG (ok__law_take T) (hr.mono (by decide)) gu (by rfl) T.g__law_take T.F__law_take.kp T.b__law_take (pa_cons (pv 0) (pa_cons (pe_callB call_lenX (by rfl) T.z_len (by decide +kernel) (pa_cons (pv 1) pa_nil)) pa_nil))) (pa_cons (pe_callG (ok__law_take T) (hr.mono (by decide)) gu (by rfl) T.g__law_take T.F__law_take.kp T.b__law_take (pa_cons (pv 0) (pa_cons pe_int pa_nil))) pa_nil)) rfl)
    (pss_cons (ps_set (i := 4) sc__law_odd_words.nd rfl (by first | exact .inl rfl | exact .inr rfl) (pe_lst (pa_cons pe_str (pa_cons pe_str (pa_cons pe_str (pa_cons pe_str (pa_cons pe_str (pa_cons pe_str (pa_cons pe_str (pa_cons pe_str (pa_cons pe_str (pa_cons pe_str (pa_cons pe_str (pa_cons pe_str (pa_cons pe_str (pa_cons pe_str (pa_cons pe_str (pa_cons pe_str pa_nil))))))))))))))))))
    (pss_cons (ps_expr (pe_bm PySem.F.plainAttrs_list PySem.F.slot_list_extend PySem.F.type_list_extend mt_extend (pv 4) (pa_cons (pe_lst (pa_cons pe_str (pa_cons pe_str (pa_cons pe_str (pa_cons pe_str (pa_cons pe_str (pa_cons (pe_callTy call_str2 (by rfl) T.z_str (by decide +kernel) (pa_cons (pe_op op_powX pe_int pe_int) pa_nil)) (pa_cons (pe_callTy call_str2 (by rfl) T.z_str (by decide +kernel) (pa_cons (pe_op op_plus (pe_op op_powX pe_int pe_int) pe_int) pa_nil)) (pa_cons (pe_callTy call_str2 (by rfl) T.z_str (by decide +kernel) (pa_cons (pe_op op_subX (pe_op op_powX pe_int pe_int) pe_int) pa_nil)) pa_nil))))))))) pa_nil)))
    (pss_cons (ps_expr (pe_bm PySem.F.plainAttrs_list PySem.F.slot_list_extend PySem.F.type_list_extend mt_extend (pv 4) (pa_cons (pe_lst (pa_cons (pe_callTy call_str2 (by rfl) T.z_str (by decide +kernel) (pa_cons (pe_op op_powX pe_int pe_int) pa_nil)) (pa_cons (pe_op op_plus (pe_ix ix_seq (pv 1) (pv 2) (fun _ _ => rfl)) pe_str) (pa_cons (pe_op op_plus pe_str (pe_ix ix_seq (pv 1) (pv 2) (fun _ _ => rfl))) (pa_cons (pe_upper (pe_ix ix_seq (pv 1) (pv 2) (fun _ _ => rfl))) (pa_cons (pe_slice sl_3 (pe_ix ix_seq (pv 1) (pv 2) (fun _ _ => rfl)) (po_some pe_int) po_none) (pa_cons (pe_op op_repS (pe_ix ix_seq (pv 1) (pv 2) (fun _ _ => rfl)) pe_int) pa_nil))))))) pa_nil)))
    (pss_cons (ps_set (i := 5) sc__law_odd_words.nd rfl (by first | exact .inl rfl | exact .inr rfl) (pe_ix ix_seq (pv 4) (pe_callG (ok__law_take T) (hr.mono (by decide)) gu (by rfl) T.g__law_take T.F__law_take.kp T.b__law_take (pa_cons (pv 0) (pa_cons (pe_callB call_lenX (by rfl) T.z_len (by decide +kernel) (pa_cons (pv 4) pa_nil)) pa_nil))) (fun _ _ => rfl)))
    (pss_cons (ps_if (pt_cmpR op_ltX (pv 3) pe_int (nomark _)) (pss_one (ps_ret (pe_op op_plus (pe_op op_plus (pe_slice sl_3 (pv 1) po_none (po_some (pv 2))) (pe_lst (pa_cons (pv 5) pa_nil))) (pe_slice sl_3 (pv 1) (po_some (pe_op op_plus (pv 2) pe_int)) po_none)))) pss_nil)
    (pss_cons (ps_if (pt_cmpR (op_eqX hr.units) (pv 3) pe_int (nomark _)) (pss_one (ps_ret (pe_op op_plus (pe_slice sl_3 (pv 1) po_none (po_some (pv 2))) (pe_slice sl_3 (pv 1) (po_some (pe_op op_plus (pv 2) pe_int)) po_none)))) pss_nil)
    (pss_cons (ps_if (pt_cmpR (op_eqX hr.units) (pv 3) pe_int (nomark _)) (pss_one (ps_ret (pe_op op_plus (pe_op op_plus (pe_slice sl_3 (pv 1) po_none (po_some (pv 2))) (pe_lst (pa_cons (pv 5) pa_nil))) (pe_slice sl_3 (pv 1) (po_some (pv 2)) po_none)))) pss_nil)
    (pss_one (ps_ret (pe_ix ix_seq (pe_lst (pa_cons (pe_slice sl_3 (pv 1) po_none (po_some (pv 2))) (pa_cons (pe_op op_plus (pv 1) (pe_lst (pa_cons (pv 5) pa_nil))) pa_nil))) (pe_callG (ok__law_take T) (hr.mono (by decide)) gu (by rfl) T.g__law_take T.F__law_take.kp T.b__law_take (pa_cons (pv 0) (pa_cons pe_int pa_nil))) (fun _ _ => rfl))))))))))))
theorem ok__read_part (T : Txt K mg Z f_is_whole f_is_hand f_parts_of f_is_day f_show_deed f_read_deed f_read_number f__read_part f__read_leave f__read_stretch f__law_bag f__law_take f__law_names f__law_number_text f__law_any_stretch f__law_any_deed f__law_number_in f__law_is_kind f__law_place f__law_odd_words f__law_told f__law_due f__law_right f_law fe_NoText d_is_whole d_is_hand d_parts_of d_is_day d_show_deed d_read_deed d_read_number d__read_part d__read_leave d__read_stretch d__law_bag d__law_take d__law_names d__law_number_text d__law_any_stretch d__law_any_deed d__law_number_in d__law_is_kind d__law_place d__law_odd_words d__law_told d__law_due d__law_right d_law de_NoText) : FnG P w K mg base 3 f__read_part d__read_part ["part", "words", "deed"] (sp__read_part K Z) := by
  refine okG T.F__read_part sc__read_part (fun vs H Q E h => spQ.len (E := E) h) (fun cdv A fr s H vs Q gu hr h => ⟨rd__read_part K Z, ?_, bodyQ (E := E0) h fun x hp => sem__read_part T.lf x hp⟩)
  have gu : (A.deeper (envOfC "_read_part" (defScope s__read_part) s.heap.objs.size f__read_part cdv)).guards = some [] := gu
  exact (pss_cons (ps_set (i := 3) sc__read_part.nd rfl (by first | exact .inl rfl | exact .inr rfl) (pe_ifExp (pt_cmpR op_ltX (pe_callB call_lenX (by rfl) T.z_len (by decide +kernel) (pa_cons (pv 2) pa_nil)) (pe_callB call_lenX (by rfl) T.z_len (by decide +kernel) (pa_cons (pv 1) pa_nil)) (nomark _)) (pe_ix ix_seq (pv 1) (pe_callB call_lenX (by rfl) T.z_len (by decide +kernel) (pa_cons (pv 2) pa_nil)) (fun _ _ => rfl)) pe_non))
    (pss_cons (ps_if (pt_cmpR (op_eqX hr.units) (pv 0) pe_str (nomark _)) (pss_one (ps_ret (pe_callG (ok__read_leave T) (hr.mono (by decide)) gu (by rfl) T.g__read_leave T.F__read_leave.kp T.b__read_leave (pa_cons (pv 3) pa_nil)))) pss_nil)
    (pss_cons (ps_if (pt_cmpR op_isV (pv 3) pe_non (nomark _)) (pss_one (ps_ret pe_non)) pss_nil)
    (pss_cons (ps_if (pt_cmpR (op_eqX hr.units) (pv 0) pe_str (nomark _)) (pss_one (ps_ret (pe_ifExp (pt_val (pe_callG (ok_is_hand T) (hr.mono (by decide)) gu (by rfl) T.g_is_hand T.F_is_hand.kp T.b_is_hand (pa_cons (pv 3) pa_nil))) (pv 3) pe_non))) pss_nil)
    (pss_cons (ps_if (pt_cmpR (op_eqX hr.units) (pv 0) pe_str (nomark _)) (pss_one (ps_ret (pe_callG (ok__read_stretch T) (hr.mono (by decide)) gu (by rfl) T.g__read_stretch T.F__read_stretch.kp T.b__read_stretch (pa_cons (pv 3) pa_nil)))) pss_nil)
    (pss_cons (ps_set (i := 4) sc__read_part.nd rfl (by first | exact .inl rfl | exact .inr rfl) (pe_callG (ok_read_number T) (hr.mono (by decide)) gu (by rfl) T.g_read_number T.F_read_number.kp T.b_read_number (pa_cons (pv 3) pa_nil)))
    (pss_cons (ps_if (PW.pt (pw_or (pt_not (pt_val (pe_callG (ok_is_day T) (hr.mono (by decide)) gu (by rfl) T.g_is_day T.F_is_day.kp T.b_is_day (pa_cons (pv 4) pa_nil)))) (pw_or1 (PW.pt (pw_and (pt_cmpR (op_eqX hr.units) (pv 0) pe_str (nomark _)) (pw_and1 (pt_cmpR op_ltX (pv 4) (pe_ix ix_seq (pv 2) (pe_un un_negX pe_int) (fun _ _ => rfl)) (nomark _)))))))) (pss_one (ps_ret pe_non)) pss_nil)
    (pss_one (ps_ret (pv 4))))))))))
theorem ok__law_any_stretch (T : Txt K mg Z f_is_whole f_is_hand f_parts_of f_is_day f_show_deed f_read_deed f_read_number f__read_part f__read_leave f__read_stretch f__law_bag f__law_take f__law_names f__law_number_text f__law_any_stretch f__law_any_deed f__law_number_in f__law_is_kind f__law_place f__law_odd_words f__law_told f__law_due f__law_right f_law fe_NoText d_is_whole d_is_hand d_parts_of d_is_day d_show_deed d_read_deed d_read_number d__read_part d__read_leave d__read_stretch d__law_bag d__law_take d__law_names d__law_number_text d__law_any_stretch d__law_any_deed d__law_number_in d__law_is_kind d__law_place d__law_odd_words d__law_told d__law_due d__law_right d_law de_NoText) : FnG P w K mg base 3 f__law_any_stretch d__law_any_stretch ["bag"] (sp__law_any_stretch K Z) := by
  refine okG T.F__law_any_stretch sc__law_any_stretch (fun vs H Q E h => spQ.len (E := E) h) (fun cdv A fr s H vs Q gu hr h => ⟨rd__law_any_stretch K Z, ?_, bodyQ (E := E0) h fun x hp => sem__law_any_stretch T.lf x hp⟩)
  have gu : (A.deeper (envOfC "_law_any_stretch" (defScope s__law_any_stretch) s.heap.objs.size f__law_any_stretch cdv)).guards = some [] := gu
  exact (pss_one (ps_ret (pe_tup (pa_cons (pe_callG (ok__law_number_text T) (hr.mono (by decide)) gu (by rfl) T.g__law_number_text T.F__law_number_text.kp T.b__law_number_text (pa_cons (pv 0) (pa_cons (pe_op op_powX pe_int pe_int) pa_nil))) (pa_cons (pe_op op_plus pe_int (pe_callG (ok__law_number_text T) (hr.mono (by decide)) gu (by rfl) T.g__law_number_text T.F__law_number_text.kp T.b__law_number_text (pa_cons (pv 0) (pa_cons (pe_op op_powX pe_int pe_int) pa_nil)))) pa_nil)))))
theorem ok__law_place (T : Txt K mg Z f_is_whole f_is_hand f_parts_of f_is_day f_show_deed f_read_deed f_read_number f__read_part f__read_leave f__read_stretch f__law_bag f__law_take f__law_names f__law_number_text f__law_any_stretch f__law_any_deed f__law_number_in f__law_is_kind f__law_place f__law_odd_words f__law_told f__law_due f__law_right f_law fe_NoText d_is_whole d_is_hand d_parts_of d_is_day d_show_deed d_read_deed d_read_number d__read_part d__read_leave d__read_stretch d__law_bag d__law_take d__law_names d__law_number_text d__law_any_stretch d__law_any_deed d__law_number_in d__law_is_kind d__law_place d__law_odd_words d__law_told d__law_due d__law_right d_law de_NoText) : FnG P w K mg base 3 f__law_place d__law_place ["words", "begin"] (sp__law_place K Z) := by
  refine okG T.F__law_place sc__law_place (fun vs H Q E h => spQ.len (E := E) h) (fun cdv A fr s H vs Q gu hr h => ⟨rd__law_place K Z, ?_, bodyQ (E := E0) h fun x hp => sem__law_place T.lf x hp⟩)
  have gu : (A.deeper (envOfC "_law_place" (defScope s__law_place) s.heap.objs.size f__law_place cdv)).guards = some [] := gu
  exact (pss_cons (ps_set (i := 2) sc__law_place.nd rfl (by first | exact .inl rfl | exact .inr rfl) (pe_disp (pps_cons pe_str pe_str (pps_cons pe_str pe_str (pps_cons pe_str pe_str (pps_cons pe_str pe_str pps_nil)))) rfl rfl (by simp) (by decide)))
    (pss_cons (ps_if (PW.pt (pw_or (pt_cmpR op_leX (pe_callB call_lenX (by rfl) T.z_len (by decide +kernel) (pa_cons (pv 0) pa_nil)) (pv 1) (nomark _)) (pw_or1 (pt_cmpR (op_notInDic (room1 hr)) (pe_ix ix_seq (pv 0) (pv 1) (fun _ _ => rfl)) (pv 2) (by rfl))))) (pss_one (ps_ret (pv 1))) pss_nil)
    (pss_cons (ps_par (i := 3) (j := 4) rfl sc__law_place.nd rfl rfl (by decide) rfl rfl (pa_cons (pe_op op_plus (pv 1) pe_int) (pa_cons (pe_lst pa_nil) pa_nil)) rfl)
    (pss_cons (ps_for PassesOwn.never rfl (pi_str (pe_dget (room1 hr) (pv 2) (pe_ix ix_seq (pv 0) (pv 1) (fun _ _ => rfl)) (fun _ _ => rfl))) (pg_name (i := 5) sc__law_place.nd rfl (by first | exact .inl rfl | exact .inr rfl)) (pss_cons (ps_if (PW.pt (pw_or (pt_cmpR (op_eqX hr.units) (pv 3) (pe_callB call_lenX (by rfl) T.z_len (by decide +kernel) (pa_cons (pv 0) pa_nil)) (nomark _)) (pw_or1 (pt_not (pt_val (pe_callG (ok__law_is_kind T) (hr.mono (by decide)) gu (by rfl) T.g__law_is_kind T.F__law_is_kind.kp T.b__law_is_kind (pa_cons (pe_ix ix_seq (pv 0) (pv 3) (fun _ _ => rfl)) (pa_cons (pv 5) (pa_cons (pv 4) pa_nil))))))))) (pss_one (ps_ret (pv 3))) pss_nil)
    (pss_cons (ps_expr (pe_bm PySem.F.plainAttrs_list PySem.F.slot_list_append PySem.F.type_list_append mt_append (pv 4) (pa_cons (pe_ix ix_seq (pv 0) (pv 3) (fun _ _ => rfl)) pa_nil)))
    (pss_one (ps_aug (i := 3) sc__law_place.nd rfl (by first | exact .inl rfl | exact .inr rfl) pe_int ip_add)))))
    (pss_cons (ps_if (PW.pt (pw_and (pt_cmpR (op_eqX hr.units) (pe_ix ix_seq (pv 0) (pv 1) (fun _ _ => rfl)) pe_str (nomark _)) (pw_and1 (pt_cmpR (op_eqX hr.units) (pe_slice sl_3 (pv 0) (po_some (pv 3)) (po_some (pe_op op_plus (pv 3) pe_int))) (pe_lst (pa_cons pe_str pa_nil)) (nomark _))))) (pss_one (ps_aug (i := 3) sc__law_place.nd rfl (by first | exact .inl rfl | exact .inr rfl) pe_int ip_add)) pss_nil)
    (pss_one (ps_ret (pe_ifExp (pt_cmpR (op_eqX hr.units) (pv 3) (pe_callB call_lenX (by rfl) T.z_len (by decide +kernel) (pa_cons (pv 0) pa_nil)) (nomark _)) pe_non (pv 3)))))))))
theorem ok_read_deed (T : Txt K mg Z f_is_whole f_is_hand f_parts_of f_is_day f_show_deed f_read_deed f_read_number f__read_part f__read_leave f__read_stretch f__law_bag f__law_take f__law_names f__law_number_text f__law_any_stretch f__law_any_deed f__law_number_in f__law_is_kind f__law_place f__law_odd_words f__law_told f__law_due f__law_right f_law fe_NoText d_is_whole d_is_hand d_parts_of d_is_day d_show_deed d_read_deed d_read_number d__read_part d__read_leave d__read_stretch d__law_bag d__law_take d__law_names d__law_number_text d__law_any_stretch d__law_any_deed d__law_number_in d__law_is_kind d__law_place d__law_odd_words d__law_told d__law_due d__law_right d_law de_NoText) : FnX P w K mg base 4 f_read_deed d_read_deed ["text"] (sp_read_deed K Z) := by
  refine okX T.F_read_deed sc_read_deed (fun vs H Q E h => spX.len h) (fun cdv A fr s H vs Q E gu hr h => ⟨rd_read_deed K Z E, ?_, bodyX h fun x hp => sem_read_deed T.lf E x hp⟩)
  have gu : (A.deeper (envOfC "read_deed" (defScope s_read_deed) s.heap.objs.size f_read_deed cdv)).guards = some [] := gu
  exact (pss_cons (ps_if (pt_not (pt_val (pe_callB call_isi (by rfl) T.z_isinstance (by decide +kernel) (pa_cons (pv 0) (pa_cons (pe_bltn (by rfl) T.z_str (by decide +kernel) rfl) pa_nil))))) (pss_one (ps_raiseE rfl T.er_NoText (oke_NoText T) (hr.mono (by decide)) T.be_NoText (takes_of rfl rfl rfl rfl) (pa_cons pe_int pa_nil) (by rfl))) pss_nil)
    (pss_cons (ps_set (i := 1) sc_read_deed.nd rfl (by first | exact .inl rfl | exact .inr rfl) (pe_split (pv 0) pe_str))
    (pss_cons (ps_set (i := 2) sc_read_deed.nd rfl (by first | exact .inl rfl | exact .inr rfl) (pe_callG (ok_parts_of T) (hr.mono (by decide)) gu (by rfl) T.g_parts_of T.F_parts_of.kp T.b_parts_of (pa_cons (pe_ix ix_seq (pv 1) pe_int (fun _ _ => rfl)) pa_nil)))
    (pss_cons (ps_if (pt_not (pt_truth (pv 2) (fun _ => rfl))) (pss_one (ps_raiseE rfl T.er_NoText (oke_NoText T) (hr.mono (by decide)) T.be_NoText (takes_of rfl rfl rfl rfl) (pa_cons pe_int pa_nil) (by rfl))) pss_nil)
    (pss_cons (ps_set (i := 3) sc_read_deed.nd rfl (by first | exact .inl rfl | exact .inr rfl) (pe_lst (pa_cons (pe_ix ix_seq (pv 1) pe_int (fun _ _ => rfl)) pa_nil)))
    (pss_cons (ps_for (passes_of rfl) rfl (pi_tup (pv 2)) (pg_name (i := 4) sc_read_deed.nd rfl (by first | exact .inl rfl | exact .inr rfl)) (pss_cons (ps_set (i := 5) sc_read_deed.nd rfl (by first | exact .inl rfl | exact .inr rfl) (pe_callG (ok__read_part T) (hr.mono (by decide)) gu (by rfl) T.g__read_part T.F__read_part.kp T.b__read_part (pa_cons (pv 4) (pa_cons (pv 1) (pa_cons (pv 3) pa_nil)))))
    (pss_cons (ps_if (pt_cmpR op_isV (pv 5) pe_non (nomark _)) (pss_one (ps_raiseE rfl T.er_NoText (oke_NoText T) (hr.mono (by decide)) T.be_NoText (takes_of rfl rfl rfl rfl) (pa_cons (pe_callB call_lenX (by rfl) T.z_len (by decide +kernel) (pa_cons (pv 3) pa_nil)) pa_nil) (by rfl))) pss_nil)
    (pss_one (ps_expr (pe_bm PySem.F.plainAttrs_list PySem.F.slot_list_append PySem.F.type_list_append mt_append (pv 3) (pa_cons (pv 5) pa_nil)))))))
    (pss_cons (ps_if (pt_cmpR op_gtX (pe_callB call_lenX (by rfl) T.z_len (by decide +kernel) (pa_cons (pv 1) pa_nil)) (pe_callB call_lenX (by rfl) T.z_len (by decide +kernel) (pa_cons (pv 3) pa_nil)) (nomark _)) (pss_one (ps_raiseE rfl T.er_NoText (oke_NoText T) (hr.mono (by decide)) T.be_NoText (takes_of rfl rfl rfl rfl) (pa_cons (pe_callB call_lenX (by rfl) T.z_len (by decide +kernel) (pa_cons (pv 3) pa_nil)) pa_nil) (by rfl))) pss_nil)
    (pss_one (ps_ret (pe_callTy call_tupleX (by rfl) T.z_tuple (by decide +kernel) (pa_cons (pv 3) pa_nil)))))))))))
theorem ok__law_any_deed (T : Txt K mg Z f_is_whole f_is_hand f_parts_of f_is_day f_show_deed f_read_deed f_read_number f__read_part f__read_leave f__read_stretch f__law_bag f__law_take f__law_names f__law_number_text f__law_any_stretch f__law_any_deed f__law_number_in f__law_is_kind f__law_place f__law_odd_words f__law_told f__law_due f__law_right f_law fe_NoText d_is_whole d_is_hand d_parts_of d_is_day d_show_deed d_read_deed d_read_number d__read_part d__read_leave d__read_stretch d__law_bag d__law_take d__law_names d__law_number_text d__law_any_stretch d__law_any_deed d__law_number_in d__law_is_kind d__law_place d__law_odd_words d__law_told d__law_due d__law_right d_law de_NoText) : FnG P w K mg base 4 f__law_any_deed d__law_any_deed ["bag"] (sp__law_any_deed K Z) := by
  refine okG T.F__law_any_deed sc__law_any_deed (fun vs H Q E h => spQ.len (E := E) h) (fun cdv A fr s H vs Q gu hr h => ⟨rd__law_any_deed K Z, ?_, bodyQ (E := E0) h fun x hp => sem__law_any_deed T.lf x hp⟩)
  have gu : (A.deeper (envOfC "_law_any_deed" (defScope s__law_any_deed) s.heap.objs.size f__law_any_deed cdv)).guards = some [] := gu
  exact (pss_cons (ps_par (i := 1) (j := 2) rfl sc__law_any_deed.nd rfl rfl (by decide) rfl rfl (pa_cons (pe_callG (ok__law_take T) (hr.mono (by decide)) gu (by rfl) T.g__law_take T.F__law_take.kp T.b__law_take (pa_cons (pv 0) (pa_cons pe_int pa_nil))) (pa_cons (pe_ix ix_seq (pe_callG (ok__law_names T) (hr.mono (by decide)) gu (by rfl) T.g__law_names T.F__law_names.kp T.b__law_names (pa_cons (pv 0) (pa_cons pe_int pa_nil))) pe_int (fun _ _ => rfl)) pa_nil)) rfl)
    (pss_cons (ps_set (i := 3) sc__law_any_deed.nd rfl (by first | exact .inl rfl | exact .inr rfl) (pe_callB cr_sorted (by rfl) T.z_sorted (by decide +kernel) (pa_cons (pe_lst (pa_cons (pe_callG (ok__law_number_text T) (hr.mono (by decide)) gu (by rfl) T.g__law_number_text T.F__law_number_text.kp T.b__law_number_text (pa_cons (pv 0) (pa_cons (pe_op op_powX pe_int pe_int) pa_nil))) (pa_cons (pe_callG (ok__law_number_text T) (hr.mono (by decide)) gu (by rfl) T.g__law_number_text T.F__law_number_text.kp T.b__law_number_text (pa_cons (pv 0) (pa_cons (pe_op op_powX pe_int pe_int) pa_nil))) pa_nil))) pa_nil)))
    (pss_cons (ps_par (i := 4) (j := 5) rfl sc__law_any_deed.nd rfl rfl (by decide) rfl rfl (pa_cons (pe_callG (ok__law_any_stretch T) (hr.mono (by decide)) gu (by rfl) T.g__law_any_stretch T.F__law_any_stretch.kp T.b__law_any_stretch (pa_cons (pv 0) pa_nil)) (pa_cons (pe_callG (ok__law_any_stretch T) (hr.mono (by decide)) gu (by rfl) T.g__law_any_stretch T.F__law_any_stretch.kp T.b__law_any_stretch (pa_cons (pv 0) pa_nil)) pa_nil)) rfl)
    (pss_cons (ps_if (pt_cmpR (op_eqX hr.units) (pv 1) pe_int (nomark _)) (pss_one (ps_ret (pe_tup (pa_cons pe_str (pa_cons (pe_ix ix_seq (pv 3) pe_int (fun _ _ => rfl)) (pa_cons (pv 4) (pa_cons (pv 2) pa_nil))))))) pss_nil)
    (pss_cons (ps_if (pt_cmpR op_ltX (pv 1) pe_int (nomark _)) (pss_one (ps_ret (pe_tup (pa_cons (pe_ix ix_seq (pe_lst (pa_cons pe_str (pa_cons pe_str pa_nil))) (pe_op op_subX (pv 1) pe_int) (fun _ _ => rfl)) (pa_cons (pe_ix ix_seq (pv 3) pe_int (fun _ _ => rfl)) (pa_cons (pv 2) (pa_cons (pv 4) (pa_cons (pv 5) pa_nil)))))))) pss_nil)
    (pss_one (ps_ret (pe_tup (pa_cons pe_str (pa_cons (pe_ix ix_seq (pv 3) (pe_callG (ok__law_take T) (hr.mono (by decide)) gu (by rfl) T.g__law_take T.F__law_take.kp T.b__law_take (pa_cons (pv 0) (pa_cons pe_int pa_nil))) (fun _ _ => rfl)) (pa_cons (pe_ix ix_seq (pv 3) pe_int (fun _ _ => rfl)) (pa_cons (pv 4) (pa_cons (pv 5) (pa_cons (pe_cmpR (op_eqX hr.units) (pe_callG (ok__law_take T) (hr.mono (by decide)) gu (by rfl) T.g__law_take T.F__law_take.kp T.b__law_take (pa_cons (pv 0) (pa_cons pe_int pa_nil))) pe_int (nomark _)) pa_nil))))))))))))))
theorem ok__law_due (T : Txt K mg Z f_is_whole f_is_hand f_parts_of f_is_day f_show_deed f_read_deed f_read_number f__read_part f__read_leave f__read_stretch f__law_bag f__law_take f__law_names f__law_number_text f__law_any_stretch f__law_any_deed f__law_number_in f__law_is_kind f__law_place f__law_odd_words f__law_told f__law_due f__law_right f_law fe_NoText d_is_whole d_is_hand d_parts_of d_is_day d_show_deed d_read_deed d_read_number d__read_part d__read_leave d__read_stretch d__law_bag d__law_take d__law_names d__law_number_text d__law_any_stretch d__law_any_deed d__law_number_in d__law_is_kind d__law_place d__law_odd_words d__law_told d__law_due d__law_right d_law de_NoText) : FnG P w K mg base 4 f__law_due d__law_due ["text"] (sp__law_due K Z) := by
  refine okG T.F__law_due sc__law_due (fun vs H Q E h => spQ.len (E := E) h) (fun cdv A fr s H vs Q gu hr h => ⟨rd__law_due K Z, ?_, bodyQ (E := E0) h fun x hp => sem__law_due T.lf x hp⟩)
  have gu : (A.deeper (envOfC "_law_due" (defScope s__law_due) s.heap.objs.size f__law_due cdv)).guards = some [] := gu
  exact (pss_cons (ps_set (i := 1) sc__law_due.nd rfl (by first | exact .inl rfl | exact .inr rfl) (pe_ifExp (pt_cmpR (op_neX hr.units) (pv 0) pe_str (nomark _)) (pe_split (pv 0) pe_str) (pe_lst pa_nil)))
    (pss_cons (ps_set (i := 2) sc__law_due.nd rfl (by first | exact .inl rfl | exact .inr rfl) (pe_callG (ok__law_place T) (hr.mono (by decide)) gu (by rfl) T.g__law_place T.F__law_place.kp T.b__law_place (pa_cons (pv 1) (pa_cons pe_int pa_nil))))
    (pss_cons (ps_if (pt_cmpR op_isnotV (pv 2) pe_non (nomark _)) (pss_one (ps_ret (pe_tup (pa_cons pe_str (pa_cons (pv 2) pa_nil))))) pss_nil)
    (pss_cons (ps_set (i := 3) sc__law_due.nd rfl (by first | exact .inl rfl | exact .inr rfl) (pe_lst (pa_cons (pe_ix ix_seq (pv 1) pe_int (fun _ _ => rfl)) pa_nil)))
    (pss_cons (ps_for PassesOwn.never rfl (pi_list (pe_slice sl_3 (pv 1) (po_some pe_int) po_none)) (pg_name (i := 4) sc__law_due.nd rfl (by first | exact .inl rfl | exact .inr rfl)) (pss_cons (ps_asg (pe_partition (pv 4) pe_str) (pg_tup rfl (pgs_cons (pg_name (i := 5) sc__law_due.nd rfl (by first | exact .inl rfl | exact .inr rfl)) (pgs_cons (pg_name (i := 6) sc__law_due.nd rfl (by first | exact .inl rfl | exact .inr rfl)) (pgs_cons (pg_name (i := 7) sc__law_due.nd rfl (by first | exact .inl rfl | exact .inr rfl)) pgs_nil)))))
    (pss_cons (ps_set (i := 8) sc__law_due.nd rfl (by first | exact .inl rfl | exact .inr rfl) (pe_callG (ok__law_number_in T) (hr.mono (by decide)) gu (by rfl) T.g__law_number_in T.F__law_number_in.kp T.b__law_number_in (pa_cons (pv 4) pa_nil)))
    (pss_one (ps_if (pt_cmpR (op_eqX hr.units) (pv 6) pe_str (nomark _)) (pss_one (ps_expr (pe_bm PySem.F.plainAttrs_list PySem.F.slot_list_append PySem.F.type_list_append mt_append (pv 3) (pa_cons (pe_tup (pa_cons (pe_callTy call_intS (by rfl) T.z_int (by decide +kernel) (pa_cons (pv 5) pa_nil)) (pa_cons (pe_callTy call_intS (by rfl) T.z_int (by decide +kernel) (pa_cons (pv 7) pa_nil)) pa_nil))) pa_nil)))) (pss_one (ps_if (pt_cmpR op_isnotV (pv 8) pe_non (nomark _)) (pss_one (ps_expr (pe_bm PySem.F.plainAttrs_list PySem.F.slot_list_append PySem.F.type_list_append mt_append (pv 3) (pa_cons (pv 8) pa_nil)))) (pss_one (ps_if (PW.pt (pw_or (pt_cmpR (op_neX hr.units) (pv 4) pe_str (nomark _)) (pw_or1 (pt_cmpR (op_neX hr.units) (pe_ix ix_seq (pv 1) pe_int (fun _ _ => rfl)) pe_str (nomark _))))) (pss_one (ps_expr (pe_bm PySem.F.plainAttrs_list PySem.F.slot_list_append PySem.F.type_list_append mt_append (pv 3) (pa_cons (pv 4) pa_nil)))) pss_nil)))))))))
    (pss_cons (ps_if (pt_cmpR (op_eqX hr.units) (pe_ix ix_seq (pv 1) pe_int (fun _ _ => rfl)) pe_str (nomark _)) (pss_one (ps_expr (pe_bm PySem.F.plainAttrs_list PySem.F.slot_list_append PySem.F.type_list_append mt_append (pv 3) (pa_cons (pe_cmpR (op_eqX hr.units) (pe_ix ix_seq (pv 1) (pe_un un_negX pe_int) (fun _ _ => rfl)) pe_str (nomark _)) pa_nil)))) pss_nil)
    (pss_one (ps_ret (pe_tup (pa_cons pe_str (pa_cons (pe_callTy call_tupleX (by rfl) T.z_tuple (by decide +kernel) (pa_cons (pv 3) pa_nil)) pa_nil)))))))))))
theorem ok__law_told (T : Txt K mg Z f_is_whole f_is_hand f_parts_of f_is_day f_show_deed f_read_deed f_read_number f__read_part f__read_leave f__read_stretch f__law_bag f__law_take f__law_names f__law_number_text f__law_any_stretch f__law_any_deed f__law_number_in f__law_is_kind f__law_place f__law_odd_words f__law_told f__law_due f__law_right f_law fe_NoText d_is_whole d_is_hand d_parts_of d_is_day d_show_deed d_read_deed d_read_number d__read_part d__read_leave d__read_stretch d__law_bag d__law_take d__law_names d__law_number_text d__law_any_stretch d__law_any_deed d__law_number_in d__law_is_kind d__law_place d__law_odd_words d__law_told d__law_due d__law_right d_law de_NoText) : FnG P w K mg base 5 f__law_told d__law_told ["thing"] (sp__law_told K Z) := by
  refine okG T.F__law_told sc__law_told (fun vs H Q E h => spQ.len (E := E) h) (fun cdv A fr s H vs Q gu hr h => ⟨rd__law_told K Z, ?_, bodyQ (E := E0) h fun x hp => sem__law_told T.lf x hp⟩)
  have gu : (A.deeper (envOfC "_law_told" (defScope s__law_told) s.heap.objs.size f__law_told cdv)).guards = some [] := gu
  exact (pss_one (ps_try_as (i := 1) (c := .ref Z.C_NoText) (tb := fun W => (tRet (tTup (tCons (tC (.str "deed")) (tCons (tCallNS 1 0 (sp_read_deed K Z) (fun vs zs => pick [0] (vs ++ [] ++ zs)) W (tCons (tVar 0) tNil) tNil) tNil))))) (ts := tSuite2 K "no" 1 2 [.ref Z.C_NoCell, .ref Z.C_NoDay, .ref Z.C_NoDeed, .ref Z.C_NoHand, .ref Z.C_NoLand, .ref Z.C_TooMany, .ref Z.C_Unlike] Z.C_NoText "place") (Wout := fun _ _ _ _ => False) rfl rfl sc__law_told.nd rfl rfl ⟨by rfl, by decide, Or.inl T.gC_NoText⟩ takes0
    (fun W pn xe tk _ => pss_one (ps_ret (pe_tup (pa_cons pe_str (pa_cons (pe_callXP (n := 1) (ok_read_deed T) (hr.mono (by decide)) gu tk (by rfl) T.g_read_deed T.F_read_deed.kp (kb_read_deed_1 T).choose_spec (pa_cons (pv 0) pa_nil)) pa_nil)))))
    (fun a oe cls d pn hz hf => (pss_cons (ps_set (i := 2) sc__law_told.nd rfl (by first | exact .inl rfl | exact .inr rfl) (pe_callB (call_isXT hz hf) (by rfl) T.z_isinstance (by decide +kernel) (pa_cons (pv 1) (pa_cons (pe_tup (pa_cons (pe_glob (by rfl) T.gC_NoCell rfl) (pa_cons (pe_glob (by rfl) T.gC_NoDay rfl) (pa_cons (pe_glob (by rfl) T.gC_NoDeed rfl) (pa_cons (pe_glob (by rfl) T.gC_NoHand rfl) (pa_cons (pe_glob (by rfl) T.gC_NoLand rfl) (pa_cons (pe_glob (by rfl) T.gC_TooMany rfl) (pa_cons (pe_glob (by rfl) T.gC_Unlike rfl) pa_nil)))))))) pa_nil)))) (pss_one (ps_ret (pe_tup (pa_cons pe_str (pa_cons (pe_ifExp (PW.pt (pw_and (pt_val (pe_callB (call_isX1 hz hf) (by rfl) T.z_isinstance (by decide +kernel) (pa_cons (pv 1) (pa_cons (pe_bltn (by rfl) T.z_ValueError (by decide +kernel) rfl) pa_nil)))) (pw_and1 (pt_not (pt_val (pv 2)))))) (pe_xf T.xf_NoText T.er_NoText.noF hz hf (pv 1)) pe_non) pa_nil)))))))))
theorem ok__law_right (T : Txt K mg Z f_is_whole f_is_hand f_parts_of f_is_day f_show_deed f_read_deed f_read_number f__read_part f__read_leave f__read_stretch f__law_bag f__law_take f__law_names f__law_number_text f__law_any_stretch f__law_any_deed f__law_number_in f__law_is_kind f__law_place f__law_odd_words f__law_told f__law_due f__law_right f_law fe_NoText d_is_whole d_is_hand d_parts_of d_is_day d_show_deed d_read_deed d_read_number d__read_part d__read_leave d__read_stretch d__law_bag d__law_take d__law_names d__law_number_text d__law_any_stretch d__law_any_deed d__law_number_in d__law_is_kind d__law_place d__law_odd_words d__law_told d__law_due d__law_right d_law de_NoText) : FnG P w K mg base 6 f__law_right d__law_right ["bag"] (sp__law_right K Z) := by
  refine okG T.F__law_right sc__law_right (fun vs H Q E h => spQ.len (E := E) h) (fun cdv A fr s H vs Q gu hr h => ⟨rd__law_right K Z, ?_, bodyQ (E := E0) h fun x hp => sem__law_right T.lf x hp⟩)
  have gu : (A.deeper (envOfC "_law_right" (defScope s__law_right) s.heap.objs.size f__law_right cdv)).guards = some [] := gu
  exact (pss_cons (ps_set (i := 1) sc__law_right.nd rfl (by first | exact .inl rfl | exact .inr rfl) (pe_callG (ok__law_any_deed T) (hr.mono (by decide)) gu (by rfl) T.g__law_any_deed T.F__law_any_deed.kp T.b__law_any_deed (pa_cons (pv 0) pa_nil)))
    (pss_cons (ps_set (i := 2) sc__law_right.nd rfl (by first | exact .inl rfl | exact .inr rfl) (pe_callG (ok_show_deed T) (hr.mono (by decide)) gu (by rfl) T.g_show_deed T.F_show_deed.kp T.b_show_deed (pa_cons (pv 1) pa_nil)))
    (pss_cons (ps_if (pt_cmpR (op_neX hr.units) (pe_callB (call_repr gu hr.units) (by rfl) T.z_repr (by decide +kernel) (pa_cons (pe_callG (ok__law_told T) (hr.mono (by decide)) gu (by rfl) T.g__law_told T.F__law_told.kp T.b__law_told (pa_cons (pv 2) pa_nil)) pa_nil)) (pe_callB (call_repr gu hr.units) (by rfl) T.z_repr (by decide +kernel) (pa_cons (pe_tup (pa_cons pe_str (pa_cons (pv 1) pa_nil))) pa_nil)) (nomark _)) (pss_one (ps_ret pe_bl)) pss_nil)
    (pss_cons (ps_for PassesOwn.never rfl (pi_range1 (by rfl) T.z_range (pa_cons pe_int pa_nil)) (pg_name (i := 3) sc__law_right.nd rfl (by first | exact .inl rfl | exact .inr rfl)) (pss_cons (ps_set (i := 4) sc__law_right.nd rfl (by first | exact .inl rfl | exact .inr rfl) (pe_join pe_str (pe_callG (ok__law_odd_words T) (hr.mono (by decide)) gu (by rfl) T.g__law_odd_words T.F__law_odd_words.kp T.b__law_odd_words (pa_cons (pv 0) (pa_cons (pe_split (pv 2) pe_str) pa_nil)))))
    (pss_one (ps_if (pt_cmpR (op_neX hr.units) (pe_callB (call_repr gu hr.units) (by rfl) T.z_repr (by decide +kernel) (pa_cons (pe_callG (ok__law_told T) (hr.mono (by decide)) gu (by rfl) T.g__law_told T.F__law_told.kp T.b__law_told (pa_cons (pv 4) pa_nil)) pa_nil)) (pe_callB (call_repr gu hr.units) (by rfl) T.z_repr (by decide +kernel) (pa_cons (pe_callG (ok__law_due T) (hr.mono (by decide)) gu (by rfl) T.g__law_due T.F__law_due.kp T.b__law_due (pa_cons (pv 4) pa_nil)) pa_nil)) (nomark _)) (pss_one (ps_ret pe_bl)) pss_nil))))
    (pss_cons (ps_for PassesOwn.never rfl (pi_list (pe_lst (pa_cons pe_non (pa_cons pe_int (pa_cons pe_bl (pa_cons (pv 1) (pa_cons (pe_callTy call_listX (by rfl) T.z_list (by decide +kernel) (pa_cons (pv 1) pa_nil)) (pa_cons (pe_tup (pa_cons pe_str pa_nil)) (pa_cons (pe_tup pa_nil) (pa_cons (pe_lst pa_nil) pa_nil)))))))))) (pg_name (i := 5) sc__law_right.nd rfl (by first | exact .inl rfl | exact .inr rfl)) (pss_one (ps_if (pt_cmpR (op_neX hr.units) (pe_callB (call_repr gu hr.units) (by rfl) T.z_repr (by decide +kernel) (pa_cons (pe_callG (ok__law_told T) (hr.mono (by decide)) gu (by rfl) T.g__law_told T.F__law_told.kp T.b__law_told (pa_cons (pv 5) pa_nil)) pa_nil)) (pe_callB (call_repr gu hr.units) (by rfl) T.z_repr (by decide +kernel) (pa_cons (pe_tup (pa_cons pe_str (pa_cons pe_int pa_nil))) pa_nil)) (nomark _)) (pss_one (ps_ret pe_bl)) pss_nil)))
    (pss_cons (ps_set (i := 6) sc__law_right.nd rfl (by first | exact .inl rfl | exact .inr rfl) (pe_lst (pa_consT (pat_cons (pet_of pe_str) (pat_cons (pet_of (pe_op op_plus pe_str (pv 2))) (pat_cons (pet_of (pe_op op_plus (pv 2) pe_str)) (pat_cons (pet_repl1 (pv 2)) (pat_cons (pet_repl1 (pv 2)) (pat_cons (pet_of (pe_slice sl_3 (pv 2) po_none (po_some (pe_un un_negX pe_int)))) (pat_cons (pet_of (pe_slice sl_3 (pv 2) (po_some pe_int) po_none)) pat_nil))))))))))
    (pss_one (ps_ret (pe_and (pe_callB (cr_all rfl) (by rfl) T.z_all (by decide +kernel) (pa_cons (pe_lc (own := [("one", 7)]) (g := (gName 7)) (tt := tYes) (te := (tOp (rEqX K) (tCB (rRepr K) (tCons (tCall (sp__law_told K Z) [] E0 (tCons (tVar 7) tNil)) tNil)) (tCB (rRepr K) (tCons (tCall (sp__law_due K Z) [] E0 (tCons (tVar 7) tNil)) tNil)))) rfl sc__law_right.nd (pi_list (pv 6)) (blkOk_by (N := ["bag", "deed", "text", "turn", "odd", "thing", "more", "one"]) (sc := defScope s__law_right) (by decide +kernel)) (fun _ _ _ _ _ => (pg_name (i := 7) sc__law_right.nd rfl (by first | exact .inl rfl | exact .inr rfl))) (fun _ _ _ _ _ => pts_nil) (fun _ _ _ _ _ => (pe_cmpR (op_eqX hr.units) (pe_callB (call_repr gu hr.units) (by rfl) T.z_repr (by decide +kernel) (pa_cons (pe_callG (ok__law_told T) (hr.mono (by decide)) gu (by rfl) T.g__law_told T.F__law_told.kp T.b__law_told (pa_cons (pv 7) pa_nil)) pa_nil)) (pe_callB (call_repr gu hr.units) (by rfl) T.z_repr (by decide +kernel) (pa_cons (pe_callG (ok__law_due T) (hr.mono (by decide)) gu (by rfl) T.g__law_due T.F__law_due.kp T.b__law_due (pa_cons (pv 7) pa_nil)) pa_nil)) (nomark _)))) pa_nil)) (pe_one (pe_cmpR (op_eqX hr.units) (pe_ix ix_seq (pe_callG (ok__law_told T) (hr.mono (by decide)) gu (by rfl) T.g__law_told T.F__law_told.kp T.b__law_told (pa_cons (pv 2) pa_nil)) pe_int (fun _ _ => rfl)) (pv 1) (nomark _))))))))))))
theorem ok_law (T : Txt K mg Z f_is_whole f_is_hand f_parts_of f_is_day f_show_deed f_read_deed f_read_number f__read_part f__read_leave f__read_stretch f__law_bag f__law_take f__law_names f__law_number_text f__law_any_stretch f__law_any_deed f__law_number_in f__law_is_kind f__law_place f__law_odd_words f__law_told f__law_due f__law_right f_law fe_NoText d_is_whole d_is_hand d_parts_of d_is_day d_show_deed d_read_deed d_read_number d__read_part d__read_leave d__read_stretch d__law_bag d__law_take d__law_names d__law_number_text d__law_any_stretch d__law_any_deed d__law_number_in d__law_is_kind d__law_place d__law_odd_words d__law_told d__law_due d__law_right d_law de_NoText) : FnG P w K mg base 7 f_law d_law ["script"] (sp_law K) := by
  refine okG T.F_law sc_law (fun vs H Q E h => spD.len (E := E) h) (fun cdv A fr s H vs Q gu hr h => ⟨rd_law K Z, ?_, body_of (E := E0) h fun ss hl hp => sem_law T.lf ss hp⟩)
  have gu : (A.deeper (envOfC "law" (defScope s_law) s.heap.objs.size f_law cdv)).guards = some [] := gu
  exact (pss_cons (ps_for PassesOwn.never rfl (pi_range1 (by rfl) T.z_range (pa_cons (pe_callB (call_maxX rfl) (by rfl) T.z_max (by decide +kernel) (pa_cons pe_int (pa_cons (pe_callB (call_minX rfl) (by rfl) T.z_min (by decide +kernel) (pa_cons pe_int (pa_cons (pe_callB call_lenX (by rfl) T.z_len (by decide +kernel) (pa_cons (pv 0) pa_nil)) pa_nil))) pa_nil))) pa_nil)) (pg_name (i := 1) sc_law.nd rfl (by first | exact .inl rfl | exact .inr rfl)) (pss_cons (ps_set (i := 2) sc_law.nd rfl (by first | exact .inl rfl | exact .inr rfl) (pe_callG (ok__law_bag T) (hr.mono (by decide)) gu (by rfl) T.g__law_bag T.F__law_bag.kp T.b__law_bag (pa_cons (pv 0) (pa_cons (pv 1) pa_nil))))
    (pss_one (ps_for PassesOwn.never rfl (pi_range1 (by rfl) T.z_range (pa_cons pe_int pa_nil)) (pg_name (i := 3) sc_law.nd rfl (by first | exact .inl rfl | exact .inr rfl)) (pss_one (ps_if (pt_not (pt_val (pe_callG (ok__law_right T) (hr.mono (by decide)) gu (by rfl) T.g__law_right T.F__law_right.kp T.b__law_right (pa_cons (pv 2) pa_nil)))) (pss_one (ps_ret pe_bl)) pss_nil))))))
    (pss_one (ps_ret pe_bl)))
end
theorem all_mk {l : PySem.W.OpenLaw} {w : World} {K : PySem.W.Frag} {h : Heap} {mg : Str → Option Value} {fa f_is_whole f_is_hand f_parts_of f_is_day f_show_deed f_read_deed f_read_number f__read_part f__read_leave f__read_stretch f__law_bag f__law_take f__law_names f__law_number_text f__law_any_stretch f__law_any_deed f__law_number_in f__law_is_kind f__law_place f__law_odd_words f__law_told f__law_due f__law_right f_law C_NoCell C_NoDay C_NoDeed C_NoHand C_NoLand C_TooMany C_Unlike C_NoText A_PARTS A_PARTS_0 A_PARTS_1 A_PARTS_2 A_PARTS_3 fe_NoText : Addr} (X : K.In h) (G : h.Ns mainGlobals mg) (hfa : mg "law" = some (.ref fa))
    {od0 an0 : Option Addr} {sl0 : Array (Option Value)} {oc0 dc0 pm0 cd0 ct0 : Value}
    {kV0 : Value}
    {od1 an1 : Option Addr} {sl1 : Array (Option Value)} {oc1 dc1 pm1 cd1 ct1 : Value}
    {kV1 : Value}
    {od2 an2 : Option Addr} {sl2 : Array (Option Value)} {oc2 dc2 pm2 cd2 ct2 : Value}
    {kV2 : Value}
    {od3 an3 : Option Addr} {sl3 : Array (Option Value)} {oc3 dc3 pm3 cd3 ct3 : Value}
    {kV3 : Value}
    {od4 an4 : Option Addr} {sl4 : Array (Option Value)} {oc4 dc4 pm4 cd4 ct4 : Value}
    {kV4 : Value}
    {od5 an5 : Option Addr} {sl5 : Array (Option Value)} {oc5 dc5 pm5 cd5 ct5 : Value}
    {kV5 : Value}
    {od6 an6 : Option Addr} {sl6 : Array (Option Value)} {oc6 dc6 pm6 cd6 ct6 : Value}
    {kV6 : Value}
    {od7 an7 : Option Addr} {sl7 : Array (Option Value)} {oc7 dc7 pm7 cd7 ct7 : Value}
    {kV7 : Value}
    {od8 an8 : Option Addr} {sl8 : Array (Option Value)} {oc8 dc8 pm8 cd8 ct8 : Value}
    {kV8 : Value}
    {od9 an9 : Option Addr} {sl9 : Array (Option Value)} {oc9 dc9 pm9 cd9 ct9 : Value}
    {kV9 : Value}
    {od10 an10 : Option Addr} {sl10 : Array (Option Value)} {oc10 dc10 pm10 cd10 ct10 : Value}
    {kV10 : Value}
    {od11 an11 : Option Addr} {sl11 : Array (Option Value)} {oc11 dc11 pm11 cd11 ct11 : Value}
    {kV11 : Value}
    {od12 an12 : Option Addr} {sl12 : Array (Option Value)} {oc12 dc12 pm12 cd12 ct12 : Value}
    {kV12 : Value}
    {od13 an13 : Option Addr} {sl13 : Array (Option Value)} {oc13 dc13 pm13 cd13 ct13 : Value}
    {kV13 : Value}
    {od14 an14 : Option Addr} {sl14 : Array (Option Value)} {oc14 dc14 pm14 cd14 ct14 : Value}
    {kV14 : Value}
    {od15 an15 : Option Addr} {sl15 : Array (Option Value)} {oc15 dc15 pm15 cd15 ct15 : Value}
    {kV15 : Value}
    {od16 an16 : Option Addr} {sl16 : Array (Option Value)} {oc16 dc16 pm16 cd16 ct16 : Value}
    {kV16 : Value}
    {od17 an17 : Option Addr} {sl17 : Array (Option Value)} {oc17 dc17 pm17 cd17 ct17 : Value}
    {kV17 : Value}
    {od18 an18 : Option Addr} {sl18 : Array (Option Value)} {oc18 dc18 pm18 cd18 ct18 : Value}
    {kV18 : Value}
    {od19 an19 : Option Addr} {sl19 : Array (Option Value)} {oc19 dc19 pm19 cd19 ct19 : Value}
    {kV19 : Value}
    {od20 an20 : Option Addr} {sl20 : Array (Option Value)} {oc20 dc20 pm20 cd20 ct20 : Value}
    {kV20 : Value}
    {od21 an21 : Option Addr} {sl21 : Array (Option Value)} {oc21 dc21 pm21 cd21 ct21 : Value}
    {kV21 : Value}
    {od22 an22 : Option Addr} {sl22 : Array (Option Value)} {oc22 dc22 pm22 cd22 ct22 : Value}
    {kV22 : Value}
    {od23 an23 : Option Addr} {sl23 : Array (Option Value)} {oc23 dc23 pm23 cd23 ct23 : Value}
    {kV23 : Value}
    {enmNoText eqNoText : Str} {eNNoText : Addr} {ebsNoText : List Value} {esnNoText : List Str} {esubNoText : List Value} {eabNoText : Bool} {ecolNoText : Option Bool} {eddNoText : Option Addr} {em0NoText em1NoText em2NoText em3NoText em5NoText : Option Value} {eodNoText eanNoText : Option Addr} {eslNoText : Array (Option Value)} {eocNoText ekVNoText edcNoText epmNoText ecdNoText ectNoText : Value}
    {od_PARTS : Obj} {oe_PARTS : Array DictEntry} {op_PARTS : Nat}
    {ot_PARTS_0 : Obj} {ov_PARTS_0 : Array Value} {om_PARTS_0 : Nat}
    {ot_PARTS_1 : Obj} {ov_PARTS_1 : Array Value} {om_PARTS_1 : Nat}
    {ot_PARTS_2 : Obj} {ov_PARTS_2 : Array Value} {om_PARTS_2 : Nat}
    {ot_PARTS_3 : Obj} {ov_PARTS_3 : Array Value} {om_PARTS_3 : Nat}
    {t_MOST_LETTERS : Tok}
    {t_LAST_DAY : Tok}
    {t_MOST_FIGURES : Tok}
    (a0 : PySem.W.nsIn K mainGlobals "is_whole" = some (some (.ref f_is_whole)))
    (l0 : K.lookup f_is_whole = some ⟨oc0, od0, .func (PySem.W.fnOf "is_whole" "is_whole" (defArgs s_is_whole) (defBody s_is_whole) (defScope s_is_whole) .none kV0 dc0 pm0 an0 cd0 ct0), sl0⟩)
    (p0 : PySem.W.codeIn K cd0 "is_whole" = true)
    (k0 : PySem.W.keepIn K (.ref f_is_whole) = true)
    (a1 : PySem.W.nsIn K mainGlobals "is_hand" = some (some (.ref f_is_hand)))
    (l1 : K.lookup f_is_hand = some ⟨oc1, od1, .func (PySem.W.fnOf "is_hand" "is_hand" (defArgs s_is_hand) (defBody s_is_hand) (defScope s_is_hand) .none kV1 dc1 pm1 an1 cd1 ct1), sl1⟩)
    (p1 : PySem.W.codeIn K cd1 "is_hand" = true)
    (k1 : PySem.W.keepIn K (.ref f_is_hand) = true)
    (a2 : PySem.W.nsIn K mainGlobals "parts_of" = some (some (.ref f_parts_of)))
    (l2 : K.lookup f_parts_of = some ⟨oc2, od2, .func (PySem.W.fnOf "parts_of" "parts_of" (defArgs s_parts_of) (defBody s_parts_of) (defScope s_parts_of) .none kV2 dc2 pm2 an2 cd2 ct2), sl2⟩)
    (p2 : PySem.W.codeIn K cd2 "parts_of" = true)
    (k2 : PySem.W.keepIn K (.ref f_parts_of) = true)
    (a3 : PySem.W.nsIn K mainGlobals "is_day" = some (some (.ref f_is_day)))
    (l3 : K.lookup f_is_day = some ⟨oc3, od3, .func (PySem.W.fnOf "is_day" "is_day" (defArgs s_is_day) (defBody s_is_day) (defScope s_is_day) .none kV3 dc3 pm3 an3 cd3 ct3), sl3⟩)
    (p3 : PySem.W.codeIn K cd3 "is_day" = true)
    (k3 : PySem.W.keepIn K (.ref f_is_day) = true)
    (a4 : PySem.W.nsIn K mainGlobals "show_deed" = some (some (.ref f_show_deed)))
    (l4 : K.lookup f_show_deed = some ⟨oc4, od4, .func (PySem.W.fnOf "show_deed" "show_deed" (defArgs s_show_deed) (defBody s_show_deed) (defScope s_show_deed) .none kV4 dc4 pm4 an4 cd4 ct4), sl4⟩)
    (p4 : PySem.W.codeIn K cd4 "show_deed" = true)
    (k4 : PySem.W.keepIn K (.ref f_show_deed) = true)
    (a5 : PySem.W.nsIn K mainGlobals "read_deed" = some (some (.ref f_read_deed)))
    (l5 : K.lookup f_read_deed = some ⟨oc5, od5, .func (PySem.W.fnOf "read_deed" "read_deed" (defArgs s_read_deed) (defBody s_read_deed) (defScope s_read_deed) .none kV5 dc5 pm5 an5 cd5 ct5), sl5⟩)
    (p5 : PySem.W.codeIn K cd5 "read_deed" = true)
    (k5 : PySem.W.keepIn K (.ref f_read_deed) = true)
    (a6 : PySem.W.nsIn K mainGlobals "read_number" = some (some (.ref f_read_number)))
    (l6 : K.lookup f_read_number = some ⟨oc6, od6, .func (PySem.W.fnOf "read_number" "read_number" (defArgs s_read_number) (defBody s_read_number) (defScope s_read_number) .none kV6 dc6 pm6 an6 cd6 ct6), sl6⟩)
    (p6 : PySem.W.codeIn K cd6 "read_number" = true)
    (k6 : PySem.W.keepIn K (.ref f_read_number) = true)
    (a7 : PySem.W.nsIn K mainGlobals "_read_part" = some (some (.ref f__read_part)))
    (l7 : K.lookup f__read_part = some ⟨oc7, od7, .func (PySem.W.fnOf "_read_part" "_read_part" (defArgs s__read_part) (defBody s__read_part) (defScope s__read_part) .none kV7 dc7 pm7 an7 cd7 ct7), sl7⟩)
    (p7 : PySem.W.codeIn K cd7 "_read_part" = true)
    (k7 : PySem.W.keepIn K (.ref f__read_part) = true)
    (a8 : PySem.W.nsIn K mainGlobals "_read_leave" = some (some (.ref f__read_leave)))
    (l8 : K.lookup f__read_leave = some ⟨oc8, od8, .func (PySem.W.fnOf "_read_leave" "_read_leave" (defArgs s__read_leave) (defBody s__read_leave) (defScope s__read_leave) .none kV8 dc8 pm8 an8 cd8 ct8), sl8⟩)
    (p8 : PySem.W.codeIn K cd8 "_read_leave" = true)
    (k8 : PySem.W.keepIn K (.ref f__read_leave) = true)
    (a9 : PySem.W.nsIn K mainGlobals "_read_stretch" = some (some (.ref f__read_stretch)))
    (l9 : K.lookup f__read_stretch = some ⟨oc9, od9, .func (PySem.W.fnOf "_read_stretch" "_read_stretch" (defArgs s__read_stretch) (defBody s__read_stretch) (defScope s__read_stretch) .none kV9 dc9 pm9 an9 cd9 ct9), sl9⟩)
    (p9 : PySem.W.codeIn K cd9 "_read_stretch" = true)
    (k9 : PySem.W.keepIn K (.ref f__read_stretch) = true)
    (a10 : PySem.W.nsIn K mainGlobals "_law_bag" = some (some (.ref f__law_bag)))
    (l10 : K.lookup f__law_bag = some ⟨oc10, od10, .func (PySem.W.fnOf "_law_bag" "_law_bag" (defArgs s__law_bag) (defBody s__law_bag) (defScope s__law_bag) .none kV10 dc10 pm10 an10 cd10 ct10), sl10⟩)
    (p10 : PySem.W.codeIn K cd10 "_law_bag" = true)
    (k10 : PySem.W.keepIn K (.ref f__law_bag) = true)
    (a11 : PySem.W.nsIn K mainGlobals "_law_take" = some (some (.ref f__law_take)))
    (l11 : K.lookup f__law_take = some ⟨oc11, od11, .func (PySem.W.fnOf "_law_take" "_law_take" (defArgs s__law_take) (defBody s__law_take) (defScope s__law_take) .none kV11 dc11 pm11 an11 cd11 ct11), sl11⟩)
    (p11 : PySem.W.codeIn K cd11 "_law_take" = true)
    (k11 : PySem.W.keepIn K (.ref f__law_take) = true)
    (a12 : PySem.W.nsIn K mainGlobals "_law_names" = some (some (.ref f__law_names)))
    (l12 : K.lookup f__law_names = some ⟨oc12, od12, .func (PySem.W.fnOf "_law_names" "_law_names" (defArgs s__law_names) (defBody s__law_names) (defScope s__law_names) .none kV12 dc12 pm12 an12 cd12 ct12), sl12⟩)
    (p12 : PySem.W.codeIn K cd12 "_law_names" = true)
    (k12 : PySem.W.keepIn K (.ref f__law_names) = true)
    (a13 : PySem.W.nsIn K mainGlobals "_law_number_text" = some (some (.ref f__law_number_text)))
    (l13 : K.lookup f__law_number_text = some ⟨oc13, od13, .func (PySem.W.fnOf "_law_number_text" "_law_number_text" (defArgs s__law_number_text) (defBody s__law_number_text) (defScope s__law_number_text) .none kV13 dc13 pm13 an13 cd13 ct13), sl13⟩)
    (p13 : PySem.W.codeIn K cd13 "_law_number_text" = true)
    (k13 : PySem.W.keepIn K (.ref f__law_number_text) = true)
    (a14 : PySem.W.nsIn K mainGlobals "_law_any_stretch" = some (some (.ref f__law_any_stretch)))
    (l14 : K.lookup f__law_any_stretch = some ⟨oc14, od14, .func (PySem.W.fnOf "_law_any_stretch" "_law_any_stretch" (defArgs s__law_any_stretch) (defBody s__law_any_stretch) (defScope s__law_any_stretch) .none kV14 dc14 pm14 an14 cd14 ct14), sl14⟩)
    (p14 : PySem.W.codeIn K cd14 "_law_any_stretch" = true)
    (k14 : PySem.W.keepIn K (.ref f__law_any_stretch) = true)
    (a15 : PySem.W.nsIn K mainGlobals "_law_any_deed" = some (some (.ref f__law_any_deed)))
    (l15 : K.lookup f__law_any_deed = some ⟨oc15, od15, .func (PySem.W.fnOf "_law_any_deed" "_law_any_deed" (defArgs s__law_any_deed) (defBody s__law_any_deed) (defScope s__law_any_deed) .none kV15 dc15 pm15 an15 cd15 ct15), sl15⟩)
    (p15 : PySem.W.codeIn K cd15 "_law_any_deed" = true)
    (k15 : PySem.W.keepIn K (.ref f__law_any_deed) = true)
    (a16 : PySem.W.nsIn K mainGlobals "_law_number_in" = some (some (.ref f__law_number_in)))
    (l16 : K.lookup f__law_number_in = some ⟨oc16, od16, .func (PySem.W.fnOf "_law_number_in" "_law_number_in" (defArgs s__law_number_in) (defBody s__law_number_in) (defScope s__law_number_in) .none kV16 dc16 pm16 an16 cd16 ct16), sl16⟩)
    (p16 : PySem.W.codeIn K cd16 "_law_number_in" = true)
    (k16 : PySem.W.keepIn K (.ref f__law_number_in) = true)
    (a17 : PySem.W.nsIn K mainGlobals "_law_is_kind" = some (some (.ref f__law_is_kind)))
    (l17 : K.lookup f__law_is_kind = some ⟨oc17, od17, .func (PySem.W.fnOf "_law_is_kind" "_law_is_kind" (defArgs s__law_is_kind) (defBody s__law_is_kind) (defScope s__law_is_kind) .none kV17 dc17 pm17 an17 cd17 ct17), sl17⟩)
    (p17 : PySem.W.codeIn K cd17 "_law_is_kind" = true)
    (k17 : PySem.W.keepIn K (.ref f__law_is_kind) = true)
    (a18 : PySem.W.nsIn K mainGlobals "_law_place" = some (some (.ref f__law_place)))
    (l18 : K.lookup f__law_place = some ⟨oc18, od18, .func (PySem.W.fnOf "_law_place" "_law_place" (defArgs s__law_place) (defBody s__law_place) (defScope s__law_place) .none kV18 dc18 pm18 an18 cd18 ct18), sl18⟩)
    (p18 : PySem.W.codeIn K cd18 "_law_place" = true)
    (k18 : PySem.W.keepIn K (.ref f__law_place) = true)
    (a19 : PySem.W.nsIn K mainGlobals "_law_odd_words" = some (some (.ref f__law_odd_words)))
    (l19 : K.lookup f__law_odd_words = some ⟨oc19, od19, .func (PySem.W.fnOf "_law_odd_words" "_law_odd_words" (defArgs s__law_odd_words) (defBody s__law_odd_words) (defScope s__law_odd_words) .none kV19 dc19 pm19 an19 cd19 ct19), sl19⟩)
    (p19 : PySem.W.codeIn K cd19 "_law_odd_words" = true)
    (k19 : PySem.W.keepIn K (.ref f__law_odd_words) = true)
    (a20 : PySem.W.nsIn K mainGlobals "_law_told" = some (some (.ref f__law_told)))
    (l20 : K.lookup f__law_told = some ⟨oc20, od20, .func (PySem.W.fnOf "_law_told" "_law_told" (defArgs s__law_told) (defBody s__law_told) (defScope s__law_told) .none kV20 dc20 pm20 an20 cd20 ct20), sl20⟩)
    (p20 : PySem.W.codeIn K cd20 "_law_told" = true)
    (k20 : PySem.W.keepIn K (.ref f__law_told) = true)
    (a21 : PySem.W.nsIn K mainGlobals "_law_due" = some (some (.ref f__law_due)))
    (l21 : K.lookup f__law_due = some ⟨oc21, od21, .func (PySem.W.fnOf "_law_due" "_law_due" (defArgs s__law_due) (defBody s__law_due) (defScope s__law_due) .none kV21 dc21 pm21 an21 cd21 ct21), sl21⟩)
    (p21 : PySem.W.codeIn K cd21 "_law_due" = true)
    (k21 : PySem.W.keepIn K (.ref f__law_due) = true)
    (a22 : PySem.W.nsIn K mainGlobals "_law_right" = some (some (.ref f__law_right)))
    (l22 : K.lookup f__law_right = some ⟨oc22, od22, .func (PySem.W.fnOf "_law_right" "_law_right" (defArgs s__law_right) (defBody s__law_right) (defScope s__law_right) .none kV22 dc22 pm22 an22 cd22 ct22), sl22⟩)
    (p22 : PySem.W.codeIn K cd22 "_law_right" = true)
    (k22 : PySem.W.keepIn K (.ref f__law_right) = true)
    (a23 : PySem.W.nsIn K mainGlobals "law" = some (some (.ref f_law)))
    (l23 : K.lookup f_law = some ⟨oc23, od23, .func (PySem.W.fnOf "law" "law" (defArgs s_law) (defBody s_law) (defScope s_law) .none kV23 dc23 pm23 an23 cd23 ct23), sl23⟩)
    (p23 : PySem.W.codeIn K cd23 "law" = true)
    (k23 : PySem.W.keepIn K (.ref f_law) = true)
    (gCNoCell : PySem.W.nsIn K mainGlobals "NoCell" = some (some (.ref C_NoCell)))
    (ec1NoCell : PySem.W.isClsIn K C_NoCell = true)
    (ec2NoCell : PySem.W.typeIn K (.ref C_NoCell) = some (.type "type"))
    (gCNoDay : PySem.W.nsIn K mainGlobals "NoDay" = some (some (.ref C_NoDay)))
    (ec1NoDay : PySem.W.isClsIn K C_NoDay = true)
    (ec2NoDay : PySem.W.typeIn K (.ref C_NoDay) = some (.type "type"))
    (gCNoDeed : PySem.W.nsIn K mainGlobals "NoDeed" = some (some (.ref C_NoDeed)))
    (ec1NoDeed : PySem.W.isClsIn K C_NoDeed = true)
    (ec2NoDeed : PySem.W.typeIn K (.ref C_NoDeed) = some (.type "type"))
    (gCNoHand : PySem.W.nsIn K mainGlobals "NoHand" = some (some (.ref C_NoHand)))
    (ec1NoHand : PySem.W.isClsIn K C_NoHand = true)
    (ec2NoHand : PySem.W.typeIn K (.ref C_NoHand) = some (.type "type"))
    (gCNoLand : PySem.W.nsIn K mainGlobals "NoLand" = some (some (.ref C_NoLand)))
    (ec1NoLand : PySem.W.isClsIn K C_NoLand = true)
    (ec2NoLand : PySem.W.typeIn K (.ref C_NoLand) = some (.type "type"))
    (gCTooMany : PySem.W.nsIn K mainGlobals "TooMany" = some (some (.ref C_TooMany)))
    (ec1TooMany : PySem.W.isClsIn K C_TooMany = true)
    (ec2TooMany : PySem.W.typeIn K (.ref C_TooMany) = some (.type "type"))
    (gCUnlike : PySem.W.nsIn K mainGlobals "Unlike" = some (some (.ref C_Unlike)))
    (ec1Unlike : PySem.W.isClsIn K C_Unlike = true)
    (ec2Unlike : PySem.W.typeIn K (.ref C_Unlike) = some (.type "type"))
    (gCNoText : PySem.W.nsIn K mainGlobals "NoText" = some (some (.ref C_NoText)))
    (ec1NoText : PySem.W.isClsIn K C_NoText = true)
    (ec2NoText : PySem.W.typeIn K (.ref C_NoText) = some (.type "type"))
    (xLNoText : K.lookup C_NoText = some (excClassObj enmNoText eqNoText C_NoText eNNoText ebsNoText [.type "ValueError", .type "Exception", .type "BaseException", .type "object"] true esnNoText esubNoText eabNoText ecolNoText eddNoText em0NoText em1NoText em2NoText em3NoText em5NoText "ValueError.__new__"))
    (saNoText : PySem.W.findIn K (.ref C_NoText) "__setattr__" = some (some (.builtin "object.__setattr__")))
    (gaNoText : PySem.W.findIn K (.ref C_NoText) "__getattribute__" = some (some (.builtin "BaseException.__getattribute__")))
    (ggNoText : PySem.W.findIn K (.ref C_NoText) "__getattr__" = some none)
    (nbNoText : PySem.W.findIn K (.ref C_NoText) "place" = some none)
    (eiNoText : PySem.W.findIn K (.ref C_NoText) "__init__" = some (some (.ref fe_NoText)))
    (etNoText : PySem.W.typeIn K (.ref fe_NoText) = some (.type "function"))
    (elNoText : K.lookup fe_NoText = some ⟨eocNoText, eodNoText, .func (PySem.W.fnOf "__init__" "NoText.__init__" (defArgs se_NoText) (defBody se_NoText) (defScope se_NoText) .none ekVNoText edcNoText epmNoText eanNoText ecdNoText ectNoText), eslNoText⟩)
    (epNoText : PySem.W.codeIn K ecdNoText "NoText.__init__" = true)
    (ekNoText : PySem.W.keepIn K (.ref fe_NoText) = true)
    (kCNoText : PySem.W.keepIn K (.ref C_NoText) = true)
    (eCNoText : PySem.W.subIn K (.ref C_NoText) (.type "BaseException") = some true)
    (hCNoText : PySem.W.hasDictIn K C_NoText = true)
    (sCNoText : PySem.W.subIn K (.ref C_NoText) (.ref C_NoText) = some true)
    (evNoText : PySem.W.subIn K (.ref C_NoText) (.type "ValueError") = some true)
    (eaNoText : PySem.W.findIn K (.ref C_NoText) "__class__" = some (some (.builtin "object.__class__")))
    (emNoText : PySem.W.mroIn K C_NoText (.type "object") = some true)
    (esNoText_NoCell : PySem.W.subIn K (.ref C_NoText) (.ref C_NoCell) = some false)
    (esNoText_NoDay : PySem.W.subIn K (.ref C_NoText) (.ref C_NoDay) = some false)
    (esNoText_NoDeed : PySem.W.subIn K (.ref C_NoText) (.ref C_NoDeed) = some false)
    (esNoText_NoHand : PySem.W.subIn K (.ref C_NoText) (.ref C_NoHand) = some false)
    (esNoText_NoLand : PySem.W.subIn K (.ref C_NoText) (.ref C_NoLand) = some false)
    (esNoText_TooMany : PySem.W.subIn K (.ref C_NoText) (.ref C_TooMany) = some false)
    (esNoText_Unlike : PySem.W.subIn K (.ref C_NoText) (.ref C_Unlike) = some false)
    (z_int : PySem.W.nsIn K mainGlobals "int" = some none)
    (z_isinstance : PySem.W.nsIn K mainGlobals "isinstance" = some none)
    (z_bool : PySem.W.nsIn K mainGlobals "bool" = some none)
    (z_str : PySem.W.nsIn K mainGlobals "str" = some none)
    (z_len : PySem.W.nsIn K mainGlobals "len" = some none)
    (z_all : PySem.W.nsIn K mainGlobals "all" = some none)
    (z_zip : PySem.W.nsIn K mainGlobals "zip" = some none)
    (z_tuple : PySem.W.nsIn K mainGlobals "tuple" = some none)
    (z_abs : PySem.W.nsIn K mainGlobals "abs" = some none)
    (z_range : PySem.W.nsIn K mainGlobals "range" = some none)
    (z_min : PySem.W.nsIn K mainGlobals "min" = some none)
    (z_sorted : PySem.W.nsIn K mainGlobals "sorted" = some none)
    (z_ValueError : PySem.W.nsIn K mainGlobals "ValueError" = some none)
    (z_repr : PySem.W.nsIn K mainGlobals "repr" = some none)
    (z_list : PySem.W.nsIn K mainGlobals "list" = some none)
    (z_max : PySem.W.nsIn K mainGlobals "max" = some none)
    (c6 : PySem.W.specialIn K (.builtin "object.__class__") "__get__" = some (some (.builtin "getset_descriptor.__get__")))
    (c7 : PySem.W.takesIn K (.builtin "object.__class__") = some true)
    (gAPARTS : PySem.W.nsIn K mainGlobals "PARTS" = some (some (.ref A_PARTS)))
    (lAPARTS : K.lookup A_PARTS = some od_PARTS)
    (dAPARTS : od_PARTS.cls = .type "dict" ∧ od_PARTS.dict = none ∧ od_PARTS.data = .dict oe_PARTS op_PARTS)
    (rAPARTS : KTD.Rows (fun (v : V) (u : Value) => L2.RelV v u) oe_PARTS.toList [("sale", .ref A_PARTS_0), ("grant", .ref A_PARTS_1), ("end", .ref A_PARTS_2), ("use", .ref A_PARTS_3)])
    (sAPARTS : (A_PARTS == sysModules) = false)
    (lBPARTS_0 : K.lookup A_PARTS_0 = some ot_PARTS_0)
    (dBPARTS_0 : ot_PARTS_0.cls = .type "tuple" ∧ ot_PARTS_0.data = .seq ov_PARTS_0 om_PARTS_0)
    (vBPARTS_0 : Vals [.str "day", .str "stretch", .str "hand"] ov_PARTS_0.toList)
    (zBPARTS_0 : ov_PARTS_0.size ≤ sizeLine)
    (lBPARTS_1 : K.lookup A_PARTS_1 = some ot_PARTS_1)
    (dBPARTS_1 : ot_PARTS_1.cls = .type "tuple" ∧ ot_PARTS_1.data = .seq ov_PARTS_1 om_PARTS_1)
    (vBPARTS_1 : Vals [.str "day", .str "hand", .str "stretch", .str "stretch"] ov_PARTS_1.toList)
    (zBPARTS_1 : ov_PARTS_1.size ≤ sizeLine)
    (lBPARTS_2 : K.lookup A_PARTS_2 = some ot_PARTS_2)
    (dBPARTS_2 : ot_PARTS_2.cls = .type "tuple" ∧ ot_PARTS_2.data = .seq ov_PARTS_2 om_PARTS_2)
    (vBPARTS_2 : Vals [.str "day", .str "hand", .str "stretch", .str "stretch"] ov_PARTS_2.toList)
    (zBPARTS_2 : ov_PARTS_2.size ≤ sizeLine)
    (lBPARTS_3 : K.lookup A_PARTS_3 = some ot_PARTS_3)
    (dBPARTS_3 : ot_PARTS_3.cls = .type "tuple" ∧ ot_PARTS_3.data = .seq ov_PARTS_3 om_PARTS_3)
    (vBPARTS_3 : Vals [.str "day", .str "last", .str "stretch", .str "stretch", .str "leave"] ov_PARTS_3.toList)
    (zBPARTS_3 : ov_PARTS_3.size ≤ sizeLine)
    (c_MOST_LETTERS : PySem.W.nsIn K mainGlobals "MOST_LETTERS" = some (some (.int 8 t_MOST_LETTERS)))
    (c_LAST_DAY : PySem.W.nsIn K mainGlobals "LAST_DAY" = some (some (.int 1000000000000000000000000000000 t_LAST_DAY)))
    (c_MOST_FIGURES : PySem.W.nsIn K mainGlobals "MOST_FIGURES" = some (some (.int 60 t_MOST_FIGURES))) :
    ∃ fd : FuncData, (∀ (s : Shared) (v : Value), BindsTo s fd ⟨[v], []⟩ [("script", v)]) ∧ ∀ base : Heap, K.In base → base.Ns mainGlobals mg → FnG l.prog w K mg base 7 fa fd ["script"] (sp_law K) := by
  have e := hfa.symm.trans (PySem.W.mg_of X G a23)
  cases e
  have F0 := fun_mk (st := s_is_whole) l0 p0 k0
  have F1 := fun_mk (st := s_is_hand) l1 p1 k1
  have F2 := fun_mk (st := s_parts_of) l2 p2 k2
  have F3 := fun_mk (st := s_is_day) l3 p3 k3
  have F4 := fun_mk (st := s_show_deed) l4 p4 k4
  have F5 := fun_mk (st := s_read_deed) l5 p5 k5
  have F6 := fun_mk (st := s_read_number) l6 p6 k6
  have F7 := fun_mk (st := s__read_part) l7 p7 k7
  have F8 := fun_mk (st := s__read_leave) l8 p8 k8
  have F9 := fun_mk (st := s__read_stretch) l9 p9 k9
  have F10 := fun_mk (st := s__law_bag) l10 p10 k10
  have F11 := fun_mk (st := s__law_take) l11 p11 k11
  have F12 := fun_mk (st := s__law_names) l12 p12 k12
  have F13 := fun_mk (st := s__law_number_text) l13 p13 k13
  have F14 := fun_mk (st := s__law_any_stretch) l14 p14 k14
  have F15 := fun_mk (st := s__law_any_deed) l15 p15 k15
  have F16 := fun_mk (st := s__law_number_in) l16 p16 k16
  have F17 := fun_mk (st := s__law_is_kind) l17 p17 k17
  have F18 := fun_mk (st := s__law_place) l18 p18 k18
  have F19 := fun_mk (st := s__law_odd_words) l19 p19 k19
  have F20 := fun_mk (st := s__law_told) l20 p20 k20
  have F21 := fun_mk (st := s__law_due) l21 p21 k21
  have F22 := fun_mk (st := s__law_right) l22 p22 k22
  have F23 := fun_mk (st := s_law) l23 p23 k23
  have FeNoText := fun_mk (st := se_NoText) elNoText epNoText ekNoText
  exact ⟨_, fun s v => .of_eq rfl, fun base _ _ => ok_law (Z := ⟨C_NoCell, C_NoDay, C_NoDeed, C_NoHand, C_NoLand, C_TooMany, C_Unlike, C_NoText, A_PARTS, A_PARTS_0, A_PARTS_1, A_PARTS_2, A_PARTS_3⟩) ⟨F0, PySem.W.mg_of X G a0, F0.binds (ps := ["thing"]) fun _ _ _ _ _ _ us hl => match us, hl with | [_], _ => rfl, F1, PySem.W.mg_of X G a1, F1.binds (ps := ["thing"]) fun _ _ _ _ _ _ us hl => match us, hl with | [_], _ => rfl, F2, PySem.W.mg_of X G a2, F2.binds (ps := ["word"]) fun _ _ _ _ _ _ us hl => match us, hl with | [_], _ => rfl, F3, PySem.W.mg_of X G a3, F3.binds (ps := ["thing"]) fun _ _ _ _ _ _ us hl => match us, hl with | [_], _ => rfl, F4, PySem.W.mg_of X G a4, F4.binds (ps := ["deed"]) fun _ _ _ _ _ _ us hl => match us, hl with | [_], _ => rfl, F5, PySem.W.mg_of X G a5, F5.binds (ps := ["text"]) fun _ _ _ _ _ _ us hl => match us, hl with | [_], _ => rfl, F6, PySem.W.mg_of X G a6, F6.binds (ps := ["word"]) fun _ _ _ _ _ _ us hl => match us, hl with | [_], _ => rfl, F7, PySem.W.mg_of X G a7, F7.binds (ps := ["part", "words", "deed"]) fun _ _ _ _ _ _ us hl => match us, hl with | [_, _, _], _ => rfl, F8, PySem.W.mg_of X G a8, F8.binds (ps := ["word"]) fun _ _ _ _ _ _ us hl => match us, hl with | [_], _ => rfl, F9, PySem.W.mg_of X G a9, F9.binds (ps := ["word"]) fun _ _ _ _ _ _ us hl => match us, hl with | [_], _ => rfl, F10, PySem.W.mg_of X G a10, F10.binds (ps := ["script", "at"]) fun _ _ _ _ _ _ us hl => match us, hl with | [_, _], _ => rfl, F11, PySem.W.mg_of X G a11, F11.binds (ps := ["bag", "size"]) fun _ _ _ _ _ _ us hl => match us, hl with | [_, _], _ => rfl, F12, PySem.W.mg_of X G a12, F12.binds (ps := ["bag", "size"]) fun _ _ _ _ _ _ us hl => match us, hl with | [_, _], _ => rfl, F13, PySem.W.mg_of X G a13, F13.binds (ps := ["bag", "most"]) fun _ _ _ _ _ _ us hl => match us, hl with | [_, _], _ => rfl, F14, PySem.W.mg_of X G a14, F14.binds (ps := ["bag"]) fun _ _ _ _ _ _ us hl => match us, hl with | [_], _ => rfl, F15, PySem.W.mg_of X G a15, F15.binds (ps := ["bag"]) fun _ _ _ _ _ _ us hl => match us, hl with | [_], _ => rfl, F16, PySem.W.mg_of X G a16, F16.binds (ps := ["word"]) fun _ _ _ _ _ _ us hl => match us, hl with | [_], _ => rfl, F17, PySem.W.mg_of X G a17, F17.binds (ps := ["word", "kind", "found"]) fun _ _ _ _ _ _ us hl => match us, hl with | [_, _, _], _ => rfl, F18, PySem.W.mg_of X G a18, F18.binds (ps := ["words", "begin"]) fun _ _ _ _ _ _ us hl => match us, hl with | [_, _], _ => rfl, F19, PySem.W.mg_of X G a19, F19.binds (ps := ["bag", "words"]) fun _ _ _ _ _ _ us hl => match us, hl with | [_, _], _ => rfl, F20, PySem.W.mg_of X G a20, F20.binds (ps := ["thing"]) fun _ _ _ _ _ _ us hl => match us, hl with | [_], _ => rfl, F21, PySem.W.mg_of X G a21, F21.binds (ps := ["text"]) fun _ _ _ _ _ _ us hl => match us, hl with | [_], _ => rfl, F22, PySem.W.mg_of X G a22, F22.binds (ps := ["bag"]) fun _ _ _ _ _ _ us hl => match us, hl with | [_], _ => rfl, F23, PySem.W.mg_of X G a23, F23.binds (ps := ["script"]) fun _ _ _ _ _ _ us hl => match us, hl with | [_], _ => rfl, ⟨⟨⟨gaNoText, ggNoText, eCNoText, hCNoText, eaNoText, c6, c7, emNoText⟩, ⟨_, (.cons (.own _) (.cons (.own _) (.cons (.own _) (.cons (.own _) (.cons (.own _) (.cons (.own _) (.cons (.own _) .nil))))))), (kitAny_f (kit_ref ec1NoCell ec2NoCell sCNoText esNoText_NoCell) (kitAny_f (kit_ref ec1NoDay ec2NoDay sCNoText esNoText_NoDay) (kitAny_f (kit_ref ec1NoDeed ec2NoDeed sCNoText esNoText_NoDeed) (kitAny_f (kit_ref ec1NoHand ec2NoHand sCNoText esNoText_NoHand) (kitAny_f (kit_ref ec1NoLand ec2NoLand sCNoText esNoText_NoLand) (kitAny_f (kit_ref ec1TooMany ec2TooMany sCNoText esNoText_TooMany) (kitAny_f (kit_ref ec1Unlike ec2Unlike sCNoText esNoText_Unlike) rfl)))))))⟩, kit_ve evNoText, exm_self eCNoText ec1NoText ec2NoText sCNoText⟩, fun M H => (.cons (.tupK ⟨_, _, _, lBPARTS_0, dBPARTS_0.1, dBPARTS_0.2, zBPARTS_0, vBPARTS_0⟩ (.cons (.str _) (.cons (.str _) (.cons (.str _) .nil))) rfl) (.cons (.tupK ⟨_, _, _, lBPARTS_1, dBPARTS_1.1, dBPARTS_1.2, zBPARTS_1, vBPARTS_1⟩ (.cons (.str _) (.cons (.str _) (.cons (.str _) (.cons (.str _) .nil)))) rfl) (.cons (.tupK ⟨_, _, _, lBPARTS_2, dBPARTS_2.1, dBPARTS_2.2, zBPARTS_2, vBPARTS_2⟩ (.cons (.str _) (.cons (.str _) (.cons (.str _) (.cons (.str _) .nil)))) rfl) (.cons (.tupK ⟨_, _, _, lBPARTS_3, dBPARTS_3.1, dBPARTS_3.2, zBPARTS_3, vBPARTS_3⟩ (.cons (.str _) (.cons (.str _) (.cons (.str _) (.cons (.str _) (.cons (.str _) .nil))))) rfl) .nil))))⟩, PySem.W.mg_of X G gCNoCell, PySem.W.mg_of X G gCNoDay, PySem.W.mg_of X G gCNoDeed, PySem.W.mg_of X G gCNoHand, PySem.W.mg_of X G gCNoLand, PySem.W.mg_of X G gCTooMany, PySem.W.mg_of X G gCUnlike, PySem.W.mg_of X G gCNoText, ⟨⟨⟨_, _, _, _, _, _, _, _, _, _, _, _, _, _, _, xLNoText, by decide +kernel⟩, saNoText, eCNoText, ec2NoText, kCNoText⟩, PySem.W.mg_of X G gCNoText, nbNoText, eiNoText, etNoText, gaNoText, ggNoText, hCNoText⟩, ⟨gaNoText, ggNoText, eCNoText, hCNoText⟩, FeNoText, FeNoText.binds (ps := ["self", "place"]) fun _ _ _ _ _ _ us hl => match us, hl with | [_, _], _ => rfl, ⟨sAPARTS, _, _, _, lAPARTS, dAPARTS.1, dAPARTS.2.1, dAPARTS.2.2, rAPARTS⟩, PySem.W.mg_of X G gAPARTS, PySem.W.mg_none_of X G z_int, PySem.W.mg_none_of X G z_isinstance, PySem.W.mg_none_of X G z_bool, PySem.W.mg_none_of X G z_str, PySem.W.mg_none_of X G z_len, PySem.W.mg_none_of X G z_all, PySem.W.mg_none_of X G z_zip, PySem.W.mg_none_of X G z_tuple, PySem.W.mg_none_of X G z_abs, PySem.W.mg_none_of X G z_range, PySem.W.mg_none_of X G z_min, PySem.W.mg_none_of X G z_sorted, PySem.W.mg_none_of X G z_ValueError, PySem.W.mg_none_of X G z_repr, PySem.W.mg_none_of X G z_list, PySem.W.mg_none_of X G z_max, ⟨_, PySem.W.mg_of X G c_MOST_LETTERS⟩, ⟨_, PySem.W.mg_of X G c_LAST_DAY⟩, ⟨_, PySem.W.mg_of X G c_MOST_FIGURES⟩⟩⟩

end K82
open PySem PySem.W PyProof.Rows in
set_option maxRecDepth 100000 in
set_option maxHeartbeats 0 in
theorem PySem.Challenge.cw_oldways_k82_texts_refused_holds : PySem.Challenge.rw_oldways_k82_texts_refused.Holds := by
  w_on; o_law; k_head; (case hw => w_witness2)
  k_fill
  refine DL.walkG (l := PySem.Challenge.rw_oldways_k82_texts_refused) (n := 63) (k := 7) (x := "script") (sp := fun K => K82.sp_law K) rfl (by decide) rfl ⟨rfl, by decide, by decide⟩ (fun w h Y => PySem.W.kIn_of Y) ?F (fun K H a ns hl ho hS => K82.law_end hl ho hS)
  case F =>
    intro w mg fa h KX G hmg
    refine' K82.all_mk KX G hmg ?a0 ?l0 ?p0 ?k0 ?a1 ?l1 ?p1 ?k1 ?a2 ?l2 ?p2 ?k2 ?a3 ?l3 ?p3 ?k3 ?a4 ?l4 ?p4 ?k4 ?a5 ?l5 ?p5 ?k5 ?a6 ?l6 ?p6 ?k6 ?a7 ?l7 ?p7 ?k7 ?a8 ?l8 ?p8 ?k8 ?a9 ?l9 ?p9 ?k9 ?a10 ?l10 ?p10 ?k10 ?a11 ?l11 ?p11 ?k11 ?a12 ?l12 ?p12 ?k12 ?a13 ?l13 ?p13 ?k13 ?a14 ?l14 ?p14 ?k14 ?a15 ?l15 ?p15 ?k15 ?a16 ?l16 ?p16 ?k16 ?a17 ?l17 ?p17 ?k17 ?a18 ?l18 ?p18 ?k18 ?a19 ?l19 ?p19 ?k19 ?a20 ?l20 ?p20 ?k20 ?a21 ?l21 ?p21 ?k21 ?a22 ?l22 ?p22 ?k22 ?a23 ?l23 ?p23 ?k23 ?gCNoCell ?ec1NoCell ?ec2NoCell ?gCNoDay ?ec1NoDay ?ec2NoDay ?gCNoDeed ?ec1NoDeed ?ec2NoDeed ?gCNoHand ?ec1NoHand ?ec2NoHand ?gCNoLand ?ec1NoLand ?ec2NoLand ?gCTooMany ?ec1TooMany ?ec2TooMany ?gCUnlike ?ec1Unlike ?ec2Unlike ?gCNoText ?ec1NoText ?ec2NoText ?xLNoText ?saNoText ?gaNoText ?ggNoText ?nbNoText ?eiNoText ?etNoText ?elNoText ?epNoText ?ekNoText ?kCNoText ?eCNoText ?hCNoText ?sCNoText ?evNoText ?eaNoText ?emNoText ?esNoText_NoCell ?esNoText_NoDay ?esNoText_NoDeed ?esNoText_NoHand ?esNoText_NoLand ?esNoText_TooMany ?esNoText_Unlike ?z_int ?z_isinstance ?z_bool ?z_str ?z_len ?z_all ?z_zip ?z_tuple ?z_abs ?z_range ?z_min ?z_sorted ?z_ValueError ?z_repr ?z_list ?z_max ?c6 ?c7 ?gAPARTS ?lAPARTS ?dAPARTS ?rAPARTS ?sAPARTS ?lBPARTS_0 ?dBPARTS_0 ?vBPARTS_0 ?zBPARTS_0 ?lBPARTS_1 ?dBPARTS_1 ?vBPARTS_1 ?zBPARTS_1 ?lBPARTS_2 ?dBPARTS_2 ?vBPARTS_2 ?zBPARTS_2 ?lBPARTS_3 ?dBPARTS_3 ?vBPARTS_3 ?zBPARTS_3 ?c_MOST_LETTERS ?c_LAST_DAY ?c_MOST_FIGURES
    (case gCNoCell => k_is)
    (case gCNoDay => k_is)
    (case gCNoDeed => k_is)
    (case gCNoHand => k_is)
    (case gCNoLand => k_is)
    (case gCTooMany => k_is)
    (case gCUnlike => k_is)
    (case gCNoText => k_is)
    (case a0 => k_is)
    (case l0 => k_is)
    (case p0 => k_is)
    (case k0 => k_is)
    (case a1 => k_is)
    (case l1 => k_is)
    (case p1 => k_is)
    (case k1 => k_is)
    (case a2 => k_is)
    (case l2 => k_is)
    (case p2 => k_is)
    (case k2 => k_is)
    (case a3 => k_is)
    (case l3 => k_is)
    (case p3 => k_is)
    (case k3 => k_is)
    (case a4 => k_is)
    (case l4 => k_is)
    (case p4 => k_is)
    (case k4 => k_is)
    (case a5 => k_is)
    (case l5 => k_is)
    (case p5 => k_is)
    (case k5 => k_is)
    (case a6 => k_is)
    (case l6 => k_is)
    (case p6 => k_is)
    (case k6 => k_is)
    (case a7 => k_is)
    (case l7 => k_is)
    (case p7 => k_is)
    (case k7 => k_is)
    (case a8 => k_is)
    (case l8 => k_is)
    (case p8 => k_is)
    (case k8 => k_is)
    (case a9 => k_is)
    (case l9 => k_is)
    (case p9 => k_is)
    (case k9 => k_is)
    (case a10 => k_is)
    (case l10 => k_is)
    (case p10 => k_is)
    (case k10 => k_is)
    (case a11 => k_is)
    (case l11 => k_is)
    (case p11 => k_is)
    (case k11 => k_is)
    (case a12 => k_is)
    (case l12 => k_is)
    (case p12 => k_is)
    (case k12 => k_is)
    (case a13 => k_is)
    (case l13 => k_is)
    (case p13 => k_is)
    (case k13 => k_is)
    (case a14 => k_is)
    (case l14 => k_is)
    (case p14 => k_is)
    (case k14 => k_is)
    (case a15 => k_is)
    (case l15 => k_is)
    (case p15 => k_is)
    (case k15 => k_is)
    (case a16 => k_is)
    (case l16 => k_is)
    (case p16 => k_is)
    (case k16 => k_is)
    (case a17 => k_is)
    (case l17 => k_is)
    (case p17 => k_is)
    (case k17 => k_is)
    (case a18 => k_is)
    (case l18 => k_is)
    (case p18 => k_is)
    (case k18 => k_is)
    (case a19 => k_is)
    (case l19 => k_is)
    (case p19 => k_is)
    (case k19 => k_is)
    (case a20 => k_is)
    (case l20 => k_is)
    (case p20 => k_is)
    (case k20 => k_is)
    (case a21 => k_is)
    (case l21 => k_is)
    (case p21 => k_is)
    (case k21 => k_is)
    (case a22 => k_is)
    (case l22 => k_is)
    (case p22 => k_is)
    (case k22 => k_is)
    (case a23 => k_is)
    (case l23 => k_is)
    (case p23 => k_is)
    (case k23 => k_is)
    (case ec1NoCell => k_is)
    (case ec2NoCell => k_is)
    (case ec1NoDay => k_is)
    (case ec2NoDay => k_is)
    (case ec1NoDeed => k_is)
    (case ec2NoDeed => k_is)
    (case ec1NoHand => k_is)
    (case ec2NoHand => k_is)
    (case ec1NoLand => k_is)
    (case ec2NoLand => k_is)
    (case ec1TooMany => k_is)
    (case ec2TooMany => k_is)
    (case ec1Unlike => k_is)
    (case ec2Unlike => k_is)
    (case ec1NoText => k_is)
    (case ec2NoText => k_is)
    (case xLNoText => k_is)
    (case saNoText => k_is)
    (case gaNoText => k_is)
    (case ggNoText => k_is)
    (case nbNoText => k_is)
    (case eiNoText => k_is)
    (case etNoText => k_is)
    (case elNoText => k_is)
    (case epNoText => k_is)
    (case ekNoText => k_is)
    (case kCNoText => k_is)
    (case eCNoText => k_is)
    (case hCNoText => k_is)
    (case sCNoText => k_is)
    (case evNoText => k_is)
    (case eaNoText => k_is)
    (case emNoText => k_is)
    (case esNoText_NoCell => k_is)
    (case esNoText_NoDay => k_is)
    (case esNoText_NoDeed => k_is)
    (case esNoText_NoHand => k_is)
    (case esNoText_NoLand => k_is)
    (case esNoText_TooMany => k_is)
    (case esNoText_Unlike => k_is)
    (case z_int => k_is)
    (case z_isinstance => k_is)
    (case z_bool => k_is)
    (case z_str => k_is)
    (case z_len => k_is)
    (case z_all => k_is)
    (case z_zip => k_is)
    (case z_tuple => k_is)
    (case z_abs => k_is)
    (case z_range => k_is)
    (case z_min => k_is)
    (case z_sorted => k_is)
    (case z_ValueError => k_is)
    (case z_repr => k_is)
    (case z_list => k_is)
    (case z_max => k_is)
    (case c6 => k_is)
    (case c7 => k_is)
    (case gAPARTS => k_is)
    (case lAPARTS => k_is)
    (case c_MOST_LETTERS => k_is)
    (case c_LAST_DAY => k_is)
    (case c_MOST_FIGURES => k_is)
    (case dAPARTS => exact ⟨rfl, rfl, rfl⟩)
    (case rAPARTS => exact (.cons rfl rfl (.cons rfl rfl (.cons rfl rfl (.cons rfl rfl .nil)))))
    (case sAPARTS => first | rfl | decide | decide +kernel)
    (case lBPARTS_0 => k_is)
    (case dBPARTS_0 => exact ⟨rfl, rfl⟩)
    (case vBPARTS_0 => exact (.cons ⟨_, rfl⟩ (.cons ⟨_, rfl⟩ (.cons ⟨_, rfl⟩ .nil))))
    (case zBPARTS_0 => first | exact Nat.le_of_ble_eq_true rfl | decide)
    (case lBPARTS_1 => k_is)
    (case dBPARTS_1 => exact ⟨rfl, rfl⟩)
    (case vBPARTS_1 => exact (.cons ⟨_, rfl⟩ (.cons ⟨_, rfl⟩ (.cons ⟨_, rfl⟩ (.cons ⟨_, rfl⟩ .nil)))))
    (case zBPARTS_1 => first | exact Nat.le_of_ble_eq_true rfl | decide)
    (case lBPARTS_2 => k_is)
    (case dBPARTS_2 => exact ⟨rfl, rfl⟩)
    (case vBPARTS_2 => exact (.cons ⟨_, rfl⟩ (.cons ⟨_, rfl⟩ (.cons ⟨_, rfl⟩ (.cons ⟨_, rfl⟩ .nil)))))
    (case zBPARTS_2 => first | exact Nat.le_of_ble_eq_true rfl | decide)
    (case lBPARTS_3 => k_is)
    (case dBPARTS_3 => exact ⟨rfl, rfl⟩)
    (case vBPARTS_3 => exact (.cons ⟨_, rfl⟩ (.cons ⟨_, rfl⟩ (.cons ⟨_, rfl⟩ (.cons ⟨_, rfl⟩ (.cons ⟨_, rfl⟩ .nil))))))
    (case zBPARTS_3 => first | exact Nat.le_of_ble_eq_true rfl | decide)
