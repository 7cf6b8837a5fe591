import PyProof.Rows.All
import Wide.All
import OpenK.AllK
import Wide.FinOn
import HandS.Base
import HandS.Call
import HandS.List
import HandS.Comp
import HandS.Ends
import HandS.Iter
import HandS.Text
import HandS.Words
import HandS.WordsList
import HandS.IsInst
import HandS.Defaults
import HandS.TupLe
import HandS.Wide
import HandS.TupAny
import HandS.Deep
import HandS.Sort
import HandS.Style
import HandS.SortRule
import KE.KxText
import HandS.NoneIn
import HandS.SortKw
import HandS.MakeKwOnly
import HandS.FStr
import KE.DataCmp
import HandS.Exc
import HandS.ExcOwn
import HandS.ExcInit
import HandS.ExcField
import HandS.ExcIs
import HandS.WordsExc
import KE.KExcIs
import HandS.Zip
import KE.GoesEnumKw
import KE.GoesEnum
import PySem.Challenge.RW_oldways_k07_deeds_vetted
set_option Elab.async false
set_option linter.all false
set_option maxRecDepth 100000
namespace DL
open PySem PySem.Spec PyProof.Rows L2

/-! ### data -/
inductive D where
  | non | bl (b : Bool) | int (i : Int) | str (x : Str) | lst (xs : List D) | tup (xs : List D) | obj (C : Addr) (fs : List (Str × D))
mutual
def D.py : D → PyData
  | .non => .none
  | .bl b => .bool b
  | .int i => .int i
  | .str x => .str x
  | .lst xs => .list (D.pyAll xs)
  | .tup xs => .tuple (D.pyAll xs)
  | .obj _ _ => .none
def D.pyAll : List D → List PyData
  | [] => []
  | d :: ds => D.py d :: D.pyAll ds
end
mutual
def D.plain : D → Bool
  | .non => true
  | .bl _ => true
  | .int _ => true
  | .str _ => true
  | .lst xs => D.plainAll xs
  | .tup xs => D.plainAll xs
  | .obj _ _ => false
def D.plainAll : List D → Bool
  | [] => true
  | d :: ds => D.plain d && D.plainAll ds
end

abbrev AP := Addr → Prop
def AP.add (M : AP) (a : Addr) : AP := fun b => M b ∨ b = a
def MutO : HO → Prop
  | .lst _ => True
  | .ins _ _ _ => True
  | _ => False

/-- tuples stay -/
structure TK (K : PySem.W.Frag) (H H' : Hp) : Prop where
  t : ∀ a vs, H a = some (.tup vs) → H' a = some (.tup vs)
  s : ∀ a vs, SqT K H a vs → SqT K H' a vs
theorem TK.refl (K : PySem.W.Frag) (H : Hp) : TK K H H := ⟨fun _ _ h => h, fun _ _ h => h⟩
/-- a tuple of the module's own objects, as it stands in K -/
def TupK (K : PySem.W.Frag) (a : Addr) (xs : List V) : Prop := ∃ o its n, K.lookup a = some o ∧ o.cls = .type "tuple" ∧ o.data = .seq its n ∧ its.size ≤ sizeLine ∧ Vals xs its.toList
def D.txt : List D → Bool
  | [] => true
  | .str _ :: ds => D.txt ds
  | _ :: _ => false
mutual
inductive Is (K : PySem.W.Frag) (M : AP) (H : Hp) : V → D → Prop
  | non : Is K M H .non .non
  | bl (b : Bool) : Is K M H (.bl b) (.bl b)
  | int (i : Int) : Is K M H (.int i) (.int i)
  | str (x : Str) : Is K M H (.str x) (.str x)
  | lst {a : Addr} {vs : List V} {ds : List D} : H a = some (.lst vs) → ¬ M a → IsAll K M H vs ds → Is K M H (.ref a) (.lst ds)
  | tup {a : Addr} {vs : List V} {ds : List D} : H a = some (.tup vs) → IsAll K M H vs ds → Is K M H (.ref a) (.tup ds)
  | tup0 {a : Addr} : SqT K H a [] → Is K M H (.ref a) (.tup [])
  | tupK {a : Addr} {vs : List V} {ds : List D} : TupK K a vs → IsAll K M H vs ds → D.txt ds = true → Is K M H (.ref a) (.tup ds)
  | obj {a C dx : Addr} {fs : List (Str × V)} {ds : List (Str × D)} : H a = some (.ins C dx fs) → ¬ M a → IsFs K M H fs ds → Is K M H (.ref a) (.obj C ds)
inductive IsAll (K : PySem.W.Frag) (M : AP) (H : Hp) : List V → List D → Prop
  | nil : IsAll K M H [] []
  | cons {v : V} {vs : List V} {d : D} {ds : List D} : Is K M H v d → IsAll K M H vs ds → IsAll K M H (v :: vs) (d :: ds)
inductive IsFs (K : PySem.W.Frag) (M : AP) (H : Hp) : List (Str × V) → List (Str × D) → Prop
  | nil : IsFs K M H [] []
  | cons {x : Str} {v : V} {vs : List (Str × V)} {d : D} {ds : List (Str × D)} : Is K M H v d → IsFs K M H vs ds → IsFs K M H ((x, v) :: vs) ((x, d) :: ds)
end
section
variable {K : PySem.W.Frag} {M M' : AP} {H H' : Hp}
mutual
theorem Is.chg (k1 : ∀ a o, H a = some o → ¬ M a → H' a = some o ∧ ¬ M' a) (k2 : TK K H H') : ∀ (d : D) (v : V), Is K M H v d → Is K M' H' v d
  | .non, _, h => by cases h; exact .non
  | .bl _, _, h => by cases h; exact .bl _
  | .int _, _, h => by cases h; exact .int _
  | .str _, _, h => by cases h; exact .str _
  | .lst ds, _, h => by
    cases h with
    | lst h1 h2 h3 => exact .lst (k1 _ _ h1 h2).1 (k1 _ _ h1 h2).2 (IsAll.chg k1 k2 ds _ h3)
  | .tup ds, _, h => by
    cases h with
    | tup h1 h3 => exact .tup (k2.t _ _ h1) (IsAll.chg k1 k2 ds _ h3)
    | tup0 h1 => exact .tup0 (k2.s _ _ h1)
    | tupK h1 h3 h4 => exact .tupK h1 (IsAll.chg k1 k2 ds _ h3) h4
  | .obj C ds, _, h => by
    cases h with
    | obj h1 h2 h3 => exact .obj (k1 _ _ h1 h2).1 (k1 _ _ h1 h2).2 (IsFs.chg k1 k2 ds _ h3)
theorem IsAll.chg (k1 : ∀ a o, H a = some o → ¬ M a → H' a = some o ∧ ¬ M' a) (k2 : TK K H H') : ∀ (ds : List D) (vs : List V), IsAll K M H vs ds → IsAll K M' H' vs ds
  | [], _, h => by cases h; exact .nil
  | d :: ds, _, h => by
    cases h with
    | cons h1 h2 => exact .cons (Is.chg k1 k2 d _ h1) (IsAll.chg k1 k2 ds _ h2)
theorem IsFs.chg (k1 : ∀ a o, H a = some o → ¬ M a → H' a = some o ∧ ¬ M' a) (k2 : TK K H H') : ∀ (ds : List (Str × D)) (vs : List (Str × V)), IsFs K M H vs ds → IsFs K M' H' vs ds
  | [], _, h => by cases h; exact .nil
  | (x, d) :: ds, _, h => by
    cases h with
    | cons h1 h2 => exact .cons (Is.chg k1 k2 d _ h1) (IsFs.chg k1 k2 ds _ h2)
end
mutual
theorem Is.dp : ∀ (d : D) (v : V), Is K M H v d → d.plain = true → Dp K H v d.py
  | .non, _, h, _ => by cases h; exact .non
  | .bl _, _, h, _ => by cases h; exact .bl _
  | .int _, _, h, _ => by cases h; exact .int _
  | .str _, _, h, _ => by cases h; exact .str _
  | .lst ds, _, h, p => by
    cases h with
    | lst h1 h2 h3 => exact .lst (.inl (.inl h1)) (IsAll.dp ds _ h3 p)
  | .tup ds, _, h, p => by
    cases h with
    | tup h1 h3 => exact .tup (.inl (.inl h1)) (IsAll.dp ds _ h3 p)
    | tup0 h1 => exact .tup h1 .nil
    | tupK h1 h3 _ => exact .tup (.inr h1) (IsAll.dp ds _ h3 p)
  | .obj C ds, _, h, p => by cases p
theorem IsAll.dp : ∀ (ds : List D) (vs : List V), IsAll K M H vs ds → D.plainAll ds = true → DpAll K H vs (D.pyAll ds)
  | [], _, h, _ => by cases h; exact .nil
  | d :: ds, _, h, p => by
    have p' : (D.plain d && D.plainAll ds) = true := p
    rw [Bool.and_eq_true] at p'
    cases h with
    | cons h1 h2 => exact .cons (Is.dp d _ h1 p'.1) (IsAll.dp ds _ h2 p'.2)
end
theorem IsAll.len : ∀ {ds : List D} {vs : List V}, IsAll K M H vs ds → vs.length = ds.length
  | _, _, .nil => rfl
  | _, _, .cons _ h => congrArg (· + 1) h.len
theorem IsAll.get : ∀ {ds : List D} {vs : List V} {i : Nat} {d : D}, IsAll K M H vs ds → ds[i]? = some d → ∃ v, vs[i]? = some v ∧ Is K M H v d
  | _, _, _, _, .nil, e => by simp at e
  | _, _, 0, _, .cons h _, e => by simp at e; subst e; exact ⟨_, rfl, h⟩
  | _, _, i + 1, _, .cons _ h, e => by
    obtain ⟨v, h1, h2⟩ := IsAll.get (i := i) h (by simpa using e)
    exact ⟨v, by simpa using h1, h2⟩
theorem IsAll.getV {ds : List D} {vs : List V} {i : Nat} {v : V} (h : IsAll K M H vs ds) (e : vs[i]? = some v) : ∃ d, ds[i]? = some d ∧ Is K M H v d := by
  have hi : i < ds.length := by
    have := (List.getElem?_eq_some_iff.mp e).1
    rw [h.len] at this
    exact this
  obtain ⟨w, e1, h1⟩ := h.get (List.getElem?_eq_getElem hi)
  rw [e] at e1
  cases e1
  exact ⟨_, List.getElem?_eq_getElem hi, h1⟩
theorem IsAll.append : ∀ {ds es : List D} {vs ws : List V}, IsAll K M H vs ds → IsAll K M H ws es → IsAll K M H (vs ++ ws) (ds ++ es)
  | _, _, _, _, .nil, s => s
  | _, _, _, _, .cons r t, s => .cons r (IsAll.append t s)
theorem IsAll.take : ∀ {ds : List D} {vs : List V} (n : Nat), IsAll K M H vs ds → IsAll K M H (vs.take n) (ds.take n)
  | _, _, 0, _ => .nil
  | _, _, _ + 1, .nil => .nil
  | _, _, n + 1, .cons r t => .cons r (IsAll.take n t)
theorem IsAll.drop : ∀ {ds : List D} {vs : List V} (n : Nat), IsAll K M H vs ds → IsAll K M H (vs.drop n) (ds.drop n)
  | _, _, 0, r => r
  | _, _, _ + 1, .nil => .nil
  | _, _, n + 1, .cons _ t => IsAll.drop n t
theorem IsAll.set {d : D} {v : V} (r : Is K M H v d) : ∀ {ds : List D} {vs : List V} (i : Nat), IsAll K M H vs ds → IsAll K M H (vs.set i v) (ds.set i d)
  | _, _, _, .nil => .nil
  | _, _, 0, .cons _ t => .cons r t
  | _, _, i + 1, .cons q t => .cons q (IsAll.set r i t)
theorem IsAll.ints : ∀ (ns : List Int), IsAll K M H (ns.map V.int) (ns.map D.int)
  | [] => .nil
  | n :: ns => .cons (.int n) (IsAll.ints ns)
theorem IsAll.ofInts : ∀ {ns : List Int} {vs : List V}, IsAll K M H vs (ns.map D.int) → vs = ns.map V.int
  | [], _, h => by cases h; rfl
  | n :: ns, _, h => by
    cases h with
    | cons h1 h2 =>
      cases h1
      rw [List.map_cons, IsAll.ofInts h2]
theorem IsAll.ofStrs : ∀ {ns : List Str} {vs : List V}, IsAll K M H vs (ns.map D.str) → vs = ns.map V.str
  | [], _, h => by cases h; rfl
  | n :: ns, _, h => by
    cases h with
    | cons h1 h2 =>
      cases h1
      rw [List.map_cons, IsAll.ofStrs h2]
theorem IsAll.ofBls : ∀ {ns : List Bool} {vs : List V}, IsAll K M H vs (ns.map D.bl) → vs = ns.map V.bl
  | [], _, h => by cases h; rfl
  | n :: ns, _, h => by
    cases h with
    | cons h1 h2 =>
      cases h1
      rw [List.map_cons, IsAll.ofBls h2]
theorem IsFs.look {f : Str} : ∀ {ds : List (Str × D)} {vs : List (Str × V)} {d : D}, IsFs K M H vs ds → ds.lookup f = some d → ∃ v, vs.lookup f = some v ∧ Is K M H v d
  | _, _, _, .nil, e => by simp at e
  | _, _, _, .cons (x := x) h t, e => by
    rw [List.lookup_cons] at e
    rw [List.lookup_cons]
    cases hx : (f == x) with
    | true =>
      rw [hx] at e
      cases e
      exact ⟨_, rfl, h⟩
    | false =>
      rw [hx] at e
      exact IsFs.look t e
theorem IsFs.lookN {f : Str} : ∀ {ds : List (Str × D)} {vs : List (Str × V)}, IsFs K M H vs ds → ds.lookup f = none → vs.lookup f = none
  | _, _, .nil, e => rfl
  | _, _, .cons (x := x) h t, e => by
    rw [List.lookup_cons] at e
    rw [List.lookup_cons]
    cases hx : (f == x) with
    | true =>
      rw [hx] at e
      cases e
    | false =>
      rw [hx] at e
      exact IsFs.lookN t e
end

/-! ### bags, what is kept -/
def BagAt (H : Hp) (a : Addr) : Prop := ∃ g m : Int, H a = some (.lst [.int g, .int m])
structure Kp (L : AP) (H H' : Hp) : Prop where
  k : ∀ a o, ¬ L a → H a = some o → H' a = some o
  b : ∀ a, L a → BagAt H' a
structure Bs (L M : AP) (H : Hp) : Prop where
  lm : ∀ a, L a → M a
  tr : ∀ a o, M a → H a = some o → MutO o
  tk : ∀ a, M a → ∃ o, H a = some o
  bag : ∀ a, L a → BagAt H a
theorem sqt_keep {K : PySem.W.Frag} {M : AP} {H H' : Hp} (k : ∀ a o, ¬ M a → H a = some o → H' a = some o) (tr : ∀ a o, M a → H a = some o → MutO o) : TK K H H' := by
  have kt : ∀ a vs, H a = some (.tup vs) → H' a = some (.tup vs) := fun a vs h => k a _ (fun m => tr a _ m h) h
  refine ⟨kt, fun a vs h => ?_⟩
  rcases h with (h | ⟨o, h⟩) | h
  · exact .inl (.inl (kt a vs h))
  · exact .inl (.inr ⟨o, k a _ (fun m => tr a _ m h) h⟩)
  · exact .inr h
/-- a tuple as it is read -/
theorem Is.tupS {K : PySem.W.Frag} {M : AP} {H : Hp} {v : V} {ds : List D} (h : Is K M H v (.tup ds)) : ∃ a vs, v = .ref a ∧ SqT K H a vs ∧ IsAll K M H vs ds := by
  cases h with
  | tup h1 h2 => exact ⟨_, _, rfl, .inl (.inl h1), h2⟩
  | tup0 h1 => exact ⟨_, _, rfl, h1, .nil⟩
  | tupK h1 h2 _ => exact ⟨_, _, rfl, .inr h1, h2⟩
section
variable {K : PySem.W.Frag} {L M M' : AP} {H H1 H2 H' : Hp}
theorem Kp.refl (bs : Bs L M H) : Kp L H H := ⟨fun _ _ _ h => h, bs.bag⟩
theorem Kp.trans (a : Kp L H H1) (b : Kp L H1 H2) : Kp L H H2 := ⟨fun x o l h => b.k x o l (a.k x o l h), b.b⟩
theorem Kp.bs (k : Kp L H H') (bs : Bs L M H) : Bs L M H' where
  lm := bs.lm
  tr := fun a o m e => by
    by_cases l : L a
    · obtain ⟨g, m', q⟩ := k.b a l
      rw [q] at e; cases e; exact True.intro
    · obtain ⟨o', q⟩ := bs.tk a m
      have q' := k.k a o' l q
      rw [q'] at e; cases e; exact bs.tr a _ m q
  tk := fun a m => by
    by_cases l : L a
    · obtain ⟨g, m', q⟩ := k.b a l
      exact ⟨_, q⟩
    · obtain ⟨o', q⟩ := bs.tk a m
      exact ⟨_, k.k a o' l q⟩
  bag := k.b
theorem Kp.was (k : Kp L H H') {a : Addr} (h : H' a = none) : H a = none := by
  cases q : H a with
  | none => rfl
  | some o =>
    by_cases l : L a
    · obtain ⟨g, m', e⟩ := k.b a l
      rw [h] at e; cases e
    · rw [k.k a o l q] at h; cases h
theorem Kp.new (bs : Bs L M H) {p : Addr} {o : HO} (h : H p = none) : Kp L H (upd H p o) := ⟨fun a u _ e => by
    rw [upd_ne (ne_of_none e h)]; exact e, fun a l => by
    obtain ⟨g, m, e⟩ := bs.bag a l
    exact ⟨g, m, by rw [upd_ne (ne_of_none e h)]; exact e⟩⟩
theorem Is.kp (k : Kp L H H') (bs : Bs L M H) {d : D} {v : V} (h : Is K M H v d) : Is K M H' v d :=
  Is.chg (fun a o e m => ⟨k.k a o (fun l => m (bs.lm a l)) e, m⟩) (sqt_keep (M := M) (fun a o m e => k.k a o (fun l => m (bs.lm a l)) e) bs.tr) d v h
theorem IsAll.kp (k : Kp L H H') (bs : Bs L M H) {d : List D} {v : List V} (h : IsAll K M H v d) : IsAll K M H' v d :=
  IsAll.chg (fun a o e m => ⟨k.k a o (fun l => m (bs.lm a l)) e, m⟩) (sqt_keep (M := M) (fun a o m e => k.k a o (fun l => m (bs.lm a l)) e) bs.tr) d v h
/-- other mutable ones, the heap as it is -/
theorem Is.sub (h : ∀ a, M' a → M a) {d : D} {v : V} (x : Is K M H v d) : Is K M' H v d := Is.chg (fun a o e m => ⟨e, fun q => m (h a q)⟩) (TK.refl K H) d v x
theorem IsAll.sub (h : ∀ a, M' a → M a) {d : List D} {v : List V} (x : IsAll K M H v d) : IsAll K M' H v d := IsAll.chg (fun a o e m => ⟨e, fun q => m (h a q)⟩) (TK.refl K H) d v x
theorem Is.add {a : Addr} (h : H a = none) {d : D} {v : V} (x : Is K M H v d) : Is K (M.add a) H v d := Is.chg (fun b o e m => ⟨e, fun q => q.elim m fun z => by subst z; rw [h] at e; cases e⟩) (TK.refl K H) d v x
theorem IsAll.add {a : Addr} (h : H a = none) {d : List D} {v : List V} (x : IsAll K M H v d) : IsAll K (M.add a) H v d := IsAll.chg (fun b o e m => ⟨e, fun q => q.elim m fun z => by subst z; rw [h] at e; cases e⟩) (TK.refl K H) d v x
theorem AP.sub_add {a : Addr} : ∀ b, M b → (M.add a) b := fun _ h => .inl h
theorem Bs.add (bs : Bs L M H) {a : Addr} {xs : List V} (h : H a = some (.lst xs)) : Bs L (M.add a) H where
  lm := fun b l => .inl (bs.lm b l)
  tr := fun b o m e => m.elim (fun z => bs.tr b o z e) fun z => by subst z; rw [h] at e; cases e; exact True.intro
  tk := fun b m => m.elim (fun z => bs.tk b z) fun z => by subst z; exact ⟨_, h⟩
  bag := bs.bag
end

/-! ### what a name holds -/
inductive SV where
  | d (x : D) | own (xs : List D) | new (xs : List D) | bag | scr (ns : List Int) | rng (lo hi : Int) | ty (n : String) | cls (C : Addr)
/-- the script: locked, or one of the module's lists -/
def Scr (K : PySem.W.Frag) (H : Hp) (a : Addr) (ns : List Int) : Prop := (∃ o, H a = some (.frz o (.lst (ns.map V.int)))) ∨ SqL K (fun _ => none) a (ns.map V.int)
theorem Scr.sql {K : PySem.W.Frag} {H : Hp} {a : Addr} {ns : List Int} (h : Scr K H a ns) : SqL K H a (ns.map V.int) := by
  rcases h with ⟨o, h⟩ | (h | ⟨o, h⟩) | h
  · exact .inl (.inr ⟨o, h⟩)
  · cases h
  · cases h
  · exact .inr h
theorem Scr.keep {K : PySem.W.Frag} {H H' : Hp} {a : Addr} {ns : List Int} (k : ∀ b o u, H b = some (.frz o u) → H' b = some (.frz o u)) (h : Scr K H a ns) : Scr K H' a ns := by
  rcases h with ⟨o, h⟩ | h
  · exact .inl ⟨o, k _ _ _ h⟩
  · exact .inr h
def SvOk (K : PySem.W.Frag) (N M L : AP) (H0 H : Hp) (v : V) : SV → Prop
  | .d x => Is K M H v x
  | .own xs => ∃ a vs, v = .ref a ∧ M a ∧ N a ∧ ¬ L a ∧ H a = some (.lst vs) ∧ IsAll K M H vs xs
  | .new xs => ∃ a vs, v = .ref a ∧ H0 a = none ∧ H a = some (.lst vs) ∧ IsAll K (M.add a) H vs xs
  | .bag => ∃ a, v = .ref a ∧ L a
  | .scr ns => ∃ a, v = .ref a ∧ Scr K H a ns
  | .rng lo hi => ∃ a, v = .ref a ∧ H a = some (.rng lo hi)
  | .ty n => v = .ty n
  | .cls C => v = .ref C
/-- a list or a tuple that a loop goes over -/
structure Pin where
  a : Addr
  vs : List V
  ds : List D
  tup : Bool
def PinOk (K : PySem.W.Frag) (M : AP) (H : Hp) (p : Pin) : Prop := (if p.tup = true then SqT K H p.a p.vs else H p.a = some (.lst p.vs) ∧ ¬ M p.a) ∧ IsAll K M H p.vs p.ds
theorem PinOk.chg {K : PySem.W.Frag} {M M' : AP} {H H' : Hp} (k1 : ∀ a o, H a = some o → ¬ M a → H' a = some o ∧ ¬ M' a) (k2 : TK K H H') {p : Pin} (h : PinOk K M H p) : PinOk K M' H' p := by
  refine ⟨?_, IsAll.chg k1 k2 _ _ h.2⟩
  have h1 := h.1
  by_cases t : p.tup = true
  · rw [if_pos t] at h1 ⊢
    exact k2.s _ _ h1
  · rw [if_neg t] at h1 ⊢
    exact k1 _ _ h1.1 h1.2
abbrev Env' := List (Option SV)
structure Sts (K : PySem.W.Frag) (P : List Pin) (N M L : AP) (σ : L2.St) (H : Hp) (es : Env') : Prop where
  bs : Bs L M H
  len : σ.length = es.length
  ok : ∀ (i : Nat) (s : SV), es[i]? = some (some s) → ∃ v, σ[i]? = some (some v) ∧ SvOk K N M L H H v s
  pin : ∀ p ∈ P, PinOk K M H p
  sep : ∀ (i j : Nat) (a : Addr) (xs ys : List D), i ≠ j → es[i]? = some (some (.own xs)) → es[j]? = some (some (.own ys)) → σ[i]? = some (some (.ref a)) → σ[j]? ≠ some (some (.ref a))
section
variable {K : PySem.W.Frag} {N L M M' : AP} {H0 H H1 H2 H' : Hp}
theorem frz_keep (k : Kp L H H') (bs : Bs L M H) : ∀ b o u, H b = some (.frz o u) → H' b = some (.frz o u) := fun b o u e => k.k b _ (fun l => bs.tr b _ (bs.lm b l) e) e
theorem SvOk.kp (bs0 : Bs L M H0) (k0 : Kp L H0 H) (k : Kp L H H') {v : V} {s : SV} (h : SvOk K N M L H0 H v s) : SvOk K N M L H0 H' v s := by
  have bs := k0.bs bs0
  cases s with
  | d x => exact Is.kp k bs h
  | own xs =>
    obtain ⟨a, vs, e, m, n, l, h1, h2⟩ := h
    exact ⟨a, vs, e, m, n, l, k.k _ _ l h1, IsAll.kp k bs h2⟩
  | new xs =>
    obtain ⟨a, vs, e, n, h1, h2⟩ := h
    have l : ¬ L a := fun l => by
      obtain ⟨g, m, q⟩ := bs0.bag a l
      rw [n] at q; cases q
    exact ⟨a, vs, e, n, k.k _ _ l h1, IsAll.kp k (bs.add h1) h2⟩
  | bag => exact h
  | scr ns =>
    obtain ⟨a, e, h1⟩ := h
    exact ⟨a, e, h1.keep (frz_keep k bs)⟩
  | rng lo hi =>
    obtain ⟨a, e, h1⟩ := h
    exact ⟨a, e, k.k _ _ (fun l => by obtain ⟨g, m, q⟩ := bs.bag a l; rw [h1] at q; cases q) h1⟩
  | ty n => exact h
  | cls C => exact h
/-- a base farther back -/
theorem SvOk.back (k0 : Kp L H0 H1) {v : V} {s : SV} (h : SvOk K N M L H1 H v s) : SvOk K N M L H0 H v s := by
  cases s with
  | new xs =>
    obtain ⟨a, vs, e, n, h1, h2⟩ := h
    exact ⟨a, vs, e, k0.was n, h1, h2⟩
  | _ => exact h
theorem Sts.kp (S : Sts K P N M L σ H es) (k : Kp L H H') : Sts K P N M L σ H' es where
  bs := k.bs S.bs
  len := S.len
  ok := fun i s e => by
    obtain ⟨v, h1, h2⟩ := S.ok i s e
    refine ⟨v, h1, ?_⟩
    have := SvOk.kp S.bs (Kp.refl S.bs) k h2
    cases s with
    | new xs =>
      obtain ⟨a, vs, e, n, h1, h2⟩ := h2
      rw [n] at h1; cases h1
    | _ => exact this
  pin := fun p hp => PinOk.chg (fun a o e m => ⟨k.k a o (fun l => m (S.bs.lm a l)) e, m⟩) (sqt_keep (M := M) (fun a o m e => k.k a o (fun l => m (S.bs.lm a l)) e) S.bs.tr) (S.pin p hp)
  sep := S.sep
end

/-! ### the judgements over data -/
def DE (K : PySem.W.Frag) (te : TE) (es : Env') (Q : SV → Prop) : Prop :=
  ∀ P N M L σ H, Sts K P N M L σ H es → ∀ R : VK, (∀ s v H', Kp L H H' → SvOk K N M L H H' v s → Q s → R v H') → te σ H R
def DT (K : PySem.W.Frag) (tt : TT) (es : Env') (Q : Bool → Prop) : Prop :=
  ∀ P N M L σ H, Sts K P N M L σ H es → ∀ R : Bool → Hp → Prop, (∀ b H', Kp L H H' → Q b → R b H') → tt σ H R
inductive SvAll (K : PySem.W.Frag) (N M L : AP) (H0 H : Hp) : List V → List SV → Prop
  | nil : SvAll K N M L H0 H [] []
  | cons {v : V} {s : SV} {vs : List V} {ss : List SV} : SvOk K N M L H0 H v s → SvAll K N M L H0 H vs ss → SvAll K N M L H0 H (v :: vs) (s :: ss)
def DA (K : PySem.W.Frag) (ta : TA) (es : Env') (Q : List SV → Prop) : Prop :=
  ∀ P N M L σ H, Sts K P N M L σ H es → ∀ R : List V → Hp → Prop, (∀ ss vs H', Kp L H H' → SvAll K N M L H H' vs ss → Q ss → R vs H') → ta σ H R
/-- operators, calls by values -/
def RR (K : PySem.W.Frag) (r : R2) (s1 s2 : SV) (Q : SV → Prop) : Prop :=
  ∀ N M L H0 H v1 v2, Bs L M H0 → Kp L H0 H → SvOk K N M L H0 H v1 s1 → SvOk K N M L H0 H v2 s2 → ∀ R : VK, (∀ s v H', Kp L H H' → SvOk K N M L H0 H' v s → Q s → R v H') → r v1 v2 H R
def RU (K : PySem.W.Frag) (r : V → Hp → VK → Prop) (s1 : SV) (Q : SV → Prop) : Prop :=
  ∀ N M L H0 H v1, Bs L M H0 → Kp L H0 H → SvOk K N M L H0 H v1 s1 → ∀ R : VK, (∀ s v H', Kp L H H' → SvOk K N M L H0 H' v s → Q s → R v H') → r v1 H R
def RC (K : PySem.W.Frag) (r : List V → Hp → VK → Prop) (ss : List SV) (Q : SV → Prop) : Prop :=
  ∀ N M L H0 H vs, Bs L M H0 → Kp L H0 H → SvAll K N M L H0 H vs ss → ∀ R : VK, (∀ s v H', Kp L H H' → SvOk K N M L H0 H' v s → Q s → R v H') → r vs H R
section
variable {K : PySem.W.Frag} {N L M : AP} {H0 H1 H H' : Hp} {σ : L2.St} {es : Env'} {ta tb tc te : TE} {tt tu : TT} {Q : SV → Prop}
theorem SvAll.kp (bs0 : Bs L M H0) (k0 : Kp L H0 H) (k : Kp L H H') : ∀ {vs : List V} {ss : List SV}, SvAll K N M L H0 H vs ss → SvAll K N M L H0 H' vs ss
  | _, _, .nil => .nil
  | _, _, .cons h t => .cons (h.kp bs0 k0 k) (SvAll.kp bs0 k0 k t)
theorem SvAll.back (k0 : Kp L H0 H1) : ∀ {vs : List V} {ss : List SV}, SvAll K N M L H1 H vs ss → SvAll K N M L H0 H vs ss
  | _, _, .nil => .nil
  | _, _, .cons h t => .cons (h.back k0) (SvAll.back k0 t)
theorem DE.mono {Q' : SV → Prop} (h : DE K te es Q) (q : ∀ s, Q s → Q' s) : DE K te es Q' := fun P N M L σ H S R r => h P N M L σ H S R fun s v H' k o z => r s v H' k o (q s z)
theorem DT.mono {Q Q' : Bool → Prop} (h : DT K tt es Q) (q : ∀ s, Q s → Q' s) : DT K tt es Q' := fun P N M L σ H S R r => h P N M L σ H S R fun s H' k z => r s H' k (q s z)
theorem de_var {i : Nat} {s : SV} (e : es[i]? = some (some s)) (q : Q s) : DE K (tVar i) es Q := fun P N M L σ H S R r => by
  obtain ⟨v, h1, h2⟩ := S.ok i s e
  exact ⟨v, h1, r s v H (Kp.refl S.bs) h2 q⟩
theorem de_int {i : Int} (q : Q (.d (.int i))) : DE K (tC (.int i)) es Q := fun P N M L σ H S R r => r (.d (.int i)) _ H (Kp.refl S.bs) (Is.int i) q
theorem de_bl {i : Bool} (q : Q (.d (.bl i))) : DE K (tC (.bl i)) es Q := fun P N M L σ H S R r => r (.d (.bl i)) _ H (Kp.refl S.bs) (Is.bl i) q
theorem de_str {i : Str} (q : Q (.d (.str i))) : DE K (tC (.str i)) es Q := fun P N M L σ H S R r => r (.d (.str i)) _ H (Kp.refl S.bs) (Is.str i) q
theorem de_non (q : Q (.d .non)) : DE K (tC .non) es Q := fun P N M L σ H S R r => r (.d .non) _ H (Kp.refl S.bs) Is.non q
theorem de_op {r : R2} (h : DE K ta es fun x => DE K tb es fun y => RR K r x y Q) : DE K (tOp r ta tb) es Q := fun P N M L σ H S R k => by
  refine h P N M L σ H S _ fun x v1 H1 k1 o1 q1 => ?_
  refine q1 P N M L σ H1 (S.kp k1) _ fun y v2 H2 k2 o2 q2 => ?_
  exact q2 N M L H H2 v1 v2 S.bs (k1.trans k2) (o1.kp S.bs k1 k2) (o2.back k1) R fun s v H' k3 o3 q3 => k s v H' ((k1.trans k2).trans k3) o3 q3
theorem de_un {r : V → Hp → VK → Prop} (h : DE K ta es fun x => RU K r x Q) : DE K (tUn r ta) es Q := fun P N M L σ H S R k => by
  refine h P N M L σ H S _ fun x v1 H1 k1 o1 q1 => ?_
  exact q1 N M L H H1 v1 S.bs k1 o1 R fun s v H' k3 o3 q3 => k s v H' (k1.trans k3) o3 q3
theorem de_chain {r r' : R2} (h : DE K ta es fun x => DE K tb es fun y => RR K r x y fun z => ∃ k, z = .d (.bl k) ∧ if k = true then DE K tc es fun w => RR K r' y w Q else Q (.d (.bl false))) : DE K (tChain r r' ta tb tc) es Q := fun P N M L σ H S R k => by
  refine h P N M L σ H S _ fun x v1 H1 k1 o1 q1 => ?_
  refine q1 P N M L σ H1 (S.kp k1) _ fun y v2 H2 k2 o2 q2 => ?_
  refine q2 N M L H H2 v1 v2 S.bs (k1.trans k2) (o1.kp S.bs k1 k2) (o2.back k1) _ fun s v H3 k3 o3 q3 => ?_
  obtain ⟨b, rfl, q4⟩ := q3
  cases o3
  refine ⟨b, rfl, ?_⟩
  have k13 := (k1.trans k2).trans k3
  cases b with
  | true =>
    rw [if_pos rfl] at q4 ⊢
    refine q4 P N M L σ H3 (S.kp k13) _ fun w v4 H4 k4 o4 q5 => ?_
    exact q5 N M L H H4 v2 v4 S.bs (k13.trans k4) ((o2.back k1).kp S.bs (k1.trans k2) (k3.trans k4)) (o4.back k13) R fun s v H' k6 o6 q6 => k s v H' ((k13.trans k4).trans k6) o6 q6
  | false =>
    rw [if_neg Bool.false_ne_true] at q4 ⊢
    exact k (.d (.bl false)) _ H3 k13 (Is.bl false) q4
theorem dt_test {Q : Bool → Prop} (h : DE K te es fun s => ∃ b, s = .d (.bl b) ∧ Q b) : DT K (tTest te) es Q := fun P N M L σ H S R k => by
  refine h P N M L σ H S _ fun x v1 H1 k1 o1 q1 => ?_
  obtain ⟨b, rfl, q⟩ := q1
  cases o1
  exact ⟨b, rfl, k b H1 k1 q⟩
theorem dt_B {Q : Bool → Prop} (h : DE K te es fun s => ∃ b, s = .d (.bl b) ∧ Q b) : DT K (tB te) es Q := dt_test h
theorem dt_not {Q : Bool → Prop} (h : DT K tt es fun b => Q (!b)) : DT K (tNot tt) es Q := fun P N M L σ H S R k => h P N M L σ H S _ fun b H1 k1 q => k _ H1 k1 q
theorem dt_and {Q : Bool → Prop} (h : DT K tt es fun b => if b = true then DT K tu es Q else Q false) : DT K (tAnd tt tu) es Q := fun P N M L σ H S R k => by
  refine h P N M L σ H S _ fun b H1 k1 q => ?_
  cases b with
  | true =>
    rw [if_pos rfl] at q ⊢
    exact q P N M L σ H1 (S.kp k1) R fun b H2 k2 q2 => k b H2 (k1.trans k2) q2
  | false =>
    rw [if_neg Bool.false_ne_true] at q ⊢
    exact k _ H1 k1 q
theorem dt_or {Q : Bool → Prop} (h : DT K tt es fun b => if b = true then Q true else DT K tu es Q) : DT K (tOr tt tu) es Q := fun P N M L σ H S R k => by
  refine h P N M L σ H S _ fun b H1 k1 q => ?_
  cases b with
  | false =>
    rw [if_neg Bool.false_ne_true] at q ⊢
    exact q P N M L σ H1 (S.kp k1) R fun b H2 k2 q2 => k b H2 (k1.trans k2) q2
  | true =>
    rw [if_pos rfl] at q ⊢
    exact k _ H1 k1 q
theorem de_andV (h : DE K ta es fun s => ∃ b, s = .d (.bl b) ∧ if b = true then DE K tb es Q else Q (.d (.bl false))) : DE K (tAndV ta tb) es Q := fun P N M L σ H S R k => by
  refine h P N M L σ H S _ fun x v1 H1 k1 o1 q1 => ?_
  obtain ⟨b, rfl, q⟩ := q1
  cases o1
  refine ⟨b, rfl, ?_⟩
  cases b with
  | true =>
    rw [if_pos rfl] at q ⊢
    exact q P N M L σ H1 (S.kp k1) R fun s v H2 k2 o2 q2 => k s v H2 (k1.trans k2) (o2.back k1) q2
  | false =>
    rw [if_neg Bool.false_ne_true] at q ⊢
    exact k (.d (.bl false)) _ H1 k1 (Is.bl false) q
theorem de_orV (h : DE K ta es fun s => ∃ b, s = .d (.bl b) ∧ if b = true then Q (.d (.bl true)) else DE K tb es Q) : DE K (tOrV ta tb) es Q := fun P N M L σ H S R k => by
  refine h P N M L σ H S _ fun x v1 H1 k1 o1 q1 => ?_
  obtain ⟨b, rfl, q⟩ := q1
  cases o1
  refine ⟨b, rfl, ?_⟩
  cases b with
  | false =>
    rw [if_neg Bool.false_ne_true] at q ⊢
    exact q P N M L σ H1 (S.kp k1) R fun s v H2 k2 o2 q2 => k s v H2 (k1.trans k2) (o2.back k1) q2
  | true =>
    rw [if_pos rfl] at q ⊢
    exact k (.d (.bl true)) _ H1 k1 (Is.bl true) q
theorem de_notV (h : DE K ta es fun s => ∃ b, s = .d (.bl b) ∧ Q (.d (.bl (!b)))) : DE K (tNotV ta) es Q := fun P N M L σ H S R k => by
  refine h P N M L σ H S _ fun x v1 H1 k1 o1 q1 => ?_
  obtain ⟨b, rfl, q⟩ := q1
  cases o1
  exact ⟨b, rfl, k (.d (.bl (!b))) _ H1 k1 (Is.bl _) q⟩
theorem de_if (h : DT K tt es fun b => if b = true then DE K ta es Q else DE K tb es Q) : DE K (tIf tt ta tb) es Q := fun P N M L σ H S R k => by
  refine h P N M L σ H S _ fun b H1 k1 q => ?_
  cases b with
  | true =>
    rw [if_pos rfl] at q ⊢
    exact q P N M L σ H1 (S.kp k1) R fun s v H2 k2 o2 q2 => k s v H2 (k1.trans k2) (o2.back k1) q2
  | false =>
    rw [if_neg Bool.false_ne_true] at q ⊢
    exact q P N M L σ H1 (S.kp k1) R fun s v H2 k2 o2 q2 => k s v H2 (k1.trans k2) (o2.back k1) q2
theorem da_nil {Q : List SV → Prop} (q : Q []) : DA K tNil es Q := fun P N M L σ H S R k => k _ _ H (Kp.refl S.bs) .nil q
theorem da_cons {Q : List SV → Prop} {tr : TA} (h : DE K ta es fun s => DA K tr es fun ss => Q (s :: ss)) : DA K (tCons ta tr) es Q := fun P N M L σ H S R k => by
  refine h P N M L σ H S _ fun x v1 H1 k1 o1 q1 => ?_
  refine q1 P N M L σ H1 (S.kp k1) _ fun ss vs H2 k2 o2 q2 => ?_
  exact k _ _ H2 (k1.trans k2) (.cons (o1.kp S.bs k1 k2) (o2.back k1)) q2
end
end DL

namespace DL
open PySem PySem.Spec PyProof.Rows L2

def SV.rd : SV → Option D
  | .d x => some x
  | .own xs => some (.lst xs)
  | .new xs => some (.lst xs)
  | .scr ns => some (.lst (ns.map D.int))
  | _ => none
def SV.dat : SV → Option D
  | .d x => some x
  | .new xs => some (.lst xs)
  | _ => none
section
variable {K : PySem.W.Frag} {N L M : AP} {H0 H1 H H' : Hp} {σ : L2.St} {es : Env'} {ta tb tc te : TE} {tt tu : TT} {Q : SV → Prop}
/-- how a thing that is read stands -/
theorem fresh_nm (bs0 : Bs L M H0) {a : Addr} (n : H0 a = none) : ¬ M a := fun m => by
  obtain ⟨o, e⟩ := bs0.tk a m
  rw [n] at e; cases e
theorem SvOk.data (bs0 : Bs L M H0) {v : V} {s : SV} {x : D} (h : SvOk K N M L H0 H v s) (e : s.dat = some x) : Is K M H v x := by
  cases s with
  | d y => cases e; exact h
  | new ys =>
    cases e
    obtain ⟨a, vs, rfl, n, h1, h2⟩ := h
    exact .lst h1 (fresh_nm bs0 n) (h2.sub AP.sub_add)
  | _ => cases e
/-- a list that is read: its items -/
theorem SvOk.list (bs0 : Bs L M H0) {v : V} {s : SV} {xs : List D} (h : SvOk K N M L H0 H v s) (e : s.rd = some (.lst xs)) : ∃ a vs, v = .ref a ∧ SqL K H a vs ∧ IsAll K M H vs xs := by
  cases s with
  | d y =>
    cases e
    cases h with
    | lst h1 h2 h3 => exact ⟨_, _, rfl, .inl (.inl h1), h3⟩
  | own ys =>
    cases e
    obtain ⟨a, vs, rfl, m, n, l, h1, h2⟩ := h
    exact ⟨a, vs, rfl, .inl (.inl h1), h2⟩
  | new ys =>
    cases e
    obtain ⟨a, vs, rfl, n, h1, h2⟩ := h
    exact ⟨a, vs, rfl, .inl (.inl h1), h2.sub AP.sub_add⟩
  | scr ns =>
    cases e
    obtain ⟨a, rfl, h1⟩ := h
    exact ⟨a, _, rfl, h1.sql, IsAll.ints ns⟩
  | _ => cases e
theorem SvOk.lst (bs0 : Bs L M H0) {v : V} {s : SV} {xs : List D} (h : SvOk K N M L H0 H v s) (e : s.rd = some (.lst xs)) (ns : ∀ n, s ≠ .scr n) : ∃ a vs, v = .ref a ∧ H a = some (.lst vs) ∧ IsAll K M H vs xs := by
  cases s with
  | d y =>
    cases e
    cases h with
    | lst h1 h2 h3 => exact ⟨_, _, rfl, h1, h3⟩
  | own ys =>
    cases e
    obtain ⟨a, vs, rfl, m, n, l, h1, h2⟩ := h
    exact ⟨a, vs, rfl, h1, h2⟩
  | new ys =>
    cases e
    obtain ⟨a, vs, rfl, n, h1, h2⟩ := h
    exact ⟨a, vs, rfl, h1, h2.sub AP.sub_add⟩
  | scr n => exact absurd rfl (ns n)
  | _ => cases e
theorem SvOk.dp (bs0 : Bs L M H0) {v : V} {s : SV} {x : D} (h : SvOk K N M L H0 H v s) (e : s.rd = some x) (p : x.plain = true) : Dp K H v x.py := by
  cases s with
  | d y => cases e; exact Is.dp _ _ h p
  | own ys =>
    cases e
    obtain ⟨a, vs, rfl, h1, h2⟩ := SvOk.list bs0 h rfl
    exact .lst h1 (IsAll.dp _ _ h2 p)
  | new ys =>
    cases e
    obtain ⟨a, vs, rfl, h1, h2⟩ := SvOk.list bs0 h rfl
    exact .lst h1 (IsAll.dp _ _ h2 p)
  | scr ns =>
    cases e
    obtain ⟨a, vs, rfl, h1, h2⟩ := SvOk.list bs0 h rfl
    exact .lst h1 (IsAll.dp _ _ h2 p)
  | _ => cases e

/-! ### operators -/
theorem rr_i {g : Int → Int → Int} {i j : Int} (q : Q (.d (.int (g i j)))) : RR K (rI0 fun i j => .int (g i j)) (.d (.int i)) (.d (.int j)) Q := fun N M L H0 H v1 v2 b k o1 o2 R r => by
  cases o1
  cases o2
  exact ⟨i, j, rfl, rfl, r (.d (.int (g i j))) _ H (Kp.refl (k.bs b)) (Is.int _) q⟩
theorem rr_b {g : Int → Int → Bool} {i j : Int} (q : Q (.d (.bl (g i j)))) : RR K (rI0 fun i j => .bl (g i j)) (.d (.int i)) (.d (.int j)) Q := fun N M L H0 H v1 v2 b k o1 o2 R r => by
  cases o1
  cases o2
  exact ⟨i, j, rfl, rfl, r (.d (.bl (g i j))) _ H (Kp.refl (k.bs b)) (Is.bl _) q⟩
theorem rr_ic {C : Int → Int → Prop} {g : Int → Int → Int} {i j : Int} (c : C i j) (q : Q (.d (.int (g i j)))) : RR K (rI C fun i j => .int (g i j)) (.d (.int i)) (.d (.int j)) Q := fun N M L H0 H v1 v2 b k o1 o2 R r => by
  cases o1
  cases o2
  exact ⟨i, j, rfl, rfl, c, r (.d (.int (g i j))) _ H (Kp.refl (k.bs b)) (Is.int _) q⟩
theorem ru_neg {i : Int} (q : Q (.d (.int (-i)))) : RU K (L2.rU fun i => .int (-i)) (.d (.int i)) Q := fun N M L H0 H v1 b k o1 R r => by
  cases o1
  exact ⟨i, rfl, r (.d (.int (-i))) _ H (Kp.refl (k.bs b)) (Is.int _) q⟩
theorem rr_or1 {r r' : R2} {s1 s2 : SV} (h : RR K r s1 s2 Q) : RR K (fun x y H Q => r x y H Q ∨ r' x y H Q) s1 s2 Q := fun N M L H0 H v1 v2 b k o1 o2 R q => .inl (h N M L H0 H v1 v2 b k o1 o2 R q)
theorem rr_or2 {r r' : R2} {s1 s2 : SV} (h : RR K r' s1 s2 Q) : RR K (fun x y H Q => r x y H Q ∨ r' x y H Q) s1 s2 Q := fun N M L H0 H v1 v2 b k o1 o2 R q => .inr (h N M L H0 H v1 v2 b k o1 o2 R q)
theorem rr_addS {x y : Str} (z : x.length + y.length ≤ sizeLine) (q : Q (.d (.str (x ++ y)))) : RR K (fun x y H Q => ∃ i j, x = .str i ∧ y = .str j ∧ i.length + j.length ≤ sizeLine ∧ Q (.str (i ++ j)) H) (.d (.str x)) (.d (.str y)) Q := fun N M L H0 H v1 v2 b k o1 o2 R r => by
  cases o1
  cases o2
  exact ⟨x, y, rfl, rfl, z, r (.d (.str (x ++ y))) _ H (Kp.refl (k.bs b)) (Is.str _) q⟩
theorem rr_leS {x y : Str} (q : Q (.d (.bl (!decide (y.cps.toList < x.cps.toList))))) : RR K (fun x y H Q => ∃ i j, x = .str i ∧ y = .str j ∧ Q (.bl (!decide (j.cps.toList < i.cps.toList))) H) (.d (.str x)) (.d (.str y)) Q := fun N M L H0 H v1 v2 b k o1 o2 R r => by
  cases o1
  cases o2
  exact ⟨x, y, rfl, rfl, r (.d (.bl _)) _ H (Kp.refl (k.bs b)) (Is.bl _) q⟩
theorem rr_eq {s1 s2 : SV} {x y : D} (e1 : s1.rd = some x) (e2 : s2.rd = some y) (p1 : x.plain = true) (p2 : y.plain = true) (z1 : SeqAt.shaped x.py = true) (z2 : SeqAt.shaped y.py = true) (q : Q (.d (.bl (PyData.eqv x.py y.py)))) : RR K (rEqD K) s1 s2 Q := fun N M L H0 H v1 v2 b k o1 o2 R r =>
  ⟨x.py, y.py, o1.dp b e1 p1, o2.dp b e2 p2, z1, z2, r (.d (.bl _)) _ H (Kp.refl (k.bs b)) (Is.bl _) q⟩
theorem rr_ne {s1 s2 : SV} {x y : D} (e1 : s1.rd = some x) (e2 : s2.rd = some y) (p1 : x.plain = true) (p2 : y.plain = true) (z1 : SeqAt.shaped x.py = true) (z2 : SeqAt.shaped y.py = true) (q : Q (.d (.bl (!PyData.eqv x.py y.py)))) : RR K (rNeD K) s1 s2 Q := fun N M L H0 H v1 v2 b k o1 o2 R r =>
  ⟨x.py, y.py, o1.dp b e1 p1, o2.dp b e2 p2, z1, z2, r (.d (.bl _)) _ H (Kp.refl (k.bs b)) (Is.bl _) q⟩
theorem rr_isB {a b : Bool} (q : Q (.d (.bl (decide (a = b))))) : RR K (fun x y H Q => ∃ a b, x = .bl a ∧ y = .bl b ∧ Q (.bl (decide (a = b))) H) (.d (.bl a)) (.d (.bl b)) Q := fun N M L H0 H v1 v2 bb k o1 o2 R r => by
  cases o1
  cases o2
  exact ⟨a, b, rfl, rfl, r (.d (.bl _)) _ H (Kp.refl (k.bs bb)) (Is.bl _) q⟩
theorem rr_isnotB {a b : Bool} (q : Q (.d (.bl (!decide (a = b))))) : RR K (fun x y H Q => ∃ a b, x = .bl a ∧ y = .bl b ∧ Q (.bl (!decide (a = b))) H) (.d (.bl a)) (.d (.bl b)) Q := fun N M L H0 H v1 v2 bb k o1 o2 R r => by
  cases o1
  cases o2
  exact ⟨a, b, rfl, rfl, r (.d (.bl _)) _ H (Kp.refl (k.bs bb)) (Is.bl _) q⟩
def D.isNon : D → Bool
  | .non => true
  | _ => false
theorem Is.isNon {v : V} {x : D} (h : Is K M H v x) : decide (v = .non) = x.isNon := by
  cases h <;> first | rfl | exact decide_eq_false (fun z => nomatch z)
theorem rr_isN {x : D} (q : Q (.d (.bl x.isNon))) : RR K (fun x y H Q => y = .non ∧ Q (.bl (decide (x = .non))) H) (.d x) (.d .non) Q := fun N M L H0 H v1 v2 b k o1 o2 R r => by
  cases o2
  exact ⟨rfl, r (.d (.bl _)) _ H (Kp.refl (k.bs b)) (by rw [Is.isNon o1]; exact Is.bl _) q⟩
theorem rr_isnotN {x : D} (q : Q (.d (.bl (!x.isNon)))) : RR K (fun x y H Q => y = .non ∧ Q (.bl (!decide (x = .non))) H) (.d x) (.d .non) Q := fun N M L H0 H v1 v2 b k o1 o2 R r => by
  cases o2
  exact ⟨rfl, r (.d (.bl _)) _ H (Kp.refl (k.bs b)) (by rw [Is.isNon o1]; exact Is.bl _) q⟩
/-- an item -/
theorem at_len {α β : Type} {xs : List α} {ys : List β} (h : xs.length = ys.length) {i : Int} {y : β} (e : atI ys i = some y) : ∃ j : Nat, ys[j]? = some y ∧ ∀ x, xs[j]? = some x → atI xs i = some x := by
  unfold atI at e ⊢
  rw [h]
  cases q : ixN ys.length i with
  | none => rw [q] at e; cases e
  | some j =>
    rw [q] at e
    exact ⟨j, e, fun x hx => hx⟩
theorem rr_ixL {s : SV} {xs : List D} {i : Int} {x : D} (e : s.rd = some (.lst xs)) (ha : atI xs i = some x) (q : Q (.d x)) : RR K (rIxL K) s (.d (.int i)) Q := fun N M L H0 H v1 v2 b k o1 o2 R r => by
  cases o2
  obtain ⟨a, vs, rfl, h1, h2⟩ := o1.list b e
  obtain ⟨j, hj, f⟩ := at_len h2.len ha
  obtain ⟨v, hv, iv⟩ := h2.get hj
  exact ⟨a, vs, i, v, rfl, rfl, h1, f v hv, r (.d x) v H (Kp.refl (k.bs b)) iv q⟩
theorem rr_ixT {xs : List D} {i : Int} {x : D} (ha : atI xs i = some x) (q : Q (.d x)) : RR K (rIxT K) (.d (.tup xs)) (.d (.int i)) Q := fun N M L H0 H v1 v2 b k o1 o2 R r => by
  cases o2
  obtain ⟨_, _, rfl, h1, h2⟩ := Is.tupS o1
  · obtain ⟨j, hj, f⟩ := at_len h2.len ha
    obtain ⟨v, hv, iv⟩ := h2.get hj
    exact ⟨_, _, i, v, rfl, rfl, h1, f v hv, r (.d x) v H (Kp.refl (k.bs b)) iv q⟩
theorem rr_ixS {z : Str} {i : Int} {c : Nat} (hz : z.length ≤ sizeLine) (ha : atI z.cps.toList i = some c) (q : Q (.d (.str ⟨#[c]⟩))) : RR K rIxS (.d (.str z)) (.d (.int i)) Q := fun N M L H0 H v1 v2 b k o1 o2 R r => by
  cases o2
  cases o1
  exact ⟨z, i, c, rfl, rfl, hz, ha, r (.d (.str ⟨#[c]⟩)) _ H (Kp.refl (k.bs b)) (Is.str _) q⟩
theorem rr_xL {s : SV} {xs : List D} {i : Int} {x : D} (e : s.rd = some (.lst xs)) (ha : atI xs i = some x) (q : Q (.d x)) : RR K (rIx K) s (.d (.int i)) Q := fun N M L H0 H v1 v2 b k o1 o2 R r => .inl (rr_ixL e ha q N M L H0 H v1 v2 b k o1 o2 R r)
theorem rr_xT {xs : List D} {i : Int} {x : D} (ha : atI xs i = some x) (q : Q (.d x)) : RR K (rIx K) (.d (.tup xs)) (.d (.int i)) Q := fun N M L H0 H v1 v2 b k o1 o2 R r => .inr (.inl (rr_ixT ha q N M L H0 H v1 v2 b k o1 o2 R r))
theorem rr_xS {z : Str} {i : Int} {c : Nat} (hz : z.length ≤ sizeLine) (ha : atI z.cps.toList i = some c) (q : Q (.d (.str ⟨#[c]⟩))) : RR K (rIx K) (.d (.str z)) (.d (.int i)) Q := fun N M L H0 H v1 v2 b k o1 o2 R r => .inr (.inr (rr_ixS hz ha q N M L H0 H v1 v2 b k o1 o2 R r))

/-! ### new ones -/
theorem SvAll.datas (bs0 : Bs L M H0) : ∀ {ss : List SV} {vs : List V} {ds : List D}, SvAll K N M L H0 H vs ss → ss.map SV.dat = ds.map some → IsAll K M H vs ds
  | [], _, [], h, _ => by cases h; exact .nil
  | [], _, _ :: _, _, e => by cases e
  | _ :: _, _, [], _, e => by cases e
  | s :: ss, _, d :: ds, h, e => by
    cases h with
    | cons h1 h2 =>
      have e' : s.dat :: ss.map SV.dat = some d :: ds.map some := e
      injection e' with e1 e2
      exact .cons (h1.data bs0 e1) (SvAll.datas bs0 h2 e2)
theorem SvAll.len : ∀ {ss : List SV} {vs : List V}, SvAll K N M L H0 H vs ss → vs.length = ss.length
  | _, _, .nil => rfl
  | _, _, .cons _ t => congrArg (· + 1) t.len
theorem dats_len {ss : List SV} {ds : List D} (e : ss.map SV.dat = ds.map some) : ss.length = ds.length := by
  have := congrArg List.length e
  simpa using this
theorem de_tup {tr : TA} (h : DA K tr es fun ss => ∃ ds, ss.map SV.dat = ds.map some ∧ ds.length ≤ 100000 ∧ Q (.d (.tup ds))) : DE K (tTup tr) es Q := fun P N M L σ H S R k => by
  refine h P N M L σ H S _ fun ss vs H1 k1 o1 q1 => ?_
  obtain ⟨ds, e, z, q⟩ := q1
  have hl : vs.length = ds.length := o1.len.trans (dats_len e)
  refine ⟨by rw [hl]; exact Nat.le_trans z (by decide), fun p hp => ?_⟩
  have bs1 := k1.bs S.bs
  have kn := Kp.new (o := .tup vs) bs1 hp
  exact k (.d (.tup ds)) _ _ (k1.trans kn) (.tup upd_same ((o1.datas S.bs e).kp kn bs1)) q
theorem de_lst {tr : TA} (h : DA K tr es fun ss => ∃ ds, ss.map SV.dat = ds.map some ∧ ds.length ≤ 100000 ∧ Q (.new ds)) : DE K (tLst tr) es Q := fun P N M L σ H S R k => by
  refine h P N M L σ H S _ fun ss vs H1 k1 o1 q1 => ?_
  obtain ⟨ds, e, z, q⟩ := q1
  have hl : vs.length = ds.length := o1.len.trans (dats_len e)
  refine ⟨by rw [hl]; exact Nat.le_trans z (by decide), fun p hp => ?_⟩
  have bs1 := k1.bs S.bs
  have kn := Kp.new (o := .lst vs) bs1 hp
  refine k (.new ds) _ _ (k1.trans kn) ⟨p, vs, rfl, k1.was hp, upd_same, ?_⟩ q
  have i1 : IsAll K (M.add p) H1 vs ds := (o1.datas S.bs e).add hp
  refine IsAll.chg (fun a o q m => ⟨?_, m⟩) ?_ _ _ i1
  · rw [upd_ne (ne_of_none q hp)]; exact q
  · exact sqt_keep (M := M) (fun a o m q => by rw [upd_ne (ne_of_none q hp)]; exact q) bs1.tr
/-- a new list with items that are read off -/
theorem new_of (bs0 : Bs L M H0) (k1 : Kp L H0 H1) {p : Addr} {vs : List V} {ds : List D} (hp : H1 p = none) (i : IsAll K M H1 vs ds) : Kp L H1 (upd H1 p (.lst vs)) ∧ SvOk K N M L H0 (upd H1 p (.lst vs)) (.ref p) (.new ds) := by
  have bs1 := k1.bs bs0
  have kn := Kp.new (o := .lst vs) bs1 hp
  refine ⟨kn, p, vs, rfl, k1.was hp, upd_same, ?_⟩
  refine IsAll.chg (fun a o q m => ⟨?_, m⟩) ?_ _ _ (i.add hp)
  · rw [upd_ne (ne_of_none q hp)]; exact q
  · exact sqt_keep (M := M) (fun a o m q => by rw [upd_ne (ne_of_none q hp)]; exact q) bs1.tr
theorem newT_of (bs0 : Bs L M H0) (k1 : Kp L H0 H1) {p : Addr} {vs : List V} {ds : List D} (hp : H1 p = none) (i : IsAll K M H1 vs ds) : Kp L H1 (upd H1 p (.tup vs)) ∧ SvOk K N M L H0 (upd H1 p (.tup vs)) (.ref p) (.d (.tup ds)) := by
  have bs1 := k1.bs bs0
  have kn := Kp.new (o := .tup vs) bs1 hp
  exact ⟨kn, .tup upd_same (i.kp kn bs1)⟩
theorem rr_cat {s1 s2 : SV} {xs ys : List D} (e1 : s1.rd = some (.lst xs)) (e2 : s2.rd = some (.lst ys)) (n1 : ∀ n, s1 ≠ .scr n) (n2 : ∀ n, s2 ≠ .scr n) (z : xs.length + ys.length ≤ 100000) (q : Q (.new (xs ++ ys))) : RR K rCat s1 s2 Q := fun N M L H0 H v1 v2 b k o1 o2 R r => by
  obtain ⟨a, vs, rfl, h1, i1⟩ := o1.lst b e1 n1
  obtain ⟨c, ws, rfl, h2, i2⟩ := o2.lst b e2 n2
  refine ⟨a, c, vs, ws, rfl, rfl, h1, h2, by rw [i1.len, i2.len]; exact Nat.le_trans z (by decide), fun p hp => ?_⟩
  obtain ⟨kn, ok⟩ := new_of (N := N) b k hp (i1.append i2)
  exact r _ _ _ kn ok q
theorem rr_catT {xs ys : List D} (z : xs.length + ys.length ≤ 100000) (q : Q (.d (.tup (xs ++ ys)))) : RR K (rCatA K) (.d (.tup xs)) (.d (.tup ys)) Q := fun N M L H0 H v1 v2 b k o1 o2 R r => by
  have bs := k.bs b
  have o1' := o1
  have o2' := o2
  obtain ⟨a, vs, rfl, h1, i1⟩ := Is.tupS o1
  · obtain ⟨c, ws, rfl, h2, i2⟩ := Is.tupS o2
    · refine ⟨a, c, vs, ws, rfl, rfl, h1, h2, by rw [i1.len, i2.len]; exact Nat.le_trans z (by decide), fun ev => ?_, fun ev ew => ?_, fun ev ew p hp => ?_⟩
      · subst ev
        cases i1
        exact r (.d (.tup ([] ++ ys))) _ H (Kp.refl bs) o2' q
      · subst ew
        cases i2
        exact r (.d (.tup (xs ++ []))) _ H (Kp.refl bs) (by rw [List.append_nil]; exact o1') q
      · obtain ⟨kn, ok⟩ := newT_of (N := N) b k hp (i1.append i2)
        exact r _ _ _ kn ok q
/-! ### slices -/
def cutD (xs : List D) (lo hi : Option Int) : List D := (xs.drop (HT.sIx xs.length 0 lo)).take (HT.sIx xs.length xs.length hi - HT.sIx xs.length 0 lo)
theorem cut_all {vs : List V} {xs : List D} (h : IsAll K M H vs xs) (lo hi : Option Int) : IsAll K M H (cutV vs lo hi) (cutD xs lo hi) := by
  unfold cutV cutD
  rw [h.len]
  exact (h.drop _).take _
def DO (K : PySem.W.Frag) (to : TO) (es : Env') (Q : Option Int → Prop) : Prop :=
  ∀ P N M L σ H, Sts K P N M L σ H es → ∀ R : Option Int → Hp → Prop, (∀ o H', Kp L H H' → Q o → R o H') → to σ H R
theorem do_none {Q : Option Int → Prop} (q : Q none) : DO K tNoPart es Q := fun P N M L σ H S R k => k _ _ (Kp.refl S.bs) q
theorem do_some {Q : Option Int → Prop} (h : DE K te es fun s => ∃ i, s = .d (.int i) ∧ Q (some i)) : DO K (tPart te) es Q := fun P N M L σ H S R k => by
  refine h P N M L σ H S _ fun s v H1 k1 o1 q1 => ?_
  obtain ⟨i, rfl, q⟩ := q1
  cases o1
  exact ⟨i, rfl, k _ _ k1 q⟩
def RS (K : PySem.W.Frag) (r : V → Option Int → Option Int → Hp → VK → Prop) (s1 : SV) (lo hi : Option Int) (Q : SV → Prop) : Prop :=
  ∀ N M L H0 H v1, Bs L M H0 → Kp L H0 H → SvOk K N M L H0 H v1 s1 → ∀ R : VK, (∀ s v H', Kp L H H' → SvOk K N M L H0 H' v s → Q s → R v H') → r v1 lo hi H R
theorem de_sl {r : V → Option Int → Option Int → Hp → VK → Prop} {tl th : TO} (h : DE K te es fun x => DO K tl es fun lo => DO K th es fun hi => RS K r x lo hi Q) : DE K (tSl r te tl th) es Q := fun P N M L σ H S R k => by
  refine h P N M L σ H S _ fun x v1 H1 k1 o1 q1 => ?_
  refine q1 P N M L σ H1 (S.kp k1) _ fun lo H2 k2 q2 => ?_
  have k12 := k1.trans k2
  refine q2 P N M L σ H2 (S.kp k12) _ fun hi H3 k3 q3 => ?_
  have k13 := k12.trans k3
  exact q3 N M L H H3 v1 S.bs k13 (o1.kp S.bs k1 (k2.trans k3)) R fun s v H' k4 o4 q4 => k s v H' (k13.trans k4) o4 q4
theorem rs_L {s : SV} {xs : List D} {lo hi : Option Int} (e : s.rd = some (.lst xs)) (q : Q (.new (cutD xs lo hi))) : RS K (rSlL K) s lo hi Q := fun N M L H0 H v1 b k o1 R r => by
  obtain ⟨a, vs, rfl, h1, i1⟩ := o1.list b e
  refine ⟨a, vs, rfl, h1, fun p hp => ?_⟩
  obtain ⟨kn, ok⟩ := new_of (N := N) b k hp (cut_all i1 lo hi)
  exact r _ _ _ kn ok q
theorem rs_T {xs : List D} {lo hi : Option Int} (q : Q (.d (.tup (cutD xs lo hi)))) : RS K (rSlA K) (.d (.tup xs)) lo hi Q := fun N M L H0 H v1 b k o1 R r => by
  have o1' := o1
  obtain ⟨a, vs, rfl, h1, i1⟩ := Is.tupS o1
  · refine ⟨a, vs, rfl, h1, fun ⟨w1, w2⟩ => ?_, fun _ p hp => ?_⟩
    · have e : cutD xs lo hi = xs := by
        unfold cutD
        rw [← i1.len, w1, w2, List.drop_zero, Nat.sub_zero, i1.len, List.take_length]
      rw [e] at q
      exact r (.d (.tup xs)) _ H (Kp.refl (k.bs b)) o1' q
    · obtain ⟨kn, ok⟩ := newT_of (N := N) b k hp (cut_all i1 lo hi)
      exact r _ _ _ kn ok q
theorem rs_S {z : Str} {lo hi : Option Int} (hz : z.length ≤ sizeLine) (q : Q (.d (.str (cutS z lo hi)))) : RS K rSlS (.d (.str z)) lo hi Q := fun N M L H0 H v1 b k o1 R r => by
  cases o1
  exact ⟨z, rfl, hz, r (.d (.str _)) _ H (Kp.refl (k.bs b)) (Is.str _) q⟩
theorem rs_or1 {r r' : V → Option Int → Option Int → Hp → VK → Prop} {s1 : SV} {lo hi : Option Int} (h : RS K r s1 lo hi Q) : RS K (fun x lo hi H Q => r x lo hi H Q ∨ r' x lo hi H Q) s1 lo hi Q := fun N M L H0 H v1 b k o1 R q => .inl (h N M L H0 H v1 b k o1 R q)
theorem rs_or2 {r r' : V → Option Int → Option Int → Hp → VK → Prop} {s1 : SV} {lo hi : Option Int} (h : RS K r' s1 lo hi Q) : RS K (fun x lo hi H Q => r x lo hi H Q ∨ r' x lo hi H Q) s1 lo hi Q := fun N M L H0 H v1 b k o1 R q => .inr (h N M L H0 H v1 b k o1 R q)

/-! ### calls of built-ins -/
theorem de_cb {r : List V → Hp → VK → Prop} {tr : TA} (h : DA K tr es fun ss => RC K r ss Q) : DE K (tCB r tr) es Q := fun P N M L σ H S R k => by
  refine h P N M L σ H S _ fun ss vs H1 k1 o1 q1 => ?_
  exact q1 N M L H H1 vs S.bs k1 o1 R fun s v H' k3 o3 q3 => k s v H' (k1.trans k3) o3 q3
theorem SvAll.one {s : SV} {vs : List V} (h : SvAll K N M L H0 H vs [s]) : ∃ v, vs = [v] ∧ SvOk K N M L H0 H v s := by
  cases h with
  | cons h t =>
    cases t
    exact ⟨_, rfl, h⟩
theorem SvAll.two {s t : SV} {vs : List V} (h : SvAll K N M L H0 H vs [s, t]) : ∃ v w, vs = [v, w] ∧ SvOk K N M L H0 H v s ∧ SvOk K N M L H0 H w t := by
  cases h with
  | cons h r =>
    obtain ⟨w, rfl, hw⟩ := r.one
    exact ⟨_, w, rfl, h, hw⟩
theorem rc_abs {i : Int} (q : Q (.d (.int (if i < 0 then -i else i)))) : RC K (fun xs H Q => ∃ i, xs = [.int i] ∧ Q (.int (if i < 0 then -i else i)) H) [.d (.int i)] Q := fun N M L H0 H vs b k o R r => by
  obtain ⟨v, rfl, hv⟩ := o.one
  cases hv
  exact ⟨i, rfl, r (.d (.int _)) _ H (Kp.refl (k.bs b)) (Is.int _) q⟩
theorem rc_max {i j : Int} (q : Q (.d (.int (if j > i then j else i)))) : RC K (fun xs H Q => ∃ i j, xs = [.int i, .int j] ∧ Q (.int (if j > i then j else i)) H) [.d (.int i), .d (.int j)] Q := fun N M L H0 H vs b k o R r => by
  obtain ⟨v, w, rfl, hv, hw⟩ := o.two
  cases hv
  cases hw
  exact ⟨i, j, rfl, r (.d (.int _)) _ H (Kp.refl (k.bs b)) (Is.int _) q⟩
theorem rc_min {i j : Int} (q : Q (.d (.int (if j < i then j else i)))) : RC K (fun xs H Q => ∃ i j, xs = [.int i, .int j] ∧ Q (.int (if j < i then j else i)) H) [.d (.int i), .d (.int j)] Q := fun N M L H0 H vs b k o R r => by
  obtain ⟨v, w, rfl, hv, hw⟩ := o.two
  cases hv
  cases hw
  exact ⟨i, j, rfl, r (.d (.int _)) _ H (Kp.refl (k.bs b)) (Is.int _) q⟩
/-- how long -/
def D.len : D → Option Nat
  | .str x => if x.length ≤ sizeLine then some x.length else none
  | .lst xs => some xs.length
  | .tup xs => some xs.length
  | _ => none
theorem rc_len {s : SV} {x : D} {n : Nat} (e : s.rd = some x) (hn : x.len = some n) (q : Q (.d (.int n))) : RC K (fun xs H Q => ∃ x n, xs = [x] ∧ LenV K x H n ∧ Q (.int n) H) [s] Q := fun N M L H0 H vs b k o R r => by
  obtain ⟨v, rfl, hv⟩ := o.one
  have fin : LenV K v H n := by
    cases x with
    | str z =>
      cases s with
      | d y =>
        cases e
        cases hv
        have hn' : (if z.length ≤ sizeLine then some z.length else none) = some n := hn
        by_cases hz : z.length ≤ sizeLine
        · rw [if_pos hz] at hn'
          cases hn'
          exact ⟨hz, rfl⟩
        · rw [if_neg hz] at hn'
          cases hn'
      | _ => cases e
    | lst xs =>
      cases hn
      obtain ⟨a, vs, rfl, h1, h2⟩ := hv.list b e
      exact .inl ⟨vs, h1, h2.len.symm⟩
    | tup xs =>
      cases hn
      cases s with
      | d y =>
        cases e
        obtain ⟨_, _, rfl, h1, h2⟩ := Is.tupS hv
        exact .inr ⟨_, h1, h2.len.symm⟩
      | _ => cases e
    | _ => cases hn
  exact ⟨v, n, rfl, fin, r (.d (.int n)) _ H (Kp.refl (k.bs b)) (Is.int _) q⟩
theorem rc_list {s : SV} {xs : List D} (e : s.rd = some (.lst xs)) (q : Q (.new xs)) : RC K (fun vs H Q => ∃ p ys, vs = [.ref p] ∧ (SqL K H p ys ∨ SqT K H p ys) ∧ ∀ l, H l = none → Q (.ref l) (upd H l (.lst ys))) [s] Q := fun N M L H0 H vs b k o R r => by
  obtain ⟨v, rfl, hv⟩ := o.one
  obtain ⟨a, vs, rfl, h1, h2⟩ := hv.list b e
  refine ⟨a, vs, rfl, .inl h1, fun p hp => ?_⟩
  obtain ⟨kn, ok⟩ := new_of (N := N) b k hp h2
  exact r _ _ _ kn ok q
theorem rc_listT {xs : List D} (q : Q (.new xs)) : RC K (fun vs H Q => ∃ p ys, vs = [.ref p] ∧ (SqL K H p ys ∨ SqT K H p ys) ∧ ∀ l, H l = none → Q (.ref l) (upd H l (.lst ys))) [.d (.tup xs)] Q := fun N M L H0 H vs b k o R r => by
  obtain ⟨v, rfl, hv⟩ := o.one
  obtain ⟨a, vs, rfl, h1, h2⟩ := Is.tupS hv
  · refine ⟨a, vs, rfl, .inr h1, fun p hp => ?_⟩
    obtain ⟨kn, ok⟩ := new_of (N := N) b k hp h2
    exact r _ _ _ kn ok q
theorem rc_tuple {s : SV} {xs : List D} (e : s.rd = some (.lst xs)) (q : Q (.d (.tup xs))) : RC K (fun vs H Q => ∃ p ys, vs = [.ref p] ∧ ((SqL K H p ys ∧ ∀ l, H l = none → Q (.ref l) (upd H l (.tup ys))) ∨ (SqT K H p ys ∧ Q (.ref p) H))) [s] Q := fun N M L H0 H vs b k o R r => by
  obtain ⟨v, rfl, hv⟩ := o.one
  obtain ⟨a, vs, rfl, h1, h2⟩ := hv.list b e
  refine ⟨a, vs, rfl, .inl ⟨h1, fun p hp => ?_⟩⟩
  obtain ⟨kn, ok⟩ := newT_of (N := N) b k hp h2
  exact r _ _ _ kn ok q
theorem rc_all {s : SV} {bs : List Bool} (e : s.rd = some (.lst (bs.map D.bl))) (q : Q (.d (.bl (bs.all id)))) : RC K (rAll K) [s] Q := fun N M L H0 H vs b k o R r => by
  obtain ⟨v, rfl, hv⟩ := o.one
  obtain ⟨a, vs, rfl, h1, h2⟩ := hv.list b e
  exact ⟨a, bs, rfl, by rw [h2.ofBls] at h1; exact h1, r (.d (.bl _)) _ H (Kp.refl (k.bs b)) (Is.bl _) q⟩
theorem rc_any {s : SV} {bs : List Bool} (e : s.rd = some (.lst (bs.map D.bl))) (q : Q (.d (.bl (bs.any id)))) : RC K (rAny K) [s] Q := fun N M L H0 H vs b k o R r => by
  obtain ⟨v, rfl, hv⟩ := o.one
  obtain ⟨a, vs, rfl, h1, h2⟩ := hv.list b e
  exact ⟨a, bs, rfl, by rw [h2.ofBls] at h1; exact h1, r (.d (.bl _)) _ H (Kp.refl (k.bs b)) (Is.bl _) q⟩
theorem rc_strI {i : Int} (hi : i.natAbs.log2 < 1920) (q : Q (.d (.str (toString i)))) : RC K (fun xs H Q => ∃ i, xs = [.int i] ∧ i.natAbs.log2 < 1920 ∧ Q (.str (toString i)) H) [.d (.int i)] Q := fun N M L H0 H vs b k o R r => by
  obtain ⟨v, rfl, hv⟩ := o.one
  cases hv
  exact ⟨i, rfl, hi, r (.d (.str _)) _ H (Kp.refl (k.bs b)) (Is.str _) q⟩
end
end DL

/-! defs that know that no repr is under way around them: FnG beside FnOk -/
namespace DL
open PySem PySem.Spec PyProof.Rows L2

structure FnG (P : Program) (w : World) (K : PySem.W.Frag) (mg : Str → Option Value) (base : Heap) (k : Nat) (f : Addr) (fd : FuncData) (ps : List Str) (sp : Sp) : Prop where
  len : ∀ vs H Q E, sp vs H Q E → vs.length = ps.length
  run : ∀ (A : Around) (fr : List Env) (s : Shared) (H : Hp) (ar : Args) (us : List Value) (vs : List V) (Q : VK), A.guards = some [] → Room k A → Env0 P w K mg base A fr s H →
    BindsTo s fd ar (ps.zip us) → Vals vs us → sp vs H Q E0 → codeAny (model P w) A (.call (.ref f) ar) (CR CX0 fr P w H s Q E0) s
section
variable {P : Program} {w : World} {K : PySem.W.Frag} {mg : Str → Option Value} {base : Heap}
theorem FnG.of {k : Nat} {f : Addr} {fd : FuncData} {ps : List Str} {sp : Sp} (F : FnOk P w K mg base CX0 k f fd ps sp) : FnG P w K mg base k f fd ps sp :=
  ⟨F.len, fun A fr s H ar us vs Q _ hr e0 hb rv h => F.run A fr s H ar us vs Q E0 hr e0 hb rv h⟩
theorem FnG.mono {j k : Nat} {f : Addr} {fd : FuncData} {ps : List Str} {sp : Sp} (F : FnG P w K mg base j f fd ps sp) (h : j ≤ k) : FnG P w K mg base k f fd ps sp :=
  ⟨F.len, fun A fr s H ar us vs Q hg hr => F.run A fr s H ar us vs Q hg (hr.mono h)⟩

/-- a def of the text, its body read where no repr is under way -/
theorem okG {x qual : Str} {st : Stmt} {f : Addr} {fd : FuncData} {N ps : List Str} {k : Nat} {sp : Sp} (F : Fun K x qual st f fd) (S : FnScope N ps (defScope st)) (len : ∀ vs H Q E, sp vs H Q E → vs.length = ps.length)
    (hb : ∀ (cdv : Value) (A : Around) (fr : List Env) (s : Shared) (H : Hp) (vs : List V) (Q : VK), A.guards = some [] → Room k (A.deeper (envOfC qual (defScope st) s.heap.objs.size f cdv)) → sp vs H Q E0 →
      ∃ t, PSs (cxOf CX0 P w K mg base N qual (defScope st) f cdv A fr s H E0).nox (defBody st) t ∧ t { nx := fun _ H' => Q .non H', rt := Q } (start N vs) H) : FnG P w K mg base (k + 1) f fd ps sp := by
  obtain ⟨oc, od, kV, doc, pm, an, cdv, ct, osl, rfl, lk, hcd⟩ := F.ex
  constructor
  · exact len
  intro A fr s H ar us vs Q hg hr e0 hbi rv hsp
  have up : ∀ b o, base.get? b = some o → s.heap.get? b = some o := fun b o e => (e0.bs b o e).1
  have kin : K.In s.heap := e0.mod.kin.keeps up
  have room := hr.deeper (envOfC qual (defScope st) s.heap.objs.size f cdv)
  refine codeAny_call_function hr.depth (kin f _ lk) rfl S.co S.gen rfl (PySem.W.codeRec_of kin hcd) ?_
  refine hbi _ _ _ _ ?_
  have kinds : ∀ y ∈ ps.zip us, (defScope st).names.lookup y.1 = some .local ∨ ((defScope st).names.lookup y.1 = some .cell ∧ ((cellsFrom (s.heap.objs.size + 1) (defScope st).names []).lookup y.1).isSome = true) := by
    rintro ⟨n, v⟩ hy
    have hn := S.par n (List.of_mem_zip hy).1
    exact hn.imp id fun q => ⟨q, PySem.W.cellsFrom_some _ _ _ (.inl q)⟩
  refine wpAny_newFunctionEnv_cells S.kind kinds ?_
  rintro env rfl s1 x
  constructor
  · exact (e0.mod.nolimit.keeps up).keeps x.toInCall.keep
  refine codeAny_func ?_
  obtain ⟨t, ht, hq⟩ := hb cdv A fr s H vs Q hg room hsp
  have inv := inv_start (CX := CX0) (E := E0) (cd := cdv) (f := f) S hr.hd e0 (len vs H Q E0 hsp) rv x
  refine wpAny_mono (ht.nox.run [] s1 (start N vs) H _ inv hq) ?_ (fun _ _ h => h)
  intro fl s2 h2
  match fl, h2 with
  | .ret u, h2 =>
    obtain ⟨v, σ2, H2, J, r2, q⟩ := h2
    exact ⟨v, H2, J.os, J.bare, J.base, J.hok, r2, q⟩
  | .next, h2 =>
    obtain ⟨σ2, H2, J, q⟩ := h2
    exact ⟨V.non, H2, J.os, J.bare, J.base, J.hok, rfl, q⟩
  | .brk, h2 =>
    obtain ⟨_, _, _, q⟩ := h2
    exact q.elim
  | .cont, h2 =>
    obtain ⟨_, _, _, q⟩ := h2
    exact q.elim
end
section
variable {X : Cx} {k : Nat} {f : Addr} {fd : FuncData} {ps : List Str} {sp : Sp} {x : Str} {p pos : Pos} {e : Expr} {es : List Expr} {t : TA}
theorem runG {pins : List (Addr × Obj)} {σ : L2.St} {H : Hp} {s : Shared} {Q : VK} {us us' : List Value} {vs : List V} {kw : List (Str × Value)} (F : FnG X.prog X.w X.K X.mg X.base k f fd ps sp) (hr : Room k X.A) (gu : X.A.guards = some [])
    (I : Inv X pins σ H s) (hb : BindsTo s fd ⟨us', kw⟩ (ps.zip us)) (r : Vals vs us) (h : sp vs H Q E0) : wpAny (model X.prog X.w) X.A (call (.ref f) us' kw) (EP X pins σ Q) X.xe s := by
  refine wpAny_call (codeAny_mono (F.run X.A X.stack s H _ us vs Q gu hr I.env0 hb r h) ?_)
  intro res s' hq
  match res, hq with
  | .ok (.ret u), hq => exact I.after hq
  | .ok .next, hq => exact hq.elim
  | .ok .brk, hq => exact hq.elim
  | .ok .cont, hq => exact hq.elim
  | .error e, hq => exact hq.elim
/-- f(..), all by place -/
theorem pe_callG (F : FnG X.prog X.w X.K X.mg X.base k f fd ps sp) (hr : Room k X.A) (gu : X.A.guards = some []) (hg : Gl X x) (hm : X.mg x = some (.ref f)) (hk : PySem.W.keepIn X.K (.ref f) = true) (hb : Binds X.K fd ps [])
    (ha : PA X (e :: es) t) (hdb : (x == ("__debug__" : Str)) = false := by decide) (he : starEach (e :: es) X.env = (false, eval e X.env) :: starEach es X.env := by rfl) (hpl : (backTo pos (starEach es X.env)).any (·.1) = false := by rfl) :
    PE X (.Call (.Name x p) (e :: es) [] pos) (tCall sp [] E0 t) := by
  constructor
  intro pins s σ H Q I h
  refine wpAny_Call_Name_kw (ld_glob I hg hm ?_ hdb)
  refine PySem.W.callWith_K (h₀ := X.base) I.ok.mod.kin hk (thn (ha.run pos pins s σ H _ I h) ?_) he hpl
  rintro us s1 ⟨vs, H1, I1, r, q⟩
  refine ⟨I1.kIn, ?_⟩
  have q' : sp vs H1 Q E0 := by rw [List.append_nil] at q; exact q
  have hl : (us ++ []).length = ps.length := by rw [List.append_nil, ← r.length]; exact F.len _ _ _ _ q'
  refine runG F hr gu I1 (hb s1 us I1.kIn hl) (us := us ++ []) ?_ q'
  rw [List.append_nil]; exact r
/-- f(k = e, ..): keywords alone; g puts them in the parameters' order -/
def tCallKw (n : Nat) (sp : Sp) (g : List V → List V) (tk : TA) : TE := fun σ H Q => tk σ H fun zs H2 => zs.length = n ∧ sp (g zs) H2 Q E0
structure KwB (fd : FuncData) (ps ks : List Str) (g : {α : Type} → List α → List α) : Prop where
  to : ∀ (s : Shared) (ws : List Value), ws.length = ks.length → BindsTo s fd ⟨[], ks.zip ws⟩ (ps.zip (g ws))
  rel : ∀ {zs : List V} {ws : List Value}, Vals zs ws → Vals (g zs) (g ws)
theorem pe_callGK {ks : List Str} {g : {α : Type} → List α → List α} {kws : List Keyword} {tk : TA} (F : FnG X.prog X.w X.K X.mg X.base k f fd ps sp) (hr : Room k X.A) (gu : X.A.guards = some []) (hg : Gl X x) (hm : X.mg x = some (.ref f)) (hk : PySem.W.keepIn X.K (.ref f) = true)
    (hb : KwB fd ps ks g) (hkw : PK X kws tk) (hall : (backToKw pos (keywordEach kws X.env)).all (·.1.isSome) = true := by rfl) (hks : (backToKw pos (keywordEach kws X.env)).filterMap (·.1) = ks := by rfl) (hdb : (x == ("__debug__" : Str)) = false := by decide)
    (hpl : ((backTo pos (starEach [] X.env)).any (·.1) || (backToKw pos (keywordEach kws X.env)).any (·.1.isNone)) = false := by rfl) : PE X (.Call (.Name x p) [] kws pos) (tCallKw ks.length sp g tk) := by
  constructor
  intro pins s σ H Q I h
  refine wpAny_Call_Name_kw (ld_glob I hg hm ?_ hdb)
  refine PySem.W.callWith_KW0 (h₀ := X.base) I.ok.mod.kin hk hall ?_ hpl
  refine thn (hkw.run pos pins s σ H _ I h) ?_
  rintro ws s2 ⟨zs, H2, I2, rz, l2, q2⟩
  refine ⟨I2.kIn, ?_⟩
  rw [hks]
  exact runG F hr gu I2 (hb.to s2 ws (rz.length.symm.trans l2)) (hb.rel rz) q2
end

/-- the head -/
theorem lawG {P : Program} {w : World} {K : PySem.W.Frag} {mg mb : Str → Option Value} {k : Nat} {fa a : Addr} {fd : FuncData} {x : Str} {sp : Sp} {s₁ : Shared} {vs : List Value} {ns : List Int}
    (kin : K.In s₁.heap) (n1 : s₁.heap.Ns mainGlobals mg) (n2 : s₁.heap.Ns builtinsNs mb) (n3 : ∀ x : Str, x ≠ "__name__" → mb x = bootBuiltins x) (lim : s₁.heap.NoLimit) (gens : s₁.gens = #[])
    (ha : s₁.heap.get? a = some { cls := .type "list", data := .seq vs.toArray }) (hi : IntsAre vs ns) (hl : ns.length ≤ sizeLine) (hr : Room k callerA)
    (F : ∀ base : Heap, K.In base → base.Ns mainGlobals mg → FnG P w K mg base k fa fd [x] sp) (hbind : ∀ (s : Shared) (u : Value), BindsTo s fd ⟨[u], []⟩ [(x, u)])
    (hsp : ∀ H : Hp, Only H → SqL K H a (ns.map V.int) → sp [.ref a] H (fun v _ => v = .bl true) E0) :
    codeAny (model P w) callerA (.call (.ref fa) ⟨[.ref a], []⟩) (fun r s' => r = .ok (.ret (.bool true)) ∧ OldK s₁.heap s'.heap ∧ s'.os = s₁.os ∧ AllBare s'.gens) s₁ := by
  have rv := vals_ints hi
  have go : ∀ H : Hp, Only H → SqL K H a (ns.map V.int) → HOk P w H s₁.heap → (∀ b u, H b = some u → b = a ∧ K.lookup a = none) →
      codeAny (model P w) callerA (.call (.ref fa) ⟨[.ref a], []⟩) (fun r s' => r = .ok (.ret (.bool true)) ∧ OldK s₁.heap s'.heap ∧ s'.os = s₁.os ∧ AllBare s'.gens) s₁ := by
    intro H only sq ok one
    have keep : ∀ {b : Addr} {m : Str → Option Value}, s₁.heap.Ns b m → (hidT s₁.heap H).Ns b m := by
      rintro b m ⟨o, es, ep, e, d, r⟩
      refine ⟨o, es, ep, hidT_get e ?_, d, r⟩
      cases q : H b with
      | none => rfl
      | some u =>
        obtain ⟨rfl, _⟩ := one b u q
        rw [ha] at e
        cases e
        cases (show Data.seq vs.toArray _ = Data.dict es ep from d)
    have kb : K.In (hidT s₁.heap H) := by
      intro b o e
      refine hidT_get (kin b o e) ?_
      cases q : H b with
      | none => rfl
      | some u =>
        obtain ⟨rfl, z⟩ := one b u q
        rw [z] at e
        cases e
    obtain ⟨mc, l1, l2⟩ := lim
    have e0 : Env0 P w K mg (hidT s₁.heap H) callerA [] s₁ H := {
      frames := rfl
      mod := ⟨kb, keep n1, ⟨mb, keep n2, n3⟩, mc, keep l1, l2⟩
      bs := fun _ _ e => of_hidT e
      bsz := Nat.le_of_eq (hidT_size _ _)
      funs := trivial
      frf := fun b hb => by cases (show b ∈ ([] : List Addr) from hb)
      hok := ok
      bare := .of_eq gens }
    refine codeAny_mono ((F _ kb (keep n1)).run callerA [] s₁ H ⟨[.ref a], []⟩ [.ref a] [.ref a] (fun v _ => v = .bl true) rfl hr e0 (hbind s₁ (.ref a)) (.cons rfl .nil) (hsp H only sq)) ?_
    intro r s' h
    match r, h with
    | .error e, h => exact h.elim
    | .ok .next, h => exact h.elim
    | .ok .brk, h => exact h.elim
    | .ok .cont, h => exact h.elim
    | .ok (.ret u), h =>
      obtain ⟨v, H', os, bare, un, hok', r', rfl⟩ := h
      cases (show u = Value.bool true from r')
      refine ⟨rfl, OldK.of_keep ?_, os, bare⟩
      intro b o e
      have nob : b ∉ ([] : List Addr) := by simp
      rcases only b with z | ⟨ob, xs, z⟩
      · exact un.keep b o e z nob nob
      · have z2 := (hok' b _ (un.frzs b ob _ z)).1
        rw [(ok b _ z).1] at e
        cases e
        exact z2
  cases hk : K.lookup a with
  | some o =>
    have e := kin a o hk
    rw [ha] at e
    cases e
    refine go (fun _ => none) (fun _ => .inl rfl) (.inr ⟨_, vs.toArray, _, hk, rfl, rfl, rfl, ?_, by simpa using rv⟩) (fun b u z => by cases z) (fun b u z => by cases z)
    rw [List.size_toArray, hi.length]; exact hl
  | none =>
    have pick : ∀ {b : Addr} {u : HO}, (if b = a then some (HO.frz { cls := .type "list", data := .seq vs.toArray } (.lst (ns.map V.int))) else none) = some u → b = a ∧ u = HO.frz { cls := .type "list", data := .seq vs.toArray } (.lst (ns.map V.int)) := by
      intro b u z
      by_cases hb : b = a
      · rw [if_pos hb] at z; exact ⟨hb, (Option.some.inj z).symm⟩
      · rw [if_neg hb] at z; cases z
    refine go (fun b => if b = a then some (.frz { cls := .type "list", data := .seq vs.toArray } (.lst (ns.map V.int))) else none) (fun b => ?_) (.inl (.inr ⟨_, if_pos rfl⟩)) (fun b u z => ?_) (fun b u z => ⟨(pick z).1, hk⟩)
    · by_cases hb : b = a
      · exact .inr ⟨_, _, if_pos hb⟩
      · exact .inl (if_neg hb)
    · obtain ⟨rfl, rfl⟩ := pick z
      exact ⟨ha, by rw [List.length_map]; exact hl, vs, _, rv, ha⟩
theorem walkG {l : PySem.W.OpenLaw} {n k : Nat} {q : Program} {loose : List Str} {XP : (Str → Option Value) → Heap → Prop} {YP : World → Heap → Prop} {d : DefRec} {K : Params → PySem.W.Frag} {sp : PySem.W.Frag → Sp} {x : Str}
    (hn : l.most = some n) (hz : n ≤ sizeLine) (hdf : d.params.defaults = []) (hr : Room k callerA) (hY : ∀ (w : World) (h : Heap), YP w h → (K w.params).In h)
    (F : ∀ (w : World) (mg : Str → Option Value) (fa : Addr) (h : Heap), (K w.params).In h → h.Ns mainGlobals mg → mg d.name = some (.ref fa) →
      ∃ fd : FuncData, (∀ (s : Shared) (u : Value), BindsTo s fd ⟨[u], []⟩ [(x, u)]) ∧ ∀ base : Heap, (K w.params).In base → base.Ns mainGlobals mg → FnG l.prog w (K w.params) mg base k fa fd [x] (sp (K w.params)))
    (hsp : ∀ (K : PySem.W.Frag) (H : Hp) (a : Addr) (ns : List Int), ns.length ≤ n → Only H → SqL K H a (ns.map V.int) → sp K [.ref a] H (fun v _ => v = .bl true) E0) :
    PySem.W.WalkO q loose XP YP l.row.toRowW d [] (fun f vs => PySem.call f vs) := by
  refine Att.attach_call hn hdf ?_
  intro w s₀ s₁ mg mb fa o pm cd doc a vs ns G Y ho hd hcd hmg hobj hints hlen hg
  have kin := hY w _ Y
  obtain ⟨fd, hb, hF⟩ := F w mg fa _ kin G.T.g hmg
  exact lawG kin G.T.g G.T.b G.T.builtins G.T.nolimit hg hobj hints (Nat.le_trans hlen hz) hr hF hb fun H hO hS => hsp (K w.params) H a ns hlen hO hS
end DL

namespace DL
open PySem PySem.Spec PyProof.Rows L2

/-! ### statements -/
structure Fr where
  M0 : AP
  L : AP
  H0 : Hp
structure Stf (K : PySem.W.Frag) (F : Fr) (P : List Pin) (M L : AP) (σ : L2.St) (H : Hp) (es : Env') : Prop where
  st : Sts K P (fun a => F.H0 a = none) M L σ H es
  bs0 : Bs F.L F.M0 F.H0
  kp : Kp F.L F.H0 H
  m0 : ∀ a, F.M0 a → M a
  lo : ∀ a, F.L a → L a
  ln : ∀ a, L a → F.L a ∨ F.H0 a = none
structure DEnds where
  nx : Env' → Prop
  rt : SV → Prop
  bk : Env' → Prop := fun _ => False
  ct : Env' → Prop := fun _ => False
  xo : Fr → Prop := fun _ => True
abbrev NO : AP := fun _ => False
structure EOk (K : PySem.W.Frag) (F : Fr) (P : List Pin) (B : DEnds) (E : Ends) : Prop where
  nx : ∀ es M L σ H, Stf K F P M L σ H es → B.nx es → E.nx σ H
  rt : ∀ s v H, Kp F.L F.H0 H → SvOk K NO F.M0 F.L F.H0 H v s → B.rt s → E.rt v H
  bk : ∀ es M L σ H, Stf K F P M L σ H es → B.bk es → E.bk σ H
  ct : ∀ es M L σ H, Stf K F P M L σ H es → B.ct es → E.ct σ H
  xo : B.xo F
def DS (K : PySem.W.Frag) (ts : TS) (es : Env') (B : DEnds) : Prop :=
  ∀ F P M L σ H, Stf K F P M L σ H es → ∀ E : Ends, EOk K F P B E → ts E σ H
def SV.out : SV → SV
  | .own xs => .new xs
  | s => s
def SV.ret : SV → Prop
  | .bag => False
  | _ => True
def SV.sto : SV → SV
  | .new xs => .own xs
  | s => s
def SV.nown : SV → Prop
  | .own _ => False
  | _ => True
section
variable {K : PySem.W.Frag} {F : Fr} {P : List Pin} {N L M : AP} {H0 H1 H H' : Hp} {σ : L2.St} {es : Env'} {ta tb tc te : TE} {tt tu : TT} {Q : SV → Prop} {t u : TS} {B : DEnds}
theorem Stf.up (S : Stf K F P M L σ H es) (k : Kp L H H') : Kp F.L F.H0 H' := ⟨fun a o l e => k.k a o (fun z => (S.ln a z).elim l fun n => by rw [n] at e; cases e) (S.kp.k a o l e), fun a l => k.b a (S.lo a l)⟩
theorem Stf.kp' (S : Stf K F P M L σ H es) (k : Kp L H H') : Stf K F P M L σ H' es := ⟨S.st.kp k, S.bs0, S.up k, S.m0, S.lo, S.ln⟩
theorem Stf.was (S : Stf K F P M L σ H es) {a : Addr} (n : H a = none) : F.H0 a = none := S.kp.was n
/-- what goes out of a frame -/
theorem SvOk.leave (S : Stf K F P M L σ H es) (k : Kp L H H') {s : SV} {v : V} (h : SvOk K (fun a => F.H0 a = none) M L H H' v s) (r : s.ret) : SvOk K NO F.M0 F.L F.H0 H' v s.out := by
  cases s with
  | d x => exact Is.sub S.m0 h
  | own xs =>
    obtain ⟨a, vs, e, m, n, l, h1, h2⟩ := h
    exact ⟨a, vs, e, n, h1, h2.sub fun b q => q.elim (S.m0 b) fun z => by rw [z]; exact m⟩
  | new xs =>
    obtain ⟨a, vs, e, n, h1, h2⟩ := h
    exact ⟨a, vs, e, S.kp.was n, h1, h2.sub fun b q => q.elim (fun z => .inl (S.m0 b z)) .inr⟩
  | bag => exact r.elim
  | scr ns => exact h
  | rng lo hi => exact h
  | ty n => exact h
  | cls C => exact h
theorem ds_next (q : B.nx es) : DS K tNext es B := fun F P M L σ H S E o => o.nx es M L σ H S q
theorem ds_brk (q : B.bk es) : DS K tBreak es B := fun F P M L σ H S E o => o.bk es M L σ H S q
theorem ds_cont (q : B.ct es) : DS K tCont es B := fun F P M L σ H S E o => o.ct es M L σ H S q
theorem ds_seq (h : DS K t es { B with nx := fun e => DS K u e B }) : DS K (tSeq t u) es B := fun F P M L σ H S E o =>
  h F P M L σ H S { E with nx := u E } ⟨fun e M L σ H S q => q F P M L σ H S E o, o.rt, o.bk, o.ct, o.xo⟩
theorem ds_ret (h : DE K te es fun s => s.ret ∧ B.rt s.out) : DS K (tRet te) es B := fun F P M L σ H S E o =>
  h P _ M L σ H S.st _ fun s v H' k ok q => o.rt s.out v H' (S.up k) (ok.leave S k q.1) q.2
theorem ds_retN (q : B.rt (.d .non)) : DS K tRetN es B := fun F P M L σ H S E o => o.rt (.d .non) .non H S.kp Is.non q
theorem ds_if (h : DT K tt es fun b => if b = true then DS K t es B else DS K u es B) : DS K (tIfS tt t u) es B := fun F P M L σ H S E o =>
  h P _ M L σ H S.st _ fun b H' k q => by
    cases b with
    | true =>
      rw [if_pos rfl] at q ⊢
      exact q F P M L σ H' (S.kp' k) E o
    | false =>
      rw [if_neg Bool.false_ne_true] at q ⊢
      exact q F P M L σ H' (S.kp' k) E o
theorem ds_drop (h : DE K te es fun _ => B.nx es) : DS K (tDrop te) es B := fun F P M L σ H S E o =>
  h P _ M L σ H S.st _ fun s v H' k ok q => o.nx es M L σ H' (S.kp' k) q
theorem set_some {α : Type} {xs : List α} {i j : Nat} {x y : α} (h : (xs.set i x)[j]? = some y) : (i = j ∧ y = x) ∨ (i ≠ j ∧ xs[j]? = some y) := by
  by_cases e : i = j
  · subst e
    have hl := (List.getElem?_eq_some_iff.mp h).1
    rw [List.length_set] at hl
    rw [List.getElem?_set_self hl] at h
    exact .inl ⟨rfl, (Option.some.inj h).symm⟩
  · rw [List.getElem?_set_ne e] at h
    exact .inr ⟨e, h⟩
/-- a thing that stood ahead, when a new list is claimed -/
theorem SvOk.lift {a : Addr} {N : AP} (bs : Bs L M H) (k : Kp L H H') (n : H a = none) {w : V} {z : SV} (q : SvOk K N M L H H w z) : SvOk K N (M.add a) L H' H' w z := by
  have k1 : ∀ b o, H b = some o → ¬ (M.add a) b → H' b = some o ∧ ¬ (M.add a) b := fun b o e m => ⟨k.k b o (fun l => m (.inl (bs.lm b l))) e, m⟩
  have k2 := sqt_keep (K := K) (M := M) (fun b o m e => k.k b o (fun l => m (bs.lm b l)) e) bs.tr
  cases z with
  | d x => exact Is.chg k1 k2 _ _ (Is.add n q)
  | own ys =>
    obtain ⟨b, ws, e, m, nn, l, g1, g2⟩ := q
    exact ⟨b, ws, e, .inl m, nn, l, k.k _ _ l g1, IsAll.chg k1 k2 _ _ (g2.add n)⟩
  | new ys =>
    obtain ⟨b, ws, e, nn, g1, g2⟩ := q
    rw [nn] at g1; cases g1
  | bag => exact q
  | scr ns => exact (show SvOk K NO M L H H' w (.scr ns) from SvOk.kp (N := NO) bs (Kp.refl bs) k (show SvOk K NO M L H H w (.scr ns) from q))
  | rng lo hi => exact (show SvOk K NO M L H H' w (.rng lo hi) from SvOk.kp (N := NO) bs (Kp.refl bs) k (show SvOk K NO M L H H w (.rng lo hi) from q))
  | ty n => exact q
  | cls C => exact q
theorem Stf.claim (S : Stf K F P M L σ H es) (k : Kp L H H') {a : Addr} {vs : List V} (n : H a = none) (h1 : H' a = some (.lst vs)) :
    Stf K F P (M.add a) L σ H' es ∧ ∀ (j : Nat) (zs : List D), es[j]? = some (some (.own zs)) → σ[j]? ≠ some (some (.ref a)) := by
  have bs := S.st.bs
  refine ⟨⟨⟨(k.bs bs).add h1, S.st.len, fun j z ez => ?_, fun p hp => ?_, S.st.sep⟩, S.bs0, S.up k, fun b m => .inl (S.m0 b m), S.lo, S.ln⟩, fun j zs e q => ?_⟩
  · obtain ⟨w, g1, g2⟩ := S.st.ok j z ez
    exact ⟨w, g1, g2.lift bs k n⟩
  · refine PinOk.chg (fun b o e m => ?_) (sqt_keep (M := M) (fun b o m e => k.k b o (fun l => m (bs.lm b l)) e) bs.tr) (S.st.pin p hp)
    exact ⟨k.k b o (fun l => m (bs.lm b l)) e, fun q => q.elim m fun z => by rw [z, n] at e; cases e⟩
  · obtain ⟨w, g1, b', ws, g2, m, nn, l, g3, g4⟩ := S.st.ok j _ e
    rw [g1] at q
    cases q
    cases g2
    rw [n] at g3; cases g3
theorem set_lt {i : Nat} {α : Type} {β : Type} {xs : List α} {ys : List β} {x : β} {z : β} (l : xs.length = ys.length) (e : (ys.set i x)[i]? = some z) : i < xs.length := by
  have := (List.getElem?_eq_some_iff.mp e).1
  rw [List.length_set] at this
  rw [l]; exact this
theorem Sts.setp {N : AP} (S : Sts K P N M L σ H es) {i : Nat} {s : SV} {v : V} (h : SvOk K N M L H H v s) (no : s.nown) : Sts K P N M L (σ.set i (some v)) H (es.set i (some s)) := by
  refine ⟨S.bs, ?_, fun j z ez => ?_, S.pin, fun j1 j2 a xs ys hne e1 e2 e3 => ?_⟩
  · rw [List.length_set, List.length_set]; exact S.len
  · rcases set_some ez with ⟨rfl, e'⟩ | ⟨hij, e'⟩
    · cases e'
      exact ⟨v, List.getElem?_set_self (set_lt S.len ez), h⟩
    · obtain ⟨w, h1, h2⟩ := S.ok j z e'
      exact ⟨w, by rw [List.getElem?_set_ne hij]; exact h1, h2⟩
  · rcases set_some e1 with ⟨rfl, e'⟩ | ⟨h1, e'⟩
    · cases s with
      | own xs => exact no.elim
      | _ => cases e'
    · rcases set_some e2 with ⟨rfl, e''⟩ | ⟨h2, e''⟩
      · cases s with
        | own xs => exact no.elim
        | _ => cases e''
      · rw [List.getElem?_set_ne h1] at e3
        rw [List.getElem?_set_ne h2]
        exact S.sep j1 j2 a xs ys hne e' e'' e3
theorem Stf.setp (S : Stf K F P M L σ H es) {i : Nat} {s : SV} {v : V} (h : SvOk K (fun a => F.H0 a = none) M L H H v s) (no : s.nown) : Stf K F P M L (σ.set i (some v)) H (es.set i (some s)) :=
  ⟨S.st.setp h no, S.bs0, S.kp, S.m0, S.lo, S.ln⟩
/-- slots forgotten -/
theorem Sts.wipe1 {N : AP} (S : Sts K P N M L σ H es) (i : Nat) : Sts K P N M L (σ.set i none) H (es.set i none) := by
  refine ⟨S.bs, ?_, fun j z ez => ?_, S.pin, fun j1 j2 a xs ys hne e1 e2 e3 => ?_⟩
  · rw [List.length_set, List.length_set]; exact S.len
  · rcases set_some ez with ⟨rfl, e'⟩ | ⟨hij, e'⟩
    · cases e'
    · obtain ⟨w, h1, h2⟩ := S.ok j z e'
      exact ⟨w, by rw [List.getElem?_set_ne hij]; exact h1, h2⟩
  · rcases set_some e1 with ⟨rfl, e'⟩ | ⟨h1, e'⟩
    · cases e'
    · rcases set_some e2 with ⟨rfl, e''⟩ | ⟨h2, e''⟩
      · cases e''
      · rw [List.getElem?_set_ne h1] at e3
        rw [List.getElem?_set_ne h2]
        exact S.sep j1 j2 a xs ys hne e' e'' e3
theorem Sts.claim {N : AP} (S : Sts K P N M L σ H es) (k : Kp L H H') {a : Addr} {vs : List V} (n : H a = none) (h1 : H' a = some (.lst vs)) :
    Sts K P N (M.add a) L σ H' es ∧ ∀ (j : Nat) (zs : List D), es[j]? = some (some (.own zs)) → σ[j]? ≠ some (some (.ref a)) := by
  have bs := S.bs
  refine ⟨⟨(k.bs bs).add h1, S.len, fun j z ez => ?_, fun p hp => ?_, S.sep⟩, fun j zs e q => ?_⟩
  · obtain ⟨w, g1, g2⟩ := S.ok j z ez
    exact ⟨w, g1, g2.lift bs k n⟩
  · refine PinOk.chg (fun b o e m => ?_) (sqt_keep (M := M) (fun b o m e => k.k b o (fun l => m (bs.lm b l)) e) bs.tr) (S.pin p hp)
    exact ⟨k.k b o (fun l => m (bs.lm b l)) e, fun q => q.elim m fun z => by rw [z, n] at e; cases e⟩
  · obtain ⟨w, g1, b', ws, g2, m, nn, l, g3, g4⟩ := S.ok j _ e
    rw [g1] at q
    cases q
    cases g2
    rw [n] at g3; cases g3
/-- a claimed list that no name holds is changed -/
theorem Sts.updD {N : AP} (S : Sts K P N M L σ H es) {a : Addr} {vs ws : List V} (m : M a) (l : ¬ L a) (h1 : H a = some (.lst vs)) (old : ∀ (j : Nat) (zs : List D), es[j]? = some (some (.own zs)) → σ[j]? ≠ some (some (.ref a))) :
    Sts K P N M L σ (L2.upd H a (.lst ws)) es ∧ ∀ {us : List V} {ds : List D}, IsAll K M H us ds → IsAll K M (L2.upd H a (.lst ws)) us ds := by
  have bs := S.bs
  have kn : ∀ b o, ¬ M b → H b = some o → L2.upd H a (.lst ws) b = some o := fun b o q z => by rw [upd_ne (fun y => q (by rw [y]; exact m))]; exact z
  have kt := sqt_keep (K := K) (M := M) kn bs.tr
  have ki : ∀ {w : V} {x : D}, Is K M H w x → Is K M (L2.upd H a (.lst ws)) w x := fun {w x} q => Is.chg (fun b o z q => ⟨kn b o q z, q⟩) kt _ _ q
  have kia : ∀ {w : List V} {x : List D}, IsAll K M H w x → IsAll K M (L2.upd H a (.lst ws)) w x := fun {w x} q => IsAll.chg (fun b o z q => ⟨kn b o q z, q⟩) kt _ _ q
  have frz : ∀ b o u, H b = some (.frz o u) → L2.upd H a (.lst ws) b = some (.frz o u) := fun b o u z => by rw [upd_ne (fun y => by rw [y, h1] at z; cases z)]; exact z
  refine ⟨⟨⟨bs.lm, fun b o q z => ?_, fun b q => ?_, fun b q => ?_⟩, S.len, fun j z ez => ?_, fun p hp => PinOk.chg (fun b o z q => ⟨kn b o q z, q⟩) kt (S.pin p hp), S.sep⟩, kia⟩
  · by_cases y : b = a
    · rw [y, upd_same] at z; cases z; exact True.intro
    · rw [upd_ne y] at z; exact bs.tr b o q z
  · by_cases y : b = a
    · rw [y]; exact ⟨_, upd_same⟩
    · rw [upd_ne y]; exact bs.tk b q
  · obtain ⟨g, m', z⟩ := bs.bag b q
    exact ⟨g, m', by rw [upd_ne (fun y => l (by rw [← y]; exact q))]; exact z⟩
  · obtain ⟨w, g1, g2⟩ := S.ok j z ez
    refine ⟨w, g1, ?_⟩
    cases z with
    | d x => exact ki g2
    | own zs =>
      obtain ⟨b, us, rfl, m', n', l', k1, k2⟩ := g2
      refine ⟨b, us, rfl, m', n', l', ?_, kia k2⟩
      rw [upd_ne]
      · exact k1
      · intro y
        subst y
        exact old j zs ez g1
    | new zs =>
      obtain ⟨b, us, _, n', k1, k2⟩ := g2
      rw [n'] at k1; cases k1
    | bag => exact g2
    | scr ns =>
      obtain ⟨b, z, y⟩ := g2
      exact ⟨b, z, y.keep frz⟩
    | rng lo hi =>
      obtain ⟨b, z, y⟩ := g2
      exact ⟨b, z, by rw [upd_ne (fun q => by rw [q, h1] at y; cases y)]; exact y⟩
    | ty n => exact g2
    | cls C => exact g2
theorem Stf.seto (S : Stf K F P M L σ H es) {i : Nat} {a : Addr} {vs : List V} {xs : List D} (m : M a) (n : F.H0 a = none) (l : ¬ L a) (h1 : H a = some (.lst vs)) (h2 : IsAll K M H vs xs)
    (old : ∀ (j : Nat) (zs : List D), j ≠ i → es[j]? = some (some (.own zs)) → σ[j]? ≠ some (some (.ref a))) : Stf K F P M L (σ.set i (some (.ref a))) H (es.set i (some (.own xs))) := by
  refine ⟨⟨S.st.bs, ?_, fun j z ez => ?_, S.st.pin, fun j1 j2 b xs' ys' hne e1 e2 e3 => ?_⟩, S.bs0, S.kp, S.m0, S.lo, S.ln⟩
  · rw [List.length_set, List.length_set]; exact S.st.len
  · rcases set_some ez with ⟨rfl, e'⟩ | ⟨hij, e'⟩
    · cases e'
      exact ⟨_, List.getElem?_set_self (set_lt S.st.len ez), a, vs, rfl, m, n, l, h1, h2⟩
    · obtain ⟨w, g1, g2⟩ := S.st.ok j z e'
      exact ⟨w, by rw [List.getElem?_set_ne hij]; exact g1, g2⟩
  · rcases set_some e1 with ⟨rfl, e'⟩ | ⟨g1, e'⟩
    · rcases set_some e2 with ⟨rfl, e''⟩ | ⟨g2, e''⟩
      · exact absurd rfl hne
      · rw [List.getElem?_set_self (set_lt S.st.len e1)] at e3
        cases e3
        rw [List.getElem?_set_ne g2]
        exact old j2 _ (Ne.symm g2) e''
    · rcases set_some e2 with ⟨rfl, e''⟩ | ⟨g2, e''⟩
      · rw [List.getElem?_set_ne g1] at e3
        rw [List.getElem?_set_self (set_lt S.st.len e2)]
        intro z
        cases z
        exact old j1 _ (Ne.symm g1) e' e3
      · rw [List.getElem?_set_ne g1] at e3
        rw [List.getElem?_set_ne g2]
        exact S.st.sep j1 j2 b xs' ys' hne e' e'' e3
theorem SV.sto_plain {s : SV} (h : ∀ xs, s ≠ .new xs) : s.sto = s := by
  cases s with
  | new xs => exact absurd rfl (h xs)
  | _ => rfl
theorem SvOk.plain {N : AP} {s : SV} {v : V} (h : ∀ xs, s ≠ .new xs) (q : SvOk K N M L H0 H v s) : SvOk K N M L H1 H v s := by
  cases s with
  | new xs => exact absurd rfl (h xs)
  | _ => exact q
/-- a name is given a thing (base H: what was ahead) -/
theorem Stf.store (S : Stf K F P M L σ H es) (k : Kp L H H') {i : Nat} {s : SV} {v : V} (h : SvOk K (fun a => F.H0 a = none) M L H H' v s) (no : s.nown) : ∃ M', Stf K F P M' L (σ.set i (some v)) H' (es.set i (some s.sto)) := by
  by_cases hn : ∃ xs, s = .new xs
  · obtain ⟨xs, rfl⟩ := hn
    obtain ⟨a, vs, rfl, n, h1, h2⟩ := h
    obtain ⟨S1, old⟩ := S.claim k n h1
    exact ⟨M.add a, S1.seto (.inr rfl) (S.kp.was n) (fun l => fresh_nm S.st.bs n (S.st.bs.lm a l)) h1 h2 fun j zs _ => old j zs⟩
  · have hp : ∀ xs, s ≠ .new xs := fun xs e => hn ⟨xs, e⟩
    rw [SV.sto_plain hp]
    exact ⟨M, (S.kp' k).setp (h.plain hp) no⟩
theorem ds_set {i : Nat} (h : DE K te es fun s => s.nown ∧ B.nx (es.set i (some s.sto))) : DS K (tAsg te (gName i)) es B := fun F P M L σ H S E o =>
  h P _ M L σ H S.st _ fun s v H' k ok q => by
    obtain ⟨M', S'⟩ := S.store (i := i) k ok q.1
    exact o.nx _ _ _ _ _ S' q.2
/-- an owned list becomes a thing like others -/
theorem Stf.freeze (S : Stf K F P M L σ H es) {i : Nat} {xs : List D} (e : es[i]? = some (some (.own xs))) : ∃ M', Stf K F P M' L σ H (es.set i (some (.d (.lst xs)))) := by
  obtain ⟨v, hv, a, vs, rfl, m, n, l, h1, h2⟩ := S.st.ok i _ e
  have sub : ∀ b, (M b ∧ b ≠ a) → M b := fun b h => h.1
  refine ⟨fun b => M b ∧ b ≠ a, ⟨⟨fun b q => ⟨S.st.bs.lm b q, fun z => l (by rw [← z]; exact q)⟩, fun b o q e => S.st.bs.tr b o q.1 e, fun b q => S.st.bs.tk b q.1, S.st.bs.bag⟩, ?_, fun j z ez => ?_, fun p hp => PinOk.chg (fun b o e m => ⟨e, fun q => m q.1⟩) (TK.refl _ _) (S.st.pin p hp), fun j1 j2 b xs' ys' hne e1 e2 e3 => ?_⟩, S.bs0, S.kp, fun b q => ⟨S.m0 b q, fun z => ?_⟩, S.lo, S.ln⟩
  · rw [List.length_set]; exact S.st.len
  · rcases set_some ez with ⟨rfl, e'⟩ | ⟨hij, e'⟩
    · cases e'
      exact ⟨_, hv, Is.lst h1 (fun q => q.2 rfl) (h2.sub sub)⟩
    · obtain ⟨w, g1, g2⟩ := S.st.ok j z e'
      refine ⟨w, g1, ?_⟩
      cases z with
      | d x => exact Is.sub sub g2
      | own ys =>
        obtain ⟨b, ws, rfl, m', n', l', k1, k2⟩ := g2
        refine ⟨b, ws, rfl, ⟨m', fun z => ?_⟩, n', l', k1, k2.sub sub⟩
        subst z
        exact S.st.sep i j b xs ys hij e e' hv g1
      | new ys =>
        obtain ⟨b, ws, _, n', k1, k2⟩ := g2
        rw [n'] at k1; cases k1
      | bag => exact g2
      | scr ns => exact g2
      | rng lo hi => exact g2
      | ty n => exact g2
      | cls C => exact g2
  · rcases set_some e1 with ⟨rfl, e'⟩ | ⟨g1, e'⟩
    · cases e'
    · rcases set_some e2 with ⟨rfl, e''⟩ | ⟨g2, e''⟩
      · cases e''
      · exact S.st.sep j1 j2 b xs' ys' hne e' e'' e3
  · obtain ⟨o, q'⟩ := S.bs0.tk b q
    rw [z, n] at q'; cases q'
theorem ds_freeze {i : Nat} {xs : List D} (e : es[i]? = some (some (.own xs))) (h : DS K t (es.set i (some (.d (.lst xs)))) B) : DS K t es B := fun F P M L σ H S E o => by
  obtain ⟨M', S'⟩ := S.freeze e
  exact h F P M' L σ H S' E o
/-- an owned list is changed -/
theorem Stf.upd (S : Stf K F P M L σ H es) {i : Nat} {xs ys : List D} {a : Addr} {ws : List V} (e : es[i]? = some (some (.own xs))) (hv : σ[i]? = some (some (.ref a))) (hw : IsAll K M H ws ys) : Stf K F P M L σ (L2.upd H a (.lst ws)) (es.set i (some (.own ys))) := by
  obtain ⟨v, hv', a', vs, rfl, m, n, l, h1, h2⟩ := S.st.ok i _ e
  rw [hv] at hv'
  cases hv'
  have bs := S.st.bs
  have kn : ∀ b o, ¬ M b → H b = some o → L2.upd H a (.lst ws) b = some o := fun b o q z => by rw [upd_ne (fun y => q (by rw [y]; exact m))]; exact z
  have kt := sqt_keep (K := K) (M := M) kn bs.tr
  have ki : ∀ {w : V} {x : D}, Is K M H w x → Is K M (L2.upd H a (.lst ws)) w x := fun {w x} q => Is.chg (fun b o z q => ⟨kn b o q z, q⟩) kt _ _ q
  have kia : ∀ {w : List V} {x : List D}, IsAll K M H w x → IsAll K M (L2.upd H a (.lst ws)) w x := fun {w x} q => IsAll.chg (fun b o z q => ⟨kn b o q z, q⟩) kt _ _ q
  have frz : ∀ b o u, H b = some (.frz o u) → L2.upd H a (.lst ws) b = some (.frz o u) := fun b o u z => by rw [upd_ne (fun y => by rw [y, h1] at z; cases z)]; exact z
  refine ⟨⟨⟨bs.lm, fun b o q z => ?_, fun b q => ?_, fun b q => ?_⟩, ?_, fun j z ez => ?_, fun p hp => PinOk.chg (fun b o z q => ⟨kn b o q z, q⟩) kt (S.st.pin p hp), fun j1 j2 b xs' ys' hne e1 e2 e3 => ?_⟩, S.bs0, ⟨fun b o q z => ?_, fun b q => ?_⟩, S.m0, S.lo, S.ln⟩
  · by_cases y : b = a
    · rw [y, upd_same] at z; cases z; exact True.intro
    · rw [upd_ne y] at z; exact bs.tr b o q z
  · by_cases y : b = a
    · rw [y]; exact ⟨_, upd_same⟩
    · rw [upd_ne y]; exact bs.tk b q
  · obtain ⟨g, m', z⟩ := bs.bag b q
    exact ⟨g, m', by rw [upd_ne (fun y => l (by rw [← y]; exact q))]; exact z⟩
  · rw [List.length_set]; exact S.st.len
  · rcases set_some ez with ⟨rfl, e'⟩ | ⟨hij, e'⟩
    · cases e'
      exact ⟨_, hv, a, ws, rfl, m, n, l, upd_same, kia hw⟩
    · obtain ⟨w, g1, g2⟩ := S.st.ok j z e'
      refine ⟨w, g1, ?_⟩
      cases z with
      | d x => exact ki g2
      | own zs =>
        obtain ⟨b, us, rfl, m', n', l', k1, k2⟩ := g2
        refine ⟨b, us, rfl, m', n', l', ?_, kia k2⟩
        rw [upd_ne]
        · exact k1
        · intro y
          subst y
          exact S.st.sep i j b xs zs hij e e' hv g1
      | new zs =>
        obtain ⟨b, us, _, n', k1, k2⟩ := g2
        rw [n'] at k1; cases k1
      | bag => exact g2
      | scr ns =>
        obtain ⟨b, z, y⟩ := g2
        exact ⟨b, z, y.keep frz⟩
      | rng lo hi =>
        obtain ⟨b, z, y⟩ := g2
        exact ⟨b, z, by rw [upd_ne (fun q => by rw [q, h1] at y; cases y)]; exact y⟩
      | ty n => exact g2
      | cls C => exact g2
  · rcases set_some e1 with ⟨rfl, e'⟩ | ⟨g1, e'⟩
    · rcases set_some e2 with ⟨rfl, e''⟩ | ⟨g2, e''⟩
      · exact absurd rfl hne
      · exact S.st.sep _ j2 b xs ys' hne e e'' e3
    · rcases set_some e2 with ⟨rfl, e''⟩ | ⟨g2, e''⟩
      · exact S.st.sep j1 _ b xs' xs hne e' e e3
      · exact S.st.sep j1 j2 b xs' ys' hne e' e'' e3
  · rw [upd_ne (fun y => by rw [y, n] at z; cases z)]
    exact S.kp.k b o q z
  · have q := S.lo b q
    obtain ⟨g, m', z⟩ := bs.bag b q
    exact ⟨g, m', by rw [upd_ne (fun y => l (by rw [← y]; exact q))]; exact z⟩
theorem tyL {a : Addr} {H : Hp} {vs : List V} (h : H a = some (.lst vs)) : tyV K "list" (.ref a) H := .inl ⟨rfl, vs, .inl (.inl h)⟩
/-- an owned pair of numbers becomes a bag -/
theorem ds_tobag {i : Nat} {g m : Int} (e : es[i]? = some (some (.own [.int g, .int m]))) (h : DS K t (es.set i (some .bag)) B) : DS K t es B := fun F P M L σ H S E o => by
  obtain ⟨v, hv, a, vs, rfl, mm, n, l, h1, h2⟩ := S.st.ok i _ e
  have ev : vs = [.int g, .int m] := IsAll.ofInts (ns := [g, m]) h2
  subst ev
  refine h F P M (L.add a) σ H ⟨⟨⟨fun b q => q.elim (S.st.bs.lm b) fun z => by rw [z]; exact mm, S.st.bs.tr, S.st.bs.tk, fun b q => q.elim (S.st.bs.bag b) fun z => ⟨g, m, by rw [z]; exact h1⟩⟩, ?_, fun j z ez => ?_, S.st.pin, fun j1 j2 b xs' ys' hne e1 e2 e3 => ?_⟩, S.bs0, S.kp, S.m0, fun b q => .inl (S.lo b q), fun b q => q.elim (S.ln b) fun z => .inr (by rw [z]; exact n)⟩ E o
  · rw [List.length_set]; exact S.st.len
  · rcases set_some ez with ⟨rfl, e'⟩ | ⟨hij, e'⟩
    · cases e'
      exact ⟨_, hv, a, rfl, .inr rfl⟩
    · obtain ⟨w, g1, g2⟩ := S.st.ok j z e'
      refine ⟨w, g1, ?_⟩
      cases z with
      | own ys =>
        obtain ⟨b, ws, rfl, m', n', l', k1, k2⟩ := g2
        refine ⟨b, ws, rfl, m', n', fun q => q.elim l' fun z => ?_, k1, k2⟩
        subst z
        exact S.st.sep i j b _ ys hij e e' hv g1
      | bag =>
        obtain ⟨b, q1, q2⟩ := g2
        exact ⟨b, q1, .inl q2⟩
      | d x => exact g2
      | new ys => exact g2
      | scr ns => exact g2
      | rng lo hi => exact g2
      | ty n => exact g2
      | cls C => exact g2
  · rcases set_some e1 with ⟨rfl, e'⟩ | ⟨g1, e'⟩
    · cases e'
    · rcases set_some e2 with ⟨rfl, e''⟩ | ⟨g2, e''⟩
      · cases e''
      · exact S.st.sep j1 j2 b xs' ys' hne e' e'' e3
/-- found.append(e) -/
theorem ds_app {i : Nat} {xs : List D} (e : es[i]? = some (some (.own xs))) (h : DE K te es fun s => ∃ x, s.dat = some x ∧ xs.length < 100000 ∧ B.nx (es.set i (some (.own (xs ++ [x]))))) :
    DS K (tDrop (tBM K "list" rAppend (tVar i) (tCons te tNil))) es B := fun F P M L σ H S E o => by
  obtain ⟨v, hv, a, vs, rfl, m, n, l, h1, h2⟩ := S.st.ok i _ e
  refine ⟨.ref a, hv, tyL h1, h P _ M L σ H S.st _ fun s w H' k ok q => ?_⟩
  obtain ⟨x, ex, hz, q⟩ := q
  have h1' := k.k _ _ l h1
  have S' := S.kp' k
  have ia := IsAll.kp k S.st.bs h2
  have ix : Is K M H' w x := ok.data S.st.bs ex
  refine ⟨a, vs, w, rfl, rfl, h1', by rw [h2.len]; exact Nat.lt_of_lt_of_le hz (by decide), ?_⟩
  exact o.nx _ _ _ _ _ (S'.upd e hv (ia.append (.cons ix .nil))) q
/-- found[k] = e -/
theorem ds_put {i : Nat} {xs : List D} {ti : TE} (e : es[i]? = some (some (.own xs))) (h : DE K te es fun s => ∃ x, s.dat = some x ∧ DE K ti es fun z => ∃ n j, z = .d (.int n) ∧ ixN xs.length n = some j ∧ B.nx (es.set i (some (.own (xs.set j x))))) :
    DS K (tAsg te (gSub (tVar i) ti rSetL)) es B := fun F P M L σ H S E o => by
  obtain ⟨v, hv, a, vs, rfl, m, n, l, h1, h2⟩ := S.st.ok i _ e
  refine h P _ M L σ H S.st _ fun s w H1 k1 ok q => ?_
  obtain ⟨x, ex, q⟩ := q
  have ix : Is K M H1 w x := ok.data S.st.bs ex
  refine ⟨.ref a, hv, q P _ M L σ H1 (S.kp' k1).st _ fun z u H2 k2 oz q2 => ?_⟩
  obtain ⟨nn, j, rfl, hj, q2⟩ := q2
  cases oz
  have k12 := k1.trans k2
  have S' := S.kp' k12
  refine ⟨a, vs, nn, j, rfl, rfl, k12.k _ _ l h1, by rw [h2.len]; exact hj, ?_⟩
  exact o.nx _ _ _ _ _ (S'.upd e hv ((IsAll.kp k12 S.st.bs h2).set (Is.kp k2 (k1.bs S.st.bs) ix) j)) q2
/-- x, y = e, e' -/
theorem ds_par {i j : Nat} (hij : i ≠ j) (h : DE K ta es fun s => DE K tb es fun z => s.nown ∧ z.nown ∧ B.nx ((es.set i (some s.sto)).set j (some z.sto))) : DS K (tPar i j (tCons ta (tCons tb tNil))) es B := fun F P M L σ H S E o => by
  refine h P _ M L σ H S.st _ fun s v H1 k1 o1 q1 => ?_
  by_cases hn : ∃ xs, s = .new xs
  · obtain ⟨xs, rfl⟩ := hn
    obtain ⟨a, vs, rfl, n, h1, h2⟩ := o1
    obtain ⟨S1, old⟩ := S.claim k1 n h1
    have la : ¬ L a := fun l => fresh_nm S.st.bs n (S.st.bs.lm a l)
    refine q1 P _ _ L σ H1 S1.st _ fun z w H2 k2 o2 q2 => ?_
    obtain ⟨n1, n2, q⟩ := q2
    refine ⟨.ref a, w, rfl, ?_⟩
    have h1' := k2.k _ _ la h1
    have h2' := IsAll.kp k2 S1.st.bs h2
    by_cases hm : ∃ ys, z = .new ys
    · obtain ⟨ys, rfl⟩ := hm
      obtain ⟨b, us, rfl, nb, g1, g2⟩ := o2
      obtain ⟨S2, old2⟩ := S1.claim k2 nb g1
      have ab : a ≠ b := fun e => by rw [← e, h1] at nb; cases nb
      have h2'' : IsAll K ((M.add a).add b) H2 vs xs := IsAll.chg (fun b' o' e m => ⟨k2.k b' o' (fun l => m (.inl (S1.st.bs.lm b' l))) e, m⟩) (sqt_keep (M := M.add a) (fun b' o' m e => k2.k b' o' (fun l => m (S1.st.bs.lm b' l)) e) S1.st.bs.tr) _ _ (h2.add nb)
      have S3 := S2.seto (i := i) (.inl (.inr rfl)) (S.kp.was n) la h1' h2'' fun j zs _ => old j zs
      refine o.nx _ _ _ _ _ (S3.seto (i := j) (.inr rfl) (S1.kp.was nb) (fun l => fresh_nm S1.st.bs nb (S1.st.bs.lm b l)) g1 g2 fun j' zs hj e => ?_) q
      rcases set_some e with ⟨rfl, _⟩ | ⟨hij', e'⟩
      · have hl : i < σ.length := by
          have := (List.getElem?_eq_some_iff.mp e).1
          rw [List.length_set] at this
          rw [S.st.len]; exact this
        rw [List.getElem?_set_self hl]
        intro zz
        cases zz
        exact ab rfl
      · rw [List.getElem?_set_ne hij']
        exact old2 j' zs e'
    · have hp : ∀ xs, z ≠ .new xs := fun xs e => hm ⟨xs, e⟩
      rw [SV.sto_plain hp] at q
      have S3 := (S1.kp' k2).seto (i := i) (.inr rfl) (S.kp.was n) la h1' h2' fun j zs _ => old j zs
      exact o.nx _ _ _ _ _ (S3.setp (o2.plain hp) n2) q
  · have hp : ∀ xs, s ≠ .new xs := fun xs e => hn ⟨xs, e⟩
    refine q1 P _ M L σ H1 (S.kp' k1).st _ fun z w H2 k2 o2 q2 => ?_
    obtain ⟨n1, n2, q⟩ := q2
    rw [SV.sto_plain hp] at q
    refine ⟨v, w, rfl, ?_⟩
    have S1 := S.kp' k1
    by_cases hm : ∃ ys, z = .new ys
    · obtain ⟨ys, rfl⟩ := hm
      obtain ⟨b, us, rfl, nb, g1, g2⟩ := o2
      obtain ⟨S2, old2⟩ := S1.claim k2 nb g1
      have S3 := S2.setp (i := i) ((o1.plain (H1 := H1) hp).lift S1.st.bs k2 nb) n1
      refine o.nx _ _ _ _ _ (S3.seto (i := j) (.inr rfl) (S1.kp.was nb) (fun l => fresh_nm S1.st.bs nb (S1.st.bs.lm b l)) g1 g2 fun j' zs hj e => ?_) q
      rcases set_some e with ⟨rfl, e'⟩ | ⟨hij', e'⟩
      · cases s with
        | own xs => exact n1.elim
        | _ => cases e'
      · rw [List.getElem?_set_ne hij']
        exact old2 j' zs e'
    · have hq : ∀ xs, z ≠ .new xs := fun xs e => hm ⟨xs, e⟩
      rw [SV.sto_plain hq] at q
      have o1' : SvOk K (fun a => F.H0 a = none) M L H2 H2 v s := (SvOk.kp (H0 := H1) S1.st.bs (Kp.refl S1.st.bs) k2 (o1.plain hp)).plain hp
      exact o.nx _ _ _ _ _ (((S1.kp' k2).setp (i := i) o1' n1).setp (o2.plain hq) n2) q
end
end DL

namespace DL
open PySem PySem.Spec PyProof.Rows L2

/-! ### repr of data -/
def rRepr (K : PySem.W.Frag) : List V → Hp → VK → Prop := fun vs H Q => ∃ (v : V) (d : PyData), vs = [v] ∧ Dp K H v d ∧ d.showable = true ∧ d.hasDict = false ∧ d.shown.length ≤ sizeLine ∧ d.depth ≤ 60 ∧ Q (.str d.shown) H
theorem call_repr {X : Cx} (gu : X.A.guards = some []) (hu : X.A.units + 64 < cLine) : CallR X (.builtin "repr") (rRepr X.K) := by
  intro pins s σ H xs us Q I r h
  obtain ⟨v, d, rfl, hd, hs, hk, hz, hp, q⟩ := h
  obtain ⟨u, rfl, ru⟩ := vals1 r
  have rd := Dp.reads I d v u hd ru
  have fin : ∀ (h' : Heap) (t tk : Nat), (∀ b o, s.heap.get? b = some o → h'.get? b = some o) → EP X pins σ Q (.str d.shown t) { s with heap := h', toks := tk } := fun h' t tk k => ⟨.str d.shown, H, I.kept k, ⟨t, rfl⟩, q⟩
  cases hd with
  | non =>
    cases ru
    exact PySem.P.repr_of_none (fin _ _ _ fun _ _ e => e)
  | bl b =>
    cases ru
    exact PySem.P.repr_of_bool (fin _ _ _ fun _ _ e => e)
  | int i =>
    obtain ⟨t, rfl⟩ := ru
    exact PySem.P.repr_of_int (of_decide_eq_true hs) (fin _ _ _ fun _ _ e => e)
  | str x =>
    obtain ⟨t, rfl⟩ := ru
    exact PySem.P.repr_of_str (fin _ _ _ fun _ _ e => e) hz
  | lst h1 h2 =>
    cases ru
    obtain ⟨as, rd⟩ := rd
    exact repr_of_reads' rd hs (PyData.noDict_hsm hk) gu (by omega) (fun _ _ e => e) (fun h' u tk k => fin h' u tk k) hz
  | tup h1 h2 =>
    cases ru
    obtain ⟨as, rd⟩ := rd
    exact repr_of_reads' rd hs (PyData.noDict_hsm hk) gu (by omega) (fun _ _ e => e) (fun h' u tk k => fin h' u tk k) hz
/-- the text that repr tells -/
def D.shown (d : D) : Str := d.py.shown
/-! what may be shown and compared: no object, texts of signs, numbers within 2^1900, so deep, so heavy -/
mutual
def D.fine : D → Bool
  | .non => true
  | .bl _ => true
  | .int i => decide (i.natAbs.log2 < 1900)
  | .str x => x.cps.all (· < 0x110000)
  | .lst xs => D.fineAll xs
  | .tup xs => D.fineAll xs
  | .obj _ _ => false
def D.fineAll : List D → Bool
  | [] => true
  | d :: ds => D.fine d && D.fineAll ds
end
mutual
def D.wt : D → Nat
  | .non => 8
  | .bl _ => 8
  | .int i => i.natAbs.log2 + 8
  | .str x => 10 * x.length + 8
  | .lst xs => 8 + D.wtAll xs
  | .tup xs => 8 + D.wtAll xs
  | .obj _ _ => 0
def D.wtAll : List D → Nat
  | [] => 0
  | d :: ds => D.wt d + 2 + D.wtAll ds
end
mutual
def D.dep : D → Nat
  | .lst xs => D.depAll xs + 1
  | .tup xs => D.depAll xs + 1
  | _ => 0
def D.depAll : List D → Nat
  | [] => 0
  | d :: ds => max (D.dep d) (D.depAll ds)
end
/-- fit to be shown: weight n, depth k -/
structure Fit (n k : Nat) (d : D) : Prop where
  f : d.fine = true
  w : d.wt ≤ n
  d : d.dep ≤ k
structure FitA (n k : Nat) (ds : List D) : Prop where
  f : D.fineAll ds = true
  w : D.wtAll ds ≤ n
  d : D.depAll ds ≤ k
theorem log2_le_of_lt {n m : Nat} (h : n < 2 ^ m) (hm : 0 < m) : n.log2 < m := by
  by_cases hn : n = 0
  · subst hn; simpa using hm
  · exact (Nat.log2_lt hn).mpr h
theorem FitA.nil : FitA 0 0 [] := ⟨rfl, Nat.le_refl _, Nat.le_refl _⟩
theorem FitA.cons {n m k j : Nat} {d : D} {ds : List D} (h : Fit n k d) (t : FitA m j ds) : FitA (n + 2 + m) (max k j) (d :: ds) := ⟨by
  show (D.fine d && D.fineAll ds) = true
  rw [h.f, t.f]; rfl, by
  show D.wt d + 2 + D.wtAll ds ≤ _
  have := h.w; have := t.w; omega, by
  show max (D.dep d) (D.depAll ds) ≤ _
  have := h.d; have := t.d; omega⟩
theorem FitA.of {n k : Nat} : ∀ {m : Nat} {ds : List D}, (∀ d ∈ ds, Fit n k d) → ds.length ≤ m → FitA (m * (n + 2)) k ds
  | m, [], _, _ => ⟨rfl, Nat.zero_le _, Nat.zero_le _⟩
  | 0, d :: ds, _, l => by simp at l
  | m + 1, d :: ds, h, l => by
    have h1 := h d List.mem_cons_self
    have h2 := FitA.of (m := m) (fun x hx => h x (List.mem_cons_of_mem _ hx)) (by simpa using l)
    have h3 := FitA.cons h1 h2
    refine ⟨h3.f, Nat.le_trans h3.w ?_, Nat.le_trans h3.d (by omega)⟩
    rw [Nat.succ_mul]; omega
theorem Fit.non : Fit 8 0 .non := ⟨rfl, Nat.le_refl _, Nat.le_refl _⟩
theorem Fit.bl (b : Bool) : Fit 8 0 (.bl b) := ⟨rfl, Nat.le_refl _, Nat.le_refl _⟩
theorem Fit.int {m : Nat} {i : Int} (h : i.natAbs < 2 ^ m) (hm : 0 < m) (hz : m ≤ 1900) : Fit (m + 8) 0 (.int i) := ⟨by
  show decide (i.natAbs.log2 < 1900) = true
  have := log2_le_of_lt h hm
  exact decide_eq_true (by omega), by
  show i.natAbs.log2 + 8 ≤ _
  have := log2_le_of_lt h hm
  omega, Nat.le_refl _⟩
theorem Fit.str {m : Nat} {x : Str} (h : x.cps.all (· < 0x110000) = true) (l : x.length ≤ m) : Fit (10 * m + 8) 0 (.str x) := ⟨h, by
  show 10 * x.length + 8 ≤ _
  omega, Nat.le_refl _⟩
theorem Fit.lst {n k : Nat} {ds : List D} (h : FitA n k ds) : Fit (8 + n) (k + 1) (.lst ds) := ⟨h.f, Nat.add_le_add_left h.w _, Nat.succ_le_succ h.d⟩
theorem Fit.tup {n k : Nat} {ds : List D} (h : FitA n k ds) : Fit (8 + n) (k + 1) (.tup ds) := ⟨h.f, Nat.add_le_add_left h.w _, Nat.succ_le_succ h.d⟩
theorem Fit.mono {n m k j : Nat} {d : D} (h : Fit n k d) (a : n ≤ m) (b : k ≤ j) : Fit m j d := ⟨h.f, Nat.le_trans h.w a, Nat.le_trans h.d b⟩
mutual
theorem fine_plain : ∀ d : D, d.fine = true → d.plain = true
  | .non, _ => rfl
  | .bl _, _ => rfl
  | .int _, _ => rfl
  | .str _, _ => rfl
  | .lst xs, h => fineAll_plain xs h
  | .tup xs, h => fineAll_plain xs h
theorem fineAll_plain : ∀ ds : List D, D.fineAll ds = true → D.plainAll ds = true
  | [], _ => rfl
  | d :: ds, h => by
    have h' := Bool.and_eq_true_iff.mp (show (D.fine d && D.fineAll ds) = true from h)
    show (D.plain d && D.plainAll ds) = true
    rw [fine_plain d h'.1, fineAll_plain ds h'.2]; rfl
end
mutual
theorem fine_lay : ∀ d : D, d.fine = true → d.py.canLay0 = true
  | .non, _ => rfl
  | .bl _, _ => rfl
  | .int _, _ => rfl
  | .str _, h => h
  | .lst xs, h => fineAll_lay xs h
  | .tup xs, h => fineAll_lay xs h
theorem fineAll_lay : ∀ ds : List D, D.fineAll ds = true → PyData.canLayAll0 (D.pyAll ds) = true
  | [], _ => rfl
  | d :: ds, h => by
    have h' := Bool.and_eq_true_iff.mp (show (D.fine d && D.fineAll ds) = true from h)
    show (PyData.canLay0 d.py && PyData.canLayAll0 (D.pyAll ds)) = true
    rw [fine_lay d h'.1, fineAll_lay ds h'.2]; rfl
end
mutual
theorem fine_show : ∀ d : D, d.fine = true → d.py.showable = true
  | .non, _ => rfl
  | .bl _, _ => rfl
  | .int i, h => by
    have h' : i.natAbs.log2 < 1900 := of_decide_eq_true h
    exact decide_eq_true (by omega)
  | .str _, h => rfl
  | .lst xs, h => fineAll_show xs h
  | .tup xs, h => fineAll_show xs h
theorem fineAll_show : ∀ ds : List D, D.fineAll ds = true → PyData.showableAll (D.pyAll ds) = true
  | [], _ => rfl
  | d :: ds, h => by
    have h' := Bool.and_eq_true_iff.mp (show (D.fine d && D.fineAll ds) = true from h)
    show (PyData.showable d.py && PyData.showableAll (D.pyAll ds)) = true
    rw [fine_show d h'.1, fineAll_show ds h'.2]; rfl
end
mutual
theorem py_dict : ∀ d : D, d.py.hasDict = false
  | .non => rfl
  | .bl _ => rfl
  | .int _ => rfl
  | .str _ => rfl
  | .lst xs => pyAll_dict xs
  | .tup xs => pyAll_dict xs
  | .obj _ _ => rfl
theorem pyAll_dict : ∀ ds : List D, PyData.hasDictAll (D.pyAll ds) = false
  | [] => rfl
  | d :: ds => by
    show (PyData.hasDict d.py || PyData.hasDictAll (D.pyAll ds)) = false
    rw [py_dict d, pyAll_dict ds]; rfl
end
mutual
theorem py_depth : ∀ d : D, d.py.depth ≤ d.dep + 1
  | .non => by simp [D.py, PyData.depth]
  | .bl _ => by simp [D.py, PyData.depth]
  | .int _ => by simp [D.py, PyData.depth]
  | .str _ => by simp [D.py, PyData.depth]
  | .lst xs => by
    have := pyAll_depth xs
    show PyData.depth (.list (D.pyAll xs)) ≤ D.depAll xs + 1 + 1
    simp only [PyData.depth]; omega
  | .tup xs => by
    have := pyAll_depth xs
    show PyData.depth (.tuple (D.pyAll xs)) ≤ D.depAll xs + 1 + 1
    simp only [PyData.depth]; omega
  | .obj _ _ => by simp [D.py, PyData.depth]
theorem pyAll_depth : ∀ ds : List D, PyData.depthAll (D.pyAll ds) ≤ D.depAll ds + 1
  | [] => by simp [D.pyAll, PyData.depthAll]
  | d :: ds => by
    have h1 := py_depth d
    have h2 := pyAll_depth ds
    show PyData.depthAll (d.py :: D.pyAll ds) ≤ max (D.dep d) (D.depAll ds) + 1
    simp only [PyData.depthAll]; omega
end
theorem textFrom_up : ∀ (ts : List Str) (k : Nat) (acc : Str), (textFrom k acc ts).length ≤ acc.length + piled ts
  | [], _, acc => by show acc.length ≤ _; omega
  | t :: r, k, acc => by
    have h := textFrom_up r (k + 1) (acc ++ (if k > 0 then ", " else "" : String) ++ t)
    rw [piled_cons]
    have e : (acc ++ (if k > 0 then ", " else "" : String) ++ t).length ≤ acc.length + 2 + t.length := by
      rw [strLen_append, strLen_append]
      split
      · exact Nat.le_refl _
      · show acc.length + 0 + t.length ≤ _
        omega
    show (textFrom (k + 1) (acc ++ (if k > 0 then ", " else "" : String) ++ t) r).length ≤ _
    omega
end DL

namespace DL
open PySem PySem.Spec PyProof.Rows L2
theorem listText_up (ts : List Str) : (listText ts).length ≤ 2 + piled ts := by
  unfold listText
  have h := textFrom_up ts 0 "["
  rw [strLen_append]
  have e1 : (("[" : String) : Str).length = 1 := rfl
  have e2 : (("]" : String) : Str).length = 1 := rfl
  rw [e1] at h
  rw [e2]; omega
theorem tupleText_up (ts : List Str) : (tupleText ts).length ≤ 3 + piled ts := by
  unfold tupleText
  rw [strLen_append, strLen_append]
  have e1 : (("(" : String) : Str).length = 1 := rfl
  have e2 : ((if ts.length == 1 then ",)" else ")" : String) : Str).length ≤ 2 := by split <;> decide
  have e3 : (Str.join ", " ts).length ≤ piled ts := by
    by_cases h : ts = []
    · subst h; exact Nat.zero_le _
    · have := join_length_add ts h; omega
  rw [e1]; omega
theorem cps_all {x : Str} (h : x.cps.all (· < 0x110000) = true) : ∀ c ∈ x.cps.toList, c < 16 ^ 8 := fun c hc => by
  have h' := (Array.all_eq_true_iff_forall_mem.mp h) c (by simpa using hc)
  have := of_decide_eq_true h'
  omega
mutual
theorem shown_wt : ∀ d : D, d.fine = true → d.py.shown.length ≤ d.wt
  | .non, _ => by decide
  | .bl b, _ => by cases b <;> decide
  | .int i, _ => by
    show (Str.ofString (toString i)).length ≤ i.natAbs.log2 + 8
    rw [PySem.ofString_length]
    have := int_text_length_le (a := i) (k := i.natAbs.log2 + 1) (Nat.succ_pos _) (Nat.lt_succ_self _)
    omega
  | .str x, h => by
    show (reprText x).length ≤ 10 * x.length + 8
    have := StrLaws.reprText_len x (cps_all h)
    omega
  | .lst xs, h => by
    have := shownAll_wt xs h
    show (listText (PyData.shownAll (D.pyAll xs))).length ≤ 8 + D.wtAll xs
    have := listText_up (PyData.shownAll (D.pyAll xs))
    omega
  | .tup xs, h => by
    have := shownAll_wt xs h
    show (tupleText (PyData.shownAll (D.pyAll xs))).length ≤ 8 + D.wtAll xs
    have := tupleText_up (PyData.shownAll (D.pyAll xs))
    omega
theorem shownAll_wt : ∀ ds : List D, D.fineAll ds = true → piled (PyData.shownAll (D.pyAll ds)) ≤ D.wtAll ds
  | [], _ => Nat.le_refl _
  | d :: ds, h => by
    have h' := Bool.and_eq_true_iff.mp (show (D.fine d && D.fineAll ds) = true from h)
    have h1 := shown_wt d h'.1
    have h2 := shownAll_wt ds h'.2
    show piled (PyData.shown d.py :: PyData.shownAll (D.pyAll ds)) ≤ D.wt d + 2 + D.wtAll ds
    rw [piled_cons]; omega
end
theorem Fit.shaped {n k : Nat} {d : D} (h : Fit n k d) (hk : k ≤ 40) : SeqAt.shaped d.py = true := by
  show (PyData.canLay0 d.py && decide (d.py.depth ≤ 64)) = true
  rw [fine_lay d h.f, Bool.true_and]
  have := py_depth d
  have := h.d
  exact decide_eq_true (by omega)
mutual
theorem eqv_self : ∀ d : D, d.fine = true → PyData.eqv d.py d.py = true
  | .non, _ => rfl
  | .bl b, _ => by show (b == b) = true; simp
  | .int i, _ => by show (i == i) = true; simp
  | .str x, _ => by show (x == x) = true; simp
  | .lst xs, h => eqvAll_self xs h
  | .tup xs, h => eqvAll_self xs h
theorem eqvAll_self : ∀ ds : List D, D.fineAll ds = true → PyData.eqvAll (D.pyAll ds) (D.pyAll ds) = true
  | [], _ => rfl
  | d :: ds, h => by
    have h' := Bool.and_eq_true_iff.mp (show (D.fine d && D.fineAll ds) = true from h)
    show (PyData.eqv d.py d.py && PyData.eqvAll (D.pyAll ds) (D.pyAll ds)) = true
    rw [eqv_self d h'.1, eqvAll_self ds h'.2]; rfl
end
section
variable {K : PySem.W.Frag} {N L M : AP} {H0 H1 H H' : Hp} {σ : L2.St} {es : Env'} {ta tb tc te : TE} {tt tu : TT} {Q : SV → Prop} {t u : TS} {B : DEnds}
theorem rc_repr {s : SV} {x : D} {n k : Nat} (e : s.rd = some x) (h : Fit n k x) (hn : n ≤ 16000000) (hk : k ≤ 40) (q : Q (.d (.str x.shown))) : RC K (rRepr K) [s] Q := fun N M L H0 H vs b kk o R r => by
  obtain ⟨v, rfl, hv⟩ := o.one
  refine ⟨v, x.py, rfl, hv.dp b e (fine_plain x h.f), fine_show x h.f, py_dict x, ?_, ?_, r (.d (.str x.shown)) _ H (Kp.refl (kk.bs b)) (Is.str _) q⟩
  · rw [sizeLine_eq]
    have := shown_wt x h.f
    have := h.w
    omega
  · have := py_depth x
    have := h.d
    omega
/-- == of two that are fit -/
theorem rr_eqF {s1 s2 : SV} {x y : D} {n1 n2 k1 k2 : Nat} (e1 : s1.rd = some x) (e2 : s2.rd = some y) (h1 : Fit n1 k1 x) (h2 : Fit n2 k2 y) (l1 : k1 ≤ 40) (l2 : k2 ≤ 40) (q : Q (.d (.bl (PyData.eqv x.py y.py)))) : RR K (rEqD K) s1 s2 Q :=
  rr_eq e1 e2 (fine_plain x h1.f) (fine_plain y h2.f) (h1.shaped l1) (h2.shaped l2) q
theorem rr_neF {s1 s2 : SV} {x y : D} {n1 n2 k1 k2 : Nat} (e1 : s1.rd = some x) (e2 : s2.rd = some y) (h1 : Fit n1 k1 x) (h2 : Fit n2 k2 y) (l1 : k1 ≤ 40) (l2 : k2 ≤ 40) (q : Q (.d (.bl (!PyData.eqv x.py y.py)))) : RR K (rNeD K) s1 s2 Q :=
  rr_ne e1 e2 (fine_plain x h1.f) (fine_plain y h2.f) (h1.shaped l1) (h2.shaped l2) q

/-! ### isinstance -/
def D.tyN : D → String
  | .non => "NoneType"
  | .bl _ => "bool"
  | .int _ => "int"
  | .str _ => "str"
  | .lst _ => "list"
  | .tup _ => "tuple"
  | .obj _ _ => "object"
theorem Is.ty {v : V} {x : D} (h : Is K M H v x) (p : x.plain = true) : TyX K H v (.type x.tyN) := by
  cases h with
  | non => exact .base .non
  | bl b => exact .base (.bl b)
  | int i => exact .base (.int i)
  | str y => exact .base (.str y)
  | lst h1 h2 h3 => exact .base (.lst h1)
  | tup h1 h3 => exact .base (.tup h1)
  | tupK h1 h3 h4 =>
    obtain ⟨o, its, m, h, hc, _⟩ := h1
    exact .kTuple h hc
  | tup0 h1 =>
    rcases h1 with (h | ⟨o, h⟩) | ⟨o, its, m, h, hc, _⟩
    · exact .base (.tup h)
    · exact .fTuple h
    · exact .kTuple h hc
  | obj h1 h2 h3 => cases p
theorem rc_isi {x : D} {T : String} {b : Bool} (p : x.plain = true) (hk : kitB x.tyN T = some b) (q : Q (.d (.bl b))) : RC K (rIsi K) [.d x, .ty T] Q := fun N M L H0 H vs bb k o R r => by
  obtain ⟨v, w, rfl, hv, hw⟩ := o.two
  have hw' : w = V.ty T := hw
  subst hw'
  exact ⟨v, .ty T, .type x.tyN, .type T, b, rfl, .ty T, Is.ty hv p, kit_ty hk, r (.d (.bl b)) _ H (Kp.refl (k.bs bb)) (Is.bl b) q⟩
theorem de_ty {n : String} (q : Q (.ty n)) : DE K (tC (.ty n)) es Q := fun P N M L σ H S R r => r (.ty n) _ H (Kp.refl S.bs) rfl q
/-! ### range as a value, in -/
theorem rc_rng {i j : Int} (q : Q (.rng i j)) : RC K (fun vs H Q => ∃ i j, vs = [V.int i, V.int j] ∧ ∀ p, H p = none → Q (.ref p) (upd H p (.rng i j))) [.d (.int i), .d (.int j)] Q := fun N M L H0 H vs b k o R r => by
  obtain ⟨v, w, rfl, hv, hw⟩ := o.two
  cases hv
  cases hw
  exact ⟨i, j, rfl, fun p hp => r (.rng i j) _ _ (Kp.new (k.bs b) hp) ⟨p, rfl, upd_same⟩ q⟩
theorem rr_inR {i lo hi : Int} (q : Q (.d (.bl (decide (lo ≤ i ∧ i < hi))))) : RR K (fun x y H Q => ∃ i a lo hi, x = V.int i ∧ y = V.ref a ∧ H a = some (.rng lo hi) ∧ Q (.bl (decide (lo ≤ i ∧ i < hi))) H) (.d (.int i)) (.rng lo hi) Q := fun N M L H0 H v1 v2 b k o1 o2 R r => by
  cases o1
  obtain ⟨a, rfl, h⟩ := o2
  exact ⟨i, a, lo, hi, rfl, rfl, h, r (.d (.bl _)) _ H (Kp.refl (k.bs b)) (Is.bl _) q⟩
/-- not in a range -/
def rNotInR : R2 := fun x y H Q => ∃ i a lo hi, x = V.int i ∧ y = V.ref a ∧ H a = some (.rng lo hi) ∧ Q (.bl (!decide (lo ≤ i ∧ i < hi))) H
theorem op_notInR {X : Cx} : OpR X (compareOp .NotIn) rNotInR := by
  intro pins s σ H x y v u Q I rx ry h
  obtain ⟨i, a, lo, hi, rfl, rfl, ha, q⟩ := h
  obtain ⟨k, rfl⟩ := rx
  cases (show u = Value.ref a from ry)
  obtain ⟨t1, t2, t3, ho⟩ := I.hok a _ ha
  show wpAny _ _ (do return Value.bool (!(← contains (Value.ref a) (Value.int i k)))) _ _ s
  refine wpAny_bind (wpAny_contains_slot (T := "range") ⟨_, ho, rfl⟩ F.slot_range_contains ?_)
  refine call_meets F.slot_range_contains ⟨_, ho, rfl⟩ F.entry_range_contains (F.args_range_contains_2 _ _) (q_contains a lo hi i t1 t2 t3 k) ⟨ho, ?_⟩
  refine wpAny_truthy_bool (wpAny_pure ⟨.bl _, H, I, rfl, ?_⟩)
  rw [place1]
  exact q
theorem rr_notInR {i lo hi : Int} (q : Q (.d (.bl (!decide (lo ≤ i ∧ i < hi))))) : RR K rNotInR (.d (.int i)) (.rng lo hi) Q := fun N M L H0 H v1 v2 b k o1 o2 R r => by
  cases o1
  obtain ⟨a, rfl, h⟩ := o2
  exact ⟨i, a, lo, hi, rfl, rfl, h, r (.d (.bl _)) _ H (Kp.refl (k.bs b)) (Is.bl _) q⟩
end
end DL

namespace DL
open PySem PySem.Spec PyProof.Rows L2
/-! ### defs -/
def nownAll : List SV → Prop
  | [] => True
  | s :: ss => s.nown ∧ nownAll ss
def SV.arg : SV → SV
  | .new xs => .d (.lst xs)
  | s => s
def spD (K : PySem.W.Frag) (n : Nat) (pre : List SV → Prop) (post : List SV → SV → Prop) : Sp := fun vs H Q _ => ∃ M L ss, Bs L M H ∧ SvAll K NO M L H H vs ss ∧ ss.length = n ∧ pre ss ∧ ∀ r v H', Kp L H H' → SvOk K NO M L H H' v r → post ss r → Q v H'
section
variable {K : PySem.W.Frag} {N L M : AP} {H0 H1 H H' : Hp} {σ : L2.St} {es : Env'} {ta tb tc te : TE} {tt tu : TT} {Q : SV → Prop} {t u : TS} {B : DEnds} {pre : List SV → Prop} {post : List SV → SV → Prop}
theorem spD.len {n : Nat} {vs : List V} {Q : VK} {E : XK} (h : spD K n pre post vs H Q E) : vs.length = n := by
  obtain ⟨M, L, ss, _, h2, h3, _⟩ := h
  rw [h2.len, h3]
theorem SvAll.get : ∀ {ss : List SV} {vs : List V} {i : Nat} {s : SV}, SvAll K N M L H0 H vs ss → ss[i]? = some s → ∃ v, vs[i]? = some v ∧ SvOk K N M L H0 H v s
  | _, _, _, _, .nil, e => by simp at e
  | _, _, 0, _, .cons h _, e => by simp at e; subst e; exact ⟨_, rfl, h⟩
  | _, _, i + 1, _, .cons _ h, e => by
    obtain ⟨v, h1, h2⟩ := SvAll.get (i := i) h (by simpa using e)
    exact ⟨v, by simpa using h1, h2⟩
theorem SvOk.noN {v : V} {s : SV} (h : SvOk K NO M L H0 H v s) : SvOk K N M L H0 H v s := by
  cases s with
  | own xs =>
    obtain ⟨_, _, _, _, n, _⟩ := h
    exact n.elim
  | _ => exact h
/-- the slots at a def's entry -/
def startE (n : Nat) (ss : List SV) : Env' := ss.map some ++ List.replicate (n - ss.length) none
theorem body_of {n : Nat} {names : List Str} {vs : List V} {R : VK} {E : XK} (h : spD K n pre post vs H R E) (hb : ∀ ss, ss.length = n → pre ss → DS K t (startE names.length ss) { nx := fun _ => post ss (.d .non), rt := post ss }) :
    t { nx := fun _ H' => R .non H', rt := R } (L2.start names vs) H := by
  obtain ⟨M, L, ss, bs, hv, hl, hp, q⟩ := h
  have no_ : ∀ (i : Nat) (s : SV), (startE names.length ss)[i]? = some (some s) → ss[i]? = some s := fun i s e => by
    unfold startE at e
    by_cases hi : i < ss.length
    · rw [List.getElem?_append_left (by simpa using hi), List.getElem?_map] at e
      cases z : ss[i]? with
      | none => rw [z] at e; cases e
      | some y => rw [z] at e; cases e; rfl
    · rw [List.getElem?_append_right (by simpa using hi), List.getElem?_replicate] at e
      split at e <;> cases e
  have nown : ∀ (i : Nat) (xs : List D), ss[i]? ≠ some (.own xs) := fun i xs e => by
    obtain ⟨v, _, _, _, _, _, n, _⟩ := hv.get e
    exact n
  have sl : ∀ (i : Nat) (v : V), vs[i]? = some v → (L2.start names vs)[i]? = some (some v) := fun i v e => by
    have hi := (List.getElem?_eq_some_iff.mp e).1
    unfold L2.start
    rw [List.getElem?_append_left (by simpa using hi), List.getElem?_map, e]
    rfl
  have S : Stf K ⟨M, L, H⟩ [] M L (L2.start names vs) H (startE names.length ss) := by
    refine ⟨⟨bs, ?_, fun i s e => ?_, fun p hp => absurd hp (by simp), fun i j a xs ys _ e _ _ => absurd (no_ i _ e) (nown i xs)⟩, bs, Kp.refl bs, fun _ h => h, fun _ h => h, fun _ h => .inl h⟩
    · unfold L2.start startE
      rw [List.length_append, List.length_append, List.length_map, List.length_map, List.length_replicate, List.length_replicate, hv.len]
    · obtain ⟨v, h1, h2⟩ := hv.get (no_ i s e)
      exact ⟨v, sl i v h1, h2.noN⟩
  refine hb ss hl hp ⟨M, L, H⟩ [] M L _ H S _ ⟨fun e M' L' σ' H' S' z => ?_, fun s v H' k ok z => q s v H' k ok z, fun _ _ _ _ _ _ z => z, fun _ _ _ _ _ _ z => z, trivial⟩
  exact q (.d .non) .non H' S'.kp Is.non z
theorem SvAll.args (bs0 : Bs L M H0) (k : Kp L H0 H) : ∀ {vs : List V} {ss : List SV}, SvAll K N M L H0 H vs ss → nownAll ss → SvAll K NO M L H H vs (ss.map SV.arg)
  | _, _, .nil, _ => .nil
  | _, _, .cons (s := s) h t, ⟨n1, n2⟩ => by
    refine .cons ?_ (SvAll.args bs0 k t n2)
    cases s with
    | new xs =>
      obtain ⟨a, vs, rfl, n, h1, h2⟩ := h
      exact Is.lst h1 (fresh_nm bs0 n) (h2.sub AP.sub_add)
    | own xs => exact n1.elim
    | d x => exact h
    | bag => exact h
    | scr ns => exact h
    | rng lo hi => exact h
    | ty n => exact h
    | cls C => exact h
theorem de_call {n : Nat} {tr : TA} {E : XK} (h : DA K tr es fun ss => nownAll ss ∧ ss.length = n ∧ pre (ss.map SV.arg) ∧ ∀ r, post (ss.map SV.arg) r → Q r) : DE K (tCall (spD K n pre post) [] E tr) es Q := fun P N M L σ H S R k => by
  refine h P N M L σ H S _ fun ss vs H1 k1 o1 q1 => ?_
  obtain ⟨hn, hl, hp, q⟩ := q1
  rw [List.append_nil]
  refine ⟨M, L, ss.map SV.arg, k1.bs S.bs, o1.args S.bs k1 hn, by rw [List.length_map]; exact hl, hp, fun r v H' k2 o2 q2 => ?_⟩
  exact k r v H' (k1.trans k2) ((SvOk.noN o2).back k1) (q r q2)
theorem de_callKw {n m : Nat} {tr : TA} {g : {α : Type} → List α → List α} (hg : ∀ {vs : List V} {ss : List SV} {N M L : AP} {H0 H : Hp}, SvAll K N M L H0 H vs ss → SvAll K N M L H0 H (g vs) (g ss))
    (h : DA K tr es fun ss => nownAll ss ∧ ss.length = m ∧ (g (ss.map SV.arg)).length = n ∧ pre (g (ss.map SV.arg)) ∧ ∀ r, post (g (ss.map SV.arg)) r → Q r) : DE K (tCallKw m (spD K n pre post) g tr) es Q := fun P N M L σ H S R k => by
  refine h P N M L σ H S _ fun ss vs H1 k1 o1 q1 => ?_
  obtain ⟨hn, hl, hl2, hp, q⟩ := q1
  refine ⟨by rw [o1.len]; exact hl, M, L, g (ss.map SV.arg), k1.bs S.bs, hg (o1.args S.bs k1 hn), hl2, hp, fun r v H' k2 o2 q2 => ?_⟩
  exact k r v H' (k1.trans k2) ((SvOk.noN o2).back k1) (q r q2)

/-! ### targets; js: the slots that are set -/
def Same' (js : List Nat) (σ σ' : L2.St) : Prop := σ'.length = σ.length ∧ ∀ k : Nat, k ∉ js → σ'[k]? = σ[k]?
def DG (K : PySem.W.Frag) (g : TG) (x : D) (js : List Nat) (es : Env') (Q : Env' → Prop) : Prop :=
  ∀ P N M L σ H v, Sts K P N M L σ H es → Is K M H v x → ∀ R : L2.St → Hp → Prop, (∀ es' σ', Sts K P N M L σ' H es' → Same' js σ σ' → Q es' → R σ' H) → g v σ H R
theorem Same'.set (σ : L2.St) (i : Nat) (v : Option V) : Same' [i] σ (σ.set i v) := ⟨List.length_set, fun k hk => List.getElem?_set_ne (fun e => hk (by rw [e]; simp))⟩
theorem Same'.trans {js ks : List Nat} {σ σ1 σ2 : L2.St} (a : Same' js σ σ1) (b : Same' ks σ1 σ2) : Same' (js ++ ks) σ σ2 := ⟨b.1.trans a.1, fun k hk => by
  rw [List.mem_append, not_or] at hk
  rw [b.2 k hk.2, a.2 k hk.1]⟩
theorem dg_name {i : Nat} {x : D} {Q : Env' → Prop} (q : Q (es.set i (some (.d x)))) : DG K (gName i) x [i] es Q := fun P N M L σ H v S o R k => k _ _ (S.setp (s := .d x) o trivial) (Same'.set σ i _) q
def DGs (K : PySem.W.Frag) (g : TGs) (xs : List D) (js : List Nat) (es : Env') (Q : Env' → Prop) : Prop :=
  ∀ P N M L σ H vs, Sts K P N M L σ H es → IsAll K M H vs xs → ∀ R : L2.St → Hp → Prop, (∀ es' σ', Sts K P N M L σ' H es' → Same' js σ σ' → Q es' → R σ' H) → g vs σ H R
theorem dgs_nil {Q : Env' → Prop} (q : Q es) : DGs K gNil [] [] es Q := fun P N M L σ H vs S o R k => by
  cases o
  exact ⟨rfl, k _ _ S ⟨rfl, fun _ _ => rfl⟩ q⟩
theorem dgs_cons {g : TG} {gs : TGs} {x : D} {xs : List D} {js ks : List Nat} {Q : Env' → Prop} (h : DG K g x js es fun es' => DGs K gs xs ks es' Q) : DGs K (gCons g gs) (x :: xs) (js ++ ks) es Q := fun P N M L σ H vs S o R k => by
  cases o with
  | @cons v vs _ _ h1 h2 =>
    exact ⟨v, vs, rfl, h P N M L σ H v S h1 _ fun es' σ' S' w q => q P N M L σ' H vs S' h2 R fun e2 σ2 S2 w2 => k e2 σ2 S2 (w.trans w2)⟩
theorem dg_tup {n : Nat} {gs : TGs} {xs : List D} {js : List Nat} {Q : Env' → Prop} (l : xs.length = n) (h : DGs K gs xs js es Q) : DG K (gTup K n gs) (.tup xs) js es Q := fun P N M L σ H v S o R k => by
  obtain ⟨a, vs, rfl, h1, h2⟩ := Is.tupS o
  exact ⟨a, vs, rfl, h1, h2.len.trans l, h P N M L σ H vs S h2 R k⟩
theorem DG.stf {F : Fr} {P : List Pin} {g : TG} {x : D} {js : List Nat} {Q : Env' → Prop} (h : DG K g x js es Q) {v : V} (S : Stf K F P M L σ H es) (o : Is K M H v x) (R : L2.St → Hp → Prop) (k : ∀ es' σ', Stf K F P M L σ' H es' → Q es' → R σ' H) : g v σ H R :=
  h P _ M L σ H v S.st o R fun es' σ' S' _ q => k es' σ' ⟨S', S.bs0, S.kp, S.m0, S.lo, S.ln⟩ q
/-- a, b = e, e a tuple -/
theorem ds_unp {g : TG} (h : DE K te es fun s => ∃ x js, s = .d x ∧ DG K g x js es B.nx) : DS K (tAsg te g) es B := fun F P M L σ H S E o =>
  h P _ M L σ H S.st _ fun s v H' k ok q => by
    obtain ⟨x, js, rfl, q⟩ := q
    exact q.stf (S.kp' k) ok E.nx fun es' σ' S' z => o.nx _ _ _ _ _ S' z

/-! ### loops: I i es ahead of turn i -/
theorem EOk.turn {F : Fr} {P : List Pin} {E : Ends} {I : Env' → Prop} (o : EOk K F P B E) (Nx : L2.St → Hp → Prop) (hN : ∀ es M L σ H, Stf K F P M L σ H es → I es → Nx σ H) : EOk K F P ⟨I, B.rt, B.nx, I, B.xo⟩ { E with nx := Nx, ct := Nx, bk := E.nx } :=
  ⟨hN, o.rt, o.nx, hN, o.xo⟩
theorem ds_for1 {j : Nat} {tr : TA} (h : DA K tr es fun ss => ∃ n : Int, ss = [.d (.int n)] ∧ -(2 ^ 62) ≤ n ∧ n < 2 ^ 62 ∧ ∃ I : Nat → Env' → Prop, I 0 es ∧
    (∀ (i : Nat) es', (i : Int) < n → I i es' → DS K t (es'.set j (some (.d (.int i)))) ⟨I (i + 1), B.rt, B.nx, I (i + 1), B.xo⟩) ∧ ∀ es', I n.toNat es' → B.nx es') : DS K (tFor (iRng1 tr) (gName j) t) es B := fun F P M L σ H S E o => by
  refine h P _ M L σ H S.st _ fun ss vs H1 k1 o1 q1 => ?_
  obtain ⟨n, rfl, b1, b2, I, h0, hs, hd⟩ := q1
  obtain ⟨v, rfl, hv⟩ := o1.one
  cases hv
  refine ⟨n, rfl, b1, b2, for_range (lo := 0) (n := n.toNat) (fun i σ H => ∃ es' M' L', Stf K F P M' L' σ H es' ∧ I i es') ⟨es, M, L, S.kp' k1, h0⟩ ?_ ?_⟩
  · rintro i σ' H' hi ⟨es', M', L', S', hI⟩
    have e0 : (0 : Int) + (i : Int) = (i : Int) := Int.zero_add _
    show t _ (σ'.set j (some (.int ((0 : Int) + (i : Int))))) H'
    rw [e0]
    exact hs i es' (by omega) hI F P M' L' _ H' (S'.setp (s := .d (.int i)) (Is.int _) trivial) _ (o.turn (fun σ H => ∃ es' M' L', Stf K F P M' L' σ H es' ∧ I (i + 1) es') fun e M'' L'' σ'' H'' S'' z => ⟨e, M'', L'', S'', z⟩)
  · rintro σ' H' ⟨es', M', L', S', hI⟩
    exact o.nx _ _ _ _ _ S' (hd es' hI)
theorem ds_for2 {j : Nat} {tr : TA} (h : DA K tr es fun ss => ∃ lo n : Int, ss = [.d (.int lo), .d (.int n)] ∧ (-(2 ^ 62) ≤ lo ∧ lo < 2 ^ 62 ∧ -(2 ^ 62) ≤ n ∧ n < 2 ^ 62) ∧ ∃ I : Nat → Env' → Prop, I 0 es ∧
    (∀ (i : Nat) es', lo + (i : Int) < n → I i es' → DS K t (es'.set j (some (.d (.int (lo + i))))) ⟨I (i + 1), B.rt, B.nx, I (i + 1), B.xo⟩) ∧ ∀ es', I (n - lo).toNat es' → B.nx es') : DS K (tFor (iRng2 tr) (gName j) t) es B := fun F P M L σ H S E o => by
  refine h P _ M L σ H S.st _ fun ss vs H1 k1 o1 q1 => ?_
  obtain ⟨lo, n, rfl, b1, I, h0, hs, hd⟩ := q1
  obtain ⟨v, w, rfl, hv, hw⟩ := o1.two
  cases hv
  cases hw
  refine ⟨lo, n, rfl, b1, for_range (lo := lo) (n := (n - lo).toNat) (fun i σ H => ∃ es' M' L', Stf K F P M' L' σ H es' ∧ I i es') ⟨es, M, L, S.kp' k1, h0⟩ ?_ ?_⟩
  · rintro i σ' H' hi ⟨es', M', L', S', hI⟩
    exact hs i es' (by omega) hI F P M' L' _ H' (S'.setp (s := .d (.int (lo + i))) (Is.int _) trivial) _ (o.turn (fun σ H => ∃ es' M' L', Stf K F P M' L' σ H es' ∧ I (i + 1) es') fun e M'' L'' σ'' H'' S'' z => ⟨e, M'', L'', S'', z⟩)
  · rintro σ' H' ⟨es', M', L', S', hI⟩
    exact o.nx _ _ _ _ _ S' (hd es' hI)
/-- a thing pinned through a loop -/
theorem Stf.pin {F : Fr} {P : List Pin} {p : Pin} (S : Stf K F P M L σ H es) (h : PinOk K M H p) : Stf K F (p :: P) M L σ H es :=
  ⟨⟨S.st.bs, S.st.len, S.st.ok, fun q hp => by
    rcases List.mem_cons.mp hp with rfl | hp
    · exact h
    · exact S.st.pin q hp, S.st.sep⟩, S.bs0, S.kp, S.m0, S.lo, S.ln⟩
theorem Stf.unpin {F : Fr} {P : List Pin} {p : Pin} (S : Stf K F (p :: P) M L σ H es) : Stf K F P M L σ H es :=
  ⟨⟨S.st.bs, S.st.len, S.st.ok, fun q hq => S.st.pin q (List.mem_cons_of_mem _ hq), S.st.sep⟩, S.bs0, S.kp, S.m0, S.lo, S.ln⟩
theorem EOk.pinned {F : Fr} {P : List Pin} {p : Pin} {E : Ends} (o : EOk K F P B E) : EOk K F (p :: P) B E :=
  ⟨fun e M L σ H S => o.nx e M L σ H S.unpin, o.rt, fun e M L σ H S => o.bk e M L σ H S.unpin, fun e M L σ H S => o.ct e M L σ H S.unpin, o.xo⟩
/-- over a list (a name's that is no own one, or a new one) -/
theorem ds_forL {g : TG} {tl : TE} (h : DE K tl es fun s => ∃ xs, s.dat = some (.lst xs) ∧ ∃ I : Nat → Env' → Prop, I 0 es ∧
    (∀ (i : Nat) x es', xs[i]? = some x → I i es' → ∃ js, DG K g x js es' fun e2 => DS K t e2 ⟨I (i + 1), B.rt, B.nx, I (i + 1), B.xo⟩) ∧ ∀ es', I xs.length es' → B.nx es') : DS K (tFor (iList K tl) g t) es B := fun F P M L σ H S E o => by
  refine h P _ M L σ H S.st _ fun s v H1 k1 o1 q1 => ?_
  obtain ⟨xs, e, I, h0, hs, hd⟩ := q1
  have hx : Is K M H1 v (.lst xs) := o1.data S.st.bs e
  cases hx with
  | @lst a vs _ g1 g2 g3 =>
    refine ⟨a, rfl, ⟨vs, .inl (.inl g1)⟩, for_list (K := K) (a := a) (xs := vs) (fun i σ H => ∃ es' M' L', Stf K F (⟨a, vs, xs, false⟩ :: P) M' L' σ H es' ∧ I i es') ⟨es, M, L, (S.kp' k1).pin ⟨⟨g1, g2⟩, g3⟩, h0⟩ ?_ ?_ ?_⟩
    · rintro i σ' H' hi ⟨es', M', L', S', hI⟩
      exact .inl (.inl (S'.st.pin _ List.mem_cons_self).1.1)
    · rintro i w σ' H' hw ⟨es', M', L', S', hI⟩
      obtain ⟨x, hx, ix⟩ := (S'.st.pin _ List.mem_cons_self).2.getV hw
      obtain ⟨js, dg⟩ := hs i x es' hx hI
      refine dg.stf S' ix _ fun e2 σ2 S2 q => ?_
      refine q F _ M' L' σ2 H' S2 _ ?_
      exact o.pinned.turn (fun σ H => ∃ es' M' L', Stf K F (⟨a, vs, xs, false⟩ :: P) M' L' σ H es' ∧ I (i + 1) es') fun e3 M3 L3 σ3 H3 S3 z => ⟨e3, M3, L3, S3, z⟩
    · rintro σ' H' ⟨es', M', L', S', hI⟩
      rw [g3.len] at hI
      exact o.nx _ _ _ _ _ S'.unpin (hd es' hI)
/-- over a tuple -/
theorem ds_forT {g : TG} {tl : TE} (h : DE K tl es fun s => ∃ xs, s = .d (.tup xs) ∧ ∃ I : Nat → Env' → Prop, I 0 es ∧
    (∀ (i : Nat) x es', xs[i]? = some x → I i es' → ∃ js, DG K g x js es' fun e2 => DS K t e2 ⟨I (i + 1), B.rt, B.nx, I (i + 1), B.xo⟩) ∧ ∀ es', I xs.length es' → B.nx es') : DS K (tFor (iTup K tl) g t) es B := fun F P M L σ H S E o => by
  refine h P _ M L σ H S.st _ fun s v H1 k1 o1 q1 => ?_
  obtain ⟨xs, rfl, I, h0, hs, hd⟩ := q1
  have hx : Is K M H1 v (.tup xs) := o1
  obtain ⟨a, vs, rfl, g1, g3⟩ := Is.tupS hx
  · refine ⟨a, rfl, ⟨vs, g1⟩, for_tup (K := K) (a := a) (xs := vs) (fun i σ H => ∃ es' M' L', Stf K F (⟨a, vs, xs, true⟩ :: P) M' L' σ H es' ∧ I i es') ⟨es, M, L, (S.kp' k1).pin ⟨g1, g3⟩, h0⟩ ?_ ?_ ?_⟩
    · rintro i σ' H' hi ⟨es', M', L', S', hI⟩
      exact (S'.st.pin _ List.mem_cons_self).1
    · rintro i w σ' H' hw ⟨es', M', L', S', hI⟩
      obtain ⟨x, hx, ix⟩ := (S'.st.pin _ List.mem_cons_self).2.getV hw
      obtain ⟨js, dg⟩ := hs i x es' hx hI
      refine dg.stf S' ix _ fun e2 σ2 S2 q => ?_
      refine q F _ M' L' σ2 H' S2 _ ?_
      exact o.pinned.turn (fun σ H => ∃ es' M' L', Stf K F (⟨a, vs, xs, true⟩ :: P) M' L' σ H es' ∧ I (i + 1) es') fun e3 M3 L3 σ3 H3 S3 z => ⟨e3, M3, L3, S3, z⟩
    · rintro σ' H' ⟨es', M', L', S', hI⟩
      rw [g3.len] at hI
      exact o.nx _ _ _ _ _ S'.unpin (hd es' hI)
end
end DL

namespace DL
open PySem PySem.Spec PyProof.Rows L2
/-! ### list comprehensions -/
theorem wipe_get : ∀ (vs : List Nat) (σ : L2.St) (k : Nat), (wipe σ vs)[k]? = if k ∈ vs ∧ k < σ.length then some none else σ[k]?
  | [], σ, k => by simp [wipe]
  | v :: vs, σ, k => by
    unfold wipe
    have ih := wipe_get vs σ k
    by_cases hk : v = k
    · subst hk
      by_cases hl : v < σ.length
      · rw [List.getElem?_set_self (by rw [wipe_length]; exact hl), if_pos ⟨by simp, hl⟩]
      · rw [List.getElem?_eq_none (by rw [List.length_set, wipe_length]; omega), if_neg (fun h => hl h.2), List.getElem?_eq_none (by omega)]
    · rw [List.getElem?_set_ne hk, ih]
      simp [Ne.symm hk]
theorem wipe_same {vs : List Nat} {σ σ' : L2.St} (h : Same' vs (wipe σ vs) σ') : wipe σ' vs = wipe σ vs := by
  apply List.ext_getElem?
  intro k
  rw [wipe_get, wipe_get]
  have hl : σ'.length = σ.length := by rw [h.1, wipe_length]
  rw [hl]
  by_cases hk : k ∈ vs
  · by_cases hl : k < σ.length
    · rw [if_pos ⟨hk, hl⟩, if_pos ⟨hk, hl⟩]
    · rw [if_neg (fun z => hl z.2), if_neg (fun z => hl z.2), List.getElem?_eq_none (by omega), List.getElem?_eq_none (by omega)]
  · rw [if_neg (fun z => hk z.1), if_neg (fun z => hk z.1), h.2 k hk, wipe_get, if_neg (fun z => hk z.1)]
def wipeE (es : Env') : List Nat → Env'
  | [] => es
  | v :: vs => (wipeE es vs).set v none
section
variable {K : PySem.W.Frag} {P : List Pin} {N L M : AP} {H0 H1 H H' : Hp} {σ : L2.St} {es : Env'} {ta tb tc te : TE} {tt tu : TT} {Q : SV → Prop} {t u : TS} {B : DEnds}
theorem Sts.wipes (S : Sts K P N M L σ H es) : ∀ vs : List Nat, Sts K P N M L (wipe σ vs) H (wipeE es vs)
  | [] => S
  | v :: vs => (S.wipes vs).wipe1 v
/-- what holds ahead of turn i: the new list stands at D -/
structure LcP (K : PySem.W.Frag) (P : List Pin) (N M L : AP) (σ : L2.St) (es : Env') (H1 : Hp) (D0 : Addr) (J : Nat → List D → Prop) (i : Nat) (H : Hp) : Prop where
  st : Sts K P N (M.add D0) L σ H es
  kp : Kp L H1 H
  acc : ∃ vs ds, H D0 = some (.lst vs) ∧ IsAll K (M.add D0) H vs ds ∧ J i ds ∧ ds.length ≤ i
/-- one turn, in data -/
def LcT (K : PySem.W.Frag) (g : TG) (tt : TT) (te : TE) (vs : List Nat) (es : Env') (J : Nat → List D → Prop) (i : Nat) (x : D) : Prop :=
  ∀ ds, J i ds → ds.length ≤ i → DG K g x vs (wipeE es vs) fun e2 => DT K tt e2 fun b => if b = true then DE K te e2 fun s => ∃ y, s.dat = some y ∧ J (i + 1) (ds ++ [y]) else J (i + 1) ds
theorem lc_turn {g : TG} {vs : List Nat} {D0 : Addr} {J : Nat → List D → Prop} {i : Nat} {v : V} {x : D} (old : ∀ (j : Nat) (zs : List D), es[j]? = some (some (.own zs)) → σ[j]? ≠ some (some (.ref D0))) (nl : ¬ L D0) (hD : H1 D0 = none) (hi : i < 100000)
    (h : LcP K P N M L σ es H1 D0 J i H) (ix : Is K (M.add D0) H v x) (body : LcT K g tt te vs es J i x) :
    g v (wipe σ vs) H fun σ2 H2 => wipe σ2 vs = wipe σ vs ∧ tt σ2 H2 fun b H3 => if b = true then te σ2 H3 fun y H4 => ∃ acc, H4 D0 = some (.lst acc) ∧ acc.length < sizeLine ∧ LcP K P N M L σ es H1 D0 J (i + 1) (upd H4 D0 (.lst (acc ++ [y]))) else LcP K P N M L σ es H1 D0 J (i + 1) H3 := by
  obtain ⟨ws, ds, hw, iw, hj, hl⟩ := h.acc
  refine body ds hj hl P N _ L _ H v (h.st.wipes vs) ix _ fun e2 σ2 S2 sm q => ⟨wipe_same sm, ?_⟩
  refine q P N _ L σ2 H S2 _ fun b H3 k3 q3 => ?_
  have S3 := h.st.kp k3
  cases b with
  | false =>
    rw [if_neg Bool.false_ne_true] at q3 ⊢
    exact ⟨S3, h.kp.trans k3, ws, ds, k3.k _ _ nl hw, IsAll.kp k3 h.st.bs iw, q3, Nat.le_succ_of_le hl⟩
  | true =>
    rw [if_pos rfl] at q3 ⊢
    refine q3 P N _ L σ2 H3 (S2.kp k3) _ fun s y H4 k4 o4 q4 => ?_
    obtain ⟨z, ez, hz⟩ := q4
    have k34 := k3.trans k4
    have hw4 := k34.k _ _ nl hw
    have iw4 := IsAll.kp k34 h.st.bs iw
    have iz : Is K (M.add D0) H4 y z := o4.data (k3.bs h.st.bs) ez
    refine ⟨ws, hw4, by rw [iw4.len]; exact Nat.lt_of_le_of_lt hl (Nat.lt_of_lt_of_le hi (by decide)), ?_⟩
    obtain ⟨S5, up⟩ := (h.st.kp k34).updD (ws := ws ++ [y]) (.inr rfl) nl hw4 old
    refine ⟨S5, ⟨fun a o l e => ?_, S5.bs.bag⟩, ws ++ [y], ds ++ [z], upd_same, up (iw4.append (.cons iz .nil)), hz, by rw [List.length_append, List.length_singleton]; omega⟩
    rw [upd_ne (fun e' => by rw [e', hD] at e; cases e)]
    exact (h.kp.trans k34).k a o l e
theorem lc_start {D0 : Addr} {J : Nat → List D → Prop} (S : Sts K P N M L σ H1 es) (hD : H1 D0 = none) (h0 : J 0 []) :
    LcP K P N M L σ es H1 D0 J 0 (upd H1 D0 (.lst [])) ∧ (∀ (j : Nat) (zs : List D), es[j]? = some (some (.own zs)) → σ[j]? ≠ some (some (.ref D0))) ∧ ¬ L D0 := by
  have kn := Kp.new (o := .lst []) S.bs hD
  obtain ⟨S1, old⟩ := S.claim kn hD upd_same
  exact ⟨⟨S1, kn, [], [], upd_same, .nil, h0, Nat.le_refl _⟩, old, fun l => fresh_nm S.bs hD (S.bs.lm _ l)⟩
theorem lc_end {D0 : Addr} {J : Nat → List D → Prop} {i : Nat} (k1 : Kp L H0 H1) (hD : H1 D0 = none) (h : LcP K P N M L σ es H1 D0 J i H) (hd : ∀ ds, J i ds → ds.length ≤ i → Q (.new ds)) : Kp L H0 H ∧ ∃ ds, SvOk K N M L H0 H (.ref D0) (.new ds) ∧ Q (.new ds) := by
  obtain ⟨ws, ds, hw, iw, hj, hl⟩ := h.acc
  exact ⟨k1.trans h.kp, ds, ⟨D0, ws, rfl, k1.was hD, hw, iw⟩, hd ds hj hl⟩
/-- [e for x in range(n) if t] -/
theorem de_lc1 {g : TG} {vs : List Nat} {tr : TA} (h : DA K tr es fun ss => ∃ n : Int, ss = [.d (.int n)] ∧ -(2 ^ 62) ≤ n ∧ n ≤ 100000 ∧ ∃ J : Nat → List D → Prop, J 0 [] ∧
    (∀ i : Nat, (i : Int) < n → LcT K g tt te vs es J i (.int i)) ∧ ∀ ds, J n.toNat ds → ds.length ≤ n.toNat → Q (.new ds)) : DE K (tLc (iRng1 tr) g tt te vs) es Q := fun P N M L σ H S R k => by
  refine h P N M L σ H S _ fun ss us H1 k1 o1 q1 => ?_
  obtain ⟨n, rfl, b1, b2, J, h0, hs, hd⟩ := q1
  obtain ⟨v, rfl, hv⟩ := o1.one
  cases hv
  refine ⟨n, rfl, b1, by omega, fun D0 hD => ?_⟩
  obtain ⟨p0, old, nl⟩ := lc_start (S.kp k1) hD h0
  refine lc_range (lo := 0) (n := n.toNat) (LcP K P N M L σ es H1 D0 J) p0 (fun i H hi p => ?_) fun H p => ?_
  · have e0 : (0 : Int) + (i : Int) = (i : Int) := Int.zero_add _
    rw [e0]
    exact lc_turn old nl hD (by omega) p (Is.int _) (hs i (by omega))
  · obtain ⟨kk, ds, ok, q⟩ := lc_end k1 hD p hd
    exact k _ _ _ kk ok q
/-- [e for x in xs if t], xs a list -/
theorem de_lcL {g : TG} {vs : List Nat} {tl : TE} (h : DE K tl es fun s => ∃ xs, s.rd = some (.lst xs) ∧ (∀ n, s ≠ .scr n) ∧ xs.length ≤ 100000 ∧ ∃ J : Nat → List D → Prop, J 0 [] ∧
    (∀ (i : Nat) x, xs[i]? = some x → LcT K g tt te vs es J i x) ∧ ∀ ds, J xs.length ds → ds.length ≤ xs.length → Q (.new ds)) : DE K (tLc (iList K tl) g tt te vs) es Q := fun P N M L σ H S R k => by
  refine h P N M L σ H S _ fun s v H1 k1 o1 q1 => ?_
  obtain ⟨xs, e, ns, b, J, h0, hs, hd⟩ := q1
  obtain ⟨a, ws, rfl, g1, g3⟩ := o1.lst S.bs e ns
  -- the list stays: a thing of the heap ahead that is no bag
  have na : ¬ L a := by
    cases s with
    | d y =>
      cases e
      cases o1 with
      | lst h1 h2 h3 => exact fun l => h2 (S.bs.lm _ l)
    | own ys =>
      obtain ⟨a', _, e', _, _, l, _⟩ := o1
      cases e'
      exact l
    | new ys =>
      obtain ⟨a', _, e', n, _⟩ := o1
      cases e'
      exact fun l => fresh_nm S.bs n (S.bs.lm _ l)
    | scr n => exact absurd rfl (ns n)
    | bag => cases e
    | rng lo hi => cases e
    | ty n => cases e
    | cls C => cases e
  refine ⟨a, rfl, ⟨ws, .inl (.inl g1)⟩, fun D0 hD => ?_⟩
  obtain ⟨p0, old, nl⟩ := lc_start (S.kp k1) hD h0
  have bs1 := (S.kp k1).bs
  have stay : ∀ {i : Nat} {H : Hp}, LcP K P N M L σ es H1 D0 J i H → H a = some (.lst ws) := fun {i H} p => p.kp.k a _ na g1
  refine lc_list (K := K) (a := a) (xs := ws) (LcP K P N M L σ es H1 D0 J) p0 (fun i H hi p => .inl (.inl (stay p))) (fun i x H hx p => ?_) fun H p => ?_
  · obtain ⟨d, hd', ix⟩ := g3.getV hx
    have ia : Is K (M.add D0) H x d := by
      refine Is.chg (fun b o e m => ⟨p.kp.k b o (fun l => m (.inl (bs1.lm b l))) e, m⟩) (sqt_keep (M := M) (fun b o m e => p.kp.k b o (fun l => m (bs1.lm b l)) e) bs1.tr) _ _ (ix.add hD)
    have hi : i < 100000 := by
      have := (List.getElem?_eq_some_iff.mp hd').1
      omega
    exact lc_turn old nl hD hi p ia (hs i d hd')
  · rw [g3.len] at p
    obtain ⟨kk, ds, ok, q⟩ := lc_end k1 hD p hd
    exact k _ _ _ kk ok q
/-- over a text's signs -/
theorem lc_str {x : Str} {g : TG} {vs : List Nat} {σ : L2.St} {H1 : Hp} {D0 : Addr} {Qd : Hp → Prop} (Pv : Nat → Hp → Prop) (h0 : Pv 0 (upd H1 D0 (.lst [])))
    (hs : ∀ (i : Nat) (c : Nat) (H : Hp), x.cps[i]? = some c → Pv i H → g (.str ⟨#[c]⟩) (wipe σ vs) H fun σ2 H2 => wipe σ2 vs = wipe σ vs ∧ tt σ2 H2 fun b H3 =>
      if b = true then te σ2 H3 fun y H4 => ∃ acc, H4 D0 = some (.lst acc) ∧ acc.length < sizeLine ∧ Pv (i + 1) (upd H4 D0 (.lst (acc ++ [y]))) else Pv (i + 1) H3) (hd : ∀ H, Pv x.cps.size H → Qd H) :
    ∃ W : Nat → Nat → Hp → Prop, (∃ m, W 0 m (upd H1 D0 (.lst []))) ∧ ∀ i m H, W i m H →
      ((Its x).stop i H ∧ Qd H) ∨ ((Its x).go i H ∧ ∃ Nx : Hp → Prop, (∀ H', Nx H' → ∃ m', m' < m ∧ W (i + 1) m' H') ∧ ∀ v H', (Its x).yld i H v H' → g v (wipe σ vs) H' fun σ2 H2 => wipe σ2 vs = wipe σ vs ∧ tt σ2 H2 fun b H3 =>
        if b = true then te σ2 H3 fun y H4 => ∃ acc, H4 D0 = some (.lst acc) ∧ acc.length < sizeLine ∧ Nx (upd H4 D0 (.lst (acc ++ [y]))) else Nx H3) := by
  refine ⟨fun i m H => m = x.cps.size - i ∧ i ≤ x.cps.size ∧ Pv i H, ⟨x.cps.size, by simp, Nat.zero_le _, h0⟩, ?_⟩
  rintro i m H ⟨rfl, hi, p⟩
  by_cases hlt : i < x.cps.size
  · refine .inr ⟨hlt, Pv (i + 1), fun H' p' => ⟨x.cps.size - (i + 1), by omega, rfl, hlt, p'⟩, fun v H' y => ?_⟩
    obtain ⟨rfl, c, hc, rfl⟩ := y
    exact hs i c _ hc p
  · obtain rfl : i = x.cps.size := by omega
    exact .inl ⟨Nat.le_refl _, hd H p⟩
theorem de_lcS {g : TG} {vs : List Nat} {tl : TE} (h : DE K tl es fun s => ∃ x, s = .d (.str x) ∧ x.length ≤ 100000 ∧ ∃ J : Nat → List D → Prop, J 0 [] ∧
    (∀ (i : Nat) c, x.cps[i]? = some c → LcT K g tt te vs es J i (.str ⟨#[c]⟩)) ∧ ∀ ds, J x.length ds → ds.length ≤ x.length → Q (.new ds)) : DE K (tLc (iStr tl) g tt te vs) es Q := fun P N M L σ H S R k => by
  refine h P N M L σ H S _ fun s v H1 k1 o1 q1 => ?_
  obtain ⟨x, rfl, b, J, h0, hs, hd⟩ := q1
  cases o1
  refine ⟨x, rfl, fun D0 hD => ?_⟩
  obtain ⟨p0, old, nl⟩ := lc_start (S.kp k1) hD h0
  refine lc_str (LcP K P N M L σ es H1 D0 J) p0 (fun i c H hc p => ?_) fun H p => ?_
  · have hi : i < 100000 := Nat.lt_of_lt_of_le (Array.getElem?_eq_some_iff.mp hc).1 b
    exact lc_turn old nl hD hi p (Is.str _) (hs i c hc)
  · obtain ⟨kk, ds, ok, q⟩ := lc_end k1 hD p hd
    exact k _ _ _ kk ok q
theorem dt_yes {Q : Bool → Prop} (q : Q true) : DT K tYes es Q := fun P N M L σ H S R k => k true H (Kp.refl S.bs) q
/-- sep.join(texts) -/
theorem de_join {r : V → List V → Hp → VK → Prop} (hr : r = fun x xs H Q => ∃ a p, ∃ ys : List Str, x = .str a ∧ xs = [.ref p] ∧ (SqL K H p (ys.map V.str) ∨ SqT K H p (ys.map V.str)) ∧ (ys.map (·.length)).sum + ys.length * a.length ≤ 16777216 ∧ Q (.str (Txt.join a ys)) H)
    (h : DE K ta es fun s => ∃ a, s = .d (.str a) ∧ DE K te es fun z => ∃ ys : List Str, z.rd = some (.lst (ys.map D.str)) ∧ (ys.map (·.length)).sum + ys.length * a.length ≤ 16777216 ∧ Q (.d (.str (Txt.join a ys)))) : DE K (tM1 r ta te) es Q := fun P N M L σ H S R k => by
  subst hr
  refine h P N M L σ H S _ fun s v H1 k1 o1 q1 => ?_
  obtain ⟨a, rfl, q1⟩ := q1
  cases o1
  refine ⟨⟨a, rfl⟩, q1 P N M L σ H1 (S.kp k1) _ fun z w H2 k2 o2 q2 => ?_⟩
  obtain ⟨ys, e, l, q⟩ := q2
  obtain ⟨p, vs, rfl, h1, h2⟩ := o2.list (k1.bs S.bs) e
  rw [h2.ofStrs] at h1
  exact ⟨a, p, ys, rfl, rfl, .inl h1, l, k (.d (.str _)) _ H2 (k1.trans k2) (Is.str _) q⟩
end
end DL

namespace DL
open PySem PySem.Spec PyProof.Rows L2
/-! ### operators by what stands there -/
def rAddI : R2 := rI0 fun i j => .int (i + j)
def rAddS : R2 := fun x y H Q => ∃ i j, x = .str i ∧ y = .str j ∧ i.length + j.length ≤ sizeLine ∧ Q (.str (i ++ j)) H
def rPlus (K : PySem.W.Frag) : R2 := fun x y H Q => rAddI x y H Q ∨ (rAddS x y H Q ∨ (rCat x y H Q ∨ rCatA K x y H Q))
def rSl3 (K : PySem.W.Frag) : V → Option Int → Option Int → Hp → VK → Prop := fun x lo hi H Q => rSlL K x lo hi H Q ∨ (rSlA K x lo hi H Q ∨ rSlS x lo hi H Q)
def rIsX : R2 := fun x y H Q => (∃ a b, x = .bl a ∧ y = .bl b ∧ Q (.bl (decide (a = b))) H) ∨ (y = .non ∧ Q (.bl (decide (x = .non))) H)
def rNotX : R2 := fun x y H Q => (∃ a b, x = .bl a ∧ y = .bl b ∧ Q (.bl (!decide (a = b))) H) ∨ (y = .non ∧ Q (.bl (!decide (x = .non))) H)
def rLeS : R2 := fun x y H Q => ∃ i j, x = .str i ∧ y = .str j ∧ Q (.bl (!decide (j.cps.toList < i.cps.toList))) H
def rLeI : R2 := rI0 fun i j => .bl (decide (i ≤ j))
def rLe (K : PySem.W.Frag) : R2 := fun x y H Q => rLeI x y H Q ∨ rLeS x y H Q
def rInR : R2 := fun x y H Q => ∃ i a lo hi, x = V.int i ∧ y = V.ref a ∧ H a = some (.rng lo hi) ∧ Q (.bl (decide (lo ≤ i ∧ i < hi))) H
def rInX (K : PySem.W.Frag) : R2 := fun x y H Q => rInR x y H Q ∨ rInD K x y H Q
def rNotInX (K : PySem.W.Frag) : R2 := fun x y H Q => rNotInR x y H Q ∨ rNotInD K x y H Q
def rLenX (K : PySem.W.Frag) : List V → Hp → VK → Prop := fun xs H Q => ∃ x n, xs = [x] ∧ LenV K x H n ∧ Q (.int n) H
def rAbsX : List V → Hp → VK → Prop := fun xs H Q => ∃ i, xs = [.int i] ∧ Q (.int (if i < 0 then -i else i)) H
def rMaxX : List V → Hp → VK → Prop := fun xs H Q => ∃ i j, xs = [.int i, .int j] ∧ Q (.int (if j > i then j else i)) H
def rMinX : List V → Hp → VK → Prop := fun xs H Q => ∃ i j, xs = [.int i, .int j] ∧ Q (.int (if j < i then j else i)) H
def rListX (K : PySem.W.Frag) : List V → Hp → VK → Prop := fun xs H Q => ∃ p ys, xs = [.ref p] ∧ (SqL K H p ys ∨ SqT K H p ys) ∧ ∀ l, H l = none → Q (.ref l) (upd H l (.lst ys))
def rTupleX (K : PySem.W.Frag) : List V → Hp → VK → Prop := fun xs H Q => ∃ p ys, xs = [.ref p] ∧ ((SqL K H p ys ∧ ∀ l, H l = none → Q (.ref l) (upd H l (.tup ys))) ∨ (SqT K H p ys ∧ Q (.ref p) H))
def rRngX : List V → Hp → VK → Prop := fun vs H Q => ∃ i j, vs = [V.int i, V.int j] ∧ ∀ p, H p = none → Q (.ref p) (upd H p (.rng i j))
def rStrX : List V → Hp → VK → Prop := fun xs H Q => ∃ i, xs = [.int i] ∧ i.natAbs.log2 < 1920 ∧ Q (.str (toString i)) H
def rJoinX (K : PySem.W.Frag) : V → List V → Hp → VK → Prop := fun x xs H Q => ∃ a p, ∃ ys : List Str, x = .str a ∧ xs = [.ref p] ∧ (SqL K H p (ys.map V.str) ∨ SqT K H p (ys.map V.str)) ∧ (ys.map (·.length)).sum + ys.length * a.length ≤ 16777216 ∧ Q (.str (Txt.join a ys)) H
def rMul1 : R2 := rI CMul fun i j => .int (i * j)
def rMul2 : R2 := rI CMulW fun i j => .int (i * j)
def rMul : R2 := fun x y H Q => rMul1 x y H Q ∨ rMul2 x y H Q
def rEqX (K : PySem.W.Frag) : R2 := fun x y H Q => rEqD K x y H Q ∨ rEq x y H Q
def rNeX (K : PySem.W.Frag) : R2 := fun x y H Q => rNeD K x y H Q ∨ rNe x y H Q
/-- a test that is a thing's truth -/
def tTruX (K : PySem.W.Frag) (ta : TE) : TT := fun σ H Q => ta σ H fun x H' => ∃ k, TruV K x H' k ∧ Q k H'
def rFdv : R2 := rI CDivW fun i j => .int (i / j)
def rMod : R2 := rI (fun _ j => 0 < j) fun i j => .int (i % j)
def rPow : R2 := rI CPow fun i j => .int (i ^ j.toNat)
def rSubX : R2 := rI0 fun i j => .int (i - j)
def rLt : R2 := rI0 fun i j => .bl (decide (i < j))
def rGt : R2 := rI0 fun i j => .bl (decide (j < i))
def rGe : R2 := rI0 fun i j => .bl (decide (j ≤ i))
def rNeg : V → Hp → VK → Prop := L2.rU fun i => .int (-i)
section
variable {X : Cx}
theorem op_eqX (hu : X.A.units + 64 < cLine) : OpR X (compareOp .Eq) (rEqX X.K) := (op_eqD hu).or op_eq
theorem op_neX (hu : X.A.units + 64 < cLine) : OpR X (compareOp .NotEq) (rNeX X.K) := (op_neD hu).or op_ne
theorem op_plus : OpR X (binaryOp .Add) (rPlus X.K) := op_add.or (op_add_str.or (op_cat.or op_catA))
theorem op_mulX' : OpR X (binaryOp .Mult) rMul := op_mul.or op_mulW
theorem op_fdvX : OpR X (binaryOp .FloorDiv) rFdv := op_fdivW
theorem op_modX : OpR X (binaryOp .Mod) rMod := op_mod
theorem op_powX : OpR X (binaryOp .Pow) rPow := op_pow
theorem op_subX : OpR X (binaryOp .Sub) rSubX := op_sub
theorem op_ltX : OpR X (compareOp .Lt) rLt := op_lt
theorem op_gtX : OpR X (compareOp .Gt) rGt := op_gt
theorem op_geX : OpR X (compareOp .GtE) rGe := op_ge
theorem op_leX : OpR X (compareOp .LtE) (rLe X.K) := op_le.or op_le_str
theorem un_negX : UnR X (unaryOp .USub) rNeg := un_neg
theorem op_isX : OpR X (compareOp .Is) rIsX := op_is_bl.or op_isN
theorem op_isnotX : OpR X (compareOp .IsNot) rNotX := op_isnot_bl.or op_notN
theorem op_inX (hu : X.A.units + 65 < cLine) : OpR X (compareOp .In) (rInX X.K) := op_in_rng.or (op_inD hu)
theorem op_notinX (hu : X.A.units + 65 < cLine) : OpR X (compareOp .NotIn) (rNotInX X.K) := op_notInR.or (op_notInD hu)
theorem sl_3 : SlR X (rSl3 X.K) := sl_list.or (sl_tupA.or sl_str)
theorem call_lenX : CallR X (.builtin "len") (rLenX X.K) := call_len
theorem call_absX : CallR X (.builtin "abs") rAbsX := call_abs
theorem call_maxX (hc : X.calm = true) : CallR X (.builtin "max") rMaxX := call_max2 hc
theorem call_minX (hc : X.calm = true) : CallR X (.builtin "min") rMinX := call_min2 hc
theorem call_listX : CallR X (.type "list") (rListX X.K) := call_list_of
theorem call_tupleX : CallR X (.type "tuple") (rTupleX X.K) := call_tuple_of
theorem call_rngX : CallR X (.type "range") rRngX := cr_range2
theorem call_strX : CallR X (.type "str") rStrX := call_str_int
theorem mt_joinX : MtR X "str.join" (rJoinX X.K) := mt_join
end
theorem room65 {k : Nat} {A : Around} (h : Room k A) : A.units + 65 < cLine := by have := h.un; omega
section
variable {K : PySem.W.Frag} {N L M : AP} {H0 H1 H H' : Hp} {σ : L2.St} {es : Env'} {ta tb tc te : TE} {tt tu : TT} {Q : SV → Prop} {t u : TS} {B : DEnds}
theorem plus_i {i j : Int} (q : Q (.d (.int (i + j)))) : RR K (rPlus K) (.d (.int i)) (.d (.int j)) Q := rr_or1 (rr_i (g := fun i j => i + j) q)
theorem plus_s {x y : Str} (z : x.length + y.length ≤ sizeLine) (q : Q (.d (.str (x ++ y)))) : RR K (rPlus K) (.d (.str x)) (.d (.str y)) Q := rr_or2 (rr_or1 (rr_addS z q))
theorem plus_l {s1 s2 : SV} {xs ys : List D} (e1 : s1.rd = some (.lst xs)) (e2 : s2.rd = some (.lst ys)) (n1 : ∀ n, s1 ≠ .scr n) (n2 : ∀ n, s2 ≠ .scr n) (z : xs.length + ys.length ≤ 100000) (q : Q (.new (xs ++ ys))) : RR K (rPlus K) s1 s2 Q := rr_or2 (rr_or2 (rr_or1 (rr_cat e1 e2 n1 n2 z q)))
theorem plus_t {xs ys : List D} (z : xs.length + ys.length ≤ 100000) (q : Q (.d (.tup (xs ++ ys)))) : RR K (rPlus K) (.d (.tup xs)) (.d (.tup ys)) Q := rr_or2 (rr_or2 (rr_or2 (rr_catT z q)))
theorem mul_i {i j : Int} (c : i.natAbs.log2 + j.natAbs.log2 < 1000000) (q : Q (.d (.int (i * j)))) : RR K rMul (.d (.int i)) (.d (.int j)) Q := rr_or2 (rr_ic (C := CMulW) (g := fun i j => i * j) c q)
theorem mul_r {i j : Int} (c : -(2 ^ 64) < j ∧ j < 2 ^ 64) (q : Q (.d (.int (i * j)))) : RR K rMul (.d (.int i)) (.d (.int j)) Q := rr_or1 (rr_ic (C := CMul) (g := fun i j => i * j) (.inr c) q)
theorem mul_l {i j : Int} (c : -(2 ^ 64) < i ∧ i < 2 ^ 64) (q : Q (.d (.int (i * j)))) : RR K rMul (.d (.int i)) (.d (.int j)) Q := rr_or1 (rr_ic (C := CMul) (g := fun i j => i * j) (.inl c) q)
theorem fdv_i {i j : Int} (c : 0 < j) (c2 : j.natAbs.log2 < 9000) (q : Q (.d (.int (i / j)))) : RR K rFdv (.d (.int i)) (.d (.int j)) Q := rr_ic (C := CDivW) (g := fun i j => i / j) ⟨c, c2⟩ q
theorem mod_i {i j : Int} (c : 0 < j) (q : Q (.d (.int (i % j)))) : RR K rMod (.d (.int i)) (.d (.int j)) Q := rr_ic (C := fun _ j => 0 < j) (g := fun i j => i % j) c q
theorem pow_i {i j : Int} (c : 0 ≤ j) (c1 : j ≤ 1000000) (c2 : i.natAbs < 2 ^ 64) (q : Q (.d (.int (i ^ j.toNat)))) : RR K rPow (.d (.int i)) (.d (.int j)) Q := rr_ic (C := CPow) (g := fun i j => i ^ j.toNat) ⟨c, c1, c2⟩ q
theorem sub_i {i j : Int} (q : Q (.d (.int (i - j)))) : RR K rSubX (.d (.int i)) (.d (.int j)) Q := rr_i (g := fun i j => i - j) q
theorem lt_i {i j : Int} (q : Q (.d (.bl (decide (i < j))))) : RR K rLt (.d (.int i)) (.d (.int j)) Q := rr_b (g := fun i j => decide (i < j)) q
theorem gt_i {i j : Int} (q : Q (.d (.bl (decide (j < i))))) : RR K rGt (.d (.int i)) (.d (.int j)) Q := rr_b (g := fun i j => decide (j < i)) q
theorem ge_i {i j : Int} (q : Q (.d (.bl (decide (j ≤ i))))) : RR K rGe (.d (.int i)) (.d (.int j)) Q := rr_b (g := fun i j => decide (j ≤ i)) q
theorem le_i {i j : Int} (q : Q (.d (.bl (decide (i ≤ j))))) : RR K (rLe K) (.d (.int i)) (.d (.int j)) Q := rr_or1 (rr_b (g := fun i j => decide (i ≤ j)) q)
theorem le_s {x y : Str} (q : Q (.d (.bl (!decide (y.cps.toList < x.cps.toList))))) : RR K (rLe K) (.d (.str x)) (.d (.str y)) Q := rr_or2 (rr_leS q)
theorem neg_i {i : Int} (q : Q (.d (.int (-i)))) : RU K rNeg (.d (.int i)) Q := ru_neg q
theorem is_b {a b : Bool} (q : Q (.d (.bl (decide (a = b))))) : RR K rIsX (.d (.bl a)) (.d (.bl b)) Q := rr_or1 (rr_isB q)
theorem isnot_b {a b : Bool} (q : Q (.d (.bl (!decide (a = b))))) : RR K rNotX (.d (.bl a)) (.d (.bl b)) Q := rr_or1 (rr_isnotB q)
theorem is_n {x : D} (q : Q (.d (.bl x.isNon))) : RR K rIsX (.d x) (.d .non) Q := rr_or2 (rr_isN q)
theorem isnot_n {x : D} (q : Q (.d (.bl (!x.isNon)))) : RR K rNotX (.d x) (.d .non) Q := rr_or2 (rr_isnotN q)
theorem in_r {i lo hi : Int} (q : Q (.d (.bl (decide (lo ≤ i ∧ i < hi))))) : RR K (rInX K) (.d (.int i)) (.rng lo hi) Q := rr_or1 (rr_inR q)
theorem notin_r {i lo hi : Int} (q : Q (.d (.bl (!decide (lo ≤ i ∧ i < hi))))) : RR K (rNotInX K) (.d (.int i)) (.rng lo hi) Q := rr_or1 (rr_notInR q)
theorem sl_l {s : SV} {xs : List D} {lo hi : Option Int} (e : s.rd = some (.lst xs)) (q : Q (.new (cutD xs lo hi))) : RS K (rSl3 K) s lo hi Q := rs_or1 (rs_L e q)
theorem sl_t {xs : List D} {lo hi : Option Int} (q : Q (.d (.tup (cutD xs lo hi)))) : RS K (rSl3 K) (.d (.tup xs)) lo hi Q := rs_or2 (rs_or1 (rs_T q))
theorem sl_s {z : Str} {lo hi : Option Int} (hz : z.length ≤ sizeLine) (q : Q (.d (.str (cutS z lo hi)))) : RS K (rSl3 K) (.d (.str z)) lo hi Q := rs_or2 (rs_or2 (rs_S hz q))
theorem de_joinX (h : DE K ta es fun s => ∃ a, s = .d (.str a) ∧ DE K te es fun z => ∃ ys : List Str, z.rd = some (.lst (ys.map D.str)) ∧ (ys.map (·.length)).sum + ys.length * a.length ≤ 16777216 ∧ Q (.d (.str (Txt.join a ys)))) : DE K (tM1 (rJoinX K) ta te) es Q := de_join rfl h
theorem eqF {s1 s2 : SV} {x y : D} {n1 n2 k1 k2 : Nat} (e1 : s1.rd = some x) (e2 : s2.rd = some y) (h1 : Fit n1 k1 x) (h2 : Fit n2 k2 y) (l1 : k1 ≤ 40) (l2 : k2 ≤ 40) (q : Q (.d (.bl (PyData.eqv x.py y.py)))) : RR K (rEqX K) s1 s2 Q := rr_or1 (rr_eqF e1 e2 h1 h2 l1 l2 q)
theorem neF {s1 s2 : SV} {x y : D} {n1 n2 k1 k2 : Nat} (e1 : s1.rd = some x) (e2 : s2.rd = some y) (h1 : Fit n1 k1 x) (h2 : Fit n2 k2 y) (l1 : k1 ≤ 40) (l2 : k2 ≤ 40) (q : Q (.d (.bl (!PyData.eqv x.py y.py)))) : RR K (rNeX K) s1 s2 Q := rr_or1 (rr_neF e1 e2 h1 h2 l1 l2 q)
theorem eq_ss {x y : Str} (q : Q (.d (.bl (decide (x = y))))) : RR K (rEqX K) (.d (.str x)) (.d (.str y)) Q := fun N M L H0 H v1 v2 b k o1 o2 R r => by
  cases o1
  cases o2
  have e : decide (V.str x = V.str y) = decide (x = y) := by
    by_cases h : x = y
    · subst h; simp
    · rw [decide_eq_false h, decide_eq_false fun z => h (V.str.inj z)]
  exact .inr ⟨rfl, by rw [e]; exact r (.d (.bl _)) _ H (Kp.refl (k.bs b)) (Is.bl _) q⟩
theorem ne_ss {x y : Str} (q : Q (.d (.bl (!decide (x = y))))) : RR K (rNeX K) (.d (.str x)) (.d (.str y)) Q := fun N M L H0 H v1 v2 b k o1 o2 R r => by
  cases o1
  cases o2
  have e : decide (V.str x = V.str y) = decide (x = y) := by
    by_cases h : x = y
    · subst h; simp
    · rw [decide_eq_false h, decide_eq_false fun z => h (V.str.inj z)]
  exact .inr ⟨rfl, by rw [e]; exact r (.d (.bl _)) _ H (Kp.refl (k.bs b)) (Is.bl _) q⟩
/-- one step at an operator or a call -/
theorem len_x {s : SV} {x : D} {n : Nat} (e : s.rd = some x) (hn : x.len = some n) (q : Q (.d (.int n))) : RC K (rLenX K) [s] Q := rc_len e hn q
theorem abs_x {i : Int} (q : Q (.d (.int (if i < 0 then -i else i)))) : RC K rAbsX [.d (.int i)] Q := rc_abs q
theorem max_x {i j : Int} (q : Q (.d (.int (if j > i then j else i)))) : RC K rMaxX [.d (.int i), .d (.int j)] Q := rc_max q
theorem min_x {i j : Int} (q : Q (.d (.int (if j < i then j else i)))) : RC K rMinX [.d (.int i), .d (.int j)] Q := rc_min q
theorem list_x {s : SV} {xs : List D} (e : s.rd = some (.lst xs)) (q : Q (.new xs)) : RC K (rListX K) [s] Q := rc_list e q
theorem list_t {xs : List D} (q : Q (.new xs)) : RC K (rListX K) [.d (.tup xs)] Q := rc_listT q
theorem tuple_x {s : SV} {xs : List D} (e : s.rd = some (.lst xs)) (q : Q (.d (.tup xs))) : RC K (rTupleX K) [s] Q := rc_tuple e q
theorem rng_x {i j : Int} (q : Q (.rng i j)) : RC K rRngX [.d (.int i), .d (.int j)] Q := rc_rng q
theorem str_x {i : Int} (hi : i.natAbs.log2 < 1920) (q : Q (.d (.str (toString i)))) : RC K rStrX [.d (.int i)] Q := rc_strI hi q

/-! ### the bag -/
/-- bag[k], k a written place -/
theorem bag_ix {k : Int} (hk : k = 0 ∨ k = 1) (q : ∀ g, Q (.d (.int g))) : RR K (rIx K) .bag (.d (.int k)) Q := fun N M L H0 H v1 v2 b kk o1 o2 R r => by
  cases o2
  obtain ⟨a, rfl, la⟩ := o1
  obtain ⟨g, m, e⟩ := kk.b a la
  rcases hk with rfl | rfl
  · exact .inl ⟨a, [.int g, .int m], 0, .int g, rfl, rfl, .inl (.inl e), rfl, r (.d (.int g)) _ H (Kp.refl (kk.bs b)) (Is.int g) (q g)⟩
  · exact .inl ⟨a, [.int g, .int m], 1, .int m, rfl, rfl, .inl (.inl e), rfl, r (.d (.int m)) _ H (Kp.refl (kk.bs b)) (Is.int m) (q m)⟩
/-- bag[k] = e -/
theorem ds_bag {i : Nat} {k : Int} (hk : k = 0 ∨ k = 1) (e : es[i]? = some (some .bag)) (h : DE K te es fun s => ∃ g, s = .d (.int g) ∧ B.nx es) : DS K (tAsg te (gSub (tVar i) (tC (.int k)) rSetL)) es B := fun F P M L σ H S E o => by
  refine h P _ M L σ H S.st _ fun s w H1 k1 o1 q1 => ?_
  obtain ⟨g', rfl, q⟩ := q1
  cases o1
  obtain ⟨v, hv, a, rfl, la⟩ := S.st.ok i _ e
  obtain ⟨g, m, ea⟩ := k1.b a la
  have bs1 := k1.bs S.st.bs
  refine ⟨.ref a, hv, ?_⟩
  have fin : ∀ x y : Int, Kp L H1 (upd H1 a (.lst [.int x, .int y])) := fun x y => ⟨fun b o' l z => by rw [upd_ne (fun q => l (by rw [q]; exact la))]; exact z, fun b l => by
    by_cases hb : b = a
    · exact ⟨x, y, by rw [hb, upd_same]⟩
    · obtain ⟨g2, m2, z⟩ := bs1.bag b l
      exact ⟨g2, m2, by rw [upd_ne hb]; exact z⟩⟩
  rcases hk with rfl | rfl
  · exact ⟨a, [.int g, .int m], 0, 0, rfl, rfl, ea, rfl, o.nx _ _ _ _ _ ((S.kp' k1).kp' (fin g' m)) q⟩
  · exact ⟨a, [.int g, .int m], 1, 1, rfl, rfl, ea, rfl, o.nx _ _ _ _ _ ((S.kp' k1).kp' (fin g g')) q⟩
end
end DL

namespace DL
open PySem PySem.Spec PyProof.Rows L2
section
variable {K : PySem.W.Frag} {es : Env'} {ta tb tc te : TE} {tt tu : TT} {Q : SV → Prop} {t u : TS} {B : DEnds}
def smallL (n : Nat) : Prop := n ≤ 100000
theorem small_and {A : Prop} {n : Nat} (h : n ≤ 100000) (q : A) : smallL n ∧ A := ⟨h, q⟩
/-- the things of a display -/
def dats : List SV → Option (List D)
  | [] => some []
  | s :: ss => match s.dat, dats ss with
    | some d, some ds => some (d :: ds)
    | _, _ => none
theorem dats_map : ∀ {ss : List SV} {ds : List D}, dats ss = some ds → ss.map SV.dat = ds.map some
  | [], ds, e => by cases e; rfl
  | s :: ss, ds, e => by
    unfold dats at e
    split at e
    · rename_i d ds' e1 e2
      cases e
      rw [List.map_cons, List.map_cons, e1, dats_map e2]
    · cases e
theorem de_tup' {tr : TA} (h : DA K tr es fun ss => ∃ ds, dats ss = some ds ∧ smallL ds.length ∧ Q (.d (.tup ds))) : DE K (tTup tr) es Q :=
  de_tup fun P N M L σ H S R k => h P N M L σ H S R fun ss vs H' k1 o q => k ss vs H' k1 o (by obtain ⟨ds, e, z, q⟩ := q; exact ⟨ds, dats_map e, z, q⟩)
theorem de_lst' {tr : TA} (h : DA K tr es fun ss => ∃ ds, dats ss = some ds ∧ smallL ds.length ∧ Q (.new ds)) : DE K (tLst tr) es Q :=
  de_lst fun P N M L σ H S R k => h P N M L σ H S R fun ss vs H' k1 o q => k ss vs H' k1 o (by obtain ⟨ds, e, z, q⟩ := q; exact ⟨ds, dats_map e, z, q⟩)
theorem atI_in {α : Type} {xs : List α} {i : Int} (h0 : 0 ≤ i) (h1 : i < (xs.length : Int)) : ∃ x ∈ xs, atI xs i = some x := by
  obtain ⟨n, rfl⟩ : ∃ n : Nat, i = (n : Int) := ⟨i.toNat, by omega⟩
  have hn : n < xs.length := by omega
  exact ⟨xs[n], List.getElem_mem hn, atI_nat (List.getElem?_eq_getElem hn)⟩
theorem ixL_any {s : SV} {xs : List D} {i : Int} (e : s.rd = some (.lst xs)) (h0 : 0 ≤ i) (h1 : i < (xs.length : Int)) (q : ∀ x ∈ xs, Q (.d x)) : RR K (rIx K) s (.d (.int i)) Q := by
  obtain ⟨x, hx, e'⟩ := atI_in h0 h1
  exact rr_xL e e' (q x hx)
theorem ixT_any {xs : List D} {i : Int} (h0 : 0 ≤ i) (h1 : i < (xs.length : Int)) (q : ∀ x ∈ xs, Q (.d x)) : RR K (rIx K) (.d (.tup xs)) (.d (.int i)) Q := by
  obtain ⟨x, hx, e'⟩ := atI_in h0 h1
  exact rr_xT e' (q x hx)
theorem ixS_any {z : Str} {i : Int} (hz : z.length ≤ sizeLine) (h0 : 0 ≤ i) (h1 : i < (z.cps.toList.length : Int)) (q : ∀ c ∈ z.cps.toList, Q (.d (.str ⟨#[c]⟩))) : RR K (rIx K) (.d (.str z)) (.d (.int i)) Q := by
  obtain ⟨x, hx, e'⟩ := atI_in h0 h1
  exact rr_xS hz e' (q x hx)
theorem ite_b {A C : Prop} {b : Bool} (h1 : b = true → A) (h2 : b = false → C) : if b = true then A else C := by
  cases b with
  | true => exact h1 rfl
  | false => exact h2 rfl
end
section
variable {A : Prop} {x : D} {xs : List D} {ns : List Int}
theorem sto_d : (SV.d x).sto = .d x := rfl
theorem sto_new : (SV.new xs).sto = .own xs := rfl
theorem sto_bag : SV.bag.sto = .bag := rfl
theorem sto_scr : (SV.scr ns).sto = .scr ns := rfl
theorem out_d : (SV.d x).out = .d x := rfl
theorem out_new : (SV.new xs).out = .new xs := rfl
theorem out_own : (SV.own xs).out = .new xs := rfl
theorem arg_d : (SV.d x).arg = .d x := rfl
theorem arg_new : (SV.new xs).arg = .d (.lst xs) := rfl
theorem arg_bag : SV.bag.arg = .bag := rfl
theorem arg_scr : (SV.scr ns).arg = .scr ns := rfl
theorem nall_d {ss : List SV} (h : nownAll ss ∧ A) : nownAll (.d x :: ss) ∧ A := ⟨⟨trivial, h.1⟩, h.2⟩
theorem nall_new {ss : List SV} (h : nownAll ss ∧ A) : nownAll (.new xs :: ss) ∧ A := ⟨⟨trivial, h.1⟩, h.2⟩
theorem nall_bag {ss : List SV} (h : nownAll ss ∧ A) : nownAll (.bag :: ss) ∧ A := ⟨⟨trivial, h.1⟩, h.2⟩
theorem nall_scr {ss : List SV} (h : nownAll ss ∧ A) : nownAll (.scr ns :: ss) ∧ A := ⟨⟨trivial, h.1⟩, h.2⟩
theorem nown_d (h : A) : (SV.d x).nown ∧ A := ⟨trivial, h⟩
theorem nown_new (h : A) : (SV.new xs).nown ∧ A := ⟨trivial, h⟩
theorem ret_d (h : A) : (SV.d x).ret ∧ A := ⟨trivial, h⟩
theorem ret_new (h : A) : (SV.new xs).ret ∧ A := ⟨trivial, h⟩
theorem ret_own (h : A) : (SV.own xs).ret ∧ A := ⟨trivial, h⟩
theorem nall_nil (h : A) : nownAll [] ∧ A := ⟨trivial, h⟩
end
section
variable {K : PySem.W.Frag} {Q : SV → Prop} {es : Env'}
theorem eq_ii {i j : Int} (q : Q (.d (.bl (i == j)))) : RR K (rEqX K) (.d (.int i)) (.d (.int j)) Q := rr_or1 <| rr_eq rfl rfl rfl rfl (by simp [SeqAt.shaped, D.py, PyData.canLay0, PyData.depth]) (by simp [SeqAt.shaped, D.py, PyData.canLay0, PyData.depth]) q
theorem ne_ii {i j : Int} (q : Q (.d (.bl (!(i == j))))) : RR K (rNeX K) (.d (.int i)) (.d (.int j)) Q := rr_or1 <| rr_ne rfl rfl rfl rfl (by simp [SeqAt.shaped, D.py, PyData.canLay0, PyData.depth]) (by simp [SeqAt.shaped, D.py, PyData.canLay0, PyData.depth]) q
theorem pow_lit {i j k : Int} (e : i ^ j.toNat = k) (c : 0 ≤ j) (c1 : j ≤ 1000000) (c2 : i.natAbs < 2 ^ 64) (q : Q (.d (.int k))) : RR K rPow (.d (.int i)) (.d (.int j)) Q := pow_i c c1 c2 (by rw [e]; exact q)
end
/-- a step -/
local macro_rules | `(tactic| walk_at "dl") => `(tactic| first
  | ((with_reducible refine de_var (s := ?sv) ?hv ?_); (case hv => exact rfl)) | with_reducible refine de_int ?_ | with_reducible refine de_bl ?_ | with_reducible refine de_str ?_ | with_reducible refine de_non ?_ | with_reducible refine de_ty ?_
  | with_reducible refine de_tup' ?_ | with_reducible refine de_lst' ?_ | ((with_reducible refine small_and ?hz ?_); (case hz => exact Nat.le_of_ble_eq_true rfl)) | with_reducible refine nall_d ?_ | with_reducible refine nall_new ?_ | with_reducible refine nall_bag ?_ | with_reducible refine nall_scr ?_ | with_reducible refine nall_nil ?_
  | with_reducible refine de_op ?_ | with_reducible refine de_un ?_ | with_reducible refine de_chain ?_ | with_reducible refine de_cb ?_ | with_reducible refine de_sl ?_
  | with_reducible refine do_none ?_ | with_reducible refine do_some ?_ | with_reducible refine da_cons ?_ | with_reducible refine da_nil ?_
  | with_reducible refine dt_test ?_ | with_reducible refine dt_B ?_ | with_reducible refine dt_not ?_ | with_reducible refine dt_and ?_ | with_reducible refine dt_or ?_ | with_reducible refine dt_yes ?_
  | with_reducible refine de_andV ?_ | with_reducible refine de_orV ?_ | with_reducible refine de_notV ?_
  | with_reducible refine ds_next ?_ | with_reducible refine ds_seq ?_ | with_reducible refine ds_ret ?_ | with_reducible refine ds_retN ?_ | with_reducible refine ds_if ?_ | with_reducible refine ds_brk ?_ | with_reducible refine ds_cont ?_
  | with_reducible refine ds_set ?_
  | with_reducible refine plus_i ?_ | with_reducible refine sub_i ?_ | with_reducible refine lt_i ?_ | with_reducible refine gt_i ?_ | with_reducible refine ge_i ?_ | with_reducible refine le_i ?_ | with_reducible refine le_s ?_ | with_reducible refine neg_i ?_
  | with_reducible refine eq_ii ?_ | with_reducible refine ne_ii ?_ | with_reducible refine eq_ss ?_ | with_reducible refine ne_ss ?_
  | with_reducible refine is_b ?_ | with_reducible refine isnot_b ?_ | with_reducible refine is_n ?_ | with_reducible refine isnot_n ?_ | with_reducible refine in_r ?_ | with_reducible refine notin_r ?_
  | with_reducible refine len_x rfl rfl ?_ | with_reducible refine abs_x ?_ | with_reducible refine max_x ?_ | with_reducible refine min_x ?_ | with_reducible refine rng_x ?_
  | with_reducible refine bag_ix (.inl rfl) (fun g => ?_) | with_reducible refine bag_ix (.inr rfl) (fun g => ?_)
  | with_reducible refine nown_d ?_ | with_reducible refine nown_new ?_ | with_reducible refine ret_d ?_ | with_reducible refine ret_new ?_ | with_reducible refine ret_own ?_
  | with_reducible refine ⟨_, rfl, ?_⟩ | dsimp only [sto_d, sto_new, sto_bag, sto_scr, out_d, out_new, out_own, arg_d, arg_new, arg_bag, arg_scr, List.set, List.map_cons, List.map_nil])
def preTake (ss : List SV) : Prop := ∃ n : Int, ss = [.bag, .d (.int n)] ∧ 0 < n ∧ n.natAbs.log2 < 9000
def postTake (ss : List SV) (r : SV) : Prop := ∃ n d : Int, ss = [.bag, .d (.int n)] ∧ r = .d (.int d) ∧ 0 ≤ d ∧ d < n
def sp__law_take (K : PySem.W.Frag) : Sp := spD K 2 preTake postTake
def rdTake (K : PySem.W.Frag) : TS := (tSeq (tIfS (tTest (tOp rGt (tOp (rIx K) (tVar 0) (tC (.int 0))) (tC (.int 0)))) (tSeq (tAsg (tOp rMod (tOp (rIx K) (tVar 0) (tC (.int 0))) (tVar 1)) (gName 2))
    (tSeq (tAsg (tOp rFdv (tOp (rIx K) (tVar 0) (tC (.int 0))) (tVar 1)) (gSub (tVar 0) (tC (.int 0)) rSetL))
    (tRet (tVar 2)))) tNext)
    (tSeq (tAsg (tOp rMod (tOp rMul (tOp (rIx K) (tVar 0) (tC (.int 1))) (tC (.int 48271))) (tC (.int 2147483647))) (gSub (tVar 0) (tC (.int 1)) rSetL))
    (tRet (tOp rMod (tOp rFdv (tOp rMod (tOp rMul (tOp (rIx K) (tVar 0) (tC (.int 1))) (tC (.int 69621))) (tC (.int 2147483629))) (tOp rPow (tC (.int 16)) (tC (.int 2)))) (tVar 1)))))
theorem semTake {K : PySem.W.Frag} (ss : List SV) (hp : preTake ss) : DS K (rdTake K) (startE 3 ss) { nx := fun _ => postTake ss (.d .non), rt := postTake ss } := by
  obtain ⟨n, rfl, h0, h1⟩ := hp
  show DS K (rdTake K) [some .bag, some (.d (.int n)), none] _
  unfold rdTake
  repeat walk_at "dl"
  refine ite_b (fun _ => ?_) (fun _ => ?_)
  · repeat walk_at "dl"
    refine mod_i h0 ?_
    repeat walk_at "dl"
    refine ds_bag (.inl rfl) rfl ?_
    repeat walk_at "dl"
    refine fdv_i h0 h1 ?_
    repeat walk_at "dl"
    exact ⟨n, _, rfl, rfl, Int.emod_nonneg _ (by omega), Int.emod_lt_of_pos _ h0⟩
  · repeat walk_at "dl"
    refine ds_bag (.inr rfl) rfl ?_
    repeat walk_at "dl"
    refine mul_r (by decide) ?_
    repeat walk_at "dl"
    refine mod_i (by decide) ?_
    repeat walk_at "dl"
    refine mul_r (by decide) ?_
    repeat walk_at "dl"
    refine mod_i (by decide) ?_
    repeat walk_at "dl"
    refine pow_i (by decide) (by decide) (by decide) ?_
    repeat walk_at "dl"
    refine fdv_i (by decide) (by decide) ?_
    repeat walk_at "dl"
    refine mod_i h0 ?_
    repeat walk_at "dl"
    exact ⟨n, _, rfl, rfl, Int.emod_nonneg _ (by omega), Int.emod_lt_of_pos _ h0⟩
def preBag (ss : List SV) : Prop := ∃ (ns : List Int) (k : Nat), ss = [.scr ns, .d (.int k)] ∧ k < 64
def postBag (ss : List SV) (r : SV) : Prop := ∃ g m : Int, r = .new [.int g, .int m]
def sp__law_bag (K : PySem.W.Frag) : Sp := spD K 2 preBag postBag
def rdBag (K : PySem.W.Frag) : TS := (tSeq (tAsg (tTup (tCons (tC (.int 2147483647)) (tCons (tC (.int 2147483629)) (tCons (tC (.int 2147483587)) (tCons (tC (.int 2147483579)) (tCons (tC (.int 2147483563)) (tCons (tC (.int 2147483549)) (tCons (tC (.int 2147483543)) tNil)))))))) (gName 2))
    (tSeq (tAsg (tIf (tTest (tOp rLt (tVar 1) (tCB (rLenX K) (tCons (tVar 0) tNil)))) (tOp (rIx K) (tVar 0) (tVar 1)) (tC (.int 0))) (gName 3))
    (tSeq (tAsg (tIf (tTest (tOp rGe (tCB rAbsX (tCons (tVar 3) tNil)) (tOp rPow (tC (.int 10)) (tC (.int 18))))) (tCB rAbsX (tCons (tVar 3) tNil)) (tC (.int 0))) (gName 4))
    (tSeq (tAsg (tOp rMod (tOp rPow (tOp (rPlus K) (tOp (rPlus K) (tOp rMod (tVar 3) (tC (.int 2305843009213693951))) (tOp rMul (tC (.int 40961)) (tVar 1))) (tC (.int 19))) (tC (.int 3))) (tOp (rIx K) (tVar 2) (tOp rMod (tVar 1) (tC (.int 7))))) (gName 5))
    (tRet (tLst (tCons (tVar 4) (tCons (tOp (rPlus K) (tOp rMod (tOp rMul (tVar 5) (tOp (rPlus K) (tOp (rPlus K) (tOp rFdv (tVar 5) (tC (.int 5))) (tOp rMul (tC (.int 3)) (tVar 1))) (tC (.int 11)))) (tOp (rIx K) (tVar 2) (tOp rMod (tOp (rPlus K) (tVar 1) (tC (.int 2))) (tC (.int 7))))) (tC (.int 1))) tNil))))))))
theorem semBag {K : PySem.W.Frag} (ss : List SV) (hp : preBag ss) : DS K (rdBag K) (startE 6 ss) { nx := fun _ => postBag ss (.d .non), rt := postBag ss } := by
  obtain ⟨ns, k, rfl, hk⟩ := hp
  show DS K (rdBag K) [some (.scr ns), some (.d (.int k)), none, none, none, none] _
  unfold rdBag
  repeat walk_at "dl"
  refine DE.mono (Q := fun s => ∃ c : Int, s = .d (.int c)) ?_ ?_
  · refine de_if ?_
    repeat walk_at "dl"
    refine ite_b (fun hb => ?_) (fun hb => ?_)
    · repeat walk_at "dl"
      have hb' := of_decide_eq_true hb
      refine ixL_any rfl (by omega) hb' (fun x hx => ?_)
      obtain ⟨c, _, rfl⟩ := List.mem_map.mp hx
      exact ⟨c, rfl⟩
    · repeat walk_at "dl"
      exact ⟨_, rfl⟩
  rintro _ ⟨c, rfl⟩
  repeat walk_at "dl"
  refine DE.mono (Q := fun s => ∃ c : Int, s = .d (.int c)) ?_ ?_
  · refine de_if ?_
    repeat walk_at "dl"
    refine pow_i (by decide) (by decide) (by decide) ?_
    repeat walk_at "dl"
    refine ite_b (fun hb => ?_) (fun hb => ?_)
    · repeat walk_at "dl"
      exact ⟨_, rfl⟩
    · repeat walk_at "dl"
      exact ⟨_, rfl⟩
  rintro _ ⟨g, rfl⟩
  repeat walk_at "dl"
  refine mod_i (by decide) ?_
  repeat walk_at "dl"
  refine mul_l (by decide) ?_
  repeat walk_at "dl"
  have h1 := Int.emod_nonneg c (b := 2305843009213693951) (by decide)
  have h2 := Int.emod_lt_of_pos c (b := 2305843009213693951) (by decide)
  refine pow_i (by decide) (by decide) (by omega) ?_
  repeat walk_at "dl"
  refine mod_i (by decide) ?_
  refine ixT_any (Int.emod_nonneg _ (by decide)) (Int.emod_lt_of_pos _ (by decide)) (fun x hx => ?_)
  have prime : ∀ {y : D}, y ∈ [D.int 2147483647, D.int 2147483629, D.int 2147483587, D.int 2147483579, D.int 2147483563, D.int 2147483549, D.int 2147483543] → ∃ p : Int, y = .int p ∧ 0 < p ∧ p < 2147483648 := by
    intro y hy
    simp only [List.mem_cons, List.not_mem_nil, or_false] at hy
    rcases hy with rfl | rfl | rfl | rfl | rfl | rfl | rfl <;> exact ⟨_, rfl, by decide, by decide⟩
  obtain ⟨p, rfl, p0, p1⟩ := prime hx
  refine mod_i p0 ?_
  generalize hm : (c % 2305843009213693951 + 40961 * (k : Int) + 19) ^ (3 : Int).toNat % p = m
  have m0 : 0 ≤ m := by rw [← hm]; exact Int.emod_nonneg _ (by omega)
  have m1 : m < 2147483648 := by have := Int.emod_lt_of_pos ((c % 2305843009213693951 + 40961 * (k : Int) + 19) ^ (3 : Int).toNat) p0; omega
  repeat walk_at "dl"
  refine fdv_i (by decide) (by decide) ?_
  repeat walk_at "dl"
  refine mul_l (by decide) ?_
  repeat walk_at "dl"
  refine mul_l (by omega) ?_
  repeat walk_at "dl"
  refine mod_i (by decide) ?_
  refine ixT_any (Int.emod_nonneg _ (by decide)) (Int.emod_lt_of_pos _ (by decide)) (fun x hx => ?_)
  obtain ⟨p', rfl, p0', p1'⟩ := prime hx
  refine mod_i p0' ?_
  repeat walk_at "dl"
  exact ⟨_, _, rfl⟩
end DL

namespace DL
open PySem PySem.Spec PyProof.Rows L2
/-! ### texts -/
def okS (z : Str) : Prop := z.cps.all (· < 0x110000) = true
theorem okS_iff {z : Str} : okS z ↔ ∀ c ∈ z.cps.toList, c < 0x110000 := by
  unfold okS
  rw [← Array.all_toList, List.all_eq_true]
  constructor
  · intro h c hc
    exact of_decide_eq_true (h c hc)
  · intro h c hc
    exact decide_eq_true (h c hc)
theorem okS_app {x y : Str} (a : okS x) (b : okS y) : okS (x ++ y) := okS_iff.mpr fun c hc => by
  have hc' : c ∈ (x.cps ++ y.cps).toList := hc
  rw [Array.toList_append, List.mem_append] at hc'
  exact hc'.elim (okS_iff.mp a c) (okS_iff.mp b c)
theorem okS_cut {x : Str} {lo hi : Option Int} (a : okS x) : okS (cutS x lo hi) := okS_iff.mpr fun c hc => by
  have hc' : c ∈ ((x.cps.toList.drop (HT.sIx x.length 0 lo)).take (HT.sIx x.length x.length hi - HT.sIx x.length 0 lo)) := by
    have h : c ∈ (((x.cps.toList.drop (HT.sIx x.length 0 lo)).take (HT.sIx x.length x.length hi - HT.sIx x.length 0 lo)).toArray).toList := hc
    simpa using h
  exact okS_iff.mp a c (List.mem_of_mem_drop (List.mem_of_mem_take hc'))
theorem okS_empty : okS ("" : String) := by unfold okS; decide +kernel
theorem okS_join0 : ∀ ys : List Str, (∀ y ∈ ys, okS y) → okS (Str.join (Str.ofString "") ys)
  | [], _ => okS_empty
  | [x], h => h x (by simp)
  | x :: y :: r, h => by
    show okS (x ++ Str.ofString "" ++ Str.join (Str.ofString "") (y :: r))
    exact okS_app (okS_app (h x (by simp)) okS_empty) (okS_join0 (y :: r) fun z hz => h z (List.mem_cons_of_mem _ hz))
theorem okS_join {ys : List Str} (h : ∀ y ∈ ys, okS y) : okS (Txt.join (Str.ofString "") ys) := by
  have e : Txt.join (Str.ofString "") ys = Str.join (Str.ofString "") ys := StrLaws.glued_eq_join _ _
  rw [e]
  exact okS_join0 ys h
theorem len_join0 : ∀ ys : List Str, (Str.join (Str.ofString "") ys).length = (ys.map (·.length)).sum
  | [] => rfl
  | [x] => by
    show x.length = _
    simp
  | x :: y :: r => by
    show (x ++ Str.ofString "" ++ Str.join (Str.ofString "") (y :: r)).length = _
    rw [strLen_append, strLen_append, len_join0 (y :: r), List.map_cons, List.sum_cons]
    rfl
theorem len_join {ys : List Str} : (Txt.join (Str.ofString "") ys).length = (ys.map (·.length)).sum := by
  have e : Txt.join (Str.ofString "") ys = Str.join (Str.ofString "") ys := StrLaws.glued_eq_join _ _
  rw [e]
  exact len_join0 ys
theorem sum_le {α : Type} {f : α → Nat} {b : Nat} : ∀ {xs : List α}, (∀ x ∈ xs, f x ≤ b) → (xs.map f).sum ≤ xs.length * b
  | [], _ => by simp
  | x :: xs, h => by
    rw [List.map_cons, List.sum_cons, List.length_cons, Nat.succ_mul]
    have h1 := h x (by simp)
    have h2 := sum_le (xs := xs) fun y hy => h y (List.mem_cons_of_mem _ hy)
    omega
theorem okS_one {z : Str} {c : Nat} (h : okS z) (hc : c ∈ z.cps.toList) : okS ⟨#[c]⟩ := okS_iff.mpr fun d hd => by
  have : d = c := by simpa using hd
  subst this
  exact okS_iff.mp h d hc
theorem take_get {α : Type} {xs : List α} {i : Nat} {x : α} (h : xs[i]? = some x) : xs.take (i + 1) = xs.take i ++ [x] := by
  rw [List.take_add_one, h]; rfl
theorem cps_len (z : Str) : z.cps.toList.length = z.length := by simp [Str.length]
theorem cps_get {z : Str} {i c : Nat} (h : z.cps[i]? = some c) : z.cps.toList[i]? = some c := by
  rw [← h]; simp
theorem len_s {z : Str} (hz : z.length ≤ 1000) : (D.str z).len = some z.length := by
  show (if z.length ≤ sizeLine then some z.length else none) = some z.length
  rw [if_pos (Nat.le_trans hz (by decide))]
theorem Fit.s {z : Str} (h : okS z) {m : Nat} (l : z.length ≤ m) : Fit (10 * m + 8) 0 (.str z) := Fit.str h l
theorem nil_eq {xs : List D} : PyData.eqv (D.lst xs).py (D.lst []).py = xs.isEmpty := by
  cases xs with
  | nil => rfl
  | cons x xs => rfl
theorem shown_bl (b : Bool) : Fit 100 0 (.str (D.bl b).shown) := by
  cases b
  · exact (Fit.s (m := 5) (by unfold okS; decide +kernel) (by decide)).mono (by decide) (by decide)
  · exact (Fit.s (m := 5) (by unfold okS; decide +kernel) (by decide)).mono (by decide) (by decide)
/-! ### isinstance by types -/
def isInt : D → Bool
  | .int _ => true
  | .bl _ => true
  | _ => false
theorem kit_isInt {x : D} (h : x.plain = true) : kitB x.tyN "int" = some (isInt x) := by
  have h0 : kitB "NoneType" "int" = some false := by decide +kernel
  have h1 : kitB "bool" "int" = some true := by decide +kernel
  have h2 : kitB "int" "int" = some true := by decide +kernel
  have h3 : kitB "str" "int" = some false := by decide +kernel
  have h4 : kitB "list" "int" = some false := by decide +kernel
  have h5 : kitB "tuple" "int" = some false := by decide +kernel
  cases x <;> first | exact h0 | exact h1 | exact h2 | exact h3 | exact h4 | exact h5 | cases h
def isBool : D → Bool
  | .bl _ => true
  | _ => false
theorem kit_isBool {x : D} (h : x.plain = true) : kitB x.tyN "bool" = some (isBool x) := by
  have h0 : kitB "NoneType" "bool" = some false := by decide +kernel
  have h1 : kitB "bool" "bool" = some true := by decide +kernel
  have h2 : kitB "int" "bool" = some false := by decide +kernel
  have h3 : kitB "str" "bool" = some false := by decide +kernel
  have h4 : kitB "list" "bool" = some false := by decide +kernel
  have h5 : kitB "tuple" "bool" = some false := by decide +kernel
  cases x <;> first | exact h0 | exact h1 | exact h2 | exact h3 | exact h4 | exact h5 | cases h
def isStr : D → Bool
  | .str _ => true
  | _ => false
theorem kit_isStr {x : D} (h : x.plain = true) : kitB x.tyN "str" = some (isStr x) := by
  have h0 : kitB "NoneType" "str" = some false := by decide +kernel
  have h1 : kitB "bool" "str" = some false := by decide +kernel
  have h2 : kitB "int" "str" = some false := by decide +kernel
  have h3 : kitB "str" "str" = some true := by decide +kernel
  have h4 : kitB "list" "str" = some false := by decide +kernel
  have h5 : kitB "tuple" "str" = some false := by decide +kernel
  cases x <;> first | exact h0 | exact h1 | exact h2 | exact h3 | exact h4 | exact h5 | cases h
def isTup : D → Bool
  | .tup _ => true
  | _ => false
theorem kit_isTup {x : D} (h : x.plain = true) : kitB x.tyN "tuple" = some (isTup x) := by
  have h0 : kitB "NoneType" "tuple" = some false := by decide +kernel
  have h1 : kitB "bool" "tuple" = some false := by decide +kernel
  have h2 : kitB "int" "tuple" = some false := by decide +kernel
  have h3 : kitB "str" "tuple" = some false := by decide +kernel
  have h4 : kitB "list" "tuple" = some false := by decide +kernel
  have h5 : kitB "tuple" "tuple" = some true := by decide +kernel
  cases x <;> first | exact h0 | exact h1 | exact h2 | exact h3 | exact h4 | exact h5 | cases h
def isLst : D → Bool
  | .lst _ => true
  | _ => false
theorem kit_isLst {x : D} (h : x.plain = true) : kitB x.tyN "list" = some (isLst x) := by
  have h0 : kitB "NoneType" "list" = some false := by decide +kernel
  have h1 : kitB "bool" "list" = some false := by decide +kernel
  have h2 : kitB "int" "list" = some false := by decide +kernel
  have h3 : kitB "str" "list" = some false := by decide +kernel
  have h4 : kitB "list" "list" = some true := by decide +kernel
  have h5 : kitB "tuple" "list" = some false := by decide +kernel
  cases x <;> first | exact h0 | exact h1 | exact h2 | exact h3 | exact h4 | exact h5 | cases h
theorem fit_plain {n k : Nat} {x : D} (h : Fit n k x) : x.plain = true := fine_plain x h.f
theorem call_take {K : PySem.W.Frag} {es : Env'} {i : Nat} {te : TE} {Q : SV → Prop} (e : es[i]? = some (some .bag)) (h : DE K te es fun s => ∃ n : Int, s = .d (.int n) ∧ 0 < n ∧ n.natAbs.log2 < 9000 ∧ ∀ d, 0 ≤ d → d < n → Q (.d (.int d))) :
    DE K (tCall (sp__law_take K) [] E0 (tCons (tVar i) (tCons te tNil))) es Q := by
  refine de_call (da_cons (de_var e (da_cons (DE.mono h ?_))))
  rintro s ⟨n, rfl, h0, h1, q⟩
  refine da_nil ⟨⟨trivial, trivial, trivial⟩, rfl, ⟨n, rfl, h0, h1⟩, ?_⟩
  rintro r ⟨n', d, e', rfl, d0, d1⟩
  injection e' with e1 e2
  injection e2 with e3 e4
  cases e3
  exact q d d0 d1
theorem kw1 {g : {α : Type} → List α → List α} (hg : ∀ {α : Type} (x : α), g [x] = [x]) (hn : ∀ {α : Type}, g ([] : List α) = []) (hm : ∀ {α : Type} (x y : α) (t : List α), g (x :: y :: t) = x :: y :: t) {K : PySem.W.Frag} {vs : List V} {ss : List SV} {N M L : AP} {H0 H : Hp} (h : SvAll K N M L H0 H vs ss) : SvAll K N M L H0 H (g vs) (g ss) := by
  match h with
  | .nil => rw [hn, hn]; exact .nil
  | .cons h .nil => rw [hg, hg]; exact .cons h .nil
  | .cons h (.cons h2 t) => rw [hm, hm]; exact .cons h (.cons h2 t)
/-! the shown text is fit to be compared -/
theorem ne_same {K : PySem.W.Frag} {s1 s2 : SV} {x : D} {n k : Nat} {Q : SV → Prop} (e1 : s1.rd = some x) (e2 : s2.rd = some x) (h : Fit n k x) (hk : k ≤ 40) (q : Q (.d (.bl false))) : RR K (rNeX K) s1 s2 Q :=
  neF e1 e2 h h hk hk (by rw [eqv_self x h.f]; exact q)
theorem eq_same {K : PySem.W.Frag} {s1 s2 : SV} {x : D} {n k : Nat} {Q : SV → Prop} (e1 : s1.rd = some x) (e2 : s2.rd = some x) (h : Fit n k x) (hk : k ≤ 40) (q : Q (.d (.bl true))) : RR K (rEqX K) s1 s2 Q :=
  eqF e1 e2 h h hk hk (by rw [eqv_self x h.f]; exact q)
/-- the law's promise, at the head -/
theorem law_end {K : PySem.W.Frag} {H : Hp} {a : Addr} {ns : List Int} {pre : List SV → Prop} {post : List SV → SV → Prop} (only : Only H) (sq : SqL K H a (ns.map V.int)) (hp : pre [.scr ns]) (hq : ∀ r, post [.scr ns] r → r = .d (.bl true)) :
    spD K 1 pre post [.ref a] H (fun v _ => v = .bl true) E0 := by
  refine ⟨fun _ => False, fun _ => False, [.scr ns], ⟨fun _ h => h, fun _ _ h => h.elim, fun _ h => h.elim, fun _ h => h.elim⟩, .cons ⟨a, rfl, ?_⟩ .nil, rfl, hp, fun r v H' k o q => ?_⟩
  · rcases sq with (h | ⟨o, h⟩) | h
    · rcases only a with z | ⟨o, xs, z⟩
      · rw [h] at z; cases z
      · rw [h] at z; cases z
    · exact .inl ⟨o, h⟩
    · exact .inr (.inr h)
  · rw [hq r q] at o
    cases o
    rfl
end DL

namespace DL
open PySem PySem.Spec PyProof.Rows L2
/-! ### stretches -/
def Cov (ps : List (Int × Int)) (c : Int) : Prop := ∃ p ∈ ps, p.1 ≤ c ∧ c < p.1 + p.2
def Canon (ps : List (Int × Int)) : Prop := (∀ p ∈ ps, 0 < p.2) ∧ ps.Pairwise fun p q => p.1 + p.2 < q.1
theorem cov_cons {p : Int × Int} {ps : List (Int × Int)} {c : Int} : Cov (p :: ps) c ↔ (p.1 ≤ c ∧ c < p.1 + p.2) ∨ Cov ps c := by
  unfold Cov
  simp only [List.mem_cons, exists_eq_or_imp]
theorem cov_nil {c : Int} : ¬ Cov [] c := by
  rintro ⟨p, h, _⟩
  cases h
theorem Canon.tail {p : Int × Int} {ps : List (Int × Int)} (h : Canon (p :: ps)) : Canon ps := ⟨fun q hq => h.1 q (List.mem_cons_of_mem _ hq), (List.pairwise_cons.mp h.2).2⟩
theorem Canon.ge {p : Int × Int} {ps : List (Int × Int)} (h : Canon (p :: ps)) {c : Int} (hc : Cov ps c) : p.1 + p.2 < c := by
  obtain ⟨q, hq, h1, h2⟩ := hc
  have := (List.pairwise_cons.mp h.2).1 q hq
  omega
theorem Canon.head {p q : Int × Int} {ps qs : List (Int × Int)} (h : Canon (p :: ps)) (k : Canon (q :: qs)) (e : ∀ c, Cov (p :: ps) c → Cov (q :: qs) c) : q.1 ≤ p.1 := by
  have hp := h.1 p (by simp)
  have hq := k.1 q (by simp)
  rcases cov_cons.mp (e p.1 (cov_cons.mpr (.inl ⟨Int.le_refl _, by omega⟩))) with z | z
  · exact z.1
  · have := k.ge z
    omega
theorem Canon.last {p q : Int × Int} {ps qs : List (Int × Int)} (h : Canon (p :: ps)) (k : Canon (q :: qs)) (e1 : p.1 = q.1) (e : ∀ c, Cov (q :: qs) c → Cov (p :: ps) c) : q.2 ≤ p.2 := by
  have hp := h.1 p (by simp)
  have hq := k.1 q (by simp)
  refine Int.not_lt.mp fun lt => ?_
  rcases cov_cons.mp (e (p.1 + p.2) (cov_cons.mpr (.inl ⟨by omega, by omega⟩))) with z | z
  · omega
  · have := h.ge z
    omega
theorem canon_uniq : ∀ {ps qs : List (Int × Int)}, Canon ps → Canon qs → (∀ c, Cov ps c ↔ Cov qs c) → ps = qs
  | [], [], _, _, _ => rfl
  | [], q :: qs, _, k, e => by
    have hq := k.1 q (by simp)
    exact absurd ((e q.1).mpr (cov_cons.mpr (.inl ⟨Int.le_refl _, by omega⟩))) cov_nil
  | p :: ps, [], h, _, e => by
    have hp := h.1 p (by simp)
    exact absurd ((e p.1).mp (cov_cons.mpr (.inl ⟨Int.le_refl _, by omega⟩))) cov_nil
  | p :: ps, q :: qs, h, k, e => by
    have a1 := h.head k fun c => (e c).mp
    have a2 := k.head h fun c => (e c).mpr
    have e1 : p.1 = q.1 := by omega
    have b1 := h.last k e1 fun c => (e c).mpr
    have b2 := k.last h e1.symm fun c => (e c).mp
    have e2 : p.2 = q.2 := by omega
    have e0 : p = q := Prod.ext e1 e2
    subst e0
    rw [canon_uniq h.tail k.tail fun c => ⟨fun z => ?_, fun z => ?_⟩]
    · have := h.ge z
      rcases cov_cons.mp ((e c).mp (cov_cons.mpr (.inr z))) with y | y
      · omega
      · exact y
    · have := k.ge z
      rcases cov_cons.mp ((e c).mpr (cov_cons.mpr (.inr z))) with y | y
      · omega
      · exact y
/-! runs: (begin, end), the last one ahead -/
def runStep (rs : List (Int × Int)) (p : Int × Int) : List (Int × Int) :=
  match rs with
  | [] => [(p.1, p.1 + p.2)]
  | (x, y) :: t => if p.1 ≤ y then (x, if p.1 + p.2 > y then p.1 + p.2 else y) :: t else (p.1, p.1 + p.2) :: (x, y) :: t
def CovR (rs : List (Int × Int)) (c : Int) : Prop := ∃ p ∈ rs, p.1 ≤ c ∧ c < p.2
def GoodR (rs : List (Int × Int)) : Prop := (∀ p ∈ rs, p.1 < p.2) ∧ rs.Pairwise fun p q => q.2 < p.1
theorem covr_cons {p : Int × Int} {ps : List (Int × Int)} {c : Int} : CovR (p :: ps) c ↔ (p.1 ≤ c ∧ c < p.2) ∨ CovR ps c := by
  unfold CovR
  simp only [List.mem_cons, exists_eq_or_imp]
theorem runStep_ok {rs : List (Int × Int)} {p : Int × Int} (g : GoodR rs) (hp : 0 < p.2) (hh : ∀ r, rs.head? = some r → r.1 ≤ p.1) :
    GoodR (runStep rs p) ∧ (∀ c, CovR (runStep rs p) c ↔ CovR rs c ∨ (p.1 ≤ c ∧ c < p.1 + p.2)) ∧ ∀ r, (runStep rs p).head? = some r → r.1 ≤ p.1 := by
  cases rs with
  | nil =>
    refine ⟨⟨fun q hq => ?_, List.pairwise_singleton _ _⟩, fun c => ?_, fun r e => ?_⟩
    · obtain rfl : q = _ := List.mem_singleton.mp hq
      show p.1 < p.1 + p.2
      omega
    · show CovR [(p.1, p.1 + p.2)] c ↔ _
      rw [covr_cons]
      constructor
      · rintro (h | h)
        · exact .inr h
        · exact .inl h
      · rintro (h | h)
        · exact .inr h
        · exact .inl h
    · cases e
      exact Int.le_refl _
  | cons r t =>
    obtain ⟨x, y⟩ := r
    have h1 : x ≤ p.1 := hh _ rfl
    have h2 : x < y := g.1 _ (List.mem_cons_self)
    have h3 := List.pairwise_cons.mp g.2
    show GoodR (if p.1 ≤ y then _ else _) ∧ (∀ c, CovR (if p.1 ≤ y then _ else _) c ↔ _) ∧ ∀ r, (if p.1 ≤ y then _ else _ : List (Int × Int)).head? = some r → _
    by_cases hy : p.1 ≤ y
    · rw [if_pos hy]
      refine ⟨⟨fun q hq => ?_, List.pairwise_cons.mpr ⟨h3.1, h3.2⟩⟩, fun c => ?_, fun r e => ?_⟩
      · rcases List.mem_cons.mp hq with rfl | hq
        · show x < if p.1 + p.2 > y then p.1 + p.2 else y
          split <;> omega
        · exact g.1 q (List.mem_cons_of_mem _ hq)
      · rw [covr_cons, covr_cons]
        show (x ≤ c ∧ c < if p.1 + p.2 > y then p.1 + p.2 else y) ∨ _ ↔ ((x ≤ c ∧ c < y) ∨ _) ∨ _
        constructor
        · rintro (⟨a, b⟩ | h)
          · split at b
            · by_cases q : c < y
              · exact .inl (.inl ⟨a, q⟩)
              · exact .inr ⟨by omega, b⟩
            · exact .inl (.inl ⟨a, b⟩)
          · exact .inl (.inr h)
        · rintro ((⟨a, b⟩ | h) | ⟨a, b⟩)
          · refine .inl ⟨a, ?_⟩
            split <;> omega
          · exact .inr h
          · refine .inl ⟨by omega, ?_⟩
            split <;> omega
      · cases e
        exact h1
    · rw [if_neg hy]
      refine ⟨⟨fun q hq => ?_, List.pairwise_cons.mpr ⟨fun q hq => ?_, g.2⟩⟩, fun c => ?_, fun r e => ?_⟩
      · rcases List.mem_cons.mp hq with rfl | hq
        · show p.1 < p.1 + p.2
          omega
        · exact g.1 q hq
      · rcases List.mem_cons.mp hq with rfl | hq
        · show y < p.1
          omega
        · have a := h3.1 q hq
          show q.2 < p.1
          have : q.2 < x := a
          omega
      · rw [covr_cons]
        constructor
        · rintro (h | h)
          · exact .inr h
          · exact .inl h
        · rintro (h | h)
          · exact .inr h
          · exact .inl h
      · cases e
        exact Int.le_refl _
theorem runs_ok : ∀ (qs rs : List (Int × Int)), GoodR rs → (∀ q ∈ qs, 0 < q.2) → (qs.Pairwise fun p q => p.1 ≤ q.1) → (∀ q ∈ qs, ∀ r, rs.head? = some r → r.1 ≤ q.1) →
    GoodR (qs.foldl runStep rs) ∧ ∀ c, CovR (qs.foldl runStep rs) c ↔ CovR rs c ∨ Cov qs c
  | [], rs, g, _, _, _ => ⟨g, fun c => ⟨.inl, fun h => h.elim id fun z => absurd z cov_nil⟩⟩
  | q :: qs, rs, g, hp, hs, hh => by
    obtain ⟨g1, c1, h1⟩ := runStep_ok g (hp q (by simp)) (hh q (by simp))
    have hs' := List.pairwise_cons.mp hs
    obtain ⟨g2, c2⟩ := runs_ok qs (runStep rs q) g1 (fun z hz => hp z (List.mem_cons_of_mem _ hz)) hs'.2 fun z hz r e => Int.le_trans (h1 r e) (hs'.1 z hz)
    refine ⟨g2, fun c => ?_⟩
    show CovR (qs.foldl runStep (runStep rs q)) c ↔ _
    rw [c2, c1, cov_cons, or_assoc]
def runOut (rs : List (Int × Int)) : List (Int × Int) := rs.reverse.map fun p => (p.1, p.2 - p.1)
theorem runOut_ok {rs : List (Int × Int)} (g : GoodR rs) : Canon (runOut rs) ∧ ∀ c, Cov (runOut rs) c ↔ CovR rs c := by
  refine ⟨⟨fun p hp => ?_, ?_⟩, fun c => ⟨?_, ?_⟩⟩
  · obtain ⟨q, hq, rfl⟩ := List.mem_map.mp hp
    have := g.1 q (List.mem_reverse.mp hq)
    show 0 < q.2 - q.1
    omega
  · unfold runOut
    rw [List.pairwise_map, List.pairwise_reverse]
    refine g.2.imp fun {a b} h => ?_
    show b.1 + (b.2 - b.1) < a.1
    omega
  · rintro ⟨p, hp, h1, h2⟩
    obtain ⟨q, hq, rfl⟩ := List.mem_map.mp hp
    refine ⟨q, List.mem_reverse.mp hq, h1, ?_⟩
    have h2' : c < q.1 + (q.2 - q.1) := h2
    omega
  · rintro ⟨q, hq, h1, h2⟩
    refine ⟨_, List.mem_map.mpr ⟨q, List.mem_reverse.mpr hq, rfl⟩, h1, ?_⟩
    show c < q.1 + (q.2 - q.1)
    omega
theorem cov_perm {ps qs : List (Int × Int)} (h : ps.Perm qs) (c : Int) : Cov ps c ↔ Cov qs c := by
  unfold Cov
  constructor
  · rintro ⟨p, hp, z⟩
    exact ⟨p, h.mem_iff.mp hp, z⟩
  · rintro ⟨p, hp, z⟩
    exact ⟨p, h.mem_iff.mpr hp, z⟩
/-- what least tells -/
theorem least_ok {ps qs : List (Int × Int)} (hq : ∀ p ∈ ps, 0 < p.2) (hp : qs.Perm ps) (hs : qs.Pairwise fun p q => p.1 ≤ q.1) : Canon (runOut (qs.foldl runStep [])) ∧ ∀ c, Cov (runOut (qs.foldl runStep [])) c ↔ Cov ps c := by
  obtain ⟨g, c1⟩ := runs_ok qs [] ⟨fun _ h => (by cases h), List.Pairwise.nil⟩ (fun q h => hq q (hp.mem_iff.mp h)) hs fun _ _ _ e => by cases e
  obtain ⟨g2, c2⟩ := runOut_ok g
  refine ⟨g2, fun c => ?_⟩
  rw [c2, c1, cov_perm hp]
  constructor
  · rintro (⟨_, z, _⟩ | h)
    · cases z
    · exact h
  · exact .inr
/-! ### the loop that makes the runs -/
def dPair (p : Int × Int) : D := .tup [.int p.1, .int p.2]
def dPairL (p : Int × Int) : D := .lst [.int p.1, .int p.2]
def keyP (H : Hp) (x : V) : Int × Int :=
  match x with
  | .ref t => (match H t with
    | some (.tup [.int a, .int b]) => (a, b)
    | _ => (0, 0))
  | _ => (0, 0)
theorem keyP_at {H : Hp} {t : Addr} {a b : Int} (h : H t = some (.tup [.int a, .int b])) : keyP H (.ref t) = (a, b) := by
  unfold keyP
  simp only [h]
theorem pair_at {K : PySem.W.Frag} {M : AP} {H : Hp} {v : V} {p : Int × Int} (h : Is K M H v (dPair p)) : ∃ t, v = .ref t ∧ H t = some (.tup [.int p.1, .int p.2]) := by
  cases h with
  | @tup a vs _ h1 h2 =>
    have e : vs = [.int p.1, .int p.2] := IsAll.ofInts (ns := [p.1, p.2]) h2
    subst e
    exact ⟨a, rfl, h1⟩
  | tupK _ _ h => cases h
theorem pairs_at {K : PySem.W.Frag} {M : AP} {H : Hp} : ∀ {ps : List (Int × Int)} {vs : List V}, IsAll K M H vs (ps.map dPair) → (∀ x ∈ vs, ∃ t, x = .ref t ∧ H t = some (.tup [.int (keyP H x).1, .int (keyP H x).2])) ∧ vs.map (keyP H) = ps
  | [], _, h => by
    cases h
    exact ⟨fun _ h => (by cases h), rfl⟩
  | p :: ps, _, h => by
    cases h with
    | cons h1 h2 =>
      obtain ⟨t, rfl, ht⟩ := pair_at h1
      obtain ⟨a, b⟩ := pairs_at h2
      refine ⟨fun x hx => ?_, ?_⟩
      · rcases List.mem_cons.mp hx with rfl | hx
        · exact ⟨t, rfl, by rw [keyP_at ht]; exact ht⟩
        · exact a x hx
      · rw [List.map_cons, b, keyP_at ht]
def RowsAt (H : Hp) : List Addr → List (Int × Int) → Prop
  | [], [] => True
  | b :: bs, p :: ps => H b = some (.lst [.int p.1, .int p.2]) ∧ RowsAt H bs ps
  | _, _ => False
theorem RowsAt.len {H : Hp} : ∀ {bs : List Addr} {ps : List (Int × Int)}, RowsAt H bs ps → bs.length = ps.length
  | [], [], _ => rfl
  | _ :: _, _ :: _, h => congrArg (· + 1) (RowsAt.len h.2)
  | [], _ :: _, h => h.elim
  | _ :: _, [], h => h.elim
theorem RowsAt.chg {H H' : Hp} : ∀ {bs : List Addr} {ps : List (Int × Int)}, (∀ b ∈ bs, H' b = H b) → RowsAt H bs ps → RowsAt H' bs ps
  | [], [], _, _ => trivial
  | b :: bs, p :: ps, k, h => ⟨(k b (by simp)).trans h.1, RowsAt.chg (fun z hz => k z (List.mem_cons_of_mem _ hz)) h.2⟩
  | [], _ :: _, _, h => h.elim
  | _ :: _, [], _, h => h.elim
theorem RowsAt.all {K : PySem.W.Frag} {M : AP} {H : Hp} : ∀ {bs : List Addr} {ps : List (Int × Int)}, (∀ b ∈ bs, ¬ M b) → RowsAt H bs ps → IsAll K M H (bs.reverse.map V.ref) (ps.reverse.map dPairL)
  | [], [], _, _ => .nil
  | b :: bs, p :: ps, k, h => by
    rw [List.reverse_cons, List.reverse_cons, List.map_append, List.map_append]
    exact (RowsAt.all (fun z hz => k z (List.mem_cons_of_mem _ hz)) h.2).append (.cons (.lst h.1 (k b (by simp)) (.cons (.int _) (.cons (.int _) .nil))) .nil)
  | [], _ :: _, _, h => h.elim
  | _ :: _, [], _, h => h.elim
theorem runStep_len (rs : List (Int × Int)) (p : Int × Int) : (runStep rs p).length ≤ rs.length + 1 := by
  cases rs with
  | nil => exact Nat.le_refl _
  | cons r t =>
    show (if p.1 ≤ r.2 then _ else _ : List (Int × Int)).length ≤ _
    split
    · simp
    · simp
theorem runs_len : ∀ (qs rs : List (Int × Int)), (qs.foldl runStep rs).length ≤ rs.length + qs.length
  | [], rs => Nat.le_refl _
  | q :: qs, rs => by
    have a := runs_len qs (runStep rs q)
    have b := runStep_len rs q
    show (qs.foldl runStep (runStep rs q)).length ≤ rs.length + (qs.length + 1)
    omega
structure RunI (H : Hp) (σ0 : L2.St) (r s : Addr) (ys : List V) (rows : List (Int × Int)) (σ : L2.St) (H' : Hp) : Prop where
  up : ∀ a o, a ≠ r → H a = some o → H' a = some o
  sl : Same' [2, 3] σ0 σ
  hs : H' s = some (.lst ys)
  ne : s ≠ r
  rw : ∃ bs : List Addr, H' r = some (.lst (bs.reverse.map V.ref)) ∧ RowsAt H' bs rows ∧ (∀ b ∈ bs, H b = none ∧ b ≠ r ∧ b ≠ s) ∧ bs.Nodup
theorem atI_last {α : Type} {xs : List α} {v : α} : atI (xs ++ [v]) (-1) = some v := by
  unfold atI ixN
  rw [if_neg (by decide), if_pos (by rw [List.length_append, List.length_singleton]; omega)]
  show (xs ++ [v])[((-1 : Int) + ((xs ++ [v]).length : Int)).toNat]? = some v
  have e : ((-1 : Int) + ((xs ++ [v]).length : Int)).toNat = xs.length := by
    rw [List.length_append, List.length_singleton]; omega
  rw [e, List.getElem?_append_right (Nat.le_refl _), Nat.sub_self]
  rfl
theorem Stf.loose {K : PySem.W.Frag} {F : Fr} {P : List Pin} {M L : AP} {σ σ' : L2.St} {H : Hp} {es es' : Env'} (S : Stf K F P M L σ H es) (hl : σ'.length = es'.length) (h : ∀ (i : Nat) (s : SV), es'[i]? = some (some s) → es[i]? = some (some s) ∧ σ'[i]? = σ[i]?) : Stf K F P M L σ' H es' := by
  refine ⟨⟨S.st.bs, hl, fun i s e => ?_, S.st.pin, fun i j a xs ys hne e1 e2 e3 => ?_⟩, S.bs0, S.kp, S.m0, S.lo, S.ln⟩
  · obtain ⟨e', q⟩ := h i s e
    rw [q]
    exact S.st.ok i s e'
  · obtain ⟨e1', q1⟩ := h i _ e1
    obtain ⟨e2', q2⟩ := h j _ e2
    rw [q1] at e3
    rw [q2]
    exact S.st.sep i j a xs ys hne e1' e2' e3
def Val (te : TE) (σ : L2.St) (H : Hp) (v : V) : Prop := ∀ Q : VK, Q v H → te σ H Q
section
variable {K : PySem.W.Frag} {B : DEnds}
abbrev tLast (K : PySem.W.Frag) : TE := tOp (rIx K) (tVar 1) (tUn rNeg (tC (.int 1)))
abbrev tLastE (K : PySem.W.Frag) : TE := tOp (rIx K) (tLast K) (tC (.int 1))
theorem val_last {σ : L2.St} {H : Hp} {r b : Addr} {bt : List Addr} (h1 : σ[1]? = some (some (.ref r))) (hr : H r = some (.lst ((b :: bt).reverse.map V.ref))) : Val (tLast K) σ H (.ref b) := fun Q q => by
  refine ⟨.ref r, h1, 1, rfl, .inl ⟨r, _, -1, .ref b, rfl, rfl, .inl (.inl hr), ?_, q⟩⟩
  rw [List.reverse_cons, List.map_append]
  exact atI_last
theorem val_lastE {σ : L2.St} {H : Hp} {r b : Addr} {bt : List Addr} {x y : Int} (h1 : σ[1]? = some (some (.ref r))) (hr : H r = some (.lst ((b :: bt).reverse.map V.ref))) (hb : H b = some (.lst [.int x, .int y])) : Val (tLastE K) σ H (.int y) := fun Q q =>
  val_last h1 hr _ (.inl ⟨b, _, 1, .int y, rfl, rfl, .inl (.inl hb), rfl, q⟩)
abbrev tRuns (K : PySem.W.Frag) : TS := (tFor (iList K (tCB (rSortedPO K) (tCons (tVar 0) tNil))) (gTup K 2 (gCons (gName 2) (gCons (gName 3) gNil))) (tIfS (tAnd (tTruX K (tVar 1)) (tTest (tOp (rLe K) (tVar 2) (tOp (rIx K) (tOp (rIx K) (tVar 1) (tUn rNeg (tC (.int 1)))) (tC (.int 1)))))) (tAsg (tCB rMaxX (tCons (tOp (rIx K) (tOp (rIx K) (tVar 1) (tUn rNeg (tC (.int 1)))) (tC (.int 1))) (tCons (tOp (rPlus K) (tVar 2) (tVar 3)) tNil))) (gSub (tOp (rIx K) (tVar 1) (tUn rNeg (tC (.int 1)))) (tC (.int 1)) rSetL)) (tDrop (tBM K "list" rAppend (tVar 1) (tCons (tLst (tCons (tVar 2) (tCons (tOp (rPlus K) (tVar 2) (tVar 3)) tNil))) tNil)))))
/-- the body's one turn -/
theorem runs_turn {H : Hp} {σ0 σ' : L2.St} {r s : Addr} {ys : List V} {rows : List (Int × Int)} {H' : Hp} {f m : Int} {D : Ends} (hl0 : 3 < σ0.length) (h01 : σ0[1]? = some (some (.ref r))) (hrH : H r = some (.lst [])) (hz : rows.length < 1000) (p : RunI H σ0 r s ys rows σ' H')
    (hN : ∀ σ2 H2, RunI H σ0 r s ys (runStep rows (f, m)) σ2 H2 → D.nx σ2 H2) :
    (tIfS (tAnd (tTruX K (tVar 1)) (tTest (tOp (rLe K) (tVar 2) (tLastE K)))) (tAsg (tCB rMaxX (tCons (tLastE K) (tCons (tOp (rPlus K) (tVar 2) (tVar 3)) tNil))) (gSub (tLast K) (tC (.int 1)) rSetL)) (tDrop (tBM K "list" rAppend (tVar 1) (tCons (tLst (tCons (tVar 2) (tCons (tOp (rPlus K) (tVar 2) (tVar 3)) tNil))) tNil)))) D ((σ'.set 2 (some (.int f))).set 3 (some (.int m))) H' := by
  obtain ⟨bs, hr, hrow, hbs, nd⟩ := p.rw
  have hl : σ'.length = σ0.length := p.sl.1
  generalize hσ : (σ'.set 2 (some (.int f))).set 3 (some (.int m)) = σ2
  have g1 : σ2[1]? = some (some (.ref r)) := by
    rw [← hσ, List.getElem?_set_ne (by decide), List.getElem?_set_ne (by decide), p.sl.2 1 (by decide)]
    exact h01
  have g2 : σ2[2]? = some (some (.int f)) := by
    rw [← hσ, List.getElem?_set_ne (by decide), List.getElem?_set_self (by omega)]
  have g3 : σ2[3]? = some (some (.int m)) := by
    rw [← hσ, List.getElem?_set_self (by rw [List.length_set]; omega)]
  have sl2 : Same' [2, 3] σ0 σ2 := by
    rw [← hσ]
    refine ⟨by rw [List.length_set, List.length_set]; exact hl, fun k hk => ?_⟩
    have k2 : 2 ≠ k := fun e => hk (by rw [← e]; decide)
    have k3 : 3 ≠ k := fun e => hk (by rw [← e]; decide)
    rw [List.getElem?_set_ne k3, List.getElem?_set_ne k2, p.sl.2 k hk]
  have plus : ∀ (H : Hp) (Q : VK), Q (.int (f + m)) H → tOp (rPlus K) (tVar 2) (tVar 3) σ2 H Q := fun H Q q => ⟨_, g2, _, g3, .inl ⟨f, m, rfl, rfl, q⟩⟩
  -- a new run
  have new : runStep rows (f, m) = (f, f + m) :: rows → tDrop (tBM K "list" rAppend (tVar 1) (tCons (tLst (tCons (tVar 2) (tCons (tOp (rPlus K) (tVar 2) (tVar 3)) tNil))) tNil)) D σ2 H' := by
    intro er
    refine ⟨.ref r, g1, tyL hr, ⟨.int f, g2, plus H' _ ⟨(by show 2 ≤ sizeLine; decide), fun q hq => ?_⟩⟩⟩
    have qr : q ≠ r := fun e => by rw [e, hr] at hq; cases hq
    have qs : q ≠ s := fun e => by rw [e, p.hs] at hq; cases hq
    have hqH : H q = none := by
      cases e : H q with
      | none => rfl
      | some o =>
        have := p.up q o qr e
        rw [hq] at this
        cases this
    have qb : q ∉ bs := fun hb => by
      have : ∀ {bs : List Addr} {ps : List (Int × Int)}, RowsAt H' bs ps → ∀ b ∈ bs, H' b ≠ none := fun {bs} => by
        induction bs with
        | nil => intro ps _ b hb; cases hb
        | cons b0 bs ih =>
          intro ps h b hb
          cases ps with
          | nil => exact h.elim
          | cons p0 ps =>
            rcases List.mem_cons.mp hb with rfl | hb
            · rw [h.1]; exact fun e => by cases e
            · exact ih h.2 b hb
      exact this hrow q hb hq
    refine ⟨r, _, .ref q, rfl, rfl, (upd_ne (Ne.symm qr)).trans hr, ?_, ?_⟩
    · rw [List.length_map, List.length_reverse, hrow.len]
      exact Nat.lt_trans hz (by decide)
    · refine hN _ _ ⟨fun a o n e => ?_, sl2, ?_, p.ne, q :: bs, ?_, ?_, ?_, List.nodup_cons.mpr ⟨qb, nd⟩⟩
      · rw [upd_ne n, upd_ne (fun z => by rw [z, hqH] at e; cases e)]
        exact p.up a o n e
      · have sr := p.ne
        rw [upd_ne sr, upd_ne (Ne.symm qs)]
        exact p.hs
      · rw [upd_same, List.reverse_cons, List.map_append]
        rfl
      · rw [er]
        refine ⟨by rw [upd_ne qr, upd_same], hrow.chg fun b hb => ?_⟩
        rw [upd_ne (hbs b hb).2.1, upd_ne (fun z => qb (by rw [← z]; exact hb))]
      · intro b hb
        rcases List.mem_cons.mp hb with rfl | hb
        · exact ⟨hqH, qr, qs⟩
        · exact hbs b hb
  cases bs with
  | nil =>
    cases rows with
    | cons _ _ => exact hrow.elim
    | nil =>
      refine ⟨.ref r, g1, false, .inl ⟨_, .inl (.inl hr), rfl⟩, ?_⟩
      dsimp only
      rw [if_neg Bool.false_ne_true, if_neg Bool.false_ne_true]
      exact new rfl
  | cons b bt =>
    cases rows with
    | nil => exact hrow.elim
    | cons z tl =>
      obtain ⟨x, y⟩ := z
      obtain ⟨hb, hbt⟩ := hrow
      have hb : H' b = some (.lst [.int x, .int y]) := hb
      refine ⟨.ref r, g1, true, .inl ⟨_, .inl (.inl hr), by simp⟩, ?_⟩
      dsimp only
      rw [if_pos rfl]
      refine ⟨.int f, g2, val_lastE g1 hr hb _ (.inl ⟨f, y, rfl, rfl, _, rfl, ?_⟩)⟩
      by_cases hy : f ≤ y
      · rw [decide_eq_true hy]
        dsimp only
        rw [if_pos rfl]
        have er : runStep ((x, y) :: tl) (f, m) = (x, if f + m > y then f + m else y) :: tl := if_pos hy
        refine val_lastE g1 hr hb _ (plus H' _ ⟨y, f + m, rfl, ?_⟩)
        refine val_last g1 hr _ ⟨b, _, 1, 1, rfl, rfl, hb, rfl, ?_⟩
        have nb := List.nodup_cons.mp nd
        have b1 := hbs b (by simp)
        refine hN _ _ ⟨fun a o n e => ?_, sl2, ?_, p.ne, b :: bt, ?_, ?_, hbs, nd⟩
        · rw [upd_ne (fun z => by rw [z, b1.1] at e; cases e)]
          exact p.up a o n e
        · rw [upd_ne (Ne.symm b1.2.2)]
          exact p.hs
        · rw [upd_ne (Ne.symm b1.2.1)]
          exact hr
        · rw [er]
          refine ⟨upd_same, hbt.chg fun c hc => ?_⟩
          rw [upd_ne (fun z => nb.1 (by rw [← z]; exact hc))]
      · rw [decide_eq_false hy]
        dsimp only
        rw [if_neg Bool.false_ne_true]
        exact new (if_neg hy)
theorem ds_runs {ps : List (Int × Int)} (hn : ps.length < 1000)
    (h : ∀ qs : List (Int × Int), qs.Perm ps → (qs.Pairwise fun p q => p.1 ≤ q.1) → B.nx [some (.d (.lst (ps.map dPair))), some (.d (.lst ((qs.foldl runStep []).reverse.map dPairL))), none, none, none]) :
    DS K (tRuns K) [some (.d (.lst (ps.map dPair))), some (.own []), none, none, none] B := fun F P M L σ H S E o => by
  obtain ⟨v0, hv0, ok0⟩ := S.st.ok 0 _ rfl
  have ok0 : Is K M H v0 (.lst (ps.map dPair)) := ok0
  cases ok0 with
  | @lst a0 vs0 _ h0 m0 hall =>
    obtain ⟨v1, hv1, r, us, rfl, mr, nr, lr, hr, hr2⟩ := S.st.ok 1 _ rfl
    cases hr2
    have hl0 : σ.length = 5 := S.st.len
    obtain ⟨hx, hk⟩ := pairs_at hall
    refine ⟨.ref a0, hv0, a0, vs0, keyP H, rfl, .inl (.inl h0), hx, fun ys s srt stb hs => ?_⟩
    have sr : s ≠ r := fun e => by rw [e, hr] at hs; cases hs
    have perm : (ys.map (keyP H)).Perm ps := by
      have := stb.perm.map (keyP H)
      rw [hk] at this
      exact this
    have srt' : (ys.map (keyP H)).Pairwise fun p q => p.1 ≤ q.1 := by
      rw [List.pairwise_map]
      refine List.Pairwise.imp ?_ srt
      intro a b q
      have := SrtO.lexB_no.mp q
      omega
    have ylen : ys.length < 1000 := by
      have := perm.length_eq
      rw [List.length_map] at this
      omega
    refine ⟨s, rfl, ⟨ys, .inl (.inl upd_same)⟩, for_list (K := K) (a := s) (xs := ys) (fun i σ' H' => RunI H σ r s ys (((ys.map (keyP H)).take i).foldl runStep []) σ' H') ?_ (fun i σ' H' hi p => .inl (.inl p.hs)) ?_ ?_⟩
    · refine ⟨fun a o n e => ?_, ⟨rfl, fun _ _ => rfl⟩, upd_same, sr, [], ?_, trivial, fun b hb => (by cases hb), List.Pairwise.nil⟩
      · rw [upd_ne (fun z => by rw [z, hs] at e; cases e)]
        exact e
      · rw [upd_ne (Ne.symm sr)]
        exact hr
    · intro i x σ' H' hxi p
      have hm : x ∈ vs0 := stb.perm.mem_iff.mp (List.mem_of_getElem? hxi)
      obtain ⟨t, rfl, ht⟩ := hx x hm
      have tr : t ≠ r := fun e => by rw [e, hr] at ht; cases ht
      have ht' := p.up t _ tr ht
      have hi := (List.getElem?_eq_some_iff.mp hxi).1
      refine ⟨t, _, rfl, .inl (.inl ht'), rfl, _, _, rfl, _, _, rfl, rfl, ?_⟩
      refine runs_turn (rows := ((ys.map (keyP H)).take i).foldl runStep []) (by omega) hv1 hr ?_ p fun σ2 H2 q => ?_
      · have := runs_len ((ys.map (keyP H)).take i) []
        rw [List.length_take] at this
        have e0 : ([] : List (Int × Int)).length = 0 := rfl
        omega
      · show RunI H σ r s ys _ σ2 H2
        have e : (ys.map (keyP H)).take (i + 1) = (ys.map (keyP H)).take i ++ [keyP H (.ref t)] := take_get (by rw [List.getElem?_map, hxi]; rfl)
        rw [e, List.foldl_append]
        exact q
    · intro σ' H' p
      have p : RunI H σ r s ys (((ys.map (keyP H)).take ys.length).foldl runStep []) σ' H' := p
      rw [List.take_of_length_le (by rw [List.length_map]; exact Nat.le_refl _)] at p
      obtain ⟨bs, hr', hrow, hbs, nd⟩ := p.rw
      have kx : Kp L H (upd H' r (.lst [])) := by
        refine ⟨fun a o nl e => ?_, fun a la => ?_⟩
        · by_cases ar : a = r
          · rw [ar, hr] at e
            cases e
            rw [ar, upd_same]
          · rw [upd_ne ar]
            exact p.up a o ar e
        · obtain ⟨g, m', z⟩ := S.st.bs.bag a la
          have ar : a ≠ r := fun e => lr (by rw [← e]; exact la)
          exact ⟨g, m', by rw [upd_ne ar]; exact p.up a _ ar z⟩
      have S1 := S.kp' kx
      have hw : IsAll K M (upd H' r (.lst [])) (bs.reverse.map V.ref) (((ys.map (keyP H)).foldl runStep []).reverse.map dPairL) := by
        refine RowsAt.all (fun b hb mb => ?_) (hrow.chg fun b hb => upd_ne (hbs b hb).2.1)
        obtain ⟨o', ho⟩ := S.st.bs.tk b mb
        rw [(hbs b hb).1] at ho
        cases ho
      have S2 := S1.upd (i := 1) (a := r) rfl hv1 hw
      rw [upd_upd] at S2
      have eH : upd H' r (.lst (bs.reverse.map V.ref)) = H' := by
        funext c
        by_cases cr : c = r
        · rw [cr, upd_same, hr']
        · rw [upd_ne cr]
      rw [eH] at S2
      obtain ⟨M', S3⟩ := S2.freeze (i := 1) rfl
      refine o.nx _ M' L σ' H' (S3.loose (by rw [p.sl.1]; exact hl0) fun i z e => ?_) (h _ perm srt')
      match i, e with
      | 0, e => exact ⟨e, p.sl.2 0 (by decide)⟩
      | 1, e => exact ⟨e, p.sl.2 1 (by decide)⟩
      | 2, e => cases e
      | 3, e => cases e
      | 4, e => cases e
/-- for a, b in xs, the items lists -/
theorem dg_unl {es : Env'} {n : Nat} {gs : TGs} {xs : List D} {js : List Nat} {Q : Env' → Prop} (l : xs.length = n) (h : DGs K gs xs js es Q) : DG K (gUnl K n gs) (.lst xs) js es Q := fun P N M L σ H v S o R k => by
  cases o with
  | lst h1 _ h2 => exact ⟨_, _, rfl, .inl (.inl h1), h2.len.trans l, h P N M L σ H _ S h2 R k⟩
end
end DL

namespace DL
open PySem PySem.Spec PyProof.Rows L2
section
variable {K : PySem.W.Frag} {es : Env'} {te : TE} {tt : TT} {t : TS} {B : DEnds}
/-- while: I m es, m falls -/
theorem ds_while (I : Nat → Env' → Prop) (m0 : Nat) (h0 : I m0 es) (hs : ∀ m es', I m es' → DT K tt es' fun b => if b = true then DS K t es' ⟨fun e => ∃ m', m' < m ∧ I m' e, B.rt, B.nx, fun e => ∃ m', m' < m ∧ I m' e, B.xo⟩ else B.nx es') : DS K (tWhile tt t) es B := fun F P M L σ H S E o => by
  refine ⟨fun m σ H => ∃ es' M' L', Stf K F P M' L' σ H es' ∧ I m es', ⟨m0, es, M, L, S, h0⟩, ?_⟩
  rintro m σ' H' ⟨es', M', L', S', hI⟩
  refine hs m es' hI P _ M' L' σ' H' S'.st _ fun b H1 k1 q => ?_
  cases b with
  | false =>
    rw [if_neg Bool.false_ne_true] at q ⊢
    exact o.nx _ _ _ _ _ (S'.kp' k1) q
  | true =>
    rw [if_pos rfl] at q ⊢
    refine ⟨fun σ2 H2 => ∃ m', m' < m ∧ ∃ es2 M2 L2, Stf K F P M2 L2 σ2 H2 es2 ∧ I m' es2, fun σ2 H2 h => h, ?_⟩
    refine q F P M' L' σ' H1 (S'.kp' k1) _ ⟨?_, o.rt, o.nx, ?_, o.xo⟩
    · rintro e M2 L2 σ2 H2 S2 ⟨m', lt, h⟩
      exact ⟨m', lt, e, M2, L2, S2, h⟩
    · rintro e M2 L2 σ2 H2 S2 ⟨m', lt, h⟩
      exact ⟨m', lt, e, M2, L2, S2, h⟩
/-- t, then u from one state -/
theorem ds_cut {u : TS} {e0 : Env'} (h1 : DS K t es { B with nx := fun e => e = e0 }) (h2 : DS K u e0 B) : DS K (tSeq t u) es B := fun F P M L σ H S E o =>
  h1 F P M L σ H S { E with nx := u E } ⟨fun e M L σ H S q => by subst q; exact h2 F P M L σ H S E o, o.rt, o.bk, o.ct, o.xo⟩
/-- x += e, ints -/
theorem ds_aug {i : Nat} {a : Int} (e : es[i]? = some (some (.d (.int a)))) (h : DE K te es fun s => ∃ b : Int, s = .d (.int b) ∧ B.nx (es.set i (some (.d (.int (a + b)))))) : DS K (tAug i te (ipI fun i j => i + j)) es B := fun F P M L σ H S E o => by
  obtain ⟨v, hv, ok⟩ := S.st.ok i _ e
  cases ok
  refine ⟨.int a, hv, h P _ M L σ H S.st _ fun s w H1 k1 ok1 q => ?_⟩
  obtain ⟨b, rfl, q⟩ := q
  cases ok1
  exact ⟨a, b, rfl, rfl, o.nx _ _ _ _ _ ((S.kp' k1).setp (s := .d (.int (a + b))) (Is.int _) trivial) q⟩
end
/-! ### cells of both -/
structure BI (L R A C S : List (Int × Int)) : Prop where
  can : Canon S
  cov : ∀ c, Cov S c ↔ Cov L c ∧ Cov R c ∧ (Cov A c ∨ Cov C c)
  last : ∀ p ∈ S, (∃ q ∈ A, p.1 + p.2 ≤ q.1 + q.2) ∨ ∃ q ∈ C, p.1 + p.2 ≤ q.1 + q.2
  len : S.length ≤ A.length + C.length
theorem BI.swap {L R A C S : List (Int × Int)} (h : BI L R A C S) : BI R L C A S := by
  refine ⟨h.can, fun c => (h.cov c).trans ?_, fun p hp => (h.last p hp).symm, by have := h.len; omega⟩
  constructor
  · rintro ⟨a, b, z⟩
    exact ⟨b, a, z.symm⟩
  · rintro ⟨a, b, z⟩
    exact ⟨b, a, z.symm⟩
theorem cov_app {ps qs : List (Int × Int)} {c : Int} : Cov (ps ++ qs) c ↔ Cov ps c ∨ Cov qs c := by
  unfold Cov
  constructor
  · rintro ⟨p, hp, z⟩
    exact (List.mem_append.mp hp).elim (fun h => .inl ⟨p, h, z⟩) fun h => .inr ⟨p, h, z⟩
  · rintro (⟨p, hp, z⟩ | ⟨p, hp, z⟩)
    · exact ⟨p, List.mem_append_left _ hp, z⟩
    · exact ⟨p, List.mem_append_right _ hp, z⟩
def addS (S : List (Int × Int)) (f e : Int) : List (Int × Int) := if f < e then S ++ [(f, e - f)] else S
def mx (x y : Int) : Int := if y > x then y else x
theorem BI.step {L R A A' C C' S : List (Int × Int)} {l r : Int × Int} (eL : L = A ++ l :: A') (eR : R = C ++ r :: C') (hL : Canon L) (hR : Canon R) (h : BI L R A C S) (hle : l.1 + l.2 ≤ r.1 + r.2) (f : Int) (hf : f = mx l.1 r.1) :
    BI L R (A ++ [l]) C (addS S f (l.1 + l.2)) := by
  have f1 : l.1 ≤ f := by rw [hf]; unfold mx; split <;> omega
  have f2 : r.1 ≤ f := by rw [hf]; unfold mx; split <;> omega
  have f3 : f = l.1 ∨ f = r.1 := by
    rw [hf]; unfold mx; split
    · exact .inr rfl
    · exact .inl rfl
  have pL : (∀ q ∈ A, q.1 + q.2 < l.1) ∧ ∀ q ∈ A', l.1 + l.2 < q.1 := by
    have := hL.2
    rw [eL] at this
    have q := List.pairwise_append.mp this
    exact ⟨fun z hz => q.2.2 z hz l (by simp), (List.pairwise_cons.mp q.2.1).1⟩
  have pR : (∀ q ∈ C, q.1 + q.2 < r.1) ∧ ∀ q ∈ C', r.1 + r.2 < q.1 := by
    have := hR.2
    rw [eR] at this
    have q := List.pairwise_append.mp this
    exact ⟨fun z hz => q.2.2 z hz r (by simp), (List.pairwise_cons.mp q.2.1).1⟩
  have cadd : ∀ c, Cov (addS S f (l.1 + l.2)) c ↔ Cov S c ∨ (f ≤ c ∧ c < l.1 + l.2) := by
    intro c
    unfold addS
    by_cases lt : f < l.1 + l.2
    · rw [if_pos lt, cov_app, cov_cons]
      constructor
      · rintro (z | z | z)
        · exact .inl z
        · have z : f ≤ c ∧ c < f + (l.1 + l.2 - f) := z
          exact .inr ⟨z.1, by omega⟩
        · exact absurd z cov_nil
      · rintro (z | z)
        · exact .inl z
        · exact .inr (.inl ⟨z.1, by show c < f + (l.1 + l.2 - f); omega⟩)
    · rw [if_neg lt]
      constructor
      · exact .inl
      · rintro (z | z)
        · exact z
        · omega
  refine ⟨?_, fun c => ?_, fun p hp => ?_, ?_⟩
  · unfold addS
    by_cases lt : f < l.1 + l.2
    · rw [if_pos lt]
      refine ⟨fun p hp => ?_, List.pairwise_append.mpr ⟨h.can.2, List.pairwise_singleton _ _, fun p hp q hq => ?_⟩⟩
      · rcases List.mem_append.mp hp with hp | hp
        · exact h.can.1 p hp
        · obtain rfl := List.mem_singleton.mp hp
          show 0 < l.1 + l.2 - f
          omega
      · obtain rfl := List.mem_singleton.mp hq
        show p.1 + p.2 < f
        rcases h.last p hp with ⟨q, hq, z⟩ | ⟨q, hq, z⟩
        · have := pL.1 q hq
          omega
        · have := pR.1 q hq
          omega
    · rw [if_neg lt]
      exact h.can
  · rw [cadd, h.cov, cov_app, cov_cons]
    constructor
    · rintro (⟨a, b, z⟩ | z)
      · exact ⟨a, b, z.elim (fun z => .inl (.inl z)) .inr⟩
      · refine ⟨?_, ?_, .inl (.inr (.inl ⟨by omega, z.2⟩))⟩
        · rw [eL, cov_app, cov_cons]
          exact .inr (.inl ⟨by omega, z.2⟩)
        · rw [eR, cov_app, cov_cons]
          exact .inr (.inl ⟨by omega, by omega⟩)
    · rintro ⟨a, b, (z | z | z) | z⟩
      · exact .inl ⟨a, b, .inl z⟩
      · have b' := b
        rw [eR, cov_app, cov_cons] at b'
        rcases b' with y | y | y
        · exact .inl ⟨a, b, .inr y⟩
        · refine .inr ⟨?_, z.2⟩
          rcases f3 with e | e
          · rw [e]; exact z.1
          · rw [e]; exact y.1
        · obtain ⟨q, hq, y1, _⟩ := y
          have := pR.2 q hq
          omega
      · exact absurd z cov_nil
      · exact .inl ⟨a, b, .inr z⟩
  · have old : p ∈ S → (∃ q ∈ A ++ [l], p.1 + p.2 ≤ q.1 + q.2) ∨ ∃ q ∈ C, p.1 + p.2 ≤ q.1 + q.2 := fun hp => by
      rcases h.last p hp with ⟨q, hq, z⟩ | z
      · exact .inl ⟨q, List.mem_append_left _ hq, z⟩
      · exact .inr z
    unfold addS at hp
    by_cases lt : f < l.1 + l.2
    · rw [if_pos lt] at hp
      rcases List.mem_append.mp hp with hp | hp
      · exact old hp
      · obtain rfl := List.mem_singleton.mp hp
        refine .inl ⟨l, List.mem_append_right _ (List.mem_singleton.mpr rfl), ?_⟩
        show f + (l.1 + l.2 - f) ≤ l.1 + l.2
        omega
    · rw [if_neg lt] at hp
      exact old hp
  · have := h.len
    rw [List.length_append, List.length_singleton]
    unfold addS
    split
    · rw [List.length_append, List.length_singleton]
      omega
    · omega
theorem split_at {α : Type} {xs : List α} {i : Nat} {x : α} (h : xs[i]? = some x) : xs = xs.take i ++ x :: xs.drop (i + 1) := by
  have hi := (List.getElem?_eq_some_iff.mp h).1
  have e : xs.drop i = x :: xs.drop (i + 1) := by
    rw [List.drop_eq_getElem_cons hi]
    congr 1
    exact (List.getElem?_eq_some_iff.mp h).2
  rw [← e, List.take_append_drop]
theorem BI.zero (L R : List (Int × Int)) : BI L R [] [] [] := by
  refine ⟨⟨fun p hp => (by cases hp), List.Pairwise.nil⟩, fun c => ⟨fun h => absurd h cov_nil, ?_⟩, fun p hp => (by cases hp), Nat.le_refl _⟩
  rintro ⟨_, _, h | h⟩
  · exact absurd h cov_nil
  · exact absurd h cov_nil
theorem BI.fin {L R A C S : List (Int × Int)} (h : BI L R A C S) (e : A = L ∨ C = R) (c : Int) : Cov S c ↔ Cov L c ∧ Cov R c := by
  rw [h.cov]
  constructor
  · rintro ⟨a, b, _⟩
    exact ⟨a, b⟩
  · rintro ⟨a, b⟩
    refine ⟨a, b, ?_⟩
    rcases e with rfl | rfl
    · exact .inl a
    · exact .inr b
theorem atI_at {α : Type} {xs : List α} {i : Nat} {x : α} (h : xs[i]? = some x) : atI xs (i : Int) = some x := by
  have hi := (List.getElem?_eq_some_iff.mp h).1
  unfold atI ixN
  rw [if_pos (Int.natCast_nonneg i), if_pos (by omega)]
  show xs[(i : Int).toNat]? = some x
  rw [Int.toNat_natCast]
  exact h
/-- what lies between -/
structure GI (rs T G : List (Int × Int)) (b : Int) : Prop where
  pos : ∀ p ∈ G, 0 < p.2
  len : G.length ≤ T.length
  out : ∀ c, Cov G c → ¬ Cov rs c
  all : ∀ c, 0 ≤ c → c < b → ¬ Cov rs c → Cov G c
  hi : ∀ q ∈ T, q.1 + q.2 ≤ b
theorem cov_addS {S : List (Int × Int)} {f e c : Int} : Cov (addS S f e) c ↔ Cov S c ∨ (f ≤ c ∧ c < e) := by
  unfold addS
  by_cases lt : f < e
  · rw [if_pos lt, cov_app, cov_cons]
    constructor
    · rintro (z | z | z)
      · exact .inl z
      · have z : f ≤ c ∧ c < f + (e - f) := z
        exact .inr ⟨z.1, by omega⟩
      · exact absurd z cov_nil
    · rintro (z | z)
      · exact .inl z
      · exact .inr (.inl ⟨z.1, by show c < f + (e - f); omega⟩)
  · rw [if_neg lt]
    constructor
    · exact .inl
    · rintro (z | z)
      · exact z
      · omega
theorem addS_pos {S : List (Int × Int)} {f e : Int} (h : ∀ p ∈ S, 0 < p.2) : ∀ p ∈ addS S f e, 0 < p.2 := by
  intro p hp
  unfold addS at hp
  by_cases lt : f < e
  · rw [if_pos lt] at hp
    rcases List.mem_append.mp hp with hp | hp
    · exact h p hp
    · obtain rfl := List.mem_singleton.mp hp
      show 0 < e - f
      omega
  · rw [if_neg lt] at hp
    exact h p hp
theorem addS_len {S : List (Int × Int)} {f e : Int} : (addS S f e).length ≤ S.length + 1 := by
  unfold addS
  split
  · rw [List.length_append, List.length_singleton]; omega
  · omega
theorem GI.zero (rs : List (Int × Int)) : GI rs [] [] 0 := ⟨fun p hp => (by cases hp), Nat.le_refl _, fun c h => absurd h cov_nil, fun c h0 h1 => by omega, fun p hp => (by cases hp)⟩
theorem GI.step {rs T T' G : List (Int × Int)} {b : Int} {p : Int × Int} (e : rs = T ++ p :: T') (hc : Canon rs) (h : GI rs T G b) : GI rs (T ++ [p]) (addS G b p.1) (p.1 + p.2) := by
  have pp : (∀ q ∈ T, q.1 + q.2 < p.1) ∧ ∀ q ∈ T', p.1 + p.2 < q.1 := by
    have := hc.2
    rw [e] at this
    have q := List.pairwise_append.mp this
    exact ⟨fun z hz => q.2.2 z hz p (by simp), (List.pairwise_cons.mp q.2.1).1⟩
  have p0 : 0 < p.2 := hc.1 p (by rw [e]; simp)
  refine ⟨addS_pos h.pos, ?_, fun c hcv => ?_, fun c h0 h1 hn => ?_, fun q hq => ?_⟩
  · have := addS_len (S := G) (f := b) (e := p.1)
    have := h.len
    rw [List.length_append, List.length_singleton]
    omega
  · rcases cov_addS.mp hcv with z | z
    · exact h.out c z
    · rw [e, cov_app, cov_cons]
      rintro (⟨q, hq, y1, y2⟩ | y | ⟨q, hq, y1, y2⟩)
      · have := h.hi q hq
        omega
      · omega
      · have := pp.2 q hq
        omega
  · rw [cov_addS]
    by_cases cb : c < b
    · exact .inl (h.all c h0 cb hn)
    · by_cases cp : c < p.1
      · exact .inr ⟨by omega, cp⟩
      · exact absurd (by rw [e, cov_app, cov_cons]; exact .inr (.inl ⟨by omega, h1⟩)) hn
  · rcases List.mem_append.mp hq with hq | hq
    · have := pp.1 q hq
      omega
    · obtain rfl := List.mem_singleton.mp hq
      exact Int.le_refl _
theorem GI.fin {rs G : List (Int × Int)} {b e : Int} (h : GI rs rs G b) : (∀ p ∈ addS G b e, 0 < p.2) ∧ (addS G b e).length ≤ rs.length + 1 ∧ (∀ c, Cov (addS G b e) c → ¬ Cov rs c) ∧ ∀ c, 0 ≤ c → c < e → ¬ Cov rs c → Cov (addS G b e) c := by
  refine ⟨addS_pos h.pos, ?_, fun c hcv => ?_, fun c h0 h1 hn => ?_⟩
  · have := addS_len (S := G) (f := b) (e := e)
    have := h.len
    omega
  · rcases cov_addS.mp hcv with z | z
    · exact h.out c z
    · rintro ⟨q, hq, y1, y2⟩
      have := h.hi q hq
      omega
  · rw [cov_addS]
    by_cases cb : c < b
    · exact .inl (h.all c h0 cb hn)
    · exact .inr ⟨by omega, h1⟩
/-- max(xs, default=d), xs ints -/
def rMaxD (K : PySem.W.Frag) : List V → List V → Hp → VK → Prop := fun vs zs H Q => ∃ (a : Addr) (ns : List Int) (d : Int), vs = [.ref a] ∧ zs = [.int d] ∧ SqL K H a (ns.map V.int) ∧ ∀ m : Int, (ns = [] → m = d) → (ns ≠ [] → m ∈ ns) → (∀ x ∈ ns, x ≤ m) → Q (.int m) H
theorem de_maxD {K : PySem.W.Frag} {es : Env'} {Q : SV → Prop} {i : Nat} {ns : List Int} {d : Int} (e : es[i]? = some (some (.d (.lst (ns.map D.int))))) (q : ∀ m : Int, (∀ x ∈ ns, x ≤ m) → Q (.d (.int m))) : DE K (tCKw (rMaxD K) (tCons (tVar i) tNil) (tCons (tC (.int d)) tNil)) es Q := fun P N M L σ H S R k => by
  obtain ⟨v, hv, ok⟩ := S.ok i _ e
  have ok : Is K M H v (.lst (ns.map D.int)) := ok
  cases ok with
  | @lst a vs _ h1 h2 h3 =>
    have ev := IsAll.ofInts h3
    subst ev
    exact ⟨.ref a, hv, ⟨a, ns, d, rfl, rfl, .inl (.inl h1), fun m _ _ h => k (.d (.int m)) _ H (Kp.refl S.bs) (Is.int m) (q m h)⟩⟩
end DL

namespace DL
open PySem PySem.Spec PyProof.Rows
/-! ### max(xs, default=d), the builtin -/
def OldIs (P : Nat → Value → Prop) (bt : Nat → Nat → Bool) (j : Nat) (old : Array Value) : Prop := (j = 0 ∧ old = #[]) ∨ (0 < j ∧ ∃ vb, old = #[vb, vb] ∧ P (argBest bt (j - 1)) vb)
section
variable {prog : Program} {w : World} {A : Around} {R : Result → Shared → Prop} {I : Addr} {fp wr : List Addr} {n : Nat} {P : Nat → Value → Prop} {St : Nat → Heap → Prop}
theorem maxD_loop (W : Walks prog w A.in1 I fp wr n P St) (bt : Nat → Nat → Bool) (hcmp : CmpOf prog w A.in1 .Gt P bt) (S : Addr) (hSf : S ∉ fp) (d : Value) :
    ∀ (k j : Nat) (s : Shared) (old : Array Value) (c : Nat), n - j = k → j ≤ n → St j s.heap → OldIs P bt j old →
    s.heap.get? S = some { cls := .type "list", dict := none, data := .seq old c, slots := #[] } →
    (∀ v h' tk, ((n = 0 ∧ v = d) ∨ (0 < n ∧ P (argBest bt (n - 1)) v)) → (∀ b o, b ∉ wr → b ≠ S → s.heap.get? b = some o → h'.get? b = some o) → R (.ok (.ret v)) { s with heap := h', toks := tk }) →
    codeAny (model prog w) A (.builtin "max.loop" ⟨[.ref I, .none, .ref S], [(Str.ofString "default", d)]⟩) R s := by
  have hSw : S ∉ wr := fun h => hSf (W.sub _ h)
  have hname : (toString "max" ++ toString ".loop" : String) = "max.loop" := by decide
  intro k
  induction k with
  | zero =>
    intro j s old c hk hj hst hold hS hR
    have hin : j = n := by omega
    refine codeAny_builtin F.entry_max_loop ?_
    rw [Around.under_plainId F.plain_max_loop _]
    refine wpAny_bind (wpAny_seqItems hS rfl ?_)
    refine wpAny_bind (wpAny_tryCatch (W.done s _ _ (hin ▸ hst) fun h' tk hk' => ?_))
    have hS' := hk' S _ hSw hS
    rcases hold with ⟨j0, rfl⟩ | ⟨j0, vb, rfl, hP⟩
    · show wpAny _ A.in1 (rule _ >>= fun _ => ret d) _ _ _
      refine wpAny_bind (wpAny_rule (wpAny_pure ?_))
      exact hR d _ tk (.inl ⟨by omega, rfl⟩) fun b o hbw hbS e => hk' b o hbw e
    · refine wpAny_bind ?_
      refine wpAny_updateSeq hS' rfl (wpAny_bind (wpAny_letGo (wpAny_pure ?_)))
      exact hR vb _ tk (.inr ⟨by omega, by rw [← hin]; exact hP⟩) fun b o hbw hbS e => (Heap.get?_update_other _ _ (Ne.symm hbS)).trans (hk' b o hbw e)
  | succ k ih =>
    intro j s old c hk hj hst hold hS hR
    have hlt : j < n := by omega
    refine codeAny_builtin F.entry_max_loop ?_
    rw [Around.under_plainId F.plain_max_loop _]
    refine wpAny_bind (wpAny_seqItems hS rfl ?_)
    refine wpAny_bind (wpAny_tryCatch (W.item j s _ _ hlt hst fun v h' tk hP hst' hk' => ?_))
    have hS' := hk' S _ hSw hS
    have go : ∀ (old' : Array Value) (c' : Nat) (hp : Heap) (tk' : Nat), St (j + 1) hp → OldIs P bt (j + 1) old' → hp.get? S = some { cls := .type "list", dict := none, data := .seq old' c', slots := #[] } →
        (∀ b o, b ∉ wr → b ≠ S → s.heap.get? b = some o → hp.get? b = some o) → codeAny (model prog w) A (.builtin "max.loop" ⟨[.ref I, .none, .ref S], [(Str.ofString "default", d)]⟩) R { s with heap := hp, toks := tk' } := fun old' c' hp tk' h1 h2 h3 h4 =>
      ih (j + 1) _ old' c' (by omega) hlt h1 h2 h3 fun v' h'' tk'' hP' hk'' => hR v' h'' tk'' hP' fun b o hbw hbS e => hk'' b o hbw hbS (h4 b o hbw hbS e)
    rcases hold with ⟨j0, rfl⟩ | ⟨j0, vb, rfl, hPb⟩
    · subst j0
      show wpAny _ A.in1 (updateSeq S (fun _ => #[v, v]) >>= _) _ _ _
      refine wpAny_bind (wpAny_updateSeq hS' rfl ?_)
      rw [hname]
      refine wpAny_pure ⟨plainId_quiet F.plain_max_loop _, go _ _ _ _ (W.frame _ _ _ hst' fun b hbf o e => ?_) (.inr ⟨by omega, v, rfl, hP⟩) (Heap.get?_update_self _ hS' rfl) fun b o hbw hbS e => ?_⟩
      · exact (Heap.get?_update_other _ _ (fun h : S = b => hSf (by rw [h]; exact hbf))).trans e
      · exact (Heap.get?_update_other _ _ (Ne.symm hbS)).trans (hk' b o hbw e)
    · have ej : j = (j - 1) + 1 := by omega
      show wpAny _ A.in1 (tryCatch (holding [v, v] (richCompare .Gt v vb >>= _)) _ >>= _) _ _ _
      refine wpAny_bind (wpAny_tryCatch (wpAny_holding (wpAny_bind (hcmp j (argBest bt (j - 1)) v vb _ _ _ hP hPb ?_))))
      refine wpAny_bind (wpAny_holding (wpAny_truthy_bool ?_))
      refine wpAny_bind (wpAny_letGo (wpAny_pure ?_))
      have eb : argBest bt j = if bt j (argBest bt (j - 1)) then j else argBest bt (j - 1) := by
        rw [ej]
        rfl
      cases hb : bt j (argBest bt (j - 1)) with
      | true =>
        rw [if_pos rfl]
        refine wpAny_bind (wpAny_updateSeq hS' rfl (wpAny_bind (wpAny_letGo ?_)))
        rw [hname]
        refine wpAny_pure ⟨plainId_quiet F.plain_max_loop _, go _ _ _ _ (W.frame _ _ _ hst' fun b hbf o e => ?_) (.inr ⟨by omega, v, rfl, ?_⟩) (Heap.get?_update_self _ hS' rfl) fun b o hbw hbS e => ?_⟩
        · exact (Heap.get?_update_other _ _ (fun h : S = b => hSf (by rw [h]; exact hbf))).trans e
        · show P (argBest bt j) v
          rw [eb, hb, if_pos rfl]
          exact hP
        · exact (Heap.get?_update_other _ _ (Ne.symm hbS)).trans (hk' b o hbw e)
      | false =>
        rw [if_neg Bool.false_ne_true]
        refine wpAny_bind (wpAny_letGo ?_)
        rw [hname]
        refine wpAny_pure ⟨plainId_quiet F.plain_max_loop _, go _ _ _ _ hst' (.inr ⟨by omega, vb, rfl, ?_⟩) hS' fun b o hbw hbS e => hk' b o hbw e⟩
        show P (argBest bt j) vb
        rw [eb, hb, if_neg Bool.false_ne_true]
        exact hPb
end
theorem args_maxD (a d : Value) : argsOk "max" ⟨[a], [(Str.ofString "default", d)]⟩ := by unfold argsOk; kernel_rfl
section
variable {prog : Program} {w : World} {A : Around} {E : Value → Shared → Prop} {s : Shared}
theorem max_dflt {l : Addr} {xs : Array (Int × Tok)} {d : Value} {Q : Value → Shared → Prop} (hh : A.handled = none) (hl : s.heap.IsList l (intItems xs))
    (h : ∀ v h' tk, ((xs.size = 0 ∧ v = d) ∨ (0 < xs.size ∧ (intItems xs)[argBest (fun i j => decide (numAt xs i > numAt xs j)) (xs.size - 1)]? = some v)) → (∀ b o, s.heap.get? b = some o → h'.get? b = some o) → Q v { s with heap := h', toks := tk }) :
    wpAny (model prog w) A (call (.builtin "max") [.ref l] [(Str.ofString "default", d)]) Q E s := by
  have hname : (toString "max" ++ toString ".loop" : String) = "max.loop" := by decide
  refine wpAny_call (codeAny_call_builtin F.plain_max F.entry_max ?_)
  simp only [checkBuiltinCall, F.kind_max]
  have go : wpAny (model prog w) A.in1 (Builtin.«max» ⟨[.ref l], [(Str.ofString "default", d)]⟩) (fun fin s' => match fin with
      | .done f => (match (Except.ok f : Result) with | .ok (.ret v) => Q v s' | .ok _ => False | .error e => E e s')
      | .again c' => c'.quiet = true ∧ codeAny (model prog w) A c' (fun r s' => match r with | .ok (.ret v) => Q v s' | .ok _ => False | .error e => E e s') s') E s := by
    show wpAny _ A.in1 (Builtin.Builtins.bindParams "max" ["key", "default"] 0 ⟨[], [(Str.ofString "default", d)]⟩ >>= _) _ _ s
    refine wpAny_bind (wpAny_of_eq (show Builtin.Builtins.bindParams "max" ["key", "default"] 0 ⟨[], [(Str.ofString "default", d)]⟩ = pure [none, some d] from rfl) ?_)
    refine wpAny_bind (wpAny_pure ?_)
    refine wpAny_bind (PySem.iter_intList hl fun s₂ e st hfp hlI => ?_)
    subst e
    refine wpAny_bind (wpAny_newObj_type ?_)
    have W := Walks.list (prog := prog) (w := w) (A := A.in1) hh s.heap.objs.size l hlI (intItems xs)
    rw [hname]
    refine wpAny_pure ⟨plainId_quiet F.plain_max_loop _, maxD_loop W _ (CmpOf.ints_gt (numAt xs) (fun _ _ => intItems_at)) _ ?_ d _ 0 _ #[] _ rfl (Nat.zero_le _) ?_ (.inl ⟨rfl, rfl⟩) (Heap.get?_push_size _ rfl) fun v h' tk hv hk => ?_⟩
    · exact fun hm => Nat.lt_irrefl _ (hfp _ hm)
    · exact W.frame _ _ _ st fun b _ o e => Heap.get?_push_of_some _ e
    · refine h v h' tk ?_ fun b o e => ?_
      · rcases hv with ⟨a, b⟩ | ⟨a, b⟩
        · exact .inl ⟨by simpa [intItems] using a, b⟩
        · exact .inr ⟨by simpa [intItems] using a, by simpa [intItems] using b⟩
      · have e1 : (s.heap.push { cls := .type "list_iterator", data := .fields #[.ref l, .int 0 0] }).get? b = some o := Heap.get?_push_of_some _ e
        refine hk b o ?_ (Nat.ne_of_lt (Heap.lt_size e1)) (Heap.get?_push_of_some _ e1)
        intro hm
        obtain rfl := List.mem_singleton.mp hm
        exact Nat.lt_irrefl _ (Heap.lt_size e)
  cases hsig : Manifest.signature? "max" with
  | none => exact wpAny_pure go
  | some sig =>
    have ha := args_maxD (.ref l) d
    simp only [argsOk, hsig] at ha
    have h2 : Bind.checkArgs "max" sig ⟨[.ref l], [(Str.ofString "default", d)]⟩ = pure () := ha
    show wpAny _ A.in1 (Bind.checkArgs "max" sig ⟨[.ref l], [(Str.ofString "default", d)]⟩) _ _ s
    rw [h2]; exact wpAny_pure go
end
end DL
namespace DL
open PySem PySem.Spec PyProof.Rows L2
theorem cr_maxD {X : Cx} (hc : X.calm = true) : CallRK X (.builtin "max") [Str.ofString "default"] (rMaxD X.K) := by
  intro pins s σ H vs zs us ws Q I r rz h
  obtain ⟨a, ns, d, rfl, rfl, hs, q⟩ := h
  obtain rfl := Vals.ref1 r
  obtain ⟨w1, rfl, e1⟩ := vals1 rz
  obtain ⟨t, rfl⟩ := e1
  obtain ⟨its, rv, hl, hz⟩ := I.list hs
  obtain ⟨xs, e⟩ := rv.ints.allInts.items
  have hn : numsOf (intItems xs).toList = ns := by rw [← e]; exact rv.ints.numsOf
  rw [nums_intItems] at hn
  have hl' := hl.isList
  rw [e] at hl'
  refine max_dflt (I.ok.hd hc) hl' fun v h' tk hv hk => ?_
  rcases hv with ⟨h0, rfl⟩ | ⟨h0, hv⟩
  · have e0 : ns = [] := by
      rw [← hn, List.map_eq_nil_iff, Array.toList_eq_nil_iff]
      exact Array.eq_empty_of_size_eq_zero h0
    exact ⟨.int d, H, I.kept hk, ⟨_, rfl⟩, q d (fun _ => rfl) (fun z => absurd e0 z) (fun x hx => by rw [e0] at hx; cases hx)⟩
  · obtain ⟨t', rfl⟩ := intItems_at hv
    obtain ⟨h1, h2⟩ := argBest_gt (numAt xs) (xs.size - 1)
    have hne : ns ≠ [] := by
      intro z
      rw [← hn, List.map_eq_nil_iff, Array.toList_eq_nil_iff] at z
      rw [z] at h0
      exact Nat.lt_irrefl _ h0
    refine ⟨.int _, H, I.kept hk, ⟨_, rfl⟩, q _ (fun z => absurd z hne) (fun _ => ?_) (fun x hx => ?_)⟩
    · rw [← hn, numAt_eq]; exact PySem.getD_mem (by rw [List.length_map, Array.length_toList]; omega)
    · rw [← hn] at hx
      obtain ⟨j, hj, rfl⟩ := mem_getD hx
      rw [List.length_map, Array.length_toList] at hj
      rw [← numAt_eq]; exact h2 j (by omega)
end DL

namespace DL
open PySem PySem.Spec PyProof.Rows L2
/-! ### new lists in a list, each changed at last -/
abbrev tSpoil (K : PySem.W.Frag) : TS := tFor (iList K (tVar 8)) (gName 10) (tDrop (tBM K "list" rAppend (tVar 10) (tCons (tTup (tCons (tC (.int 0)) (tCons (tC (.int 1)) tNil))) tNil)))
def ItemsAt (H H' : Hp) (p : Addr) (m : Nat) (vs : List V) : Prop := ∀ v ∈ vs, ∃ (a : Addr) (us : List V), v = .ref a ∧ H a = none ∧ a ≠ p ∧ H' a = some (.lst us) ∧ us.length < m
theorem news_at {K : PySem.W.Frag} {N M L : AP} {H H1 : Hp} (bs : Bs L M H) : ∀ {xs : List (List D)} {vs : List V}, SvAll K N M L H H1 vs (xs.map SV.new) → (∀ x ∈ xs, x.length < 1000) → IsAll K M H1 vs (xs.map D.lst) ∧ ∀ v ∈ vs, ∃ (a : Addr) (us : List V), v = .ref a ∧ H a = none ∧ H1 a = some (.lst us) ∧ us.length < 1000
  | [], _, h, _ => by
    cases h
    exact ⟨.nil, fun v h => (by cases h)⟩
  | x :: xs, _, h, hx => by
    cases h with
    | cons h1 h2 =>
      obtain ⟨a, us, rfl, n, g1, g2⟩ := h1
      obtain ⟨q1, q2⟩ := news_at bs h2 fun y hy => hx y (List.mem_cons_of_mem _ hy)
      refine ⟨.cons (.lst g1 (fresh_nm bs n) (g2.sub AP.sub_add)) q1, fun v hv => ?_⟩
      rcases List.mem_cons.mp hv with rfl | hv
      · exact ⟨a, us, rfl, n, g1, by rw [g2.len]; exact hx x (by simp)⟩
      · exact q2 v hv
structure SpoilI (L : AP) (H : Hp) (σ2 : L2.St) (p : Addr) (vs : List V) (i : Nat) (σ : L2.St) (H' : Hp) : Prop where
  kp : Kp L H H'
  hp : H' p = some (.lst vs)
  it : ItemsAt H H' p (1000 + i) vs
  sl : Same' [10] σ2 σ
theorem spoil_turn {K : PySem.W.Frag} {L M : AP} {H H' : Hp} {σ2 σ' : L2.St} {p : Addr} {vs : List V} {i : Nat} {x : V} {D : Ends} (bs : Bs L M H) (hl : 10 < σ2.length) (hi : i < 2000) (hx : x ∈ vs) (h : SpoilI L H σ2 p vs i σ' H') (hN : ∀ σ3 H3, SpoilI L H σ2 p vs (i + 1) σ3 H3 → D.nx σ3 H3) :
    tDrop (tBM K "list" rAppend (tVar 10) (tCons (tTup (tCons (tC (.int 0)) (tCons (tC (.int 1)) tNil))) tNil)) D (σ'.set 10 (some x)) H' := by
  obtain ⟨a, us, rfl, ha, hap, hus, hul⟩ := h.it x hx
  have g : (σ'.set 10 (some (.ref a)))[10]? = some (some (.ref a)) := List.getElem?_set_self (by rw [h.sl.1]; exact hl)
  refine ⟨.ref a, g, tyL hus, ⟨(by show 2 ≤ sizeLine; decide), fun t ht => ?_⟩⟩
  have hta : a ≠ t := fun e => by rw [← e, hus] at ht; cases ht
  have htp : p ≠ t := fun e => by rw [← e, h.hp] at ht; cases ht
  refine ⟨a, us, .ref t, rfl, rfl, (upd_ne hta).trans hus, Nat.lt_of_lt_of_le hul (Nat.le_trans (by omega : 1000 + i ≤ 3000) (by decide)), ?_⟩
  have old : ∀ b o, H b = some o → H' b = some o → upd (upd H' t (.tup [.int 0, .int 1])) a (.lst (us ++ [.ref t])) b = some o := fun b o e e' => by
    rw [upd_ne (fun z => by rw [z, ha] at e; cases e), upd_ne (fun z => by rw [z, ht] at e'; cases e')]
    exact e'
  refine hN _ _ ⟨⟨fun b o nl e => old b o e (h.kp.k b o nl e), fun b lb => ?_⟩, ?_, fun v hv => ?_, ⟨by rw [List.length_set]; exact h.sl.1, fun k hk => ?_⟩⟩
  · obtain ⟨g1, m1, z1⟩ := bs.bag b lb
    obtain ⟨g2, m2, z2⟩ := h.kp.b b lb
    refine ⟨g2, m2, ?_⟩
    rw [upd_ne (fun z => by rw [z, ha] at z1; cases z1), upd_ne (fun z => by rw [z, ht] at z2; cases z2)]
    exact z2
  · rw [upd_ne (Ne.symm hap), upd_ne htp]
    exact h.hp
  · obtain ⟨a', us', rfl, ha', hap', hus', hul'⟩ := h.it v hv
    by_cases e : a' = a
    · subst e
      rw [hus] at hus'
      cases hus'
      exact ⟨a', _, rfl, ha', hap', upd_same, by rw [List.length_append, List.length_singleton]; omega⟩
    · refine ⟨a', us', rfl, ha', hap', ?_, by omega⟩
      rw [upd_ne e, upd_ne (fun z => by rw [z, ht] at hus'; cases hus')]
      exact hus'
  · rw [List.getElem?_set_ne (fun e => hk (by rw [← e]; simp))]
    exact h.sl.2 k hk
theorem ds_block {K : PySem.W.Frag} {es : Env'} {B : DEnds} {ta : TA} {tw tr : TE} {tt : TT} (hl : es.length = 13)
    (h : DA K ta es fun ss => ∃ xs : List (List D), ss = xs.map SV.new ∧ (∀ x ∈ xs, x.length < 1000) ∧ xs.length ≤ 1000 ∧
      DE K tw (es.set 8 (some (.d (.lst (xs.map D.lst))))) fun s => ∃ ws, s = .new ws ∧ DT K tt ((es.set 8 (some (.d (.lst (xs.map D.lst))))).set 9 (some (.d (.lst ws)))) fun b => b = false)
    (hn : B.nx (((es.set 8 none).set 9 none).set 10 none)) : DS K (tSeq (tAsg (tLst ta) (gName 8)) (tSeq (tAsg tw (gName 9)) (tSeq (tIfS tt (tRet tr) tNext) (tSpoil K)))) es B := fun F P M L σ H S E o => by
  have hσ : σ.length = 13 := S.st.len.trans hl
  refine h P _ M L σ H S.st _ fun ss vs H1 k1 oss q1 => ?_
  obtain ⟨xs, rfl, hx, hxl, q1⟩ := q1
  obtain ⟨hall, hit⟩ := news_at S.st.bs oss hx
  have hvl : vs.length = xs.length := by rw [hall.len, List.length_map]
  refine ⟨by rw [hvl]; exact Nat.le_trans hxl (by decide), fun p hp => ?_⟩
  have S1 := S.kp' k1
  have kn := Kp.new (o := .lst vs) S1.st.bs hp
  have nmp : ¬ M p := fresh_nm S1.st.bs hp
  have nlp : ¬ L p := fun l => nmp (S1.st.bs.lm p l)
  have S2 := (S1.kp' kn).setp (i := 8) (s := .d (.lst (xs.map D.lst))) (v := .ref p) (Is.lst upd_same nmp (IsAll.kp kn S1.st.bs hall)) trivial
  refine q1 P _ M L _ _ S2.st _ fun s v H2 k2 ok2 q2 => ?_
  obtain ⟨ws, rfl, q2⟩ := q2
  obtain ⟨b, us, rfl, nb, g1, g2⟩ := ok2
  have S3 := (S2.kp' k2).setp (i := 9) (s := .d (.lst ws)) (v := .ref b) (Is.lst g1 (fresh_nm S2.st.bs nb) (g2.sub AP.sub_add)) trivial
  refine q2 P _ M L _ _ S3.st _ fun bb H3 k3 hb => ?_
  subst hb
  rw [if_neg Bool.false_ne_true]
  have k13 := (kn.trans k2).trans k3
  have hp3 : H3 p = some (.lst vs) := k3.k _ _ nlp (k2.k _ _ nlp upd_same)
  generalize hσ2 : (σ.set 8 (some (V.ref p))).set 9 (some (V.ref b)) = σ2
  have l2 : σ2.length = 13 := by rw [← hσ2, List.length_set, List.length_set]; exact hσ
  have g8 : σ2[8]? = some (some (.ref p)) := by
    rw [← hσ2, List.getElem?_set_ne (by decide), List.getElem?_set_self (by omega)]
  refine ⟨.ref p, g8, p, rfl, ⟨vs, .inl (.inl hp3)⟩, for_list (K := K) (a := p) (xs := vs) (fun i σ' H' => SpoilI L H σ2 p vs i σ' H') ?_ (fun i σ' H' hi z => .inl (.inl z.hp)) ?_ ?_⟩
  · refine ⟨k1.trans k13, hp3, fun v hv => ?_, ⟨rfl, fun _ _ => rfl⟩⟩
    obtain ⟨a, us, rfl, na, ga, gl⟩ := hit v hv
    have nla : ¬ L a := fun l => fresh_nm S.st.bs na (S.st.bs.lm a l)
    exact ⟨a, us, rfl, na, fun e => (by rw [e, hp] at ga; cases ga), k13.k _ _ nla ga, gl⟩
  · intro i x σ' H' hxi z
    have hi := (List.getElem?_eq_some_iff.mp hxi).1
    exact spoil_turn S.st.bs (by omega) (by omega) (List.mem_of_getElem? hxi) z fun σ3 H3 q => q
  · intro σ' H' z
    refine o.nx _ M L σ' H' ((S.kp' z.kp).loose (by rw [z.sl.1, List.length_set, List.length_set, List.length_set, l2, hl]) fun i s e => ?_) hn
    rcases set_some e with ⟨_, e'⟩ | ⟨n10, e⟩
    · cases e'
    rcases set_some e with ⟨_, e'⟩ | ⟨n9, e⟩
    · cases e'
    rcases set_some e with ⟨_, e'⟩ | ⟨n8, e⟩
    · cases e'
    refine ⟨e, ?_⟩
    rw [z.sl.2 i (by simp; exact Ne.symm n10), ← hσ2, List.getElem?_set_ne n9, List.getElem?_set_ne n8]
end DL

namespace DL
open PySem PySem.Spec PyProof.Rows L2
/-! ### what is shown is fit to be compared -/
theorem okS_of (s : String) : okS (Str.ofString s) := okS_iff.mpr fun c hc => by
  rw [PySem.Str.ofString_eq_toList] at hc
  simp at hc
  obtain ⟨ch, _, rfl⟩ := hc
  have h := ch.valid
  show ch.val.toNat < 0x110000
  rcases h with h | ⟨_, h⟩
  · have : ch.val.toNat < 0xd800 := h
    omega
  · exact h
theorem okS_joins (sep : Str) (hs : okS sep) : ∀ ys : List Str, (∀ y ∈ ys, okS y) → okS (Str.join sep ys)
  | [], _ => okS_empty
  | [x], h => h x (by simp)
  | x :: y :: r, h => by
    show okS (x ++ sep ++ Str.join sep (y :: r))
    exact okS_app (okS_app (h x (by simp)) hs) (okS_joins sep hs (y :: r) fun z hz => h z (List.mem_cons_of_mem _ hz))
theorem okS_textFrom : ∀ (ts : List Str) (k : Nat) (acc : Str), okS acc → (∀ t ∈ ts, okS t) → okS (textFrom k acc ts)
  | [], _, _, h, _ => h
  | t :: r, k, acc, h, hs => by
    show okS (textFrom (k + 1) (acc ++ (if k > 0 then ", " else "" : String) ++ t) r)
    exact okS_textFrom r (k + 1) _ (okS_app (okS_app h (okS_of _)) (hs t (by simp))) fun z hz => hs z (List.mem_cons_of_mem _ hz)
theorem okS_listText {ts : List Str} (h : ∀ t ∈ ts, okS t) : okS (listText ts) := okS_app (okS_textFrom ts 0 _ (okS_of _) h) (okS_of _)
theorem okS_tupleText {ts : List Str} (h : ∀ t ∈ ts, okS t) : okS (tupleText ts) := okS_app (okS_app (okS_of _) (okS_joins _ (okS_of _) ts h)) (okS_of _)
mutual
def D.nums : D → Bool
  | .int _ => true
  | .bl _ => true
  | .non => true
  | .lst xs => D.numsAll xs
  | .tup xs => D.numsAll xs
  | _ => false
def D.numsAll : List D → Bool
  | [] => true
  | d :: ds => D.nums d && D.numsAll ds
end
mutual
theorem okS_shown : ∀ d : D, d.nums = true → okS d.py.shown
  | .non, _ => okS_of "None"
  | .bl true, _ => okS_of "True"
  | .bl false, _ => okS_of "False"
  | .int i, _ => okS_of (toString i)
  | .str _, h => by cases h
  | .lst xs, h => okS_listText (okS_shownAll xs h)
  | .tup xs, h => okS_tupleText (okS_shownAll xs h)
  | .obj _ _, h => by cases h
theorem okS_shownAll : ∀ ds : List D, D.numsAll ds = true → ∀ t ∈ PyData.shownAll (D.pyAll ds), okS t
  | [], _, t, ht => by cases ht
  | d :: ds, h, t, ht => by
    have h' := Bool.and_eq_true_iff.mp (show (D.nums d && D.numsAll ds) = true from h)
    have ht' : t ∈ PyData.shown d.py :: PyData.shownAll (D.pyAll ds) := ht
    rcases List.mem_cons.mp ht' with rfl | ht'
    · exact okS_shown d h'.1
    · exact okS_shownAll ds h'.2 t ht'
end
theorem fit_shown {n k : Nat} {d : D} (h : Fit n k d) (hd : d.nums = true) : Fit (10 * n + 8) 0 (.str d.shown) := Fit.s (okS_shown d hd) (Nat.le_trans (shown_wt d h.f) h.w)
theorem nums_pairs : ∀ ps : List (Int × Int), D.numsAll (ps.map dPair) = true
  | [] => rfl
  | p :: ps => by
    show (D.nums (dPair p) && D.numsAll (ps.map dPair)) = true
    rw [nums_pairs ps]
    rfl
/-! ### a number among numbers -/
theorem fit_small {k : Int} (h : 0 ≤ k ∧ k < 1000) : Fit 20 0 (.int k) := (Fit.int (m := 10) (by omega) (by decide) (by decide)).mono (by decide) (by decide)
theorem any_ints {k : Int} : ∀ ks : List Int, ((D.pyAll (ks.map D.int)).any fun z => PyData.eqv z (D.int k).py) = decide (k ∈ ks)
  | [] => rfl
  | j :: ks => by
    show (PyData.eqv (.int j) (.int k) || (D.pyAll (ks.map D.int)).any fun z => PyData.eqv z (D.int k).py) = decide (k ∈ j :: ks)
    rw [any_ints ks]
    have e : PyData.eqv (.int j) (.int k) = (j == k) := rfl
    rw [e]
    by_cases h : j = k
    · subst h
      simp
    · have h' : ¬ k = j := fun z => h z.symm
      simp [h, h']
section
variable {K : PySem.W.Frag} {Q : SV → Prop}
theorem in_ints {k : Int} {ks : List Int} (hk : 0 ≤ k ∧ k < 1000) (hs : ∀ j ∈ ks, 0 ≤ j ∧ j < 1000) (hl : ks.length ≤ 1000) (q : Q (.d (.bl (decide (k ∈ ks))))) : RR K (rInX K) (.d (.int k)) (.d (.lst (ks.map D.int))) Q := fun N M L H0 H v1 v2 b kk o1 o2 R r => by
  have f1 := fit_small hk
  have f2 : Fit (8 + 1000 * 22) 1 (.lst (ks.map D.int)) := Fit.lst (FitA.of (n := 20) (k := 0) (fun d hd => by
    obtain ⟨j, hj, rfl⟩ := List.mem_map.mp hd
    exact fit_small (hs j hj)) (by rw [List.length_map]; exact hl))
  refine .inr ⟨(D.int k).py, D.pyAll (ks.map D.int), Is.dp _ _ o1 rfl, Is.dp _ _ o2 (fit_plain f2), f1.shaped (by decide), f2.shaped (by decide), ?_⟩
  rw [any_ints]
  exact r (.d (.bl _)) _ H (Kp.refl (kk.bs b)) (Is.bl _) q
theorem notin_ints {k : Int} {ks : List Int} (hk : 0 ≤ k ∧ k < 1000) (hs : ∀ j ∈ ks, 0 ≤ j ∧ j < 1000) (hl : ks.length ≤ 1000) (q : Q (.d (.bl (!decide (k ∈ ks))))) : RR K (rNotInX K) (.d (.int k)) (.d (.lst (ks.map D.int))) Q := fun N M L H0 H v1 v2 b kk o1 o2 R r => by
  have f1 := fit_small hk
  have f2 : Fit (8 + 1000 * 22) 1 (.lst (ks.map D.int)) := Fit.lst (FitA.of (n := 20) (k := 0) (fun d hd => by
    obtain ⟨j, hj, rfl⟩ := List.mem_map.mp hd
    exact fit_small (hs j hj)) (by rw [List.length_map]; exact hl))
  refine .inr ⟨(D.int k).py, D.pyAll (ks.map D.int), Is.dp _ _ o1 rfl, Is.dp _ _ o2 (fit_plain f2), f1.shaped (by decide), f2.shaped (by decide), ?_⟩
  rw [any_ints]
  exact r (.d (.bl _)) _ H (Kp.refl (kk.bs b)) (Is.bl _) q
end
end DL

namespace DL
open PySem PySem.Spec PyProof.Rows L2
/-! ### objects: == and repr by their own defs -/
section
variable {X : Cx} {k : Nat} {f C : Addr} {fd : FuncData} {ps : List Str} {sp : Sp}
/-- repr(x), x an instance of C, whose __repr__ is at f -/
def rReprOwn (C : Addr) (sp : Sp) : List V → Hp → VK → Prop := fun vs H Q => ∃ (a dx : Addr) (fs : List (Str × V)), vs = [.ref a] ∧ H a = some (.ins C dx fs) ∧ sp [.ref a] H (fun v H' => ∃ z, v = .str z ∧ Q (.str z) H') E0
theorem call_reprOwn (F : FnG X.prog X.w X.K X.mg X.base k f fd ps sp) (hr : Room (k + 1) X.A) (gu : X.A.guards = some []) (hs : PySem.W.findIn X.K (.ref C) "__repr__" = some (some (.ref f))) (hf : PySem.W.isFn X.K (.ref f) = true) (hb : Binds X.K fd ps []) : CallR X (.builtin "repr") (rReprOwn C sp) := by
  intro pins s σ H vs us Q I r h
  obtain ⟨a, dx, fs, rfl, ha, hsp⟩ := h
  obtain rfl := Vals.ref1 r
  obtain ⟨mA, J, _⟩ := ins_get I.hok ha
  obtain ⟨od, J, _⟩ := J.look
  obtain ⟨m, hF⟩ := I.fr
  refine PySem.W.repr_K hr.in1.units0 hF I.ok.mod.kin J hs hf ?_
  have hl := F.len _ _ _ _ hsp
  refine wpAny_call (codeAny_mono (F.run X.A.in1 X.stack s H ⟨[.ref a], []⟩ [.ref a] [.ref a] _ gu hr.in1 I.env0.in1 (by
    have := hb s [.ref a] I.kIn (by simpa using hl)
    simpa using this) (.cons rfl .nil) hsp) fun res s' hq => ?_)
  cases res with
  | error e => exact hq.elim
  | ok fl =>
    cases fl with
    | ret w =>
      obtain ⟨z, H', I', rz, x, ez, q⟩ := I.after hq
      subst ez
      obtain ⟨t, rfl⟩ := rz
      exact ⟨.str x, H', I', ⟨t, rfl⟩, q⟩
    | next => exact False.elim hq
    | brk => exact False.elim hq
    | cont => exact False.elim hq
/-- what the other side of == is -/
inductive YTy (K : PySem.W.Frag) (H : Hp) (C : Addr) : V → Value → Prop
  | ins {b dy : Addr} {gs : List (Str × V)} : H b = some (.ins C dy gs) → YTy K H C (.ref b) (.ref C)
  | tup {b : Addr} {xs : List V} : H b = some (.tup xs) → YTy K H C (.ref b) (.type "tuple")
  | lst {b : Addr} {xs : List V} : H b = some (.lst xs) → YTy K H C (.ref b) (.type "list")
  | str (x : Str) : YTy K H C (.str x) (.type "str")
  | int (x : Int) : YTy K H C (.int x) (.type "int")
  | bl (x : Bool) : YTy K H C (.bl x) (.type "bool")
  | non : YTy K H C .non (.type "NoneType")
  | ktup {b : Addr} {o : Obj} : K.lookup b = some o → o.cls = .type "tuple" → YTy K H C (.ref b) (.type "tuple")
theorem inv_k {X : Cx} {pins : List (Addr × Obj)} {σ : L2.St} {H : Hp} {s : Shared} (I : Inv X pins σ H s) {a : Addr} {o : Obj} (h : X.K.lookup a = some o) : ∃ o', s.heap.get? a = some o' ∧ o'.cls = o.cls ∧ o'.dict = o.dict ∧ o'.data = o.data := by
  have hb := I.ok.mod.kin a o h
  have h0 := I.ok.bs a o hb
  have hx := I.ok.noex a o hb
  by_cases hf : a ∈ X.fs
  · obtain ⟨sl, h1⟩ := I.base.slot a o h0.1 h0.2 hf hx
    exact ⟨_, h1, rfl, rfl, rfl⟩
  · exact ⟨o, I.base.keep a o h0.1 h0.2 hf hx, rfl, rfl, rfl⟩
theorem YTy.looks {pins : List (Addr × Obj)} {σ : L2.St} {H : Hp} {s : Shared} {y : V} {u t : Value} {M : Model} (I : Inv X pins σ H s) (h : YTy X.K H C y t) (r : RelV y u) : PySem.W.Looks M s.heap (typeOf u) t := by
  cases h with
  | ins e =>
    cases r
    obtain ⟨mA, J, _⟩ := ins_get I.hok e
    obtain ⟨od, J, _⟩ := J.look
    exact J.type
  | tup e =>
    cases r
    obtain ⟨_, its, rv, o, ho, hc, _⟩ := (show ObjOk X.prog X.w H s.heap _ (.tup _) from I.hok _ _ e)
    exact hc ▸ (PySem.W.Looks.ld ho).andThen .now
  | lst e =>
    cases r
    obtain ⟨hz, its, n, rv, ho⟩ := (show ObjOk X.prog X.w H s.heap _ (.lst _) from I.hok _ _ e)
    exact (PySem.W.Looks.ld ho).andThen .now
  | ktup e hc =>
    cases r
    obtain ⟨o', ho, c', _⟩ := inv_k I e
    exact (c'.trans hc) ▸ (PySem.W.Looks.ld ho).andThen .now
  | str x =>
    obtain ⟨t, rfl⟩ := r
    exact .now
  | int x =>
    obtain ⟨t, rfl⟩ := r
    exact .now
  | bl x =>
    cases r
    exact .now
  | non =>
    cases r
    exact .now
/-- x == y, x an instance of C, whose __eq__ is at f -/
def rEqOwn (K : PySem.W.Frag) (C : Addr) (sp : Sp) : R2 := fun x y H Q => ∃ (a dx : Addr) (fs : List (Str × V)) (t : Value), x = .ref a ∧ H a = some (.ins C dx fs) ∧ YTy K H C y t ∧ PySem.W.notFirst K C t = true ∧ sp [.ref a, y] H (fun v H' => ∃ b, v = .bl b ∧ Q (.bl b) H') E0
theorem op_eqOwn (F : FnG X.prog X.w X.K X.mg X.base k f fd ps sp) (hr : Room k X.A) (gu : X.A.guards = some []) (hs : PySem.W.findIn X.K (.ref C) "__eq__" = some (some (.ref f))) (hf : PySem.W.isFn X.K (.ref f) = true) (hb : Binds X.K fd ps []) : OpR X (compareOp .Eq) (rEqOwn X.K C sp) := by
  intro pins s σ H x y v u Q I rx ry h
  obtain ⟨a, dx, fs, t, rfl, ha, hy, hn, hsp⟩ := h
  cases rx
  obtain ⟨mA, J, _⟩ := ins_get I.hok ha
  obtain ⟨od, J, _⟩ := J.look
  obtain ⟨m, hF⟩ := I.fr
  show wpAny (model X.prog X.w) X.A (richCompare .Eq (.ref a) u) (EP X pins σ Q) X.xe s
  refine PySem.W.cmp_K (op := .Eq) (tb := t) hr.units0 hF I.ok.mod.kin J (hy.looks I ry) hn hs hf ?_
  have hl := F.len _ _ _ _ hsp
  refine wpAny_call (codeAny_mono (F.run X.A X.stack s H ⟨[.ref a, u], []⟩ [.ref a, u] [.ref a, y] _ gu hr I.env0 (by
    have := hb s [.ref a, u] I.kIn (by simpa using hl)
    simpa using this) (.cons rfl (.cons ry .nil)) hsp) fun res s' hq => ?_)
  cases res with
  | error e => exact hq.elim
  | ok fl =>
    cases fl with
    | ret w =>
      obtain ⟨z, H', I', rz, b, ez, q⟩ := I.after hq
      subst ez
      cases rz
      exact ⟨.bl b, H', I', rfl, q⟩
    | next => exact False.elim hq
    | brk => exact False.elim hq
    | cont => exact False.elim hq
end
end DL

namespace DL
open PySem PySem.Spec PyProof.Rows L2
/-! ### objects that stay as they were made -/
section
variable {K : PySem.W.Frag} {F : Fr} {P : List Pin} {N L M : AP} {H0 H1 H H' : Hp} {σ : L2.St} {es : Env'} {ta te : TE} {tt : TT} {t u t1 : TS} {tr tk : TA} {Q : SV → Prop} {C : Addr} {f m : Str}
/-- o.f -/
theorem de_fld (h : DE K ta es fun s => ∃ C ds d, s = .d (.obj C ds) ∧ Cls K C ∧ NoAttr K C f ∧ ds.lookup f = some d ∧ Q (.d d)) : DE K (tFld K ta f) es Q := fun P N M L σ H S R k => by
  refine h P N M L σ H S _ fun s v H1 k1 ok q => ?_
  obtain ⟨C, ds, d, rfl, cl, na, hl, q⟩ := q
  have ok : Is K M H1 v (.obj C ds) := ok
  cases ok with
  | obj h1 h2 h3 =>
    obtain ⟨w, hw, iw⟩ := h3.look hl
    exact ⟨_, _, _, _, w, rfl, h1, cl, na, hw, k (.d d) w H1 k1 iw q⟩
/-- o.m(..), a method of its class -/
theorem de_meth {n : Nat} {pre : List SV → Prop} {post : List SV → SV → Prop} {E : XK} (h : DE K ta es fun s => ∃ ds, s = .d (.obj C ds) ∧ ds.lookup m = none ∧ DA K tr es fun ss => nownAll ss ∧ ss.length + 1 = n ∧ pre (s :: ss.map SV.arg) ∧ ∀ r, post (s :: ss.map SV.arg) r → Q r) : DE K (tMeth C m (spD K n pre post) [] E ta tr) es Q := fun P N M L σ H S R k => by
  refine h P N M L σ H S _ fun s v H1 k1 ok q => ?_
  obtain ⟨ds, rfl, hl, q⟩ := q
  have ok' : Is K M H1 v (.obj C ds) := ok
  have hv := ok'
  cases ok' with
  | obj h1 h2 h3 =>
    refine ⟨_, _, _, rfl, h1, h3.lookN hl, q P N M L σ H1 (S.kp k1) _ fun ss vs H2 k2 o2 q2 => ?_⟩
    obtain ⟨hn, hlen, hp, q2⟩ := q2
    rw [List.append_nil]
    have bs1 := k1.bs S.bs
    refine ⟨M, L, .d (.obj C ds) :: ss.map SV.arg, k2.bs bs1, .cons (Is.kp k2 bs1 hv) (o2.args bs1 k2 hn), by rw [List.length_cons, List.length_map]; exact hlen, hp, fun r w H3 k3 o3 q3 => ?_⟩
    exact k r w H3 ((k1.trans k2).trans k3) ((SvOk.noN o3).back (k1.trans k2)) (q2 r q3)
/-- what __init__ promises: the fields of the new object -/
def spI (K : PySem.W.Frag) (C : Addr) (n : Nat) (pre : List SV → Prop) (post : List SV → List (Str × D) → Prop) : Sp := fun vs H Q _ => ∃ (H1 : Hp) (M L : AP) (x dx : Addr) (ws : List V) (ss : List SV), vs = .ref x :: ws ∧ Bs L M H1 ∧ H1 x = none ∧ H1 dx = none ∧ dx ≠ x ∧ H = L2.upd (L2.upd H1 dx (.own x)) x (.ins C dx []) ∧
  SvAll K NO M L H1 H1 ws ss ∧ ss.length = n ∧ pre ss ∧ ∀ (ds : List (Str × D)) (fs : List (Str × V)) (H' : Hp), Kp L H1 H' → H' x = some (.ins C dx fs) → IsFs K M H' fs ds → post ss ds → Q .non H'
theorem spI.len {n : Nat} {pre : List SV → Prop} {post : List SV → List (Str × D) → Prop} {vs : List V} {Q : VK} {E : XK} (h : spI K C n pre post vs H Q E) : vs.length = n + 1 := by
  obtain ⟨_, _, _, _, _, ws, ss, rfl, _, _, _, _, _, h2, h3, _⟩ := h
  rw [List.length_cons, h2.len, h3]
/-- C(.., k = v, ..) -/
theorem de_make {n l N' : Nat} {pre : List SV → Prop} {post : List SV → List (Str × D) → Prop} {gV : List V → List V → List V} {gS : List SV → List SV → List SV} {E : XK}
    (hg : ∀ {N M L : AP} {H0 H : Hp} {x : Addr} {vs zs : List V} {ss us : List SV}, SvAll K N M L H0 H vs ss → SvAll K N M L H0 H zs us → ss.length = n → us.length = l → ∃ ws, gV (.ref x :: vs) zs = .ref x :: ws ∧ SvAll K N M L H0 H ws (gS ss us))
    (h : DA K tr es fun ss => DA K tk es fun us => nownAll ss ∧ nownAll us ∧ ss.length = n ∧ us.length = l ∧ (gS (ss.map SV.arg) (us.map SV.arg)).length = N' ∧ pre (gS (ss.map SV.arg) (us.map SV.arg)) ∧ ∀ ds, post (gS (ss.map SV.arg) (us.map SV.arg)) ds → Q (.d (.obj C ds))) :
    DE K (tMakeK C n l (spI K C N' pre post) gV E tr tk) es Q := fun P N M L σ H S R k => by
  refine h P N M L σ H S _ fun ss vs H1 k1 o1 q1 => ?_
  refine q1 P N M L σ H1 (S.kp k1) _ fun us zs H2 k2 o2 q2 => ?_
  obtain ⟨n1, n2, l1, l2, l3, hp, q⟩ := q2
  have k12 := k1.trans k2
  have bs2 := k12.bs S.bs
  refine ⟨by rw [o1.len]; exact l1, by rw [o2.len]; exact l2, fun x dx nx ndx ne => ?_⟩
  have a1 := (o1.kp S.bs k1 k2).args S.bs k12 n1
  have a2 := o2.args (k1.bs S.bs) k2 n2
  obtain ⟨ws, hw, hws⟩ := hg (x := x) a1 a2 (by rw [List.length_map]; exact l1) (by rw [List.length_map]; exact l2)
  refine ⟨H2, M, L, x, dx, ws, _, hw, bs2, nx, ndx, ne, rfl, hws, l3, hp, fun ds fs H' k3 hx hfs hpost => ⟨rfl, ?_⟩⟩
  exact k (.d (.obj C ds)) (.ref x) H' (k12.trans k3) (Is.obj hx (fresh_nm bs2 nx) hfs) (q ds hpost)
/-! ### __init__ -/
theorem IsFs.append' : ∀ {ds : List (Str × D)} {fs : List (Str × V)} {x : Str} {v : V} {d : D}, IsFs K M H fs ds → Is K M H v d → IsFs K M H (fs ++ [(x, v)]) (ds ++ [(x, d)])
  | _, _, _, _, _, .nil, h => .cons h .nil
  | _, _, _, _, _, .cons a b, h => .cons a (IsFs.append' b h)
theorem IsFs.len : ∀ {ds : List (Str × D)} {fs : List (Str × V)}, IsFs K M H fs ds → fs.length = ds.length
  | _, _, .nil => rfl
  | _, _, .cons _ b => congrArg (· + 1) (IsFs.len b)
theorem putF_new {f : Str} {v : V} : ∀ {fs : List (Str × V)}, fs.lookup f = none → putF f v fs = fs ++ [(f, v)]
  | [], _ => rfl
  | (g, x) :: r, h => by
    rw [List.lookup_cons] at h
    have hne : ¬ g = f := fun e => by
      rw [e] at h
      simp at h
    have h' : r.lookup f = none := by
      have hb : (f == g) = false := by
        rw [beq_eq_false_iff_ne]
        exact fun e => hne e.symm
      rw [hb] at h
      exact h
    show (if g = f then (g, v) :: r else (g, x) :: putF f v r) = _
    rw [if_neg hne, putF_new h']
    rfl
/-- a claimed object that no name holds is changed -/
theorem Sts.updX {a : Addr} {C dx : Addr} {fs gs : List (Str × V)} (S : Sts K P N M L σ H es) (m : M a) (l : ¬ L a) (h1 : H a = some (.ins C dx fs)) :
    Sts K P N M L σ (L2.upd H a (.ins C dx gs)) es ∧ ∀ {v : V} {d : D}, Is K M H v d → Is K M (L2.upd H a (.ins C dx gs)) v d := by
  have bs := S.bs
  have kn : ∀ b o, ¬ M b → H b = some o → L2.upd H a (.ins C dx gs) b = some o := fun b o q z => by rw [upd_ne (fun y => q (by rw [y]; exact m))]; exact z
  have kt := sqt_keep (K := K) (M := M) kn bs.tr
  have ki : ∀ {w : V} {x : D}, Is K M H w x → Is K M (L2.upd H a (.ins C dx gs)) w x := fun {w x} q => Is.chg (fun b o z q => ⟨kn b o q z, q⟩) kt _ _ q
  have kia : ∀ {w : List V} {x : List D}, IsAll K M H w x → IsAll K M (L2.upd H a (.ins C dx gs)) w x := fun {w x} q => IsAll.chg (fun b o z q => ⟨kn b o q z, q⟩) kt _ _ q
  have frz : ∀ b o u, H b = some (.frz o u) → L2.upd H a (.ins C dx gs) b = some (.frz o u) := fun b o u z => by rw [upd_ne (fun y => by rw [y, h1] at z; cases z)]; exact z
  refine ⟨⟨⟨bs.lm, fun b o q z => ?_, fun b q => ?_, fun b q => ?_⟩, S.len, fun j z ez => ?_, fun p hp => PinOk.chg (fun b o z q => ⟨kn b o q z, q⟩) kt (S.pin p hp), S.sep⟩, ki⟩
  · by_cases y : b = a
    · rw [y, upd_same] at z; cases z; exact True.intro
    · rw [upd_ne y] at z; exact bs.tr b o q z
  · by_cases y : b = a
    · rw [y]; exact ⟨_, upd_same⟩
    · rw [upd_ne y]; exact bs.tk b q
  · obtain ⟨g, m', z⟩ := bs.bag b q
    exact ⟨g, m', by rw [upd_ne (fun y => l (by rw [← y]; exact q))]; exact z⟩
  · obtain ⟨w, g1, g2⟩ := S.ok j z ez
    refine ⟨w, g1, ?_⟩
    cases z with
    | d x => exact ki g2
    | own zs =>
      obtain ⟨b, us, rfl, m', n', l', k1, k2⟩ := g2
      exact ⟨b, us, rfl, m', n', l', by rw [upd_ne (fun y => by rw [y, h1] at k1; cases k1)]; exact k1, kia k2⟩
    | new zs =>
      obtain ⟨b, us, _, n', k1, k2⟩ := g2
      rw [n'] at k1; cases k1
    | bag => exact g2
    | scr ns =>
      obtain ⟨b, z, y⟩ := g2
      exact ⟨b, z, y.keep frz⟩
    | rng lo hi =>
      obtain ⟨b, z, y⟩ := g2
      exact ⟨b, z, by rw [upd_ne (fun q => by rw [q, h1] at y; cases y)]; exact y⟩
    | ty n => exact g2
    | cls C => exact g2
/-- within __init__: self stands at x with the fields ds -/
def DI (K : PySem.W.Frag) (x C dx : Addr) (t : TS) (ds : List (Str × D)) (es : Env') (post : List (Str × D) → Prop) : Prop :=
  ∀ F P M L σ H fs, Stf K F P M L σ H es → M x → ¬ L x → F.H0 x = none → H x = some (.ins C dx fs) → IsFs K M H fs ds → ∀ E : Ends,
    (∀ σ' H' fs' ds', Kp F.L F.H0 H' → H' x = some (.ins C dx fs') → IsFs K F.M0 H' fs' ds' → post ds' → E.nx σ' H') → t E σ H
variable {x dx : Addr} {ds : List (Str × D)} {post : List (Str × D) → Prop}
theorem di_next (h : post ds) : DI K x C dx tNext ds es post := fun F P M L σ H fs S m l n hx hf E k => k σ H fs ds S.kp hx (IsFs.chg (fun a o e q => ⟨e, fun z => q (S.m0 a z)⟩) (TK.refl K H) _ _ hf) h
/-- a test that does not refuse -/
theorem di_if (h : DT K tt es fun b => b = false) (hu : DI K x C dx u ds es post) : DI K x C dx (tSeq (tIfS tt t1 tNext) u) ds es post := fun F P M L σ H fs S m l n hx hf E k => by
  refine h P _ M L σ H S.st _ fun b H1 k1 hb => ?_
  subst hb
  rw [if_neg Bool.false_ne_true]
  have hf1 : IsFs K M H1 fs ds := IsFs.chg (fun a o e q => ⟨k1.k a o (fun z => q (S.st.bs.lm a z)) e, q⟩) (sqt_keep (M := M) (fun b o q e => k1.k b o (fun z => q (S.st.bs.lm b z)) e) S.st.bs.tr) _ _ hf
  exact hu F P M L σ H1 fs (S.kp' k1) m l n (k1.k _ _ l hx) hf1 E k
/-- self.f = e -/
theorem di_fld (e0 : es[0]? = some (some (.cls x))) (cl : Cls K C) (na : NoAttr K C f) (hl : ds.length < 1000) (hd : ds.lookup f = none) (h : DE K te es fun s => ∃ d, s = .d d ∧ DI K x C dx u (ds ++ [(f, d)]) es post) : DI K x C dx (tSeq (sFld K (tVar 0) te f) u) ds es post := fun F P M L σ H fs S m l n hx hf E k => by
  refine h P _ M L σ H S.st _ fun s v H1 k1 ok q => ?_
  obtain ⟨d, rfl, q⟩ := q
  have hf1 : IsFs K M H1 fs ds := IsFs.chg (fun a o e q => ⟨k1.k a o (fun z => q (S.st.bs.lm a z)) e, q⟩) (sqt_keep (M := M) (fun b o q e => k1.k b o (fun z => q (S.st.bs.lm b z)) e) S.st.bs.tr) _ _ hf
  have hx1 := k1.k _ _ l hx
  have S1 := S.kp' k1
  obtain ⟨w, hw, ew⟩ := S1.st.ok 0 _ e0
  have ew : w = .ref x := ew
  subst ew
  refine ⟨.ref x, hw, x, C, dx, fs, rfl, hx1, cl, na, by rw [hf1.len]; exact hl, ?_⟩
  rw [putF_new (hf1.lookN hd)]
  obtain ⟨S2, ki⟩ := S1.st.updX (gs := fs ++ [(f, v)]) m l hx1
  have kf : IsFs K M (L2.upd H1 x (.ins C dx (fs ++ [(f, v)]))) fs ds := IsFs.chg (fun a o e q => ⟨by rw [upd_ne (fun y => q (by rw [y]; exact m))]; exact e, q⟩) (sqt_keep (M := M) (fun b o q e => by rw [upd_ne (fun y => q (by rw [y]; exact m))]; exact e) S1.st.bs.tr) _ _ hf1
  have S3 : Stf K F P M L σ (L2.upd H1 x (.ins C dx (fs ++ [(f, v)]))) es := ⟨S2, S1.bs0, ⟨fun b o lb e => by rw [upd_ne (fun y => by rw [y, n] at e; cases e)]; exact S1.kp.k b o lb e, fun b lb => by
    obtain ⟨g, m', z⟩ := S1.kp.b b lb
    exact ⟨g, m', by rw [upd_ne (fun y => by rw [y, hx1] at z; cases z)]; exact z⟩⟩, S1.m0, S1.lo, S1.ln⟩
  exact q F P M L σ _ _ S3 m l n upd_same (kf.append' (ki ok)) E k
/-- an __init__'s body -/
theorem init_of {n : Nat} {pre : List SV → Prop} {post : List SV → List (Str × D) → Prop} {names : List Str} {vs : List V} {R : VK} {E : XK} (h : spI K C n pre post vs H R E) (hb : ∀ x dx ss, ss.length = n → pre ss → DI K x C dx t [] (some (.cls x) :: startE (names.length - 1) ss) (post ss)) (hnm : 1 ≤ names.length) :
    t { nx := fun _ H' => R .non H', rt := R } (L2.start names vs) H := by
  obtain ⟨H1, M, L, x, dx, ws, ss, rfl, bs, nx, ndx, ne, rfl, hv, hl, hp, q⟩ := h
  have k1 := Kp.new (o := .own x) bs ndx
  have nx2 : (L2.upd H1 dx (.own x)) x = none := by rw [upd_ne (Ne.symm ne)]; exact nx
  have k2 := Kp.new (o := .ins C dx []) (k1.bs bs) nx2
  have kp := k1.trans k2
  have no_ : ∀ (i : Nat) (s : SV), (startE (names.length - 1) ss)[i]? = some (some s) → ss[i]? = some s := fun i s e => by
    unfold startE at e
    by_cases hi : i < ss.length
    · rw [List.getElem?_append_left (by simpa using hi), List.getElem?_map] at e
      cases z : ss[i]? with
      | none => rw [z] at e; cases e
      | some y => rw [z] at e; cases e; rfl
    · rw [List.getElem?_append_right (by simpa using hi), List.getElem?_replicate] at e
      split at e <;> cases e
  have nown : ∀ (i : Nat) (xs : List D), ss[i]? ≠ some (.own xs) := fun i xs e => by
    obtain ⟨v, _, _, _, _, _, n, _⟩ := hv.get e
    exact n
  have nown2 : ∀ (i : Nat) (xs : List D), (some (SV.cls x) :: startE (names.length - 1) ss)[i]? ≠ some (some (.own xs)) := fun i xs e => by
    cases i with
    | zero => cases e
    | succ i => exact nown i xs (no_ i _ (by simpa using e))
  have sl : ∀ (i : Nat) (v : V), (V.ref x :: ws)[i]? = some v → (L2.start names (V.ref x :: ws))[i]? = some (some v) := fun i v e => by
    have hi := (List.getElem?_eq_some_iff.mp e).1
    unfold L2.start
    rw [List.getElem?_append_left (by simpa using hi), List.getElem?_map, e]
    rfl
  have bsx : Bs L (M.add x) (L2.upd (L2.upd H1 dx (.own x)) x (.ins C dx [])) := by
    have b2 := kp.bs bs
    refine ⟨fun a l => .inl (b2.lm a l), fun a o m e => ?_, fun a m => ?_, b2.bag⟩
    · rcases m with m | rfl
      · exact b2.tr a o m e
      · rw [upd_same] at e
        cases e
        exact True.intro
    · rcases m with m | rfl
      · exact b2.tk a m
      · exact ⟨_, upd_same⟩
  have S : Stf K ⟨M, L, H1⟩ [] (M.add x) L (L2.start names (V.ref x :: ws)) (L2.upd (L2.upd H1 dx (.own x)) x (.ins C dx [])) (some (.cls x) :: startE (names.length - 1) ss) := by
    refine ⟨⟨bsx, ?_, fun i s e => ?_, fun p hp => absurd hp (by simp), fun i j a xs ys _ e _ _ => absurd e (nown2 i xs)⟩, bs, kp, fun _ h => .inl h, fun _ h => h, fun _ h => .inl h⟩
    · unfold L2.start startE
      rw [List.length_append, List.length_map, List.length_replicate, List.length_cons, List.length_cons, List.length_append, List.length_map, List.length_replicate, hv.len]
      omega
    · cases i with
      | zero =>
        cases e
        exact ⟨.ref x, sl 0 _ rfl, rfl⟩
      | succ i =>
        obtain ⟨v, h1, h2⟩ := hv.get (no_ i s (by simpa using e))
        exact ⟨v, sl (i + 1) v (by simpa using h1), (h2.noN).lift bs kp nx⟩
  refine hb x dx ss hl hp ⟨M, L, H1⟩ [] (M.add x) L _ _ [] S (.inr rfl) (fun l => fresh_nm bs nx (bs.lm x l)) nx upd_same .nil _ fun σ' H' fs' ds' k hx hf hpost => q ds' fs' H' k hx hf hpost
end
end DL

namespace DL
open PySem PySem.Spec PyProof.Rows L2
/-! ### methods and objects made, where no repr is under way -/
section
variable {X : Cx} {k n : Nat} {f C : Addr} {fd : FuncData} {ps ks : List Str} {sp : Sp} {x m : Str} {p pos apos : Pos} {e o : Expr} {es : List Expr} {kws : List Keyword} {ta : TE} {t tk : TA} {g : List Value → List Value → List Value} {gV : List V → List V → List V}
theorem run_fnG {pins : List (Addr × Obj)} {σ : L2.St} {H : Hp} {s : Shared} {Q : VK} {us : List Value} {vs : List V} (F : FnG X.prog X.w X.K X.mg X.base k f fd ps sp) (hr : Room k X.A) (gu : X.A.guards = some []) (hb : Binds X.K fd ps [])
    (I : Inv X pins σ H s) (r : Vals vs us) (h : sp (vs ++ []) H Q E0) : wpAny (model X.prog X.w) X.A (call (.ref f) us) (EP X pins σ Q) X.xe s := by
  rw [List.append_nil] at h
  have hl : (us ++ []).length = ps.length := by rw [List.append_nil, ← r.length]; exact F.len _ _ _ _ h
  refine runG F hr gu I (hb s us I.kIn hl) (us := us ++ []) ?_ h
  rw [List.append_nil]
  exact r
/-- o.m(e, ..) -/
theorem pe_methG {pl : Sem Bool} (he : PE X o ta) (c : Cls X.K C) (hm : Meth X.K C m f) (F : FnG X.prog X.w X.K X.mg X.base k f fd ps sp) (hr : Room k X.A) (gu : X.A.guards = some []) (hb : Binds X.K fd ps []) (ha : PA X (e :: es) t)
    (hst : starEach (e :: es) X.env = (false, eval e X.env) :: starEach es X.env := by rfl) (hpl : (backTo pos (starEach es X.env)).any (·.1) = false := by rfl)
    (ht : eval (.Call (.Attribute o m apos) (e :: es) [] pos) X.env = (do
      let ov ← eval o X.env
      standAt apos.atName
      let (f, first) ← holding [ov] (getMethod ov m pl)
      callWith pos f first (backTo pos (starEach (e :: es) X.env)) (backToKw pos (keywordEach [] X.env))) := by rfl) :
    PE X (.Call (.Attribute o m apos) (e :: es) [] pos) (tMeth C m sp [] E0 ta t) := by
  refine ⟨fun pins s σ H Q I h => ?_⟩
  refine PySem.W.methodCall_KW (pl := pl) (thn (he.run pins s σ H _ I h) fun u s1 ⟨y, H1, I1, rx, a, dx, fs, ex, ea, l, q⟩ => ?_) ht
  subst ex
  obtain rfl : u = Value.ref a := rx
  refine getmeth_ok I1 ea c hm l ?_
  refine PySem.W.callWith_K (first := [.ref a]) (h₀ := X.base) I.ok.mod.kin hm.kp (thn (ha.run pos pins s1 σ H1 _ I1 q) fun us s2 ⟨vs, H2, I2, r, q2⟩ => ⟨I2.kIn, ?_⟩) hst hpl
  exact run_fnG (us := .ref a :: us) (vs := .ref a :: vs) F hr gu hb I2 (.cons rfl r) q2
/-- o.m() -/
theorem pe_methG0 {pl : Sem Bool} (he : PE X o ta) (c : Cls X.K C) (hm : Meth X.K C m f) (F : FnG X.prog X.w X.K X.mg X.base k f fd ps sp) (hr : Room k X.A) (gu : X.A.guards = some []) (hb : Binds X.K fd ps [])
    (ht : eval (.Call (.Attribute o m apos) [] [] pos) X.env = (do
      let ov ← eval o X.env
      standAt apos.atName
      let (f, first) ← holding [ov] (getMethod ov m pl)
      callWith pos f first (backTo pos (starEach [] X.env)) (backToKw pos (keywordEach [] X.env))) := by rfl) :
    PE X (.Call (.Attribute o m apos) [] [] pos) (tMeth C m sp [] E0 ta tNil) := by
  refine ⟨fun pins s σ H Q I h => ?_⟩
  refine PySem.W.methodCall_KW (pl := pl) (thn (he.run pins s σ H _ I h) fun u s1 ⟨y, H1, I1, rx, a, dx, fs, ex, ea, l, q⟩ => ?_) ht
  subst ex
  obtain rfl : u = Value.ref a := rx
  refine getmeth_ok I1 ea c hm l ?_
  exact PySem.W.callWith_K0 (first := [.ref a]) I1.kIn hm.kp (run_fnG (us := [.ref a]) (vs := [.ref a]) F hr gu hb I1 (.cons rfl .nil) q)
theorem run_makeKG {pins : List (Addr × Obj)} {σ : L2.St} {H : Hp} {s : Shared} {Q : VK} {us ws : List Value} {vs zs : List V} (M : Mk X.K C f) (F : FnG X.prog X.w X.K X.mg X.base k f fd ps sp) (hr : Room (k + 1) X.A) (gu : X.A.guards = some []) (hb : KBn X.K fd ps (n + 1) ks g gV)
    (I : Inv X pins σ H s) (r : Vals vs us) (rz : Vals zs ws) (l1 : vs.length = n) (l2 : zs.length = ks.length)
    (h : ∀ x dx, H x = none → H dx = none → dx ≠ x → sp (gV (.ref x :: vs) zs) (L2.upd (L2.upd H dx (.own x)) x (.ins C dx [])) (fun v H2 => v = .non ∧ Q (.ref x) H2) E0) :
    wpAny (model X.prog X.w) X.A (call (.ref C) us (ks.zip ws)) (EP X pins σ Q) X.xe s := by
  have hq := h (s.heap.objs.size + 1) s.heap.objs.size (I.hok.fresh (Nat.le_succ _)) (I.hok.fresh (Nat.le_refl _)) (Nat.ne_of_lt (Nat.lt_succ_self _))
  have I2 := Inv.made (C := C) I
  have r1 : Vals (V.ref (s.heap.objs.size + 1) :: vs) (Value.ref (s.heap.objs.size + 1) :: us) := .cons rfl r
  have r2 := hb.rel r1 rz
  have n1 : (Value.ref (s.heap.objs.size + 1) :: us).length = n + 1 := by
    rw [List.length_cons, ← r.length, l1]
  have gu2 : (X.A.under (.builtin "type.__call__" ⟨.ref C :: us, ks.zip ws⟩)).guards = some [] := by
    first | exact gu | (simpa [Around.under, Code.isGuard, guardIds] using gu)
  refine wpAny_call (make_map (f := f) I.kIn M.makes M.init (beq_iff_eq.mp M.fn) (codeAny_mono (F.run _ X.stack _ _ ⟨Value.ref (s.heap.objs.size + 1) :: us, ks.zip ws⟩ (g (Value.ref (s.heap.objs.size + 1) :: us) ws) _ _ gu2 (hr.make C us (ks.zip ws))
    (I2.env0.make C us (ks.zip ws)) (hb.to _ (Value.ref (s.heap.objs.size + 1) :: us) ws I2.kIn n1 (rz.length.symm.trans l2)) r2 hq) fun r s' hq' => ?_))
  cases r with
  | error e => exact hq'.elim
  | ok fl =>
    cases fl with
    | ret u =>
      obtain ⟨v, H', I3, rv, ev, q3⟩ := I2.after hq'
      subst ev
      exact ⟨rv, ⟨V.ref (s.heap.objs.size + 1), H', I3, rfl, q3⟩⟩
    | next => exact False.elim hq'
    | brk => exact False.elim hq'
    | cont => exact False.elim hq'
end
end DL

namespace DL
open PySem PySem.Spec PyProof.Rows L2
section
variable {X : Cx} {k n : Nat} {f C : Addr} {fd : FuncData} {ps ks : List Str} {sp : Sp} {x m : Str} {p pos apos : Pos} {e o : Expr} {es : List Expr} {kws : List Keyword} {ta : TE} {t tk : TA} {g : List Value → List Value → List Value} {gV : List V → List V → List V}
/-- C(e, .., k = v, ..) -/
theorem pe_makeKG (M : Mk X.K C f) (F : FnG X.prog X.w X.K X.mg X.base k f fd ps sp) (hr : Room (k + 1) X.A) (gu : X.A.guards = some []) (hg : Gl X x) (hm : X.mg x = some (.ref C)) (hb : KBn X.K fd ps (n + 1) ks g gV) (ha : PA X (e :: es) t) (hkw : PK X kws tk)
    (hall : (backToKw pos (keywordEach kws X.env)).all (·.1.isSome) = true := by rfl) (hks : (backToKw pos (keywordEach kws X.env)).filterMap (·.1) = ks := by rfl) (hdb : (x == ("__debug__" : Str)) = false := by decide)
    (he : starEach (e :: es) X.env = (false, eval e X.env) :: starEach es X.env := by rfl) (hpl : ((backTo pos (starEach (e :: es) X.env)).any (·.1) || (backToKw pos (keywordEach kws X.env)).any (·.1.isNone)) = false := by rfl) :
    PE X (.Call (.Name x p) (e :: es) kws pos) (tMakeK C n ks.length sp gV E0 t tk) := by
  refine ⟨fun pins s σ H Q I h => ?_⟩
  refine wpAny_Call_Name_kw (ld_glob I hg hm ?_ hdb)
  refine PySem.W.callWith_KW (h₀ := X.base) I.ok.mod.kin M.kp hall (thn (ha.run pos pins s σ H _ I h) fun us s1 ⟨vs, H1, I1, r, q⟩ => ?_) hpl he
  refine thn (hkw.run pos pins s1 σ H1 _ I1 q) fun ws s2 ⟨zs, H2, I2, rz, l1, l2, q2⟩ => ⟨I2.kIn, ?_⟩
  rw [hks]
  exact run_makeKG M F hr gu hb I2 r rz l1 l2 q2
end
/-! ### isinstance(x, C), C of the program -/
structure InsF (K : PySem.W.Frag) (C : Addr) : Prop where
  cl : Cls K C
  ha : PySem.W.findIn K (.ref C) "__class__" = some (some (.builtin "object.__class__"))
  hn : PySem.W.specialIn K (.builtin "object.__class__") "__get__" = some (some (.builtin "getset_descriptor.__get__"))
  htk : PySem.W.takesIn K (.builtin "object.__class__") = some true
  hm : PySem.W.mroIn K C (.type "object") = some true
section
variable {K : PySem.W.Frag} {N L M : AP} {H0 H1 H H' : Hp} {σ : L2.St} {es : Env'} {Q : SV → Prop} {C : Addr}
theorem rc_isiO {ds : List (Str × D)} (i : InsF K C) (q : Q (.d (.bl true))) : RC K (rIsi K) [.d (.obj C ds), .cls C] Q := fun N M L H0 H vs bb k o R r => by
  obtain ⟨v, w, rfl, hv, hw⟩ := o.two
  have hw' : w = V.ref C := hw
  subst hw'
  have hv : Is K M H v (.obj C ds) := hv
  cases hv with
  | obj h1 h2 h3 =>
    refine ⟨_, .ref C, .ref C, .ref C, true, rfl, .own C, .base (.ins h1 i.cl i.ha i.hn i.htk i.hm), ?_, r (.d (.bl true)) _ H (Kp.refl (k.bs bb)) (Is.bl true) q⟩
    unfold PySem.W.kitOne
    rw [if_pos (by simp)]
theorem rc_isiC {x : D} {b : Bool} (p : x.plain = true) (hk : PySem.W.kitOne K (.type x.tyN) (.ref C) = some b) (q : Q (.d (.bl b))) : RC K (rIsi K) [.d x, .cls C] Q := fun N M L H0 H vs bb k o R r => by
  obtain ⟨v, w, rfl, hv, hw⟩ := o.two
  have hw' : w = V.ref C := hw
  subst hw'
  exact ⟨v, .ref C, .type x.tyN, .ref C, b, rfl, .own C, Is.ty hv p, hk, r (.d (.bl b)) _ H (Kp.refl (k.bs bb)) (Is.bl b) q⟩
theorem de_clsC (q : Q (.cls C)) : DE K (tC (.ref C)) es Q := fun P N M L σ H S R r => r (.cls C) _ H (Kp.refl S.bs) rfl q
/-! ### repr(o), o == y by the class's own defs -/
theorem rc_reprOwn {ds : List (Str × D)} {pre : List SV → Prop} {post : List SV → SV → Prop} (hp : pre [.d (.obj C ds)]) (q : ∀ r, post [.d (.obj C ds)] r → ∃ z, r = .d (.str z) ∧ Q (.d (.str z))) : RC K (rReprOwn C (spD K 1 pre post)) [.d (.obj C ds)] Q := fun N M L H0 H vs bb k o R r => by
  obtain ⟨v, rfl, hv⟩ := o.one
  have hv' : Is K M H v (.obj C ds) := hv
  have hv2 := hv'
  cases hv' with
  | obj h1 h2 h3 =>
    refine ⟨_, _, _, rfl, h1, M, L, [.d (.obj C ds)], k.bs bb, .cons hv2 .nil, rfl, hp, fun s w H' k2 o2 q2 => ?_⟩
    obtain ⟨z, rfl, q⟩ := q s q2
    cases o2
    exact ⟨z, rfl, r (.d (.str z)) _ H' k2 (Is.str z) q⟩
theorem YTy.of {v : V} {y : D} (h : Is K M H v y) (ok : (∃ ds, y = .obj C ds) ∨ (y.plain = true ∧ y ≠ .tup [])) : ∃ t, YTy K H C v t ∧ (t = .ref C ∨ t = .type y.tyN) := by
  rcases ok with ⟨ds, rfl⟩ | ⟨p, ne⟩
  · cases h with
    | obj h1 h2 h3 => exact ⟨_, .ins h1, .inl rfl⟩
  · cases h with
    | non => exact ⟨_, .non, .inr rfl⟩
    | bl b => exact ⟨_, .bl b, .inr rfl⟩
    | int i => exact ⟨_, .int i, .inr rfl⟩
    | str z => exact ⟨_, .str z, .inr rfl⟩
    | lst h1 h2 h3 => exact ⟨_, .lst h1, .inr rfl⟩
    | tup h1 h3 => exact ⟨_, .tup h1, .inr rfl⟩
    | tup0 h1 => exact absurd rfl ne
    | tupK h1 h3 h4 =>
      obtain ⟨o, its, m, h, hc, _⟩ := h1
      exact ⟨_, .ktup h hc, .inr rfl⟩
    | obj h1 h2 h3 => cases p
theorem eq_own {ds : List (Str × D)} {y : D} {pre : List SV → Prop} {post : List SV → SV → Prop} (ok : (∃ ds, y = .obj C ds) ∨ (y.plain = true ∧ y ≠ .tup [])) (n1 : PySem.W.notFirst K C (.ref C) = true) (n2 : PySem.W.notFirst K C (.type y.tyN) = true) (hp : pre [.d (.obj C ds), .d y]) (q : ∀ r, post [.d (.obj C ds), .d y] r → ∃ b, r = .d (.bl b) ∧ Q (.d (.bl b))) : RR K (rEqOwn K C (spD K 2 pre post)) (.d (.obj C ds)) (.d y) Q := fun N M L H0 H v1 v2 bb k o1 o2 R r => by
  have hv' : Is K M H v1 (.obj C ds) := o1
  have hv2 := hv'
  obtain ⟨t, ht, e⟩ := YTy.of (C := C) (show Is K M H v2 y from o2) ok
  cases hv' with
  | obj h1 h2 h3 =>
    refine ⟨_, _, _, t, rfl, h1, ht, ?_, M, L, [.d (.obj C ds), .d y], k.bs bb, .cons hv2 (.cons o2 .nil), rfl, hp, fun s w H' k2 o3 q2 => ?_⟩
    · rcases e with rfl | rfl
      · exact n1
      · exact n2
    · obtain ⟨b, rfl, q⟩ := q s q2
      cases o3
      exact ⟨b, rfl, r (.d (.bl b)) _ H' k2 (Is.bl b) q⟩
end
end DL
namespace DL
open PySem PySem.Spec PyProof.Rows L2
/-- an f-string's parts, one behind the other -/
def tJoined (ts : List TE) : TE := fun σ H Q => tJs ts Str.empty σ H fun out H1 => Q (.str out) H1
end DL

namespace DL
open PySem PySem.Spec PyProof.Rows L2
section
variable {K : PySem.W.Frag} {P : List Pin} {N L M : AP} {H0 H1 H H' : Hp} {σ : L2.St} {es : Env'} {te : TE} {tt : TT} {Q : SV → Prop}
/-- an f-string -/
def DJ (K : PySem.W.Frag) : List TE → Str → Env' → (Str → Prop) → Prop
  | [], acc, _, Q => Q acc
  | t :: ts, acc, es, Q => DE K t es fun s => ∃ y : Str, s = .d (.str y) ∧ (acc ++ y).length ≤ sizeLine ∧ DJ K ts (acc ++ y) es Q
theorem js_ok : ∀ (ts : List TE) (acc : Str) (q : Str → Prop), DJ K ts acc es q → ∀ P N M L σ H, Sts K P N M L σ H es → ∀ R : Str → Hp → Prop, (∀ z H', Kp L H H' → q z → R z H') → tJs ts acc σ H R
  | [], acc, q, h, P, N, M, L, σ, H, S, R, k => k acc H (Kp.refl S.bs) h
  | t :: ts, acc, q, h, P, N, M, L, σ, H, S, R, k => by
    refine (show DE K t es _ from h) P N M L σ H S _ fun s v H1 k1 ok q1 => ?_
    obtain ⟨y, rfl, hz, q1⟩ := q1
    cases ok
    exact ⟨y, rfl, hz, js_ok ts (acc ++ y) q q1 P N M L σ H1 (S.kp k1) R fun z H' k2 qz => k z H' (k1.trans k2) qz⟩
theorem de_joined {ts : List TE} (h : DJ K ts Str.empty es fun z => Q (.d (.str z))) : DE K (tJoined ts) es Q := fun P N M L σ H S R k =>
  js_ok ts Str.empty _ h P N M L σ H S _ fun z H' k1 q => k (.d (.str z)) _ H' k1 (Is.str z) q
theorem de_fmtS (h : DE K te es fun s => ∃ y : Str, s = .d (.str y) ∧ y.length ≤ sizeLine ∧ Q (.d (.str y))) : DE K (tFmt te) es Q := fun P N M L σ H S R k => by
  refine h P N M L σ H S _ fun s v H1 k1 ok q => ?_
  obtain ⟨y, rfl, hz, q⟩ := q
  cases ok
  exact .inl ⟨y, rfl, hz, k (.d (.str y)) _ H1 k1 (Is.str y) q⟩
theorem de_fmtI (h : DE K te es fun s => ∃ i : Int, s = .d (.int i) ∧ i.natAbs.log2 < 1920 ∧ Q (.d (.str (toString i)))) : DE K (tFmt te) es Q := fun P N M L σ H S R k => by
  refine h P N M L σ H S _ fun s v H1 k1 ok q => ?_
  obtain ⟨i, rfl, hz, q⟩ := q
  cases ok
  exact .inr ⟨i, rfl, hz, k (.d (.str (toString i))) _ H1 k1 (Is.str _) q⟩
/-- [e for x in xs if t], xs a tuple -/
theorem de_lcT {g : TG} {vs : List Nat} {tl : TE} (h : DE K tl es fun s => ∃ xs, s = .d (.tup xs) ∧ xs.length ≤ 100000 ∧ ∃ J : Nat → List D → Prop, J 0 [] ∧
    (∀ (i : Nat) x, xs[i]? = some x → LcT K g tt te vs es J i x) ∧ ∀ ds, J xs.length ds → ds.length ≤ xs.length → Q (.new ds)) : DE K (tLc (iTup K tl) g tt te vs) es Q := fun P N M L σ H S R k => by
  refine h P N M L σ H S _ fun s v H1 k1 o1 q1 => ?_
  obtain ⟨xs, rfl, b, J, h0, hs, hd⟩ := q1
  have hx : Is K M H1 v (.tup xs) := o1
  obtain ⟨a, ws, rfl, g1, g3⟩ := Is.tupS hx
  refine ⟨a, rfl, ⟨ws, g1⟩, fun D0 hD => ?_⟩
  obtain ⟨p0, old, nl⟩ := lc_start (S.kp k1) hD h0
  have bs1 := (S.kp k1).bs
  have tk : ∀ {i : Nat} {H : Hp}, LcP K P N M L σ es H1 D0 J i H → TK K H1 H := fun {i H} p => sqt_keep (M := M) (fun b o m e => p.kp.k b o (fun l => m (bs1.lm b l)) e) bs1.tr
  refine lc_tup (K := K) (a := a) (xs := ws) (LcP K P N M L σ es H1 D0 J) p0 (fun i H hi p => (tk p).s _ _ g1) (fun i x H hx p => ?_) fun H p => ?_
  · obtain ⟨d, hd', ix⟩ := g3.getV hx
    have ia : Is K (M.add D0) H x d := by
      refine Is.chg (fun b o e m => ⟨p.kp.k b o (fun l => m (.inl (bs1.lm b l))) e, m⟩) (tk p) _ _ (ix.add hD)
    have hi : i < 100000 := by
      have := (List.getElem?_eq_some_iff.mp hd').1
      omega
    exact lc_turn old nl hD hi p ia (hs i d hd')
  · rw [g3.len] at p
    obtain ⟨kk, ds, ok, q⟩ := lc_end k1 hD p hd
    exact k _ _ _ kk ok q
end
theorem kit_own {K : PySem.W.Frag} {C : Addr} {T : String} (h1 : PySem.W.isClsIn K C = true) (h2 : PySem.W.typeIn K (.ref C) = some (.type "type")) (h3 : PySem.W.subIn K (.type T) (.ref C) = some false) : PySem.W.kitOne K (.type T) (.ref C) = some false := by
  have h1' : (PySem.W.clsIn K C).isSome = true := h1
  unfold PySem.W.kitOne
  rw [if_neg (by simp)]
  unfold PySem.W.kitCls
  show (if ((PySem.W.clsIn K C).isSome && PySem.W.typeIn K (.ref C) == some (.type "type")) = true then PySem.W.subIn K (.type T) (.ref C) else none) = some false
  rw [h1', h2, if_pos (by simp)]
  exact h3
end DL

namespace DL
open PySem PySem.Spec PyProof.Rows L2
/-! ### calls with defaults and by names -/
def pick {α : Type} (ix : List Nat) (l : List α) : List α := ix.filterMap fun i => l[i]?
theorem Vals.get' : ∀ {vs : List V} {us : List Value} (i : Nat), Vals vs us → (vs[i]? = none ∧ us[i]? = none) ∨ ∃ v u, vs[i]? = some v ∧ us[i]? = some u ∧ RelV v u
  | _, _, _, .nil => .inl ⟨by simp, by simp⟩
  | _, _, 0, .cons r _ => .inr ⟨_, _, by simp, by simp, r⟩
  | _, _, i + 1, .cons _ t => by
    rcases Vals.get' i t with ⟨a, b⟩ | ⟨v, u, a, b, c⟩
    · exact .inl ⟨by simpa using a, by simpa using b⟩
    · exact .inr ⟨v, u, by simpa using a, by simpa using b, c⟩
theorem Vals.pick {vs : List V} {us : List Value} (r : Vals vs us) : ∀ ix : List Nat, Vals (DL.pick ix vs) (DL.pick ix us)
  | [] => .nil
  | i :: ix => by
    have ih := Vals.pick r ix
    unfold DL.pick at ih ⊢
    rw [List.filterMap_cons, List.filterMap_cons]
    rcases Vals.get' i r with ⟨a, b⟩ | ⟨v, u, a, b, c⟩
    · rw [a, b]; exact ih
    · rw [a, b]; exact .cons c ih
theorem SvAll.getB {K : PySem.W.Frag} {N M L : AP} {H0 H : Hp} : ∀ {vs : List V} {ss : List SV} (i : Nat), SvAll K N M L H0 H vs ss → (vs[i]? = none ∧ ss[i]? = none) ∨ ∃ v s, vs[i]? = some v ∧ ss[i]? = some s ∧ SvOk K N M L H0 H v s
  | _, _, _, .nil => .inl ⟨by simp, by simp⟩
  | _, _, 0, .cons r _ => .inr ⟨_, _, by simp, by simp, r⟩
  | _, _, i + 1, .cons _ t => by
    rcases SvAll.getB i t with ⟨a, b⟩ | ⟨v, u, a, b, c⟩
    · exact .inl ⟨by simpa using a, by simpa using b⟩
    · exact .inr ⟨v, u, by simpa using a, by simpa using b, c⟩
theorem SvAll.pick {K : PySem.W.Frag} {N M L : AP} {H0 H : Hp} {vs : List V} {ss : List SV} (r : SvAll K N M L H0 H vs ss) : ∀ ix : List Nat, SvAll K N M L H0 H (DL.pick ix vs) (DL.pick ix ss)
  | [] => .nil
  | i :: ix => by
    have ih := SvAll.pick r ix
    unfold DL.pick at ih ⊢
    rw [List.filterMap_cons, List.filterMap_cons]
    rcases SvAll.getB i r with ⟨a, b⟩ | ⟨v, u, a, b, c⟩
    · rw [a, b]; exact ih
    · rw [a, b]; exact .cons c ih
theorem SvAll.append {K : PySem.W.Frag} {N M L : AP} {H0 H : Hp} : ∀ {vs ws : List V} {ss us : List SV}, SvAll K N M L H0 H vs ss → SvAll K N M L H0 H ws us → SvAll K N M L H0 H (vs ++ ws) (ss ++ us)
  | _, _, _, _, .nil, s => s
  | _, _, _, _, .cons r t, s => .cons r (SvAll.append t s)
section
variable {P : Program} {w : World} {K : PySem.W.Frag} {mg : Str → Option Value} {base : Heap}
/-- okG for a def with defaults -/
theorem okGD {x qual : Str} {st : Stmt} {f : Addr} {fd : FuncData} {N ps : List Str} {k : Nat} {sp : Sp} {dvs : List V} {kws : List (Str × V)} (F : FunD K x qual (defArgs st) (defBody st) (defScope st) dvs kws f fd) (S : FnScope N ps (defScope st)) (len : ∀ vs H Q E, sp vs H Q E → vs.length = ps.length)
    (hb : ∀ (cdv : Value) (A : Around) (fr : List Env) (s : Shared) (H : Hp) (vs : List V) (Q : VK), A.guards = some [] → Room k (A.deeper (envOfC qual (defScope st) s.heap.objs.size f cdv)) → sp vs H Q E0 →
      ∃ t, PSs (cxOf CX0 P w K mg base N qual (defScope st) f cdv A fr s H E0).nox (defBody st) t ∧ t { nx := fun _ H' => Q .non H', rt := Q } (start N vs) H) : FnG P w K mg base (k + 1) f fd ps sp := by
  obtain ⟨oc, od, dV, kV, doc, pm, an, cdv, ct, osl, rfl, lk, hcd, _, _⟩ := F.ex
  constructor
  · exact len
  intro A fr s H ar us vs Q hg hr e0 hbi rv hsp
  have up : ∀ b o, base.get? b = some o → s.heap.get? b = some o := fun b o e => (e0.bs b o e).1
  have kin : K.In s.heap := e0.mod.kin.keeps up
  have room := hr.deeper (envOfC qual (defScope st) s.heap.objs.size f cdv)
  refine codeAny_call_function hr.depth (kin f _ lk) rfl S.co S.gen rfl (PySem.W.codeRec_of kin hcd) ?_
  refine hbi _ _ _ _ ?_
  have kinds : ∀ y ∈ ps.zip us, (defScope st).names.lookup y.1 = some .local ∨ ((defScope st).names.lookup y.1 = some .cell ∧ ((cellsFrom (s.heap.objs.size + 1) (defScope st).names []).lookup y.1).isSome = true) := by
    rintro ⟨n, v⟩ hy
    have hn := S.par n (List.of_mem_zip hy).1
    exact hn.imp id fun q => ⟨q, PySem.W.cellsFrom_some _ _ _ (.inl q)⟩
  refine wpAny_newFunctionEnv_cells S.kind kinds ?_
  rintro env rfl s1 x
  constructor
  · exact (e0.mod.nolimit.keeps up).keeps x.toInCall.keep
  refine codeAny_func ?_
  obtain ⟨t, ht, hq⟩ := hb cdv A fr s H vs Q hg room hsp
  have inv := inv_start (CX := CX0) (E := E0) (cd := cdv) (f := f) S hr.hd e0 (len vs H Q E0 hsp) rv x
  refine wpAny_mono (ht.nox.run [] s1 (start N vs) H _ inv hq) ?_ (fun _ _ h => h)
  intro fl s2 h2
  match fl, h2 with
  | .ret u, h2 =>
    obtain ⟨v, σ2, H2, J, r2, q⟩ := h2
    exact ⟨v, H2, J.os, J.bare, J.base, J.hok, r2, q⟩
  | .next, h2 =>
    obtain ⟨σ2, H2, J, q⟩ := h2
    exact ⟨V.non, H2, J.os, J.bare, J.base, J.hok, rfl, q⟩
  | .brk, h2 =>
    obtain ⟨_, _, _, q⟩ := h2
    exact q.elim
  | .cont, h2 =>
    obtain ⟨_, _, _, q⟩ := h2
    exact q.elim
end
section
variable {X : Cx} {k n : Nat} {f C : Addr} {fd : FuncData} {ps ks : List Str} {sp : Sp} {x : Str} {p pos : Pos} {e : Expr} {es : List Expr} {kws : List Keyword} {t tk : TA} {g : List Value → List Value → List Value} {gV : List V → List V → List V}
/-- f(e, .., k = v, ..) -/
theorem pe_callGN (F : FnG X.prog X.w X.K X.mg X.base k f fd ps sp) (hr : Room k X.A) (gu : X.A.guards = some []) (hg : Gl X x) (hm : X.mg x = some (.ref f)) (hk : PySem.W.keepIn X.K (.ref f) = true) (hb : KBn X.K fd ps n ks g gV)
    (ha : PA X (e :: es) t) (hkw : PK X kws tk) (hall : (backToKw pos (keywordEach kws X.env)).all (·.1.isSome) = true := by rfl) (hks : (backToKw pos (keywordEach kws X.env)).filterMap (·.1) = ks := by rfl)
    (hdb : (x == ("__debug__" : Str)) = false := by decide) (he : starEach (e :: es) X.env = (false, eval e X.env) :: starEach es X.env := by rfl)
    (hpl : ((backTo pos (starEach (e :: es) X.env)).any (·.1) || (backToKw pos (keywordEach kws X.env)).any (·.1.isNone)) = false := by rfl) :
    PE X (.Call (.Name x p) (e :: es) kws pos) (tCallN n ks.length sp gV E0 t tk) := by
  refine ⟨fun pins s σ H Q I h => ?_⟩
  refine wpAny_Call_Name_kw (ld_glob I hg hm ?_ hdb)
  refine PySem.W.callWith_KW (h₀ := X.base) I.ok.mod.kin hk hall (thn (ha.run pos pins s σ H _ I h) fun us s1 ⟨vs, H1, I1, r, q⟩ => ?_) hpl he
  refine thn (hkw.run pos pins s1 σ H1 _ I1 q) fun ws s2 ⟨zs, H2, I2, rz, l1, l2, q2⟩ => ⟨I2.kIn, ?_⟩
  rw [hks]
  exact runG F hr gu I2 (hb.to s2 us ws I2.kIn (r.length.symm.trans l1) (rz.length.symm.trans l2)) (hb.rel r rz) q2
/-- f(k = v, ..) -/
theorem pe_callG0N (F : FnG X.prog X.w X.K X.mg X.base k f fd ps sp) (hr : Room k X.A) (gu : X.A.guards = some []) (hg : Gl X x) (hm : X.mg x = some (.ref f)) (hk : PySem.W.keepIn X.K (.ref f) = true) (hb : KBn X.K fd ps 0 ks g gV)
    (hkw : PK X kws tk) (hall : (backToKw pos (keywordEach kws X.env)).all (·.1.isSome) = true := by rfl) (hks : (backToKw pos (keywordEach kws X.env)).filterMap (·.1) = ks := by rfl) (hdb : (x == ("__debug__" : Str)) = false := by decide)
    (hpl : ((backTo pos (starEach [] X.env)).any (·.1) || (backToKw pos (keywordEach kws X.env)).any (·.1.isNone)) = false := by rfl) : PE X (.Call (.Name x p) [] kws pos) (tCallN 0 ks.length sp gV E0 tNil tk) := by
  constructor
  intro pins s σ H Q I h
  refine wpAny_Call_Name_kw (ld_glob I hg hm ?_ hdb)
  refine PySem.W.callWith_KW0 (h₀ := X.base) I.ok.mod.kin hk hall ?_ hpl
  refine thn (hkw.run pos pins s σ H _ I h) ?_
  rintro ws s2 ⟨zs, H2, I2, rz, l1, l2, q2⟩
  refine ⟨I2.kIn, ?_⟩
  rw [hks]
  exact runG F hr gu I2 (hb.to s2 [] ws I2.kIn rfl (rz.length.symm.trans l2)) (hb.rel .nil rz) q2
/-- f(e, ..), defaults fill up -/
theorem pe_callGP (F : FnG X.prog X.w X.K X.mg X.base k f fd ps sp) (hr : Room k X.A) (gu : X.A.guards = some []) (hg : Gl X x) (hm : X.mg x = some (.ref f)) (hk : PySem.W.keepIn X.K (.ref f) = true) (hb : KBn X.K fd ps n [] g gV)
    (ha : PA X (e :: es) t) (hdb : (x == ("__debug__" : Str)) = false := by decide) (he : starEach (e :: es) X.env = (false, eval e X.env) :: starEach es X.env := by rfl) (hpl : (backTo pos (starEach es X.env)).any (·.1) = false := by rfl) :
    PE X (.Call (.Name x p) (e :: es) [] pos) (tCallN n 0 sp gV E0 t tNil) := by
  constructor
  intro pins s σ H Q I h
  refine wpAny_Call_Name_kw (ld_glob I hg hm ?_ hdb)
  refine PySem.W.callWith_K (h₀ := X.base) I.ok.mod.kin hk (thn (ha.run pos pins s σ H _ I h) ?_) he hpl
  rintro us s1 ⟨vs, H1, I1, r, l1, l2, q⟩
  exact ⟨I1.kIn, runG (kw := []) F hr gu I1 (hb.to s1 us [] I1.kIn (r.length.symm.trans l1) rfl) (hb.rel r .nil) q⟩
/-- C(e, ..), defaults fill up -/
theorem pe_makeGP (M : Mk X.K C f) (F : FnG X.prog X.w X.K X.mg X.base k f fd ps sp) (hr : Room (k + 1) X.A) (gu : X.A.guards = some []) (hg : Gl X x) (hm : X.mg x = some (.ref C)) (hb : KBn X.K fd ps (n + 1) [] g gV) (ha : PA X (e :: es) t)
    (hdb : (x == ("__debug__" : Str)) = false := by decide) (he : starEach (e :: es) X.env = (false, eval e X.env) :: starEach es X.env := by rfl) (hpl : (backTo pos (starEach es X.env)).any (·.1) = false := by rfl) :
    PE X (.Call (.Name x p) (e :: es) [] pos) (tMakeK C n 0 sp gV E0 t tNil) := by
  refine ⟨fun pins s σ H Q I h => ?_⟩
  refine wpAny_Call_Name_kw (ld_glob I hg hm ?_ hdb)
  refine PySem.W.callWith_K (h₀ := X.base) I.ok.mod.kin M.kp (thn (ha.run pos pins s σ H _ I h) ?_) he hpl
  rintro us s1 ⟨vs, H1, I1, r, l1, l2, q⟩
  exact ⟨I1.kIn, run_makeKG (ks := []) (ws := []) (zs := []) M F hr gu hb I1 r .nil l1 rfl q⟩
/-- C(k = v, ..) -/
theorem pe_makeG0 (M : Mk X.K C f) (F : FnG X.prog X.w X.K X.mg X.base k f fd ps sp) (hr : Room (k + 1) X.A) (gu : X.A.guards = some []) (hg : Gl X x) (hm : X.mg x = some (.ref C)) (hb : KBn X.K fd ps 1 ks g gV) (hkw : PK X kws tk)
    (hall : (backToKw pos (keywordEach kws X.env)).all (·.1.isSome) = true := by rfl) (hks : (backToKw pos (keywordEach kws X.env)).filterMap (·.1) = ks := by rfl) (hdb : (x == ("__debug__" : Str)) = false := by decide)
    (hpl : ((backTo pos (starEach [] X.env)).any (·.1) || (backToKw pos (keywordEach kws X.env)).any (·.1.isNone)) = false := by rfl) :
    PE X (.Call (.Name x p) [] kws pos) (tMakeK C 0 ks.length sp gV E0 tNil tk) := by
  refine ⟨fun pins s σ H Q I h => ?_⟩
  refine wpAny_Call_Name_kw (ld_glob I hg hm ?_ hdb)
  refine PySem.W.callWith_KW0 (h₀ := X.base) I.ok.mod.kin M.kp hall ?_ hpl
  refine thn (hkw.run pos pins s σ H _ I h) fun ws s2 ⟨zs, H2, I2, rz, l1, l2, q2⟩ => ⟨I2.kIn, ?_⟩
  rw [hks]
  exact run_makeKG (us := []) (vs := []) M F hr gu hb I2 .nil rz rfl l2 q2
end
section
variable {K : PySem.W.Frag} {N L M : AP} {H0 H1 H H' : Hp} {σ : L2.St} {es : Env'} {Q : SV → Prop} {pre : List SV → Prop} {post : List SV → SV → Prop}
/-- the things in their places: written ones, defaults ds, named ones -/
theorem de_callN {n m N' : Nat} {t tk : TA} {ix : List Nat} {dv : List V} {dS : List SV} {E : XK} (hd : ∀ (N M L : AP) (H0 H : Hp), SvAll K N M L H0 H dv dS)
    (h : DA K t es fun ss => DA K tk es fun us => nownAll ss ∧ nownAll us ∧ ss.length = n ∧ us.length = m ∧ (pick ix (ss.map SV.arg ++ dS ++ us.map SV.arg)).length = N' ∧ pre (pick ix (ss.map SV.arg ++ dS ++ us.map SV.arg)) ∧ ∀ r, post (pick ix (ss.map SV.arg ++ dS ++ us.map SV.arg)) r → Q r) :
    DE K (tCallN n m (spD K N' pre post) (fun vs zs => pick ix (vs ++ dv ++ zs)) E t tk) es Q := fun P N M L σ H S R k => by
  refine h P N M L σ H S _ fun ss vs H1 k1 o1 q1 => ?_
  refine q1 P N M L σ H1 (S.kp k1) _ fun us zs H2 k2 o2 q2 => ?_
  obtain ⟨n1, n2, l1, l2, l3, hp, q⟩ := q2
  have k12 := k1.trans k2
  refine ⟨by rw [o1.len]; exact l1, by rw [o2.len]; exact l2, M, L, _, k12.bs S.bs, ((((o1.kp S.bs k1 k2).args S.bs k12 n1).append (hd NO M L H2 H2)).append (o2.args (k1.bs S.bs) k2 n2)).pick ix, l3, hp, fun r v H' k3 o3 q3 => ?_⟩
  exact k r v H' (k12.trans k3) ((SvOk.noN o3).back k12) (q r q3)
theorem hg_make {ix : List Nat} {dv : List V} {dS : List SV} (hd : ∀ (N M L : AP) (H0 H : Hp), SvAll K N M L H0 H dv dS) {gV : List V → List V → List V} (hgV : ∀ (x : V) (vs zs : List V), gV (x :: vs) zs = x :: pick ix (vs ++ dv ++ zs)) :
    ∀ {N M L : AP} {H0 H : Hp} {x : Addr} {vs zs : List V} {ss us : List SV}, SvAll K N M L H0 H vs ss → SvAll K N M L H0 H zs us → ∃ ws, gV (.ref x :: vs) zs = .ref x :: ws ∧ SvAll K N M L H0 H ws (pick ix (ss ++ dS ++ us)) := fun {N M L H0 H x vs zs ss us} a b =>
  ⟨_, hgV _ _ _, ((a.append (hd N M L H0 H)).append b).pick ix⟩
/-- C(..) -/
theorem de_makeN {n l N' : Nat} {C : Addr} {t tk : TA} {ix : List Nat} {dv : List V} {dS : List SV} {gV : List V → List V → List V} {post : List SV → List (Str × D) → Prop} {E : XK} (hd : ∀ (N M L : AP) (H0 H : Hp), SvAll K N M L H0 H dv dS) (hgV : ∀ (x : V) (vs zs : List V), gV (x :: vs) zs = x :: pick ix (vs ++ dv ++ zs))
    (h : DA K t es fun ss => DA K tk es fun us => nownAll ss ∧ nownAll us ∧ ss.length = n ∧ us.length = l ∧ (pick ix (ss.map SV.arg ++ dS ++ us.map SV.arg)).length = N' ∧ pre (pick ix (ss.map SV.arg ++ dS ++ us.map SV.arg)) ∧ ∀ ds, post (pick ix (ss.map SV.arg ++ dS ++ us.map SV.arg)) ds → Q (.d (.obj C ds))) :
    DE K (tMakeK C n l (spI K C N' pre post) gV E t tk) es Q :=
  de_make (gS := fun ss us => pick ix (ss ++ dS ++ us)) (fun a b _ _ => hg_make hd hgV a b) h
theorem svi {N M L : AP} {H0 H : Hp} {i : Int} {vs : List V} {ss : List SV} (t : SvAll K N M L H0 H vs ss) : SvAll K N M L H0 H (.int i :: vs) (.d (.int i) :: ss) := .cons (Is.int i) t
theorem svt {N M L : AP} {H0 H : Hp} {a : Addr} (h : ∀ H : Hp, SqT K H a []) {vs : List V} {ss : List SV} (t : SvAll K N M L H0 H vs ss) : SvAll K N M L H0 H (.ref a :: vs) (.d (.tup []) :: ss) := .cons (Is.tup0 (h H)) t
theorem sqt_of {a : Addr} {o : Obj} {m : Nat} (h : K.lookup a = some o) (h1 : o.cls = .type "tuple") (h2 : o.data = .seq #[] m) : ∀ H : Hp, SqT K H a [] := fun H => .inr ⟨o, #[], m, h, h1, h2, Nat.zero_le _, .nil⟩
end
end DL
namespace DL
open PySem PySem.Spec PyProof.Rows L2
section
variable {K : PySem.W.Frag} {D : Addr}
theorem kwd_nil : ∀ q ∈ ([] : List (Str × V)), ∃ u, PySem.W.nsIn K D q.1 = some (some u) ∧ RelV q.2 u := fun q h => by cases h
theorem kwd_cons {x : Str} {v : V} {u : Value} {l : List (Str × V)} (h : PySem.W.nsIn K D x = some (some u)) (r : RelV v u) (t : ∀ q ∈ l, ∃ u, PySem.W.nsIn K D q.1 = some (some u) ∧ RelV q.2 u) : ∀ q ∈ (x, v) :: l, ∃ u, PySem.W.nsIn K D q.1 = some (some u) ∧ RelV q.2 u := fun q hq => by
  rcases List.mem_cons.mp hq with rfl | hq
  · exact ⟨u, h, r⟩
  · exact t q hq
def rShr : R2 := rI (fun _ j => 0 ≤ j) fun i j => .int (i / 2 ^ j.toNat)
def rAnd : R2 := rI0 fun i j => .int (Builtin.bitAnd i j)
end
end DL

namespace DL
open PySem PySem.Spec PyProof.Rows L2
/-! ### promises with a thing that tells the arguments -/
def spQ {α : Type} (K : PySem.W.Frag) (n : Nat) (args : α → List SV) (pre : α → Prop) (post : α → SV → Prop) : Sp := fun vs H Q E => ∃ x : α, spD K n (fun ss => ss = args x ∧ pre x) (fun _ r => post x r) vs H Q E
section
variable {α : Type} {K : PySem.W.Frag} {N L M : AP} {H0 H1 H H' : Hp} {σ : L2.St} {es : Env'} {ta : TE} {tr : TA} {Q : SV → Prop} {t : TS} {n : Nat} {args : α → List SV} {pre : α → Prop} {post : α → SV → Prop} {C : Addr} {m : Str}
theorem spQ.len {vs : List V} {R : VK} {E : XK} (h : spQ K n args pre post vs H R E) : vs.length = n := by
  obtain ⟨x, h⟩ := h
  exact spD.len h
theorem bodyQ {names : List Str} {vs : List V} {R : VK} {E : XK} (h : spQ K n args pre post vs H R E) (hb : ∀ x, pre x → DS K t (startE names.length (args x)) { nx := fun _ => post x (.d .non), rt := post x }) :
    t { nx := fun _ H' => R .non H', rt := R } (L2.start names vs) H := by
  obtain ⟨x, h⟩ := h
  exact body_of h fun ss hl hp => by
    obtain ⟨rfl, hp⟩ := hp
    exact hb x hp
theorem de_callQ {E : XK} (h : DA K tr es fun ss => nownAll ss ∧ ∃ x, ss.map SV.arg = args x ∧ ss.length = n ∧ pre x ∧ ∀ r, post x r → Q r) : DE K (tCall (spQ K n args pre post) [] E tr) es Q := fun P N M L σ H S R k => by
  refine h P N M L σ H S _ fun ss vs H1 k1 o1 q1 => ?_
  obtain ⟨hn, x, e, hl, hp, q⟩ := q1
  rw [List.append_nil]
  have a := o1.args S.bs k1 hn
  refine ⟨x, M, L, ss.map SV.arg, k1.bs S.bs, a, by rw [List.length_map]; exact hl, ⟨e, hp⟩, fun r v H' k2 o2 q2 => ?_⟩
  exact k r v H' (k1.trans k2) ((SvOk.noN o2).back k1) (q r q2)
theorem de_callNQ {n m N' : Nat} {t tk : TA} {ix : List Nat} {dv : List V} {dS : List SV} {E : XK} (hd : ∀ (N M L : AP) (H0 H : Hp), SvAll K N M L H0 H dv dS)
    (h : DA K t es fun ss => DA K tk es fun us => nownAll ss ∧ nownAll us ∧ ss.length = n ∧ us.length = m ∧ ∃ x, pick ix (ss.map SV.arg ++ dS ++ us.map SV.arg) = args x ∧ (args x).length = N' ∧ pre x ∧ ∀ r, post x r → Q r) :
    DE K (tCallN n m (spQ K N' args pre post) (fun vs zs => pick ix (vs ++ dv ++ zs)) E t tk) es Q := fun P N M L σ H S R k => by
  refine h P N M L σ H S _ fun ss vs H1 k1 o1 q1 => ?_
  refine q1 P N M L σ H1 (S.kp k1) _ fun us zs H2 k2 o2 q2 => ?_
  obtain ⟨n1, n2, l1, l2, x, e, l3, hp, q⟩ := q2
  have k12 := k1.trans k2
  refine ⟨by rw [o1.len]; exact l1, by rw [o2.len]; exact l2, x, M, L, _, k12.bs S.bs, ((((o1.kp S.bs k1 k2).args S.bs k12 n1).append (hd NO M L H2 H2)).append (o2.args (k1.bs S.bs) k2 n2)).pick ix, by rw [e]; exact l3, ⟨e, hp⟩, fun r v H' k3 o3 q3 => ?_⟩
  exact k r v H' (k12.trans k3) ((SvOk.noN o3).back k12) (q r q3)
/-- o.m(..), a method of its class -/
theorem de_methQ {E : XK} (h : DE K ta es fun s => ∃ ds, s = .d (.obj C ds) ∧ ds.lookup m = none ∧ DA K tr es fun ss => nownAll ss ∧ ∃ x, s :: ss.map SV.arg = args x ∧ (args x).length = n ∧ pre x ∧ ∀ r, post x r → Q r) : DE K (tMeth C m (spQ K n args pre post) [] E ta tr) es Q := fun P N M L σ H S R k => by
  refine h P N M L σ H S _ fun s v H1 k1 ok q => ?_
  obtain ⟨ds, rfl, hl, q⟩ := q
  have ok' : Is K M H1 v (.obj C ds) := ok
  have hv := ok'
  cases ok' with
  | obj h1 h2 h3 =>
    refine ⟨_, _, _, rfl, h1, h3.lookN hl, q P N M L σ H1 (S.kp k1) _ fun ss vs H2 k2 o2 q2 => ?_⟩
    obtain ⟨hn, x, e, hlen, hp, q2⟩ := q2
    rw [List.append_nil]
    have bs1 := k1.bs S.bs
    refine ⟨x, M, L, .d (.obj C ds) :: ss.map SV.arg, k2.bs bs1, .cons (Is.kp k2 bs1 hv) (o2.args bs1 k2 hn), by rw [e]; exact hlen, ⟨e, hp⟩, fun r w H3 k3 o3 q3 => ?_⟩
    exact k r w H3 ((k1.trans k2).trans k3) ((SvOk.noN o3).back (k1.trans k2)) (q2 r q3)
theorem pick_self {α : Type} (ix : List Nat) (x : α) (l : List α) : pick (0 :: ix.map (· + 1)) (x :: l) = x :: pick ix l := by
  unfold pick
  rw [List.filterMap_cons]
  show x :: _ = _
  rw [List.filterMap_map]
  rfl
theorem hgv {ix : List Nat} {dv : List V} (x : V) (vs zs : List V) : (fun vs zs => pick (0 :: ix.map (· + 1)) (vs ++ dv ++ zs)) (x :: vs) zs = x :: pick ix (vs ++ dv ++ zs) := pick_self ix x (vs ++ dv ++ zs)
end
end DL

namespace DL
open PySem PySem.Spec PyProof.Rows L2
/-! ### what is let out -/
abbrev XP := Addr → Str → D → Prop
def XOk (K : PySem.W.Frag) (F : Fr) (E : XK) (xp : XP) : Prop := ∀ (C dd : Addr) (f : Str) (v : V) (d : D) (H' : Hp), Kp F.L F.H0 H' → F.H0 dd = none → H' dd = some (.xd [(f, v)]) → Is K F.M0 H' v d → xp C f d → E (.ref C) (some dd) H'
def spX {α : Type} (K : PySem.W.Frag) (n : Nat) (args : α → List SV) (pre : α → Prop) (post : α → SV → Prop) (xp : α → XP) : Sp := fun vs H Q E => ∃ (x : α) (M L : AP), Bs L M H ∧ SvAll K NO M L H H vs (args x) ∧ (args x).length = n ∧ pre x ∧ (∀ r v H', Kp L H H' → SvOk K NO M L H H' v r → post x r → Q v H') ∧ XOk K ⟨M, L, H⟩ E (xp x)
/-- defs that may let an own error out, where no repr is under way -/
structure FnX (P : Program) (w : World) (K : PySem.W.Frag) (mg : Str → Option Value) (base : Heap) (k : Nat) (f : Addr) (fd : FuncData) (ps : List Str) (sp : Sp) : Prop where
  len : ∀ vs H Q E, sp vs H Q E → vs.length = ps.length
  run : ∀ (A : Around) (fr : List Env) (s : Shared) (H : Hp) (ar : Args) (us : List Value) (vs : List V) (Q : VK) (E : XK), A.guards = some [] → Room k A → Env0 P w K mg base A fr s H →
    BindsTo s fd ar (ps.zip us) → Vals vs us → sp vs H Q E → codeAny (model P w) A (.call (.ref f) ar) (CR (L2.CX P w) fr P w H s Q E) s
section
variable {P : Program} {w : World} {K : PySem.W.Frag} {mg : Str → Option Value} {base : Heap}
theorem okX0 {k : Nat} {f : Addr} {name qual : Str} {params : Arguments} {body : List Stmt} {scope : Scope} {dV kV doc pm cdv ct oc : Value} {an od : Option Addr}
    {osl : Array (Option Value)} {N ps : List Str} {sp : Sp} (lk : K.lookup f = some ⟨oc, od, .func (PySem.W.fnOf name qual params body scope dV kV doc pm an cdv ct), osl⟩) (hcd : PySem.W.codeIn K cdv qual = true) (S : FnScope N ps scope)
    (len : ∀ vs H Q E, sp vs H Q E → vs.length = ps.length)
    (hbody : ∀ (A : Around) (outer : List Env) (s : Shared) (H : Hp) (vs : List V) (Q : VK) (E : XK), A.guards = some [] → Room k (A.deeper (envOfC qual scope s.heap.objs.size f cdv)) → sp vs H Q E →
      ∃ t, PSs (cxOf (L2.CX P w) P w K mg base N qual scope f cdv A outer s H E) body t ∧ t { nx := fun _ H' => Q .non H', rt := Q } (start N vs) H) :
    FnX P w K mg base (k + 1) f (PySem.W.fnOf name qual params body scope dV kV doc pm an cdv ct) ps sp := by
  refine ⟨len, fun A outer s H args us vs Q E hg hr e0 hb r hsp => ?_⟩
  have hl := len _ _ _ _ hsp
  have KX : K.In s.heap := e0.mod.kin.keeps fun b o e => (e0.bs b o e).1
  have lim : s.heap.NoLimit := e0.mod.nolimit.keeps fun b o e => (e0.bs b o e).1
  have hkind : ∀ y ∈ ps.zip us, scope.names.lookup y.1 = some .local ∨ (scope.names.lookup y.1 = some .cell ∧ ((cellsFrom (s.heap.objs.size + 1) scope.names []).lookup y.1).isSome = true) := fun ⟨n, v⟩ hy => by
    rcases S.par n (List.of_mem_zip hy).1 with q | q
    · exact .inl q
    · exact .inr ⟨q, PySem.W.cellsFrom_some _ _ _ (.inl q)⟩
  refine codeAny_call_function hr.depth (KX _ _ lk) rfl S.co S.gen rfl (PySem.W.codeRec_of KX hcd) (hb _ _ _ _ ?_)
  refine wpAny_newFunctionEnv_cells S.kind hkind fun env he s1 x => ?_
  subst he
  refine ⟨lim.keeps x.toInCall.keep, codeAny_func ?_⟩
  obtain ⟨t, ht, hq⟩ := hbody A outer s H vs Q E hg (hr.deeper _) hsp
  have I : Inv (cxOf (L2.CX P w) P w K mg base N qual scope f cdv A outer s H E) [] (start N vs) H s1 := inv_start S hr.hd e0 hl r x
  refine wpAny_mono (ht.run [] s1 (start N vs) H _ I hq) (fun fl s' hs => ?_) fun e s' hs => hs
  have fin : ∀ {σ' : L2.St} {H' : Hp} {v : V} {u : Value}, Inv (cxOf (L2.CX P w) P w K mg base N qual scope f cdv A outer s H E) [] σ' H' s' → RelV v u → Q v H' → CE outer P w H s Q u s' :=
    fun {σ' H' v u} J rv q => ⟨v, H', J.os, J.bare, J.base, J.hok, rv, q⟩
  cases fl with
  | ret u =>
    obtain ⟨v, σ', H', J, rv, q⟩ := hs
    exact fin J rv q
  | next =>
    obtain ⟨σ', H', J, q⟩ := hs
    exact fin (v := V.non) (u := Value.none) J rfl q
  | brk =>
    obtain ⟨_, _, _, q⟩ := hs
    exact False.elim q
  | cont =>
    obtain ⟨_, _, _, q⟩ := hs
    exact False.elim q
theorem okX {x qual : Str} {st : Stmt} {f : Addr} {fd : FuncData} {N ps : List Str} {k : Nat} {sp : Sp} (F : Fun K x qual st f fd) (S : FnScope N ps (defScope st)) (len : ∀ vs H Q E, sp vs H Q E → vs.length = ps.length)
    (hb : ∀ (cdv : Value) (A : Around) (fr : List Env) (s : Shared) (H : Hp) (vs : List V) (Q : VK) (E : XK), A.guards = some [] → Room k (A.deeper (envOfC qual (defScope st) s.heap.objs.size f cdv)) → sp vs H Q E →
      ∃ t, PSs (cxOf (L2.CX P w) P w K mg base N qual (defScope st) f cdv A fr s H E) (defBody st) t ∧ t { nx := fun _ H' => Q .non H', rt := Q } (start N vs) H) : FnX P w K mg base (k + 1) f fd ps sp := by
  obtain ⟨oc, od, kV, doc, pm, an, cdv, ct, osl, rfl, lk, hcd⟩ := F.ex
  exact okX0 lk hcd S len fun A fr s H vs Q E => hb cdv A fr s H vs Q E
theorem okXD {x qual : Str} {st : Stmt} {f : Addr} {fd : FuncData} {N ps : List Str} {k : Nat} {sp : Sp} {dvs : List V} {kws : List (Str × V)} (F : FunD K x qual (defArgs st) (defBody st) (defScope st) dvs kws f fd) (S : FnScope N ps (defScope st)) (len : ∀ vs H Q E, sp vs H Q E → vs.length = ps.length)
    (hb : ∀ (cdv : Value) (A : Around) (fr : List Env) (s : Shared) (H : Hp) (vs : List V) (Q : VK) (E : XK), A.guards = some [] → Room k (A.deeper (envOfC qual (defScope st) s.heap.objs.size f cdv)) → sp vs H Q E →
      ∃ t, PSs (cxOf (L2.CX P w) P w K mg base N qual (defScope st) f cdv A fr s H E) (defBody st) t ∧ t { nx := fun _ H' => Q .non H', rt := Q } (start N vs) H) : FnX P w K mg base (k + 1) f fd ps sp := by
  obtain ⟨oc, od, dV, kV, doc, pm, an, cdv, ct, osl, rfl, lk, hcd, _, _⟩ := F.ex
  exact okX0 lk hcd S len fun A fr s H vs Q E => hb cdv A fr s H vs Q E
theorem FnX.mono {j k : Nat} {f : Addr} {fd : FuncData} {ps : List Str} {sp : Sp} (F : FnX P w K mg base j f fd ps sp) (h : j ≤ k) : FnX P w K mg base k f fd ps sp :=
  ⟨F.len, fun A fr s H ar us vs Q E hg hr => F.run A fr s H ar us vs Q E hg (hr.mono h)⟩
end
/-! ### calls of such: what is raised goes by W -/
def tCallNS (n m : Nat) (sp : Sp) (gV : List V → List V → List V) (W : WX) (t tk : TA) : TE := fun σ H Q => t σ H fun vs H1 => tk σ H1 fun zs H2 => vs.length = n ∧ zs.length = m ∧ sp (gV vs zs) H2 Q (WE W σ)
def tMakeS (C : Addr) (n m : Nat) (sp : Sp) (gV : List V → List V → List V) (W : WX) (t tk : TA) : TE := fun σ H Q => t σ H fun vs H1 => tk σ H1 fun zs H2 => vs.length = n ∧ zs.length = m ∧ ∀ x dx, H2 x = none → H2 dx = none → dx ≠ x →
  sp (gV (.ref x :: vs) zs) (L2.upd (L2.upd H2 dx (.own x)) x (.ins C dx [])) (fun v H3 => v = .non ∧ Q (.ref x) H3) (WE W σ)
section
variable {X : Cx} {k n : Nat} {f C : Addr} {fd : FuncData} {ps ks : List Str} {sp : Sp} {x : Str} {p pos : Pos} {e : Expr} {es : List Expr} {kws : List Keyword} {t tk : TA} {g : List Value → List Value → List Value} {gV : List V → List V → List V} {W : WX}
theorem runX {pins : List (Addr × Obj)} {σ : L2.St} {H : Hp} {s : Shared} {Q : VK} {us us' : List Value} {vs : List V} {kw : List (Str × Value)} (F : FnX X.prog X.w X.K X.mg X.base k f fd ps sp) (hr : Room k X.A) (gu : X.A.guards = some []) (tk : Takes X W)
    (I : Inv X pins σ H s) (hb : BindsTo s fd ⟨us', kw⟩ (ps.zip us)) (r : Vals vs us) (h : sp vs H Q (WE W σ)) : wpAny (model X.prog X.w) X.A (call (.ref f) us' kw) (EP X pins σ Q) X.xe s := by
  refine wpAny_call (codeAny_mono (F.run X.A X.stack s H _ us vs Q (WE W σ) gu hr I.env0 hb r h) ?_)
  intro res s' hq
  match res, hq with
  | .ok (.ret u), hq => exact I.after hq
  | .ok .next, hq => exact hq.elim
  | .ok .brk, hq => exact hq.elim
  | .ok .cont, hq => exact hq.elim
  | .error e, hq => exact passAt tk σ pins H s e s' I hq
/-- f(e, .., k = v, ..) -/
theorem pe_callXN (F : FnX X.prog X.w X.K X.mg X.base k f fd ps sp) (hr : Room k X.A) (gu : X.A.guards = some []) (tW : Takes X W) (hg : Gl X x) (hm : X.mg x = some (.ref f)) (hk : PySem.W.keepIn X.K (.ref f) = true) (hb : KBn X.K fd ps n ks g gV)
    (ha : PA X (e :: es) t) (hkw : PK X kws tk) (hall : (backToKw pos (keywordEach kws X.env)).all (·.1.isSome) = true := by rfl) (hks : (backToKw pos (keywordEach kws X.env)).filterMap (·.1) = ks := by rfl)
    (hdb : (x == ("__debug__" : Str)) = false := by decide) (he : starEach (e :: es) X.env = (false, eval e X.env) :: starEach es X.env := by rfl)
    (hpl : ((backTo pos (starEach (e :: es) X.env)).any (·.1) || (backToKw pos (keywordEach kws X.env)).any (·.1.isNone)) = false := by rfl) :
    PE X (.Call (.Name x p) (e :: es) kws pos) (tCallNS n ks.length sp gV W t tk) := by
  refine ⟨fun pins s σ H Q I h => ?_⟩
  refine wpAny_Call_Name_kw (ld_glob I hg hm ?_ hdb)
  refine PySem.W.callWith_KW (h₀ := X.base) I.ok.mod.kin hk hall (thn (ha.run pos pins s σ H _ I h) fun us s1 ⟨vs, H1, I1, r, q⟩ => ?_) hpl he
  refine thn (hkw.run pos pins s1 σ H1 _ I1 q) fun ws s2 ⟨zs, H2, I2, rz, l1, l2, q2⟩ => ⟨I2.kIn, ?_⟩
  rw [hks]
  exact runX F hr gu tW I2 (hb.to s2 us ws I2.kIn (r.length.symm.trans l1) (rz.length.symm.trans l2)) (hb.rel r rz) q2
/-- f(k = v, ..) -/
theorem pe_callX0N (F : FnX X.prog X.w X.K X.mg X.base k f fd ps sp) (hr : Room k X.A) (gu : X.A.guards = some []) (tW : Takes X W) (hg : Gl X x) (hm : X.mg x = some (.ref f)) (hk : PySem.W.keepIn X.K (.ref f) = true) (hb : KBn X.K fd ps 0 ks g gV)
    (hkw : PK X kws tk) (hall : (backToKw pos (keywordEach kws X.env)).all (·.1.isSome) = true := by rfl) (hks : (backToKw pos (keywordEach kws X.env)).filterMap (·.1) = ks := by rfl) (hdb : (x == ("__debug__" : Str)) = false := by decide)
    (hpl : ((backTo pos (starEach [] X.env)).any (·.1) || (backToKw pos (keywordEach kws X.env)).any (·.1.isNone)) = false := by rfl) : PE X (.Call (.Name x p) [] kws pos) (tCallNS 0 ks.length sp gV W tNil tk) := by
  constructor
  intro pins s σ H Q I h
  refine wpAny_Call_Name_kw (ld_glob I hg hm ?_ hdb)
  refine PySem.W.callWith_KW0 (h₀ := X.base) I.ok.mod.kin hk hall ?_ hpl
  refine thn (hkw.run pos pins s σ H _ I h) ?_
  rintro ws s2 ⟨zs, H2, I2, rz, l1, l2, q2⟩
  refine ⟨I2.kIn, ?_⟩
  rw [hks]
  exact runX F hr gu tW I2 (hb.to s2 [] ws I2.kIn rfl (rz.length.symm.trans l2)) (hb.rel .nil rz) q2
/-- f(e, ..) -/
theorem pe_callXP (F : FnX X.prog X.w X.K X.mg X.base k f fd ps sp) (hr : Room k X.A) (gu : X.A.guards = some []) (tW : Takes X W) (hg : Gl X x) (hm : X.mg x = some (.ref f)) (hk : PySem.W.keepIn X.K (.ref f) = true) (hb : KBn X.K fd ps n [] g gV)
    (ha : PA X (e :: es) t) (hdb : (x == ("__debug__" : Str)) = false := by decide) (he : starEach (e :: es) X.env = (false, eval e X.env) :: starEach es X.env := by rfl) (hpl : (backTo pos (starEach es X.env)).any (·.1) = false := by rfl) :
    PE X (.Call (.Name x p) (e :: es) [] pos) (tCallNS n 0 sp gV W t tNil) := by
  constructor
  intro pins s σ H Q I h
  refine wpAny_Call_Name_kw (ld_glob I hg hm ?_ hdb)
  refine PySem.W.callWith_K (h₀ := X.base) I.ok.mod.kin hk (thn (ha.run pos pins s σ H _ I h) ?_) he hpl
  rintro us s1 ⟨vs, H1, I1, r, l1, l2, q⟩
  exact ⟨I1.kIn, runX (kw := []) F hr gu tW I1 (hb.to s1 us [] I1.kIn (r.length.symm.trans l1) rfl) (hb.rel r .nil) q⟩
theorem run_makeX {pins : List (Addr × Obj)} {σ : L2.St} {H : Hp} {s : Shared} {Q : VK} {us ws : List Value} {vs zs : List V} (M : Mk X.K C f) (F : FnX X.prog X.w X.K X.mg X.base k f fd ps sp) (hr : Room (k + 1) X.A) (gu : X.A.guards = some []) (tW : Takes X W) (hb : KBn X.K fd ps (n + 1) ks g gV)
    (I : Inv X pins σ H s) (r : Vals vs us) (rz : Vals zs ws) (l1 : vs.length = n) (l2 : zs.length = ks.length)
    (h : ∀ x dx, H x = none → H dx = none → dx ≠ x → sp (gV (.ref x :: vs) zs) (L2.upd (L2.upd H dx (.own x)) x (.ins C dx [])) (fun v H2 => v = .non ∧ Q (.ref x) H2) (WE W σ)) :
    wpAny (model X.prog X.w) X.A (call (.ref C) us (ks.zip ws)) (EP X pins σ Q) X.xe s := by
  have hq := h (s.heap.objs.size + 1) s.heap.objs.size (I.hok.fresh (Nat.le_succ _)) (I.hok.fresh (Nat.le_refl _)) (Nat.ne_of_lt (Nat.lt_succ_self _))
  have I2 := Inv.made (C := C) I
  have r1 : Vals (V.ref (s.heap.objs.size + 1) :: vs) (Value.ref (s.heap.objs.size + 1) :: us) := .cons rfl r
  have r2 := hb.rel r1 rz
  have n1 : (Value.ref (s.heap.objs.size + 1) :: us).length = n + 1 := by
    rw [List.length_cons, ← r.length, l1]
  have gu2 : (X.A.under (.builtin "type.__call__" ⟨.ref C :: us, ks.zip ws⟩)).guards = some [] := by
    first | exact gu | (simpa [Around.under, Code.isGuard, guardIds] using gu)
  refine wpAny_call (make_map (f := f) I.kIn M.makes M.init (beq_iff_eq.mp M.fn) (codeAny_mono (F.run _ X.stack _ _ ⟨Value.ref (s.heap.objs.size + 1) :: us, ks.zip ws⟩ (g (Value.ref (s.heap.objs.size + 1) :: us) ws) _ _ (WE W σ) gu2 (hr.make C us (ks.zip ws))
    (I2.env0.make C us (ks.zip ws)) (hb.to _ (Value.ref (s.heap.objs.size + 1) :: us) ws I2.kIn n1 (rz.length.symm.trans l2)) r2 hq) fun r s' hq' => ?_))
  cases r with
  | error e => exact passAt tW σ pins _ _ e s' I2 hq'
  | ok fl =>
    cases fl with
    | ret u =>
      obtain ⟨v, H', I3, rv, ev, q3⟩ := I2.after hq'
      subst ev
      exact ⟨rv, ⟨V.ref (s.heap.objs.size + 1), H', I3, rfl, q3⟩⟩
    | next => exact False.elim hq'
    | brk => exact False.elim hq'
    | cont => exact False.elim hq'
/-- C(e, .., k = v, ..) -/
theorem pe_makeXN (M : Mk X.K C f) (F : FnX X.prog X.w X.K X.mg X.base k f fd ps sp) (hr : Room (k + 1) X.A) (gu : X.A.guards = some []) (tW : Takes X W) (hg : Gl X x) (hm : X.mg x = some (.ref C)) (hb : KBn X.K fd ps (n + 1) ks g gV) (ha : PA X (e :: es) t) (hkw : PK X kws tk)
    (hall : (backToKw pos (keywordEach kws X.env)).all (·.1.isSome) = true := by rfl) (hks : (backToKw pos (keywordEach kws X.env)).filterMap (·.1) = ks := by rfl) (hdb : (x == ("__debug__" : Str)) = false := by decide)
    (he : starEach (e :: es) X.env = (false, eval e X.env) :: starEach es X.env := by rfl) (hpl : ((backTo pos (starEach (e :: es) X.env)).any (·.1) || (backToKw pos (keywordEach kws X.env)).any (·.1.isNone)) = false := by rfl) :
    PE X (.Call (.Name x p) (e :: es) kws pos) (tMakeS C n ks.length sp gV W t tk) := by
  refine ⟨fun pins s σ H Q I h => ?_⟩
  refine wpAny_Call_Name_kw (ld_glob I hg hm ?_ hdb)
  refine PySem.W.callWith_KW (h₀ := X.base) I.ok.mod.kin M.kp hall (thn (ha.run pos pins s σ H _ I h) fun us s1 ⟨vs, H1, I1, r, q⟩ => ?_) hpl he
  refine thn (hkw.run pos pins s1 σ H1 _ I1 q) fun ws s2 ⟨zs, H2, I2, rz, l1, l2, q2⟩ => ⟨I2.kIn, ?_⟩
  rw [hks]
  exact run_makeX M F hr gu tW hb I2 r rz l1 l2 q2
/-- C(e, ..), defaults fill up -/
theorem pe_makeXP (M : Mk X.K C f) (F : FnX X.prog X.w X.K X.mg X.base k f fd ps sp) (hr : Room (k + 1) X.A) (gu : X.A.guards = some []) (tW : Takes X W) (hg : Gl X x) (hm : X.mg x = some (.ref C)) (hb : KBn X.K fd ps (n + 1) [] g gV) (ha : PA X (e :: es) t)
    (hdb : (x == ("__debug__" : Str)) = false := by decide) (he : starEach (e :: es) X.env = (false, eval e X.env) :: starEach es X.env := by rfl) (hpl : (backTo pos (starEach es X.env)).any (·.1) = false := by rfl) :
    PE X (.Call (.Name x p) (e :: es) [] pos) (tMakeS C n 0 sp gV W t tNil) := by
  refine ⟨fun pins s σ H Q I h => ?_⟩
  refine wpAny_Call_Name_kw (ld_glob I hg hm ?_ hdb)
  refine PySem.W.callWith_K (h₀ := X.base) I.ok.mod.kin M.kp (thn (ha.run pos pins s σ H _ I h) ?_) he hpl
  rintro us s1 ⟨vs, H1, I1, r, l1, l2, q⟩
  exact ⟨I1.kIn, run_makeX (ks := []) (ws := []) (zs := []) M F hr gu tW hb I1 r .nil l1 rfl q⟩
end
/-! ### raise C(e), C an own ValueError of one field -/
def spErr (C : Addr) (f : Str) : Sp := fun vs H Q _ => ∃ (a : Addr) (y : V), vs = [.ref a, y] ∧ H a = some (exo a C none) ∧ ∀ dx, H dx = none → dx ≠ a → Q .non (L2.upd (L2.upd H dx (exd dx [(f, y)])) a (exo a C (some dx)))
/-- what is known of the class -/
structure ErrC (K : PySem.W.Frag) (mg : Str → Option Value) (x : Str) (C fI : Addr) (f : Str) : Prop where
  o : OexC K C
  g : mg x = some (.ref C)
  noF : PySem.W.findIn K (.ref C) f = some none
  iC : PySem.W.findIn K (.ref C) "__init__" = some (some (.ref fI))
  tI : PySem.W.typeIn K (.ref fI) = some (.type "function")
  gaC : PySem.W.findIn K (.ref C) "__getattribute__" = some (some (.builtin "BaseException.__getattribute__"))
  ggC : PySem.W.findIn K (.ref C) "__getattr__" = some none
  hdC : PySem.W.hasDictIn K C = true
def tRaiseE (C : Addr) (f : Str) (W : WX) (ta : TA) : TS := fun _ σ H => tMkO C (spErr C f) [] ta σ H fun cls d H' => W cls d σ H'
theorem ps_raiseE {X : Cx} {W : WX} {x f : Str} {C fI : Addr} {fd : FuncData} {ps : List Str} {k : Nat} {e : Expr} {ta : TA} {p pos pos2 : Pos} (hc : X.calm = true) (T : ErrC X.K X.mg x C fI f) (F1 : FnOk X.prog X.w X.K X.mg X.base CX0 k fI fd ps (spErr C f)) (hr : Room (k + 1) X.A) (hb : Binds X.K fd ps []) (tk : Takes X W) (ha : PA X [e] ta)
    (hg : Gl X x) (hdb : (x == ("__debug__" : Str)) = false := by decide) (he : starEach (e :: []) X.env = (false, eval e X.env) :: starEach [] X.env := by rfl) (hpl : (backTo pos (starEach [] X.env)).any (·.1) = false := by rfl) :
    PS X (.Raise (some (.Call (.Name x p) [e] [] pos)) none pos2) (tRaiseE C f W ta) :=
  ps_raise hc tk (pmk_oex T.o T.iC T.tI F1 hr hb .nil (fun _ _ _ _ _ _ _ h => h.elim) hg T.g ha hdb he hpl)
end DL

namespace DL
open PySem PySem.Spec PyProof.Rows L2
abbrev wOut (E : XK) : WX := fun cls d _ H => E cls d H
/-- W takes what may be raised at these slots, from this heap on -/
def WOk (K : PySem.W.Frag) (M L : AP) (σ : L2.St) (H : Hp) (xp : XP) (W : WX) : Prop := ∀ (C dd : Addr) (f : Str) (v : V) (d : D) (H' : Hp), Kp L H H' → H dd = none → H' dd = some (.xd [(f, v)]) → Is K M H' v d → xp C f d → W (.ref C) (some dd) σ H'
def DSX (K : PySem.W.Frag) (tb : WX → TS) (es : Env') (B : DEnds) (xp : XP) : Prop := ∀ F P M L σ H, Stf K F P M L σ H es → ∀ E : Ends, EOk K F P B E → ∀ W : WX, WOk K M L σ H xp W → tb W E σ H
def DEX (K : PySem.W.Frag) (te : WX → TE) (es : Env') (Q : SV → Prop) (xp : XP) : Prop := ∀ P N M L σ H, Sts K P N M L σ H es → ∀ W : WX, WOk K M L σ H xp W → ∀ R : VK, (∀ s v H', Kp L H H' → SvOk K N M L H H' v s → Q s → R v H') → te W σ H R
section
variable {K : PySem.W.Frag} {F : Fr} {P : List Pin} {N L M : AP} {H0 H1 H H' : Hp} {σ : L2.St} {es : Env'} {ta te : TE} {tt : TT} {t u t1 : TS} {tr tk : TA} {Q : SV → Prop} {C : Addr} {f m : Str} {B : DEnds} {xp xp' : XP}
theorem XOk.mono {E : XK} (h : XOk K F E xp) (q : ∀ C f d, xp' C f d → xp C f d) : XOk K F E xp' := fun C dd f v d H' k n e i z => h C dd f v d H' k n e i (q C f d z)
theorem WOk.at {W : WX} (h : WOk K M L σ H xp W) (k : Kp L H H') : WOk K M L σ H' xp W := fun C dd f v d H2 k2 n e i z => h C dd f v d H2 (k.trans k2) (k.was n) e i z
theorem ds_ofX {E : XK} {tb : WX → TS} (h : DSX K tb es B xp) (q : ∀ F, B.xo F → XOk K F E xp) : DS K (tb (wOut E)) es B := fun F P M L σ H S E' o =>
  h F P M L σ H S E' o (wOut E) fun C dd f v d H' k n e i z => q F o.xo C dd f v d H' (S.up k) (S.was n) e (Is.sub S.m0 i) z
theorem dsx_drop {te : WX → TE} (h : DEX K te es (fun _ => B.nx es) xp) : DSX K (fun W => tDrop (te W)) es B xp := fun F P M L σ H S E o W w =>
  h P _ M L σ H S.st W w _ fun s v H' k ok q => o.nx es M L σ H' (S.kp' k) q
theorem dsx_set {te : WX → TE} {i : Nat} (h : DEX K te es (fun s => s.nown ∧ B.nx (es.set i (some s.sto))) xp) : DSX K (fun W => tAsg (te W) (gName i)) es B xp := fun F P M L σ H S E o W w =>
  h P _ M L σ H S.st W w _ fun s v H' k ok q => by
    obtain ⟨M', S'⟩ := S.store (i := i) k ok q.1
    exact o.nx _ _ _ _ _ S' q.2
theorem dsx_ret {te : WX → TE} (h : DEX K te es (fun s => s.ret ∧ B.rt s.out) xp) : DSX K (fun W => tRet (te W)) es B xp := fun F P M L σ H S E o W w =>
  h P _ M L σ H S.st W w _ fun s v H' k ok q => o.rt s.out v H' (S.up k) (ok.leave S k q.1) q.2
theorem dsx_raise (h : DE K te es fun s => ∃ d, s.dat = some d ∧ xp C f d) : DSX K (fun W => tRaiseE C f W (tCons te tNil)) es B xp := fun F P M L σ H S E o W w => by
  show tMkO C (spErr C f) [] (tCons te tNil) σ H (fun cls d H' => W cls d σ H')
  show tCons te tNil σ H _
  refine (da_cons (tr := tNil) (Q := fun ss => ∃ s d, ss = [s] ∧ s.dat = some d ∧ xp C f d) (DE.mono h fun s ⟨d, h1, h2⟩ => da_nil ⟨s, d, rfl, h1, h2⟩)) P _ M L σ H S.st _ fun ss vs H1 k1 oss q => ?_
  obtain ⟨s, d, rfl, hd, hx⟩ := q
  obtain ⟨v, rfl, hv⟩ := oss.one
  refine ⟨by show 1 ≤ 1000; decide, fun a ha => ⟨a, v, rfl, upd_same, fun dx hdx hne => ?_⟩⟩
  have hdx1 : H1 dx = none := by rw [upd_ne hne] at hdx; exact hdx
  refine ⟨rfl, dx, [(f, v)], upd_same, by rw [upd_ne hne, upd_same], hdx1, ?_⟩
  have e : L2.upd (del (L2.upd (L2.upd (L2.upd H1 a (exo a C none)) dx (exd dx [(f, v)])) a (exo a C (some dx))) a) dx (.xd [(f, v)]) = L2.upd H1 dx (.xd [(f, v)]) := by
    funext b
    by_cases hb : b = dx
    · rw [hb, upd_same, upd_same]
    · rw [upd_ne hb, upd_ne hb]
      by_cases hba : b = a
      · rw [hba, del_same, ha]
      · rw [del_ne hba, upd_ne hba, upd_ne hb, upd_ne hba]
  rw [e]
  have bs1 := k1.bs S.st.bs
  have kn := Kp.new (o := .xd [(f, v)]) bs1 hdx1
  exact w C dx f v d _ (k1.trans kn) (k1.was hdx1) upd_same (Is.kp kn bs1 (hv.data S.st.bs hd)) hx
theorem spX.len {α : Type} {n : Nat} {args : α → List SV} {pre : α → Prop} {post : α → SV → Prop} {xp : α → XP} {vs : List V} {R : VK} {E : XK} (h : spX K n args pre post xp vs H R E) : vs.length = n := by
  obtain ⟨x, M, L, _, h2, h3, _⟩ := h
  rw [h2.len, h3]
theorem bodyX {α : Type} {n : Nat} {args : α → List SV} {pre : α → Prop} {post : α → SV → Prop} {xp : α → XP} {names : List Str} {vs : List V} {R : VK} {E : XK} (h : spX K n args pre post xp vs H R E)
    (hb : ∀ x, pre x → DS K t (startE names.length (args x)) { nx := fun _ => post x (.d .non), rt := post x, xo := fun F => XOk K F E (xp x) }) : t { nx := fun _ H' => R .non H', rt := R } (L2.start names vs) H := by
  obtain ⟨x, M, L, bs, hv, hl, hp, q, hxo⟩ := h
  have hb' := hb x hp
  generalize hss : args x = ss at hv hl hb'
  have no_ : ∀ (i : Nat) (s : SV), (startE names.length ss)[i]? = some (some s) → ss[i]? = some s := fun i s e => by
    unfold startE at e
    by_cases hi : i < ss.length
    · rw [List.getElem?_append_left (by simpa using hi), List.getElem?_map] at e
      cases z : ss[i]? with
      | none => rw [z] at e; cases e
      | some y => rw [z] at e; cases e; rfl
    · rw [List.getElem?_append_right (by simpa using hi), List.getElem?_replicate] at e
      split at e <;> cases e
  have nown : ∀ (i : Nat) (xs : List D), ss[i]? ≠ some (.own xs) := fun i xs e => by
    obtain ⟨v, _, _, _, _, _, n, _⟩ := hv.get e
    exact n
  have sl : ∀ (i : Nat) (v : V), vs[i]? = some v → (L2.start names vs)[i]? = some (some v) := fun i v e => by
    have hi := (List.getElem?_eq_some_iff.mp e).1
    unfold L2.start
    rw [List.getElem?_append_left (by simpa using hi), List.getElem?_map, e]
    rfl
  have S : Stf K ⟨M, L, H⟩ [] M L (L2.start names vs) H (startE names.length ss) := by
    refine ⟨⟨bs, ?_, fun i s e => ?_, fun p hp => absurd hp (by simp), fun i j a xs ys _ e _ _ => absurd (no_ i _ e) (nown i xs)⟩, bs, Kp.refl bs, fun _ h => h, fun _ h => h, fun _ h => .inl h⟩
    · unfold L2.start startE
      rw [List.length_append, List.length_append, List.length_map, List.length_map, List.length_replicate, List.length_replicate, hv.len]
    · obtain ⟨v, h1, h2⟩ := hv.get (no_ i s e)
      exact ⟨v, sl i v h1, h2.noN⟩
  refine hb' ⟨M, L, H⟩ [] M L _ H S _ ⟨fun e M' L' σ' H' S' z => ?_, fun s v H' k ok z => q s v H' k ok z, fun _ _ _ _ _ _ z => z, fun _ _ _ _ _ _ z => z, hxo⟩
  exact q (.d .non) .non H' S'.kp Is.non z
/-- f(..) -/
theorem dex_call {α : Type} {n m N' : Nat} {args : α → List SV} {pre : α → Prop} {post : α → SV → Prop} {xq : α → XP} {t tk : TA} {ix : List Nat} {dv : List V} {dS : List SV} (hd : ∀ (N M L : AP) (H0 H : Hp), SvAll K N M L H0 H dv dS)
    (h : DA K t es fun ss => DA K tk es fun us => nownAll ss ∧ nownAll us ∧ ss.length = n ∧ us.length = m ∧ ∃ x, pick ix (ss.map SV.arg ++ dS ++ us.map SV.arg) = args x ∧ (args x).length = N' ∧ pre x ∧ (∀ r, post x r → Q r) ∧ ∀ C f d, xq x C f d → xp C f d) :
    DEX K (fun W => tCallNS n m (spX K N' args pre post xq) (fun vs zs => pick ix (vs ++ dv ++ zs)) W t tk) es Q xp := fun P N M L σ H S W w R k => by
  refine h P N M L σ H S _ fun ss vs H1 k1 o1 q1 => ?_
  refine q1 P N M L σ H1 (S.kp k1) _ fun us zs H2 k2 o2 q2 => ?_
  obtain ⟨n1, n2, l1, l2, x, e, l3, hp, q, qx⟩ := q2
  have k12 := k1.trans k2
  refine ⟨by rw [o1.len]; exact l1, by rw [o2.len]; exact l2, x, M, L, k12.bs S.bs, by rw [← e]; exact ((((o1.kp S.bs k1 k2).args S.bs k12 n1).append (hd NO M L H2 H2)).append (o2.args (k1.bs S.bs) k2 n2)).pick ix, l3, hp, fun r v H' k3 o3 q3 => ?_, fun C dd f v d H' k3 n3 e3 i3 z => ?_⟩
  · exact k r v H' (k12.trans k3) ((SvOk.noN o3).back k12) (q r q3)
  · exact w C dd f v d H' (k12.trans k3) (k12.was n3) e3 i3 (qx C f d z)
/-- what __init__ promises, or refuses -/
def spIX {α : Type} (K : PySem.W.Frag) (C : Addr) (n : Nat) (args : α → List SV) (pre : α → Prop) (post : α → List (Str × D) → Prop) (xp : α → XP) : Sp := fun vs H Q E => ∃ (y : α) (H1 : Hp) (M L : AP) (x dx : Addr) (ws : List V), vs = .ref x :: ws ∧ Bs L M H1 ∧ H1 x = none ∧ H1 dx = none ∧ dx ≠ x ∧ H = L2.upd (L2.upd H1 dx (.own x)) x (.ins C dx []) ∧
  SvAll K NO M L H1 H1 ws (args y) ∧ (args y).length = n ∧ pre y ∧ (∀ (ds : List (Str × D)) (fs : List (Str × V)) (H' : Hp), Kp L H1 H' → H' x = some (.ins C dx fs) → IsFs K M H' fs ds → post y ds → Q .non H') ∧ XOk K ⟨M, L, H1⟩ E (xp y)
theorem spIX.len {α : Type} {n : Nat} {args : α → List SV} {pre : α → Prop} {post : α → List (Str × D) → Prop} {xp : α → XP} {vs : List V} {Q : VK} {E : XK} (h : spIX K C n args pre post xp vs H Q E) : vs.length = n + 1 := by
  obtain ⟨_, _, _, _, _, _, ws, rfl, _, _, _, _, _, h2, h3, _⟩ := h
  rw [List.length_cons, h2.len, h3]
theorem dex_make {α : Type} {n l N' : Nat} {args : α → List SV} {pre : α → Prop} {post : α → List (Str × D) → Prop} {xq : α → XP} {ix : List Nat} {dv : List V} {dS : List SV} {gV : List V → List V → List V} (hd : ∀ (N M L : AP) (H0 H : Hp), SvAll K N M L H0 H dv dS) (hgV : ∀ (x : V) (vs zs : List V), gV (x :: vs) zs = x :: pick ix (vs ++ dv ++ zs))
    (h : DA K tr es fun ss => DA K tk es fun us => nownAll ss ∧ nownAll us ∧ ss.length = n ∧ us.length = l ∧ ∃ y, pick ix (ss.map SV.arg ++ dS ++ us.map SV.arg) = args y ∧ (args y).length = N' ∧ pre y ∧ (∀ ds, post y ds → Q (.d (.obj C ds))) ∧ ∀ C f d, xq y C f d → xp C f d) :
    DEX K (fun W => tMakeS C n l (spIX K C N' args pre post xq) gV W tr tk) es Q xp := fun P N M L σ H S W w R k => by
  refine h P N M L σ H S _ fun ss vs H1 k1 o1 q1 => ?_
  refine q1 P N M L σ H1 (S.kp k1) _ fun us zs H2 k2 o2 q2 => ?_
  obtain ⟨n1, n2, l1, l2, y, e, l3, hp, q, qx⟩ := q2
  have k12 := k1.trans k2
  have bs2 := k12.bs S.bs
  refine ⟨by rw [o1.len]; exact l1, by rw [o2.len]; exact l2, fun x dx nx ndx ne => ?_⟩
  have a1 := (o1.kp S.bs k1 k2).args S.bs k12 n1
  have a2 := o2.args (k1.bs S.bs) k2 n2
  refine ⟨y, H2, M, L, x, dx, _, hgV _ _ _, bs2, nx, ndx, ne, rfl, by rw [← e]; exact ((a1.append (hd NO M L H2 H2)).append a2).pick ix, l3, hp, fun ds fs H' k3 hx hfs hpost => ⟨rfl, ?_⟩, fun C dd f v d H' k3 n3 e3 i3 z => ?_⟩
  · exact k (.d (.obj C ds)) (.ref x) H' (k12.trans k3) (Is.obj hx (fresh_nm bs2 nx) hfs) (q ds hpost)
  · exact w C dd f v d H' (k12.trans k3) (k12.was n3) e3 i3 (qx C f d z)
/-- within __init__: self stands at x with the fields ds -/
def DIX (K : PySem.W.Frag) (x C dx : Addr) (t : TS) (ds : List (Str × D)) (es : Env') (post : List (Str × D) → Prop) (xo : Fr → Prop) : Prop :=
  ∀ F P M L σ H fs, Stf K F P M L σ H es → xo F → M x → ¬ L x → F.H0 x = none → H x = some (.ins C dx fs) → IsFs K M H fs ds → ∀ E : Ends,
    (∀ σ' H' fs' ds', Kp F.L F.H0 H' → H' x = some (.ins C dx fs') → IsFs K F.M0 H' fs' ds' → post ds' → E.nx σ' H') → t E σ H
variable {xo : Fr → Prop} {x dx : Addr} {ds : List (Str × D)} {post : List (Str × D) → Prop}
theorem dix_next (h : post ds) : DIX K x C dx tNext ds es post xo := fun F P M L σ H fs S xf m l n hx hf E k => k σ H fs ds S.kp hx (IsFs.chg (fun a o e q => ⟨e, fun z => q (S.m0 a z)⟩) (TK.refl K H) _ _ hf) h
/-- a test that refuses -/
theorem dix_if (h : DT K tt es fun b => if b = true then DS K t1 es { nx := fun _ => False, rt := fun _ => False, xo := xo } else DIX K x C dx u ds es post xo) : DIX K x C dx (tSeq (tIfS tt t1 tNext) u) ds es post xo := fun F P M L σ H fs S xf m l n hx hf E k => by
  refine h P _ M L σ H S.st _ fun b H1 k1 hb => ?_
  cases b with
  | true =>
    rw [if_pos rfl] at hb ⊢
    exact hb F P M L σ H1 (S.kp' k1) _ ⟨fun _ _ _ _ _ _ z => z.elim, fun _ _ _ _ _ z => z.elim, fun _ _ _ _ _ _ z => z.elim, fun _ _ _ _ _ _ z => z.elim, xf⟩
  | false =>
    rw [if_neg Bool.false_ne_true] at hb ⊢
    have hf1 : IsFs K M H1 fs ds := IsFs.chg (fun a o e q => ⟨k1.k a o (fun z => q (S.st.bs.lm a z)) e, q⟩) (sqt_keep (M := M) (fun b o q e => k1.k b o (fun z => q (S.st.bs.lm b z)) e) S.st.bs.tr) _ _ hf
    exact hb F P M L σ H1 fs (S.kp' k1) xf m l n (k1.k _ _ l hx) hf1 E k
/-- self.f = e -/
theorem dix_fld (e0 : es[0]? = some (some (.cls x))) (cl : Cls K C) (na : NoAttr K C f) (hl : ds.length < 1000) (hd : ds.lookup f = none) (h : DE K te es fun s => ∃ d, s = .d d ∧ DIX K x C dx u (ds ++ [(f, d)]) es post xo) : DIX K x C dx (tSeq (sFld K (tVar 0) te f) u) ds es post xo := fun F P M L σ H fs S xf m l n hx hf E k => by
  refine h P _ M L σ H S.st _ fun s v H1 k1 ok q => ?_
  obtain ⟨d, rfl, q⟩ := q
  have hf1 : IsFs K M H1 fs ds := IsFs.chg (fun a o e q => ⟨k1.k a o (fun z => q (S.st.bs.lm a z)) e, q⟩) (sqt_keep (M := M) (fun b o q e => k1.k b o (fun z => q (S.st.bs.lm b z)) e) S.st.bs.tr) _ _ hf
  have hx1 := k1.k _ _ l hx
  have S1 := S.kp' k1
  obtain ⟨w, hw, ew⟩ := S1.st.ok 0 _ e0
  have ew : w = .ref x := ew
  subst ew
  refine ⟨.ref x, hw, x, C, dx, fs, rfl, hx1, cl, na, by rw [hf1.len]; exact hl, ?_⟩
  rw [putF_new (hf1.lookN hd)]
  obtain ⟨S2, ki⟩ := S1.st.updX (gs := fs ++ [(f, v)]) m l hx1
  have kf : IsFs K M (L2.upd H1 x (.ins C dx (fs ++ [(f, v)]))) fs ds := IsFs.chg (fun a o e q => ⟨by rw [upd_ne (fun y => q (by rw [y]; exact m))]; exact e, q⟩) (sqt_keep (M := M) (fun b o q e => by rw [upd_ne (fun y => q (by rw [y]; exact m))]; exact e) S1.st.bs.tr) _ _ hf1
  have S3 : Stf K F P M L σ (L2.upd H1 x (.ins C dx (fs ++ [(f, v)]))) es := ⟨S2, S1.bs0, ⟨fun b o lb e => by rw [upd_ne (fun y => by rw [y, n] at e; cases e)]; exact S1.kp.k b o lb e, fun b lb => by
    obtain ⟨g, m', z⟩ := S1.kp.b b lb
    exact ⟨g, m', by rw [upd_ne (fun y => by rw [y, hx1] at z; cases z)]; exact z⟩⟩, S1.m0, S1.lo, S1.ln⟩
  exact q F P M L σ _ _ S3 xf m l n upd_same (kf.append' (ki ok)) E k
/-- an __init__'s body -/
theorem init_ofX {α : Type} {n : Nat} {args : α → List SV} {pre : α → Prop} {post : α → List (Str × D) → Prop} {xp : α → XP} {names : List Str} {vs : List V} {R : VK} {E : XK} (h : spIX K C n args pre post xp vs H R E) (hb : ∀ x dx y, pre y → DIX K x C dx t [] (some (.cls x) :: startE (names.length - 1) (args y)) (post y) (fun F => XOk K F E (xp y))) (hnm : 1 ≤ names.length) :
    t { nx := fun _ H' => R .non H', rt := R } (L2.start names vs) H := by
  obtain ⟨y, H1, M, L, x, dx, ws, rfl, bs, nx, ndx, ne, rfl, hv, hl, hp, q, hxo⟩ := h
  generalize hss : args y = ss at hv hl
  have k1 := Kp.new (o := .own x) bs ndx
  have nx2 : (L2.upd H1 dx (.own x)) x = none := by rw [upd_ne (Ne.symm ne)]; exact nx
  have k2 := Kp.new (o := .ins C dx []) (k1.bs bs) nx2
  have kp := k1.trans k2
  have no_ : ∀ (i : Nat) (s : SV), (startE (names.length - 1) ss)[i]? = some (some s) → ss[i]? = some s := fun i s e => by
    unfold startE at e
    by_cases hi : i < ss.length
    · rw [List.getElem?_append_left (by simpa using hi), List.getElem?_map] at e
      cases z : ss[i]? with
      | none => rw [z] at e; cases e
      | some y => rw [z] at e; cases e; rfl
    · rw [List.getElem?_append_right (by simpa using hi), List.getElem?_replicate] at e
      split at e <;> cases e
  have nown : ∀ (i : Nat) (xs : List D), ss[i]? ≠ some (.own xs) := fun i xs e => by
    obtain ⟨v, _, _, _, _, _, n, _⟩ := hv.get e
    exact n
  have nown2 : ∀ (i : Nat) (xs : List D), (some (SV.cls x) :: startE (names.length - 1) ss)[i]? ≠ some (some (.own xs)) := fun i xs e => by
    cases i with
    | zero => cases e
    | succ i => exact nown i xs (no_ i _ (by simpa using e))
  have sl : ∀ (i : Nat) (v : V), (V.ref x :: ws)[i]? = some v → (L2.start names (V.ref x :: ws))[i]? = some (some v) := fun i v e => by
    have hi := (List.getElem?_eq_some_iff.mp e).1
    unfold L2.start
    rw [List.getElem?_append_left (by simpa using hi), List.getElem?_map, e]
    rfl
  have bsx : Bs L (M.add x) (L2.upd (L2.upd H1 dx (.own x)) x (.ins C dx [])) := by
    have b2 := kp.bs bs
    refine ⟨fun a l => .inl (b2.lm a l), fun a o m e => ?_, fun a m => ?_, b2.bag⟩
    · rcases m with m | rfl
      · exact b2.tr a o m e
      · rw [upd_same] at e
        cases e
        exact True.intro
    · rcases m with m | rfl
      · exact b2.tk a m
      · exact ⟨_, upd_same⟩
  have S : Stf K ⟨M, L, H1⟩ [] (M.add x) L (L2.start names (V.ref x :: ws)) (L2.upd (L2.upd H1 dx (.own x)) x (.ins C dx [])) (some (.cls x) :: startE (names.length - 1) ss) := by
    refine ⟨⟨bsx, ?_, fun i s e => ?_, fun p hp => absurd hp (by simp), fun i j a xs ys _ e _ _ => absurd e (nown2 i xs)⟩, bs, kp, fun _ h => .inl h, fun _ h => h, fun _ h => .inl h⟩
    · unfold L2.start startE
      rw [List.length_append, List.length_map, List.length_replicate, List.length_cons, List.length_cons, List.length_append, List.length_map, List.length_replicate, hv.len]
      omega
    · cases i with
      | zero =>
        cases e
        exact ⟨.ref x, sl 0 _ rfl, rfl⟩
      | succ i =>
        obtain ⟨v, h1, h2⟩ := hv.get (no_ i s (by simpa using e))
        exact ⟨v, sl (i + 1) v (by simpa using h1), (h2.noN).lift bs kp nx⟩
  have hb' := hb x dx y hp
  rw [hss] at hb'
  refine hb' ⟨M, L, H1⟩ [] (M.add x) L _ _ [] S hxo (.inr rfl) (fun l => fresh_nm bs nx (bs.lm x l)) nx upd_same .nil _ fun σ' H' fs' ds' k hx hf hpost => q ds' fs' H' k hx hf hpost
end
end DL

namespace DL
open PySem PySem.Spec PyProof.Rows L2
/-! ### except C as e: others = isinstance(e, (..)); return 'else' if others or not isinstance(e, ValueError) else e.f -/
def rIsX1 (K : PySem.W.Frag) (a : Addr) (cls : Value) (d : Option Addr) : List V → Hp → VK → Prop := fun xs H Q => ∃ (D dd : Addr) (fs : List (Str × V)) (c : V) (u : Value) (b : Bool), cls = .ref D ∧ d = some dd ∧ H dd = some (.xd fs) ∧ ExcC K D ∧ xs = [.ref a, c] ∧ ClsV c u ∧ PySem.W.kitOne K (.ref D) u = some b ∧ Q (.bl b) H
def rIsXT (K : PySem.W.Frag) (a : Addr) (cls : Value) (d : Option Addr) : List V → Hp → VK → Prop := fun xs H Q => ∃ (D dd tp : Addr) (fs : List (Str × V)) (cs : List V) (us : List Value) (b : Bool), cls = .ref D ∧ d = some dd ∧ H dd = some (.xd fs) ∧ ExcC K D ∧ xs = [.ref a, .ref tp] ∧ H tp = some (.tup cs) ∧ PySem.Paired ClsV cs us ∧ PySem.W.kitAny K (.ref D) us = some b ∧ Q (.bl b) H
section
variable {X : Cx} {a : Addr} {oe : Obj} {cls : Value} {d : Option Addr} {pn : List (Addr × Obj)}
theorem inst_of {pins : List (Addr × Obj)} {σ : L2.St} {H : Hp} {s : Shared} {D dd : Addr} {fs : List (Str × V)} (I : Inv (X.suite a ((a, oe) :: pn)) pins σ H s) (hz : Zc cls d oe) (hf : ∃ vs, oe.data = .fields vs) (ec : cls = .ref D) (ed : d = some dd) (ea : H dd = some (.xd fs)) : ∃ od, PySem.W.InstAt s.heap a oe D (some od) := by
  subst ec
  subst ed
  obtain ⟨ha, _⟩ := I.pin (a, oe) (List.mem_append_left _ List.mem_cons_self)
  obtain ⟨vs, hd⟩ := hf
  have hx : ObjOk X.prog X.w H s.heap dd (.xd fs) := I.hok dd _ ea
  obtain ⟨mA, hns, hr⟩ := hx
  obtain ⟨od, ho, hl⟩ := lookIn_ns hns
  exact ⟨od, ha, hz.1, by unfold PySem.W.notCls; rw [hd] <;> rfl, by rw [hz.2]; exact ho⟩
theorem kitE {K : PySem.W.Frag} {x D : Addr} {ox : Obj} {od : Option Obj} (C : ExcC K D) : PySem.W.KitX K (.ref x) (.ref D) (fun h => PySem.W.InstAt h x ox D od) :=
  PySem.W.kitx_exc (by obtain ⟨cd, hc, _⟩ := PySem.W.any_some C.hd; rw [hc]; rfl) C.hg C.hk C.hs C.ha C.hn C.ht C.hm
theorem call_isX1 (hz : Zc cls d oe) (hf : ∃ vs, oe.data = .fields vs) : CallR (X.suite a ((a, oe) :: pn)) (.builtin "isinstance") (rIsX1 X.K a cls d) := by
  intro pins s σ H xs us Q I r h
  obtain ⟨D, dd, fs, c, u, b, ec, ed, ea, C, rfl, k, e, q⟩ := h
  obtain ⟨u1, u2, rfl, r1, r2⟩ := vals2 r
  cases (show u1 = Value.ref a from r1)
  have e2 := k.eq r2
  subst e2
  obtain ⟨od, J⟩ := inst_of I hz hf ec ed ea
  exact PySem.W.kia_one (kitE C) I.kIn J e (fun z => nomatch z) fun tk => ⟨.bl b, H, I.kept (t' := tk) fun _ _ z => z, rfl, q⟩
theorem call_isXT (hz : Zc cls d oe) (hf : ∃ vs, oe.data = .fields vs) : CallR (X.suite a ((a, oe) :: pn)) (.builtin "isinstance") (rIsXT X.K a cls d) := by
  intro pins s σ H xs us Q I r h
  obtain ⟨D, dd, tp, fs, cs, ws, b, ec, ed, ea, C, rfl, hT, k, e, q⟩ := h
  obtain ⟨u1, u2, rfl, r1, r2⟩ := vals2 r
  cases (show u1 = Value.ref a from r1)
  cases (show u2 = Value.ref tp from r2)
  obtain ⟨od, J⟩ := inst_of I hz hf ec ed ea
  obtain ⟨_, its, rv, o, h1, h2, n, h3⟩ := (show ObjOk X.prog X.w H s.heap tp (.tup cs) from I.hok tp _ hT)
  have e3 := ClsV.all k rv
  subst e3
  obtain ⟨oc, od2, dt, sl⟩ := o
  simp only at h2 h3
  subst h2 h3
  exact PySem.W.kia_tup (kitE C) I.kIn J h1 e (fun z => nomatch z) fun tk => ⟨.bl b, H, I.kept (t' := tk) fun _ _ z => z, rfl, q⟩
end
def tConsL : List V → TA
  | [] => tNil
  | v :: vs => tCons (tC v) (tConsL vs)
theorem tConsL_ok {σ : L2.St} {H : Hp} : ∀ {vs : List V} {Q : List V → Hp → Prop}, Q vs H → tConsL vs σ H Q
  | [], Q, h => h
  | v :: vs, Q, h => tConsL_ok (vs := vs) (Q := fun ws H' => Q (v :: ws) H') h
def tSuite (K : PySem.W.Frag) (i j : Nat) (Cs : List V) (C : Addr) (f : Str) : Addr → Value → Option Addr → TS := fun a cls d =>
  tSeq (tAsg (tCB (rIsXT K a cls d) (tCons (tVar i) (tCons (tTup (tConsL Cs)) tNil))) (gName j)) (tRet (tIf (tOr (tB (tVar j)) (tNot (tB (tCB (rIsX1 K a cls d) (tCons (tVar i) (tCons (tC (.ty "ValueError")) tNil)))))) (tC (.str "else")) (tXf a cls d C f (tVar i))))
/-- what must hold of the class at C, that the others aren't it -/
structure SuiteF (K : PySem.W.Frag) (Cs : List V) (C : Addr) : Prop where
  ex : ExcC K C
  all : ∃ us, PySem.Paired ClsV Cs us ∧ PySem.W.kitAny K (.ref C) us = some false
  ve : PySem.W.kitOne K (.ref C) (.type "ValueError") = some true
  me : PySem.W.exmOne K (.ref C) (.ref C) = some true
def tTryE (K : PySem.W.Frag) (i j : Nat) (Cs : List V) (C : Addr) (f : Str) (tb : WX → TS) : TS := fun D σ H => tb (wAs K (.ref C) i (tSuite K i j Cs C f) (fun _ _ _ _ => False) D) D σ H
theorem ds_tryE {K : PySem.W.Frag} {es : Env'} {B : DEnds} {xp : XP} {i j : Nat} {Cs : List V} {C : Addr} {f : Str} {tb : WX → TS} (sf : SuiteF K Cs C) (hi : i < es.length) (hj : j < es.length) (hij : i ≠ j) (hl : Cs.length ≤ 100)
    (hb : DSX K tb es B xp) (hx : ∀ C' f' d, xp C' f' d → C' = C ∧ f' = f ∧ B.rt (.d d)) : DS K (tTryE K i j Cs C f tb) es B := fun F P M L σ H S E o => by
  refine hb F P M L σ H S E o _ fun C' dd f' v d H' k n e iv z => ?_
  obtain ⟨rfl, rfl, q⟩ := hx C' f' d z
  refine ⟨true, sf.me, fun _ a ha => ?_, fun z => by cases z⟩
  have li : i < σ.length := by rw [S.st.len]; exact hi
  have lj : j < (σ.set i (some (.ref a))).length := by rw [List.length_set, S.st.len]; exact hj
  have gi : (σ.set i (some (V.ref a)))[i]? = some (some (.ref a)) := List.getElem?_set_self li
  obtain ⟨us, pu, ku⟩ := sf.all
  refine ⟨.ref a, gi, ?_⟩
  show tCons (tTup (tConsL Cs)) tNil _ _ _
  refine tConsL_ok ?_
  refine ⟨by rw [sizeLine_eq]; omega, fun p hp => ?_⟩
  have hpd : dd ≠ p := ne_of_none e hp
  refine ⟨C', dd, p, [(f', v)], Cs, us, false, rfl, rfl, by rw [upd_ne hpd]; exact e, sf.ex, rfl, upd_same, pu, ku, ?_⟩
  have g2 : ((σ.set i (some (V.ref a))).set j (some (.bl false)))[j]? = some (some (.bl false)) := List.getElem?_set_self lj
  have g3 : ((σ.set i (some (V.ref a))).set j (some (.bl false)))[i]? = some (some (.ref a)) := by rw [List.getElem?_set_ne (Ne.symm hij)]; exact gi
  refine ⟨_, g2, false, rfl, ?_⟩
  show (if false = true then _ else _)
  rw [if_neg Bool.false_ne_true]
  refine ⟨_, g3, C', dd, [(f', v)], .ty "ValueError", .type "ValueError", true, rfl, rfl, by rw [upd_ne hpd]; exact e, sf.ex, rfl, .ty _, sf.ve, true, rfl, ?_⟩
  show (if (!true) = true then _ else _)
  rw [if_neg (by decide)]
  refine ⟨_, g3, rfl, rfl, dd, [(f', v)], v, rfl, by rw [upd_ne hpd]; exact e, by simp [List.lookup], ?_⟩
  have bs1 := k.bs S.st.bs
  have kn := Kp.new (o := .tup Cs) bs1 hp
  exact o.rt (.d d) v _ (S.up (k.trans kn)) (Is.sub S.m0 (Is.kp kn bs1 iv)) q
end DL
namespace DL
open PySem PySem.Spec PyProof.Rows L2
abbrev W0 : WX := fun _ _ _ _ => False
theorem err_pure {K : PySem.W.Frag} {C : Addr} {f : Str} (o : OexC K C) (no : PySem.W.findIn K (.ref C) f = some none) {names : List Str} (hn : names.length = 2) {vs : List V} {H : Hp} {Q : VK} {E : XK} (h : spErr C f vs H Q E) : tOst K f (tVar 0) (tVar 1) { nx := fun _ H' => Q .non H', rt := Q } (L2.start names vs) H := by
  obtain ⟨a, y, rfl, ha, q⟩ := h
  have e : L2.start names [V.ref a, y] = [some (.ref a), some y] := by
    unfold L2.start
    rw [hn]
    rfl
  rw [e]
  exact ⟨y, rfl, .ref a, rfl, a, C, rfl, o, no, .inl ⟨ha, fun dx n ne => q dx n ne⟩⟩
theorem spErr.len {C : Addr} {f : Str} {vs : List V} {H : Hp} {Q : VK} {E : XK} (h : spErr C f vs H Q E) : vs.length = 2 := by
  obtain ⟨a, y, rfl, _⟩ := h
  rfl
section
variable {K : PySem.W.Frag} {C D : Addr}
theorem kit_ref (h1 : PySem.W.isClsIn K D = true) (h2 : PySem.W.typeIn K (.ref D) = some (.type "type")) (h0 : PySem.W.subIn K (.ref C) (.ref C) = some true) (h3 : PySem.W.subIn K (.ref C) (.ref D) = some false) : PySem.W.kitOne K (.ref C) (.ref D) = some false := by
  have ne : C ≠ D := fun e => by rw [← e, h0] at h3; cases h3
  have h1' : (PySem.W.clsIn K D).isSome = true := h1
  unfold PySem.W.kitOne
  rw [if_neg (by simpa using ne)]
  unfold PySem.W.kitCls
  show (if ((PySem.W.clsIn K D).isSome && PySem.W.typeIn K (.ref D) == some (.type "type")) = true then PySem.W.subIn K (.ref C) (.ref D) else none) = some false
  rw [h1', h2, if_pos (by simp)]
  exact h3
theorem kit_ve (h : PySem.W.subIn K (.ref C) (.type "ValueError") = some true) : PySem.W.kitOne K (.ref C) (.type "ValueError") = some true := by
  unfold PySem.W.kitOne
  rw [if_neg (by simp)]
  show (if PySem.W.kitMeta "ValueError" = true then PySem.W.subIn K (.ref C) (.type "ValueError") else none) = some true
  rw [if_pos (by decide +kernel)]
  exact h
theorem kitAny_f {t c : Value} {cs : List Value} (h : PySem.W.kitOne K t c = some false) (hr : PySem.W.kitAny K t cs = some false) : PySem.W.kitAny K t (c :: cs) = some false := by
  show (match PySem.W.kitOne K t c with | some true => some true | some false => PySem.W.kitAny K t cs | none => none) = some false
  rw [h]
  exact hr
theorem exm_self (h1 : PySem.W.subIn K (.ref C) (.type "BaseException") = some true) (h2 : PySem.W.isClsIn K C = true) (h3 : PySem.W.typeIn K (.ref C) = some (.type "type")) (h4 : PySem.W.subIn K (.ref C) (.ref C) = some true) :
    PySem.W.exmOne K (.ref C) (.ref C) = some true := by
  have e1 : (PySem.W.subIn K (.ref C) (.type "BaseException") == some true) = true := by rw [h1] <;> rfl
  have e2 : ((PySem.W.clsIn K C).isSome && PySem.W.typeIn K (.ref C) == some (.type "type")) = true := by
    have h2' : (PySem.W.clsIn K C).isSome = true := h2
    rw [h2', h3] <;> rfl
  show (if (PySem.W.subIn K (.ref C) (.type "BaseException") == some true) = true then (if ((PySem.W.clsIn K C).isSome && PySem.W.typeIn K (.ref C) == some (.type "type")) = true then PySem.W.subIn K (.ref C) (.ref C) else none) else none) = some true
  rw [if_pos e1, if_pos e2]
  exact h4
end
section
variable {K : PySem.W.Frag} {es : Env'} {Q : SV → Prop}
/-- a call that refuses nothing here -/
theorem de_ofX {te : WX → TE} (h : DEX K te es Q fun _ _ _ => False) : DE K (te W0) es Q := fun P N M L σ H S R k => h P N M L σ H S W0 (fun _ _ _ _ _ _ _ _ _ _ z => z.elim) R k
end
end DL

namespace DL
open PySem PySem.Spec PyProof.Rows L2
/-! ### zip -/
theorem lc_zip {K : PySem.W.Frag} {a b : Addr} {xs ys : List V} {g : TG} {tt : TT} {te : TE} {vs : List Nat} {σ : L2.St} {H1 : Hp} {D : Addr} {Qd : Hp → Prop} (hl : xs.length = ys.length) (Pv : Nat → Hp → Prop) (h0 : Pv 0 (upd H1 D (.lst []))) (hq : ∀ i H, Pv i H → SqL K H a xs ∧ SqL K H b ys)
    (hs : ∀ (i : Nat) (x y : V) (T : Addr) (H : Hp), xs[i]? = some x → ys[i]? = some y → Pv i H → H T = none → g (.ref T) (wipe σ vs) (upd H T (.tup [x, y])) fun σ2 H2 => wipe σ2 vs = wipe σ vs ∧ tt σ2 H2 fun b H3 =>
      if b = true then te σ2 H3 fun y H4 => ∃ acc, H4 D = some (.lst acc) ∧ acc.length < sizeLine ∧ Pv (i + 1) (upd H4 D (.lst (acc ++ [y]))) else Pv (i + 1) H3) (hd : ∀ H, Pv xs.length H → Qd H) :
    ∃ W : Nat → Nat → Hp → Prop, (∃ m, W 0 m (upd H1 D (.lst []))) ∧ ∀ i m H, W i m H →
      ((Itz K a b).stop i H ∧ Qd H) ∨ ((Itz K a b).go i H ∧ ∃ Nx : Hp → Prop, (∀ H', Nx H' → ∃ m', m' < m ∧ W (i + 1) m' H') ∧ ∀ x H', (Itz K a b).yld i H x H' → g x (wipe σ vs) H' fun σ2 H2 => wipe σ2 vs = wipe σ vs ∧ tt σ2 H2 fun b H3 =>
        if b = true then te σ2 H3 fun y H4 => ∃ acc, H4 D = some (.lst acc) ∧ acc.length < sizeLine ∧ Nx (upd H4 D (.lst (acc ++ [y]))) else Nx H3) := by
  refine ⟨fun i m H => m = xs.length - i ∧ i ≤ xs.length ∧ Pv i H, ⟨xs.length, rfl, Nat.zero_le _, h0⟩, ?_⟩
  rintro i m H ⟨rfl, hi, p⟩
  obtain ⟨qx, qy⟩ := hq i H p
  by_cases hlt : i < xs.length
  · have hx : xs[i]? = some xs[i] := List.getElem?_eq_getElem hlt
    have hlt2 : i < ys.length := by omega
    have hy : ys[i]? = some ys[i] := List.getElem?_eq_getElem hlt2
    refine .inr ⟨⟨xs, ys, _, _, qx, qy, hx, hy⟩, Pv (i + 1), fun H' p' => ⟨xs.length - (i + 1), by omega, rfl, hlt, p'⟩, fun v H' y => ?_⟩
    obtain ⟨T, x', y', rfl, hT, rfl, f1, f2⟩ := y
    exact hs i x' y' T H (f1 xs qx) (f2 ys qy) p hT
  · have e : i = xs.length := by omega
    subst e
    exact .inl ⟨⟨xs, ys, qx, qy, Or.inl (Nat.le_refl _)⟩, hd H p⟩
section
variable {K : PySem.W.Frag} {P : List Pin} {N L M : AP} {H0 H1 H H' : Hp} {σ : L2.St} {es : Env'} {ta tb tc te : TE} {tt tu : TT} {Q : SV → Prop} {t u : TS} {B : DEnds}
theorem LcP.kp' {D0 : Addr} {J : Nat → List D → Prop} {i : Nat} (h : LcP K P N M L σ es H1 D0 J i H) (nl : ¬ L D0) (k : Kp L H H') : LcP K P N M L σ es H1 D0 J i H' := by
  obtain ⟨ws, ds, hw, iw, hj, hl⟩ := h.acc
  exact ⟨h.st.kp k, h.kp.trans k, ws, ds, k.k _ _ nl hw, IsAll.kp k h.st.bs iw, hj, hl⟩
/-- a list that is data: where it stands -/
theorem SvOk.lstD (bs0 : Bs L M H0) {v : V} {s : SV} {xs : List D} (h : SvOk K N M L H0 H v s) (e : s.dat = some (.lst xs)) : ∃ a vs, v = .ref a ∧ H a = some (.lst vs) ∧ ¬ M a ∧ IsAll K M H vs xs := by
  have hx := h.data bs0 e
  cases hx with
  | lst h1 h2 h3 => exact ⟨_, _, rfl, h1, h2, h3⟩
theorem de_lcZ {g : TG} {vs : List Nat} {tr : TA} (h : DA K tr es fun ss => ∃ s1 s2 xs ys, ss = [s1, s2] ∧ s1.dat = some (.lst xs) ∧ s2.dat = some (.lst ys) ∧ xs.length = ys.length ∧ xs.length ≤ 100000 ∧ ∃ J : Nat → List D → Prop, J 0 [] ∧
    (∀ (i : Nat) x y, xs[i]? = some x → ys[i]? = some y → LcT K g tt te vs es J i (.tup [x, y])) ∧ ∀ ds, J xs.length ds → ds.length ≤ xs.length → Q (.new ds)) : DE K (tLc (iZip K tr) g tt te vs) es Q := fun P N M L σ H S R k => by
  refine h P N M L σ H S _ fun ss us H1 k1 o1 q1 => ?_
  obtain ⟨s1, s2, xs, ys, rfl, e1, e2, hl, b, J, h0, hs, hd⟩ := q1
  obtain ⟨v, w, rfl, hv, hw⟩ := o1.two
  obtain ⟨a, ws, rfl, g1, m1, i1⟩ := hv.lstD S.bs e1
  obtain ⟨c, zs, rfl, g2, m2, i2⟩ := hw.lstD S.bs e2
  refine ⟨a, c, ws, zs, rfl, .inl (.inl g1), .inl (.inl g2), fun D0 hD => ?_⟩
  obtain ⟨p0, old, nl⟩ := lc_start (S.kp k1) hD h0
  have bs1 := (S.kp k1).bs
  have na : ¬ L a := fun l => m1 (bs1.lm _ l)
  have nc : ¬ L c := fun l => m2 (bs1.lm _ l)
  have hll : ws.length = zs.length := by rw [i1.len, i2.len, hl]
  refine lc_zip (K := K) (a := a) (b := c) (xs := ws) (ys := zs) hll (LcP K P N M L σ es H1 D0 J) p0 (fun i H p => ⟨.inl (.inl (p.kp.k a _ na g1)), .inl (.inl (p.kp.k c _ nc g2))⟩) (fun i x y T H hx hy p hT => ?_) fun H p => ?_
  · obtain ⟨dx, hdx, ix⟩ := i1.getV hx
    obtain ⟨dy, hdy, iy⟩ := i2.getV hy
    have bsD := p.st.bs
    have kn := Kp.new (o := .tup [x, y]) bsD hT
    have tr : ∀ {v : V} {d : D}, Is K M H1 v d → Is K (M.add D0) (upd H T (.tup [x, y])) v d := fun {v d} i => by
      have k2 : Kp L H1 (upd H T (.tup [x, y])) := p.kp.trans kn
      exact Is.chg (fun b o e m => ⟨k2.k b o (fun l => m (.inl (bs1.lm b l))) e, m⟩) (sqt_keep (M := M) (fun b o m e => k2.k b o (fun l => m (bs1.lm b l)) e) bs1.tr) _ _ (i.add hD)
    have hi : i < 100000 := by
      have := (List.getElem?_eq_some_iff.mp hdx).1
      omega
    exact lc_turn old nl hD hi (p.kp' nl kn) (Is.tup upd_same (.cons (tr ix) (.cons (tr iy) .nil))) (hs i dx dy hdx hdy)
  · rw [i1.len] at p
    obtain ⟨kk, ds, ok, q⟩ := lc_end k1 hD p hd
    exact k _ _ _ kk ok q
/-- for a, b in zip(two tuples) -/
theorem ds_forZT {g : TG} {tr : TA} (h : DA K tr es fun ss => ∃ xs ys, ss = [.d (.tup xs), .d (.tup ys)] ∧ xs.length = ys.length ∧ ∃ I : Nat → Env' → Prop, I 0 es ∧
    (∀ (i : Nat) x y es', xs[i]? = some x → ys[i]? = some y → I i es' → ∃ js, DG K g (.tup [x, y]) js es' fun e2 => DS K t e2 ⟨I (i + 1), B.rt, B.nx, I (i + 1), B.xo⟩) ∧ ∀ es', I xs.length es' → B.nx es') : DS K (tFor (RZ.iZipA K tr) g t) es B := fun F P M L σ H S E o => by
  refine h P _ M L σ H S.st _ fun ss us H1 k1 o1 q1 => ?_
  obtain ⟨xs, ys, rfl, hl, I, h0, hs, hd⟩ := q1
  obtain ⟨v, w, rfl, hv, hw⟩ := o1.two
  have hv : Is K M H1 v (.tup xs) := hv
  have hw : Is K M H1 w (.tup ys) := hw
  obtain ⟨a, ws, rfl, g1, i1⟩ := Is.tupS hv
  obtain ⟨c, zs, rfl, g2, i2⟩ := Is.tupS hw
  have hll : ws.length = zs.length := by rw [i1.len, i2.len, hl]
  refine ⟨a, c, ws, zs, rfl, .inr ⟨g1, g2, RZ.for_zipT (K := K) (a := a) (b := c) (xs := ws) (ys := zs) hll (fun i σ H => ∃ es' M' L', Stf K F (⟨a, ws, xs, true⟩ :: ⟨c, zs, ys, true⟩ :: P) M' L' σ H es' ∧ I i es') ⟨es, M, L, ((S.kp' k1).pin (p := ⟨c, zs, ys, true⟩) ⟨g2, i2⟩).pin ⟨g1, i1⟩, h0⟩ ?_ ?_ ?_⟩⟩
  · rintro i σ' H' ⟨es', M', L', S', hI⟩
    exact ⟨(S'.st.pin _ List.mem_cons_self).1, (S'.st.pin _ (List.mem_cons_of_mem _ List.mem_cons_self)).1⟩
  · rintro i x y T σ' H' hx hy ⟨es', M', L', S', hI⟩ hT
    obtain ⟨dx, hdx, ix⟩ := (S'.st.pin _ List.mem_cons_self).2.getV hx
    obtain ⟨dy, hdy, iy⟩ := (S'.st.pin _ (List.mem_cons_of_mem _ List.mem_cons_self)).2.getV hy
    have kn := Kp.new (o := .tup [x, y]) S'.st.bs hT
    obtain ⟨js, dg⟩ := hs i dx dy es' hdx hdy hI
    refine dg.stf (S'.kp' kn) (Is.tup upd_same (.cons (Is.kp kn S'.st.bs ix) (.cons (Is.kp kn S'.st.bs iy) .nil))) _ fun e2 σ2 S2 q => ?_
    refine q F _ M' L' σ2 _ S2 _ ?_
    exact o.pinned.pinned.turn (fun σ H => ∃ es' M' L', Stf K F (⟨a, ws, xs, true⟩ :: ⟨c, zs, ys, true⟩ :: P) M' L' σ H es' ∧ I (i + 1) es') fun e3 M3 L3 σ3 H3 S3 z => ⟨e3, M3, L3, S3, z⟩
  · rintro σ' H' ⟨es', M', L', S', hI⟩
    rw [i1.len] at hI
    exact o.nx _ _ _ _ _ S'.unpin.unpin (hd es' hI)
end
end DL

namespace DL
open PySem PySem.W PySem.Spec PyProof.Rows L2
/-! ### a dict of the module with texts as keys: d.get(k, x) -/
theorem kd_find {prog : Program} {w : World} {A : Around} {E : Value → Shared → Prop} {s : Shared} {a : Addr} {o : Obj} {es : Array DictEntry} {ep : Nat} {k : Str} {tk : Tok} {Q : Option Value → Shared → Prop}
    (ho : s.heap.get? a = some o) (hd : o.data = .dict es ep) (hall : (es.all fun e => isExactStrKey e.key) = true) (h : Q ((es.toList.find? fun e => e.key.isStr k).map (·.val)) { heap := s.heap, gens := s.gens, drawn := s.drawn, toks := s.toks + 1, os := s.os }) :
    wpAny (model prog w) A (dictGet a (.str k tk)) Q E s := by
  unfold dictGet
  refine wpAny_holding (wpAny_bind (wpAny_pyHash_str (wpAny_bind (KTD.kt_dictFind_strs ho hd hall ?_))))
  have hf : findBy (fun k v => v.isStr k) es k = (es.toList.find? fun e => e.key.isStr k).map (·.val) := by
    cases es
    simp [findBy]
  rw [← hf, findBy_of_findIdx?] at h
  cases hi : es.findIdx? fun e => e.key.isStr k with
  | none =>
    rw [hi] at h
    exact wpAny_pure h
  | some i =>
    rw [hi] at h
    exact wpAny_bind (wpAny_dictEntries ho hd (wpAny_pure h))
theorem kd_meets {prog : Program} {w : World} {a : Addr} {k : Str} {tk : Tok} {dflt : Value} :
    MeetsIn prog w (Builtin.«dict.get» { pos := [.ref a, .str k tk, dflt] }) fun _ R s => (a == sysModules) = false ∧ ∃ o es ep, s.heap.get? a = some o ∧ o.data = .dict es ep ∧ (es.all fun e => isExactStrKey e.key) = true ∧
      R (.ok (.ret (((es.toList.find? fun e => e.key.isStr k).map (·.val)).getD dflt))) { heap := s.heap, gens := s.gens, drawn := s.drawn, toks := s.toks + 1, os := s.os } :=
  MeetsIn.of_wp fun A R s x => by
    obtain ⟨hs, o, es, ep, ho, hd, hall, h⟩ := x
    refine wpAny_bind (show wpAny _ _ (pure (a, Value.str k tk, some dflt)) _ _ s from wpAny_pure ?_)
    refine wpAny_bind (kd_find ho hd hall ?_)
    cases hv : (es.toList.find? fun e => e.key.isStr k).map (·.val) with
    | none =>
      rw [hv] at h
      exact wpAny_bind (wpAny_missed_other hs (wpAny_pure ⟨dflt, rfl, h⟩))
    | some v =>
      rw [hv] at h
      exact wpAny_pure ⟨v, rfl, h⟩
/-- texts and what stands at them, as a dict of the module holds them -/
def lookT (k : Str) : List (Str × V) → Option V
  | [] => none
  | (x, v) :: kvs => if x = k then some v else lookT k kvs
structure KDict (K : PySem.W.Frag) (a : Addr) (kvs : List (Str × V)) : Prop where
  ns : (a == sysModules) = false
  ob : ∃ o es ep, K.lookup a = some o ∧ o.cls = .type "dict" ∧ o.dict = none ∧ o.data = .dict es ep ∧ KTD.Rows (fun (v : V) (u : Value) => L2.RelV v u) es.toList kvs
theorem rows_find {l : List DictEntry} {kvs : List (Str × V)} (h : KTD.Rows (fun (v : V) (u : Value) => L2.RelV v u) l kvs) (k : Str) :
    (lookT k kvs = none ∧ (l.find? fun e => e.key.isStr k).map (·.val) = none) ∨ ∃ v u, lookT k kvs = some v ∧ (l.find? fun e => e.key.isStr k).map (·.val) = some u ∧ L2.RelV v u := by
  induction h with
  | nil => exact .inl ⟨rfl, rfl⟩
  | @cons e x t d es D hk hr _ ih =>
    have hs : e.key.isStr k = decide (x = k) := by
      rw [hk]
      first | rfl | simp [Value.isStr] | exact decide_eq_decide.mpr Iff.rfl
    by_cases hx : x = k
    · refine .inr ⟨d, e.val, ?_, ?_, hr⟩
      · show (if x = k then some d else lookT k D) = some d
        rw [if_pos hx]
      · rw [List.find?_cons_of_pos (by rw [hs]; exact decide_eq_true hx)]
        rfl
    · rw [List.find?_cons_of_neg (by rw [hs]; simp [hx])]
      have e1 : lookT k ((x, d) :: D) = lookT k D := by
        show (if x = k then some d else lookT k D) = lookT k D
        rw [if_neg hx]
      rw [e1]
      exact ih
def tKGet (kvs : List (Str × V)) (ty tx : TE) : TE := fun σ H Q => ty σ H fun y H1 => ∃ k, y = .str k ∧ tx σ H1 fun z H2 => Q ((lookT k kvs).getD z) H2
theorem pe_kget {X : Cx} {x : Str} {a : Addr} {kvs : List (Str × V)} {e f : Expr} {p apos cpos : Pos} {ty tx : TE} (D : KDict X.K a kvs) (hg : Gl X x) (hm : X.mg x = some (.ref a)) (he : PE X e ty) (hf : PE X f tx) (m : M2 X (.Name x p) "get" apos e f cpos)
    (hdb : (x == ("__debug__" : Str)) = false := by decide) :
    PE X (.Call (.Attribute (.Name x p) "get" apos) [e, f] [] cpos) (tKGet kvs ty tx) where
  run pins s σ H Q I h := by
    obtain ⟨ns, o, es, ep, ho, hc, hdd, hd, hr⟩ := D
    have hall : (es.all fun e => isExactStrKey e.key) = true := by
      have := KTD.Rows.exact hr
      cases es
      simpa using this
    refine wpAny_Call_method m.base m.few m.line F.plainAttrs_dict F.slot_dict_get F.type_dict_get ?_
    refine thn ((pe_glob (pos := p) hg hm (show L2.RelV (.ref a) (.ref a) from rfl) hdb).run pins s σ H (fun x H1 => x = .ref a ∧ ty σ H1 fun y H2 => ∃ k, y = .str k ∧ tx σ H2 fun z H3 => Q ((lookT k kvs).getD z) H3) I ⟨rfl, h⟩) ?_
    rintro u s1 ⟨_, H1, I1, rx, rfl, q1⟩
    cases rx
    obtain ⟨o1, p1, c1, d1, _⟩ := inv_k I1 ho
    refine ⟨⟨o1, p1, c1.trans hc⟩, fun b e => by cases e; exact ⟨o1, p1, d1.trans hdd⟩, ?_⟩
    rw [m.trees]
    refine Calls.callWith_builtin rfl (Calls.evalArgs_plain (Calls.spliced_cons (thn (he.run pins s1 σ H1 _ I1 q1) ?_)))
    rintro iv s2 ⟨y, H2, I2, ry, k, rfl, q2⟩
    obtain ⟨tk, rfl⟩ := ry
    refine Calls.spliced_cons (thn (hf.run pins s2 σ H2 _ I2 q2) ?_)
    rintro fv s3 ⟨z, H3, I3, rz, q3⟩
    refine Calls.spliced_nil ?_
    obtain ⟨o3, p3, c3, _, d3⟩ := inv_k I3 ho
    refine call_meetsIn F.slot_dict_get ⟨o3, p3, c3.trans hc⟩ F.entry_dict_get (F.args_dict_get_3 _ _ _) kd_meets ⟨ns, o3, es, ep, p3, d3.trans hd, hall, ?_⟩
    rcases rows_find hr k with ⟨e1, e2⟩ | ⟨v, u, e1, e2, r⟩
    · rw [e2]
      rw [e1] at q3
      exact ⟨z, H3, I3.tok _, rz, q3⟩
    · rw [e2]
      rw [e1] at q3
      exact ⟨v, H3, I3.tok _, r, q3⟩
end DL

namespace DL
open PySem PySem.W PySem.Spec PyProof.Rows L2
/-- enumerate(t, start = c) over a tuple -/
def ItsT (K : PySem.W.Frag) (a : Addr) (c : Int) : It where
  go i H := ∃ xs x, SqT K H a xs ∧ xs[i]? = some x
  yld i H v H' := ∃ T x, v = .ref T ∧ H T = none ∧ H' = upd H T (.tup [.int (c + i), x]) ∧ ∀ xs : List V, SqT K H a xs → xs[i]? = some x
  stop i H := ∃ xs, SqT K H a xs ∧ xs.length = i
theorem turn_enumS {P : Program} {w : World} {K : PySem.W.Frag} {elts : List Expr} {kk : Nat} {tpos : Pos} {a e it : Addr} (c : Int) :
    Turn P w K (.Tuple elts kk tpos) (ItsT K a c) [e, it] e fun i h => (∃ old, IsEnum h e it (c + i) old) ∧ h.IsTupleIter it a i ∧ e ≠ it where
  mem := by simp
  obj i h st b hb := by
    obtain ⟨⟨old, he⟩, ⟨o, ho, hc, hd⟩, hne⟩ := st
    simp only [List.mem_cons, List.not_mem_nil, or_false] at hb
    rcases hb with rfl | rfl
    · exact ⟨_, he, fun v q => nomatch q⟩
    · exact ⟨o, ho, fun v q => by rw [hd] at q; cases q⟩
  keep i h h' st k := by
    obtain ⟨⟨old, he⟩, ⟨o, ho, hc, hd⟩, hne⟩ := st
    exact ⟨⟨old, k e (by simp) _ he⟩, ⟨o, k it (by simp) _ ho, hc, hd⟩, hne⟩
  item X hP hw hK hcalm i pins s σ H E I hf st hg := by
    subst hP hw hK
    obtain ⟨⟨old, he⟩, hit, hne⟩ := st
    obtain ⟨xs, x, hq, hx⟩ := hg
    obtain ⟨its, rv, p, hz⟩ := I.tuple hq
    obtain ⟨u, hu, ru⟩ := Vals.get rv hx
    obtain ⟨oi, hoi, hci, hdi⟩ := hit
    have p' := p
    obtain ⟨ot, hot, hct, _⟩ := p'
    have nia : a ≠ it := by
      rintro rfl
      rw [hot] at hoi
      injection hoi with hoi
      rw [← hoi, hct] at hci
      injection hci with hci
      exact absurd hci (by decide)
    have nea : e ≠ a := by
      rintro rfl
      have he' : s.heap.get? e = _ := he
      rw [hot] at he'
      injection he' with he'
      rw [he'] at hct
      injection hct with hct
      exact absurd hct (by decide)
    have hel := Heap.lt_size he
    have hil := Heap.lt_size hoi
    refine wpAny_pyNext_enum_itemC (Draws.tuple (show X.A.in1.handled = none from I.ok.hd hcalm) it a nia its.toArray) he ⟨⟨oi, hoi, hci, hdi⟩, p⟩ ?_ hne (by simp [hne, nea]) fun x' h' tk hx' ho hst hT hsz hk => ?_
    · have := (List.getElem?_eq_some_iff.mp hu).1
      simpa using this
    have ex : x' = u := by
      have hx' : its.toArray[i]? = some x' := hx'
      rw [List.getElem?_toArray, hu] at hx'
      injection hx' with hx'
      exact hx'.symm
    subst ex
    refine ⟨_, rfl, wpAny_letOwnedTupleGo_enum ho fun h'' he' sb => ?_⟩
    have hT2 := (sb.right s.heap.objs.size (Nat.ne_of_gt hel)).trans hT
    have new : ObjOk X.prog X.w (upd H s.heap.objs.size (.tup [.int (c + i), x])) h'' s.heap.objs.size (.tup [.int (c + i), x]) :=
      ⟨Nat.le_of_ble_eq_true rfl, [Value.int (c + i) tk, x'], .cons ⟨tk, rfl⟩ (.cons ru .nil), ⟨_, hT2, rfl, 0, rfl⟩⟩
    have I1 := Inv.turnedNew (t' := tk + 1) (ch := [e, it]) I (fun b ob hb q => by
      simp only [List.mem_cons, List.not_mem_nil, or_false, not_or] at hb
      exact (sb.right b hb.1).trans (hk b ob hb.1 hb.2 q)) hf (Nat.le_refl _) new
    refine ⟨.ref s.heap.objs.size, _, I1, rfl, ⟨_, x, rfl, I.hok.fresh (Nat.le_refl _), rfl, fun ys hy => by rw [Inv.tuple_inj I hy hq]; exact hx⟩, ⟨⟨x', ?_⟩, ?_, hne⟩, fun b hb => ?_⟩
    · have e1 : c + ((i + 1 : Nat) : Int) = c + i + 1 := by omega
      rw [e1]
      exact he'
    · obtain ⟨⟨o2, h2, c2, d2⟩, _⟩ := hst
      exact ⟨o2, (sb.right it (Ne.symm hne)).trans h2, c2, d2⟩
    · have hb' : b < s.heap.objs.size := by
        simp only [List.mem_cons, List.not_mem_nil, or_false] at hb
        rcases hb with rfl | rfl
        · exact hel
        · exact hil
      rw [upd_ne (Nat.ne_of_lt hb')]
      exact (hf b hb).1
  done X hP hw hK hcalm i pins s σ H E I hf st hg := by
    subst hP hw hK
    obtain ⟨⟨old, he⟩, hit, hne⟩ := st
    obtain ⟨xs, hq, hx⟩ := hg
    obtain ⟨its, rv, p, hz⟩ := I.tuple hq
    obtain ⟨oi, hoi, hci, hdi⟩ := hit
    have p' := p
    obtain ⟨ot, hot, hct, _⟩ := p'
    have nia : a ≠ it := by
      rintro rfl
      rw [hot] at hoi
      injection hoi with hoi
      rw [← hoi, hct] at hci
      injection hci with hci
      exact absurd hci (by decide)
    obtain ⟨f0, f1, f2, f3, f4, f5⟩ := hf it (by simp)
    have hn : i = its.toArray.size := by
      rw [← hx, Vals.length rv]
      simp
    subst hn
    exact wpAny_pyNext_enum_endD (Draws.tuple (show X.A.in1.handled = none from I.ok.hd hcalm) it a nia its.toArray) he ⟨⟨oi, hoi, hci, hdi⟩, p⟩ fun h' eb => ⟨rfl, Inv.turned I (fun b o hb q => eb b o hb q) f0 f1 f3 f4 f5⟩
  self A i s Q E st h := by
    obtain ⟨⟨old, he⟩, _⟩ := st
    exact wpAny_pyIter_enum he h
theorem callWith_tyKw {M : Model} {A : Around} {E : Value → Shared → Prop} {s : Shared} {env : Env} {pos : Pos} {T : String} {e : Expr} {rest : List Expr} {kws : List Keyword} {Q : Value → Shared → Prop}
    (h : wpAny M A (spliced (backTo pos (starEach (e :: rest) env))) (fun vs s₁ => wpAny M A (evalAll ((backToKw pos (keywordEach kws env)).map (·.2))) (fun kvs s₂ => wpAny M A (call (.type T) vs (((backToKw pos (keywordEach kws env)).filterMap (·.1)).zip kvs)) Q E s₂) E s₁) E s)
    (he : backTo pos (starEach (e :: rest) env) = (false, eval e env) :: backTo pos (starEach rest env)) (hpl : ((backTo pos (starEach (e :: rest) env)).any (·.1)) = false)
    (hall : ((backToKw pos (keywordEach kws env)).all (·.1.isSome)) = true) (hkw : ((backToKw pos (keywordEach kws env)).any (·.1.isNone)) = false) :
    wpAny M A (callWith pos (.type T) [] (backTo pos (starEach (e :: rest) env)) (backToKw pos (keywordEach kws env))) Q E s := by
  refine W.callWith_of (P := fun _ => True) (by rw [hpl, hkw]; rfl) (fun h _ => ⟨.machine, .inr (.inl rfl), W.Looks.of_pure rfl⟩) ?_
  rw [he] at h ⊢
  refine evalArgs_kwB hall (thn h fun vs s1 q => thn q fun ks s2 q2 => ?_)
  exact ⟨trivial, q2⟩
def iEnumS (K : PySem.W.Frag) (ta tk : TA) : TI := fun σ H R => ta σ H fun vs H1 => tk σ H1 fun zs H2 => ∃ a xs c, vs = [.ref a] ∧ zs = [.int c] ∧ SqT K H2 a xs ∧ -2 ^ 63 ≤ c ∧ c < 2 ^ 63 ∧ R (ItsT K a c) H2
theorem pi_enumS {X : Cx} {e : Expr} {kws : List Keyword} {ta tk : TA} {p pos tpos : Pos} {elts : List Expr} {kk : Nat} (hg : Gl X "enumerate") (hm : X.mg "enumerate" = none) (ha : PA X [e] ta) (hk : PK X kws tk)
    (he : backTo pos (starEach [e] X.env) = (false, eval e X.env) :: backTo pos (starEach [] X.env) := by rfl) (hpl : ((backTo pos (starEach [e] X.env)).any (·.1)) = false := by rfl)
    (hall : ((backToKw pos (keywordEach kws X.env)).all (·.1.isSome)) = true := by rfl) (hkw : ((backToKw pos (keywordEach kws X.env)).any (·.1.isNone)) = false := by rfl)
    (hks : (backToKw pos (keywordEach kws X.env)).filterMap (·.1) = [Str.ofString "start"] := by rfl) :
    PI X (.Tuple elts kk tpos) (.Call (.Name "enumerate" p) [e] kws pos) (iEnumS X.K ta tk) where
  run pins s σ H R I h := by
    refine wpAny_Call_Name_kw (ld_blt I hg hm boot_enumerate (callWith_tyKw (thn (ha.run pos pins s σ H _ I h) ?_) he hpl hall hkw) (by decide +kernel) (by decide +kernel))
    rintro us s1 ⟨vs, H1, I1, r1, q1⟩
    refine thn (hk.run pos pins s1 σ H1 _ I1 q1) ?_
    rintro ws s2 ⟨zs, H2, I2, r2, a, xs, c, rfl, rfl, hq, c1, c2, q⟩
    rw [hks]
    cases r1 with
    | cons r rr =>
      cases rr
      cases r2 with
      | cons r' rr' =>
        cases rr'
        cases r
        obtain ⟨t, rfl⟩ := r'
        obtain ⟨its, rv, pp, hz⟩ := I2.tuple hq
        refine enum_begins_start (begins_tuple a its.toArray) pp c1 c2 fun h' hen hit hsz hkeep => ?_
        refine wpAny_pyIter_enum hen ?_
        have I3 := Inv.kept (t' := s2.toks) I2 hkeep
        refine ⟨s2.heap.objs.size + 1, [s2.heap.objs.size + 1, s2.heap.objs.size], fun i h => (∃ old, IsEnum h (s2.heap.objs.size + 1) s2.heap.objs.size (c + i) old) ∧ h.IsTupleIter s2.heap.objs.size a i ∧ s2.heap.objs.size + 1 ≠ s2.heap.objs.size, ItsT X.K a c, H2, rfl, I3, turn_enumS c, ⟨⟨Value.none, ?_⟩, ⟨_, hit, rfl, rfl⟩, Nat.succ_ne_self _⟩, fun b hb => ?_, q⟩
        · show IsEnum h' _ _ (c + ((0 : Nat) : Int)) _
          rw [show c + ((0 : Nat) : Int) = c by omega]
          exact hen
        · have hb' : s2.heap.objs.size ≤ b := by
            simp only [List.mem_cons, List.not_mem_nil, or_false] at hb
            rcases hb with hb | hb
            · rw [hb]; exact Nat.le_succ _
            · rw [hb]; exact Nat.le_refl _
          exact I2.fpOk hb' (I2.hok.fresh hb')
theorem for_enumS {K : PySem.W.Frag} {a : Addr} {c : Int} {xs : List V} {g : TG} {tb : TS} {D : Ends} {σ : L2.St} {H : Hp} (Pv : Nat → L2.St → Hp → Prop) (h0 : Pv 0 σ H) (hq : ∀ i σ H, Pv i σ H → SqT K H a xs)
    (hs : ∀ (i : Nat) (x : V) (T : Addr) (σ : L2.St) (H : Hp), xs[i]? = some x → Pv i σ H → H T = none → g (.ref T) σ (upd H T (.tup [.int (c + i), x])) fun σ2 H2 => tb { nx := Pv (i + 1), rt := D.rt, bk := D.nx, ct := Pv (i + 1) } σ2 H2)
    (hd : ∀ σ H, Pv xs.length σ H → D.nx σ H) :
    ∃ W : Nat → Nat → L2.St → Hp → Prop, (∃ m, W 0 m σ H) ∧ ∀ i m σ H, W i m σ H → ((ItsT K a c).stop i H ∧ D.nx σ H) ∨ ((ItsT K a c).go i H ∧ ∃ N : L2.St → Hp → Prop, (∀ σ' H', N σ' H' → ∃ m', m' < m ∧ W (i + 1) m' σ' H') ∧
      ∀ v H', (ItsT K a c).yld i H v H' → g v σ H' fun σ2 H2 => tb { nx := N, rt := D.rt, bk := D.nx, ct := N } σ2 H2) := by
  refine ⟨fun i m σ H => m = xs.length - i ∧ i ≤ xs.length ∧ Pv i σ H, ⟨xs.length, rfl, Nat.zero_le _, h0⟩, ?_⟩
  rintro i m σ H ⟨rfl, hi, p⟩
  have q := hq i σ H p
  by_cases hlt : i < xs.length
  · have hx : xs[i]? = some xs[i] := List.getElem?_eq_getElem hlt
    refine .inr ⟨⟨xs, _, q, hx⟩, Pv (i + 1), fun σ' H' p' => ⟨xs.length - (i + 1), by omega, rfl, hlt, p'⟩, fun v H' y => ?_⟩
    obtain ⟨T, x', rfl, hT, rfl, f⟩ := y
    exact hs i x' T σ H (f xs q) p hT
  · have e : i = xs.length := by omega
    subst e
    exact .inl ⟨⟨xs, q, rfl⟩, hd σ H p⟩
section
variable {K : PySem.W.Frag} {es : Env'} {B : DEnds} {t : TS}
/-- for i, x in enumerate(a tuple, start = c) -/
theorem ds_forE {g : TG} {tr tk : TA} (h : DA K tr es fun ss => DA K tk es fun us => ∃ xs c, ss = [.d (.tup xs)] ∧ us = [.d (.int c)] ∧ -2 ^ 63 ≤ c ∧ c < 2 ^ 63 ∧ ∃ I : Nat → Env' → Prop, I 0 es ∧
    (∀ (i : Nat) x es', xs[i]? = some x → I i es' → ∃ js, DG K g (.tup [.int (c + i), x]) js es' fun e2 => DS K t e2 ⟨I (i + 1), B.rt, B.nx, I (i + 1), B.xo⟩) ∧ ∀ es', I xs.length es' → B.nx es') : DS K (tFor (iEnumS K tr tk) g t) es B := fun F P M L σ H S E o => by
  refine h P _ M L σ H S.st _ fun ss us H1 k1 o1 q1 => ?_
  refine q1 P _ M L σ H1 (S.kp' k1).st _ fun ss2 us2 H2 k2 o2 q2 => ?_
  obtain ⟨xs, c, rfl, rfl, c1, c2, I, h0, hs, hd⟩ := q2
  have k12 := k1.trans k2
  obtain ⟨v, rfl, hv⟩ := o1.one
  obtain ⟨w, rfl, hw⟩ := o2.one
  have hv1 : Is K M H1 v (.tup xs) := hv
  have hv2 : Is K M H2 v (.tup xs) := Is.kp k2 (S.kp' k1).st.bs hv1
  have hw : Is K M H2 w (.int c) := hw
  cases hw
  obtain ⟨a, ws, rfl, g1, i1⟩ := Is.tupS hv2
  refine ⟨a, ws, c, rfl, rfl, g1, c1, c2, for_enumS (K := K) (a := a) (c := c) (xs := ws) (fun i σ H => ∃ es' M' L', Stf K F (⟨a, ws, xs, true⟩ :: P) M' L' σ H es' ∧ I i es') ⟨es, M, L, (S.kp' k12).pin (p := ⟨a, ws, xs, true⟩) ⟨g1, i1⟩, h0⟩ ?_ ?_ ?_⟩
  · rintro i σ' H' ⟨es', M', L', S', hI⟩
    exact (S'.st.pin _ List.mem_cons_self).1
  · rintro i x T σ' H' hx ⟨es', M', L', S', hI⟩ hT
    obtain ⟨dx, hdx, ix⟩ := (S'.st.pin _ List.mem_cons_self).2.getV hx
    have kn := Kp.new (o := .tup [.int (c + i), x]) S'.st.bs hT
    obtain ⟨js, dg⟩ := hs i dx es' hdx hI
    refine dg.stf (S'.kp' kn) (Is.tup upd_same (.cons (.int _) (.cons (Is.kp kn S'.st.bs ix) .nil))) _ fun e2 σ2 S2 q => ?_
    refine q F _ M' L' σ2 _ S2 _ ?_
    exact o.pinned.turn (fun σ H => ∃ es' M' L', Stf K F (⟨a, ws, xs, true⟩ :: P) M' L' σ H es' ∧ I (i + 1) es') fun e3 M3 L3 σ3 H3 S3 z => ⟨e3, M3, L3, S3, z⟩
  · rintro σ' H' ⟨es', M', L', S', hI⟩
    rw [i1.len] at hI
    exact o.nx _ _ _ _ _ S'.unpin (hd es' hI)
/-- d.get(k, x), d a dict of the module -/
theorem de_kget {kvs : List (Str × V)} {ds : List (Str × D)} {ta tx : TE} {Q : SV → Prop} (hd : ∀ (M : AP) (H : Hp), IsFs K M H kvs ds)
    (h : DE K ta es fun s => ∃ k, s = .d (.str k) ∧ DE K tx es fun z => ∃ d, z = .d d ∧ Q (.d (((ds.find? fun p => decide (p.1 = k)).map (·.2)).getD d))) : DE K (tKGet kvs ta tx) es Q := fun P N M L σ H S R r => by
  refine h P N M L σ H S _ fun s v H1 k1 o1 q1 => ?_
  obtain ⟨k, rfl, q1⟩ := q1
  have o1' : Is K M H1 v (.str k) := o1
  cases o1'
  refine ⟨k, rfl, q1 P N M L σ H1 (S.kp k1) _ fun z w H2 k2 o2 q2 => ?_⟩
  obtain ⟨d, rfl, q2⟩ := q2
  have hl : ∀ {kvs : List (Str × V)} {ds : List (Str × D)}, IsFs K M H2 kvs ds → (lookT k kvs = none ∧ ((ds.find? fun p => decide (p.1 = k)).map (·.2)) = none) ∨ ∃ v d, lookT k kvs = some v ∧ ((ds.find? fun p => decide (p.1 = k)).map (·.2)) = some d ∧ Is K M H2 v d := by
    intro kvs
    induction kvs with
    | nil => intro ds h; cases h; exact .inl ⟨rfl, rfl⟩
    | cons p kvs ih =>
      intro ds h
      cases h with
      | @cons x v vs d ds h1 h2 =>
        by_cases hx : x = k
        · refine .inr ⟨v, d, ?_, ?_, h1⟩
          · show (if x = k then some v else lookT k kvs) = some v
            rw [if_pos hx]
          · rw [List.find?_cons_of_pos (by exact decide_eq_true hx)]
            rfl
        · rw [List.find?_cons_of_neg (by simp [hx])]
          have e1 : lookT k ((x, v) :: kvs) = lookT k kvs := by
            show (if x = k then some v else lookT k kvs) = lookT k kvs
            rw [if_neg hx]
          rw [e1]
          exact ih h2
  rcases hl (hd M H2) with ⟨e1, e2⟩ | ⟨v, d', e1, e2, i⟩
  · rw [e1]
    rw [e2] at q2
    exact r (.d d) _ H2 (k1.trans k2) o2 q2
  · rw [e1]
    rw [e2] at q2
    exact r (.d d') _ H2 (k1.trans k2) i q2
end
end DL

namespace K07
open PySem PySem.Spec PyProof.Rows L2 DL
local macro_rules | `(tactic| walk_at "dl") => `(tactic| first
  | ((with_reducible refine de_var (s := ?sv) ?hv ?_); (case hv => exact rfl)) | with_reducible refine de_int ?_ | with_reducible refine de_bl ?_ | with_reducible refine de_str ?_ | with_reducible refine de_non ?_ | with_reducible refine de_ty ?_
  | with_reducible refine de_tup' ?_ | with_reducible refine de_lst' ?_ | ((with_reducible refine small_and ?hz ?_); (case hz => exact Nat.le_of_ble_eq_true rfl)) | with_reducible refine nall_d ?_ | with_reducible refine nall_new ?_ | with_reducible refine nall_bag ?_ | with_reducible refine nall_scr ?_ | with_reducible refine nall_nil ?_
  | with_reducible refine de_op ?_ | with_reducible refine de_un ?_ | with_reducible refine de_chain ?_ | with_reducible refine de_cb ?_ | with_reducible refine de_sl ?_
  | with_reducible refine do_none ?_ | with_reducible refine do_some ?_ | with_reducible refine da_cons ?_ | with_reducible refine da_nil ?_
  | with_reducible refine dt_test ?_ | with_reducible refine dt_B ?_ | with_reducible refine dt_not ?_ | with_reducible refine dt_and ?_ | with_reducible refine dt_or ?_ | with_reducible refine dt_yes ?_
  | with_reducible refine de_andV ?_ | with_reducible refine de_orV ?_ | with_reducible refine de_notV ?_
  | with_reducible refine ds_next ?_ | with_reducible refine ds_seq ?_ | with_reducible refine ds_ret ?_ | with_reducible refine ds_retN ?_ | with_reducible refine ds_if ?_ | with_reducible refine ds_brk ?_ | with_reducible refine ds_cont ?_
  | with_reducible refine ds_set ?_
  | with_reducible refine plus_i ?_ | with_reducible refine sub_i ?_ | with_reducible refine lt_i ?_ | with_reducible refine gt_i ?_ | with_reducible refine ge_i ?_ | with_reducible refine le_i ?_ | with_reducible refine le_s ?_ | with_reducible refine neg_i ?_
  | with_reducible refine eq_ii ?_ | with_reducible refine ne_ii ?_ | with_reducible refine eq_ss ?_ | with_reducible refine ne_ss ?_
  | with_reducible refine is_b ?_ | with_reducible refine isnot_b ?_ | with_reducible refine is_n ?_ | with_reducible refine isnot_n ?_ | with_reducible refine in_r ?_ | with_reducible refine notin_r ?_
  | with_reducible refine len_x rfl rfl ?_ | with_reducible refine abs_x ?_ | with_reducible refine max_x ?_ | with_reducible refine min_x ?_ | with_reducible refine rng_x ?_
  | with_reducible refine bag_ix (.inl rfl) (fun g => ?_) | with_reducible refine bag_ix (.inr rfl) (fun g => ?_)
  | with_reducible refine nown_d ?_ | with_reducible refine nown_new ?_ | with_reducible refine ret_d ?_ | with_reducible refine ret_new ?_ | with_reducible refine ret_own ?_
  | with_reducible refine ⟨_, rfl, ?_⟩ | dsimp only [sto_d, sto_new, sto_bag, sto_scr, out_d, out_new, out_own, arg_d, arg_new, arg_bag, arg_scr, List.set, List.map_cons, List.map_nil])

structure CS where
  C_Land : Addr
  T_Land_roads : Addr
  C_NoLand : Addr
  C_NoDeed : Addr
  C_NoText : Addr
  C_NoCell : Addr
  C_NoDay : Addr
  C_NoHand : Addr
  C_TooMany : Addr
  C_Unlike : Addr
  A_PARTS : Addr
  A_PARTS_0 : Addr
  A_PARTS_1 : Addr
  A_PARTS_2 : Addr
  A_PARTS_3 : Addr

def wholeD : D → Bool
  | .int _ => true
  | _ => false
def stretchD : D → Bool
  | .tup [.int a, .int b] => decide (0 ≤ a) && decide (1 ≤ b)
  | _ => false
def sp_is_whole (K : PySem.W.Frag) (Z : CS) : Sp := spD K 1 (fun ss => ∃ x, ss = [.d x] ∧ x.plain = true) fun ss r => ∃ x, ss = [.d x] ∧ r = .d (.bl (wholeD x))
def sp_is_stretch (K : PySem.W.Frag) (Z : CS) : Sp := spD K 1 (fun ss => ∃ x, ss = [.d x] ∧ x.plain = true) fun ss r => ∃ x, ss = [.d x] ∧ r = .d (.bl (stretchD x))
def preLeast (ss : List SV) : Prop := ∃ ps : List (Int × Int), ss = [.d (.lst (ps.map dPair))] ∧ (∀ p ∈ ps, 0 < p.2) ∧ ps.length < 1000
def postLeast (ss : List SV) (r : SV) : Prop := ∃ ps rs : List (Int × Int), ss = [.d (.lst (ps.map dPair))] ∧ r = .new (rs.map dPair) ∧ Canon rs ∧ (∀ c, Cov rs c ↔ Cov ps c) ∧ rs.length ≤ ps.length
def sp_least (K : PySem.W.Frag) (Z : CS) : Sp := spD K 1 preLeast postLeast
def sp__end (K : PySem.W.Frag) (Z : CS) : Sp := spD K 1 (fun ss => ∃ p : Int × Int, ss = [.d (dPair p)]) fun ss r => ∃ p : Int × Int, ss = [.d (dPair p)] ∧ r = .d (.int (p.1 + p.2))
def preBoth (ss : List SV) : Prop := ∃ ps qs : List (Int × Int), ss = [.d (.lst (ps.map dPair)), .d (.lst (qs.map dPair))] ∧ ((∀ p ∈ ps, 0 < p.2) ∧ ps.length < 1000) ∧ (∀ p ∈ qs, 0 < p.2) ∧ qs.length < 1000
def postBoth (ss : List SV) (r : SV) : Prop := ∃ ps qs rs : List (Int × Int), ss = [.d (.lst (ps.map dPair)), .d (.lst (qs.map dPair))] ∧ r = .new (rs.map dPair) ∧ Canon rs ∧ (∀ c, Cov rs c ↔ Cov ps c ∧ Cov qs c) ∧ rs.length ≤ ps.length + qs.length
def sp_both (K : PySem.W.Frag) (Z : CS) : Sp := spD K 2 preBoth postBoth
def low (c : Nat) : Bool := if (!decide ((⟨#[c]⟩ : Str).cps.toList < ("a" : Str).cps.toList)) = true then !decide (("z" : Str).cps.toList < (⟨#[c]⟩ : Str).cps.toList) else false
def isS : D → Bool
  | .str _ => true
  | _ => false
def sizedD : D → Bool
  | .str z => decide (1 ≤ z.length) && decide (z.length ≤ 8)
  | _ => false
def handD : D → Bool
  | .str z => sizedD (.str z) && z.cps.toList.all low
  | _ => false
/-- a thing of which it is asked -/
def ask : D → Prop
  | .str z => z.length ≤ 1000
  | x => x.plain = true
def sp_is_hand (K : PySem.W.Frag) (Z : CS) : Sp := spD K 1 (fun ss => ∃ x, ss = [.d x] ∧ ask x) fun ss r => ∃ x, ss = [.d x] ∧ r = .d (.bl (handD x))
def RoadsOk (ps : List (Int × Int)) (c : Int) : Prop := Canon ps ∧ (∀ p ∈ ps, 0 ≤ p.1 ∧ p.1 + p.2 ≤ c) ∧ ps.length ≤ 8 ∧ 1 ≤ c ∧ c ≤ 1000000000000000000000000000000
structure PT where
  c : Int
  h : Str
  g : Int
  l : Int
  ps : List (Int × Int)
def PT.ok (p : PT) : Prop := RoadsOk p.ps p.c ∧ (handD (.str p.h) = true ∧ okS p.h) ∧ (1 ≤ p.g ∧ p.g ≤ 1000000000000) ∧ 1 ≤ p.l ∧ p.l ≤ 1000000000000
def PT.d (p : PT) : D := .tup [.int p.c, .str p.h, .int p.g, .int p.l, .tup (p.ps.map dPair)]
def PT.fs (p : PT) : List (Str × D) := [("_cells", .int p.c), ("_hand", .str p.h), ("_grow", .int p.g), ("_lapse", .int p.l), ("_roads", .tup (p.ps.map dPair))]
def PT.o (p : PT) (C : Addr) : D := .obj C p.fs
def PT.text (p : PT) : Str := ((((("" : Str) ++ "Land(") ++ toString p.c) ++ " cells of ") ++ p.h) ++ ")"
def sp__is_amount (K : PySem.W.Frag) (Z : CS) : Sp := spD K 2 (fun ss => ∃ n m : Int, ss = [.d (.int n), .d (.int m)] ∧ 1 ≤ n ∧ n ≤ m) fun _ r => r = .d (.bl true)
def sp__are_roads (K : PySem.W.Frag) (Z : CS) : Sp := spD K 2 (fun ss => ∃ (ps : List (Int × Int)) (c : Int), ss = [.d (.tup (ps.map dPair)), .d (.int c)] ∧ RoadsOk ps c) fun _ r => r = .d (.bl true)
def sp_Land___init__ (K : PySem.W.Frag) (Z : CS) : Sp := spI K Z.C_Land 5 (fun ss => ∃ p : PT, ss = [.d (.int p.c), .d (.str p.h), .d (.int p.g), .d (.int p.l), .d (.tup (p.ps.map dPair))] ∧ p.ok) fun ss ds => ∀ p : PT, ss = [.d (.int p.c), .d (.str p.h), .d (.int p.g), .d (.int p.l), .d (.tup (p.ps.map dPair))] → ds = p.fs
def spGet (K : PySem.W.Frag) (C : Addr) (f : PT → D) : Sp := spD K 1 (fun ss => ∃ p : PT, ss = [.d (p.o C)]) fun ss r => ∀ p : PT, ss = [.d (p.o C)] → r = .d (f p)
def sp_Land_cells (K : PySem.W.Frag) (Z : CS) : Sp := spGet K Z.C_Land fun p => .int p.c
def sp_Land_hand (K : PySem.W.Frag) (Z : CS) : Sp := spGet K Z.C_Land fun p => .str p.h
def sp_Land_grow (K : PySem.W.Frag) (Z : CS) : Sp := spGet K Z.C_Land fun p => .int p.g
def sp_Land_lapse (K : PySem.W.Frag) (Z : CS) : Sp := spGet K Z.C_Land fun p => .int p.l
def sp_Land_roads (K : PySem.W.Frag) (Z : CS) : Sp := spGet K Z.C_Land fun p => .tup (p.ps.map dPair)
def preNo (K : PySem.W.Frag) (Z : CS) (n : Nat) : Sp := spQ K n (fun x : Empty => nomatch x) (fun _ => True) fun _ _ => True
def sp_Land___eq__ (K : PySem.W.Frag) (Z : CS) : Sp := preNo K Z 2
def sp_Land___repr__ (K : PySem.W.Frag) (Z : CS) : Sp := preNo K Z 1
def partsL (w : Str) : List Str := if w = "sale" then ["day", "stretch", "hand"] else if w = "grant" then ["day", "hand", "stretch", "stretch"] else if w = "end" then ["day", "hand", "stretch", "stretch"] else if w = "use" then ["day", "last", "stretch", "stretch", "leave"] else []
def sp_parts_of (K : PySem.W.Frag) (Z : CS) : Sp := spQ K 1 (fun w : Str => [.d (.str w)]) (fun _ => True) fun w r => r = .d (.tup ((partsL w).map D.str))
def dayD : D → Bool
  | .int n => decide (0 ≤ n) && decide (n ≤ 1000000000000000000000000000000)
  | _ => false
def sp_is_day (K : PySem.W.Frag) (Z : CS) : Sp := spQ K 1 (fun x : D => [.d x]) (fun x => x.plain = true) fun x r => r = .d (.bl (dayD x))
def strC (c : Int) : D → Bool
  | .tup [.int a, .int b] => decide (0 ≤ a) && decide (1 ≤ b) && decide (a + b ≤ c)
  | _ => false
def leD : D → D → Bool
  | .int a, .int b => decide (a ≤ b)
  | _, _ => false
def okPart (c : Int) (p : Str) (x a : D) : Bool :=
  if p = "hand" then handD x else if p = "stretch" then strC c x else if p = "leave" then isBool x else dayD x && (decide (p = "day") || leD a x)
structure IPx where
  p : PT
  w : Str
  x : D
  a : D
def fineX (x : D) : Prop := x.plain = true ∧ ask x
def sp__is_part (K : PySem.W.Frag) (Z : CS) : Sp := spQ K 4 (fun y : IPx => [.d (y.p.o Z.C_Land), .d (.str y.w), .d y.x, .d y.a]) (fun y => fineX y.x ∧ (y.w = "last" → ∃ n, y.a = .int n) ∧ (y.w ∈ [("day" : Str), "last", "hand", "stretch", "leave"])) fun y r => r = .d (.bl (okPart y.p.c y.w y.x y.a))
def firstBad (c : Int) : List Str → D → List D → Nat → Option Nat
  | p :: ps, a, t :: ts, n => if okPart c p t a then firstBad c ps t ts (n + 1) else some n
  | _, _, _, _ => none
def wrongD (c : Int) : D → D
  | .tup (.str w :: xs) => if partsL w = [] ∨ xs.length ≠ (partsL w).length then .int 0 else match firstBad c (partsL w) (.str w) xs 1 with
    | none => .non
    | some n => .int n
  | _ => .int 0
def fineT : D → Prop
  | .tup (.str w :: xs) => (∀ x ∈ xs, fineX x) ∧ w.length ≤ 1000 ∧ xs.length ≤ 1000
  | .tup xs => xs.length ≤ 1000
  | _ => True
def sp__wrong_part (K : PySem.W.Frag) (Z : CS) : Sp := spQ K 2 (fun y : PT × D => [.d (y.1.o Z.C_Land), .d y.2]) (fun y => y.2.plain = true ∧ fineT y.2) fun y r => r = .d (wrongD y.1.c y.2)
def xpDeed (Z : CS) (c : Int) (x : D) : XP := fun C f d => C = Z.C_NoDeed ∧ f = "number" ∧ d = wrongD c x ∧ d ≠ .non
def sp_look_deed (K : PySem.W.Frag) (Z : CS) : Sp := spX K 2 (fun y : PT × D => [.d (y.1.o Z.C_Land), .d y.2]) (fun y => y.2.plain = true ∧ fineT y.2) (fun y r => r = .d .non ∧ wrongD y.1.c y.2 = .non) fun y => xpDeed Z y.1.c y.2
def lowS (z : Str) : Prop := ∀ c ∈ z.cps.toList, low c = true
def handOk (z : Str) : Prop := (1 ≤ z.length ∧ z.length ≤ 8) ∧ okS z ∧ lowS z
structure Pl where
  wide : Int
  scale : Int
  last : Int
  grow : Int
  lapse : Int
  n0 : Str
  n1 : Str
  n2 : Str
def Pl.items (p : Pl) : List D := [.int p.wide, .int p.scale, .lst [.str p.n0, .str p.n1, .str p.n2], .int p.last, .int p.grow, .int p.lapse]
def Pl.d (p : Pl) : D := .tup p.items
def Pl.ok (p : Pl) : Prop := (2 ≤ p.wide ∧ p.wide ≤ 6) ∧ (1 ≤ p.scale ∧ p.scale ≤ 100000000000000000000000000000) ∧ (3 ≤ p.last ∧ p.last ≤ 12) ∧ (1 ≤ p.grow ∧ p.grow ≤ 4) ∧ (1 ≤ p.lapse ∧ p.lapse ≤ 4) ∧ handOk p.n0 ∧ handOk p.n1 ∧ handOk p.n2
def Pl.c (p : Pl) : Int := p.wide * p.scale
def Pl.pt (p : Pl) : PT := ⟨p.c, p.n0, p.grow, p.lapse, []⟩
def sp__law_names (K : PySem.W.Frag) (Z : CS) : Sp := spQ K 2 (fun n : Nat => [.bag, .d (.int (n : Int))]) (fun n => n ≤ 10) fun n r => ∃ zs : List Str, r = .new (zs.map D.str) ∧ zs.length = n ∧ ∀ z ∈ zs, handOk z
def sp__law_plan (K : PySem.W.Frag) (Z : CS) : Sp := spQ K 1 (fun _ : Unit => [.bag]) (fun _ => True) fun _ r => ∃ p : Pl, r = .d p.d ∧ p.ok
def sp__law_land (K : PySem.W.Frag) (Z : CS) : Sp := spQ K 1 (fun p : Pl => [.d p.d]) Pl.ok fun p r => r = .d (p.pt.o Z.C_Land)
def StP (c : Int) (s : Int × Int) : Prop := 0 ≤ s.1 ∧ 1 ≤ s.2 ∧ s.1 + s.2 ≤ c
def sp__law_stretch (K : PySem.W.Frag) (Z : CS) : Sp := spQ K 2 (fun p : Pl => [.bag, .d p.d]) Pl.ok fun p r => ∃ s : Int × Int, r = .d (dPair s) ∧ StP p.c s
def DeedP (c : Int) (w : Str) (xs : List D) : Prop :=
  (w = "sale" ∧ ∃ (d : Int) (s : Int × Int) (h : Str), xs = [.int d, dPair s, .str h] ∧ (0 ≤ d ∧ d ≤ 100) ∧ StP c s ∧ handOk h) ∨
  ((w = "grant" ∨ w = "end") ∧ ∃ (d : Int) (h : Str) (s s' : Int × Int), xs = [.int d, .str h, dPair s, dPair s'] ∧ (0 ≤ d ∧ d ≤ 100) ∧ handOk h ∧ StP c s ∧ StP c s') ∨
  (w = "use" ∧ ∃ (d e : Int) (s s' : Int × Int) (b : Bool), xs = [.int d, .int e, dPair s, dPair s', .bl b] ∧ (0 ≤ d ∧ d ≤ e ∧ e ≤ 100) ∧ StP c s ∧ StP c s')
def sp__law_deed (K : PySem.W.Frag) (Z : CS) : Sp := spQ K 2 (fun p : Pl => [.bag, .d p.d]) Pl.ok fun p r => ∃ w xs, r = .d (.tup (.str w :: xs)) ∧ DeedP p.c w xs
def sp__law_told (K : PySem.W.Frag) (Z : CS) : Sp := spQ K 2 (fun y : Pl × D => [.d y.1.d, .d y.2]) (fun y => y.1.ok ∧ y.2.plain = true ∧ fineT y.2) fun y r => r = .d (wrongD y.1.c y.2)
def OddP (c : Int) (x o : D) : Prop := match x with
  | .bl _ => isBool o = false
  | .int _ => dayD o = false
  | .str _ => handD o = false
  | .tup _ => strC c o = false
  | _ => False
def okT (x : D) : Prop := fineX x ∧ Fit 3000 4 x
def KindP (x : D) : Prop := (∃ b, x = .bl b) ∨ (∃ n : Int, x = .int n ∧ 0 ≤ n ∧ n ≤ 100) ∨ (∃ z, x = .str z ∧ handOk z) ∨ ∃ s : Int × Int, x = dPair s
def sp__law_odd (K : PySem.W.Frag) (Z : CS) : Sp := spQ K 3 (fun y : Pl × D => [.bag, .d y.1.d, .d y.2]) (fun y => y.1.ok ∧ KindP y.2) fun y r => ∃ o, r = .d o ∧ okT o ∧ OddP y.1.c y.2 o
structure DX where
  p : Pl
  w : Str
  xs : List D
def BentP (c : Int) (bent : D) (due : Int) : Prop := wrongD c bent = .int due ∧ bent.plain = true ∧ fineT bent ∧ Fit 100000 10 bent
def sp__law_bent (K : PySem.W.Frag) (Z : CS) : Sp := spQ K 3 (fun y : DX => [.bag, .d y.p.d, .d (.tup (.str y.w :: y.xs))]) (fun y => y.p.ok ∧ DeedP y.p.c y.w y.xs) fun y r => ∃ bent due, r = .d (.tup [bent, .int due]) ∧ BentP y.p.c bent due
def sp_law (K : PySem.W.Frag) : Sp := spD K 1 (fun ss => ∃ ns : List Int, ss = [.scr ns] ∧ ns.length ≤ 63) fun _ r => r = .d (.bl true)


structure LF (K : PySem.W.Frag) (Z : CS) : Prop where
  i : InsF K Z.C_Land
  n_cells : NoAttr K Z.C_Land "_cells"
  n_hand : NoAttr K Z.C_Land "_hand"
  n_grow : NoAttr K Z.C_Land "_grow"
  n_lapse : NoAttr K Z.C_Land "_lapse"
  n_roads : NoAttr K Z.C_Land "_roads"
  o_tuple : PySem.W.notFirst K Z.C_Land (.type "tuple") = true
  o_str : PySem.W.notFirst K Z.C_Land (.type "str") = true
  o_obj : PySem.W.notFirst K Z.C_Land (.type "object") = true
  k_tuple : PySem.W.kitOne K (.type "tuple") (.ref Z.C_Land) = some false
  k_str : PySem.W.kitOne K (.type "str") (.ref Z.C_Land) = some false
  tT_Land_roads : ∀ H : Hp, SqT K H Z.T_Land_roads []
  sf_NoDeed : SuiteF K [.ref Z.C_NoLand, .ref Z.C_NoText, .ref Z.C_NoCell, .ref Z.C_NoDay, .ref Z.C_NoHand, .ref Z.C_TooMany, .ref Z.C_Unlike] Z.C_NoDeed
  pt_PARTS : ∀ (M : AP) (H : Hp), IsFs K M H [("sale", .ref Z.A_PARTS_0), ("grant", .ref Z.A_PARTS_1), ("end", .ref Z.A_PARTS_2), ("use", .ref Z.A_PARTS_3)] [("sale", .tup [.str "day", .str "stretch", .str "hand"]), ("grant", .tup [.str "day", .str "hand", .str "stretch", .str "stretch"]), ("end", .tup [.str "day", .str "hand", .str "stretch", .str "stretch"]), ("use", .tup [.str "day", .str "last", .str "stretch", .str "stretch", .str "leave"])]

/-- is_whole: 0 thing -/
def rd_is_whole (K : PySem.W.Frag) (Z : CS) : TS := (tRet (tAndV (tCB (rIsi K) (tCons (tVar 0) (tCons (tC (.ty "int")) tNil))) (tNotV (tCB (rIsi K) (tCons (tVar 0) (tCons (tC (.ty "bool")) tNil))))))
/-- is_stretch: 0 thing, 1 first, 2 many -/
def rd_is_stretch (K : PySem.W.Frag) (Z : CS) : TS := (tSeq (tIfS (tOr (tNot (tB (tCB (rIsi K) (tCons (tVar 0) (tCons (tC (.ty "tuple")) tNil))))) (tTest (tOp (rNeX K) (tCB (rLenX K) (tCons (tVar 0) tNil)) (tC (.int 2))))) (tRet (tC (.bl false))) tNext)
    (tSeq (tAsg (tVar 0) (gTup K 2 (gCons (gName 1) (gCons (gName 2) gNil))))
    (tRet (tAndV (tCall (sp_is_whole K Z) [] E0 (tCons (tVar 1) tNil)) (tAndV (tOp rGe (tVar 1) (tC (.int 0))) (tAndV (tCall (sp_is_whole K Z) [] E0 (tCons (tVar 2) tNil)) (tOp rGe (tVar 2) (tC (.int 1)))))))))
/-- least: 0 stretches, 1 runs, 2 first, 3 many, 4 end -/
def rd_least (K : PySem.W.Frag) (Z : CS) : TS := (tSeq (tAsg (tLst tNil) (gName 1))
    (tSeq (tFor (iList K (tCB (rSortedPO K) (tCons (tVar 0) tNil))) (gTup K 2 (gCons (gName 2) (gCons (gName 3) gNil))) (tIfS (tAnd (tTruX K (tVar 1)) (tTest (tOp (rLe K) (tVar 2) (tOp (rIx K) (tOp (rIx K) (tVar 1) (tUn rNeg (tC (.int 1)))) (tC (.int 1)))))) (tAsg (tCB rMaxX (tCons (tOp (rIx K) (tOp (rIx K) (tVar 1) (tUn rNeg (tC (.int 1)))) (tC (.int 1))) (tCons (tOp (rPlus K) (tVar 2) (tVar 3)) tNil))) (gSub (tOp (rIx K) (tVar 1) (tUn rNeg (tC (.int 1)))) (tC (.int 1)) rSetL)) (tDrop (tBM K "list" rAppend (tVar 1) (tCons (tLst (tCons (tVar 2) (tCons (tOp (rPlus K) (tVar 2) (tVar 3)) tNil))) tNil)))))
    (tRet (tLc (iList K (tVar 1)) (gUnl K 2 (gCons (gName 2) (gCons (gName 4) gNil))) tYes (tTup (tCons (tVar 2) (tCons (tOp rSubX (tVar 4) (tVar 2)) tNil))) [2, 4]))))
/-- both: 0 one, 1 other, 2 left, 3 right, 4 shared, 5 at, 6 by, 7 first, 8 left_end, 9 right_end, 10 end -/
def rd_both (K : PySem.W.Frag) (Z : CS) : TS := (tSeq (tAsg (tCall (sp_least K Z) [] E0 (tCons (tVar 0) tNil)) (gName 2))
    (tSeq (tAsg (tCall (sp_least K Z) [] E0 (tCons (tVar 1) tNil)) (gName 3))
    (tSeq (tAsg (tLst tNil) (gName 4))
    (tSeq (tAsg (tC (.int 0)) (gName 5))
    (tSeq (tAsg (tC (.int 0)) (gName 6))
    (tSeq (tWhile (tAnd (tTest (tOp rLt (tVar 5) (tCB (rLenX K) (tCons (tVar 2) tNil)))) (tTest (tOp rLt (tVar 6) (tCB (rLenX K) (tCons (tVar 3) tNil))))) (tSeq (tAsg (tCB rMaxX (tCons (tOp (rIx K) (tOp (rIx K) (tVar 2) (tVar 5)) (tC (.int 0))) (tCons (tOp (rIx K) (tOp (rIx K) (tVar 3) (tVar 6)) (tC (.int 0))) tNil))) (gName 7))
    (tSeq (tAsg (tCall (sp__end K Z) [] E0 (tCons (tOp (rIx K) (tVar 2) (tVar 5)) tNil)) (gName 8))
    (tSeq (tAsg (tCall (sp__end K Z) [] E0 (tCons (tOp (rIx K) (tVar 3) (tVar 6)) tNil)) (gName 9))
    (tSeq (tAsg (tCB rMinX (tCons (tVar 8) (tCons (tVar 9) tNil))) (gName 10))
    (tSeq (tIfS (tTest (tOp rLt (tVar 7) (tVar 10))) (tDrop (tBM K "list" rAppend (tVar 4) (tCons (tTup (tCons (tVar 7) (tCons (tOp rSubX (tVar 10) (tVar 7)) tNil))) tNil))) tNext)
    (tIfS (tTest (tOp rLt (tVar 8) (tVar 9))) (tAug 5 (tC (.int 1)) (ipI fun i j => i + j)) (tAug 6 (tC (.int 1)) (ipI fun i j => i + j)))))))))
    (tRet (tVar 4))))))))
/-- _end: 0 stretch, 1 first, 2 many -/
def rd__end (K : PySem.W.Frag) (Z : CS) : TS := (tSeq (tAsg (tVar 0) (gTup K 2 (gCons (gName 1) (gCons (gName 2) gNil))))
    (tRet (tOp (rPlus K) (tVar 1) (tVar 2))))
/-- is_hand: 0 thing, 1 sign -/
def rd_is_hand (K : PySem.W.Frag) (Z : CS) : TS := (tSeq (tIfS (tOr (tNot (tB (tCB (rIsi K) (tCons (tVar 0) (tCons (tC (.ty "str")) tNil))))) (tNot (tTest (tChain (rLe K) (rLe K) (tC (.int 1)) (tCB (rLenX K) (tCons (tVar 0) tNil)) (tC (.int 8)))))) (tRet (tC (.bl false))) tNext)
    (tRet (tCB (rAll K) (tCons (tLc (iStr (tVar 0)) (gName 1) tYes (tChain (rLe K) (rLe K) (tC (.str "a")) (tVar 1) (tC (.str "z"))) [1]) tNil))))
/-- Land___init__: 0 self, 1 cells, 2 hand, 3 grow, 4 lapse, 5 roads -/
def rd_Land___init__ (K : PySem.W.Frag) (Z : CS) : TS := (tSeq (tIfS (tNot (tB (tCall (sp__is_amount K Z) [] E0 (tCons (tVar 1) (tCons (tC (.int 1000000000000000000000000000000)) tNil))))) tNever tNext)
    (tSeq (tIfS (tNot (tB (tCall (sp_is_hand K Z) [] E0 (tCons (tVar 2) tNil)))) tNever tNext)
    (tSeq (tIfS (tNot (tB (tCall (sp__is_amount K Z) [] E0 (tCons (tVar 3) (tCons (tC (.int 1000000000000)) tNil))))) tNever tNext)
    (tSeq (tIfS (tNot (tB (tCall (sp__is_amount K Z) [] E0 (tCons (tVar 4) (tCons (tC (.int 1000000000000)) tNil))))) tNever tNext)
    (tSeq (tIfS (tNot (tB (tCall (sp__are_roads K Z) [] E0 (tCons (tVar 5) (tCons (tVar 1) tNil))))) tNever tNext)
    (tSeq (sFld K (tVar 0) (tVar 1) "_cells")
    (tSeq (sFld K (tVar 0) (tVar 2) "_hand")
    (tSeq (sFld K (tVar 0) (tVar 3) "_grow")
    (tSeq (sFld K (tVar 0) (tVar 4) "_lapse")
    (tSeq (sFld K (tVar 0) (tVar 5) "_roads")
    tNext))))))))))
/-- Land_cells: 0 self -/
def rd_Land_cells (K : PySem.W.Frag) (Z : CS) : TS := (tRet (tFld K (tVar 0) "_cells"))
/-- Land_hand: 0 self -/
def rd_Land_hand (K : PySem.W.Frag) (Z : CS) : TS := (tRet (tFld K (tVar 0) "_hand"))
/-- Land_grow: 0 self -/
def rd_Land_grow (K : PySem.W.Frag) (Z : CS) : TS := (tRet (tFld K (tVar 0) "_grow"))
/-- Land_lapse: 0 self -/
def rd_Land_lapse (K : PySem.W.Frag) (Z : CS) : TS := (tRet (tFld K (tVar 0) "_lapse"))
/-- Land_roads: 0 self -/
def rd_Land_roads (K : PySem.W.Frag) (Z : CS) : TS := (tRet (tFld K (tVar 0) "_roads"))
/-- Land___eq__: 0 self, 1 other -/
def rd_Land___eq__ (K : PySem.W.Frag) (Z : CS) : TS := (tRet (tAndV (tCB (rIsi K) (tCons (tVar 1) (tCons (tC (.ref Z.C_Land)) tNil))) (tAndV (tOp (rEqX K) (tFld K (tVar 0) "_cells") (tFld K (tVar 1) "_cells")) (tAndV (tOp (rEqX K) (tFld K (tVar 0) "_hand") (tFld K (tVar 1) "_hand")) (tAndV (tOp (rEqX K) (tFld K (tVar 0) "_grow") (tFld K (tVar 1) "_grow")) (tAndV (tOp (rEqX K) (tFld K (tVar 0) "_lapse") (tFld K (tVar 1) "_lapse")) (tOp (rEqX K) (tFld K (tVar 0) "_roads") (tFld K (tVar 1) "_roads"))))))))
/-- Land___repr__: 0 self -/
def rd_Land___repr__ (K : PySem.W.Frag) (Z : CS) : TS := (tRet (tJoined ((tC (.str "Land(")) :: ((tFmt (tFld K (tVar 0) "_cells")) :: ((tC (.str " cells of ")) :: ((tFmt (tFld K (tVar 0) "_hand")) :: ((tC (.str ")")) :: [])))))))
/-- _is_amount: 0 thing, 1 most -/
def rd__is_amount (K : PySem.W.Frag) (Z : CS) : TS := (tRet (tAndV (tCall (sp_is_whole K Z) [] E0 (tCons (tVar 0) tNil)) (tChain (rLe K) (rLe K) (tC (.int 1)) (tVar 0) (tVar 1))))
/-- _are_roads: 0 thing, 1 cells, 2 roads, 3 road -/
def rd__are_roads (K : PySem.W.Frag) (Z : CS) : TS := (tSeq (tIfS (tOr (tNot (tB (tCB (rIsi K) (tCons (tVar 0) (tCons (tC (.ty "tuple")) tNil))))) (tTest (tOp rGt (tCB (rLenX K) (tCons (tVar 0) tNil)) (tC (.int 8))))) (tRet (tC (.bl false))) tNext)
    (tSeq (tIfS (tNot (tB (tCB (rAll K) (tCons (tLc (iTup K (tVar 0)) (gName 3) tYes (tCall (sp_is_stretch K Z) [] E0 (tCons (tVar 3) tNil)) [3]) tNil)))) (tRet (tC (.bl false))) tNext)
    (tSeq (tAsg (tCB (rListX K) (tCons (tVar 0) tNil)) (gName 2))
    (tRet (tOp (rEqX K) (tCall (sp_both K Z) [] E0 (tCons (tVar 2) (tCons (tLst (tCons (tTup (tCons (tC (.int 0)) (tCons (tVar 1) tNil))) tNil)) tNil))) (tVar 2))))))
/-- look_deed: 0 land, 1 thing, 2 number -/
def rd_look_deed (K : PySem.W.Frag) (Z : CS) (E : XK) : TS := (tSeq (tAsg (tCall (sp__wrong_part K Z) [] E0 (tCons (tVar 0) (tCons (tVar 1) tNil))) (gName 2))
    (tIfS (tTest (tOp rNotX (tVar 2) (tC .non))) (tRaiseE Z.C_NoDeed "number" (wOut E) (tCons (tVar 2) tNil)) tNext))
/-- parts_of: 0 word -/
def rd_parts_of (K : PySem.W.Frag) (Z : CS) : TS := (tRet (tKGet [("sale", .ref Z.A_PARTS_0), ("grant", .ref Z.A_PARTS_1), ("end", .ref Z.A_PARTS_2), ("use", .ref Z.A_PARTS_3)] (tVar 0) (tTup tNil)))
/-- is_day: 0 thing -/
def rd_is_day (K : PySem.W.Frag) (Z : CS) : TS := (tRet (tAndV (tCall (sp_is_whole K Z) [] E0 (tCons (tVar 0) tNil)) (tChain (rLe K) (rLe K) (tC (.int 0)) (tVar 0) (tC (.int 1000000000000000000000000000000)))))
/-- _wrong_part: 0 land, 1 thing, 2 parts, 3 number, 4 part -/
def rd__wrong_part (K : PySem.W.Frag) (Z : CS) : TS := (tSeq (tIfS (tOr (tNot (tB (tCB (rIsi K) (tCons (tVar 1) (tCons (tC (.ty "tuple")) tNil))))) (tOr (tNot (tTruX K (tVar 1))) (tNot (tB (tCB (rIsi K) (tCons (tOp (rIx K) (tVar 1) (tC (.int 0))) (tCons (tC (.ty "str")) tNil))))))) (tRet (tC (.int 0))) tNext)
    (tSeq (tAsg (tCall (sp_parts_of K Z) [] E0 (tCons (tOp (rIx K) (tVar 1) (tC (.int 0))) tNil)) (gName 2))
    (tSeq (tIfS (tOr (tNot (tTruX K (tVar 2))) (tTest (tOp (rNeX K) (tCB (rLenX K) (tCons (tVar 1) tNil)) (tOp (rPlus K) (tC (.int 1)) (tCB (rLenX K) (tCons (tVar 2) tNil)))))) (tRet (tC (.int 0))) tNext)
    (tSeq (tFor (iEnumS K (tCons (tVar 2) tNil) (tCons (tC (.int 1)) tNil)) (gTup K 2 (gCons (gName 3) (gCons (gName 4) gNil))) (tIfS (tNot (tB (tCall (sp__is_part K Z) [] E0 (tCons (tVar 0) (tCons (tVar 4) (tCons (tOp (rIx K) (tVar 1) (tVar 3)) (tCons (tOp (rIx K) (tVar 1) (tOp rSubX (tVar 3) (tC (.int 1)))) tNil))))))) (tRet (tVar 3)) tNext))
    (tRet (tC .non))))))
/-- _is_part: 0 land, 1 part, 2 thing, 3 ahead -/
def rd__is_part (K : PySem.W.Frag) (Z : CS) : TS := (tSeq (tIfS (tTest (tOp (rEqX K) (tVar 1) (tC (.str "stretch")))) (tRet (tAndV (tCall (sp_is_stretch K Z) [] E0 (tCons (tVar 2) tNil)) (tOp (rLe K) (tOp (rPlus K) (tOp (rIx K) (tVar 2) (tC (.int 0))) (tOp (rIx K) (tVar 2) (tC (.int 1)))) (tMeth Z.C_Land "cells" (sp_Land_cells K Z) [] E0 (tVar 0) tNil)))) tNext)
    (tSeq (tIfS (tTest (tOp (rEqX K) (tVar 1) (tC (.str "day")))) (tRet (tCall (sp_is_day K Z) [] E0 (tCons (tVar 2) tNil))) tNext)
    (tSeq (tIfS (tTest (tOp (rEqX K) (tVar 1) (tC (.str "last")))) (tRet (tAndV (tCall (sp_is_day K Z) [] E0 (tCons (tVar 2) tNil)) (tOp (rLe K) (tVar 3) (tVar 2)))) tNext)
    (tSeq (tIfS (tTest (tOp (rEqX K) (tVar 1) (tC (.str "hand")))) (tRet (tCall (sp_is_hand K Z) [] E0 (tCons (tVar 2) tNil))) tNext)
    (tRet (tCB (rIsi K) (tCons (tVar 2) (tCons (tC (.ty "bool")) tNil))))))))
/-- _law_bag: 0 script, 1 at, 2 primes, 3 cell, 4 great, 5 mixed -/
def rd__law_bag (K : PySem.W.Frag) (Z : CS) : TS := (tSeq (tAsg (tTup (tCons (tC (.int 2147483647)) (tCons (tC (.int 2147483629)) (tCons (tC (.int 2147483587)) (tCons (tC (.int 2147483579)) (tCons (tC (.int 2147483563)) (tCons (tC (.int 2147483549)) (tCons (tC (.int 2147483543)) tNil)))))))) (gName 2))
    (tSeq (tAsg (tIf (tTest (tOp rLt (tVar 1) (tCB (rLenX K) (tCons (tVar 0) tNil)))) (tOp (rIx K) (tVar 0) (tVar 1)) (tC (.int 0))) (gName 3))
    (tSeq (tAsg (tIf (tTest (tOp rGe (tCB rAbsX (tCons (tVar 3) tNil)) (tOp rPow (tC (.int 10)) (tC (.int 18))))) (tCB rAbsX (tCons (tVar 3) tNil)) (tC (.int 0))) (gName 4))
    (tSeq (tAsg (tOp rMod (tOp rPow (tOp (rPlus K) (tOp (rPlus K) (tOp rMod (tVar 3) (tC (.int 2305843009213693951))) (tOp rMul (tC (.int 40961)) (tVar 1))) (tC (.int 19))) (tC (.int 3))) (tOp (rIx K) (tVar 2) (tOp rMod (tVar 1) (tC (.int 7))))) (gName 5))
    (tRet (tLst (tCons (tVar 4) (tCons (tOp (rPlus K) (tOp rMod (tOp rMul (tVar 5) (tOp (rPlus K) (tOp (rPlus K) (tOp rFdv (tVar 5) (tC (.int 5))) (tOp rMul (tC (.int 3)) (tVar 1))) (tC (.int 11)))) (tOp (rIx K) (tVar 2) (tOp rMod (tOp (rPlus K) (tVar 1) (tC (.int 2))) (tC (.int 7))))) (tC (.int 1))) tNil))))))))
/-- _law_take: 0 bag, 1 size, 2 digit -/
def rd__law_take (K : PySem.W.Frag) (Z : CS) : TS := (tSeq (tIfS (tTest (tOp rGt (tOp (rIx K) (tVar 0) (tC (.int 0))) (tC (.int 0)))) (tSeq (tAsg (tOp rMod (tOp (rIx K) (tVar 0) (tC (.int 0))) (tVar 1)) (gName 2))
    (tSeq (tAsg (tOp rFdv (tOp (rIx K) (tVar 0) (tC (.int 0))) (tVar 1)) (gSub (tVar 0) (tC (.int 0)) rSetL))
    (tRet (tVar 2)))) tNext)
    (tSeq (tAsg (tOp rMod (tOp rMul (tOp (rIx K) (tVar 0) (tC (.int 1))) (tC (.int 48271))) (tC (.int 2147483647))) (gSub (tVar 0) (tC (.int 1)) rSetL))
    (tRet (tOp rMod (tOp rFdv (tOp rMod (tOp rMul (tOp (rIx K) (tVar 0) (tC (.int 1))) (tC (.int 69621))) (tC (.int 2147483629))) (tOp rPow (tC (.int 16)) (tC (.int 2)))) (tVar 1)))))
/-- _law_names: 0 bag, 1 size, 2 signs, 3 stem, 4 spot, 5 first, 6 pace, 7 some, 8 k, 9 sign -/
def rd__law_names (K : PySem.W.Frag) (Z : CS) : TS := (tSeq (tAsg (tC (.str "abcdefghijklmnopqrstuvwxyz")) (gName 2))
    (tSeq (tAsg (tM1 (rJoinX K) (tC (.str "")) (tLc (iRng1 (tCons (tOp (rIx K) (tLst (tCons (tC (.int 0)) (tCons (tC (.int 1)) (tCons (tC (.int 2)) (tCons (tC (.int 0)) (tCons (tC (.int 7)) tNil)))))) (tCall (sp__law_take K) [] E0 (tCons (tVar 0) (tCons (tC (.int 5)) tNil)))) tNil)) (gName 8) tYes (tOp (rIx K) (tVar 2) (tCall (sp__law_take K) [] E0 (tCons (tVar 0) (tCons (tC (.int 26)) tNil)))) [8])) (gName 3))
    (tSeq (tAsg (tTup (tCons (tCall (sp__law_take K) [] E0 (tCons (tVar 0) (tCons (tOp (rPlus K) (tCB (rLenX K) (tCons (tVar 3) tNil)) (tC (.int 1))) tNil))) (tCons (tCall (sp__law_take K) [] E0 (tCons (tVar 0) (tCons (tC (.int 26)) tNil))) (tCons (tOp (rIx K) (tLst (tCons (tC (.int 1)) (tCons (tC (.int 25)) (tCons (tC (.int 3)) (tCons (tC (.int 7)) tNil))))) (tCall (sp__law_take K) [] E0 (tCons (tVar 0) (tCons (tC (.int 4)) tNil)))) tNil)))) (gTup K 3 (gCons (gName 4) (gCons (gName 5) (gCons (gName 6) gNil)))))
    (tSeq (tAsg (tLc (iRng1 (tCons (tVar 1) tNil)) (gName 8) tYes (tOp (rIx K) (tVar 2) (tOp rMod (tOp (rPlus K) (tVar 5) (tOp rMul (tVar 6) (tVar 8))) (tC (.int 26)))) [8]) (gName 7))
    (tRet (tLc (iList K (tVar 7)) (gName 9) tYes (tOp (rPlus K) (tOp (rPlus K) (tSl (rSl3 K) (tVar 3) tNoPart (tPart (tVar 4))) (tVar 9)) (tSl (rSl3 K) (tVar 3) (tPart (tVar 4)) tNoPart)) [9]))))))
/-- _law_plan: 0 bag, 1 wide, 2 scale, 3 names, 4 last -/
def rd__law_plan (K : PySem.W.Frag) (Z : CS) : TS := (tSeq (tPar 1 2 (tCons (tOp (rPlus K) (tC (.int 2)) (tCall (sp__law_take K) [] E0 (tCons (tVar 0) (tCons (tC (.int 5)) tNil)))) (tCons (tOp (rIx K) (tLst (tCons (tC (.int 1)) (tCons (tC (.int 1)) (tCons (tC (.int 3)) (tCons (tOp rPow (tC (.int 10)) (tC (.int 29))) tNil))))) (tCall (sp__law_take K) [] E0 (tCons (tVar 0) (tCons (tC (.int 4)) tNil)))) tNil)))
    (tSeq (tPar 3 4 (tCons (tCall (sp__law_names K Z) [] E0 (tCons (tVar 0) (tCons (tC (.int 3)) tNil))) (tCons (tOp (rPlus K) (tC (.int 3)) (tCall (sp__law_take K) [] E0 (tCons (tVar 0) (tCons (tC (.int 10)) tNil)))) tNil)))
    (tRet (tTup (tCons (tVar 1) (tCons (tVar 2) (tCons (tVar 3) (tCons (tVar 4) (tCons (tOp (rPlus K) (tC (.int 1)) (tCall (sp__law_take K) [] E0 (tCons (tVar 0) (tCons (tC (.int 4)) tNil)))) (tCons (tOp (rPlus K) (tC (.int 1)) (tCall (sp__law_take K) [] E0 (tCons (tVar 0) (tCons (tC (.int 4)) tNil)))) tNil))))))))))
/-- _law_land: 0 plan -/
def rd__law_land (K : PySem.W.Frag) (Z : CS) : TS := (tRet (tMakeK Z.C_Land 2 2 (sp_Land___init__ K Z) (fun vs zs => pick [0, 1, 2, 4, 5, 3] (vs ++ [.ref Z.T_Land_roads] ++ zs)) E0 (tCons (tOp rMul (tOp (rIx K) (tVar 0) (tC (.int 0))) (tOp (rIx K) (tVar 0) (tC (.int 1)))) (tCons (tOp (rIx K) (tOp (rIx K) (tVar 0) (tC (.int 2))) (tC (.int 0))) tNil)) (tCons (tOp (rIx K) (tVar 0) (tC (.int 4))) (tCons (tOp (rIx K) (tVar 0) (tC (.int 5))) tNil))))
/-- _law_stretch: 0 bag, 1 plan, 2 first -/
def rd__law_stretch (K : PySem.W.Frag) (Z : CS) : TS := (tSeq (tAsg (tCall (sp__law_take K) [] E0 (tCons (tVar 0) (tCons (tOp (rIx K) (tVar 1) (tC (.int 0))) tNil))) (gName 2))
    (tRet (tTup (tCons (tOp rMul (tVar 2) (tOp (rIx K) (tVar 1) (tC (.int 1)))) (tCons (tOp rMul (tOp (rPlus K) (tC (.int 1)) (tCall (sp__law_take K) [] E0 (tCons (tVar 0) (tCons (tOp rSubX (tOp (rIx K) (tVar 1) (tC (.int 0))) (tVar 2)) tNil)))) (tOp (rIx K) (tVar 1) (tC (.int 1)))) tNil)))))
/-- _law_deed: 0 bag, 1 plan, 2 way, 3 day, 4 hand, 5 froms, 6 overs -/
def rd__law_deed (K : PySem.W.Frag) (Z : CS) : TS := (tSeq (tPar 2 3 (tCons (tCall (sp__law_take K) [] E0 (tCons (tVar 0) (tCons (tC (.int 9)) tNil))) (tCons (tCall (sp__law_take K) [] E0 (tCons (tVar 0) (tCons (tOp (rPlus K) (tOp (rIx K) (tVar 1) (tC (.int 3))) (tC (.int 1))) tNil))) tNil)))
    (tSeq (tAsg (tOp (rIx K) (tOp (rIx K) (tVar 1) (tC (.int 2))) (tCall (sp__law_take K) [] E0 (tCons (tVar 0) (tCons (tC (.int 3)) tNil)))) (gName 4))
    (tSeq (tIfS (tTest (tOp rLt (tVar 2) (tC (.int 2)))) (tRet (tTup (tCons (tC (.str "sale")) (tCons (tVar 3) (tCons (tCall (sp__law_stretch K Z) [] E0 (tCons (tVar 0) (tCons (tVar 1) tNil))) (tCons (tVar 4) tNil)))))) tNext)
    (tSeq (tPar 5 6 (tCons (tCall (sp__law_stretch K Z) [] E0 (tCons (tVar 0) (tCons (tVar 1) tNil))) (tCons (tCall (sp__law_stretch K Z) [] E0 (tCons (tVar 0) (tCons (tVar 1) tNil))) tNil)))
    (tSeq (tIfS (tTest (tOp rLt (tVar 2) (tC (.int 6)))) (tRet (tTup (tCons (tC (.str "use")) (tCons (tVar 3) (tCons (tOp (rPlus K) (tVar 3) (tCall (sp__law_take K) [] E0 (tCons (tVar 0) (tCons (tOp rSubX (tOp (rPlus K) (tOp (rIx K) (tVar 1) (tC (.int 3))) (tC (.int 1))) (tVar 3)) tNil)))) (tCons (tVar 5) (tCons (tVar 6) (tCons (tOp (rEqX K) (tCall (sp__law_take K) [] E0 (tCons (tVar 0) (tCons (tC (.int 3)) tNil))) (tC (.int 0))) tNil)))))))) tNext)
    (tRet (tTup (tCons (tOp (rIx K) (tLst (tCons (tC (.str "grant")) (tCons (tC (.str "grant")) (tCons (tC (.str "end")) tNil)))) (tOp rSubX (tVar 2) (tC (.int 6)))) (tCons (tVar 3) (tCons (tVar 4) (tCons (tVar 5) (tCons (tVar 6) tNil))))))))))))
/-- _law_odd: 0 bag, 1 plan, 2 part, 3 cells, 4 beyond -/
def rd__law_odd (K : PySem.W.Frag) (Z : CS) : TS := (tSeq (tAsg (tOp rMul (tOp (rIx K) (tVar 1) (tC (.int 0))) (tOp (rIx K) (tVar 1) (tC (.int 1)))) (gName 3))
    (tSeq (tIfS (tB (tCB (rIsi K) (tCons (tVar 2) (tCons (tC (.ty "bool")) tNil)))) (tRet (tOp (rIx K) (tLst (tCons (tC (.int 0)) (tCons (tC (.int 1)) (tCons (tC .non) (tCons (tC (.str "leave")) (tCons (tTup tNil) tNil)))))) (tCall (sp__law_take K) [] E0 (tCons (tVar 0) (tCons (tC (.int 5)) tNil))))) tNext)
    (tSeq (tIfS (tB (tCB (rIsi K) (tCons (tVar 2) (tCons (tC (.ty "int")) tNil)))) (tRet (tOp (rIx K) (tLst (tCons (tUn rNeg (tC (.int 1))) (tCons (tOp (rPlus K) (tOp rPow (tC (.int 10)) (tC (.int 30))) (tC (.int 1))) (tCons (tC (.bl true)) (tCons (tC .non) (tCons (tC (.str "3")) (tCons (tTup (tCons (tVar 2) tNil)) (tCons (tLst (tCons (tVar 2) tNil)) tNil)))))))) (tCall (sp__law_take K) [] E0 (tCons (tVar 0) (tCons (tC (.int 7)) tNil))))) tNext)
    (tSeq (tIfS (tB (tCB (rIsi K) (tCons (tVar 2) (tCons (tC (.ty "str")) tNil)))) (tRet (tOp (rIx K) (tLst (tCons (tC (.str "")) (tCons (tC (.str "Ann")) (tCons (tC (.str "annannann")) (tCons (tC .non) (tCons (tC (.int 3)) (tCons (tTup (tCons (tC (.str "ann")) tNil)) (tCons (tC (.str "a b")) tNil)))))))) (tCall (sp__law_take K) [] E0 (tCons (tVar 0) (tCons (tC (.int 7)) tNil))))) tNext)
    (tSeq (tAsg (tLst (tCons (tTup (tCons (tC (.int 0)) (tCons (tOp (rPlus K) (tVar 3) (tC (.int 1))) tNil))) (tCons (tTup (tCons (tVar 3) (tCons (tC (.int 1)) tNil))) (tCons (tTup (tCons (tOp rSubX (tVar 3) (tC (.int 1))) (tCons (tC (.int 2)) tNil))) (tCons (tTup (tCons (tUn rNeg (tC (.int 1))) (tCons (tC (.int 2)) tNil))) (tCons (tTup (tCons (tC (.int 0)) (tCons (tC (.int 0)) tNil))) (tCons (tTup (tCons (tC (.int 0)) (tCons (tC (.bl true)) tNil))) (tCons (tTup (tCons (tC (.int 0)) tNil)) (tCons (tTup (tCons (tC (.int 0)) (tCons (tC (.int 1)) (tCons (tC (.int 1)) tNil)))) tNil))))))))) (gName 4))
    (tRet (tOp (rIx K) (tOp (rPlus K) (tVar 4) (tLst (tCons (tLst (tCons (tC (.int 0)) (tCons (tC (.int 1)) tNil))) (tCons (tC .non) (tCons (tC (.int 0)) (tCons (tTup (tCons (tC .non) (tCons (tC (.int 1)) tNil))) tNil)))))) (tCall (sp__law_take K) [] E0 (tCons (tVar 0) (tCons (tC (.int 12)) tNil))))))))))
/-- _law_bent: 0 bag, 1 plan, 2 deed, 3 way, 4 parts, 5 some, 6 least_at, 7 turn, 8 at -/
def rd__law_bent (K : PySem.W.Frag) (Z : CS) : TS := (tSeq (tPar 3 4 (tCons (tCall (sp__law_take K) [] E0 (tCons (tVar 0) (tCons (tC (.int 8)) tNil))) (tCons (tCB (rListX K) (tCons (tVar 2) tNil)) tNil)))
    (tSeq (tIfS (tTest (tOp (rEqX K) (tVar 3) (tC (.int 0)))) (tSeq (tAsg (tLst (tCons (tOp (rPlus K) (tVar 2) (tTup (tCons (tC (.int 0)) tNil))) (tCons (tSl (rSl3 K) (tVar 2) tNoPart (tPart (tUn rNeg (tC (.int 1))))) (tCons (tCB (rListX K) (tCons (tVar 2) tNil)) (tCons (tOp (rPlus K) (tTup (tCons (tC (.str "sales")) tNil)) (tSl (rSl3 K) (tVar 2) (tPart (tC (.int 1))) tNoPart)) (tCons (tTup (tCons (tVar 2) tNil)) (tCons (tOp (rPlus K) (tTup (tCons (tC (.str "")) tNil)) (tSl (rSl3 K) (tVar 2) (tPart (tC (.int 1))) tNoPart)) tNil))))))) (gName 5))
    (tRet (tTup (tCons (tOp (rIx K) (tVar 5) (tCall (sp__law_take K) [] E0 (tCons (tVar 0) (tCons (tC (.int 6)) tNil)))) (tCons (tC (.int 0)) tNil))))) tNext)
    (tSeq (tIfS (tTest (tOp (rEqX K) (tVar 3) (tC (.int 1)))) (tSeq (tAsg (tLst (tCons (tTup tNil) (tCons (tC .non) (tCons (tC (.str "sale")) (tCons (tC (.int 0)) (tCons (tC (.bl true)) (tCons (tLst tNil) (tCons (tOp (rPlus K) (tTup (tCons (tC .non) tNil)) (tSl (rSl3 K) (tVar 2) (tPart (tC (.int 1))) tNoPart)) (tCons (tTup (tCons (tTup (tCons (tC (.str "sale")) tNil)) tNil)) (tCons (tOp (rPlus K) (tTup (tCons (tC (.int 0)) tNil)) (tSl (rSl3 K) (tVar 2) (tPart (tC (.int 1))) tNoPart)) tNil)))))))))) (gName 5))
    (tRet (tTup (tCons (tOp (rIx K) (tVar 5) (tCall (sp__law_take K) [] E0 (tCons (tVar 0) (tCons (tC (.int 9)) tNil)))) (tCons (tC (.int 0)) tNil))))) tNext)
    (tSeq (tIfS (tAnd (tTest (tOp (rEqX K) (tVar 3) (tC (.int 2)))) (tAnd (tTest (tOp (rEqX K) (tOp (rIx K) (tVar 2) (tC (.int 0))) (tC (.str "use")))) (tTest (tOp rGt (tOp (rIx K) (tVar 2) (tC (.int 1))) (tC (.int 0)))))) (tRet (tTup (tCons (tOp (rPlus K) (tOp (rPlus K) (tSl (rSl3 K) (tVar 2) tNoPart (tPart (tC (.int 2)))) (tTup (tCons (tOp rSubX (tOp (rIx K) (tVar 2) (tC (.int 1))) (tC (.int 1))) tNil))) (tSl (rSl3 K) (tVar 2) (tPart (tC (.int 3))) tNoPart)) (tCons (tC (.int 2)) tNil)))) tNext)
    (tSeq (tAsg (tCB (rLenX K) (tCons (tVar 2) tNil)) (gName 6))
    (tSeq (tFor (iRng1 (tCons (tOp (rPlus K) (tC (.int 1)) (tCall (sp__law_take K) [] E0 (tCons (tVar 0) (tCons (tC (.int 2)) tNil)))) tNil)) (gName 7) (tSeq (tAsg (tOp (rPlus K) (tC (.int 1)) (tCall (sp__law_take K) [] E0 (tCons (tVar 0) (tCons (tOp rSubX (tCB (rLenX K) (tCons (tVar 2) tNil)) (tC (.int 1))) tNil)))) (gName 8))
    (tSeq (tAsg (tCall (sp__law_odd K Z) [] E0 (tCons (tVar 0) (tCons (tVar 1) (tCons (tOp (rIx K) (tVar 2) (tVar 8)) tNil)))) (gSub (tVar 4) (tVar 8) rSetL))
    (tAsg (tCB rMinX (tCons (tVar 6) (tCons (tVar 8) tNil))) (gName 6)))))
    (tRet (tTup (tCons (tCB (rTupleX K) (tCons (tVar 4) tNil)) (tCons (tVar 6) tNil))))))))))
/-- _law_told: 0 plan, 1 made, 2 e, 3 others -/
def rd__law_told (K : PySem.W.Frag) (Z : CS) : TS := (tTryE K 2 3 [.ref Z.C_NoLand, .ref Z.C_NoText, .ref Z.C_NoCell, .ref Z.C_NoDay, .ref Z.C_NoHand, .ref Z.C_TooMany, .ref Z.C_Unlike] Z.C_NoDeed "number" (fun W => (tRet (tCallNS 2 0 (sp_look_deed K Z) (fun vs zs => pick [0, 1] (vs ++ [] ++ zs)) W (tCons (tCall (sp__law_land K Z) [] E0 (tCons (tVar 0) tNil)) (tCons (tVar 1) tNil)) tNil))))
/-- law: 0 script, 1 k, 2 bag, 3 plan, 4 turn, 5 deed, 6 bent, 7 due, 8 text, 9 edge -/
def rd_law (K : PySem.W.Frag) (Z : CS) : TS := (tSeq (tFor (iRng1 (tCons (tCB rMaxX (tCons (tC (.int 2)) (tCons (tCB rMinX (tCons (tC (.int 4)) (tCons (tCB (rLenX K) (tCons (tVar 0) tNil)) tNil))) tNil))) tNil)) (gName 1) (tSeq (tAsg (tCall (sp__law_bag K) [] E0 (tCons (tVar 0) (tCons (tVar 1) tNil))) (gName 2))
    (tSeq (tAsg (tCall (sp__law_plan K Z) [] E0 (tCons (tVar 2) tNil)) (gName 3))
    (tFor (iRng1 (tCons (tC (.int 8)) tNil)) (gName 4) (tSeq (tAsg (tCall (sp__law_deed K Z) [] E0 (tCons (tVar 2) (tCons (tVar 3) tNil))) (gName 5))
    (tSeq (tAsg (tCall (sp__law_bent K Z) [] E0 (tCons (tVar 2) (tCons (tVar 3) (tCons (tVar 5) tNil)))) (gTup K 2 (gCons (gName 6) (gCons (gName 7) gNil))))
    (tSeq (tAsg (tCB (rRepr K) (tCons (tTup (tCons (tVar 5) (tCons (tVar 6) tNil))) tNil)) (gName 8))
    (tIfS (tOr (tTest (tOp rNotX (tCall (sp__law_told K Z) [] E0 (tCons (tVar 3) (tCons (tVar 5) tNil))) (tC .non))) (tOr (tTest (tOp (rNeX K) (tCall (sp__law_told K Z) [] E0 (tCons (tVar 3) (tCons (tVar 6) tNil))) (tVar 7))) (tTest (tOp (rNeX K) (tCB (rRepr K) (tCons (tTup (tCons (tVar 5) (tCons (tVar 6) tNil))) tNil)) (tVar 8))))) (tRet (tC (.bl false))) tNext))))))))
    (tSeq (tAsg (tTup (tCons (tC (.str "use")) (tCons (tC (.int 0)) (tCons (tOp rPow (tC (.int 10)) (tC (.int 30))) (tCons (tTup (tCons (tC (.int 0)) (tCons (tC (.int 2)) tNil))) (tCons (tTup (tCons (tC (.int 0)) (tCons (tC (.int 1)) tNil))) (tCons (tC (.bl false)) tNil))))))) (gName 9))
    (tRet (tAndV (tOp rIsX (tCallNS 2 0 (sp_look_deed K Z) (fun vs zs => pick [0, 1] (vs ++ [] ++ zs)) W0 (tCons (tMakeK Z.C_Land 2 0 (sp_Land___init__ K Z) (fun vs zs => pick [0, 1, 2, 3, 4, 5] (vs ++ [.int 20, .int 20, .ref Z.T_Land_roads] ++ zs)) E0 (tCons (tC (.int 2)) (tCons (tC (.str "a")) tNil)) tNil) (tCons (tVar 9) tNil)) tNil) (tC .non)) (tOp rIsX (tCallNS 0 2 (sp_look_deed K Z) (fun vs zs => pick [1, 0] (vs ++ [] ++ zs)) W0 tNil (tCons (tVar 9) (tCons (tMakeK Z.C_Land 2 0 (sp_Land___init__ K Z) (fun vs zs => pick [0, 1, 2, 3, 4, 5] (vs ++ [.int 20, .int 20, .ref Z.T_Land_roads] ++ zs)) E0 (tCons (tC (.int 2)) (tCons (tC (.str "a")) tNil)) tNil) tNil))) (tC .non))))))

section
variable {K : PySem.W.Frag} {Z : CS}
theorem sem__law_bag (ss : List SV) (hp : preBag ss) : DS K (rd__law_bag K Z) (startE 6 ss) { nx := fun _ => postBag ss (.d .non), rt := postBag ss } := semBag ss hp
theorem sem__law_take (ss : List SV) (hp : preTake ss) : DS K (rd__law_take K Z) (startE 3 ss) { nx := fun _ => postTake ss (.d .non), rt := postTake ss } := semTake ss hp
theorem whole_is {x : D} : (isInt x && !isBool x) = wholeD x := by cases x <;> rfl
theorem sem_is_whole (lf : LF K Z) (ss : List SV) (hp : ∃ x, ss = [.d x] ∧ x.plain = true) : DS K (rd_is_whole K Z) (startE 1 ss) { nx := fun _ => ∃ x, ss = [.d x] ∧ SV.d .non = .d (.bl (wholeD x)), rt := fun r => ∃ x, ss = [.d x] ∧ r = .d (.bl (wholeD x)) } := by
  obtain ⟨x, rfl, hx⟩ := hp
  show DS K (rd_is_whole K Z) [some (.d x)] _
  unfold rd_is_whole
  repeat walk_at "dl"
  refine rc_isi hx (kit_isInt hx) ?_
  repeat walk_at "dl"
  refine ite_b (fun h => ?_) (fun h => ?_)
  · repeat walk_at "dl"
    refine rc_isi hx (kit_isBool hx) ?_
    repeat walk_at "dl"
    rw [← whole_is, h, Bool.true_and]
  · repeat walk_at "dl"
    rw [← whole_is, h, Bool.false_and]
theorem call_whole {es : Env'} {i : Nat} {x : D} {Q : SV → Prop} (e : es[i]? = some (some (.d x))) (hx : x.plain = true) (q : Q (.d (.bl (wholeD x)))) : DE K (tCall (sp_is_whole K Z) [] E0 (tCons (tVar i) tNil)) es Q := by
  refine de_call (da_cons (de_var e (da_nil ⟨⟨trivial, trivial⟩, rfl, ⟨x, rfl, hx⟩, ?_⟩)))
  rintro r ⟨y, e', rfl⟩
  injection e' with e1 e2
  cases e1
  exact q
theorem two {xs : List D} (h : xs.length = 2) : ∃ a b, xs = [a, b] := by
  match xs, h with
  | [a, b], _ => exact ⟨a, b, rfl⟩
theorem stretch_len {xs : List D} (h : ¬ xs.length = 2) : stretchD (.tup xs) = false := by
  match xs with
  | [] => rfl
  | [x] => cases x <;> rfl
  | [a, b] => exact absurd rfl h
  | x :: y :: z :: t => cases x <;> cases y <;> rfl
theorem stretch_two {a b : D} : stretchD (.tup [a, b]) = true ↔ ∃ m n : Int, a = .int m ∧ b = .int n ∧ 0 ≤ m ∧ 1 ≤ n := by
  cases a <;> cases b <;> simp [stretchD]
theorem stretch_f {a b : D} (h : wholeD a = false ∨ wholeD b = false) : stretchD (.tup [a, b]) = false := by
  cases a <;> cases b <;> first | rfl | (simp [wholeD] at h)
theorem plain_two {a b : D} (h : (D.tup [a, b]).plain = true) : a.plain = true ∧ b.plain = true := by
  have h' : (D.plain a && (D.plain b && true)) = true := h
  simpa using h'
theorem first_if (x : D) (hx : x.plain = true) {es : Env'} (e : es[0]? = some (some (.d x))) :
    DT K (tOr (tNot (tB (tCB (rIsi K) (tCons (tVar 0) (tCons (tC (.ty "tuple")) tNil))))) (tTest (tOp (rNeX K) (tCB (rLenX K) (tCons (tVar 0) tNil)) (tC (.int 2))))) es (fun b => b = !(match x with | .tup xs => decide (xs.length = 2) | _ => false)) := by
  refine dt_or (dt_not (dt_B (de_cb (da_cons (de_var e (da_cons (de_ty (da_nil (rc_isi hx (kit_isTup hx) ⟨_, rfl, ?_⟩)))))))))
  cases x with
  | tup xs =>
    refine ite_b (fun h => by cases h) (fun _ => ?_)
    refine dt_test (de_op (de_cb (da_cons (de_var e (da_nil (len_x rfl rfl (de_int (ne_ii ⟨_, rfl, ?_⟩))))))))
    show (!((xs.length : Int) == 2)) = !(decide (xs.length = 2))
    congr 1
    rw [Bool.beq_eq_decide_eq]
    exact decide_eq_decide.mpr (by omega)
  | _ => exact ite_b (fun _ => rfl) (fun h => by cases h)
theorem sem_is_stretch (lf : LF K Z) (ss : List SV) (hp : ∃ x, ss = [.d x] ∧ x.plain = true) : DS K (rd_is_stretch K Z) (startE 3 ss) { nx := fun _ => ∃ x, ss = [.d x] ∧ SV.d .non = .d (.bl (stretchD x)), rt := fun r => ∃ x, ss = [.d x] ∧ r = .d (.bl (stretchD x)) } := by
  obtain ⟨x, rfl, hx⟩ := hp
  show DS K (rd_is_stretch K Z) [some (.d x), none, none] _
  unfold rd_is_stretch
  refine ds_seq (ds_if (DT.mono (first_if x hx rfl) ?_))
  rintro _ rfl
  have no : (¬ ∃ xs, x = .tup xs ∧ xs.length = 2) → stretchD x = false := by
    intro h
    cases x with
    | tup xs => exact stretch_len fun l => h ⟨xs, rfl, l⟩
    | _ => rfl
  by_cases ht : ∃ xs, x = .tup xs ∧ xs.length = 2
  · obtain ⟨xs, rfl, hl⟩ := ht
    obtain ⟨a, b, rfl⟩ := two hl
    obtain ⟨pa, pb⟩ := plain_two hx
    refine ite_b (fun h => by cases h) (fun _ => ?_)
    repeat walk_at "dl"
    refine ds_unp (de_var rfl ⟨_, _, rfl, dg_tup rfl (dgs_cons (dg_name (dgs_cons (dg_name (dgs_nil ?_)))))⟩)
    show DS K _ [some (.d (.tup [a, b])), some (.d a), some (.d b)] _
    repeat walk_at "dl"
    refine call_whole rfl pa ?_
    repeat walk_at "dl"
    refine ite_b (fun h => ?_) (fun h => ?_)
    · obtain ⟨m, rfl⟩ : ∃ m, a = .int m := by cases a <;> first | exact ⟨_, rfl⟩ | cases h
      repeat walk_at "dl"
      refine ite_b (fun h0 => ?_) (fun h0 => ?_)
      · repeat walk_at "dl"
        refine call_whole rfl pb ?_
        repeat walk_at "dl"
        refine ite_b (fun h => ?_) (fun h => ?_)
        · obtain ⟨n, rfl⟩ : ∃ n, b = .int n := by cases b <;> first | exact ⟨_, rfl⟩ | cases h
          repeat walk_at "dl"
          show SV.d (.bl _) = SV.d (.bl (decide (0 ≤ m) && decide (1 ≤ n)))
          rw [h0, Bool.true_and]
        · repeat walk_at "dl"
          rw [stretch_f (.inr h)]
      · repeat walk_at "dl"
        have : stretchD (.tup [.int m, b]) = false := by
          rw [Bool.eq_false_iff, Ne, stretch_two]
          rintro ⟨m', n, e, _, h1, _⟩
          cases e
          rw [decide_eq_false_iff_not] at h0
          exact h0 h1
        rw [this]
    · repeat walk_at "dl"
      rw [stretch_f (.inl h)]
  · refine ite_b (fun h => ?_) (fun h => ?_)
    · repeat walk_at "dl"
      rw [no ht]
    · exfalso
      cases x with
      | tup xs =>
        have h' : (!decide (xs.length = 2)) = false := h
        simp at h'
        exact ht ⟨xs, rfl, h'⟩
      | _ => cases h
theorem pairs_inj : ∀ {ps qs : List (Int × Int)}, ps.map dPair = qs.map dPair → ps = qs
  | [], [], _ => rfl
  | [], _ :: _, h => by cases h
  | _ :: _, [], h => by cases h
  | p :: ps, q :: qs, h => by
    injection h with h1 h2
    injection h1 with h1
    injection h1 with a h1
    injection h1 with b _
    injection a with a
    injection b with b
    rw [pairs_inj h2, Prod.ext a b]
theorem pair_get {ps : List (Int × Int)} {i : Nat} {x : D} (h : (ps.map dPair)[i]? = some x) : ∃ p, ps[i]? = some p ∧ x = dPair p := by
  rw [List.getElem?_map] at h
  cases e : ps[i]? with
  | none => rw [e] at h; cases h
  | some p => rw [e] at h; cases h; exact ⟨p, rfl, rfl⟩
theorem pairL_get {ps : List (Int × Int)} {i : Nat} {x : D} (h : (ps.map dPairL)[i]? = some x) : ∃ p, ps[i]? = some p ∧ x = dPairL p := by
  rw [List.getElem?_map] at h
  cases e : ps[i]? with
  | none => rw [e] at h; cases h
  | some p => rw [e] at h; cases h; exact ⟨p, rfl, rfl⟩
theorem sem_least (lf : LF K Z) (ss : List SV) (hp : preLeast ss) : DS K (rd_least K Z) (startE 5 ss) { nx := fun _ => postLeast ss (.d .non), rt := postLeast ss } := by
  obtain ⟨ps, rfl, h1, h2⟩ := hp
  show DS K (rd_least K Z) [some (.d (.lst (ps.map dPair))), none, none, none, none] _
  unfold rd_least
  repeat walk_at "dl"
  refine ds_runs h2 fun qs hperm hs => ?_
  obtain ⟨c1, c2⟩ := least_ok h1 hperm hs
  generalize hrs : (qs.foldl runStep []).reverse = rs
  have eo : runOut (qs.foldl runStep []) = rs.map fun p => (p.1, p.2 - p.1) := by
    unfold runOut
    rw [hrs]
  have hl : rs.length ≤ 1000 := by
    have := runs_len qs []
    have e0 : ([] : List (Int × Int)).length = 0 := rfl
    have hpl := hperm.length_eq
    rw [← hrs, List.length_reverse]
    omega
  refine ds_ret (de_lcL (de_var rfl ⟨_, rfl, fun n h => (by cases h), ?_, fun i acc => acc = ((rs.take i).map fun p => dPair (p.1, p.2 - p.1)), rfl, fun i x hx acc hJ _ => ?_, fun acc hJ _ => ?_⟩))
  · rw [List.length_map]
    exact Nat.le_trans hl (by decide)
  · obtain ⟨p, hp, rfl⟩ := pairL_get hx
    refine dg_unl rfl (dgs_cons (dg_name (dgs_cons (dg_name (dgs_nil ?_)))))
    repeat walk_at "dl"
    refine ite_b (fun _ => ?_) (fun h => by cases h)
    repeat walk_at "dl"
    rw [hJ, take_get hp, List.map_append]
    rfl
  · rw [List.length_map, List.take_of_length_le (Nat.le_refl _)] at hJ
    have hlen : (runOut (qs.foldl runStep [])).length ≤ ps.length := by
      have := runs_len qs []
      have e0 : ([] : List (Int × Int)).length = 0 := rfl
      have hpl := hperm.length_eq
      rw [eo, List.length_map, ← hrs, List.length_reverse]
      omega
    refine ⟨trivial, ps, _, rfl, ?_, c1, c2, hlen⟩
    rw [eo, List.map_map, hJ]
    rfl
theorem sem__end (lf : LF K Z) (ss : List SV) (hp : ∃ p : Int × Int, ss = [.d (dPair p)]) : DS K (rd__end K Z) (startE 3 ss) { nx := fun _ => ∃ p : Int × Int, ss = [.d (dPair p)] ∧ SV.d .non = .d (.int (p.1 + p.2)), rt := fun r => ∃ p : Int × Int, ss = [.d (dPair p)] ∧ r = .d (.int (p.1 + p.2)) } := by
  obtain ⟨p, rfl⟩ := hp
  show DS K (rd__end K Z) [some (.d (dPair p)), none, none] _
  unfold rd__end
  refine ds_seq (ds_unp (de_var rfl ⟨_, _, rfl, dg_tup rfl (dgs_cons (dg_name (dgs_cons (dg_name (dgs_nil ?_)))))⟩))
  repeat walk_at "dl"
theorem call_end {es : Env'} {te : TE} {p : Int × Int} {Q : SV → Prop} (h : ∀ Q' : SV → Prop, Q' (.d (dPair p)) → DE K te es Q') (q : Q (.d (.int (p.1 + p.2)))) : DE K (tCall (sp__end K Z) [] E0 (tCons te tNil)) es Q := by
  refine de_call (da_cons (h _ (da_nil ⟨⟨trivial, trivial⟩, rfl, ⟨p, rfl⟩, ?_⟩)))
  rintro r ⟨p', e, rfl⟩
  injection e with e _
  injection e with e
  injection e with e
  injection e with a e
  injection e with b _
  injection a with a
  injection b with b
  rw [← a, ← b]
  exact q
theorem call_least {es : Env'} {te : TE} {ps : List (Int × Int)} {Q : SV → Prop} (h : ∀ Q' : SV → Prop, (∀ s : SV, s.arg = .d (.lst (ps.map dPair)) → s.nown → Q' s) → DE K te es Q') (h1 : ∀ p ∈ ps, 0 < p.2) (h2 : ps.length < 1000) (q : ∀ rs : List (Int × Int), Canon rs → (∀ c, Cov rs c ↔ Cov ps c) → rs.length ≤ ps.length → Q (.new (rs.map dPair))) : DE K (tCall (sp_least K Z) [] E0 (tCons te tNil)) es Q := by
  refine de_call (da_cons (h _ fun s hs hn => da_nil ⟨⟨hn, trivial⟩, rfl, ⟨ps, by rw [List.map_cons, hs]; rfl, h1, h2⟩, ?_⟩))
  rintro r ⟨ps', rs, e, rfl, c1, c2, c3⟩
  rw [List.map_cons, hs] at e
  injection e with e _
  injection e with e
  injection e with e
  obtain rfl := pairs_inj e
  exact q rs c1 c2 c3
theorem map_get {α β : Type} {f : α → β} {xs : List α} {i : Nat} {x : α} (h : xs[i]? = some x) : (xs.map f)[i]? = some (f x) := by
  rw [List.getElem?_map, h]
  rfl
theorem sem_both (lf : LF K Z) (ss : List SV) (hp : preBoth ss) : DS K (rd_both K Z) (startE 11 ss) { nx := fun _ => postBoth ss (.d .non), rt := postBoth ss } := by
  obtain ⟨ps, qs, rfl, ⟨p1, p2⟩, q1, q2⟩ := hp
  show DS K (rd_both K Z) [some (.d (.lst (ps.map dPair))), some (.d (.lst (qs.map dPair))), none, none, none, none, none, none, none, none, none] _
  unfold rd_both
  refine ds_seq (ds_set (call_least (ps := ps) (fun Q' h => de_var rfl (h _ rfl trivial)) p1 p2 fun L l1 l2 l3 => ⟨trivial, ?_⟩))
  refine ds_freeze (i := 2) rfl ?_
  refine ds_seq (ds_set (call_least (ps := qs) (fun Q' h => de_var rfl (h _ rfl trivial)) q1 q2 fun R r1 r2 r3 => ⟨trivial, ?_⟩))
  refine ds_freeze (i := 3) rfl ?_
  show DS K _ [some (.d (.lst (ps.map dPair))), some (.d (.lst (qs.map dPair))), some (.d (.lst (L.map dPair))), some (.d (.lst (R.map dPair))), none, none, none, none, none, none, none] _
  repeat walk_at "dl"
  refine ds_while (fun m e => ∃ (a b : Nat) (S : List (Int × Int)) (x7 x8 x9 x10 : Option SV), e = [some (.d (.lst (ps.map dPair))), some (.d (.lst (qs.map dPair))), some (.d (.lst (L.map dPair))), some (.d (.lst (R.map dPair))), some (.own (S.map dPair)), some (.d (.int a)), some (.d (.int b)), x7, x8, x9, x10] ∧ m = (L.length - a) + (R.length - b) ∧ BI L R (L.take a) (R.take b) S) _ ⟨0, 0, [], _, _, _, _, rfl, rfl, BI.zero L R⟩ ?_
  rintro m _ ⟨a, b, S, x7, x8, x9, x10, rfl, rfl, hB⟩
  have sl : S.length < 2000 := by
    have := hB.len
    rw [List.length_take, List.length_take] at this
    omega
  have fin : ∀ B : DEnds, (L.take a = L ∨ R.take b = R) → (∀ r, postBoth [.d (.lst (ps.map dPair)), .d (.lst (qs.map dPair))] r → B.rt r) → DS K (tRet (tVar 4)) [some (.d (.lst (ps.map dPair))), some (.d (.lst (qs.map dPair))), some (.d (.lst (L.map dPair))), some (.d (.lst (R.map dPair))), some (.own (S.map dPair)), some (.d (.int a)), some (.d (.int b)), x7, x8, x9, x10] B := by
    intro B e hR
    refine ds_ret (de_var rfl ⟨trivial, hR _ ⟨ps, qs, S, rfl, rfl, hB.can, fun c => ?_, ?_⟩⟩)
    · rw [hB.fin e c, l2, r2]
    · have := hB.len
      rw [List.length_take, List.length_take] at this
      omega
  refine dt_and (dt_test ?_)
  repeat walk_at "dl"
  refine ite_b (fun h => ?_) (fun h => ?_)
  · repeat walk_at "dl"
    refine ite_b (fun h2 => ?_) (fun h2 => ?_)
    · have ha : a < L.length := by
        have := of_decide_eq_true h
        rw [List.length_map] at this
        omega
      have hb : b < R.length := by
        have := of_decide_eq_true h2
        rw [List.length_map] at this
        omega
      obtain ⟨l, gl⟩ : ∃ l, L[a]? = some l := ⟨_, List.getElem?_eq_getElem ha⟩
      obtain ⟨r, gr⟩ : ∃ r, R[b]? = some r := ⟨_, List.getElem?_eq_getElem hb⟩
      have gl' : atI (L.map dPair) (a : Int) = some (dPair l) := atI_at (map_get gl)
      have gr' : atI (R.map dPair) (b : Int) = some (dPair r) := atI_at (map_get gr)
      repeat walk_at "dl"
      refine rr_xL rfl gl' ?_
      repeat walk_at "dl"
      refine rr_xT (x := .int l.1) rfl ?_
      repeat walk_at "dl"
      refine rr_xL rfl gr' ?_
      repeat walk_at "dl"
      refine rr_xT (x := .int r.1) rfl ?_
      repeat walk_at "dl"
      refine call_end (p := l) (fun Q' q => de_op (de_var rfl (de_var rfl (rr_xL rfl gl' q)))) ⟨trivial, ?_⟩
      refine ds_seq (ds_set (call_end (p := r) (fun Q' q => de_op (de_var rfl (de_var rfl (rr_xL rfl gr' q)))) ⟨trivial, ?_⟩))
      generalize hf : (if r.1 > l.1 then r.1 else l.1) = f
      have hf1 : f = mx l.1 r.1 := hf.symm
      have hf2 : f = mx r.1 l.1 := by
        rw [hf1]
        unfold mx
        split <;> split <;> omega
      refine ds_seq (ds_set (de_cb (da_cons (de_var rfl (da_cons (de_var rfl (da_nil (min_x ⟨trivial, ?_⟩))))))))
      generalize hen : (if r.1 + r.2 < l.1 + l.2 then r.1 + r.2 else l.1 + l.2) = en
      show DS K _ [some (.d (.lst (ps.map dPair))), some (.d (.lst (qs.map dPair))), some (.d (.lst (L.map dPair))), some (.d (.lst (R.map dPair))), some (.own (S.map dPair)), some (.d (.int a)), some (.d (.int b)), some (.d (.int f)), some (.d (.int (l.1 + l.2))), some (.d (.int (r.1 + r.2))), some (.d (.int en))] _
      refine ds_cut (e0 := [some (.d (.lst (ps.map dPair))), some (.d (.lst (qs.map dPair))), some (.d (.lst (L.map dPair))), some (.d (.lst (R.map dPair))), some (.own ((addS S f en).map dPair)), some (.d (.int a)), some (.d (.int b)), some (.d (.int f)), some (.d (.int (l.1 + l.2))), some (.d (.int (r.1 + r.2))), some (.d (.int en))]) ?_ ?_
      · repeat walk_at "dl"
        refine ite_b (fun h3 => ?_) (fun h3 => ?_)
        · have h3' := of_decide_eq_true h3
          refine ds_app (i := 4) rfl ?_
          repeat walk_at "dl"
          refine ⟨by rw [List.length_map]; omega, ?_⟩
          have ea : addS S f en = S ++ [(f, en - f)] := if_pos h3'
          rw [ea, List.map_append]
          rfl
        · have h3' := of_decide_eq_false h3
          have ea : addS S f en = S := if_neg h3'
          refine ds_next ?_
          rw [ea]
      · repeat walk_at "dl"
        refine ite_b (fun h3 => ?_) (fun h3 => ?_)
        · have h3' := of_decide_eq_true h3
          have een : en = l.1 + l.2 := by
            rw [← hen, if_neg (by omega)]
          refine ds_aug (i := 5) rfl (de_int ⟨1, rfl, ?_⟩)
          have hN := hB.step (split_at gl) (split_at gr) l1 r1 (by omega) f hf1
          rw [← een, ← take_get gl] at hN
          exact ⟨_, by omega, a + 1, b, addS S f en, _, _, _, _, rfl, rfl, hN⟩
        · have h3' := of_decide_eq_false h3
          have een : en = r.1 + r.2 := by
            rw [← hen]
            split <;> omega
          refine ds_aug (i := 6) rfl (de_int ⟨1, rfl, ?_⟩)
          have hN := (hB.swap.step (split_at gr) (split_at gl) r1 l1 (by omega) f hf2).swap
          rw [← een, ← take_get gr] at hN
          exact ⟨_, by omega, a, b + 1, addS S f en, _, _, _, _, rfl, rfl, hN⟩
    · refine fin _ (.inr (List.take_of_length_le ?_)) fun r h => h
      have := of_decide_eq_false h2
      rw [List.length_map] at this
      omega
  · refine ite_b (fun h => by cases h) (fun _ => ?_)
    refine fin _ (.inl (List.take_of_length_le ?_)) fun r h => h
    have := of_decide_eq_false h
    rw [List.length_map] at this
    omega
theorem two_inj {ps qs ps' qs' : List (Int × Int)} (e : [SV.arg (.d (.lst (ps.map dPair))), SV.arg (.d (.lst (qs.map dPair)))] = [.d (.lst (ps'.map dPair)), .d (.lst (qs'.map dPair))]) : ps = ps' ∧ qs = qs' := by
  injection e with e1 e
  injection e with e _
  injection e with e
  injection e with e
  injection e1 with e1
  injection e1 with e1
  exact ⟨pairs_inj e1, pairs_inj e⟩
theorem call_both {es : Env'} {ta tb : TE} {ps qs : List (Int × Int)} {Q : SV → Prop} (ha : ∀ Q' : SV → Prop, Q' (.d (.lst (ps.map dPair))) → DE K ta es Q') (hb : ∀ Q' : SV → Prop, Q' (.d (.lst (qs.map dPair))) → DE K tb es Q') (h1 : ∀ p ∈ ps, 0 < p.2) (h2 : ps.length < 100) (h3 : ∀ p ∈ qs, 0 < p.2) (h4 : qs.length < 100) (q : ∀ rs : List (Int × Int), Canon rs → (∀ c, Cov rs c ↔ Cov ps c ∧ Cov qs c) → rs.length < 300 → Q (.new (rs.map dPair))) : DE K (tCall (sp_both K Z) [] E0 (tCons ta (tCons tb tNil))) es Q := by
  refine de_call (da_cons (ha _ (da_cons (hb _ (da_nil ⟨⟨trivial, trivial, trivial⟩, rfl, ⟨ps, qs, rfl, ⟨h1, by omega⟩, h3, by omega⟩, ?_⟩)))))
  rintro r ⟨ps', qs', rs, e, rfl, c1, c2, c3⟩
  obtain ⟨rfl, rfl⟩ := two_inj e
  exact q rs c1 c2 (by omega)
theorem ask_plain {x : D} (h : ask x) : x.plain = true := by
  cases x <;> first | rfl | exact h

theorem kit_str (x : D) (h : x.plain = true) : kitB x.tyN "str" = some (isS x) := by
  have h1 : kitB "NoneType" "str" = some false := by decide +kernel
  have h2 : kitB "bool" "str" = some false := by decide +kernel
  have h3 : kitB "int" "str" = some false := by decide +kernel
  have h4 : kitB "str" "str" = some true := by decide +kernel
  have h5 : kitB "list" "str" = some false := by decide +kernel
  have h6 : kitB "tuple" "str" = some false := by decide +kernel
  cases x <;> first | exact h1 | exact h2 | exact h3 | exact h4 | exact h5 | exact h6 | cases h


theorem low_e {z : Str} {es : Env'} {c : Nat} {i : Nat} (h : es[i]? = some (some (.d (.str ⟨#[c]⟩)))) {Q : SV → Prop} (q : Q (.d (.bl (low c)))) : DE K (tChain (rLe K) (rLe K) (tC (.str "a")) (tVar i) (tC (.str "z"))) es Q := by
  refine DE.mono (Q := fun s => s = .d (.bl (low c))) ?_ (fun s e => by rw [e]; exact q)
  refine de_chain (de_str (de_var h ?_))
  repeat walk_at "dl"
  refine ite_b (fun h => ?_) (fun h => ?_)
  · repeat walk_at "dl"
    show SV.d (.bl _) = SV.d (.bl (low c))
    unfold low
    rw [if_pos h]
  · show SV.d (.bl _) = SV.d (.bl (low c))
    unfold low
    rw [if_neg (by rw [h]; decide)]
theorem sem_is_hand (lf : LF K Z) (ss : List SV) (hp : ∃ x, ss = [.d x] ∧ ask x) : DS K (rd_is_hand K Z) (startE 2 ss) { nx := fun _ => ∃ x, ss = [.d x] ∧ SV.d .non = .d (.bl (handD x)), rt := fun r => ∃ x, ss = [.d x] ∧ r = .d (.bl (handD x)) } := by
  obtain ⟨x, rfl, hx⟩ := hp
  show DS K (rd_is_hand K Z) [some (.d x), none] _
  unfold rd_is_hand
  refine ds_seq (ds_if (DT.mono (Q := fun b => b = !(sizedD x)) ?_ ?_))
  · repeat walk_at "dl"
    refine rc_isi (ask_plain hx) (kit_str x (ask_plain hx)) ?_
    repeat walk_at "dl"
    cases x with
    | str z =>
      have hz : z.length ≤ 1000 := hx
      refine ite_b (fun h => by cases h) (fun _ => ?_)
      repeat walk_at "dl"
      refine len_x rfl (len_s hz) ?_
      repeat walk_at "dl"
      refine ite_b (fun h => ?_) (fun h => ?_)
      · repeat walk_at "dl"
        have h' := of_decide_eq_true h
        show (!decide ((z.length : Int) ≤ 8)) = !(decide (1 ≤ z.length) && decide (z.length ≤ 8))
        rw [decide_eq_true (show 1 ≤ z.length by omega), Bool.true_and]
        congr 1
        exact decide_eq_decide.mpr (by omega)
      · have h' := of_decide_eq_false h
        refine ⟨_, rfl, ?_⟩
        show (!false) = !(decide (1 ≤ z.length) && decide (z.length ≤ 8))
        rw [decide_eq_false (show ¬ 1 ≤ z.length by omega), Bool.false_and]
    | _ => exact ite_b (fun _ => rfl) (fun h => by cases h)
  · rintro _ rfl
    refine ite_b (fun h => ?_) (fun h => ?_)
    · repeat walk_at "dl"
      have : sizedD x = false := by simpa using h
      cases x <;> first | rfl | skip
      rename_i z
      show SV.d (D.bl false) = SV.d (D.bl (sizedD (.str z) && z.cps.toList.all low))
      rw [this]; rfl
    · have hs : sizedD x = true := by simpa using h
      cases x <;> first | (cases hs; done) | skip
      rename_i z
      have hz : z.length ≤ 1000 := hx
      repeat walk_at "dl"
      refine de_lcS ?_
      repeat walk_at "dl"
      refine ⟨Nat.le_trans hz (by decide), fun i acc => acc = ((z.cps.toList.take i).map fun c => D.bl (low c)), rfl, fun i c hc acc hJ _ => ?_, fun acc hJ _ => ?_⟩
      · show DG K _ _ _ [some (SV.d (D.str z)), none] _
        refine dg_name ?_
        repeat walk_at "dl"
        refine ite_b (fun _ => ?_) (fun h => by cases h)
        refine low_e (z := z) rfl ⟨_, rfl, ?_⟩
        have hc' : z.cps.toList[i]? = some c := by rw [← hc]; simp
        rw [hJ, take_get hc', List.map_append]; rfl
      · have hJ' : acc = (z.cps.toList.map low).map D.bl := by
          rw [hJ, ← cps_len z, List.take_length, List.map_map]; rfl
        repeat walk_at "dl"
        refine rc_all (bs := z.cps.toList.map low) (by rw [hJ']; rfl) ?_
        repeat walk_at "dl"
        show SV.d (D.bl _) = SV.d (D.bl (sizedD (.str z) && z.cps.toList.all low))
        rw [hs, List.all_map]; rfl
theorem fit_pairs {ps : List (Int × Int)} (h : ∀ p ∈ ps, p.1.natAbs < 2 ^ 140 ∧ p.2.natAbs < 2 ^ 140) (hl : ps.length ≤ 100) : Fit 100000 5 (.lst (ps.map dPair)) := by
  refine (Fit.lst (FitA.of (n := 400) (k := 3) (m := 100) (fun d hd => ?_) (by rw [List.length_map]; exact hl))).mono (by decide) (by decide)
  obtain ⟨p, hp, rfl⟩ := List.mem_map.mp hd
  obtain ⟨a, b⟩ := h p hp
  exact (Fit.tup (FitA.cons (Fit.int a (by decide) (by decide)) (FitA.cons (Fit.int b (by decide) (by decide)) FitA.nil))).mono (by decide) (by decide)
theorem log2_small {n : Int} (h : n.natAbs < 100000) : n.natAbs.log2 < 9000 := by
  have : n.natAbs.log2 < 64 := log2_le_of_lt (by omega) (by decide)
  omega
theorem sem__is_amount (lf : LF K Z) (ss : List SV) (hp : ∃ n m : Int, ss = [.d (.int n), .d (.int m)] ∧ 1 ≤ n ∧ n ≤ m) : DS K (rd__is_amount K Z) (startE 2 ss) { nx := fun _ => SV.d .non = .d (.bl true), rt := fun r => r = .d (.bl true) } := by
  obtain ⟨n, m, rfl, h1, h2⟩ := hp
  show DS K (rd__is_amount K Z) [some (.d (.int n)), some (.d (.int m))] _
  unfold rd__is_amount
  refine ds_ret (de_andV (call_whole rfl rfl ⟨_, rfl, ?_⟩))
  refine ite_b (fun _ => ?_) (fun h => by cases h)
  repeat walk_at "dl"
  refine ite_b (fun _ => ?_) (fun h => ?_)
  · repeat walk_at "dl"
    rw [decide_eq_true h2]
  · have := of_decide_eq_false h
    omega
theorem PT.o_inj {p q : PT} (h : p.o Z.C_Land = q.o Z.C_Land) : p = q := by
  unfold PT.o PT.fs at h
  injection h with _ h
  simp only [List.cons.injEq, Prod.mk.injEq, true_and, and_true] at h
  obtain ⟨a, b, c, d, e⟩ := h
  injection a with a
  injection b with b
  injection c with c
  injection d with d
  injection e with e
  have e := pairs_inj e
  cases p
  cases q
  simp_all
theorem one_o {p q : PT} (h : [SV.d (p.o Z.C_Land)] = [SV.d (q.o Z.C_Land)]) : p = q := by
  injection h with h _
  injection h with h
  exact PT.o_inj h
theorem sem_get {f : Str} {g : PT → D} (cl : Cls K Z.C_Land) (na : NoAttr K Z.C_Land f) (hg : ∀ p : PT, p.fs.lookup f = some (g p)) (ss : List SV) (hp : ∃ p : PT, ss = [.d (p.o Z.C_Land)]) : DS K (tRet (tFld K (tVar 0) f)) (startE 1 ss) { nx := fun _ => ∀ p : PT, ss = [.d (p.o Z.C_Land)] → SV.d .non = .d (g p), rt := fun r => ∀ p : PT, ss = [.d (p.o Z.C_Land)] → r = .d (g p) } := by
  obtain ⟨p, rfl⟩ := hp
  show DS K _ [some (.d (p.o Z.C_Land))] _
  refine ds_ret (de_fld (de_var rfl ⟨Z.C_Land, p.fs, g p, rfl, cl, na, hg p, trivial, ?_⟩))
  intro q e
  rw [one_o e]
  rfl
theorem look_skip {f g : Str} {d : D} {r : List (Str × D)} (h : (f == g) = false) : ((g, d) :: r).lookup f = r.lookup f := by
  rw [List.lookup_cons, h]
theorem look_here {f : Str} {d : D} {r : List (Str × D)} : ((f, d) :: r).lookup f = some d := by
  rw [List.lookup_cons]
  simp
theorem look_c (p : PT) : p.fs.lookup ("_cells" : Str) = some (D.int p.c) := look_here
theorem look_h (p : PT) : p.fs.lookup ("_hand" : Str) = some (D.str p.h) := (look_skip (by decide +kernel)).trans look_here
theorem look_g (p : PT) : p.fs.lookup ("_grow" : Str) = some (D.int p.g) := (look_skip (by decide +kernel)).trans ((look_skip (by decide +kernel)).trans look_here)
theorem look_l (p : PT) : p.fs.lookup ("_lapse" : Str) = some (D.int p.l) := (look_skip (by decide +kernel)).trans ((look_skip (by decide +kernel)).trans ((look_skip (by decide +kernel)).trans look_here))
theorem look_r (p : PT) : p.fs.lookup ("_roads" : Str) = some (D.tup (p.ps.map dPair)) := (look_skip (by decide +kernel)).trans ((look_skip (by decide +kernel)).trans ((look_skip (by decide +kernel)).trans ((look_skip (by decide +kernel)).trans look_here)))
theorem sem_Land_cells (lf : LF K Z) (ss : List SV) (hp : ∃ p : PT, ss = [.d (p.o Z.C_Land)]) : DS K (rd_Land_cells K Z) (startE 1 ss) { nx := fun _ => ∀ p : PT, ss = [.d (p.o Z.C_Land)] → SV.d .non = .d (.int p.c), rt := fun r => ∀ p : PT, ss = [.d (p.o Z.C_Land)] → r = .d (.int p.c) } := sem_get (g := fun p => .int p.c) lf.i.cl lf.n_cells look_c ss hp
theorem sem_Land_hand (lf : LF K Z) (ss : List SV) (hp : ∃ p : PT, ss = [.d (p.o Z.C_Land)]) : DS K (rd_Land_hand K Z) (startE 1 ss) { nx := fun _ => ∀ p : PT, ss = [.d (p.o Z.C_Land)] → SV.d .non = .d (.str p.h), rt := fun r => ∀ p : PT, ss = [.d (p.o Z.C_Land)] → r = .d (.str p.h) } := sem_get (g := fun p => .str p.h) lf.i.cl lf.n_hand look_h ss hp
theorem sem_Land_grow (lf : LF K Z) (ss : List SV) (hp : ∃ p : PT, ss = [.d (p.o Z.C_Land)]) : DS K (rd_Land_grow K Z) (startE 1 ss) { nx := fun _ => ∀ p : PT, ss = [.d (p.o Z.C_Land)] → SV.d .non = .d (.int p.g), rt := fun r => ∀ p : PT, ss = [.d (p.o Z.C_Land)] → r = .d (.int p.g) } := sem_get (g := fun p => .int p.g) lf.i.cl lf.n_grow look_g ss hp
theorem sem_Land_lapse (lf : LF K Z) (ss : List SV) (hp : ∃ p : PT, ss = [.d (p.o Z.C_Land)]) : DS K (rd_Land_lapse K Z) (startE 1 ss) { nx := fun _ => ∀ p : PT, ss = [.d (p.o Z.C_Land)] → SV.d .non = .d (.int p.l), rt := fun r => ∀ p : PT, ss = [.d (p.o Z.C_Land)] → r = .d (.int p.l) } := sem_get (g := fun p => .int p.l) lf.i.cl lf.n_lapse look_l ss hp
theorem sem_Land_roads (lf : LF K Z) (ss : List SV) (hp : ∃ p : PT, ss = [.d (p.o Z.C_Land)]) : DS K (rd_Land_roads K Z) (startE 1 ss) { nx := fun _ => ∀ p : PT, ss = [.d (p.o Z.C_Land)] → SV.d .non = .d (.tup (p.ps.map dPair)), rt := fun r => ∀ p : PT, ss = [.d (p.o Z.C_Land)] → r = .d (.tup (p.ps.map dPair)) } := sem_get (g := fun p => .tup (p.ps.map dPair)) lf.i.cl lf.n_roads look_r ss hp
theorem fs_new {f g : Str} (h : (f == g) = false) {d : D} {r : List (Str × D)} (h2 : r.lookup f = none) : ((g, d) :: r).lookup f = none := by
  rw [List.lookup_cons, h]
  exact h2
theorem sem_Land___init__ (lf : LF K Z) (x dx : Addr) (ss : List SV) (hp : ∃ p : PT, ss = [.d (.int p.c), .d (.str p.h), .d (.int p.g), .d (.int p.l), .d (.tup (p.ps.map dPair))] ∧ p.ok) : DI K x Z.C_Land dx (rd_Land___init__ K Z) [] (some (.cls x) :: startE 5 ss) (fun ds => ∀ p : PT, ss = [.d (.int p.c), .d (.str p.h), .d (.int p.g), .d (.int p.l), .d (.tup (p.ps.map dPair))] → ds = p.fs) := by
  obtain ⟨p, rfl, ho⟩ := hp
  obtain ⟨hr, ⟨hh, hs⟩, hg, hl⟩ := ho
  show DI K x Z.C_Land dx (rd_Land___init__ K Z) [] [some (.cls x), some (.d (.int p.c)), some (.d (.str p.h)), some (.d (.int p.g)), some (.d (.int p.l)), some (.d (.tup (p.ps.map dPair)))] _
  have am : ∀ (i : Nat) (n m : Int) (es : Env'), es[i]? = some (some (.d (.int n))) → 1 ≤ n → n ≤ m → DT K (tNot (tB (tCall (sp__is_amount K Z) [] E0 (tCons (tVar i) (tCons (tC (.int m)) tNil))))) es fun b => b = false := by
    intro i n m es e h1 h2
    refine dt_not (dt_B (de_call (da_cons (de_var e (da_cons (de_int (da_nil ⟨⟨trivial, trivial, trivial⟩, rfl, ⟨n, m, rfl, h1, h2⟩, ?_⟩)))))))
    rintro r rfl
    exact ⟨_, rfl, rfl⟩
  unfold rd_Land___init__
  refine di_if (am 1 p.c _ _ rfl hr.2.2.2.1 hr.2.2.2.2) ?_
  refine di_if (dt_not (dt_B (de_call (da_cons (de_var rfl (da_nil ⟨⟨trivial, trivial⟩, rfl, ⟨.str p.h, rfl, ?_⟩, ?_⟩)))))) ?_
  · have hz := hh
    unfold handD sizedD at hz
    rw [Bool.and_eq_true, Bool.and_eq_true, decide_eq_true_eq, decide_eq_true_eq] at hz
    show p.h.length ≤ 1000
    omega
  · rintro r ⟨y, e, rfl⟩
    injection e with e _
    injection e with e
    subst e
    exact ⟨_, rfl, by rw [hh]; rfl⟩
  refine di_if (am 3 p.g _ _ rfl hg.1 hg.2) ?_
  refine di_if (am 4 p.l _ _ rfl hl.1 hl.2) ?_
  refine di_if (dt_not (dt_B (de_call (da_cons (de_var rfl (da_cons (de_var rfl (da_nil ⟨⟨trivial, trivial, trivial⟩, rfl, ⟨p.ps, p.c, rfl, hr⟩, ?_⟩)))))))) ?_
  · rintro r rfl
    exact ⟨_, rfl, rfl⟩
  refine di_fld rfl lf.i.cl lf.n_cells (by decide) rfl (de_var rfl ⟨_, rfl, ?_⟩)
  refine di_fld rfl lf.i.cl lf.n_hand (Nat.le_of_ble_eq_true rfl) (fs_new (by decide +kernel) rfl) (de_var rfl ⟨_, rfl, ?_⟩)
  refine di_fld rfl lf.i.cl lf.n_grow (Nat.le_of_ble_eq_true rfl) (fs_new (by decide +kernel) (fs_new (by decide +kernel) rfl)) (de_var rfl ⟨_, rfl, ?_⟩)
  refine di_fld rfl lf.i.cl lf.n_lapse (Nat.le_of_ble_eq_true rfl) (fs_new (by decide +kernel) (fs_new (by decide +kernel) (fs_new (by decide +kernel) rfl))) (de_var rfl ⟨_, rfl, ?_⟩)
  refine di_fld rfl lf.i.cl lf.n_roads (Nat.le_of_ble_eq_true rfl) (fs_new (by decide +kernel) (fs_new (by decide +kernel) (fs_new (by decide +kernel) (fs_new (by decide +kernel) rfl)))) (de_var rfl ⟨_, rfl, ?_⟩)
  refine di_next fun q e => ?_
  simp only [List.cons.injEq, and_true, SV.d.injEq, D.int.injEq, D.str.injEq, D.tup.injEq] at e
  obtain ⟨a, b, c, d, e⟩ := e
  unfold PT.fs
  rw [a, b, c, d, e]
  rfl
theorem fit_roads {ps : List (Int × Int)} {c : Int} (h : RoadsOk ps c) : Fit 100000 5 (.lst (ps.map dPair)) := by
  obtain ⟨h1, h2, h3, h4, h5⟩ := h
  refine fit_pairs (fun p hp => ?_) (by omega)
  have a := h1.1 p hp
  have b := h2 p hp
  have e' : (2 : Nat) ^ 140 = 1393796574908163946345982392040522594123776 := by decide +kernel
  rw [e']
  omega
theorem fit_roadsT {ps : List (Int × Int)} {c : Int} (h : RoadsOk ps c) : Fit 100000 6 (.tup (ps.map dPair)) := by
  have f := fit_roads h
  exact ⟨f.f, f.w, Nat.le_trans f.d (by decide)⟩
theorem sem__are_roads (lf : LF K Z) (ss : List SV) (hp : ∃ (ps : List (Int × Int)) (c : Int), ss = [.d (.tup (ps.map dPair)), .d (.int c)] ∧ RoadsOk ps c) : DS K (rd__are_roads K Z) (startE 4 ss) { nx := fun _ => SV.d .non = .d (.bl true), rt := fun r => r = .d (.bl true) } := by
  obtain ⟨ps, c, rfl, h⟩ := hp
  have f1 := fit_roadsT h
  have f2 := fit_roads h
  obtain ⟨h1, h2, h3, h4, h5⟩ := h
  show DS K (rd__are_roads K Z) [some (.d (.tup (ps.map dPair))), some (.d (.int c)), none, none] _
  unfold rd__are_roads
  repeat walk_at "dl"
  refine rc_isi (fit_plain f1) (kit_isTup (fit_plain f1)) ?_
  repeat walk_at "dl"
  refine ite_b (fun h => by cases h) (fun _ => ?_)
  repeat walk_at "dl"
  refine ite_b (fun h => ?_) (fun _ => ?_)
  · have := of_decide_eq_true h
    rw [List.length_map] at this
    omega
  repeat walk_at "dl"
  refine de_lcT (de_var rfl ⟨_, rfl, ?_, fun i acc => acc = ((ps.take i).map fun _ => D.bl true), rfl, fun i x hx acc hJ _ => ?_, fun acc hJ _ => ?_⟩)
  · rw [List.length_map]
    omega
  · obtain ⟨p, hp, rfl⟩ := pair_get hx
    refine dg_name ?_
    repeat walk_at "dl"
    refine ite_b (fun _ => ?_) (fun h => by cases h)
    refine de_call (da_cons (de_var rfl (da_nil ⟨⟨trivial, trivial⟩, rfl, ⟨dPair p, rfl, rfl⟩, ?_⟩)))
    rintro r ⟨y, e, rfl⟩
    injection e with e _
    injection e with e
    subst e
    have hm := List.mem_of_getElem? hp
    have a := h1.1 p hm
    have b := h2 p hm
    have st : stretchD (dPair p) = true := by
      show (decide (0 ≤ p.1) && decide (1 ≤ p.2)) = true
      rw [decide_eq_true b.1, decide_eq_true (show 1 ≤ p.2 by omega)]
      rfl
    refine ⟨_, rfl, ?_⟩
    rw [hJ, take_get hp, List.map_append, st]
    rfl
  · rw [List.length_map, List.take_of_length_le (Nat.le_refl _)] at hJ
    repeat walk_at "dl"
    refine rc_all (bs := ps.map fun _ => true) (by rw [hJ, List.map_map]; rfl) ?_
    refine ⟨_, rfl, ?_⟩
    have et : (ps.map fun _ => true).all id = true := by
      rw [List.all_eq_true]
      intro b hb
      obtain ⟨_, _, rfl⟩ := List.mem_map.mp hb
      rfl
    rw [et]
    refine ite_b (fun h => by cases h) (fun _ => ?_)
    repeat walk_at "dl"
    refine list_t ⟨trivial, ?_⟩
    refine ds_freeze (i := 2) rfl ?_
    show DS K _ [some (.d (.tup (ps.map dPair))), some (.d (.int c)), some (.d (.lst (ps.map dPair))), none] _
    refine ds_ret (de_op (de_call (da_cons (de_var rfl (da_cons (de_lst' ?_))))))
    refine da_cons (de_tup' (da_cons (de_int (da_cons (de_var rfl (da_nil ⟨_, rfl, Nat.le_of_ble_eq_true rfl, ?_⟩))))))
    refine da_nil ⟨_, rfl, Nat.le_of_ble_eq_true rfl, da_nil ⟨⟨trivial, trivial, trivial⟩, rfl, ⟨ps, [(0, c)], rfl, ⟨h1.1, by omega⟩, fun p hp => ?_, Nat.le_of_ble_eq_true rfl⟩, ?_⟩⟩
    · obtain rfl := List.mem_singleton.mp hp
      show 0 < c
      omega
    rintro r ⟨ps', qs', rs, e, rfl, c1, c2, c3⟩
    obtain ⟨rfl, e2⟩ := two_inj (qs := [(0, c)]) e
    subst e2
    have er : rs = ps := canon_uniq c1 h1 fun x => (c2 x).trans ⟨fun z => z.1, fun z => ⟨z, ?_⟩⟩
    · subst er
      exact de_var rfl (eq_same (x := .lst (rs.map dPair)) rfl rfl f2 (by decide) ⟨trivial, rfl⟩)
    · obtain ⟨p, hp, y1, y2⟩ := z
      have b := h2 p hp
      exact ⟨(0, c), List.mem_singleton.mpr rfl, by show 0 ≤ x; omega, by show x < 0 + c; omega⟩
theorem c_log {p : PT} (h : p.ok) : p.c.natAbs.log2 < 1920 := by
  have a := h.1.2.2.2
  have : p.c.natAbs.log2 < 140 := log2_le_of_lt (by
    have e' : (2 : Nat) ^ 140 = 1393796574908163946345982392040522594123776 := by decide +kernel
    rw [e']
    omega) (by decide)
  omega
theorem h_len {p : PT} (h : p.ok) : 1 ≤ p.h.length ∧ p.h.length ≤ 8 := by
  have hz := h.2.1.1
  unfold handD sizedD at hz
  rw [Bool.and_eq_true, Bool.and_eq_true, decide_eq_true_eq, decide_eq_true_eq] at hz
  exact hz.1
theorem call_get {C : Addr} {es : Env'} {i : Nat} {m : Str} {f : PT → D} {p : PT} {Q : SV → Prop} (e : es[i]? = some (some (.d (p.o C)))) (hm : p.fs.lookup m = none) (q : Q (.d (f p))) : DE K (tMeth C m (spGet K C f) [] E0 (tVar i) tNil) es Q := by
  refine de_meth (de_var e ⟨_, rfl, hm, da_nil ⟨trivial, rfl, ⟨p, rfl⟩, ?_⟩⟩)
  intro r hr
  rw [hr p rfl]
  exact q
theorem call_bag {ns : List Int} {i k : Nat} {es : Env'} {j : Nat} {Q : SV → Prop} (hk : k < 64) (h0 : es[i]? = some (some (.scr ns))) (h1 : es[j]? = some (some (.d (.int k)))) (q : ∀ g m : Int, Q (.new [.int g, .int m])) : DE K (tCall (sp__law_bag K) [] E0 (tCons (tVar i) (tCons (tVar j) tNil))) es Q := by
  refine de_call (da_cons (de_var h0 (da_cons (de_var h1 (da_nil ⟨⟨trivial, trivial, trivial⟩, rfl, ⟨ns, k, rfl, hk⟩, ?_⟩)))))
  rintro r ⟨g, m, rfl⟩
  exact q g m
theorem ixN_nat {n t : Nat} (h : t < n) : ixN n (t : Int) = some t := by
  unfold ixN
  split
  · rw [if_pos (by omega)]
    congr 1
  · omega
theorem at_0 (x : D) (xs : List D) : atI (x :: xs) 0 = some x := by
  unfold atI
  rw [show (0 : Int) = ((0 : Nat) : Int) from rfl, ixN_nat (n := (x :: xs).length) (t := 0) (Nat.succ_pos _)]
  rfl
theorem dt_truT {es : Env'} {ta : TE} {Q : Bool → Prop} (h : DE K ta es fun s => ∃ xs, s = .d (.tup xs) ∧ Q (!xs.isEmpty)) : DT K (tTruX K ta) es Q := fun P N M L σ H S R k => by
  refine h P N M L σ H S _ fun s v H1 k1 o q => ?_
  obtain ⟨xs, rfl, q⟩ := q
  have o' : Is K M H1 v (.tup xs) := o
  obtain ⟨a, vs, rfl, g, i⟩ := Is.tupS o'
  refine ⟨!vs.isEmpty, .inr (.inl ⟨vs, g, rfl⟩), k _ H1 k1 ?_⟩
  have : vs.isEmpty = xs.isEmpty := by
    have := i.len
    cases vs <;> cases xs <;> first | rfl | (simp at this)
  rw [this]
  exact q
theorem sem_parts_of (lf : LF K Z) (w : Str) (hp : True) : DS K (rd_parts_of K Z) (startE 1 [.d (.str w)]) { nx := fun _ => SV.d .non = .d (.tup ((partsL w).map D.str)), rt := fun r => r = .d (.tup ((partsL w).map D.str)) } := by
  show DS K (rd_parts_of K Z) [some (.d (.str w))] _
  unfold rd_parts_of
  refine ds_ret (de_kget lf.pt_PARTS (de_var rfl ⟨w, rfl, de_tup' (da_nil ⟨[], rfl, Nat.le_of_ble_eq_true rfl, .tup [], rfl, trivial, ?_⟩)⟩))
  unfold partsL
  by_cases h1 : w = "sale"
  · subst h1; rfl
  by_cases h2 : w = "grant"
  · subst h2; rfl
  by_cases h3 : w = "end"
  · subst h3; rfl
  by_cases h4 : w = "use"
  · subst h4; rfl
  rw [if_neg h1, if_neg h2, if_neg h3, if_neg h4]
  have e : ∀ z : Str, ¬ w = z → decide (z = w) = false := fun z h => decide_eq_false fun e => h e.symm
  rw [List.find?_cons_of_neg (by rw [e _ h1]; exact Bool.false_ne_true), List.find?_cons_of_neg (by rw [e _ h2]; exact Bool.false_ne_true), List.find?_cons_of_neg (by rw [e _ h3]; exact Bool.false_ne_true), List.find?_cons_of_neg (by rw [e _ h4]; exact Bool.false_ne_true)]
  rfl
theorem sem_is_day (lf : LF K Z) (x : D) (hp : x.plain = true) : DS K (rd_is_day K Z) (startE 1 [.d x]) { nx := fun _ => SV.d .non = .d (.bl (dayD x)), rt := fun r => r = .d (.bl (dayD x)) } := by
  show DS K (rd_is_day K Z) [some (.d x)] _
  unfold rd_is_day
  refine ds_ret (de_andV (call_whole rfl hp ⟨_, rfl, ?_⟩))
  refine ite_b (fun h => ?_) (fun h => ?_)
  · obtain ⟨n, rfl⟩ : ∃ n, x = .int n := by
      cases x <;> first | exact ⟨_, rfl⟩ | cases h
    refine de_chain (de_int (de_var rfl (le_i ⟨_, rfl, ?_⟩)))
    show if decide (0 ≤ n) = true then _ else SV.ret (.d (.bl false)) ∧ SV.out (.d (.bl false)) = .d (.bl (decide (0 ≤ n) && decide (n ≤ 1000000000000000000000000000000)))
    refine ite_b (fun h1 => ?_) (fun h1 => ?_)
    · refine de_int (le_i ⟨trivial, ?_⟩)
      show SV.d (.bl (decide (n ≤ 1000000000000000000000000000000))) = .d (.bl (decide (0 ≤ n) && decide (n ≤ 1000000000000000000000000000000)))
      rw [h1]
      rfl
    · rw [h1]
      exact ⟨trivial, rfl⟩
  · refine ⟨trivial, ?_⟩
    have : dayD x = false := by
      cases x <;> first | rfl | cases h
    rw [this]
    rfl
theorem call_stretch {es : Env'} {i : Nat} {x : D} {Q : SV → Prop} (e : es[i]? = some (some (.d x))) (hx : x.plain = true) (q : Q (.d (.bl (stretchD x)))) : DE K (tCall (sp_is_stretch K Z) [] E0 (tCons (tVar i) tNil)) es Q := by
  refine de_call (da_cons (de_var e (da_nil ⟨⟨trivial, trivial⟩, rfl, ⟨x, rfl, hx⟩, ?_⟩)))
  rintro r ⟨y, e', rfl⟩
  injection e' with e1 e2
  injection e1 with e1
  subst e1
  exact q
theorem eq_sd {x : D} {z : Str} {b : Bool} : True := trivial
theorem str_of {c : Int} {x : D} : strC c x = (stretchD x && (match x with | .tup [.int a, .int b] => decide (a + b ≤ c) | _ => false)) := by
  unfold strC stretchD
  split <;> rfl
theorem sem__is_part (lf : LF K Z) (y : IPx) (hp : fineX y.x ∧ (y.w = "last" → ∃ n, y.a = .int n) ∧ (y.w ∈ [("day" : Str), "last", "hand", "stretch", "leave"])) : DS K (rd__is_part K Z) (startE 4 [.d (y.p.o Z.C_Land), .d (.str y.w), .d y.x, .d y.a]) { nx := fun _ => SV.d .non = .d (.bl (okPart y.p.c y.w y.x y.a)), rt := fun r => r = .d (.bl (okPart y.p.c y.w y.x y.a)) } := by
  obtain ⟨p, w, x, a⟩ := y
  obtain ⟨⟨hx1, hx2⟩, hl, hw⟩ := hp
  have hx1 : x.plain = true := hx1
  have hx2 : ask x := hx2
  have hl : w = "last" → ∃ n, a = .int n := hl
  have hw : w ∈ [("day" : Str), "last", "hand", "stretch", "leave"] := hw
  show DS K (rd__is_part K Z) [some (.d (p.o Z.C_Land)), some (.d (.str w)), some (.d x), some (.d a)] { nx := fun _ => SV.d .non = .d (.bl (okPart p.c w x a)), rt := fun r => r = .d (.bl (okPart p.c w x a)) }
  unfold rd__is_part
  refine ds_seq (ds_if (dt_test (de_op (de_var rfl (de_str (eq_ss ⟨_, rfl, ?_⟩))))))
  refine ite_b (fun h => ?_) (fun h1 => ds_next ?_)
  · have h : w = "stretch" := of_decide_eq_true h
    have eo : okPart p.c w x a = strC p.c x := by
      unfold okPart
      rw [if_neg (by rw [h]; decide +kernel), if_pos h]
    rw [eo, str_of]
    refine ds_ret (de_andV (call_stretch rfl hx1 ⟨_, rfl, ?_⟩))
    refine ite_b (fun hs => ?_) (fun hs => ?_)
    · obtain ⟨m, n, rfl⟩ : ∃ m n : Int, x = .tup [.int m, .int n] := by
        unfold stretchD at hs
        split at hs
        · exact ⟨_, _, rfl⟩
        · cases hs
      refine de_op (de_op (de_op (de_var rfl (de_int (rr_xT (x := .int m) rfl ?_)))))
      refine de_op (de_var rfl (de_int (rr_xT (x := .int n) rfl (plus_i ?_))))
      refine call_get (p := p) rfl (by rfl) (le_i ⟨trivial, ?_⟩)
      rw [hs]
      rfl
    · rw [hs]
      exact ⟨trivial, rfl⟩
  have h1 : ¬ w = "stretch" := of_decide_eq_false h1
  refine ds_seq (ds_if (dt_test (de_op (de_var rfl (de_str (eq_ss ⟨_, rfl, ?_⟩))))))
  refine ite_b (fun h => ?_) (fun h2 => ds_next ?_)
  · have h : w = "day" := of_decide_eq_true h
    have eo : okPart p.c w x a = dayD x := by
      unfold okPart
      rw [if_neg (by rw [h]; decide +kernel), if_neg h1, if_neg (by rw [h]; decide +kernel), decide_eq_true h]
      simp
    rw [eo]
    refine ds_ret (de_callQ (da_cons (de_var rfl (da_nil ⟨⟨trivial, trivial⟩, x, rfl, rfl, hx1, ?_⟩))))
    rintro r rfl
    exact ⟨trivial, rfl⟩
  have h2 : ¬ w = "day" := of_decide_eq_false h2
  refine ds_seq (ds_if (dt_test (de_op (de_var rfl (de_str (eq_ss ⟨_, rfl, ?_⟩))))))
  refine ite_b (fun h => ?_) (fun h3 => ds_next ?_)
  · have h : w = "last" := of_decide_eq_true h
    have eo : okPart p.c w x a = (dayD x && leD a x) := by
      unfold okPart
      rw [if_neg (by rw [h]; decide +kernel), if_neg h1, if_neg (by rw [h]; decide +kernel), decide_eq_false h2]
      simp
    rw [eo]
    refine ds_ret (de_andV (de_callQ (da_cons (de_var rfl (da_nil ⟨⟨trivial, trivial⟩, x, rfl, rfl, hx1, ?_⟩)))))
    rintro r rfl
    refine ⟨_, rfl, ?_⟩
    refine ite_b (fun hd => ?_) (fun hd => ?_)
    · obtain ⟨n, rfl⟩ : ∃ n, x = .int n := by
        cases x <;> first | exact ⟨_, rfl⟩ | cases hd
      obtain ⟨m, rfl⟩ := hl h
      refine de_op (de_var rfl (de_var rfl (le_i ⟨trivial, ?_⟩)))
      rw [hd]
      rfl
    · rw [hd]
      exact ⟨trivial, rfl⟩
  have h3 : ¬ w = "last" := of_decide_eq_false h3
  refine ds_seq (ds_if (dt_test (de_op (de_var rfl (de_str (eq_ss ⟨_, rfl, ?_⟩))))))
  refine ite_b (fun h => ?_) (fun h4 => ds_next ?_)
  · have h : w = "hand" := of_decide_eq_true h
    refine ds_ret (de_call (da_cons (de_var rfl (da_nil ⟨⟨trivial, trivial⟩, rfl, ⟨x, rfl, hx2⟩, ?_⟩))))
    rintro r ⟨x', e, rfl⟩
    injection e with e _
    injection e with e
    subst e
    refine ⟨trivial, ?_⟩
    unfold okPart
    rw [if_pos h]
    rfl
  have h4 : ¬ w = "hand" := of_decide_eq_false h4
  have h : w = "leave" := by
    simp only [List.mem_cons, List.not_mem_nil, or_false] at hw
    rcases hw with h | h | h | h | h
    · exact absurd h h2
    · exact absurd h h3
    · exact absurd h h4
    · exact absurd h h1
    · exact h
  refine ds_ret (de_cb (da_cons (de_var rfl (da_cons (de_ty (da_nil (rc_isi hx1 (kit_isBool hx1) ⟨trivial, ?_⟩)))))))
  unfold okPart
  rw [if_neg h4, if_neg h1, if_pos h]
  rfl
theorem sem_Land___eq__ (lf : LF K Z) (x : Empty) (hp : True) : DS K (rd_Land___eq__ K Z) (startE 2 (nomatch x)) { nx := fun _ => True, rt := fun _ => True } := nomatch x
theorem sem_Land___repr__ (lf : LF K Z) (x : Empty) (hp : True) : DS K (rd_Land___repr__ K Z) (startE 1 (nomatch x)) { nx := fun _ => True, rt := fun _ => True } := nomatch x
def shaped : D → Bool
  | .tup (.str _ :: _) => true
  | _ => false
theorem last_at {w : Str} {i : Nat} (h : (partsL w)[i]? = some ("last" : Str)) : i = 1 ∧ (partsL w)[0]? = some ("day" : Str) := by
  unfold partsL at h ⊢
  by_cases h1 : w = "sale"
  · rw [if_pos h1] at h ⊢
    match i, h with
    | 0, h => exact absurd h (by decide +kernel)
    | 1, h => exact absurd h (by decide +kernel)
    | 2, h => exact absurd h (by decide +kernel)
    | n + 3, h => cases h
  rw [if_neg h1] at h ⊢
  by_cases h2 : w = "grant"
  · rw [if_pos h2] at h ⊢
    match i, h with
    | 0, h => exact absurd h (by decide +kernel)
    | 1, h => exact absurd h (by decide +kernel)
    | 2, h => exact absurd h (by decide +kernel)
    | 3, h => exact absurd h (by decide +kernel)
    | n + 4, h => cases h
  rw [if_neg h2] at h ⊢
  by_cases h3 : w = "end"
  · rw [if_pos h3] at h ⊢
    match i, h with
    | 0, h => exact absurd h (by decide +kernel)
    | 1, h => exact absurd h (by decide +kernel)
    | 2, h => exact absurd h (by decide +kernel)
    | 3, h => exact absurd h (by decide +kernel)
    | n + 4, h => cases h
  rw [if_neg h3] at h ⊢
  by_cases h4 : w = "use"
  · rw [if_pos h4] at h ⊢
    match i, h with
    | 0, h => exact absurd h (by decide +kernel)
    | 1, h => exact ⟨rfl, rfl⟩
    | 2, h => exact absurd h (by decide +kernel)
    | 3, h => exact absurd h (by decide +kernel)
    | 4, h => exact absurd h (by decide +kernel)
    | n + 5, h => cases h
  rw [if_neg h4] at h
  cases h
theorem parts_mem {w : Str} {i : Nat} {p : Str} (h : (partsL w)[i]? = some p) : p ∈ [("day" : Str), "last", "hand", "stretch", "leave"] := by
  have h := List.mem_of_getElem? h
  unfold partsL at h
  split at h
  · simp only [List.mem_cons, List.not_mem_nil, or_false] at h ⊢
    rcases h with h | h | h <;> simp [h]
  split at h
  · simp only [List.mem_cons, List.not_mem_nil, or_false] at h ⊢
    rcases h with h | h | h | h <;> simp [h]
  split at h
  · simp only [List.mem_cons, List.not_mem_nil, or_false] at h ⊢
    rcases h with h | h | h | h <;> simp [h]
  split at h
  · simp only [List.mem_cons, List.not_mem_nil, or_false] at h ⊢
    rcases h with h | h | h | h | h <;> simp [h]
  cases h
theorem ok_day {c : Int} {x a : D} (h : okPart c "day" x a = true) : ∃ n, x = .int n := by
  unfold okPart at h
  rw [if_neg (by decide +kernel), if_neg (by decide +kernel), if_neg (by decide +kernel)] at h
  cases x <;> first | exact ⟨_, rfl⟩ | (cases h; done) | (simp [dayD] at h; done)
theorem atI_nat {xs : List D} {i : Nat} {x : D} (h : xs[i]? = some x) : atI xs (i : Int) = some x := by
  have hi : i < xs.length := (List.getElem?_eq_some_iff.mp h).1
  unfold atI
  rw [ixN_nat (n := xs.length) (t := i) hi]
  exact h
theorem sem__wrong_part (lf : LF K Z) (y : PT × D) (hp : y.2.plain = true ∧ fineT y.2) : DS K (rd__wrong_part K Z) (startE 5 [.d (y.1.o Z.C_Land), .d y.2]) { nx := fun _ => SV.d .non = .d (wrongD y.1.c y.2), rt := fun r => r = .d (wrongD y.1.c y.2) } := by
  obtain ⟨p, x⟩ := y
  obtain ⟨hpl, hf⟩ := hp
  have hpl : x.plain = true := hpl
  have hf : fineT x := hf
  show DS K (rd__wrong_part K Z) [some (.d (p.o Z.C_Land)), some (.d x), none, none, none] { nx := fun _ => SV.d .non = .d (wrongD p.c x), rt := fun r => r = .d (wrongD p.c x) }
  unfold rd__wrong_part
  refine ds_seq (ds_if (DT.mono (Q := fun b => b = !shaped x) ?_ ?_))
  · refine dt_or (dt_not (dt_B (de_cb (da_cons (de_var rfl (da_cons (de_ty (da_nil (rc_isi hpl (kit_isTup hpl) ⟨_, rfl, ?_⟩)))))))))
    cases x with
    | tup xs =>
      refine ite_b (fun h => by cases h) (fun _ => ?_)
      refine dt_or (dt_not (dt_truT (de_var rfl ⟨xs, rfl, ?_⟩)))
      cases xs with
      | nil => exact ite_b (fun _ => rfl) (fun h => by cases h)
      | cons z zs =>
        refine ite_b (fun h => by cases h) (fun _ => ?_)
        have hz : z.plain = true := by
          have h' : (z.plain && D.plainAll zs) = true := hpl
          rw [Bool.and_eq_true] at h'
          exact h'.1
        refine dt_not (dt_B (de_cb (da_cons (de_op (de_var rfl (de_int (rr_xT (x := z) (at_0 z zs) ?_)))))))
        refine da_cons (de_ty (da_nil (rc_isi hz (kit_isStr hz) ⟨_, rfl, ?_⟩)))
        cases z <;> rfl
    | _ => rfl
  rintro b rfl
  refine ite_b (fun h => ?_) (fun h => ds_next ?_)
  · refine ds_ret (de_int ⟨trivial, ?_⟩)
    have e : wrongD p.c x = .int 0 := by
      cases x with
      | tup xs =>
        cases xs with
        | nil => rfl
        | cons z zs => cases z <;> first | rfl | (cases h; done)
      | _ => rfl
    rw [e]
    rfl
  obtain ⟨w, xs, rfl⟩ : ∃ w xs, x = .tup (.str w :: xs) := by
    cases x with
    | tup xs =>
      cases xs with
      | nil => cases h
      | cons z zs => cases z <;> first | exact ⟨_, _, rfl⟩ | (cases h; done)
    | _ => cases h
  obtain ⟨hfx, hwl, hxl⟩ := hf
  refine ds_seq (ds_set (de_callQ (da_cons (de_op (de_var rfl (de_int (rr_xT (x := .str w) (at_0 _ _) ?_)))))))
  refine da_nil ⟨⟨trivial, trivial⟩, w, rfl, rfl, trivial, ?_⟩
  rintro r rfl
  refine ⟨trivial, ?_⟩
  show DS K _ [some (.d (p.o Z.C_Land)), some (.d (.tup (.str w :: xs))), some (.d (.tup ((partsL w).map D.str))), none, none] _
  refine ds_seq (ds_if (dt_or (dt_not (dt_truT (de_var rfl ⟨_, rfl, ?_⟩)))))
  have zero : (partsL w = [] ∨ xs.length ≠ (partsL w).length) → ∀ es, DS K (tRet (tC (.int 0))) es { nx := fun e => DS K (tSeq (tFor (iEnumS K (tCons (tVar 2) tNil) (tCons (tC (.int 1)) tNil)) (gTup K 2 (gCons (gName 3) (gCons (gName 4) gNil))) (tIfS (tNot (tB (tCall (sp__is_part K Z) [] E0 (tCons (tVar 0) (tCons (tVar 4) (tCons (tOp (rIx K) (tVar 1) (tVar 3)) (tCons (tOp (rIx K) (tVar 1) (tOp rSubX (tVar 3) (tC (.int 1)))) tNil))))))) (tRet (tVar 3)) tNext)) (tRet (tC .non))) e { nx := fun _ => SV.d .non = .d (wrongD p.c (.tup (.str w :: xs))), rt := fun r => r = .d (wrongD p.c (.tup (.str w :: xs))) }, rt := fun r => r = .d (wrongD p.c (.tup (.str w :: xs))) } := by
    intro hc es
    refine ds_ret (de_int ⟨trivial, ?_⟩)
    show SV.d (.int 0) = .d (if partsL w = [] ∨ xs.length ≠ (partsL w).length then .int 0 else _)
    rw [if_pos hc]
  refine ite_b (fun h => ?_) (fun h => ?_)
  · refine zero (.inl ?_) _
    cases hps : partsL w with
    | nil => rfl
    | cons a b => rw [hps] at h; cases h
  refine dt_test (de_op (de_cb (da_cons (de_var rfl (da_nil (len_x (n := xs.length + 1) rfl rfl ?_))))))
  refine de_op (de_int (de_cb (da_cons (de_var rfl (da_nil (len_x (n := (partsL w).length) rfl ?_ (plus_i (ne_ii ⟨_, rfl, ?_⟩))))))))
  · show some ((partsL w).map D.str).length = some (partsL w).length
    rw [List.length_map]
  have hne : partsL w ≠ [] := by
    intro e
    rw [e] at h
    cases h
  refine ite_b (fun h2 => ?_) (fun h2 => ds_next ?_)
  · refine zero (.inr ?_) _
    intro e
    rw [e] at h2
    have : (((partsL w).length + 1 : Nat) : Int) = 1 + ((partsL w).length : Int) := by omega
    rw [this] at h2
    simp at h2
  have hlen : xs.length = (partsL w).length := by
    have h3 : ((((xs.length + 1 : Nat) : Int) == 1 + ((partsL w).length : Int))) = true := by
      simpa using h2
    have := beq_iff_eq.mp h3
    omega
  have hw : wrongD p.c (.tup (.str w :: xs)) = match firstBad p.c (partsL w) (.str w) xs 1 with
    | none => .non
    | some n => .int n := by
    show (if partsL w = [] ∨ xs.length ≠ (partsL w).length then D.int 0 else _) = _
    rw [if_neg (by rintro (h | h); exact hne h; exact h hlen)]
  rw [hw]
  refine ds_seq (ds_forE (da_cons (de_var rfl (da_nil (da_cons (de_int (da_nil ⟨_, 1, rfl, rfl, by decide, by decide, fun i e => ∃ a b : Option SV, e = [some (.d (p.o Z.C_Land)), some (.d (.tup (.str w :: xs))), some (.d (.tup ((partsL w).map D.str))), a, b] ∧ (∀ ai, (D.str w :: xs)[i]? = some ai → firstBad p.c ((partsL w).drop i) ai (xs.drop i) (i + 1) = firstBad p.c (partsL w) (.str w) xs 1) ∧ (1 ≤ i → (partsL w)[0]? = some ("day" : Str) → ∃ n, xs[0]? = some (D.int n)), ⟨_, _, rfl, ?_, fun h => absurd h (by decide)⟩, ?_, ?_⟩)))))))
  · intro ai hai
    injection hai with hai
    subst hai
    rfl
  · rintro i z es' hz ⟨a, b, rfl, hfb, hdy⟩
    rw [List.getElem?_map] at hz
    obtain ⟨pn, hpn, rfl⟩ := Option.map_eq_some_iff.mp hz
    have hi : i < (partsL w).length := (List.getElem?_eq_some_iff.mp hpn).1
    obtain ⟨t, ht⟩ : ∃ t, xs[i]? = some t := ⟨xs[i]'(by omega), List.getElem?_eq_getElem (by omega)⟩
    obtain ⟨ai, hai⟩ : ∃ t, (D.str w :: xs)[i]? = some t := ⟨(D.str w :: xs)[i]'(by rw [List.length_cons]; omega), List.getElem?_eq_getElem _⟩
    have e1 : firstBad p.c ((partsL w).drop i) ai (xs.drop i) (i + 1) = if okPart p.c pn t ai then firstBad p.c ((partsL w).drop (i + 1)) t (xs.drop (i + 1)) (i + 1 + 1) else some (i + 1) := by
      rw [List.drop_eq_getElem_cons hi, List.drop_eq_getElem_cons (show i < xs.length by omega)]
      rw [(List.getElem?_eq_some_iff.mp hpn).2, (List.getElem?_eq_some_iff.mp ht).2]
      rfl
    rw [hfb ai hai] at e1
    refine ⟨_, dg_tup rfl (dgs_cons (dg_name (dgs_cons (dg_name (dgs_nil ?_)))))⟩
    show DS K _ [some (.d (p.o Z.C_Land)), some (.d (.tup (.str w :: xs))), some (.d (.tup ((partsL w).map D.str))), some (.d (.int (1 + i))), some (.d (.str pn))] _
    refine ds_if (dt_not (dt_B (de_callQ (da_cons (de_var rfl (da_cons (de_var rfl ?_)))))))
    refine da_cons (de_op (de_var rfl (de_var rfl (rr_xT (x := t) ?_ ?_))))
    · have : (1 : Int) + i = ((i + 1 : Nat) : Int) := by omega
      rw [this]
      exact atI_nat ht
    refine da_cons (de_op (de_var rfl (de_op (de_var rfl (de_int (sub_i (rr_xT (x := ai) ?_ ?_)))))))
    · have : (1 : Int) + i - 1 = ((i : Nat) : Int) := by omega
      rw [this]
      exact atI_nat hai
    refine da_nil ⟨⟨trivial, trivial, trivial, trivial, trivial⟩, ⟨p, pn, t, ai⟩, rfl, rfl, ⟨hfx t (List.mem_of_getElem? ht), ?_, parts_mem hpn⟩, ?_⟩
    · intro hl
      have hl : pn = "last" := hl
      rw [hl] at hpn
      obtain ⟨rfl, h0⟩ := last_at hpn
      obtain ⟨n, hn⟩ := hdy (Nat.le_refl _) h0
      refine ⟨n, ?_⟩
      have : (D.str w :: xs)[1]? = xs[0]? := rfl
      rw [this, hn] at hai
      injection hai with hai
      exact hai.symm
    rintro r rfl
    refine ⟨_, rfl, ?_⟩
    refine ite_b (fun hb => ?_) (fun hb => ?_)
    · have hb : okPart p.c pn t ai = false := by simpa using hb
      rw [hb, if_neg Bool.false_ne_true] at e1
      refine ds_ret (de_var rfl ⟨trivial, ?_⟩)
      rw [e1]
      show SV.d (.int (1 + i)) = .d (.int ((i + 1 : Nat) : Int))
      congr 2
      omega
    · have hb : okPart p.c pn t ai = true := by simpa using hb
      rw [hb, if_pos rfl] at e1
      refine ds_next ⟨_, _, rfl, ?_, ?_⟩
      · intro aj haj
        have : (D.str w :: xs)[i + 1]? = xs[i]? := rfl
        rw [this, ht] at haj
        injection haj with haj
        subst haj
        exact e1.symm
      · intro _ h0
        by_cases hi0 : i = 0
        · subst hi0
          rw [h0] at hpn
          injection hpn with hpn
          subst hpn
          obtain ⟨n, rfl⟩ := ok_day hb
          exact ⟨n, ht⟩
        · exact hdy (by omega) h0
  · rintro es' ⟨a, b, rfl, hfb, _⟩
    rw [List.length_map] at hfb
    refine ds_ret (de_non ⟨trivial, ?_⟩)
    obtain ⟨ai, hai⟩ : ∃ t, (D.str w :: xs)[(partsL w).length]? = some t := ⟨(D.str w :: xs)[(partsL w).length]'(by rw [List.length_cons]; omega), List.getElem?_eq_getElem _⟩
    have e := hfb ai hai
    rw [List.drop_length] at e
    have e' : firstBad p.c [] ai (xs.drop (partsL w).length) ((partsL w).length + 1) = none := rfl
    rw [e'] at e
    rw [← e]
    rfl
theorem sem_look_deed (lf : LF K Z) (E : XK) (y : PT × D) (hp : y.2.plain = true ∧ fineT y.2) : DS K (rd_look_deed K Z E) (startE 3 [.d (y.1.o Z.C_Land), .d y.2]) { nx := fun _ => SV.d .non = .d .non ∧ wrongD y.1.c y.2 = .non, rt := fun r => r = .d .non ∧ wrongD y.1.c y.2 = .non, xo := fun F => XOk K F E (xpDeed Z y.1.c y.2) } := by
  obtain ⟨p, x⟩ := y
  show DS K (rd_look_deed K Z E) [some (.d (p.o Z.C_Land)), some (.d x), none] { nx := fun _ => SV.d .non = .d .non ∧ wrongD p.c x = .non, rt := fun r => r = .d .non ∧ wrongD p.c x = .non, xo := fun F => XOk K F E (xpDeed Z p.c x) }
  unfold rd_look_deed
  refine ds_seq (ds_set (de_callQ (da_cons (de_var rfl (da_cons (de_var rfl (da_nil ⟨⟨trivial, trivial, trivial⟩, (p, x), rfl, rfl, hp, ?_⟩)))))))
  rintro r rfl
  refine ⟨trivial, ?_⟩
  show DS K _ [some (.d (p.o Z.C_Land)), some (.d x), some (.d (wrongD p.c x))] _
  refine ds_if (dt_test (de_op (de_var rfl (de_non (isnot_n ⟨_, rfl, ?_⟩)))))
  refine ite_b (fun h => ?_) (fun h => ds_next ?_)
  · refine ds_ofX (tb := fun W => tRaiseE Z.C_NoDeed "number" W (tCons (tVar 2) tNil)) (xp := xpDeed Z p.c x) (dsx_raise (de_var rfl ⟨_, rfl, rfl, rfl, rfl, ?_⟩)) fun F h => h
    intro e
    rw [e] at h
    cases h
  · refine ⟨rfl, ?_⟩
    generalize wrongD p.c x = z at h
    cases z <;> first | rfl | (cases h; done)
theorem hand_ok {z : Str} (h : handOk z) : handD (.str z) = true ∧ okS z := by
  refine ⟨?_, h.2.1⟩
  show (decide (1 ≤ z.length) && decide (z.length ≤ 8) && z.cps.toList.all low) = true
  rw [decide_eq_true h.1.1, decide_eq_true h.1.2]
  rw [show z.cps.toList.all low = true from List.all_eq_true.mpr h.2.2]
  rfl
theorem lowS_app {x y : Str} (a : lowS x) (b : lowS y) : lowS (x ++ y) := fun c hc => by
  have hc' : c ∈ (x.cps ++ y.cps).toList := hc
  rw [Array.toList_append, List.mem_append] at hc'
  exact hc'.elim (a c) (b c)
theorem lowS_cut {x : Str} {lo hi : Option Int} (a : lowS x) : lowS (cutS x lo hi) := fun c hc => by
  have hc' : c ∈ ((x.cps.toList.drop (HT.sIx x.length 0 lo)).take (HT.sIx x.length x.length hi - HT.sIx x.length 0 lo)) := by
    have h : c ∈ (((x.cps.toList.drop (HT.sIx x.length 0 lo)).take (HT.sIx x.length x.length hi - HT.sIx x.length 0 lo)).toArray).toList := hc
    simpa using h
  exact a c (List.mem_of_mem_drop (List.mem_of_mem_take hc'))
theorem lowS_nil : lowS ("" : Str) := fun c hc => by
  have e : (("" : Str)).cps.toList = [] := by decide +kernel
  rw [e] at hc
  cases hc
theorem lowS_join0 : ∀ ys : List Str, (∀ y ∈ ys, lowS y) → lowS (Str.join (Str.ofString "") ys)
  | [], _ => lowS_nil
  | [x], h => h x (by simp)
  | x :: y :: r, h => by
    show lowS (x ++ Str.ofString "" ++ Str.join (Str.ofString "") (y :: r))
    exact lowS_app (lowS_app (h x (by simp)) lowS_nil) (lowS_join0 (y :: r) fun z hz => h z (List.mem_cons_of_mem _ hz))
theorem lowS_join {ys : List Str} (h : ∀ y ∈ ys, lowS y) : lowS (Txt.join (Str.ofString "") ys) := by
  have e : Txt.join (Str.ofString "") ys = Str.join (Str.ofString "") ys := StrLaws.glued_eq_join _ _
  rw [e]
  exact lowS_join0 ys h
theorem lowS_one {c : Nat} (h : low c = true) : lowS ⟨#[c]⟩ := fun d hd => by
  have : d = c := by simpa using hd
  rw [this]
  exact h
theorem low_abc : ∀ c ∈ (("abcdefghijklmnopqrstuvwxyz" : Str)).cps.toList, low c = true := by
  have h : (("abcdefghijklmnopqrstuvwxyz" : Str)).cps.toList.all low = true := by decide +kernel
  exact List.all_eq_true.mp h
theorem ok_abc : okS ("abcdefghijklmnopqrstuvwxyz" : Str) := by unfold okS; decide +kernel
def oneS (y : Str) : Prop := y.length = 1 ∧ okS y ∧ lowS y
theorem oneS_of {c : Nat} (hc : c ∈ (("abcdefghijklmnopqrstuvwxyz" : Str)).cps.toList) : oneS ⟨#[c]⟩ := ⟨rfl, okS_one ok_abc hc, lowS_one (low_abc c hc)⟩
theorem cut2 (z : Str) (k : Int) : (cutS z none (some k)).length + (cutS z (some k) none).length ≤ z.length := by
  have e1 : (cutS z none (some k)).length = min (HT.sIx z.length z.length (some k) - 0) (z.cps.size - 0) := by
    show (((z.cps.toList.drop 0).take (HT.sIx z.length z.length (some k) - 0)).toArray).size = _
    rw [List.size_toArray, List.length_take, List.length_drop, Array.length_toList]
  have e2 : (cutS z (some k) none).length = min (z.length - HT.sIx z.length 0 (some k)) (z.cps.size - HT.sIx z.length 0 (some k)) := by
    show (((z.cps.toList.drop (HT.sIx z.length 0 (some k))).take (z.length - HT.sIx z.length 0 (some k))).toArray).size = _
    rw [List.size_toArray, List.length_take, List.length_drop, Array.length_toList]
  have e3 : HT.sIx z.length 0 (some k) = HT.sIx z.length z.length (some k) := rfl
  have e4 : HT.sIx z.length z.length (some k) ≤ z.length := HT.sIx_le _ _ (Nat.le_refl _) _
  have e5 : z.length = z.cps.size := rfl
  omega
theorem cut7 (z : Str) : (cutS z none (some 7)).length ≤ 7 := by
  have e1 : (cutS z none (some 7)).length = min (HT.sIx z.length z.length (some 7) - 0) (z.cps.size - 0) := by
    show (((z.cps.toList.drop 0).take (HT.sIx z.length z.length (some 7) - 0)).toArray).size = _
    rw [List.size_toArray, List.length_take, List.length_drop, Array.length_toList]
  have e2 : HT.sIx z.length z.length (some 7) = min 7 z.length := HT.sIx_nat _ _ 7
  omega
theorem aLand : handD (.str ("a" : Str)) = true ∧ okS ("a" : Str) := ⟨by decide +kernel, by unfold okS; decide +kernel⟩
def plainPT (c g l : Int) (h : Str) : PT := ⟨c, h, g, l, []⟩
theorem plain_ok {c g l : Int} {h : Str} (hc : 1 ≤ c ∧ c ≤ 1000000000000000000000000000000) (hh : handD (.str h) = true ∧ okS h) (hg : 1 ≤ g ∧ g ≤ 1000000000000) (hl : 1 ≤ l ∧ l ≤ 1000000000000) : (plainPT c g l h).ok :=
  ⟨⟨⟨fun p hp => (by cases hp), List.Pairwise.nil⟩, fun p hp => (by cases hp), Nat.zero_le _, hc.1, hc.2⟩, hh, hg, hl.1, hl.2⟩
theorem de_land0 (lf : LF K Z) {es : Env'} {c : Int} {h : Str} {Q : SV → Prop} (hc : 1 ≤ c ∧ c ≤ 1000000000000000000000000000000) (hh : handD (.str h) = true ∧ okS h) (q : Q (.d ((plainPT c 20 20 h).o Z.C_Land))) :
    DE K (tMakeK Z.C_Land 2 0 (sp_Land___init__ K Z) (fun vs zs => pick [0, 1, 2, 3, 4, 5] (vs ++ [.int 20, .int 20, .ref Z.T_Land_roads] ++ zs)) E0 (tCons (tC (.int c)) (tCons (tC (.str h)) tNil)) tNil) es Q := by
  refine de_makeN (ix := [0, 1, 2, 3, 4]) (dS := [.d (.int 20), .d (.int 20), .d (.tup [])]) (fun N M L H0 H => svi (svi (svt lf.tT_Land_roads .nil))) (fun x vs zs => pick_self [0, 1, 2, 3, 4] x _) ?_
  refine da_cons (de_int (da_cons (de_str (da_nil (da_nil ?_)))))
  refine ⟨⟨trivial, trivial, trivial⟩, trivial, rfl, rfl, rfl, ⟨plainPT c 20 20 h, rfl, plain_ok hc hh (by decide) (by decide)⟩, fun ds hd => ?_⟩
  rw [hd (plainPT c 20 20 h) rfl]
  exact q
theorem sem__law_names (lf : LF K Z) (n : Nat) (hp : n ≤ 10) : DS K (rd__law_names K Z) (startE 10 [.bag, .d (.int (n : Int))]) { nx := fun _ => ∃ zs : List Str, SV.d .non = .new (zs.map D.str) ∧ zs.length = n ∧ ∀ z ∈ zs, handOk z, rt := fun r => ∃ zs : List Str, r = .new (zs.map D.str) ∧ zs.length = n ∧ ∀ z ∈ zs, handOk z } := by
  show DS K (rd__law_names K Z) [some .bag, some (.d (.int (n : Int))), none, none, none, none, none, none, none, none] _
  unfold rd__law_names
  repeat walk_at "dl"
  refine de_joinX ?_
  repeat walk_at "dl"
  refine de_lc1 ?_
  repeat walk_at "dl"
  refine call_take rfl ?_
  repeat walk_at "dl"
  refine ⟨by decide, by decide +kernel, fun t t0 t1 => ?_⟩
  refine ixL_any rfl t0 (by exact t1) (fun x hx => ?_)
  obtain ⟨m, rfl, m0, m1⟩ : ∃ m : Int, x = .int m ∧ 0 ≤ m ∧ m ≤ 7 := by
    simp only [List.mem_cons, List.not_mem_nil, or_false] at hx
    rcases hx with rfl | rfl | rfl | rfl | rfl <;> exact ⟨_, rfl, by decide, by decide⟩
  refine da_nil ⟨m, rfl, by omega, by omega, fun i acc => ∃ ys : List Str, acc = ys.map D.str ∧ ys.length = i ∧ ∀ y ∈ ys, oneS y, ⟨[], rfl, rfl, fun _ h => (by cases h)⟩, fun i hi acc hJ _ => ?_, fun acc hJ hl => ?_⟩
  · show DG K _ _ _ [some .bag, some (.d (.int (n : Int))), some (.d (.str "abcdefghijklmnopqrstuvwxyz")), none, none, none, none, none, none, none] _
    refine dg_name ?_
    repeat walk_at "dl"
    refine ite_b (fun _ => ?_) (fun h => by cases h)
    repeat walk_at "dl"
    refine call_take rfl ?_
    repeat walk_at "dl"
    refine ⟨by decide, by decide +kernel, fun d d0 d1 => ?_⟩
    refine ixS_any (by decide) d0 (by exact d1) (fun c hc => ⟨_, rfl, ?_⟩)
    obtain ⟨ys, rfl, h1, h2⟩ := hJ
    refine ⟨ys ++ [⟨#[c]⟩], by rw [List.map_append]; rfl, by rw [List.length_append, h1]; rfl, fun y hy => ?_⟩
    rcases List.mem_append.mp hy with h | h
    · exact h2 y h
    · obtain rfl := List.mem_singleton.mp h
      exact oneS_of hc
  · obtain ⟨ys, rfl, h1, h2⟩ := hJ
    have hs : (ys.map (·.length)).sum ≤ ys.length * 1 := sum_le fun y hy => Nat.le_of_eq (h2 y hy).1
    have hy : ys.length ≤ 7 := by omega
    refine ⟨ys, rfl, by show (ys.map (·.length)).sum + ys.length * 0 ≤ 16777216; omega, ?_⟩
    have lz := len_join (ys := ys)
    have oz : okS (Txt.join (Str.ofString "") ys) := okS_join fun y hy => (h2 y hy).2.1
    have wz : lowS (Txt.join (Str.ofString "") ys) := lowS_join fun y hy => (h2 y hy).2.2
    generalize Txt.join (Str.ofString "") ys = z at lz oz wz
    have hz : z.length ≤ 7 := by omega
    refine ⟨trivial, ?_⟩
    refine ds_seq (ds_unp (de_tup' (da_cons (call_take rfl ?_))))
    repeat walk_at "dl"
    refine len_x rfl (len_s (by omega)) ?_
    repeat walk_at "dl"
    refine ⟨by omega, log2_small (by omega), fun spot s0 s1 => ?_⟩
    repeat walk_at "dl"
    refine call_take rfl ?_
    repeat walk_at "dl"
    refine ⟨by decide, by decide +kernel, fun fst f0 f1 => ?_⟩
    repeat walk_at "dl"
    refine call_take rfl ?_
    repeat walk_at "dl"
    refine ⟨by decide, by decide +kernel, fun pc q0 q1 => ?_⟩
    refine ixL_any rfl q0 (by exact q1) (fun x hx => ?_)
    obtain ⟨pace, rfl, e0, e1⟩ : ∃ m : Int, x = .int m ∧ 0 ≤ m ∧ m ≤ 25 := by
      simp only [List.mem_cons, List.not_mem_nil, or_false] at hx
      rcases hx with rfl | rfl | rfl | rfl <;> exact ⟨_, rfl, by decide, by decide⟩
    refine da_nil ⟨_, rfl, Nat.le_of_ble_eq_true rfl, _, _, rfl, dg_tup rfl (dgs_cons (dg_name (dgs_cons (dg_name (dgs_cons (dg_name (dgs_nil ?_)))))))⟩
    show DS K _ [some .bag, some (.d (.int (n : Int))), some (.d (.str "abcdefghijklmnopqrstuvwxyz")), some (.d (.str z)), some (.d (.int spot)), some (.d (.int fst)), some (.d (.int pace)), none, none, none] _
    refine ds_seq (ds_set (de_lc1 (da_cons (de_var rfl (da_nil ⟨(n : Int), rfl, by omega, by omega, fun i acc => ∃ ys : List Str, acc = ys.map D.str ∧ ys.length = i ∧ ∀ y ∈ ys, oneS y, ⟨[], rfl, rfl, fun _ h => (by cases h)⟩, fun i hi acc hJ _ => ?_, fun acc hJ hl => ⟨trivial, ?_⟩⟩)))))
    · refine dg_name ?_
      repeat walk_at "dl"
      refine ite_b (fun _ => ?_) (fun h => by cases h)
      repeat walk_at "dl"
      refine mul_l (by omega) ?_
      repeat walk_at "dl"
      refine mod_i (by decide) ?_
      refine ixS_any (by decide) (Int.emod_nonneg _ (by decide)) (Int.emod_lt_of_pos _ (by decide)) (fun c hc => ⟨_, rfl, ?_⟩)
      obtain ⟨ys, rfl, h1, h2⟩ := hJ
      refine ⟨ys ++ [⟨#[c]⟩], by rw [List.map_append]; rfl, by rw [List.length_append, h1]; rfl, fun y hy => ?_⟩
      rcases List.mem_append.mp hy with h | h
      · exact h2 y h
      · obtain rfl := List.mem_singleton.mp h
        exact oneS_of hc
    · obtain ⟨us, rfl, u1, u2⟩ := hJ
      have u1 : us.length = n := by rw [u1]; omega
      refine ds_ret (de_lcL (de_var rfl ⟨us.map D.str, rfl, fun n h => (by cases h), by rw [List.length_map]; omega, fun i acc => ∃ zs : List Str, acc = zs.map D.str ∧ zs.length = i ∧ ∀ z ∈ zs, handOk z, ⟨[], rfl, rfl, fun _ h => (by cases h)⟩, fun i x hx acc hJ _ => ?_, fun acc hJ _ => ?_⟩))
      · rw [List.getElem?_map] at hx
        obtain ⟨u, hu', rfl⟩ := Option.map_eq_some_iff.mp hx
        have hu := u2 u (List.mem_of_getElem? hu')
        obtain ⟨zs, rfl, z1, z2⟩ := hJ
        refine dg_name ?_
        repeat walk_at "dl"
        refine ite_b (fun _ => ?_) (fun h => by cases h)
        repeat walk_at "dl"
        refine sl_s (Nat.le_trans hz (by decide)) ?_
        repeat walk_at "dl"
        have c1 := cutS_length z none (some spot)
        have c2 := cutS_length z (some spot) none
        refine plus_s (Nat.le_trans (show _ ≤ 100 by have := hu.1; omega) (by decide)) ?_
        repeat walk_at "dl"
        refine sl_s (Nat.le_trans hz (by decide)) ?_
        have c3 := strLen_append (cutS z none (some spot)) u
        refine plus_s (Nat.le_trans (show _ ≤ 100 by have := hu.1; omega) (by decide)) ?_
        refine ⟨_, rfl, zs ++ [cutS z none (some spot) ++ u ++ cutS z (some spot) none], by rw [List.map_append]; rfl, by rw [List.length_append, z1]; rfl, fun y hy => ?_⟩
        rcases List.mem_append.mp hy with h | h
        · exact z2 y h
        · obtain rfl := List.mem_singleton.mp h
          refine ⟨⟨?_, ?_⟩, okS_app (okS_app (okS_cut oz) hu.2.1) (okS_cut oz), lowS_app (lowS_app (lowS_cut wz) hu.2.2) (lowS_cut wz)⟩
          · rw [strLen_append, strLen_append]
            have := hu.1
            omega
          · rw [strLen_append, strLen_append]
            have := hu.1
            have := cut2 z spot
            omega
      · obtain ⟨zs, rfl, z1, z2⟩ := hJ
        exact ⟨trivial, zs, rfl, by rw [z1, List.length_map, u1], z2⟩
theorem sem__law_plan (lf : LF K Z) (x : Unit) (hp : True) : DS K (rd__law_plan K Z) (startE 5 [.bag]) { nx := fun _ => ∃ p : Pl, SV.d .non = .d p.d ∧ p.ok, rt := fun r => ∃ p : Pl, r = .d p.d ∧ p.ok } := by
  show DS K (rd__law_plan K Z) [some .bag, none, none, none, none] _
  unfold rd__law_plan
  refine ds_seq (ds_par (by decide) (de_op (de_int (call_take rfl (de_int ⟨5, rfl, by decide, by decide +kernel, fun a a0 a1 => plus_i ?_⟩)))))
  refine de_op (de_lst' (da_cons (de_int (da_cons (de_int (da_cons (de_int (da_cons (de_op (de_int (de_int (pow_lit (k := 100000000000000000000000000000) (by decide +kernel) (by decide) (by decide) (by decide) ?_))))))))))))
  refine da_nil ⟨_, rfl, Nat.le_of_ble_eq_true rfl, call_take rfl (de_int ⟨4, rfl, by decide, by decide +kernel, fun t t0 t1 => ixL_any rfl t0 (by exact t1) (fun x hx => ?_)⟩)⟩
  obtain ⟨sc, rfl, sc0, sc1⟩ : ∃ m : Int, x = .int m ∧ 1 ≤ m ∧ m ≤ 100000000000000000000000000000 := by
    simp only [List.mem_cons, List.not_mem_nil, or_false] at hx
    rcases hx with rfl | rfl | rfl | rfl <;> exact ⟨_, rfl, by decide, by decide⟩
  refine ⟨trivial, trivial, ?_⟩
  show DS K _ [some .bag, some (.d (.int (2 + a))), some (.d (.int sc)), none, none] _
  refine ds_seq (ds_par (by decide) (de_callQ (da_cons (de_var rfl (da_cons (de_int (da_nil ⟨⟨trivial, trivial, trivial⟩, 3, rfl, rfl, by decide, ?_⟩)))))))
  rintro r ⟨zs, rfl, hl, hz⟩
  refine de_op (de_int (call_take rfl (de_int ⟨10, rfl, by decide, by decide +kernel, fun l l0 l1 => plus_i ⟨trivial, trivial, ?_⟩⟩)))
  match zs, hl with
  | [n0, n1, n2], _ =>
    show DS K _ [some .bag, some (.d (.int (2 + a))), some (.d (.int sc)), some (.own [.str n0, .str n1, .str n2]), some (.d (.int (3 + l)))] _
    refine ds_freeze (i := 3) rfl ?_
    show DS K _ [some .bag, some (.d (.int (2 + a))), some (.d (.int sc)), some (.d (.lst [.str n0, .str n1, .str n2])), some (.d (.int (3 + l)))] _
    refine ds_ret (de_tup' (da_cons (de_var rfl (da_cons (de_var rfl (da_cons (de_var rfl (da_cons (de_var rfl ?_)))))))))
    refine da_cons (de_op (de_int (call_take rfl (de_int ⟨4, rfl, by decide, by decide +kernel, fun g g0 g1 => plus_i ?_⟩))))
    refine da_cons (de_op (de_int (call_take rfl (de_int ⟨4, rfl, by decide, by decide +kernel, fun e e0 e1 => plus_i ?_⟩))))
    refine da_nil ⟨_, rfl, Nat.le_of_ble_eq_true rfl, trivial, ⟨2 + a, sc, 3 + l, 1 + g, 1 + e, n0, n1, n2⟩, rfl, ?_⟩
    exact ⟨(by constructor <;> (show _ ≤ _) <;> simp only <;> omega), ⟨sc0, sc1⟩, (by constructor <;> simp only <;> omega), (by constructor <;> simp only <;> omega), (by constructor <;> simp only <;> omega), hz n0 (by simp), hz n1 (by simp), hz n2 (by simp)⟩
theorem plan_ix {es : Env'} {i : Nat} {p : Pl} {k : Int} {x : D} {Q : SV → Prop} (h : es[i]? = some (some (.d p.d))) (ha : atI p.items k = some x) (q : Q (.d x)) : DE K (tOp (rIx K) (tVar i) (tC (.int k))) es Q :=
  de_op (de_var h (de_int (rr_xT ha q)))
theorem plan_c {p : Pl} (h : p.ok) : 1 ≤ p.c ∧ p.c ≤ 600000000000000000000000000000 := by
  obtain ⟨⟨w0, w1⟩, ⟨s0, s1⟩, _⟩ := h
  have e : p.c = p.wide * p.scale := rfl
  have h1 : 1 * 1 ≤ p.wide * p.scale := Int.mul_le_mul (by omega) s0 (by decide) (by omega)
  have h2 : p.wide * p.scale ≤ 6 * 100000000000000000000000000000 := Int.mul_le_mul w1 s1 (by omega) (by decide)
  omega
theorem sem__law_land (lf : LF K Z) (p : Pl) (hp : p.ok) : DS K (rd__law_land K Z) (startE 1 [.d p.d]) { nx := fun _ => SV.d .non = .d (p.pt.o Z.C_Land), rt := fun r => r = .d (p.pt.o Z.C_Land) } := by
  show DS K (rd__law_land K Z) [some (.d p.d)] _
  unfold rd__law_land
  have hc := plan_c hp
  have hp' := hp
  obtain ⟨⟨w0, w1⟩, ⟨s0, s1⟩, _, ⟨g0, g1⟩, ⟨l0, l1⟩, hn, _⟩ := hp'
  refine ds_ret (de_makeN (ix := [0, 1, 3, 4, 2]) (dS := [.d (.tup [])]) (fun N M L H0 H => svt lf.tT_Land_roads .nil) (fun x vs zs => pick_self [0, 1, 3, 4, 2] x _) ?_)
  refine da_cons (de_op (plan_ix rfl rfl (plan_ix rfl rfl (mul_l (by omega) ?_))))
  refine da_cons (de_op (plan_ix rfl rfl (de_int (rr_xL (x := .str p.n0) rfl rfl (da_nil ?_)))))
  refine da_cons (plan_ix rfl rfl (da_cons (plan_ix rfl rfl (da_nil ?_))))
  refine ⟨⟨trivial, trivial, trivial⟩, ⟨trivial, trivial, trivial⟩, rfl, rfl, rfl, ⟨p.pt, rfl, plain_ok (by omega) (hand_ok hn) (by omega) (by omega)⟩, fun ds hd => ?_⟩
  rw [hd p.pt rfl]
  exact ⟨trivial, rfl⟩
theorem sem__law_stretch (lf : LF K Z) (p : Pl) (hp : p.ok) : DS K (rd__law_stretch K Z) (startE 3 [.bag, .d p.d]) { nx := fun _ => ∃ s : Int × Int, SV.d .non = .d (dPair s) ∧ StP p.c s, rt := fun r => ∃ s : Int × Int, r = .d (dPair s) ∧ StP p.c s } := by
  show DS K (rd__law_stretch K Z) [some .bag, some (.d p.d), none] _
  unfold rd__law_stretch
  have hp' := hp
  obtain ⟨⟨w0, w1⟩, ⟨s0, s1⟩, _⟩ := hp'
  refine ds_seq (ds_set (call_take rfl (plan_ix rfl rfl ⟨p.wide, rfl, by omega, log2_small (by omega), fun f f0 f1 => ⟨trivial, ?_⟩⟩)))
  show DS K _ [some .bag, some (.d p.d), some (.d (.int f))] _
  refine ds_ret (de_tup' (da_cons (de_op (de_var rfl (plan_ix rfl rfl (mul_l (by omega) ?_))))))
  refine da_cons (de_op (de_op (de_int (call_take rfl (de_op (plan_ix rfl rfl (de_var rfl (sub_i ⟨_, rfl, by omega, log2_small (by omega), fun d d0 d1 => plus_i ?_⟩))))))))
  refine plan_ix rfl rfl (mul_l (by omega) (da_nil ⟨_, rfl, Nat.le_of_ble_eq_true rfl, trivial, (f * p.scale, (1 + d) * p.scale), rfl, ?_, ?_, ?_⟩))
  · exact Int.mul_nonneg f0 (by omega)
  · have : 1 * 1 ≤ (1 + d) * p.scale := Int.mul_le_mul (by omega) s0 (by decide) (by omega)
    omega
  · show f * p.scale + (1 + d) * p.scale ≤ p.wide * p.scale
    rw [← Int.add_mul]
    exact Int.mul_le_mul_of_nonneg_right (by omega) (by omega)
theorem call_st (p : Pl) (hp : p.ok) {es : Env'} {i j : Nat} {Q : SV → Prop} (h1 : es[i]? = some (some .bag)) (h2 : es[j]? = some (some (.d p.d))) (q : ∀ s, StP p.c s → Q (.d (dPair s))) : DE K (tCall (sp__law_stretch K Z) [] E0 (tCons (tVar i) (tCons (tVar j) tNil))) es Q := by
  refine de_callQ (da_cons (de_var h1 (da_cons (de_var h2 (da_nil ⟨⟨trivial, trivial, trivial⟩, p, rfl, rfl, hp, ?_⟩)))))
  rintro r ⟨s, rfl, hs⟩
  exact q s hs
theorem sem__law_deed (lf : LF K Z) (p : Pl) (hp : p.ok) : DS K (rd__law_deed K Z) (startE 7 [.bag, .d p.d]) { nx := fun _ => ∃ w xs, SV.d .non = .d (.tup (.str w :: xs)) ∧ DeedP p.c w xs, rt := fun r => ∃ w xs, r = .d (.tup (.str w :: xs)) ∧ DeedP p.c w xs } := by
  show DS K (rd__law_deed K Z) [some .bag, some (.d p.d), none, none, none, none, none] _
  unfold rd__law_deed
  have hp' := hp
  obtain ⟨_, _, ⟨l0, l1⟩, _, _, h0, h1, h2⟩ := hp'
  refine ds_seq (ds_par (by decide) (call_take rfl (de_int ⟨9, rfl, by decide, by decide +kernel, fun way y0 y1 => ?_⟩)))
  refine call_take rfl (de_op (plan_ix rfl rfl (de_int (plus_i ⟨_, rfl, by omega, log2_small (by omega), fun day d0 d1 => ⟨trivial, trivial, ?_⟩⟩))))
  show DS K _ [some .bag, some (.d p.d), some (.d (.int way)), some (.d (.int day)), none, none, none] _
  refine ds_seq (ds_set (de_op (plan_ix rfl rfl (call_take rfl (de_int ⟨3, rfl, by decide, by decide +kernel, fun t t0 t1 => ixL_any rfl t0 (by exact t1) (fun x hx => ⟨trivial, ?_⟩)⟩)))))
  obtain ⟨h, rfl, hh⟩ : ∃ h, x = .str h ∧ handOk h := by
    simp only [List.mem_cons, List.not_mem_nil, or_false] at hx
    rcases hx with rfl | rfl | rfl
    · exact ⟨_, rfl, h0⟩
    · exact ⟨_, rfl, h1⟩
    · exact ⟨_, rfl, h2⟩
  show DS K _ [some .bag, some (.d p.d), some (.d (.int way)), some (.d (.int day)), some (.d (.str h)), none, none] _
  refine ds_seq (ds_if (dt_test (de_op (de_var rfl (de_int (lt_i ⟨_, rfl, ?_⟩))))))
  refine ite_b (fun _ => ?_) (fun hw => ds_next ?_)
  · refine ds_ret (de_tup' (da_cons (de_str (da_cons (de_var rfl (da_cons (call_st p hp rfl rfl fun s hs => ?_)))))))
    exact da_cons (de_var rfl (da_nil ⟨_, rfl, Nat.le_of_ble_eq_true rfl, trivial, _, _, rfl, .inl ⟨rfl, day, s, h, rfl, by omega, hs, hh⟩⟩))
  have hw : ¬ way < 2 := of_decide_eq_false hw
  refine ds_seq (ds_par (by decide) (call_st p hp rfl rfl fun s hs => call_st p hp rfl rfl fun s' hs' => ⟨trivial, trivial, ?_⟩))
  show DS K _ [some .bag, some (.d p.d), some (.d (.int way)), some (.d (.int day)), some (.d (.str h)), some (.d (dPair s)), some (.d (dPair s'))] _
  refine ds_seq (ds_if (dt_test (de_op (de_var rfl (de_int (lt_i ⟨_, rfl, ?_⟩))))))
  refine ite_b (fun _ => ?_) (fun hw2 => ds_next ?_)
  · refine ds_ret (de_tup' (da_cons (de_str (da_cons (de_var rfl (da_cons (de_op (de_var rfl (call_take rfl ?_)))))))))
    refine de_op (de_op (plan_ix rfl rfl (de_int (plus_i (de_var rfl (sub_i ⟨_, rfl, by omega, log2_small (by omega), fun e e0 e1 => plus_i ?_⟩))))))
    refine da_cons (de_var rfl (da_cons (de_var rfl (da_cons (de_op (call_take rfl (de_int ⟨3, rfl, by decide, by decide +kernel, fun v v0 v1 => de_int (eq_ii ?_)⟩)))))))
    exact da_nil ⟨_, rfl, Nat.le_of_ble_eq_true rfl, trivial, _, _, rfl, .inr (.inr ⟨rfl, day, day + e, s, s', _, rfl, by omega, hs, hs'⟩)⟩
  have hw2 : ¬ way < 6 := of_decide_eq_false hw2
  refine ds_ret (de_tup' (da_cons (de_op (de_lst' (da_cons (de_str (da_cons (de_str (da_cons (de_str (da_nil ⟨_, rfl, Nat.le_of_ble_eq_true rfl, de_op (de_var rfl (de_int (sub_i ?_)))⟩)))))))))))
  refine ixL_any rfl (by omega) (show way - 6 < ((3 : Nat) : Int) by omega) (fun x hx => ?_)
  obtain ⟨w, rfl, hww⟩ : ∃ w : Str, x = .str w ∧ (w = "grant" ∨ w = "end") := by
    simp only [List.mem_cons, List.not_mem_nil, or_false] at hx
    rcases hx with rfl | rfl | rfl
    · exact ⟨_, rfl, .inl rfl⟩
    · exact ⟨_, rfl, .inl rfl⟩
    · exact ⟨_, rfl, .inr rfl⟩
  refine da_cons (de_var rfl (da_cons (de_var rfl (da_cons (de_var rfl (da_cons (de_var rfl ?_)))))))
  exact da_nil ⟨_, rfl, Nat.le_of_ble_eq_true rfl, trivial, _, _, rfl, .inr (.inl ⟨hww, day, h, s, s', rfl, by omega, hh, hs, hs'⟩)⟩
theorem sem__law_told (lf : LF K Z) (y : Pl × D) (hp : y.1.ok ∧ y.2.plain = true ∧ fineT y.2) : DS K (rd__law_told K Z) (startE 4 [.d y.1.d, .d y.2]) { nx := fun _ => SV.d .non = .d (wrongD y.1.c y.2), rt := fun r => r = .d (wrongD y.1.c y.2) } := by
  obtain ⟨p, x⟩ := y
  obtain ⟨po, hx⟩ := hp
  have po : p.ok := po
  show DS K (rd__law_told K Z) [some (.d p.d), some (.d x), none, none] { nx := fun _ => SV.d .non = .d (wrongD p.c x), rt := fun r => r = .d (wrongD p.c x) }
  unfold rd__law_told
  refine ds_tryE (xp := xpDeed Z p.c x) lf.sf_NoDeed (Nat.le_of_ble_eq_true rfl) (Nat.le_of_ble_eq_true rfl) (by decide) (Nat.le_of_ble_eq_true rfl) (dsx_ret (dex_call (ix := [0, 1]) (dS := []) (fun N M L H0 H => .nil) ?_)) ?_
  · refine da_cons (de_callQ (da_cons (de_var rfl (da_nil ⟨⟨trivial, trivial⟩, p, rfl, rfl, po, ?_⟩))))
    rintro r rfl
    refine da_cons (de_var rfl (da_nil (da_nil ⟨⟨trivial, trivial, trivial⟩, trivial, rfl, rfl, (p.pt, x), rfl, rfl, hx, ?_, fun C f d h => h⟩)))
    rintro r ⟨rfl, e⟩
    refine ⟨trivial, ?_⟩
    have e : wrongD p.c x = .non := e
    show SV.d .non = .d (wrongD p.c x)
    rw [e]
  · rintro C f d ⟨rfl, rfl, rfl, _⟩
    exact ⟨rfl, rfl, rfl⟩
theorem e140' : (2 : Nat) ^ 140 = 1393796574908163946345982392040522594123776 := by decide +kernel
theorem fitI {i : Int} (h : -2000000000000000000000000000000 ≤ i ∧ i ≤ 2000000000000000000000000000000) : Fit 148 0 (.int i) := Fit.int (m := 140) (by rw [e140']; omega) (by decide) (by decide)
theorem okI {i : Int} (h : -2000000000000000000000000000000 ≤ i ∧ i ≤ 2000000000000000000000000000000) : okT (.int i) := ⟨⟨rfl, rfl⟩, (fitI h).mono (by decide) (by decide)⟩
theorem ok2 {i j : Int} (h : -2000000000000000000000000000000 ≤ i ∧ i ≤ 2000000000000000000000000000000) (h' : -2000000000000000000000000000000 ≤ j ∧ j ≤ 2000000000000000000000000000000) : okT (.tup [.int i, .int j]) :=
  ⟨⟨rfl, rfl⟩, (Fit.tup (FitA.cons (fitI h) (FitA.cons (fitI h') FitA.nil))).mono (by decide) (by decide)⟩
theorem okC {x : D} (h1 : x.plain = true) (h2 : ask x) (h3 : x.fine = true ∧ x.wt ≤ 3000 ∧ x.dep ≤ 4) : okT x := ⟨⟨h1, h2⟩, ⟨h3.1, h3.2.1, h3.2.2⟩⟩
theorem strC_no {c a b : Int} (h : ¬ (0 ≤ a ∧ 1 ≤ b ∧ a + b ≤ c)) : strC c (.tup [.int a, .int b]) = false := by
  show (decide (0 ≤ a) && decide (1 ≤ b) && decide (a + b ≤ c)) = false
  cases e : (decide (0 ≤ a) && decide (1 ≤ b) && decide (a + b ≤ c)) with
  | false => rfl
  | true =>
    rw [Bool.and_eq_true, Bool.and_eq_true, decide_eq_true_eq, decide_eq_true_eq, decide_eq_true_eq] at e
    exact absurd ⟨e.1.1, e.1.2, e.2⟩ h
theorem kind_plain {x : D} (h : KindP x) : x.plain = true := by
  rcases h with ⟨b, rfl⟩ | ⟨n, rfl, _⟩ | ⟨z, rfl, _⟩ | ⟨s, rfl⟩ <;> rfl
theorem sem__law_odd (lf : LF K Z) (y : Pl × D) (hp : y.1.ok ∧ KindP y.2) : DS K (rd__law_odd K Z) (startE 5 [.bag, .d y.1.d, .d y.2]) { nx := fun _ => ∃ o, SV.d .non = .d o ∧ okT o ∧ OddP y.1.c y.2 o, rt := fun r => ∃ o, r = .d o ∧ okT o ∧ OddP y.1.c y.2 o } := by
  obtain ⟨p, x⟩ := y
  obtain ⟨po, hx⟩ := hp
  have po : p.ok := po
  have hx : KindP x := hx
  have hpl := kind_plain hx
  have hc := plan_c po
  show DS K (rd__law_odd K Z) [some .bag, some (.d p.d), some (.d x), none, none] { nx := fun _ => ∃ o, SV.d .non = .d o ∧ okT o ∧ OddP p.c x o, rt := fun r => ∃ o, r = .d o ∧ okT o ∧ OddP p.c x o }
  unfold rd__law_odd
  have po' := po
  obtain ⟨⟨w0, w1⟩, _⟩ := po'
  refine ds_seq (ds_set (de_op (plan_ix rfl rfl (plan_ix rfl rfl (mul_l (by omega) ⟨trivial, ?_⟩)))))
  show DS K _ [some .bag, some (.d p.d), some (.d x), some (.d (.int p.c)), none] _
  refine ds_seq (ds_if (dt_B (de_cb (da_cons (de_var rfl (da_cons (de_ty (da_nil (rc_isi hpl (kit_isBool hpl) ⟨_, rfl, ?_⟩)))))))))
  refine ite_b (fun h => ?_) (fun h1 => ds_next ?_)
  · obtain ⟨b, rfl⟩ : ∃ b, x = .bl b := by
      cases x <;> first | exact ⟨_, rfl⟩ | cases h
    refine ds_ret (de_op (de_lst' (da_cons (de_int (da_cons (de_int (da_cons (de_non (da_cons (de_str (da_cons (de_tup' (da_nil ⟨[], rfl, Nat.le_of_ble_eq_true rfl, ?_⟩)))))))))))))
    refine da_nil ⟨_, rfl, Nat.le_of_ble_eq_true rfl, call_take rfl (de_int ⟨5, rfl, by decide, by decide +kernel, fun t t0 t1 => ixL_any rfl t0 (by exact t1) (fun o ho => ⟨trivial, o, rfl, ?_⟩)⟩)⟩
    simp only [List.mem_cons, List.not_mem_nil, or_false] at ho
    rcases ho with rfl | rfl | rfl | rfl | rfl
    · exact ⟨okI (by decide), rfl⟩
    · exact ⟨okI (by decide), rfl⟩
    · exact ⟨okC rfl rfl ⟨by decide +kernel, by decide +kernel, by decide +kernel⟩, rfl⟩
    · exact ⟨okC rfl (show (Str.ofString "leave").length ≤ 1000 by decide +kernel) ⟨by decide +kernel, by decide +kernel, by decide +kernel⟩, rfl⟩
    · exact ⟨okC rfl rfl ⟨by decide +kernel, by decide +kernel, by decide +kernel⟩, rfl⟩
  refine ds_seq (ds_if (dt_B (de_cb (da_cons (de_var rfl (da_cons (de_ty (da_nil (rc_isi hpl (kit_isInt hpl) ⟨_, rfl, ?_⟩)))))))))
  refine ite_b (fun h => ?_) (fun h2 => ds_next ?_)
  · obtain ⟨n, rfl, n0, n1⟩ : ∃ n : Int, x = .int n ∧ 0 ≤ n ∧ n ≤ 100 := by
      rcases hx with ⟨b, rfl⟩ | hx | ⟨z, rfl, _⟩ | ⟨s, rfl⟩
      · cases h1
      · exact hx
      · cases h
      · cases h
    refine ds_ret (de_op (de_lst' (da_cons (de_un (de_int (neg_i (da_cons (de_op (de_op (de_int (de_int (pow_lit (k := 1000000000000000000000000000000) (by decide +kernel) (by decide) (by decide) (by decide) (de_int (plus_i ?_))))))))))))))
    refine da_cons (de_bl (da_cons (de_non (da_cons (de_str (da_cons (de_tup' (da_cons (de_var rfl (da_nil ⟨_, rfl, Nat.le_of_ble_eq_true rfl, ?_⟩))))))))))
    refine da_cons (de_lst' (da_cons (de_var rfl (da_nil ⟨_, rfl, Nat.le_of_ble_eq_true rfl, ?_⟩))))
    refine da_nil ⟨_, rfl, Nat.le_of_ble_eq_true rfl, call_take rfl (de_int ⟨7, rfl, by decide, by decide +kernel, fun t t0 t1 => ixL_any rfl t0 (by exact t1) (fun o ho => ⟨trivial, o, rfl, ?_⟩)⟩)⟩
    simp only [List.mem_cons, List.not_mem_nil, or_false] at ho
    rcases ho with rfl | rfl | rfl | rfl | rfl | rfl | rfl
    · exact ⟨okI (by decide), (by decide +kernel : dayD _ = false)⟩
    · exact ⟨okI (by decide), (by decide +kernel : dayD _ = false)⟩
    · exact ⟨okC rfl rfl ⟨by decide +kernel, by decide +kernel, by decide +kernel⟩, rfl⟩
    · exact ⟨okC rfl rfl ⟨by decide +kernel, by decide +kernel, by decide +kernel⟩, rfl⟩
    · exact ⟨okC rfl (show (Str.ofString "3").length ≤ 1000 by decide +kernel) ⟨by decide +kernel, by decide +kernel, by decide +kernel⟩, rfl⟩
    · exact ⟨⟨⟨rfl, rfl⟩, (Fit.tup (FitA.cons (fitI (by omega)) FitA.nil)).mono (by decide) (by decide)⟩, rfl⟩
    · exact ⟨⟨⟨rfl, rfl⟩, (Fit.lst (FitA.cons (fitI (by omega)) FitA.nil)).mono (by decide) (by decide)⟩, rfl⟩
  refine ds_seq (ds_if (dt_B (de_cb (da_cons (de_var rfl (da_cons (de_ty (da_nil (rc_isi hpl (kit_isStr hpl) ⟨_, rfl, ?_⟩)))))))))
  refine ite_b (fun h => ?_) (fun h3 => ds_next ?_)
  · obtain ⟨z, rfl⟩ : ∃ z, x = .str z := by
      cases x <;> first | exact ⟨_, rfl⟩ | cases h
    refine ds_ret (de_op (de_lst' (da_cons (de_str (da_cons (de_str (da_cons (de_str (da_cons (de_non (da_cons (de_int (da_cons (de_tup' (da_cons (de_str (da_nil ⟨_, rfl, Nat.le_of_ble_eq_true rfl, ?_⟩)))))))))))))))))
    refine da_cons (de_str (da_nil ⟨_, rfl, Nat.le_of_ble_eq_true rfl, call_take rfl (de_int ⟨7, rfl, by decide, by decide +kernel, fun t t0 t1 => ixL_any rfl t0 (by exact t1) (fun o ho => ⟨trivial, o, rfl, ?_⟩)⟩)⟩))
    simp only [List.mem_cons, List.not_mem_nil, or_false] at ho
    rcases ho with rfl | rfl | rfl | rfl | rfl | rfl | rfl
    · exact ⟨okC rfl (show (Str.ofString "").length ≤ 1000 by decide +kernel) ⟨by decide +kernel, by decide +kernel, by decide +kernel⟩, by show handD _ = false; decide +kernel⟩
    · exact ⟨okC rfl (show (Str.ofString "Ann").length ≤ 1000 by decide +kernel) ⟨by decide +kernel, by decide +kernel, by decide +kernel⟩, by show handD _ = false; decide +kernel⟩
    · exact ⟨okC rfl (show (Str.ofString "annannann").length ≤ 1000 by decide +kernel) ⟨by decide +kernel, by decide +kernel, by decide +kernel⟩, by show handD _ = false; decide +kernel⟩
    · exact ⟨okC rfl rfl ⟨by decide +kernel, by decide +kernel, by decide +kernel⟩, rfl⟩
    · exact ⟨okI (by decide), rfl⟩
    · exact ⟨okC rfl rfl ⟨by decide +kernel, by decide +kernel, by decide +kernel⟩, rfl⟩
    · exact ⟨okC rfl (show (Str.ofString "a b").length ≤ 1000 by decide +kernel) ⟨by decide +kernel, by decide +kernel, by decide +kernel⟩, by show handD _ = false; decide +kernel⟩
  obtain ⟨s, rfl⟩ : ∃ s : Int × Int, x = dPair s := by
    rcases hx with ⟨b, rfl⟩ | ⟨n, rfl, _⟩ | ⟨z, rfl, _⟩ | hx
    · cases h1
    · cases h2
    · cases h3
    · exact hx
  refine ds_seq (ds_set ?_)
  repeat walk_at "dl"
  refine plus_l rfl rfl (fun n h => by cases h) (fun n h => by cases h) (Nat.le_of_ble_eq_true rfl) ?_
  refine call_take rfl (de_int ⟨12, rfl, by decide, by decide +kernel, fun t t0 t1 => ixL_any rfl t0 (by exact t1) (fun o ho => ⟨trivial, o, rfl, ?_⟩)⟩)
  simp only [List.cons_append, List.nil_append, List.mem_cons, List.not_mem_nil, or_false] at ho
  rcases ho with rfl | rfl | rfl | rfl | rfl | rfl | rfl | rfl | rfl | rfl | rfl | rfl
  · exact ⟨ok2 (by decide) (by omega), strC_no (by omega)⟩
  · exact ⟨ok2 (by omega) (by decide), strC_no (by omega)⟩
  · exact ⟨ok2 (by omega) (by decide), strC_no (by omega)⟩
  · exact ⟨ok2 (by decide) (by decide), strC_no (by omega)⟩
  · exact ⟨ok2 (by decide) (by decide), strC_no (by omega)⟩
  · exact ⟨okC rfl rfl ⟨by decide +kernel, by decide +kernel, by decide +kernel⟩, rfl⟩
  · exact ⟨okC rfl rfl ⟨by decide +kernel, by decide +kernel, by decide +kernel⟩, rfl⟩
  · exact ⟨okC rfl rfl ⟨by decide +kernel, by decide +kernel, by decide +kernel⟩, rfl⟩
  · exact ⟨okC rfl rfl ⟨by decide +kernel, by decide +kernel, by decide +kernel⟩, rfl⟩
  · exact ⟨okC rfl rfl ⟨by decide +kernel, by decide +kernel, by decide +kernel⟩, rfl⟩
  · exact ⟨okI (by decide), rfl⟩
  · exact ⟨okC rfl rfl ⟨by decide +kernel, by decide +kernel, by decide +kernel⟩, rfl⟩
theorem odd_bad {c : Int} {p : Str} {x a o : D} (h : okPart c p x a = true) (k : KindP x) (ho : OddP c x o) : ∀ a', okPart c p o a' = false := by
  intro a'
  unfold okPart at h ⊢
  by_cases h1 : p = "hand"
  · rw [if_pos h1] at h ⊢
    rcases k with ⟨b, rfl⟩ | ⟨n, rfl, _⟩ | ⟨z, rfl, _⟩ | ⟨s, rfl⟩
    · cases h
    · cases h
    · exact ho
    · cases h
  rw [if_neg h1] at h ⊢
  by_cases h2 : p = "stretch"
  · rw [if_pos h2] at h ⊢
    rcases k with ⟨b, rfl⟩ | ⟨n, rfl, _⟩ | ⟨z, rfl, _⟩ | ⟨s, rfl⟩
    · cases h
    · cases h
    · cases h
    · exact ho
  rw [if_neg h2] at h ⊢
  by_cases h3 : p = "leave"
  · rw [if_pos h3] at h ⊢
    rcases k with ⟨b, rfl⟩ | ⟨n, rfl, _⟩ | ⟨z, rfl, _⟩ | ⟨s, rfl⟩
    · exact ho
    · cases h
    · cases h
    · cases h
  rw [if_neg h3] at h ⊢
  rcases k with ⟨b, rfl⟩ | ⟨n, rfl, _⟩ | ⟨z, rfl, _⟩ | ⟨s, rfl⟩
  · cases h
  · rw [show dayD o = false from ho]
    rfl
  · cases h
  · cases h
def Orig (c : Int) : List Str → D → List D → Prop
  | [], _, [] => True
  | p :: ps, a, x :: xs => (okPart c p x a = true ∧ KindP x ∧ okT x) ∧ Orig c ps x xs
  | _, _, _ => False
def Pt (c : Int) : List Str → List D → List D → List Bool → Prop
  | [], [], [], [] => True
  | p :: ps, x :: xs, t :: ts, m :: ms => ((if m = true then ∀ a, okPart c p t a = false else t = x) ∧ okT t) ∧ Pt c ps xs ts ms
  | _, _, _, _ => False
def firstM : List Bool → Nat → Nat
  | [], n => n
  | true :: _, n => n
  | false :: ms, n => firstM ms (n + 1)
theorem pt_first {c : Int} : ∀ {ps : List Str} {a : D} {xs ts : List D} {ms : List Bool} {n : Nat}, Orig c ps a xs → Pt c ps xs ts ms → firstBad c ps a ts n = if firstM ms n < n + ms.length then some (firstM ms n) else none
  | [], _, [], [], [], n, _, _ => by
    rw [if_neg (by show ¬ n < n + 0; omega)]
    rfl
  | p :: ps, a, x :: xs, t :: ts, true :: ms, n, o, h => by
    have hb := h.1.1 a
    show (if okPart c p t a then firstBad c ps t ts (n + 1) else some n) = if n < n + (ms.length + 1) then some n else none
    rw [hb, if_neg Bool.false_ne_true, if_pos (by omega)]
  | p :: ps, a, x :: xs, t :: ts, false :: ms, n, o, h => by
    have ht : t = x := h.1.1
    subst ht
    show (if okPart c p t a then firstBad c ps t ts (n + 1) else some n) = if firstM ms (n + 1) < n + (ms.length + 1) then some (firstM ms (n + 1)) else none
    rw [o.1.1, if_pos rfl, pt_first o.2 h.2, show n + (ms.length + 1) = n + 1 + ms.length by omega]
  | [], _, _ :: _, _, _, _, o, _ => o.elim
  | _ :: _, _, [], _, _, _, o, _ => o.elim
  | [], _, [], _ :: _, _, _, _, h => h.elim
  | [], _, [], [], _ :: _, _, _, h => h.elim
  | _ :: _, _, _ :: _, [], _, _, _, h => h.elim
  | _ :: _, _, _ :: _, _ :: _, [], _, _, h => h.elim
theorem pt_len {c : Int} : ∀ {ps : List Str} {xs ts : List D} {ms : List Bool}, Pt c ps xs ts ms → xs.length = ps.length ∧ ts.length = ps.length ∧ ms.length = ps.length
  | [], [], [], [], _ => ⟨rfl, rfl, rfl⟩
  | p :: ps, x :: xs, t :: ts, m :: ms, h => by
    have := pt_len h.2
    simp only [List.length_cons]
    omega
  | [], _ :: _, _, _, h => h.elim
  | [], [], _ :: _, _, h => h.elim
  | [], [], [], _ :: _, h => h.elim
  | _ :: _, [], _, _, h => h.elim
  | _ :: _, _ :: _, [], _, h => h.elim
  | _ :: _, _ :: _, _ :: _, [], h => h.elim
theorem pt_ok {c : Int} : ∀ {ps : List Str} {xs ts : List D} {ms : List Bool}, Pt c ps xs ts ms → ∀ t ∈ ts, okT t
  | [], [], [], [], _ => fun t h => by cases h
  | p :: ps, x :: xs, t :: ts, m :: ms, h => fun z hz => by
    rcases List.mem_cons.mp hz with rfl | hz
    · exact h.1.2
    · exact pt_ok h.2 z hz
  | [], _ :: _, _, _, h => h.elim
  | [], [], _ :: _, _, h => h.elim
  | [], [], [], _ :: _, h => h.elim
  | _ :: _, [], _, _, h => h.elim
  | _ :: _, _ :: _, [], _, h => h.elim
  | _ :: _, _ :: _, _ :: _, [], h => h.elim
theorem pt_set {c : Int} {o : D} (ok : okT o) : ∀ {ps : List Str} {xs ts : List D} {ms : List Bool} {i : Nat}, Pt c ps xs ts ms → (∀ p, ps[i]? = some p → ∀ a, okPart c p o a = false) → Pt c ps xs (ts.set i o) (ms.set i true)
  | [], [], [], [], _, _, _ => trivial
  | p :: ps, x :: xs, t :: ts, m :: ms, 0, h, hb => ⟨⟨hb p rfl, ok⟩, h.2⟩
  | p :: ps, x :: xs, t :: ts, m :: ms, i + 1, h, hb => ⟨h.1, pt_set ok h.2 fun q hq => hb q hq⟩
  | [], _ :: _, _, _, _, h, _ => h.elim
  | [], [], _ :: _, _, _, h, _ => h.elim
  | [], [], [], _ :: _, _, h, _ => h.elim
  | _ :: _, [], _, _, _, h, _ => h.elim
  | _ :: _, _ :: _, [], _, _, h, _ => h.elim
  | _ :: _, _ :: _, _ :: _, [], _, h, _ => h.elim
theorem pt_orig {c : Int} : ∀ {ps : List Str} {a : D} {xs : List D}, Orig c ps a xs → Pt c ps xs xs (List.replicate xs.length false)
  | [], _, [], _ => trivial
  | p :: ps, a, x :: xs, o => ⟨⟨rfl, o.1.2.2⟩, pt_orig o.2⟩
  | [], _, _ :: _, o => o.elim
  | _ :: _, _, [], o => o.elim
theorem orig_get {c : Int} : ∀ {ps : List Str} {a : D} {xs : List D} {i : Nat} {x : D}, Orig c ps a xs → xs[i]? = some x → KindP x ∧ ∀ p, ps[i]? = some p → ∃ a', okPart c p x a' = true
  | [], _, [], _, _, _, h => by cases h
  | p :: ps, a, x :: xs, 0, y, o, h => by
    injection h with h
    subst h
    refine ⟨o.1.2.1, fun q hq => ?_⟩
    injection hq with hq
    subst hq
    exact ⟨a, o.1.1⟩
  | p :: ps, a, x :: xs, i + 1, y, o, h => ⟨(orig_get (i := i) o.2 h).1, fun q hq => (orig_get (i := i) o.2 h).2 q hq⟩
  | [], _, _ :: _, _, _, o, _ => o.elim
  | _ :: _, _, [], _, _, o, _ => o.elim
theorem firstM_ge : ∀ {ms : List Bool} {n : Nat}, n ≤ firstM ms n
  | [], n => Nat.le_refl _
  | true :: _, n => Nat.le_refl _
  | false :: ms, n => Nat.le_trans (Nat.le_succ n) (firstM_ge (ms := ms))
theorem firstM_set : ∀ {ms : List Bool} {i n : Nat}, i < ms.length → firstM (ms.set i true) n = min (firstM ms n) (n + i)
  | [], _, _, h => by cases h
  | true :: ms, 0, n, _ => by show n = min n (n + 0); omega
  | true :: ms, i + 1, n, _ => by show n = min n (n + (i + 1)); omega
  | false :: ms, 0, n, _ => by
    have := firstM_ge (ms := ms) (n := n + 1)
    show n = min (firstM ms (n + 1)) (n + 0)
    omega
  | false :: ms, i + 1, n, h => by
    show firstM (ms.set i true) (n + 1) = min (firstM ms (n + 1)) (n + (i + 1))
    rw [firstM_set (Nat.lt_of_succ_lt_succ h)]
    omega
theorem firstM_all : ∀ {k n : Nat}, firstM (List.replicate k false) n = n + k
  | 0, n => rfl
  | k + 1, n => by
    show firstM (List.replicate k false) (n + 1) = n + (k + 1)
    rw [firstM_all]
    omega
theorem op_day {c d : Int} {a : D} (h : 0 ≤ d ∧ d ≤ 100) : okPart c "day" (.int d) a = true := by
  unfold okPart
  rw [if_neg (by decide +kernel), if_neg (by decide +kernel), if_neg (by decide +kernel)]
  show ((decide (0 ≤ d) && decide (d ≤ 1000000000000000000000000000000)) && (decide (("day" : Str) = "day") || leD a (.int d))) = true
  rw [decide_eq_true h.1, decide_eq_true (by omega), decide_eq_true rfl]
  rfl
theorem op_last {c d e : Int} : okPart c "last" (.int e) (.int d) = (dayD (.int e) && decide (d ≤ e)) := by
  unfold okPart
  rw [if_neg (by decide +kernel), if_neg (by decide +kernel), if_neg (by decide +kernel), decide_eq_false (by decide +kernel)]
  rfl
theorem op_str {c : Int} {s : Int × Int} {a : D} (h : StP c s) : okPart c "stretch" (dPair s) a = true := by
  unfold okPart
  rw [if_neg (by decide +kernel), if_pos rfl]
  show (decide (0 ≤ s.1) && decide (1 ≤ s.2) && decide (s.1 + s.2 ≤ c)) = true
  rw [decide_eq_true h.1, decide_eq_true h.2.1, decide_eq_true h.2.2]
  rfl
theorem op_hand {c : Int} {z : Str} {a : D} (h : handOk z) : okPart c "hand" (.str z) a = true := by
  unfold okPart
  rw [if_pos rfl]
  exact (hand_ok h).1
theorem op_leave {c : Int} {b : Bool} {a : D} : okPart c "leave" (.bl b) a = true := by
  unfold okPart
  rw [if_neg (by decide +kernel), if_neg (by decide +kernel), if_pos rfl]
  rfl
theorem day_int {d : Int} (h : 0 ≤ d ∧ d ≤ 100) : dayD (.int d) = true := by
  show (decide (0 ≤ d) && decide (d ≤ 1000000000000000000000000000000)) = true
  rw [decide_eq_true h.1, decide_eq_true (by omega)]
  rfl
theorem okStr {z : Str} (h : handOk z) : okT (.str z) := ⟨⟨rfl, (show z.length ≤ 1000 from Nat.le_trans h.1.2 (by decide))⟩, (Fit.s (m := 8) h.2.1 h.1.2).mono (by decide) (by decide)⟩
theorem okPr {c : Int} {s : Int × Int} (hc : c ≤ 600000000000000000000000000000) (h : StP c s) : okT (dPair s) := by
  obtain ⟨h0, h1, h2⟩ := h
  exact ok2 (by omega) (by omega)
theorem orig_of {c : Int} {w : Str} {xs : List D} (hc : c ≤ 600000000000000000000000000000) (h : DeedP c w xs) : Orig c (partsL w) (.str w) xs := by
  rcases h with ⟨rfl, d, s, z, rfl, hd, hs, hz⟩ | ⟨hw, d, z, s, s', rfl, hd, hz, hs, hs'⟩ | ⟨rfl, d, e, s, s', b, rfl, hd, hs, hs'⟩
  · exact ⟨⟨op_day hd, .inr (.inl ⟨d, rfl, hd⟩), okI (by omega)⟩, ⟨op_str hs, .inr (.inr (.inr ⟨s, rfl⟩)), okPr hc hs⟩, ⟨op_hand hz, .inr (.inr (.inl ⟨z, rfl, hz⟩)), okStr hz⟩, trivial⟩
  · have e : partsL w = [("day" : Str), "hand", "stretch", "stretch"] := by
      rcases hw with rfl | rfl <;> rfl
    rw [e]
    exact ⟨⟨op_day hd, .inr (.inl ⟨d, rfl, hd⟩), okI (by omega)⟩, ⟨op_hand hz, .inr (.inr (.inl ⟨z, rfl, hz⟩)), okStr hz⟩, ⟨op_str hs, .inr (.inr (.inr ⟨s, rfl⟩)), okPr hc hs⟩, ⟨op_str hs', .inr (.inr (.inr ⟨s', rfl⟩)), okPr hc hs'⟩, trivial⟩
  · refine ⟨⟨op_day (by omega), .inr (.inl ⟨d, rfl, by omega⟩), okI (by omega)⟩, ⟨?_, .inr (.inl ⟨e, rfl, by omega⟩), okI (by omega)⟩, ⟨op_str hs, .inr (.inr (.inr ⟨s, rfl⟩)), okPr hc hs⟩, ⟨op_str hs', .inr (.inr (.inr ⟨s', rfl⟩)), okPr hc hs'⟩, ⟨op_leave, .inl ⟨b, rfl⟩, okC rfl rfl ⟨rfl, by show (8 : Nat) ≤ 3000; decide, by show (0 : Nat) ≤ 4; decide⟩⟩, trivial⟩
    rw [op_last, day_int (by omega), decide_eq_true hd.2.1]
    rfl
theorem plainAll_of {ts : List D} (h : ∀ t ∈ ts, okT t) : D.plainAll ts = true := by
  induction ts with
  | nil => rfl
  | cons t ts ih =>
    show (t.plain && D.plainAll ts) = true
    rw [(h t (by simp)).1.1, ih fun z hz => h z (List.mem_cons_of_mem _ hz)]
    rfl
theorem fit_list {ts : List D} (h : ∀ t ∈ ts, okT t) (l : ts.length ≤ 8) : FitA (8 * 3002) 4 ts := FitA.of (n := 3000) (k := 4) (m := 8) (fun d hd => (h d hd).2) l
theorem wrong_zero {c : Int} {w : Str} {ys : List D} (h : partsL w = [] ∨ ys.length ≠ (partsL w).length) : wrongD c (.tup (.str w :: ys)) = .int 0 := by
  show (if partsL w = [] ∨ ys.length ≠ (partsL w).length then D.int 0 else _) = _
  rw [if_pos h]
theorem bent_tup {c due : Int} {w : Str} {ys : List D} (hy : ∀ t ∈ ys, okT t) (l : ys.length ≤ 6) (hw : okT (.str w)) (h : wrongD c (.tup (.str w :: ys)) = .int due) : BentP c (.tup (.str w :: ys)) due := by
  have all : ∀ t ∈ (D.str w :: ys), okT t := fun t ht => by
    rcases List.mem_cons.mp ht with rfl | ht
    · exact hw
    · exact hy t ht
  exact ⟨h, plainAll_of all, ⟨fun x hx => (hy x hx).1, hw.1.2, by omega⟩, (Fit.tup (fit_list all (by rw [List.length_cons]; omega))).mono (by decide) (by decide)⟩
theorem bent_odd {c : Int} {x : D} {ys : List D} (hx : okT x) (hn : isStr x = false) (hy : ∀ t ∈ ys, okT t) (l : ys.length ≤ 6) : BentP c (.tup (x :: ys)) 0 := by
  have all : ∀ t ∈ (x :: ys), okT t := fun t ht => by
    rcases List.mem_cons.mp ht with rfl | ht
    · exact hx
    · exact hy t ht
  have fit := (Fit.tup (fit_list all (by rw [List.length_cons]; omega))).mono (show 8 + 8 * 3002 ≤ 100000 by decide) (show 4 + 1 ≤ 10 by decide)
  have ll : (x :: ys).length ≤ 1000 := by rw [List.length_cons]; omega
  cases x <;> first | exact ⟨rfl, plainAll_of all, ll, fit⟩ | cases hn
theorem word_ok {c : Int} {w : Str} {xs : List D} (h : DeedP c w xs) : okT (.str w) := by
  have k : ∀ z : Str, okS z → z.length ≤ 10 → okT (.str z) := fun z h1 h2 => ⟨⟨rfl, (show z.length ≤ 1000 by omega)⟩, (Fit.s (m := 10) h1 h2).mono (by decide) (by decide)⟩
  rcases h with ⟨rfl, _⟩ | ⟨hw, _⟩ | ⟨rfl, _⟩
  · exact k "sale" (by unfold okS; decide +kernel) (by decide +kernel)
  · rcases hw with rfl | rfl
    · exact k "grant" (by unfold okS; decide +kernel) (by decide +kernel)
    · exact k "end" (by unfold okS; decide +kernel) (by decide +kernel)
  · exact k "use" (by unfold okS; decide +kernel) (by decide +kernel)
theorem deed_len {c : Int} {w : Str} {xs : List D} (h : DeedP c w xs) : partsL w ≠ [] ∧ xs.length = (partsL w).length ∧ 3 ≤ xs.length ∧ xs.length ≤ 5 := by
  rcases h with ⟨rfl, d, s, z, rfl, _⟩ | ⟨hw, d, z, s, s', rfl, _⟩ | ⟨rfl, d, e, s, s', b, rfl, _⟩
  · exact ⟨by decide +kernel, rfl, Nat.le_of_ble_eq_true rfl, Nat.le_of_ble_eq_true rfl⟩
  · rcases hw with rfl | rfl
    · exact ⟨by decide +kernel, rfl, Nat.le_of_ble_eq_true rfl, Nat.le_of_ble_eq_true rfl⟩
    · exact ⟨by decide +kernel, rfl, Nat.le_of_ble_eq_true rfl, Nat.le_of_ble_eq_true rfl⟩
  · exact ⟨by decide +kernel, rfl, Nat.le_of_ble_eq_true rfl, Nat.le_of_ble_eq_true rfl⟩
theorem deed_cut {c : Int} {w : Str} {xs : List D} (h : DeedP c w xs) : cutD (.str w :: xs) none (some (-1)) = .str w :: xs.dropLast ∧ cutD (.str w :: xs) (some 1) none = xs := by
  rcases h with ⟨rfl, d, s, z, rfl, _⟩ | ⟨hw, d, z, s, s', rfl, _⟩ | ⟨rfl, d, e, s, s', b, rfl, _⟩
  · exact ⟨rfl, rfl⟩
  · exact ⟨rfl, rfl⟩
  · exact ⟨rfl, rfl⟩
theorem sales_ok : okT (.str ("sales" : Str)) := okC rfl (show (Str.ofString "sales").length ≤ 1000 by decide +kernel) ⟨by decide +kernel, by decide +kernel, by decide +kernel⟩
theorem empty_ok : okT (.str ("" : Str)) := okC rfl (show (Str.ofString "").length ≤ 1000 by decide +kernel) ⟨by decide +kernel, by decide +kernel, by decide +kernel⟩
theorem orig_ok {c : Int} {ps : List Str} {a : D} {xs : List D} (h : Orig c ps a xs) : ∀ t ∈ xs, okT t := pt_ok (pt_orig h)
theorem sem__law_bent (lf : LF K Z) (y : DX) (hp : y.p.ok ∧ DeedP y.p.c y.w y.xs) : DS K (rd__law_bent K Z) (startE 9 [.bag, .d y.p.d, .d (.tup (.str y.w :: y.xs))]) { nx := fun _ => ∃ bent due, SV.d .non = .d (.tup [bent, .int due]) ∧ BentP y.p.c bent due, rt := fun r => ∃ bent due, r = .d (.tup [bent, .int due]) ∧ BentP y.p.c bent due } := by
  obtain ⟨p, w, xs⟩ := y
  obtain ⟨po, hd⟩ := hp
  have po : p.ok := po
  have hd : DeedP p.c w xs := hd
  have hc := plan_c po
  have ho := orig_of hc.2 hd
  have hok := orig_ok ho
  have hwk := word_ok hd
  obtain ⟨hne, hlen, l3, l5⟩ := deed_len hd
  obtain ⟨cut1, cut2'⟩ := deed_cut hd
  have hdeed : BentP p.c (.tup (.str w :: xs)) 0 ∨ True := .inr trivial
  have all : ∀ t ∈ (D.str w :: xs), okT t := fun t ht => by
    rcases List.mem_cons.mp ht with rfl | ht
    · exact hwk
    · exact hok t ht
  have fitA := fit_list all (by rw [List.length_cons]; omega)
  have hpl : D.plainAll (.str w :: xs) = true := plainAll_of all
  show DS K (rd__law_bent K Z) [some .bag, some (.d p.d), some (.d (.tup (.str w :: xs))), none, none, none, none, none, none] { nx := fun _ => ∃ bent due, SV.d .non = .d (.tup [bent, .int due]) ∧ BentP p.c bent due, rt := fun r => ∃ bent due, r = .d (.tup [bent, .int due]) ∧ BentP p.c bent due }
  unfold rd__law_bent
  refine ds_seq (ds_par (by decide) (call_take rfl (de_int ⟨8, rfl, by decide, by decide +kernel, fun way y0 y1 => ?_⟩)))
  refine de_cb (da_cons (de_var rfl (da_nil (list_t ⟨trivial, trivial, ?_⟩))))
  show DS K _ [some .bag, some (.d p.d), some (.d (.tup (.str w :: xs))), some (.d (.int way)), some (.own (.str w :: xs)), none, none, none, none] _
  refine ds_seq (ds_if (dt_test (de_op (de_var rfl (de_int (eq_ii ⟨_, rfl, ?_⟩))))))
  refine ite_b (fun _ => ?_) (fun _ => ds_next ?_)
  · refine ds_seq (ds_set (de_lst' (da_cons (de_op (de_var rfl (de_tup' (da_cons (de_int (da_nil ⟨_, rfl, Nat.le_of_ble_eq_true rfl, plus_t ?_ ?_⟩)))))))))
    · show (xs.length + 1) + 1 ≤ 100000
      omega
    refine da_cons (de_sl (de_var rfl (do_none (do_some (de_un (de_int (neg_i ⟨_, rfl, sl_t ?_⟩)))))))
    rw [cut1]
    refine da_cons (de_cb (da_cons (de_var rfl (da_nil (list_t ?_)))))
    refine da_cons (de_op (de_tup' (da_cons (de_str (da_nil ⟨_, rfl, Nat.le_of_ble_eq_true rfl, de_sl (de_var rfl (do_some (de_int ⟨_, rfl, do_none (sl_t ?_)⟩)))⟩)))))
    rw [cut2']
    refine plus_t (show 1 + xs.length ≤ 100000 by omega) ?_
    refine da_cons (de_tup' (da_cons (de_var rfl (da_nil ⟨_, rfl, Nat.le_of_ble_eq_true rfl, ?_⟩))))
    refine da_cons (de_op (de_tup' (da_cons (de_str (da_nil ⟨_, rfl, Nat.le_of_ble_eq_true rfl, de_sl (de_var rfl (do_some (de_int ⟨_, rfl, do_none (sl_t ?_)⟩)))⟩)))))
    rw [cut2']
    refine plus_t (show 1 + xs.length ≤ 100000 by omega) ?_
    refine da_nil ⟨_, rfl, Nat.le_of_ble_eq_true rfl, trivial, ?_⟩
    refine ds_ret (de_tup' (da_cons (de_op (de_var rfl (call_take rfl (de_int ⟨6, rfl, by decide, by decide +kernel, fun t t0 t1 => ixL_any rfl t0 (by exact t1) (fun x hx => ?_)⟩))))))
    refine da_cons (de_int (da_nil ⟨_, rfl, Nat.le_of_ble_eq_true rfl, trivial, x, 0, rfl, ?_⟩))
    simp only [List.mem_cons, List.not_mem_nil, or_false] at hx
    rcases hx with rfl | rfl | rfl | rfl | rfl | rfl
    · refine bent_tup (ys := xs ++ [.int 0]) (fun t ht => ?_) (by rw [List.length_append]; show xs.length + 1 ≤ 6; omega) hwk (wrong_zero (.inr (by rw [List.length_append]; show xs.length + 1 ≠ _; omega)))
      rcases List.mem_append.mp ht with h | h
      · exact hok t h
      · rw [List.mem_singleton.mp h]
        exact okI (by decide)
    · exact bent_tup (fun t ht => hok t (List.dropLast_subset xs ht)) (by rw [List.length_dropLast]; omega) hwk (wrong_zero (.inr (by rw [List.length_dropLast]; omega)))
    · exact ⟨rfl, hpl, trivial, (Fit.lst fitA).mono (by decide) (by decide)⟩
    · exact bent_tup (ys := xs) hok (by omega) sales_ok (wrong_zero (.inl (by decide +kernel)))
    · refine ⟨rfl, ?_, (show 1 ≤ 1000 by decide), (Fit.tup (FitA.cons (Fit.tup fitA) FitA.nil)).mono (by decide) (by decide)⟩
      show (D.plainAll (.str w :: xs) && true) = true
      rw [hpl]
      rfl
    · exact bent_tup (ys := xs) hok (by omega) empty_ok (wrong_zero (.inl (by decide +kernel)))
  refine ds_seq (ds_if (dt_test (de_op (de_var rfl (de_int (eq_ii ⟨_, rfl, ?_⟩))))))
  refine ite_b (fun _ => ?_) (fun _ => ds_next ?_)
  · refine ds_seq (ds_set (de_lst' (da_cons (de_tup' (da_nil ⟨[], rfl, Nat.le_of_ble_eq_true rfl, ?_⟩)))))
    refine da_cons (de_non (da_cons (de_str (da_cons (de_int (da_cons (de_bl (da_cons (de_lst' (da_nil ⟨[], rfl, Nat.le_of_ble_eq_true rfl, ?_⟩))))))))))
    refine da_cons (de_op (de_tup' (da_cons (de_non (da_nil ⟨_, rfl, Nat.le_of_ble_eq_true rfl, de_sl (de_var rfl (do_some (de_int ⟨_, rfl, do_none (sl_t ?_)⟩)))⟩)))))
    rw [cut2']
    refine plus_t (show 1 + xs.length ≤ 100000 by omega) ?_
    refine da_cons (de_tup' (da_cons (de_tup' (da_cons (de_str (da_nil ⟨_, rfl, Nat.le_of_ble_eq_true rfl, ?_⟩))))))
    refine da_nil ⟨_, rfl, Nat.le_of_ble_eq_true rfl, ?_⟩
    refine da_cons (de_op (de_tup' (da_cons (de_int (da_nil ⟨_, rfl, Nat.le_of_ble_eq_true rfl, de_sl (de_var rfl (do_some (de_int ⟨_, rfl, do_none (sl_t ?_)⟩)))⟩)))))
    rw [cut2']
    refine plus_t (show 1 + xs.length ≤ 100000 by omega) ?_
    refine da_nil ⟨_, rfl, Nat.le_of_ble_eq_true rfl, trivial, ?_⟩
    refine ds_ret (de_tup' (da_cons (de_op (de_var rfl (call_take rfl (de_int ⟨9, rfl, by decide, by decide +kernel, fun t t0 t1 => ixL_any rfl t0 (by exact t1) (fun x hx => ?_)⟩))))))
    refine da_cons (de_int (da_nil ⟨_, rfl, Nat.le_of_ble_eq_true rfl, trivial, x, 0, rfl, ?_⟩))
    simp only [List.mem_cons, List.not_mem_nil, or_false] at hx
    rcases hx with rfl | rfl | rfl | rfl | rfl | rfl | rfl | rfl | rfl
    · exact ⟨rfl, rfl, (show 0 ≤ 1000 by decide), ⟨by decide +kernel, by decide +kernel, by decide +kernel⟩⟩
    · exact ⟨rfl, rfl, trivial, ⟨by decide +kernel, by decide +kernel, by decide +kernel⟩⟩
    · exact ⟨rfl, rfl, trivial, ⟨by decide +kernel, by decide +kernel, by decide +kernel⟩⟩
    · exact ⟨rfl, rfl, trivial, ⟨by decide +kernel, by decide +kernel, by decide +kernel⟩⟩
    · exact ⟨rfl, rfl, trivial, ⟨by decide +kernel, by decide +kernel, by decide +kernel⟩⟩
    · exact ⟨rfl, rfl, trivial, ⟨by decide +kernel, by decide +kernel, by decide +kernel⟩⟩
    · exact bent_odd (ys := xs) (okC rfl rfl ⟨by decide +kernel, by decide +kernel, by decide +kernel⟩) rfl hok (by omega)
    · exact ⟨rfl, rfl, (show 1 ≤ 1000 by decide), ⟨by decide +kernel, by decide +kernel, by decide +kernel⟩⟩
    · exact bent_odd (ys := xs) (okI (by decide)) rfl hok (by omega)
  obtain ⟨x0, hx0, d0, hd0, hd0'⟩ : ∃ x0, xs[0]? = some x0 ∧ ∃ d : Int, x0 = .int d ∧ (0 ≤ d ∧ d ≤ 100) := by
    rcases hd with ⟨rfl, d, s, z, rfl, h, _⟩ | ⟨hw, d, z, s, s', rfl, h, _⟩ | ⟨rfl, d, e, s, s', b, rfl, h, _⟩
    · exact ⟨_, rfl, d, rfl, h⟩
    · exact ⟨_, rfl, d, rfl, h⟩
    · exact ⟨_, rfl, d, rfl, by omega⟩
  subst hd0
  have at1 : atI (D.str w :: xs) 1 = some (.int d0) := atI_nat (i := 1) hx0
  refine ds_seq (ds_if (DT.mono (Q := fun b => b = true → w = "use" ∧ 0 < d0) ?_ ?_))
  · refine dt_and (dt_test (de_op (de_var rfl (de_int (eq_ii ⟨_, rfl, ?_⟩)))))
    refine ite_b (fun _ => ?_) (fun _ h => by cases h)
    refine dt_and (dt_test (de_op (de_op (de_var rfl (de_int (rr_xT (x := .str w) (at_0 _ _) (de_str (eq_ss ⟨_, rfl, ?_⟩))))))))
    refine ite_b (fun hu => ?_) (fun _ h => by cases h)
    refine dt_test (de_op (de_op (de_var rfl (de_int (rr_xT (x := .int d0) at1 (de_int (gt_i ⟨_, rfl, fun h => ?_⟩)))))))
    exact ⟨of_decide_eq_true hu, of_decide_eq_true h⟩
  rintro b hb
  refine ite_b (fun h => ?_) (fun _ => ds_next ?_)
  · obtain ⟨rfl, hpos⟩ := hb h
    obtain ⟨d, e, s, s', b2, rfl, hde, hs, hs'⟩ : ∃ (d e : Int) (s s' : Int × Int) (b : Bool), xs = [.int d, .int e, dPair s, dPair s', .bl b] ∧ (0 ≤ d ∧ d ≤ e ∧ e ≤ 100) ∧ StP p.c s ∧ StP p.c s' := by
      rcases hd with ⟨h, _⟩ | ⟨h, _⟩ | ⟨_, h⟩
      · exact absurd h (by decide +kernel)
      · rcases h with h | h <;> exact absurd h (by decide +kernel)
      · exact h
    cases hx0
    refine ds_ret (de_tup' (da_cons (de_op (de_op (de_sl (de_var rfl (do_none (do_some (de_int ⟨_, rfl, sl_t ?_⟩)))))))))
    refine de_tup' (da_cons (de_op (de_op (de_var rfl (de_int (rr_xT (x := .int d0) rfl ?_))))))
    refine de_int (sub_i (da_nil ⟨_, rfl, Nat.le_of_ble_eq_true rfl, plus_t (Nat.le_of_ble_eq_true rfl) ?_⟩))
    refine de_sl (de_var rfl (do_some (de_int ⟨_, rfl, do_none (sl_t (plus_t (Nat.le_of_ble_eq_true rfl) ?_))⟩)))
    refine da_cons (de_int (da_nil ⟨_, rfl, Nat.le_of_ble_eq_true rfl, trivial, .tup [.str "use", .int d0, .int (d0 - 1), dPair s, dPair s', .bl b2], 2, rfl, ?_⟩))
    refine bent_tup (fun t ht => ?_) (Nat.le_of_ble_eq_true rfl) hwk ?_
    · simp only [List.mem_cons, List.not_mem_nil, or_false] at ht
      rcases ht with rfl | rfl | rfl | rfl | rfl
      · exact okI (by omega)
      · exact okI (by omega)
      · exact okPr hc.2 hs
      · exact okPr hc.2 hs'
      · exact hok _ (by simp)
    · show (match (if okPart p.c "day" (.int d0) (.str "use") then (if okPart p.c "last" (.int (d0 - 1)) (.int d0) then firstBad p.c ["stretch", "stretch", "leave"] (.int (d0 - 1)) [dPair s, dPair s', .bl b2] 3 else some 2) else some 1) with | none => D.non | some n => .int n) = .int 2
      rw [op_day hd0', if_pos rfl, op_last, decide_eq_false (by omega), Bool.and_false, if_neg Bool.false_ne_true]
      rfl
  refine ds_seq (ds_set (de_cb (da_cons (de_var rfl (da_nil (len_x (n := xs.length + 1) rfl rfl ⟨trivial, ?_⟩))))))
  show DS K _ [some .bag, some (.d p.d), some (.d (.tup (.str w :: xs))), some (.d (.int way)), some (.own (.str w :: xs)), none, some (.d (.int ((xs.length + 1 : Nat) : Int))), none, none] _
  refine ds_seq (ds_for1 (da_cons (de_op (de_int (call_take rfl (de_int ⟨2, rfl, by decide, by decide +kernel, fun m m0 m1 => plus_i ?_⟩))))))
  refine da_nil ⟨1 + m, rfl, by omega, by omega, fun i e => ∃ (ts : List D) (ms : List Bool) (a b : Option SV), e = [some .bag, some (.d p.d), some (.d (.tup (.str w :: xs))), some (.d (.int way)), some (.own (.str w :: ts)), none, some (.d (.int ((firstM ms 1 : Nat) : Int))), a, b] ∧ Pt p.c (partsL w) xs ts ms ∧ (1 ≤ i → firstM ms 1 < 1 + ms.length), ⟨xs, List.replicate xs.length false, none, none, ?_, pt_orig ho, fun h => absurd h (by decide)⟩, ?_, ?_⟩
  · rw [firstM_all]
    rw [show 1 + xs.length = xs.length + 1 by omega]
  · rintro i _ hi ⟨ts, ms, a, b, rfl, hpt, hfm⟩
    obtain ⟨e1, e2, e3⟩ := pt_len hpt
    show DS K _ [some .bag, some (.d p.d), some (.d (.tup (.str w :: xs))), some (.d (.int way)), some (.own (.str w :: ts)), none, some (.d (.int ((firstM ms 1 : Nat) : Int))), some (.d (.int i)), b] _
    refine ds_seq (ds_set (de_op (de_int (call_take rfl (de_op (de_cb (da_cons (de_var rfl (da_nil (len_x (n := xs.length + 1) rfl rfl (de_int (sub_i ⟨_, rfl, by omega, log2_small (by omega), fun j j0 j1 => plus_i ⟨trivial, ?_⟩⟩))))))))))))
    obtain ⟨j, rfl⟩ : ∃ j' : Nat, j = (j' : Int) := ⟨j.toNat, by omega⟩
    have jl : j < xs.length := by omega
    obtain ⟨x, hx⟩ : ∃ x, xs[j]? = some x := ⟨xs[j], List.getElem?_eq_getElem jl⟩
    obtain ⟨hk, hpp⟩ := orig_get ho hx
    show DS K _ [some .bag, some (.d p.d), some (.d (.tup (.str w :: xs))), some (.d (.int way)), some (.own (.str w :: ts)), none, some (.d (.int ((firstM ms 1 : Nat) : Int))), some (.d (.int i)), some (.d (.int (1 + j)))] _
    have ej : (1 : Int) + j = ((j + 1 : Nat) : Int) := by omega
    rw [ej]
    refine ds_seq (ds_put (i := 4) rfl (de_callQ (da_cons (de_var rfl (da_cons (de_var rfl (da_cons (de_op (de_var rfl (de_var rfl (rr_xT (x := x) (atI_nat (i := j + 1) hx) ?_)))))))))))
    refine da_nil ⟨⟨trivial, trivial, trivial, trivial⟩, (p, x), rfl, rfl, ⟨po, hk⟩, ?_⟩
    rintro r ⟨o, rfl, hoo, hodd⟩
    refine ⟨o, rfl, de_var rfl ⟨_, j + 1, rfl, ixN_nat (by rw [List.length_cons]; omega), ?_⟩⟩
    have hb : ∀ q, (partsL w)[j]? = some q → ∀ a, okPart p.c q o a = false := fun q hq => by
      obtain ⟨a', h'⟩ := hpp q hq
      exact odd_bad h' hk hodd
    have hpt' := pt_set hoo (i := j) hpt hb
    have hfs := firstM_set (ms := ms) (i := j) (n := 1) (by omega)
    show DS K _ [some .bag, some (.d p.d), some (.d (.tup (.str w :: xs))), some (.d (.int way)), some (.own (.str w :: ts.set j o)), none, some (.d (.int ((firstM ms 1 : Nat) : Int))), some (.d (.int i)), some (.d (.int ((j + 1 : Nat) : Int)))] _
    refine ds_set (de_cb (da_cons (de_var rfl (da_cons (de_var rfl (da_nil (min_x ⟨trivial, ?_⟩)))))))
    refine ⟨ts.set j o, ms.set j true, some (.d (.int i)), some (.d (.int ((j + 1 : Nat) : Int))), ?_, hpt', fun _ => by rw [hfs, List.length_set]; omega⟩
    have ef : (if ((j + 1 : Nat) : Int) < ((firstM ms 1 : Nat) : Int) then ((j + 1 : Nat) : Int) else ((firstM ms 1 : Nat) : Int)) = ((firstM (ms.set j true) 1 : Nat) : Int) := by
      rw [hfs]
      split <;> omega
    rw [← ef]
    rfl
  · rintro _ ⟨ts, ms, a, b, rfl, hpt, hfm⟩
    obtain ⟨e1, e2, e3⟩ := pt_len hpt
    have hf := hfm (by omega)
    show DS K _ [some .bag, some (.d p.d), some (.d (.tup (.str w :: xs))), some (.d (.int way)), some (.own (.str w :: ts)), none, some (.d (.int ((firstM ms 1 : Nat) : Int))), a, b] _
    refine ds_ret (de_tup' (da_cons (de_cb (da_cons (de_var rfl (da_nil (tuple_x rfl ?_)))))))
    refine da_cons (de_var rfl (da_nil ⟨_, rfl, Nat.le_of_ble_eq_true rfl, trivial, .tup (.str w :: ts), _, rfl, bent_tup (pt_ok hpt) (by omega) hwk ?_⟩))
    show (if partsL w = [] ∨ ts.length ≠ (partsL w).length then D.int 0 else match firstBad p.c (partsL w) (.str w) ts 1 with | none => D.non | some n => .int n) = _
    rw [if_neg (by rintro (h | h); exact hne h; exact h e2), pt_first ho hpt, if_pos hf]
theorem deed_none {c : Int} {w : Str} {xs : List D} (hc : c ≤ 600000000000000000000000000000) (h : DeedP c w xs) : wrongD c (.tup (.str w :: xs)) = .non ∧ D.plain (.tup (.str w :: xs)) = true ∧ fineT (.tup (.str w :: xs)) ∧ Fit 100000 10 (.tup (.str w :: xs)) := by
  have ho := orig_of hc h
  obtain ⟨hne, hlen, l3, l5⟩ := deed_len h
  have hok := orig_ok ho
  have hwk := word_ok h
  have all : ∀ t ∈ (D.str w :: xs), okT t := fun t ht => by
    rcases List.mem_cons.mp ht with rfl | ht
    · exact hwk
    · exact hok t ht
  refine ⟨?_, plainAll_of all, ⟨fun x hx => (hok x hx).1, hwk.1.2, by omega⟩, (Fit.tup (fit_list all (by rw [List.length_cons]; omega))).mono (by decide) (by decide)⟩
  show (if partsL w = [] ∨ xs.length ≠ (partsL w).length then D.int 0 else match firstBad c (partsL w) (.str w) xs 1 with | none => D.non | some n => .int n) = _
  rw [if_neg (by rintro (h | h); exact hne h; exact h hlen), pt_first ho (pt_orig ho), firstM_all, List.length_replicate, if_neg (by omega)]
def edgeD : D := .tup [.str "use", .int 0, .int 1000000000000000000000000000000, .tup [.int 0, .int 2], .tup [.int 0, .int 1], .bl false]
theorem edge_none : wrongD 2 edgeD = .non := by
  have h : (wrongD 2 edgeD).isNon = true := by decide +kernel
  generalize wrongD 2 edgeD = z at h
  cases z <;> first | rfl | (cases h; done)
theorem edge_fine : fineT edgeD := by
  refine ⟨fun x hx => ?_, by decide +kernel, Nat.le_of_ble_eq_true rfl⟩
  simp only [List.mem_cons, List.not_mem_nil, or_false] at hx
  rcases hx with rfl | rfl | rfl | rfl | rfl <;> exact ⟨rfl, rfl⟩
theorem sem_law (lf : LF K Z) (ss : List SV) (hp : ∃ ns : List Int, ss = [.scr ns] ∧ ns.length ≤ 63) : DS K (rd_law K Z) (startE 10 ss) { nx := fun _ => SV.d .non = .d (.bl true), rt := fun r => r = .d (.bl true) } := by
  obtain ⟨ns, rfl, hn⟩ := hp
  show DS K (rd_law K Z) [some (.scr ns), none, none, none, none, none, none, none, none, none] _
  unfold rd_law
  refine ds_seq (ds_for1 ?_)
  repeat walk_at "dl"
  refine ⟨by split <;> (try split) <;> omega, by rw [List.length_map]; split <;> (try split) <;> omega, fun _ e => ∃ a b c d f g h i j : Option SV, e = [some (.scr ns), a, b, c, d, f, g, h, i, j], ⟨_, _, _, _, _, _, _, _, _, rfl⟩, ?_, ?_⟩
  · rintro i0 _ hi ⟨a, b, c, d, f, g, h, i, j, rfl⟩
    have hi' : i0 < 64 := by
      rw [List.length_map] at hi
      split at hi <;> (try split at hi) <;> omega
    show DS K _ [some (.scr ns), some (.d (.int i0)), b, c, d, f, g, h, i, j] _
    refine ds_seq (ds_set (call_bag hi' rfl rfl fun gg mm => ⟨trivial, ?_⟩))
    refine ds_tobag (i := 2) rfl ?_
    show DS K _ [some (.scr ns), some (.d (.int i0)), some .bag, c, d, f, g, h, i, j] _
    refine ds_seq (ds_set (de_callQ (da_cons (de_var rfl (da_nil ⟨⟨trivial, trivial⟩, (), rfl, rfl, trivial, ?_⟩)))))
    rintro r ⟨p, rfl, po⟩
    refine ⟨trivial, ?_⟩
    show DS K _ [some (.scr ns), some (.d (.int i0)), some .bag, some (.d p.d), d, f, g, h, i, j] _
    have hc := plan_c po
    refine ds_for1 ?_
    repeat walk_at "dl"
    refine ⟨by decide, by decide, fun _ e => ∃ d f g h i j : Option SV, e = [some (.scr ns), some (.d (.int i0)), some .bag, some (.d p.d), d, f, g, h, i, j], ⟨_, _, _, _, _, _, rfl⟩, ?_, ?_⟩
    · rintro i1 _ h1 ⟨d, f, g, h, i, j, rfl⟩
      show DS K _ [some (.scr ns), some (.d (.int i0)), some .bag, some (.d p.d), some (.d (.int i1)), f, g, h, i, j] _
      refine ds_seq (ds_set (de_callQ (da_cons (de_var rfl (da_cons (de_var rfl (da_nil ⟨⟨trivial, trivial, trivial⟩, p, rfl, rfl, po, ?_⟩)))))))
      rintro r ⟨w, xs, rfl, hd⟩
      refine ⟨trivial, ?_⟩
      have hdn : wrongD p.c (.tup (.str w :: xs)) = .non ∧ D.plain (.tup (.str w :: xs)) = true ∧ fineT (.tup (.str w :: xs)) ∧ Fit 100000 10 (.tup (.str w :: xs)) := deed_none hc.2 hd
      show DS K _ [some (.scr ns), some (.d (.int i0)), some .bag, some (.d p.d), some (.d (.int i1)), some (.d (.tup (.str w :: xs))), g, h, i, j] _
      refine ds_seq (ds_unp (de_callQ (da_cons (de_var rfl (da_cons (de_var rfl (da_cons (de_var rfl (da_nil ⟨⟨trivial, trivial, trivial, trivial⟩, ⟨p, w, xs⟩, rfl, rfl, ⟨po, hd⟩, ?_⟩)))))))))
      rintro r ⟨bent, due, rfl, hw, hpl, hft, hfit⟩
      refine ⟨_, _, rfl, dg_tup rfl (dgs_cons (dg_name (dgs_cons (dg_name (dgs_nil ?_)))))⟩
      show DS K _ [some (.scr ns), some (.d (.int i0)), some .bag, some (.d p.d), some (.d (.int i1)), some (.d (.tup (.str w :: xs))), some (.d bent), some (.d (.int due)), i, j] _
      have fit2 : Fit 1000000 20 (.tup [.tup (.str w :: xs), bent]) := (Fit.tup (FitA.cons hdn.2.2.2 (FitA.cons hfit FitA.nil))).mono (by decide) (by decide)
      refine ds_seq (ds_set (de_cb (da_cons (de_tup' (da_cons (de_var rfl (da_cons (de_var rfl (da_nil ⟨_, rfl, Nat.le_of_ble_eq_true rfl, da_nil (rc_repr rfl fit2 (by decide) (by decide) ⟨trivial, ?_⟩)⟩)))))))))
      generalize hz : (D.tup [.tup (.str w :: xs), bent]).shown = z
      show DS K _ [some (.scr ns), some (.d (.int i0)), some .bag, some (.d p.d), some (.d (.int i1)), some (.d (.tup (.str w :: xs))), some (.d bent), some (.d (.int due)), some (.d (.str z)), j] _
      refine ds_if (dt_or (dt_test (de_op (de_callQ (da_cons (de_var rfl (da_cons (de_var rfl (da_nil ⟨⟨trivial, trivial, trivial⟩, (p, .tup (.str w :: xs)), rfl, rfl, ⟨po, hdn.2.1, hdn.2.2.1⟩, ?_⟩)))))))))
      rintro r rfl
      rw [show wrongD p.c (.tup (.str w :: xs)) = .non from hdn.1]
      refine de_non (isnot_n ⟨_, rfl, ?_⟩)
      refine ite_b (fun h => by cases h) (fun _ => ?_)
      refine dt_or (dt_test (de_op (de_callQ (da_cons (de_var rfl (da_cons (de_var rfl (da_nil ⟨⟨trivial, trivial, trivial⟩, (p, bent), rfl, rfl, ⟨po, hpl, hft⟩, ?_⟩))))))))
      rintro r rfl
      rw [show wrongD p.c bent = .int due from hw]
      refine de_var rfl (ne_ii ⟨_, rfl, ?_⟩)
      refine ite_b (fun h => by simp at h) (fun _ => ?_)
      refine dt_test (de_op (de_cb (da_cons (de_tup' (da_cons (de_var rfl (da_cons (de_var rfl (da_nil ⟨_, rfl, Nat.le_of_ble_eq_true rfl, da_nil (rc_repr rfl fit2 (by decide) (by decide) ?_)⟩))))))))) 
      rw [hz]
      refine de_var rfl (ne_ss ⟨_, rfl, ?_⟩)
      exact ite_b (fun h => by simp at h) (fun _ => ds_next ⟨_, _, _, _, _, _, rfl⟩)
    · rintro _ ⟨d, f, g, h, i, j, rfl⟩
      exact ⟨_, _, _, _, _, _, _, _, _, rfl⟩
  · rintro _ ⟨a, b, c, d, f, g, h, i, j, rfl⟩
    show DS K _ [some (.scr ns), a, b, c, d, f, g, h, i, j] _
    refine ds_seq (ds_set (de_tup' (da_cons (de_str (da_cons (de_int (da_cons (de_op (de_int (de_int (pow_lit (k := 1000000000000000000000000000000) (by decide +kernel) (by decide) (by decide) (by decide) ?_)))))))))))
    refine da_cons (de_tup' (da_cons (de_int (da_cons (de_int (da_nil ⟨_, rfl, Nat.le_of_ble_eq_true rfl, ?_⟩))))))
    refine da_cons (de_tup' (da_cons (de_int (da_cons (de_int (da_nil ⟨_, rfl, Nat.le_of_ble_eq_true rfl, ?_⟩))))))
    refine da_cons (de_bl (da_nil ⟨_, rfl, Nat.le_of_ble_eq_true rfl, trivial, ?_⟩))
    show DS K _ [some (.scr ns), a, b, c, d, f, g, h, i, some (.d edgeD)] _
    have xno : ∀ C f d, xpDeed Z (plainPT 2 20 20 "a").c edgeD C f d → False := fun C f d ⟨_, _, e, hn⟩ => hn (e.trans edge_none)
    refine ds_ret (de_andV (de_op (de_ofX (dex_call (ix := [0, 1]) (dS := []) (fun N M L H0 H => .nil) ?_))))
    refine da_cons (de_land0 lf (by decide) aLand ?_)
    refine da_cons (de_var rfl (da_nil (da_nil ⟨⟨trivial, trivial, trivial⟩, trivial, rfl, rfl, (plainPT 2 20 20 "a", edgeD), rfl, rfl, ⟨rfl, edge_fine⟩, ?_, xno⟩)))
    rintro r ⟨rfl, _⟩
    refine de_non (is_n ⟨_, rfl, ?_⟩)
    refine ite_b (fun _ => ?_) (fun h => by cases h)
    refine de_op (de_ofX (dex_call (ix := [1, 0]) (dS := []) (fun N M L H0 H => .nil) ?_))
    refine da_nil (da_cons (de_var rfl (da_cons (de_land0 lf (by decide) aLand ?_))))
    refine da_nil ⟨trivial, ⟨trivial, trivial, trivial⟩, rfl, rfl, (plainPT 2 20 20 "a", edgeD), rfl, rfl, ⟨rfl, edge_fine⟩, ?_, xno⟩
    rintro r ⟨rfl, _⟩
    exact de_non (is_n ⟨trivial, rfl⟩)
end
theorem law_end {K : PySem.W.Frag} {H : Hp} {a : Addr} {ns : List Int} (hl : ns.length ≤ 63) (ho : Only H) (hS : SqL K H a (ns.map V.int)) : sp_law K [.ref a] H (fun v _ => v = .bl true) E0 :=
  DL.law_end ho hS ⟨ns, rfl, hl⟩ fun r h => h

def topS (i : Nat) : Stmt := PySem.Challenge.pw_oldways_k07_deeds_vetted.main.body.getD i (.Pass ⟨0, 0, 0, 0⟩)
abbrev s_is_whole : Stmt := (topS 1)
abbrev s_is_stretch : Stmt := (topS 13)
abbrev s_least : Stmt := (topS 14)
abbrev s_both : Stmt := (topS 15)
abbrev s__end : Stmt := (topS 16)
abbrev s_is_hand : Stmt := (topS 22)
abbrev s_Land___init__ : Stmt := (inClass (topS 23) 0)
abbrev s_Land_cells : Stmt := (inClass (topS 23) 1)
abbrev s_Land_hand : Stmt := (inClass (topS 23) 2)
abbrev s_Land_grow : Stmt := (inClass (topS 23) 3)
abbrev s_Land_lapse : Stmt := (inClass (topS 23) 4)
abbrev s_Land_roads : Stmt := (inClass (topS 23) 5)
abbrev s_Land___eq__ : Stmt := (inClass (topS 23) 6)
abbrev s_Land___repr__ : Stmt := (inClass (topS 23) 7)
abbrev s__is_amount : Stmt := (topS 24)
abbrev s__are_roads : Stmt := (topS 25)
abbrev s_look_deed : Stmt := (topS 29)
abbrev s_parts_of : Stmt := (topS 30)
abbrev s_is_day : Stmt := (topS 31)
abbrev s__wrong_part : Stmt := (topS 32)
abbrev s__is_part : Stmt := (topS 33)
abbrev s__law_bag : Stmt := (topS 35)
abbrev s__law_take : Stmt := (topS 36)
abbrev s__law_names : Stmt := (topS 37)
abbrev s__law_plan : Stmt := (topS 38)
abbrev s__law_land : Stmt := (topS 39)
abbrev s__law_stretch : Stmt := (topS 40)
abbrev s__law_deed : Stmt := (topS 41)
abbrev s__law_odd : Stmt := (topS 42)
abbrev s__law_bent : Stmt := (topS 43)
abbrev s__law_told : Stmt := (topS 44)
abbrev s_law : Stmt := (topS 45)
abbrev se_NoDeed : Stmt := (inClass (topS 5) 0)
theorem sce_NoDeed : FnScope ["self", "number"] ["self", "number"] (defScope se_NoDeed) := ⟨rfl, rfl, rfl, by decide +kernel, rfl, by decide +kernel, by decide +kernel⟩
theorem sc_is_whole : FnScope ["thing"] ["thing"] (defScope s_is_whole) := ⟨rfl, rfl, rfl, by decide +kernel, rfl, by decide +kernel, by decide +kernel⟩
theorem sc_is_stretch : FnScope ["thing", "first", "many"] ["thing"] (defScope s_is_stretch) := ⟨rfl, rfl, rfl, by decide +kernel, rfl, by decide +kernel, by decide +kernel⟩
theorem sc_least : FnScope ["stretches", "runs", "first", "many", "end"] ["stretches"] (defScope s_least) := ⟨rfl, rfl, rfl, by decide +kernel, rfl, by decide +kernel, by decide +kernel⟩
theorem sc_both : FnScope ["one", "other", "left", "right", "shared", "at", "by", "first", "left_end", "right_end", "end"] ["one", "other"] (defScope s_both) := ⟨rfl, rfl, rfl, by decide +kernel, rfl, by decide +kernel, by decide +kernel⟩
theorem sc__end : FnScope ["stretch", "first", "many"] ["stretch"] (defScope s__end) := ⟨rfl, rfl, rfl, by decide +kernel, rfl, by decide +kernel, by decide +kernel⟩
theorem sc_is_hand : FnScope ["thing", "sign"] ["thing"] (defScope s_is_hand) := ⟨rfl, rfl, rfl, by decide +kernel, rfl, by decide +kernel, by decide +kernel⟩
theorem sc_Land___init__ : FnScope ["self", "cells", "hand", "grow", "lapse", "roads"] ["self", "cells", "hand", "grow", "lapse", "roads"] (defScope s_Land___init__) := ⟨rfl, rfl, rfl, by decide +kernel, rfl, by decide +kernel, by decide +kernel⟩
theorem sc_Land_cells : FnScope ["self"] ["self"] (defScope s_Land_cells) := ⟨rfl, rfl, rfl, by decide +kernel, rfl, by decide +kernel, by decide +kernel⟩
theorem sc_Land_hand : FnScope ["self"] ["self"] (defScope s_Land_hand) := ⟨rfl, rfl, rfl, by decide +kernel, rfl, by decide +kernel, by decide +kernel⟩
theorem sc_Land_grow : FnScope ["self"] ["self"] (defScope s_Land_grow) := ⟨rfl, rfl, rfl, by decide +kernel, rfl, by decide +kernel, by decide +kernel⟩
theorem sc_Land_lapse : FnScope ["self"] ["self"] (defScope s_Land_lapse) := ⟨rfl, rfl, rfl, by decide +kernel, rfl, by decide +kernel, by decide +kernel⟩
theorem sc_Land_roads : FnScope ["self"] ["self"] (defScope s_Land_roads) := ⟨rfl, rfl, rfl, by decide +kernel, rfl, by decide +kernel, by decide +kernel⟩
theorem sc_Land___eq__ : FnScope ["self", "other"] ["self", "other"] (defScope s_Land___eq__) := ⟨rfl, rfl, rfl, by decide +kernel, rfl, by decide +kernel, by decide +kernel⟩
theorem sc_Land___repr__ : FnScope ["self"] ["self"] (defScope s_Land___repr__) := ⟨rfl, rfl, rfl, by decide +kernel, rfl, by decide +kernel, by decide +kernel⟩
theorem sc__is_amount : FnScope ["thing", "most"] ["thing", "most"] (defScope s__is_amount) := ⟨rfl, rfl, rfl, by decide +kernel, rfl, by decide +kernel, by decide +kernel⟩
theorem sc__are_roads : FnScope ["thing", "cells", "roads", "road"] ["thing", "cells"] (defScope s__are_roads) := ⟨rfl, rfl, rfl, by decide +kernel, rfl, by decide +kernel, by decide +kernel⟩
theorem sc_look_deed : FnScope ["land", "thing", "number"] ["land", "thing"] (defScope s_look_deed) := ⟨rfl, rfl, rfl, by decide +kernel, rfl, by decide +kernel, by decide +kernel⟩
theorem sc_parts_of : FnScope ["word"] ["word"] (defScope s_parts_of) := ⟨rfl, rfl, rfl, by decide +kernel, rfl, by decide +kernel, by decide +kernel⟩
theorem sc_is_day : FnScope ["thing"] ["thing"] (defScope s_is_day) := ⟨rfl, rfl, rfl, by decide +kernel, rfl, by decide +kernel, by decide +kernel⟩
theorem sc__wrong_part : FnScope ["land", "thing", "parts", "number", "part"] ["land", "thing"] (defScope s__wrong_part) := ⟨rfl, rfl, rfl, by decide +kernel, rfl, by decide +kernel, by decide +kernel⟩
theorem sc__is_part : FnScope ["land", "part", "thing", "ahead"] ["land", "part", "thing", "ahead"] (defScope s__is_part) := ⟨rfl, rfl, rfl, by decide +kernel, rfl, by decide +kernel, by decide +kernel⟩
theorem sc__law_bag : FnScope ["script", "at", "primes", "cell", "great", "mixed"] ["script", "at"] (defScope s__law_bag) := ⟨rfl, rfl, rfl, by decide +kernel, rfl, by decide +kernel, by decide +kernel⟩
theorem sc__law_take : FnScope ["bag", "size", "digit"] ["bag", "size"] (defScope s__law_take) := ⟨rfl, rfl, rfl, by decide +kernel, rfl, by decide +kernel, by decide +kernel⟩
theorem sc__law_names : FnScope ["bag", "size", "signs", "stem", "spot", "first", "pace", "some", "k", "sign"] ["bag", "size"] (defScope s__law_names) := ⟨rfl, rfl, rfl, by decide +kernel, rfl, by decide +kernel, by decide +kernel⟩
theorem sc__law_plan : FnScope ["bag", "wide", "scale", "names", "last"] ["bag"] (defScope s__law_plan) := ⟨rfl, rfl, rfl, by decide +kernel, rfl, by decide +kernel, by decide +kernel⟩
theorem sc__law_land : FnScope ["plan"] ["plan"] (defScope s__law_land) := ⟨rfl, rfl, rfl, by decide +kernel, rfl, by decide +kernel, by decide +kernel⟩
theorem sc__law_stretch : FnScope ["bag", "plan", "first"] ["bag", "plan"] (defScope s__law_stretch) := ⟨rfl, rfl, rfl, by decide +kernel, rfl, by decide +kernel, by decide +kernel⟩
theorem sc__law_deed : FnScope ["bag", "plan", "way", "day", "hand", "froms", "overs"] ["bag", "plan"] (defScope s__law_deed) := ⟨rfl, rfl, rfl, by decide +kernel, rfl, by decide +kernel, by decide +kernel⟩
theorem sc__law_odd : FnScope ["bag", "plan", "part", "cells", "beyond"] ["bag", "plan", "part"] (defScope s__law_odd) := ⟨rfl, rfl, rfl, by decide +kernel, rfl, by decide +kernel, by decide +kernel⟩
theorem sc__law_bent : FnScope ["bag", "plan", "deed", "way", "parts", "some", "least_at", "turn", "at"] ["bag", "plan", "deed"] (defScope s__law_bent) := ⟨rfl, rfl, rfl, by decide +kernel, rfl, by decide +kernel, by decide +kernel⟩
theorem sc__law_told : FnScope ["plan", "made", "e", "others"] ["plan", "made"] (defScope s__law_told) := ⟨rfl, rfl, rfl, by decide +kernel, rfl, by decide +kernel, by decide +kernel⟩
theorem sc_law : FnScope ["script", "k", "bag", "plan", "turn", "deed", "bent", "due", "text", "edge"] ["script"] (defScope s_law) := ⟨rfl, rfl, rfl, by decide +kernel, rfl, by decide +kernel, by decide +kernel⟩
structure Txt (K : PySem.W.Frag) (mg : Str → Option Value) (Z : CS) (f_is_whole f_is_stretch f_least f_both f__end f_is_hand f_Land___init__ f_Land_cells f_Land_hand f_Land_grow f_Land_lapse f_Land_roads f_Land___eq__ f_Land___repr__ f__is_amount f__are_roads f_look_deed f_parts_of f_is_day f__wrong_part f__is_part f__law_bag f__law_take f__law_names f__law_plan f__law_land f__law_stretch f__law_deed f__law_odd f__law_bent f__law_told f_law fe_NoDeed : Addr) (d_is_whole d_is_stretch d_least d_both d__end d_is_hand d_Land___init__ d_Land_cells d_Land_hand d_Land_grow d_Land_lapse d_Land_roads d_Land___eq__ d_Land___repr__ d__is_amount d__are_roads d_look_deed d_parts_of d_is_day d__wrong_part d__is_part d__law_bag d__law_take d__law_names d__law_plan d__law_land d__law_stretch d__law_deed d__law_odd d__law_bent d__law_told d_law de_NoDeed : FuncData) : Prop where
  F_is_whole : Fun K "is_whole" "is_whole" s_is_whole f_is_whole d_is_whole
  g_is_whole : mg "is_whole" = some (.ref f_is_whole)
  b_is_whole : Binds K d_is_whole ["thing"] []
  F_is_stretch : Fun K "is_stretch" "is_stretch" s_is_stretch f_is_stretch d_is_stretch
  g_is_stretch : mg "is_stretch" = some (.ref f_is_stretch)
  b_is_stretch : Binds K d_is_stretch ["thing"] []
  F_least : Fun K "least" "least" s_least f_least d_least
  g_least : mg "least" = some (.ref f_least)
  b_least : Binds K d_least ["stretches"] []
  F_both : Fun K "both" "both" s_both f_both d_both
  g_both : mg "both" = some (.ref f_both)
  b_both : Binds K d_both ["one", "other"] []
  F__end : Fun K "_end" "_end" s__end f__end d__end
  g__end : mg "_end" = some (.ref f__end)
  b__end : Binds K d__end ["stretch"] []
  F_is_hand : Fun K "is_hand" "is_hand" s_is_hand f_is_hand d_is_hand
  g_is_hand : mg "is_hand" = some (.ref f_is_hand)
  b_is_hand : Binds K d_is_hand ["thing"] []
  F_Land___init__ : FunD K "__init__" "Land.__init__" (defArgs s_Land___init__) (defBody s_Land___init__) (defScope s_Land___init__) [] [("grow", .int 20), ("lapse", .int 20), ("roads", .ref Z.T_Land_roads)] f_Land___init__ d_Land___init__
  e_Land___init__ : PySem.W.findIn K (.ref Z.C_Land) "__init__" = some (some (.ref f_Land___init__))
  i_Land___init__ : PySem.W.isFn K (.ref f_Land___init__) = true
  F_Land_cells : Fun K "cells" "Land.cells" s_Land_cells f_Land_cells d_Land_cells
  e_Land_cells : PySem.W.findIn K (.ref Z.C_Land) "cells" = some (some (.ref f_Land_cells))
  i_Land_cells : PySem.W.isFn K (.ref f_Land_cells) = true
  b_Land_cells : Binds K d_Land_cells ["self"] []
  F_Land_hand : Fun K "hand" "Land.hand" s_Land_hand f_Land_hand d_Land_hand
  e_Land_hand : PySem.W.findIn K (.ref Z.C_Land) "hand" = some (some (.ref f_Land_hand))
  i_Land_hand : PySem.W.isFn K (.ref f_Land_hand) = true
  b_Land_hand : Binds K d_Land_hand ["self"] []
  F_Land_grow : Fun K "grow" "Land.grow" s_Land_grow f_Land_grow d_Land_grow
  e_Land_grow : PySem.W.findIn K (.ref Z.C_Land) "grow" = some (some (.ref f_Land_grow))
  i_Land_grow : PySem.W.isFn K (.ref f_Land_grow) = true
  b_Land_grow : Binds K d_Land_grow ["self"] []
  F_Land_lapse : Fun K "lapse" "Land.lapse" s_Land_lapse f_Land_lapse d_Land_lapse
  e_Land_lapse : PySem.W.findIn K (.ref Z.C_Land) "lapse" = some (some (.ref f_Land_lapse))
  i_Land_lapse : PySem.W.isFn K (.ref f_Land_lapse) = true
  b_Land_lapse : Binds K d_Land_lapse ["self"] []
  F_Land_roads : Fun K "roads" "Land.roads" s_Land_roads f_Land_roads d_Land_roads
  e_Land_roads : PySem.W.findIn K (.ref Z.C_Land) "roads" = some (some (.ref f_Land_roads))
  i_Land_roads : PySem.W.isFn K (.ref f_Land_roads) = true
  b_Land_roads : Binds K d_Land_roads ["self"] []
  F_Land___eq__ : Fun K "__eq__" "Land.__eq__" s_Land___eq__ f_Land___eq__ d_Land___eq__
  e_Land___eq__ : PySem.W.findIn K (.ref Z.C_Land) "__eq__" = some (some (.ref f_Land___eq__))
  i_Land___eq__ : PySem.W.isFn K (.ref f_Land___eq__) = true
  b_Land___eq__ : Binds K d_Land___eq__ ["self", "other"] []
  F_Land___repr__ : Fun K "__repr__" "Land.__repr__" s_Land___repr__ f_Land___repr__ d_Land___repr__
  e_Land___repr__ : PySem.W.findIn K (.ref Z.C_Land) "__repr__" = some (some (.ref f_Land___repr__))
  i_Land___repr__ : PySem.W.isFn K (.ref f_Land___repr__) = true
  b_Land___repr__ : Binds K d_Land___repr__ ["self"] []
  F__is_amount : Fun K "_is_amount" "_is_amount" s__is_amount f__is_amount d__is_amount
  g__is_amount : mg "_is_amount" = some (.ref f__is_amount)
  b__is_amount : Binds K d__is_amount ["thing", "most"] []
  F__are_roads : Fun K "_are_roads" "_are_roads" s__are_roads f__are_roads d__are_roads
  g__are_roads : mg "_are_roads" = some (.ref f__are_roads)
  b__are_roads : Binds K d__are_roads ["thing", "cells"] []
  F_look_deed : Fun K "look_deed" "look_deed" s_look_deed f_look_deed d_look_deed
  g_look_deed : mg "look_deed" = some (.ref f_look_deed)
  b_look_deed : Binds K d_look_deed ["land", "thing"] []
  F_parts_of : Fun K "parts_of" "parts_of" s_parts_of f_parts_of d_parts_of
  g_parts_of : mg "parts_of" = some (.ref f_parts_of)
  b_parts_of : Binds K d_parts_of ["word"] []
  F_is_day : Fun K "is_day" "is_day" s_is_day f_is_day d_is_day
  g_is_day : mg "is_day" = some (.ref f_is_day)
  b_is_day : Binds K d_is_day ["thing"] []
  F__wrong_part : Fun K "_wrong_part" "_wrong_part" s__wrong_part f__wrong_part d__wrong_part
  g__wrong_part : mg "_wrong_part" = some (.ref f__wrong_part)
  b__wrong_part : Binds K d__wrong_part ["land", "thing"] []
  F__is_part : Fun K "_is_part" "_is_part" s__is_part f__is_part d__is_part
  g__is_part : mg "_is_part" = some (.ref f__is_part)
  b__is_part : Binds K d__is_part ["land", "part", "thing", "ahead"] []
  F__law_bag : Fun K "_law_bag" "_law_bag" s__law_bag f__law_bag d__law_bag
  g__law_bag : mg "_law_bag" = some (.ref f__law_bag)
  b__law_bag : Binds K d__law_bag ["script", "at"] []
  F__law_take : Fun K "_law_take" "_law_take" s__law_take f__law_take d__law_take
  g__law_take : mg "_law_take" = some (.ref f__law_take)
  b__law_take : Binds K d__law_take ["bag", "size"] []
  F__law_names : Fun K "_law_names" "_law_names" s__law_names f__law_names d__law_names
  g__law_names : mg "_law_names" = some (.ref f__law_names)
  b__law_names : Binds K d__law_names ["bag", "size"] []
  F__law_plan : Fun K "_law_plan" "_law_plan" s__law_plan f__law_plan d__law_plan
  g__law_plan : mg "_law_plan" = some (.ref f__law_plan)
  b__law_plan : Binds K d__law_plan ["bag"] []
  F__law_land : Fun K "_law_land" "_law_land" s__law_land f__law_land d__law_land
  g__law_land : mg "_law_land" = some (.ref f__law_land)
  b__law_land : Binds K d__law_land ["plan"] []
  F__law_stretch : Fun K "_law_stretch" "_law_stretch" s__law_stretch f__law_stretch d__law_stretch
  g__law_stretch : mg "_law_stretch" = some (.ref f__law_stretch)
  b__law_stretch : Binds K d__law_stretch ["bag", "plan"] []
  F__law_deed : Fun K "_law_deed" "_law_deed" s__law_deed f__law_deed d__law_deed
  g__law_deed : mg "_law_deed" = some (.ref f__law_deed)
  b__law_deed : Binds K d__law_deed ["bag", "plan"] []
  F__law_odd : Fun K "_law_odd" "_law_odd" s__law_odd f__law_odd d__law_odd
  g__law_odd : mg "_law_odd" = some (.ref f__law_odd)
  b__law_odd : Binds K d__law_odd ["bag", "plan", "part"] []
  F__law_bent : Fun K "_law_bent" "_law_bent" s__law_bent f__law_bent d__law_bent
  g__law_bent : mg "_law_bent" = some (.ref f__law_bent)
  b__law_bent : Binds K d__law_bent ["bag", "plan", "deed"] []
  F__law_told : Fun K "_law_told" "_law_told" s__law_told f__law_told d__law_told
  g__law_told : mg "_law_told" = some (.ref f__law_told)
  b__law_told : Binds K d__law_told ["plan", "made"] []
  F_law : Fun K "law" "law" s_law f_law d_law
  g_law : mg "law" = some (.ref f_law)
  b_law : Binds K d_law ["script"] []
  lf : LF K Z
  gC_Land : mg "Land" = some (.ref Z.C_Land)
  mk_Land : Mk K Z.C_Land f_Land___init__
  gC_NoLand : mg "NoLand" = some (.ref Z.C_NoLand)
  gC_NoDeed : mg "NoDeed" = some (.ref Z.C_NoDeed)
  gC_NoText : mg "NoText" = some (.ref Z.C_NoText)
  gC_NoCell : mg "NoCell" = some (.ref Z.C_NoCell)
  gC_NoDay : mg "NoDay" = some (.ref Z.C_NoDay)
  gC_NoHand : mg "NoHand" = some (.ref Z.C_NoHand)
  gC_TooMany : mg "TooMany" = some (.ref Z.C_TooMany)
  gC_Unlike : mg "Unlike" = some (.ref Z.C_Unlike)
  er_NoDeed : ErrC K mg "NoDeed" Z.C_NoDeed fe_NoDeed "number"
  xf_NoDeed : XfC K Z.C_NoDeed
  Fe_NoDeed : Fun K "__init__" "NoDeed.__init__" se_NoDeed fe_NoDeed de_NoDeed
  be_NoDeed : Binds K de_NoDeed ["self", "number"] []
  kd_PARTS : KDict K Z.A_PARTS [("sale", .ref Z.A_PARTS_0), ("grant", .ref Z.A_PARTS_1), ("end", .ref Z.A_PARTS_2), ("use", .ref Z.A_PARTS_3)]
  mg_PARTS : mg "PARTS" = some (.ref Z.A_PARTS)
  z_int : mg "int" = none
  z_isinstance : mg "isinstance" = none
  z_bool : mg "bool" = none
  z_tuple : mg "tuple" = none
  z_len : mg "len" = none
  z_sorted : mg "sorted" = none
  z_max : mg "max" = none
  z_min : mg "min" = none
  z_str : mg "str" = none
  z_all : mg "all" = none
  z_list : mg "list" = none
  z_enumerate : mg "enumerate" = none
  z_abs : mg "abs" = none
  z_range : mg "range" = none
  z_ValueError : mg "ValueError" = none
  z_repr : mg "repr" = none
  c_MOST_CELLS : ∃ t : Tok, mg "MOST_CELLS" = some (.int 1000000000000000000000000000000 t)
  c_MOST_DAYS : ∃ t : Tok, mg "MOST_DAYS" = some (.int 1000000000000 t)
  c_MOST_ROADS : ∃ t : Tok, mg "MOST_ROADS" = some (.int 8 t)
  c_MOST_LETTERS : ∃ t : Tok, mg "MOST_LETTERS" = some (.int 8 t)
  c_LAST_DAY : ∃ t : Tok, mg "LAST_DAY" = some (.int 1000000000000000000000000000000 t)
section
variable {P : Program} {w : World} {K : PySem.W.Frag} {mg : Str → Option Value} {base : Heap} {Z : CS} {f_is_whole f_is_stretch f_least f_both f__end f_is_hand f_Land___init__ f_Land_cells f_Land_hand f_Land_grow f_Land_lapse f_Land_roads f_Land___eq__ f_Land___repr__ f__is_amount f__are_roads f_look_deed f_parts_of f_is_day f__wrong_part f__is_part f__law_bag f__law_take f__law_names f__law_plan f__law_land f__law_stretch f__law_deed f__law_odd f__law_bent f__law_told f_law fe_NoDeed : Addr} {d_is_whole d_is_stretch d_least d_both d__end d_is_hand d_Land___init__ d_Land_cells d_Land_hand d_Land_grow d_Land_lapse d_Land_roads d_Land___eq__ d_Land___repr__ d__is_amount d__are_roads d_look_deed d_parts_of d_is_day d__wrong_part d__is_part d__law_bag d__law_take d__law_names d__law_plan d__law_land d__law_stretch d__law_deed d__law_odd d__law_bent d__law_told d_law de_NoDeed : FuncData}
theorem kb_Land___init___2_grow_lapse (T : Txt K mg Z f_is_whole f_is_stretch f_least f_both f__end f_is_hand f_Land___init__ f_Land_cells f_Land_hand f_Land_grow f_Land_lapse f_Land_roads f_Land___eq__ f_Land___repr__ f__is_amount f__are_roads f_look_deed f_parts_of f_is_day f__wrong_part f__is_part f__law_bag f__law_take f__law_names f__law_plan f__law_land f__law_stretch f__law_deed f__law_odd f__law_bent f__law_told f_law fe_NoDeed d_is_whole d_is_stretch d_least d_both d__end d_is_hand d_Land___init__ d_Land_cells d_Land_hand d_Land_grow d_Land_lapse d_Land_roads d_Land___eq__ d_Land___repr__ d__is_amount d__are_roads d_look_deed d_parts_of d_is_day d__wrong_part d__is_part d__law_bag d__law_take d__law_names d__law_plan d__law_land d__law_stretch d__law_deed d__law_odd d__law_bent d__law_told d_law de_NoDeed) : ∃ mv : List Value, KBn K d_Land___init__ ["self", "cells", "hand", "grow", "lapse", "roads"] 3 ["grow", "lapse"] (fun us ws => pick [0, 1, 2, 4, 5, 3] (us ++ mv ++ ws)) (fun vs zs => pick [0, 1, 2, 4, 5, 3] (vs ++ [.ref Z.T_Land_roads] ++ zs)) :=
  T.F_Land___init__.kbinds0 3 ["grow", "lapse"] [("roads", .ref Z.T_Land_roads)] (fun us mv ws => pick [0, 1, 2, 4, 5, 3] (us ++ mv ++ ws)) (by simp) (by simp) (fun r1 r2 r3 => Vals.pick ((r1.append r2).append r3) _) fun D doc pm an cdv ct us mv ws l1 l2 l3 => match us, l1, mv, l2, ws, l3 with
    | [_, _, _], _, [_], _, [_, _], _ => ⟨_, _, _, _, _, _, rfl, rfl, rfl⟩
theorem kb_look_deed_2 (T : Txt K mg Z f_is_whole f_is_stretch f_least f_both f__end f_is_hand f_Land___init__ f_Land_cells f_Land_hand f_Land_grow f_Land_lapse f_Land_roads f_Land___eq__ f_Land___repr__ f__is_amount f__are_roads f_look_deed f_parts_of f_is_day f__wrong_part f__is_part f__law_bag f__law_take f__law_names f__law_plan f__law_land f__law_stretch f__law_deed f__law_odd f__law_bent f__law_told f_law fe_NoDeed d_is_whole d_is_stretch d_least d_both d__end d_is_hand d_Land___init__ d_Land_cells d_Land_hand d_Land_grow d_Land_lapse d_Land_roads d_Land___eq__ d_Land___repr__ d__is_amount d__are_roads d_look_deed d_parts_of d_is_day d__wrong_part d__is_part d__law_bag d__law_take d__law_names d__law_plan d__law_land d__law_stretch d__law_deed d__law_odd d__law_bent d__law_told d_law de_NoDeed) : ∃ _z : Unit, KBn K d_look_deed ["land", "thing"] 2 [] (fun us ws => pick [0, 1] (us ++ [] ++ ws)) (fun vs zs => pick [0, 1] (vs ++ [] ++ zs)) := by
  obtain ⟨oc, od, kV, doc, pm, an, cdv, ct, osl, rfl, lk, hcd⟩ := T.F_look_deed.ex
  refine ⟨(), fun s us ws X l1 l2 => .of_eq ?_, fun r1 r2 => Vals.pick ((r1.append .nil).append r2) _⟩
  match us, l1, ws, l2 with
  | [_, _], _, [], _ => rfl
theorem kb_Land___init___2 (T : Txt K mg Z f_is_whole f_is_stretch f_least f_both f__end f_is_hand f_Land___init__ f_Land_cells f_Land_hand f_Land_grow f_Land_lapse f_Land_roads f_Land___eq__ f_Land___repr__ f__is_amount f__are_roads f_look_deed f_parts_of f_is_day f__wrong_part f__is_part f__law_bag f__law_take f__law_names f__law_plan f__law_land f__law_stretch f__law_deed f__law_odd f__law_bent f__law_told f_law fe_NoDeed d_is_whole d_is_stretch d_least d_both d__end d_is_hand d_Land___init__ d_Land_cells d_Land_hand d_Land_grow d_Land_lapse d_Land_roads d_Land___eq__ d_Land___repr__ d__is_amount d__are_roads d_look_deed d_parts_of d_is_day d__wrong_part d__is_part d__law_bag d__law_take d__law_names d__law_plan d__law_land d__law_stretch d__law_deed d__law_odd d__law_bent d__law_told d_law de_NoDeed) : ∃ mv : List Value, KBn K d_Land___init__ ["self", "cells", "hand", "grow", "lapse", "roads"] 3 [] (fun us ws => pick [0, 1, 2, 3, 4, 5] (us ++ mv ++ ws)) (fun vs zs => pick [0, 1, 2, 3, 4, 5] (vs ++ [.int 20, .int 20, .ref Z.T_Land_roads] ++ zs)) :=
  T.F_Land___init__.kbinds0 3 [] [("grow", .int 20), ("lapse", .int 20), ("roads", .ref Z.T_Land_roads)] (fun us mv ws => pick [0, 1, 2, 3, 4, 5] (us ++ mv ++ ws)) (by simp) (by simp) (fun r1 r2 r3 => Vals.pick ((r1.append r2).append r3) _) fun D doc pm an cdv ct us mv ws l1 l2 l3 => match us, l1, mv, l2, ws, l3 with
    | [_, _, _], _, [_, _, _], _, [], _ => ⟨_, _, _, _, _, _, rfl, rfl, ⟨_, _, _, _, _, _, rfl, rfl, ⟨_, _, _, _, _, _, rfl, rfl, rfl⟩⟩⟩
theorem kb_look_deed_0_thing_land (T : Txt K mg Z f_is_whole f_is_stretch f_least f_both f__end f_is_hand f_Land___init__ f_Land_cells f_Land_hand f_Land_grow f_Land_lapse f_Land_roads f_Land___eq__ f_Land___repr__ f__is_amount f__are_roads f_look_deed f_parts_of f_is_day f__wrong_part f__is_part f__law_bag f__law_take f__law_names f__law_plan f__law_land f__law_stretch f__law_deed f__law_odd f__law_bent f__law_told f_law fe_NoDeed d_is_whole d_is_stretch d_least d_both d__end d_is_hand d_Land___init__ d_Land_cells d_Land_hand d_Land_grow d_Land_lapse d_Land_roads d_Land___eq__ d_Land___repr__ d__is_amount d__are_roads d_look_deed d_parts_of d_is_day d__wrong_part d__is_part d__law_bag d__law_take d__law_names d__law_plan d__law_land d__law_stretch d__law_deed d__law_odd d__law_bent d__law_told d_law de_NoDeed) : ∃ _z : Unit, KBn K d_look_deed ["land", "thing"] 0 ["thing", "land"] (fun us ws => pick [1, 0] (us ++ [] ++ ws)) (fun vs zs => pick [1, 0] (vs ++ [] ++ zs)) := by
  obtain ⟨oc, od, kV, doc, pm, an, cdv, ct, osl, rfl, lk, hcd⟩ := T.F_look_deed.ex
  refine ⟨(), fun s us ws X l1 l2 => .of_eq ?_, fun r1 r2 => Vals.pick ((r1.append .nil).append r2) _⟩
  match us, l1, ws, l2 with
  | [], _, [_, _], _ => rfl
theorem oke_NoDeed (T : Txt K mg Z f_is_whole f_is_stretch f_least f_both f__end f_is_hand f_Land___init__ f_Land_cells f_Land_hand f_Land_grow f_Land_lapse f_Land_roads f_Land___eq__ f_Land___repr__ f__is_amount f__are_roads f_look_deed f_parts_of f_is_day f__wrong_part f__is_part f__law_bag f__law_take f__law_names f__law_plan f__law_land f__law_stretch f__law_deed f__law_odd f__law_bent f__law_told f_law fe_NoDeed d_is_whole d_is_stretch d_least d_both d__end d_is_hand d_Land___init__ d_Land_cells d_Land_hand d_Land_grow d_Land_lapse d_Land_roads d_Land___eq__ d_Land___repr__ d__is_amount d__are_roads d_look_deed d_parts_of d_is_day d__wrong_part d__is_part d__law_bag d__law_take d__law_names d__law_plan d__law_land d__law_stretch d__law_deed d__law_odd d__law_bent d__law_told d_law de_NoDeed) : FnOk P w K mg base CX0 1 fe_NoDeed de_NoDeed ["self", "number"] (spErr Z.C_NoDeed "number") := by
  refine T.Fe_NoDeed.ok sce_NoDeed (fun vs H Q E h => spErr.len h) (fun cdv A outer s H vs Q E hr h => ⟨tOst K "number" (tVar 0) (tVar 1), ?_, err_pure T.er_NoDeed.o T.er_NoDeed.noF rfl h⟩)
  exact pss_one (ps_ost (pv 0) (pv 1))
theorem ok_is_whole (T : Txt K mg Z f_is_whole f_is_stretch f_least f_both f__end f_is_hand f_Land___init__ f_Land_cells f_Land_hand f_Land_grow f_Land_lapse f_Land_roads f_Land___eq__ f_Land___repr__ f__is_amount f__are_roads f_look_deed f_parts_of f_is_day f__wrong_part f__is_part f__law_bag f__law_take f__law_names f__law_plan f__law_land f__law_stretch f__law_deed f__law_odd f__law_bent f__law_told f_law fe_NoDeed d_is_whole d_is_stretch d_least d_both d__end d_is_hand d_Land___init__ d_Land_cells d_Land_hand d_Land_grow d_Land_lapse d_Land_roads d_Land___eq__ d_Land___repr__ d__is_amount d__are_roads d_look_deed d_parts_of d_is_day d__wrong_part d__is_part d__law_bag d__law_take d__law_names d__law_plan d__law_land d__law_stretch d__law_deed d__law_odd d__law_bent d__law_told d_law de_NoDeed) : FnG P w K mg base 1 f_is_whole d_is_whole ["thing"] (sp_is_whole K Z) := by
  refine okG T.F_is_whole sc_is_whole (fun vs H Q E h => spD.len (E := E) h) (fun cdv A fr s H vs Q gu hr h => ⟨rd_is_whole K Z, ?_, body_of (E := E0) h fun ss hl hp => sem_is_whole T.lf ss hp⟩)
  have gu : (A.deeper (envOfC "is_whole" (defScope s_is_whole) s.heap.objs.size f_is_whole cdv)).guards = some [] := gu
  exact (pss_one (ps_ret (pe_and (pe_callB call_isi (by rfl) T.z_isinstance (by decide +kernel) (pa_cons (pv 0) (pa_cons (pe_bltn (by rfl) T.z_int (by decide +kernel) rfl) pa_nil))) (pe_one (pe_not (pe_callB call_isi (by rfl) T.z_isinstance (by decide +kernel) (pa_cons (pv 0) (pa_cons (pe_bltn (by rfl) T.z_bool (by decide +kernel) rfl) pa_nil))))))))
theorem ok_least (T : Txt K mg Z f_is_whole f_is_stretch f_least f_both f__end f_is_hand f_Land___init__ f_Land_cells f_Land_hand f_Land_grow f_Land_lapse f_Land_roads f_Land___eq__ f_Land___repr__ f__is_amount f__are_roads f_look_deed f_parts_of f_is_day f__wrong_part f__is_part f__law_bag f__law_take f__law_names f__law_plan f__law_land f__law_stretch f__law_deed f__law_odd f__law_bent f__law_told f_law fe_NoDeed d_is_whole d_is_stretch d_least d_both d__end d_is_hand d_Land___init__ d_Land_cells d_Land_hand d_Land_grow d_Land_lapse d_Land_roads d_Land___eq__ d_Land___repr__ d__is_amount d__are_roads d_look_deed d_parts_of d_is_day d__wrong_part d__is_part d__law_bag d__law_take d__law_names d__law_plan d__law_land d__law_stretch d__law_deed d__law_odd d__law_bent d__law_told d_law de_NoDeed) : FnG P w K mg base 1 f_least d_least ["stretches"] (sp_least K Z) := by
  refine okG T.F_least sc_least (fun vs H Q E h => spD.len (E := E) h) (fun cdv A fr s H vs Q gu hr h => ⟨rd_least K Z, ?_, body_of (E := E0) h fun ss hl hp => sem_least T.lf ss hp⟩)
  have gu : (A.deeper (envOfC "least" (defScope s_least) s.heap.objs.size f_least cdv)).guards = some [] := gu
  exact (pss_cons (ps_set (i := 1) sc_least.nd rfl (by first | exact .inl rfl | exact .inr rfl) (pe_lst pa_nil))
    (pss_cons (ps_for PassesOwn.never rfl (pi_list (pe_callB cr_sortedPO (by rfl) T.z_sorted (by decide +kernel) (pa_cons (pv 0) pa_nil))) (pg_tup rfl (pgs_cons (pg_name (i := 2) sc_least.nd rfl (by first | exact .inl rfl | exact .inr rfl)) (pgs_cons (pg_name (i := 3) sc_least.nd rfl (by first | exact .inl rfl | exact .inr rfl)) pgs_nil))) (pss_one (ps_if (PW.pt (pw_and (pt_truth (pv 1) (fun _ => rfl)) (pw_and1 (pt_cmpR op_leX (pv 2) (pe_ix ix_seq (pe_ix ix_seq (pv 1) (pe_un un_negX pe_int) (fun _ _ => rfl)) pe_int (fun _ _ => rfl)) (nomark _))))) (pss_one (ps_asg (pe_callB (call_maxX rfl) (by rfl) T.z_max (by decide +kernel) (pa_cons (pe_ix ix_seq (pe_ix ix_seq (pv 1) (pe_un un_negX pe_int) (fun _ _ => rfl)) pe_int (fun _ _ => rfl)) (pa_cons (pe_op op_plus (pv 2) (pv 3)) pa_nil))) (pg_sub (pe_ix ix_seq (pv 1) (pe_un un_negX pe_int) (fun _ _ => rfl)) pe_int set_list))) (pss_one (ps_expr (pe_bm PySem.F.plainAttrs_list PySem.F.slot_list_append PySem.F.type_list_append mt_append (pv 1) (pa_cons (pe_lst (pa_cons (pv 2) (pa_cons (pe_op op_plus (pv 2) (pv 3)) pa_nil))) pa_nil)))))))
    (pss_one (ps_ret (pe_lc (own := [("first", 2), ("end", 4)]) (g := (gUnl K 2 (gCons (gName 2) (gCons (gName 4) gNil)))) (tt := tYes) (te := (tTup (tCons (tVar 2) (tCons (tOp rSubX (tVar 4) (tVar 2)) tNil)))) rfl sc_least.nd (pi_list (pv 1)) (blkOk_by (N := ["stretches", "runs", "first", "many", "end"]) (sc := defScope s_least) (by decide +kernel)) (fun _ _ _ _ _ => (pg_unl rfl (pgs_cons (pg_name (i := 2) sc_least.nd rfl (by first | exact .inl rfl | exact .inr rfl)) (pgs_cons (pg_name (i := 4) sc_least.nd rfl (by first | exact .inl rfl | exact .inr rfl)) pgs_nil)))) (fun _ _ _ _ _ => pts_nil) (fun _ _ _ _ _ => (pe_tup (pa_cons (pv 2) (pa_cons (pe_op op_subX (pv 4) (pv 2)) pa_nil)))))))))
theorem ok__end (T : Txt K mg Z f_is_whole f_is_stretch f_least f_both f__end f_is_hand f_Land___init__ f_Land_cells f_Land_hand f_Land_grow f_Land_lapse f_Land_roads f_Land___eq__ f_Land___repr__ f__is_amount f__are_roads f_look_deed f_parts_of f_is_day f__wrong_part f__is_part f__law_bag f__law_take f__law_names f__law_plan f__law_land f__law_stretch f__law_deed f__law_odd f__law_bent f__law_told f_law fe_NoDeed d_is_whole d_is_stretch d_least d_both d__end d_is_hand d_Land___init__ d_Land_cells d_Land_hand d_Land_grow d_Land_lapse d_Land_roads d_Land___eq__ d_Land___repr__ d__is_amount d__are_roads d_look_deed d_parts_of d_is_day d__wrong_part d__is_part d__law_bag d__law_take d__law_names d__law_plan d__law_land d__law_stretch d__law_deed d__law_odd d__law_bent d__law_told d_law de_NoDeed) : FnG P w K mg base 1 f__end d__end ["stretch"] (sp__end K Z) := by
  refine okG T.F__end sc__end (fun vs H Q E h => spD.len (E := E) h) (fun cdv A fr s H vs Q gu hr h => ⟨rd__end K Z, ?_, body_of (E := E0) h fun ss hl hp => sem__end T.lf ss hp⟩)
  have gu : (A.deeper (envOfC "_end" (defScope s__end) s.heap.objs.size f__end cdv)).guards = some [] := gu
  exact (pss_cons (ps_asg (pv 0) (pg_tup rfl (pgs_cons (pg_name (i := 1) sc__end.nd rfl (by first | exact .inl rfl | exact .inr rfl)) (pgs_cons (pg_name (i := 2) sc__end.nd rfl (by first | exact .inl rfl | exact .inr rfl)) pgs_nil))))
    (pss_one (ps_ret (pe_op op_plus (pv 1) (pv 2)))))
theorem ok_is_hand (T : Txt K mg Z f_is_whole f_is_stretch f_least f_both f__end f_is_hand f_Land___init__ f_Land_cells f_Land_hand f_Land_grow f_Land_lapse f_Land_roads f_Land___eq__ f_Land___repr__ f__is_amount f__are_roads f_look_deed f_parts_of f_is_day f__wrong_part f__is_part f__law_bag f__law_take f__law_names f__law_plan f__law_land f__law_stretch f__law_deed f__law_odd f__law_bent f__law_told f_law fe_NoDeed d_is_whole d_is_stretch d_least d_both d__end d_is_hand d_Land___init__ d_Land_cells d_Land_hand d_Land_grow d_Land_lapse d_Land_roads d_Land___eq__ d_Land___repr__ d__is_amount d__are_roads d_look_deed d_parts_of d_is_day d__wrong_part d__is_part d__law_bag d__law_take d__law_names d__law_plan d__law_land d__law_stretch d__law_deed d__law_odd d__law_bent d__law_told d_law de_NoDeed) : FnG P w K mg base 1 f_is_hand d_is_hand ["thing"] (sp_is_hand K Z) := by
  refine okG T.F_is_hand sc_is_hand (fun vs H Q E h => spD.len (E := E) h) (fun cdv A fr s H vs Q gu hr h => ⟨rd_is_hand K Z, ?_, body_of (E := E0) h fun ss hl hp => sem_is_hand T.lf ss hp⟩)
  have gu : (A.deeper (envOfC "is_hand" (defScope s_is_hand) s.heap.objs.size f_is_hand cdv)).guards = some [] := gu
  exact (pss_cons (ps_if (PW.pt (pw_or (pt_not (pt_val (pe_callB call_isi (by rfl) T.z_isinstance (by decide +kernel) (pa_cons (pv 0) (pa_cons (pe_bltn (by rfl) T.z_str (by decide +kernel) rfl) pa_nil))))) (pw_or1 (pt_not (pt_chain op_leX op_leX pe_int (pe_callB call_lenX (by rfl) T.z_len (by decide +kernel) (pa_cons (pv 0) pa_nil)) (pe_glob (by rfl) T.c_MOST_LETTERS.choose_spec ⟨_, rfl⟩)))))) (pss_one (ps_ret pe_bl)) pss_nil)
    (pss_one (ps_ret (pe_callB (cr_all rfl) (by rfl) T.z_all (by decide +kernel) (pa_cons (pe_lc (own := [("sign", 1)]) (g := (gName 1)) (tt := tYes) (te := (tChain (rLe K) (rLe K) (tC (.str "a")) (tVar 1) (tC (.str "z")))) rfl sc_is_hand.nd (pi_str (pv 0)) (blkOk_by (N := ["thing", "sign"]) (sc := defScope s_is_hand) (by decide +kernel)) (fun _ _ _ _ _ => (pg_name (i := 1) sc_is_hand.nd rfl (by first | exact .inl rfl | exact .inr rfl))) (fun _ _ _ _ _ => pts_nil) (fun _ _ _ _ _ => (pe_chain op_leX op_leX pe_str (pv 1) pe_str))) pa_nil)))))
theorem ok_Land_cells (T : Txt K mg Z f_is_whole f_is_stretch f_least f_both f__end f_is_hand f_Land___init__ f_Land_cells f_Land_hand f_Land_grow f_Land_lapse f_Land_roads f_Land___eq__ f_Land___repr__ f__is_amount f__are_roads f_look_deed f_parts_of f_is_day f__wrong_part f__is_part f__law_bag f__law_take f__law_names f__law_plan f__law_land f__law_stretch f__law_deed f__law_odd f__law_bent f__law_told f_law fe_NoDeed d_is_whole d_is_stretch d_least d_both d__end d_is_hand d_Land___init__ d_Land_cells d_Land_hand d_Land_grow d_Land_lapse d_Land_roads d_Land___eq__ d_Land___repr__ d__is_amount d__are_roads d_look_deed d_parts_of d_is_day d__wrong_part d__is_part d__law_bag d__law_take d__law_names d__law_plan d__law_land d__law_stretch d__law_deed d__law_odd d__law_bent d__law_told d_law de_NoDeed) : FnG P w K mg base 1 f_Land_cells d_Land_cells ["self"] (sp_Land_cells K Z) := by
  refine okG T.F_Land_cells sc_Land_cells (fun vs H Q E h => spD.len (E := E) h) (fun cdv A fr s H vs Q gu hr h => ⟨rd_Land_cells K Z, ?_, body_of (E := E0) h fun ss hl hp => sem_Land_cells T.lf ss hp⟩)
  have gu : (A.deeper (envOfC "Land.cells" (defScope s_Land_cells) s.heap.objs.size f_Land_cells cdv)).guards = some [] := gu
  exact (pss_one (ps_ret (pe_fld (pv 0) rfl)))
theorem ok_Land_hand (T : Txt K mg Z f_is_whole f_is_stretch f_least f_both f__end f_is_hand f_Land___init__ f_Land_cells f_Land_hand f_Land_grow f_Land_lapse f_Land_roads f_Land___eq__ f_Land___repr__ f__is_amount f__are_roads f_look_deed f_parts_of f_is_day f__wrong_part f__is_part f__law_bag f__law_take f__law_names f__law_plan f__law_land f__law_stretch f__law_deed f__law_odd f__law_bent f__law_told f_law fe_NoDeed d_is_whole d_is_stretch d_least d_both d__end d_is_hand d_Land___init__ d_Land_cells d_Land_hand d_Land_grow d_Land_lapse d_Land_roads d_Land___eq__ d_Land___repr__ d__is_amount d__are_roads d_look_deed d_parts_of d_is_day d__wrong_part d__is_part d__law_bag d__law_take d__law_names d__law_plan d__law_land d__law_stretch d__law_deed d__law_odd d__law_bent d__law_told d_law de_NoDeed) : FnG P w K mg base 1 f_Land_hand d_Land_hand ["self"] (sp_Land_hand K Z) := by
  refine okG T.F_Land_hand sc_Land_hand (fun vs H Q E h => spD.len (E := E) h) (fun cdv A fr s H vs Q gu hr h => ⟨rd_Land_hand K Z, ?_, body_of (E := E0) h fun ss hl hp => sem_Land_hand T.lf ss hp⟩)
  have gu : (A.deeper (envOfC "Land.hand" (defScope s_Land_hand) s.heap.objs.size f_Land_hand cdv)).guards = some [] := gu
  exact (pss_one (ps_ret (pe_fld (pv 0) rfl)))
theorem ok_Land_grow (T : Txt K mg Z f_is_whole f_is_stretch f_least f_both f__end f_is_hand f_Land___init__ f_Land_cells f_Land_hand f_Land_grow f_Land_lapse f_Land_roads f_Land___eq__ f_Land___repr__ f__is_amount f__are_roads f_look_deed f_parts_of f_is_day f__wrong_part f__is_part f__law_bag f__law_take f__law_names f__law_plan f__law_land f__law_stretch f__law_deed f__law_odd f__law_bent f__law_told f_law fe_NoDeed d_is_whole d_is_stretch d_least d_both d__end d_is_hand d_Land___init__ d_Land_cells d_Land_hand d_Land_grow d_Land_lapse d_Land_roads d_Land___eq__ d_Land___repr__ d__is_amount d__are_roads d_look_deed d_parts_of d_is_day d__wrong_part d__is_part d__law_bag d__law_take d__law_names d__law_plan d__law_land d__law_stretch d__law_deed d__law_odd d__law_bent d__law_told d_law de_NoDeed) : FnG P w K mg base 1 f_Land_grow d_Land_grow ["self"] (sp_Land_grow K Z) := by
  refine okG T.F_Land_grow sc_Land_grow (fun vs H Q E h => spD.len (E := E) h) (fun cdv A fr s H vs Q gu hr h => ⟨rd_Land_grow K Z, ?_, body_of (E := E0) h fun ss hl hp => sem_Land_grow T.lf ss hp⟩)
  have gu : (A.deeper (envOfC "Land.grow" (defScope s_Land_grow) s.heap.objs.size f_Land_grow cdv)).guards = some [] := gu
  exact (pss_one (ps_ret (pe_fld (pv 0) rfl)))
theorem ok_Land_lapse (T : Txt K mg Z f_is_whole f_is_stretch f_least f_both f__end f_is_hand f_Land___init__ f_Land_cells f_Land_hand f_Land_grow f_Land_lapse f_Land_roads f_Land___eq__ f_Land___repr__ f__is_amount f__are_roads f_look_deed f_parts_of f_is_day f__wrong_part f__is_part f__law_bag f__law_take f__law_names f__law_plan f__law_land f__law_stretch f__law_deed f__law_odd f__law_bent f__law_told f_law fe_NoDeed d_is_whole d_is_stretch d_least d_both d__end d_is_hand d_Land___init__ d_Land_cells d_Land_hand d_Land_grow d_Land_lapse d_Land_roads d_Land___eq__ d_Land___repr__ d__is_amount d__are_roads d_look_deed d_parts_of d_is_day d__wrong_part d__is_part d__law_bag d__law_take d__law_names d__law_plan d__law_land d__law_stretch d__law_deed d__law_odd d__law_bent d__law_told d_law de_NoDeed) : FnG P w K mg base 1 f_Land_lapse d_Land_lapse ["self"] (sp_Land_lapse K Z) := by
  refine okG T.F_Land_lapse sc_Land_lapse (fun vs H Q E h => spD.len (E := E) h) (fun cdv A fr s H vs Q gu hr h => ⟨rd_Land_lapse K Z, ?_, body_of (E := E0) h fun ss hl hp => sem_Land_lapse T.lf ss hp⟩)
  have gu : (A.deeper (envOfC "Land.lapse" (defScope s_Land_lapse) s.heap.objs.size f_Land_lapse cdv)).guards = some [] := gu
  exact (pss_one (ps_ret (pe_fld (pv 0) rfl)))
theorem ok_Land_roads (T : Txt K mg Z f_is_whole f_is_stretch f_least f_both f__end f_is_hand f_Land___init__ f_Land_cells f_Land_hand f_Land_grow f_Land_lapse f_Land_roads f_Land___eq__ f_Land___repr__ f__is_amount f__are_roads f_look_deed f_parts_of f_is_day f__wrong_part f__is_part f__law_bag f__law_take f__law_names f__law_plan f__law_land f__law_stretch f__law_deed f__law_odd f__law_bent f__law_told f_law fe_NoDeed d_is_whole d_is_stretch d_least d_both d__end d_is_hand d_Land___init__ d_Land_cells d_Land_hand d_Land_grow d_Land_lapse d_Land_roads d_Land___eq__ d_Land___repr__ d__is_amount d__are_roads d_look_deed d_parts_of d_is_day d__wrong_part d__is_part d__law_bag d__law_take d__law_names d__law_plan d__law_land d__law_stretch d__law_deed d__law_odd d__law_bent d__law_told d_law de_NoDeed) : FnG P w K mg base 1 f_Land_roads d_Land_roads ["self"] (sp_Land_roads K Z) := by
  refine okG T.F_Land_roads sc_Land_roads (fun vs H Q E h => spD.len (E := E) h) (fun cdv A fr s H vs Q gu hr h => ⟨rd_Land_roads K Z, ?_, body_of (E := E0) h fun ss hl hp => sem_Land_roads T.lf ss hp⟩)
  have gu : (A.deeper (envOfC "Land.roads" (defScope s_Land_roads) s.heap.objs.size f_Land_roads cdv)).guards = some [] := gu
  exact (pss_one (ps_ret (pe_fld (pv 0) rfl)))
theorem ok_Land___eq__ (T : Txt K mg Z f_is_whole f_is_stretch f_least f_both f__end f_is_hand f_Land___init__ f_Land_cells f_Land_hand f_Land_grow f_Land_lapse f_Land_roads f_Land___eq__ f_Land___repr__ f__is_amount f__are_roads f_look_deed f_parts_of f_is_day f__wrong_part f__is_part f__law_bag f__law_take f__law_names f__law_plan f__law_land f__law_stretch f__law_deed f__law_odd f__law_bent f__law_told f_law fe_NoDeed d_is_whole d_is_stretch d_least d_both d__end d_is_hand d_Land___init__ d_Land_cells d_Land_hand d_Land_grow d_Land_lapse d_Land_roads d_Land___eq__ d_Land___repr__ d__is_amount d__are_roads d_look_deed d_parts_of d_is_day d__wrong_part d__is_part d__law_bag d__law_take d__law_names d__law_plan d__law_land d__law_stretch d__law_deed d__law_odd d__law_bent d__law_told d_law de_NoDeed) : FnG P w K mg base 1 f_Land___eq__ d_Land___eq__ ["self", "other"] (sp_Land___eq__ K Z) := by
  refine okG T.F_Land___eq__ sc_Land___eq__ (fun vs H Q E h => spQ.len (E := E) h) (fun cdv A fr s H vs Q gu hr h => ⟨rd_Land___eq__ K Z, ?_, bodyQ (E := E0) h fun x hp => sem_Land___eq__ T.lf x hp⟩)
  have gu : (A.deeper (envOfC "Land.__eq__" (defScope s_Land___eq__) s.heap.objs.size f_Land___eq__ cdv)).guards = some [] := gu
  exact (pss_one (ps_ret (pe_and (pe_callB call_isi (by rfl) T.z_isinstance (by decide +kernel) (pa_cons (pv 1) (pa_cons (pe_glob (by rfl) T.gC_Land rfl) pa_nil))) (pe_and (pe_cmpR (op_eqX hr.units) (pe_fld (pv 0) rfl) (pe_fld (pv 1) rfl) (nomark _)) (pe_and (pe_cmpR (op_eqX hr.units) (pe_fld (pv 0) rfl) (pe_fld (pv 1) rfl) (nomark _)) (pe_and (pe_cmpR (op_eqX hr.units) (pe_fld (pv 0) rfl) (pe_fld (pv 1) rfl) (nomark _)) (pe_and (pe_cmpR (op_eqX hr.units) (pe_fld (pv 0) rfl) (pe_fld (pv 1) rfl) (nomark _)) (pe_one (pe_cmpR (op_eqX hr.units) (pe_fld (pv 0) rfl) (pe_fld (pv 1) rfl) (nomark _))))))))))
theorem ok_Land___repr__ (T : Txt K mg Z f_is_whole f_is_stretch f_least f_both f__end f_is_hand f_Land___init__ f_Land_cells f_Land_hand f_Land_grow f_Land_lapse f_Land_roads f_Land___eq__ f_Land___repr__ f__is_amount f__are_roads f_look_deed f_parts_of f_is_day f__wrong_part f__is_part f__law_bag f__law_take f__law_names f__law_plan f__law_land f__law_stretch f__law_deed f__law_odd f__law_bent f__law_told f_law fe_NoDeed d_is_whole d_is_stretch d_least d_both d__end d_is_hand d_Land___init__ d_Land_cells d_Land_hand d_Land_grow d_Land_lapse d_Land_roads d_Land___eq__ d_Land___repr__ d__is_amount d__are_roads d_look_deed d_parts_of d_is_day d__wrong_part d__is_part d__law_bag d__law_take d__law_names d__law_plan d__law_land d__law_stretch d__law_deed d__law_odd d__law_bent d__law_told d_law de_NoDeed) : FnG P w K mg base 1 f_Land___repr__ d_Land___repr__ ["self"] (sp_Land___repr__ K Z) := by
  refine okG T.F_Land___repr__ sc_Land___repr__ (fun vs H Q E h => spQ.len (E := E) h) (fun cdv A fr s H vs Q gu hr h => ⟨rd_Land___repr__ K Z, ?_, bodyQ (E := E0) h fun x hp => sem_Land___repr__ T.lf x hp⟩)
  have gu : (A.deeper (envOfC "Land.__repr__" (defScope s_Land___repr__) s.heap.objs.size f_Land___repr__ cdv)).guards = some [] := gu
  exact (pss_one (ps_ret (pe_joined (.cons pe_str (.cons (pe_fmt (pe_fld (pv 0) rfl)) (.cons pe_str (.cons (pe_fmt (pe_fld (pv 0) rfl)) (.cons pe_str .nil))))))))
theorem ok_parts_of (T : Txt K mg Z f_is_whole f_is_stretch f_least f_both f__end f_is_hand f_Land___init__ f_Land_cells f_Land_hand f_Land_grow f_Land_lapse f_Land_roads f_Land___eq__ f_Land___repr__ f__is_amount f__are_roads f_look_deed f_parts_of f_is_day f__wrong_part f__is_part f__law_bag f__law_take f__law_names f__law_plan f__law_land f__law_stretch f__law_deed f__law_odd f__law_bent f__law_told f_law fe_NoDeed d_is_whole d_is_stretch d_least d_both d__end d_is_hand d_Land___init__ d_Land_cells d_Land_hand d_Land_grow d_Land_lapse d_Land_roads d_Land___eq__ d_Land___repr__ d__is_amount d__are_roads d_look_deed d_parts_of d_is_day d__wrong_part d__is_part d__law_bag d__law_take d__law_names d__law_plan d__law_land d__law_stretch d__law_deed d__law_odd d__law_bent d__law_told d_law de_NoDeed) : FnG P w K mg base 1 f_parts_of d_parts_of ["word"] (sp_parts_of K Z) := by
  refine okG T.F_parts_of sc_parts_of (fun vs H Q E h => spQ.len (E := E) h) (fun cdv A fr s H vs Q gu hr h => ⟨rd_parts_of K Z, ?_, bodyQ (E := E0) h fun x hp => sem_parts_of T.lf x hp⟩)
  have gu : (A.deeper (envOfC "parts_of" (defScope s_parts_of) s.heap.objs.size f_parts_of cdv)).guards = some [] := gu
  exact (pss_one (ps_ret (pe_kget T.kd_PARTS (by rfl) T.mg_PARTS (pv 0) (pe_tup pa_nil) ⟨by rfl, by rfl, by rfl, by rfl⟩)))
theorem ok__law_bag (T : Txt K mg Z f_is_whole f_is_stretch f_least f_both f__end f_is_hand f_Land___init__ f_Land_cells f_Land_hand f_Land_grow f_Land_lapse f_Land_roads f_Land___eq__ f_Land___repr__ f__is_amount f__are_roads f_look_deed f_parts_of f_is_day f__wrong_part f__is_part f__law_bag f__law_take f__law_names f__law_plan f__law_land f__law_stretch f__law_deed f__law_odd f__law_bent f__law_told f_law fe_NoDeed d_is_whole d_is_stretch d_least d_both d__end d_is_hand d_Land___init__ d_Land_cells d_Land_hand d_Land_grow d_Land_lapse d_Land_roads d_Land___eq__ d_Land___repr__ d__is_amount d__are_roads d_look_deed d_parts_of d_is_day d__wrong_part d__is_part d__law_bag d__law_take d__law_names d__law_plan d__law_land d__law_stretch d__law_deed d__law_odd d__law_bent d__law_told d_law de_NoDeed) : FnG P w K mg base 1 f__law_bag d__law_bag ["script", "at"] (sp__law_bag K) := by
  refine okG T.F__law_bag sc__law_bag (fun vs H Q E h => spD.len (E := E) h) (fun cdv A fr s H vs Q gu hr h => ⟨rd__law_bag K Z, ?_, body_of (E := E0) h fun ss hl hp => sem__law_bag ss hp⟩)
  have gu : (A.deeper (envOfC "_law_bag" (defScope s__law_bag) s.heap.objs.size f__law_bag cdv)).guards = some [] := gu
  exact (pss_cons (ps_set (i := 2) sc__law_bag.nd rfl (by first | exact .inl rfl | exact .inr rfl) (pe_tup (pa_cons pe_int (pa_cons pe_int (pa_cons pe_int (pa_cons pe_int (pa_cons pe_int (pa_cons pe_int (pa_cons pe_int pa_nil)))))))))
    (pss_cons (ps_set (i := 3) sc__law_bag.nd rfl (by first | exact .inl rfl | exact .inr rfl) (pe_ifExp (pt_cmpR op_ltX (pv 1) (pe_callB call_lenX (by rfl) T.z_len (by decide +kernel) (pa_cons (pv 0) pa_nil)) (nomark _)) (pe_ix ix_seq (pv 0) (pv 1) (fun _ _ => rfl)) pe_int))
    (pss_cons (ps_set (i := 4) sc__law_bag.nd rfl (by first | exact .inl rfl | exact .inr rfl) (pe_ifExp (pt_cmpR op_geX (pe_callB call_absX (by rfl) T.z_abs (by decide +kernel) (pa_cons (pv 3) pa_nil)) (pe_op op_powX pe_int pe_int) (nomark _)) (pe_callB call_absX (by rfl) T.z_abs (by decide +kernel) (pa_cons (pv 3) pa_nil)) pe_int))
    (pss_cons (ps_set (i := 5) sc__law_bag.nd rfl (by first | exact .inl rfl | exact .inr rfl) (pe_op op_modX (pe_op op_powX (pe_op op_plus (pe_op op_plus (pe_op op_modX (pv 3) pe_int) (pe_op op_mulX' pe_int (pv 1))) pe_int) pe_int) (pe_ix ix_seq (pv 2) (pe_op op_modX (pv 1) pe_int) (fun _ _ => rfl))))
    (pss_one (ps_ret (pe_lst (pa_cons (pv 4) (pa_cons (pe_op op_plus (pe_op op_modX (pe_op op_mulX' (pv 5) (pe_op op_plus (pe_op op_plus (pe_op op_fdvX (pv 5) pe_int) (pe_op op_mulX' pe_int (pv 1))) pe_int)) (pe_ix ix_seq (pv 2) (pe_op op_modX (pe_op op_plus (pv 1) pe_int) pe_int) (fun _ _ => rfl))) pe_int) pa_nil)))))))))
theorem ok__law_take (T : Txt K mg Z f_is_whole f_is_stretch f_least f_both f__end f_is_hand f_Land___init__ f_Land_cells f_Land_hand f_Land_grow f_Land_lapse f_Land_roads f_Land___eq__ f_Land___repr__ f__is_amount f__are_roads f_look_deed f_parts_of f_is_day f__wrong_part f__is_part f__law_bag f__law_take f__law_names f__law_plan f__law_land f__law_stretch f__law_deed f__law_odd f__law_bent f__law_told f_law fe_NoDeed d_is_whole d_is_stretch d_least d_both d__end d_is_hand d_Land___init__ d_Land_cells d_Land_hand d_Land_grow d_Land_lapse d_Land_roads d_Land___eq__ d_Land___repr__ d__is_amount d__are_roads d_look_deed d_parts_of d_is_day d__wrong_part d__is_part d__law_bag d__law_take d__law_names d__law_plan d__law_land d__law_stretch d__law_deed d__law_odd d__law_bent d__law_told d_law de_NoDeed) : FnG P w K mg base 1 f__law_take d__law_take ["bag", "size"] (sp__law_take K) := by
  refine okG T.F__law_take sc__law_take (fun vs H Q E h => spD.len (E := E) h) (fun cdv A fr s H vs Q gu hr h => ⟨rd__law_take K Z, ?_, body_of (E := E0) h fun ss hl hp => sem__law_take ss hp⟩)
  have gu : (A.deeper (envOfC "_law_take" (defScope s__law_take) s.heap.objs.size f__law_take cdv)).guards = some [] := gu
  exact (pss_cons (ps_if (pt_cmpR op_gtX (pe_ix ix_seq (pv 0) pe_int (fun _ _ => rfl)) pe_int (nomark _)) (pss_cons (ps_set (i := 2) sc__law_take.nd rfl (by first | exact .inl rfl | exact .inr rfl) (pe_op op_modX (pe_ix ix_seq (pv 0) pe_int (fun _ _ => rfl)) (pv 1)))
    (pss_cons (ps_asg (pe_op op_fdvX (pe_ix ix_seq (pv 0) pe_int (fun _ _ => rfl)) (pv 1)) (pg_sub (pv 0) pe_int set_list))
    (pss_one (ps_ret (pv 2))))) pss_nil)
    (pss_cons (ps_asg (pe_op op_modX (pe_op op_mulX' (pe_ix ix_seq (pv 0) pe_int (fun _ _ => rfl)) pe_int) pe_int) (pg_sub (pv 0) pe_int set_list))
    (pss_one (ps_ret (pe_op op_modX (pe_op op_fdvX (pe_op op_modX (pe_op op_mulX' (pe_ix ix_seq (pv 0) pe_int (fun _ _ => rfl)) pe_int) pe_int) (pe_op op_powX pe_int pe_int)) (pv 1))))))
theorem ok_is_stretch (T : Txt K mg Z f_is_whole f_is_stretch f_least f_both f__end f_is_hand f_Land___init__ f_Land_cells f_Land_hand f_Land_grow f_Land_lapse f_Land_roads f_Land___eq__ f_Land___repr__ f__is_amount f__are_roads f_look_deed f_parts_of f_is_day f__wrong_part f__is_part f__law_bag f__law_take f__law_names f__law_plan f__law_land f__law_stretch f__law_deed f__law_odd f__law_bent f__law_told f_law fe_NoDeed d_is_whole d_is_stretch d_least d_both d__end d_is_hand d_Land___init__ d_Land_cells d_Land_hand d_Land_grow d_Land_lapse d_Land_roads d_Land___eq__ d_Land___repr__ d__is_amount d__are_roads d_look_deed d_parts_of d_is_day d__wrong_part d__is_part d__law_bag d__law_take d__law_names d__law_plan d__law_land d__law_stretch d__law_deed d__law_odd d__law_bent d__law_told d_law de_NoDeed) : FnG P w K mg base 2 f_is_stretch d_is_stretch ["thing"] (sp_is_stretch K Z) := by
  refine okG T.F_is_stretch sc_is_stretch (fun vs H Q E h => spD.len (E := E) h) (fun cdv A fr s H vs Q gu hr h => ⟨rd_is_stretch K Z, ?_, body_of (E := E0) h fun ss hl hp => sem_is_stretch T.lf ss hp⟩)
  have gu : (A.deeper (envOfC "is_stretch" (defScope s_is_stretch) s.heap.objs.size f_is_stretch cdv)).guards = some [] := gu
  exact (pss_cons (ps_if (PW.pt (pw_or (pt_not (pt_val (pe_callB call_isi (by rfl) T.z_isinstance (by decide +kernel) (pa_cons (pv 0) (pa_cons (pe_bltn (by rfl) T.z_tuple (by decide +kernel) rfl) pa_nil))))) (pw_or1 (pt_cmpR (op_neX hr.units) (pe_callB call_lenX (by rfl) T.z_len (by decide +kernel) (pa_cons (pv 0) pa_nil)) pe_int (nomark _))))) (pss_one (ps_ret pe_bl)) pss_nil)
    (pss_cons (ps_asg (pv 0) (pg_tup rfl (pgs_cons (pg_name (i := 1) sc_is_stretch.nd rfl (by first | exact .inl rfl | exact .inr rfl)) (pgs_cons (pg_name (i := 2) sc_is_stretch.nd rfl (by first | exact .inl rfl | exact .inr rfl)) pgs_nil))))
    (pss_one (ps_ret (pe_and (pe_callG (ok_is_whole T) (hr.mono (by decide)) gu (by rfl) T.g_is_whole T.F_is_whole.kp T.b_is_whole (pa_cons (pv 1) pa_nil)) (pe_and (pe_cmpR op_geX (pv 1) pe_int (nomark _)) (pe_and (pe_callG (ok_is_whole T) (hr.mono (by decide)) gu (by rfl) T.g_is_whole T.F_is_whole.kp T.b_is_whole (pa_cons (pv 2) pa_nil)) (pe_one (pe_cmpR op_geX (pv 2) pe_int (nomark _))))))))))
theorem ok_both (T : Txt K mg Z f_is_whole f_is_stretch f_least f_both f__end f_is_hand f_Land___init__ f_Land_cells f_Land_hand f_Land_grow f_Land_lapse f_Land_roads f_Land___eq__ f_Land___repr__ f__is_amount f__are_roads f_look_deed f_parts_of f_is_day f__wrong_part f__is_part f__law_bag f__law_take f__law_names f__law_plan f__law_land f__law_stretch f__law_deed f__law_odd f__law_bent f__law_told f_law fe_NoDeed d_is_whole d_is_stretch d_least d_both d__end d_is_hand d_Land___init__ d_Land_cells d_Land_hand d_Land_grow d_Land_lapse d_Land_roads d_Land___eq__ d_Land___repr__ d__is_amount d__are_roads d_look_deed d_parts_of d_is_day d__wrong_part d__is_part d__law_bag d__law_take d__law_names d__law_plan d__law_land d__law_stretch d__law_deed d__law_odd d__law_bent d__law_told d_law de_NoDeed) : FnG P w K mg base 2 f_both d_both ["one", "other"] (sp_both K Z) := by
  refine okG T.F_both sc_both (fun vs H Q E h => spD.len (E := E) h) (fun cdv A fr s H vs Q gu hr h => ⟨rd_both K Z, ?_, body_of (E := E0) h fun ss hl hp => sem_both T.lf ss hp⟩)
  have gu : (A.deeper (envOfC "both" (defScope s_both) s.heap.objs.size f_both cdv)).guards = some [] := gu
  exact (pss_cons (ps_set (i := 2) sc_both.nd rfl (by first | exact .inl rfl | exact .inr rfl) (pe_callG (ok_least T) (hr.mono (by decide)) gu (by rfl) T.g_least T.F_least.kp T.b_least (pa_cons (pv 0) pa_nil)))
    (pss_cons (ps_set (i := 3) sc_both.nd rfl (by first | exact .inl rfl | exact .inr rfl) (pe_callG (ok_least T) (hr.mono (by decide)) gu (by rfl) T.g_least T.F_least.kp T.b_least (pa_cons (pv 1) pa_nil)))
    (pss_cons (ps_set (i := 4) sc_both.nd rfl (by first | exact .inl rfl | exact .inr rfl) (pe_lst pa_nil))
    (pss_cons (ps_set (i := 5) sc_both.nd rfl (by first | exact .inl rfl | exact .inr rfl) pe_int)
    (pss_cons (ps_set (i := 6) sc_both.nd rfl (by first | exact .inl rfl | exact .inr rfl) pe_int)
    (pss_cons (ps_while PassesOwn.never (PW.pt (pw_and (pt_cmpR op_ltX (pv 5) (pe_callB call_lenX (by rfl) T.z_len (by decide +kernel) (pa_cons (pv 2) pa_nil)) (nomark _)) (pw_and1 (pt_cmpR op_ltX (pv 6) (pe_callB call_lenX (by rfl) T.z_len (by decide +kernel) (pa_cons (pv 3) pa_nil)) (nomark _))))) (pss_cons (ps_set (i := 7) sc_both.nd rfl (by first | exact .inl rfl | exact .inr rfl) (pe_callB (call_maxX rfl) (by rfl) T.z_max (by decide +kernel) (pa_cons (pe_ix ix_seq (pe_ix ix_seq (pv 2) (pv 5) (fun _ _ => rfl)) pe_int (fun _ _ => rfl)) (pa_cons (pe_ix ix_seq (pe_ix ix_seq (pv 3) (pv 6) (fun _ _ => rfl)) pe_int (fun _ _ => rfl)) pa_nil))))
    (pss_cons (ps_set (i := 8) sc_both.nd rfl (by first | exact .inl rfl | exact .inr rfl) (pe_callG (ok__end T) (hr.mono (by decide)) gu (by rfl) T.g__end T.F__end.kp T.b__end (pa_cons (pe_ix ix_seq (pv 2) (pv 5) (fun _ _ => rfl)) pa_nil)))
    (pss_cons (ps_set (i := 9) sc_both.nd rfl (by first | exact .inl rfl | exact .inr rfl) (pe_callG (ok__end T) (hr.mono (by decide)) gu (by rfl) T.g__end T.F__end.kp T.b__end (pa_cons (pe_ix ix_seq (pv 3) (pv 6) (fun _ _ => rfl)) pa_nil)))
    (pss_cons (ps_set (i := 10) sc_both.nd rfl (by first | exact .inl rfl | exact .inr rfl) (pe_callB (call_minX rfl) (by rfl) T.z_min (by decide +kernel) (pa_cons (pv 8) (pa_cons (pv 9) pa_nil))))
    (pss_cons (ps_if (pt_cmpR op_ltX (pv 7) (pv 10) (nomark _)) (pss_one (ps_expr (pe_bm PySem.F.plainAttrs_list PySem.F.slot_list_append PySem.F.type_list_append mt_append (pv 4) (pa_cons (pe_tup (pa_cons (pv 7) (pa_cons (pe_op op_subX (pv 10) (pv 7)) pa_nil))) pa_nil)))) pss_nil)
    (pss_one (ps_if (pt_cmpR op_ltX (pv 8) (pv 9) (nomark _)) (pss_one (ps_aug (i := 5) sc_both.nd rfl (by first | exact .inl rfl | exact .inr rfl) pe_int ip_add)) (pss_one (ps_aug (i := 6) sc_both.nd rfl (by first | exact .inl rfl | exact .inr rfl) pe_int ip_add))))))))))
    (pss_one (ps_ret (pv 4)))))))))
theorem ok__is_amount (T : Txt K mg Z f_is_whole f_is_stretch f_least f_both f__end f_is_hand f_Land___init__ f_Land_cells f_Land_hand f_Land_grow f_Land_lapse f_Land_roads f_Land___eq__ f_Land___repr__ f__is_amount f__are_roads f_look_deed f_parts_of f_is_day f__wrong_part f__is_part f__law_bag f__law_take f__law_names f__law_plan f__law_land f__law_stretch f__law_deed f__law_odd f__law_bent f__law_told f_law fe_NoDeed d_is_whole d_is_stretch d_least d_both d__end d_is_hand d_Land___init__ d_Land_cells d_Land_hand d_Land_grow d_Land_lapse d_Land_roads d_Land___eq__ d_Land___repr__ d__is_amount d__are_roads d_look_deed d_parts_of d_is_day d__wrong_part d__is_part d__law_bag d__law_take d__law_names d__law_plan d__law_land d__law_stretch d__law_deed d__law_odd d__law_bent d__law_told d_law de_NoDeed) : FnG P w K mg base 2 f__is_amount d__is_amount ["thing", "most"] (sp__is_amount K Z) := by
  refine okG T.F__is_amount sc__is_amount (fun vs H Q E h => spD.len (E := E) h) (fun cdv A fr s H vs Q gu hr h => ⟨rd__is_amount K Z, ?_, body_of (E := E0) h fun ss hl hp => sem__is_amount T.lf ss hp⟩)
  have gu : (A.deeper (envOfC "_is_amount" (defScope s__is_amount) s.heap.objs.size f__is_amount cdv)).guards = some [] := gu
  exact (pss_one (ps_ret (pe_and (pe_callG (ok_is_whole T) (hr.mono (by decide)) gu (by rfl) T.g_is_whole T.F_is_whole.kp T.b_is_whole (pa_cons (pv 0) pa_nil)) (pe_one (pe_chain op_leX op_leX pe_int (pv 0) (pv 1))))))
theorem ok_is_day (T : Txt K mg Z f_is_whole f_is_stretch f_least f_both f__end f_is_hand f_Land___init__ f_Land_cells f_Land_hand f_Land_grow f_Land_lapse f_Land_roads f_Land___eq__ f_Land___repr__ f__is_amount f__are_roads f_look_deed f_parts_of f_is_day f__wrong_part f__is_part f__law_bag f__law_take f__law_names f__law_plan f__law_land f__law_stretch f__law_deed f__law_odd f__law_bent f__law_told f_law fe_NoDeed d_is_whole d_is_stretch d_least d_both d__end d_is_hand d_Land___init__ d_Land_cells d_Land_hand d_Land_grow d_Land_lapse d_Land_roads d_Land___eq__ d_Land___repr__ d__is_amount d__are_roads d_look_deed d_parts_of d_is_day d__wrong_part d__is_part d__law_bag d__law_take d__law_names d__law_plan d__law_land d__law_stretch d__law_deed d__law_odd d__law_bent d__law_told d_law de_NoDeed) : FnG P w K mg base 2 f_is_day d_is_day ["thing"] (sp_is_day K Z) := by
  refine okG T.F_is_day sc_is_day (fun vs H Q E h => spQ.len (E := E) h) (fun cdv A fr s H vs Q gu hr h => ⟨rd_is_day K Z, ?_, bodyQ (E := E0) h fun x hp => sem_is_day T.lf x hp⟩)
  have gu : (A.deeper (envOfC "is_day" (defScope s_is_day) s.heap.objs.size f_is_day cdv)).guards = some [] := gu
  exact (pss_one (ps_ret (pe_and (pe_callG (ok_is_whole T) (hr.mono (by decide)) gu (by rfl) T.g_is_whole T.F_is_whole.kp T.b_is_whole (pa_cons (pv 0) pa_nil)) (pe_one (pe_chain op_leX op_leX pe_int (pv 0) (pe_glob (by rfl) T.c_LAST_DAY.choose_spec ⟨_, rfl⟩))))))
theorem ok__law_names (T : Txt K mg Z f_is_whole f_is_stretch f_least f_both f__end f_is_hand f_Land___init__ f_Land_cells f_Land_hand f_Land_grow f_Land_lapse f_Land_roads f_Land___eq__ f_Land___repr__ f__is_amount f__are_roads f_look_deed f_parts_of f_is_day f__wrong_part f__is_part f__law_bag f__law_take f__law_names f__law_plan f__law_land f__law_stretch f__law_deed f__law_odd f__law_bent f__law_told f_law fe_NoDeed d_is_whole d_is_stretch d_least d_both d__end d_is_hand d_Land___init__ d_Land_cells d_Land_hand d_Land_grow d_Land_lapse d_Land_roads d_Land___eq__ d_Land___repr__ d__is_amount d__are_roads d_look_deed d_parts_of d_is_day d__wrong_part d__is_part d__law_bag d__law_take d__law_names d__law_plan d__law_land d__law_stretch d__law_deed d__law_odd d__law_bent d__law_told d_law de_NoDeed) : FnG P w K mg base 2 f__law_names d__law_names ["bag", "size"] (sp__law_names K Z) := by
  refine okG T.F__law_names sc__law_names (fun vs H Q E h => spQ.len (E := E) h) (fun cdv A fr s H vs Q gu hr h => ⟨rd__law_names K Z, ?_, bodyQ (E := E0) h fun x hp => sem__law_names T.lf x hp⟩)
  have gu : (A.deeper (envOfC "_law_names" (defScope s__law_names) s.heap.objs.size f__law_names cdv)).guards = some [] := gu
  exact (pss_cons (ps_set (i := 2) sc__law_names.nd rfl (by first | exact .inl rfl | exact .inr rfl) pe_str)
    (pss_cons (ps_set (i := 3) sc__law_names.nd rfl (by first | exact .inl rfl | exact .inr rfl) (pe_join pe_str (pe_lc (own := [("k", 8)]) (g := (gName 8)) (tt := tYes) (te := (tOp (rIx K) (tVar 2) (tCall (sp__law_take K) [] E0 (tCons (tVar 0) (tCons (tC (.int 26)) tNil))))) rfl sc__law_names.nd (pi_range1 (by rfl) T.z_range (pa_cons (pe_ix ix_seq (pe_lst (pa_cons pe_int (pa_cons pe_int (pa_cons pe_int (pa_cons pe_int (pa_cons pe_int pa_nil)))))) (pe_callG (ok__law_take T) (hr.mono (by decide)) gu (by rfl) T.g__law_take T.F__law_take.kp T.b__law_take (pa_cons (pv 0) (pa_cons pe_int pa_nil))) (fun _ _ => rfl)) pa_nil)) (blkOk_by (N := ["bag", "size", "signs", "stem", "spot", "first", "pace", "some", "k", "sign"]) (sc := defScope s__law_names) (by decide +kernel)) (fun _ _ _ _ _ => (pg_name (i := 8) sc__law_names.nd rfl (by first | exact .inl rfl | exact .inr rfl))) (fun _ _ _ _ _ => pts_nil) (fun _ _ _ _ _ => (pe_ix ix_seq (pv 2) (pe_callG (ok__law_take T) (hr.mono (by decide)) gu (by rfl) T.g__law_take T.F__law_take.kp T.b__law_take (pa_cons (pv 0) (pa_cons pe_int pa_nil))) (fun _ _ => rfl))))))
    (pss_cons (ps_asg (pe_tup (pa_cons (pe_callG (ok__law_take T) (hr.mono (by decide)) gu (by rfl) T.g__law_take T.F__law_take.kp T.b__law_take (pa_cons (pv 0) (pa_cons (pe_op op_plus (pe_callB call_lenX (by rfl) T.z_len (by decide +kernel) (pa_cons (pv 3) pa_nil)) pe_int) pa_nil))) (pa_cons (pe_callG (ok__law_take T) (hr.mono (by decide)) gu (by rfl) T.g__law_take T.F__law_take.kp T.b__law_take (pa_cons (pv 0) (pa_cons pe_int pa_nil))) (pa_cons (pe_ix ix_seq (pe_lst (pa_cons pe_int (pa_cons pe_int (pa_cons pe_int (pa_cons pe_int pa_nil))))) (pe_callG (ok__law_take T) (hr.mono (by decide)) gu (by rfl) T.g__law_take T.F__law_take.kp T.b__law_take (pa_cons (pv 0) (pa_cons pe_int pa_nil))) (fun _ _ => rfl)) pa_nil)))) (pg_tup rfl (pgs_cons (pg_name (i := 4) sc__law_names.nd rfl (by first | exact .inl rfl | exact .inr rfl)) (pgs_cons (pg_name (i := 5) sc__law_names.nd rfl (by first | exact .inl rfl | exact .inr rfl)) (pgs_cons (pg_name (i := 6) sc__law_names.nd rfl (by first | exact .inl rfl | exact .inr rfl)) pgs_nil)))))
    (pss_cons (ps_setLc (i := 7) (own := [("k", 8)]) (g := (gName 8)) (tt := tYes) (te := (tOp (rIx K) (tVar 2) (tOp rMod (tOp (rPlus K) (tVar 5) (tOp rMul (tVar 6) (tVar 8))) (tC (.int 26))))) rfl sc__law_names.nd rfl rfl (sw_true rfl rfl rfl (by decide +kernel)) (pi_range1 (by rfl) T.z_range (pa_cons (pv 1) pa_nil)) (blkOk_by (N := ["bag", "size", "signs", "stem", "spot", "first", "pace", "some", "k", "sign"]) (sc := defScope s__law_names) (by decide +kernel)) (fun _ _ _ _ _ => (pg_name (i := 8) sc__law_names.nd rfl (by first | exact .inl rfl | exact .inr rfl))) (fun _ _ _ _ _ => pts_nil) (fun _ _ _ _ _ => (pe_ix ix_seq (pv 2) (pe_op op_modX (pe_op op_plus (pv 5) (pe_op op_mulX' (pv 6) (pv 8))) pe_int) (fun _ _ => rfl))))
    (pss_one (ps_ret (pe_lc (own := [("sign", 9)]) (g := (gName 9)) (tt := tYes) (te := (tOp (rPlus K) (tOp (rPlus K) (tSl (rSl3 K) (tVar 3) tNoPart (tPart (tVar 4))) (tVar 9)) (tSl (rSl3 K) (tVar 3) (tPart (tVar 4)) tNoPart))) rfl sc__law_names.nd (pi_list (pv 7)) (blkOk_by (N := ["bag", "size", "signs", "stem", "spot", "first", "pace", "some", "k", "sign"]) (sc := defScope s__law_names) (by decide +kernel)) (fun _ _ _ _ _ => (pg_name (i := 9) sc__law_names.nd rfl (by first | exact .inl rfl | exact .inr rfl))) (fun _ _ _ _ _ => pts_nil) (fun _ _ _ _ _ => (pe_op op_plus (pe_op op_plus (pe_slice sl_3 (pv 3) po_none (po_some (pv 4))) (pv 9)) (pe_slice sl_3 (pv 3) (po_some (pv 4)) po_none))))))))))
theorem ok__law_stretch (T : Txt K mg Z f_is_whole f_is_stretch f_least f_both f__end f_is_hand f_Land___init__ f_Land_cells f_Land_hand f_Land_grow f_Land_lapse f_Land_roads f_Land___eq__ f_Land___repr__ f__is_amount f__are_roads f_look_deed f_parts_of f_is_day f__wrong_part f__is_part f__law_bag f__law_take f__law_names f__law_plan f__law_land f__law_stretch f__law_deed f__law_odd f__law_bent f__law_told f_law fe_NoDeed d_is_whole d_is_stretch d_least d_both d__end d_is_hand d_Land___init__ d_Land_cells d_Land_hand d_Land_grow d_Land_lapse d_Land_roads d_Land___eq__ d_Land___repr__ d__is_amount d__are_roads d_look_deed d_parts_of d_is_day d__wrong_part d__is_part d__law_bag d__law_take d__law_names d__law_plan d__law_land d__law_stretch d__law_deed d__law_odd d__law_bent d__law_told d_law de_NoDeed) : FnG P w K mg base 2 f__law_stretch d__law_stretch ["bag", "plan"] (sp__law_stretch K Z) := by
  refine okG T.F__law_stretch sc__law_stretch (fun vs H Q E h => spQ.len (E := E) h) (fun cdv A fr s H vs Q gu hr h => ⟨rd__law_stretch K Z, ?_, bodyQ (E := E0) h fun x hp => sem__law_stretch T.lf x hp⟩)
  have gu : (A.deeper (envOfC "_law_stretch" (defScope s__law_stretch) s.heap.objs.size f__law_stretch cdv)).guards = some [] := gu
  exact (pss_cons (ps_set (i := 2) sc__law_stretch.nd rfl (by first | exact .inl rfl | exact .inr rfl) (pe_callG (ok__law_take T) (hr.mono (by decide)) gu (by rfl) T.g__law_take T.F__law_take.kp T.b__law_take (pa_cons (pv 0) (pa_cons (pe_ix ix_seq (pv 1) pe_int (fun _ _ => rfl)) pa_nil))))
    (pss_one (ps_ret (pe_tup (pa_cons (pe_op op_mulX' (pv 2) (pe_ix ix_seq (pv 1) pe_int (fun _ _ => rfl))) (pa_cons (pe_op op_mulX' (pe_op op_plus pe_int (pe_callG (ok__law_take T) (hr.mono (by decide)) gu (by rfl) T.g__law_take T.F__law_take.kp T.b__law_take (pa_cons (pv 0) (pa_cons (pe_op op_subX (pe_ix ix_seq (pv 1) pe_int (fun _ _ => rfl)) (pv 2)) pa_nil)))) (pe_ix ix_seq (pv 1) pe_int (fun _ _ => rfl))) pa_nil))))))
theorem ok__law_odd (T : Txt K mg Z f_is_whole f_is_stretch f_least f_both f__end f_is_hand f_Land___init__ f_Land_cells f_Land_hand f_Land_grow f_Land_lapse f_Land_roads f_Land___eq__ f_Land___repr__ f__is_amount f__are_roads f_look_deed f_parts_of f_is_day f__wrong_part f__is_part f__law_bag f__law_take f__law_names f__law_plan f__law_land f__law_stretch f__law_deed f__law_odd f__law_bent f__law_told f_law fe_NoDeed d_is_whole d_is_stretch d_least d_both d__end d_is_hand d_Land___init__ d_Land_cells d_Land_hand d_Land_grow d_Land_lapse d_Land_roads d_Land___eq__ d_Land___repr__ d__is_amount d__are_roads d_look_deed d_parts_of d_is_day d__wrong_part d__is_part d__law_bag d__law_take d__law_names d__law_plan d__law_land d__law_stretch d__law_deed d__law_odd d__law_bent d__law_told d_law de_NoDeed) : FnG P w K mg base 2 f__law_odd d__law_odd ["bag", "plan", "part"] (sp__law_odd K Z) := by
  refine okG T.F__law_odd sc__law_odd (fun vs H Q E h => spQ.len (E := E) h) (fun cdv A fr s H vs Q gu hr h => ⟨rd__law_odd K Z, ?_, bodyQ (E := E0) h fun x hp => sem__law_odd T.lf x hp⟩)
  have gu : (A.deeper (envOfC "_law_odd" (defScope s__law_odd) s.heap.objs.size f__law_odd cdv)).guards = some [] := gu
  exact (pss_cons (ps_set (i := 3) sc__law_odd.nd rfl (by first | exact .inl rfl | exact .inr rfl) (pe_op op_mulX' (pe_ix ix_seq (pv 1) pe_int (fun _ _ => rfl)) (pe_ix ix_seq (pv 1) pe_int (fun _ _ => rfl))))
    (pss_cons (ps_if (pt_val (pe_callB call_isi (by rfl) T.z_isinstance (by decide +kernel) (pa_cons (pv 2) (pa_cons (pe_bltn (by rfl) T.z_bool (by decide +kernel) rfl) pa_nil)))) (pss_one (ps_ret (pe_ix ix_seq (pe_lst (pa_cons pe_int (pa_cons pe_int (pa_cons pe_non (pa_cons pe_str (pa_cons (pe_tup pa_nil) pa_nil)))))) (pe_callG (ok__law_take T) (hr.mono (by decide)) gu (by rfl) T.g__law_take T.F__law_take.kp T.b__law_take (pa_cons (pv 0) (pa_cons pe_int pa_nil))) (fun _ _ => rfl)))) pss_nil)
    (pss_cons (ps_if (pt_val (pe_callB call_isi (by rfl) T.z_isinstance (by decide +kernel) (pa_cons (pv 2) (pa_cons (pe_bltn (by rfl) T.z_int (by decide +kernel) rfl) pa_nil)))) (pss_one (ps_ret (pe_ix ix_seq (pe_lst (pa_cons (pe_un un_negX pe_int) (pa_cons (pe_op op_plus (pe_op op_powX pe_int pe_int) pe_int) (pa_cons pe_bl (pa_cons pe_non (pa_cons pe_str (pa_cons (pe_tup (pa_cons (pv 2) pa_nil)) (pa_cons (pe_lst (pa_cons (pv 2) pa_nil)) pa_nil)))))))) (pe_callG (ok__law_take T) (hr.mono (by decide)) gu (by rfl) T.g__law_take T.F__law_take.kp T.b__law_take (pa_cons (pv 0) (pa_cons pe_int pa_nil))) (fun _ _ => rfl)))) pss_nil)
    (pss_cons (ps_if (pt_val (pe_callB call_isi (by rfl) T.z_isinstance (by decide +kernel) (pa_cons (pv 2) (pa_cons (pe_bltn (by rfl) T.z_str (by decide +kernel) rfl) pa_nil)))) (pss_one (ps_ret (pe_ix ix_seq (pe_lst (pa_cons pe_str (pa_cons pe_str (pa_cons pe_str (pa_cons pe_non (pa_cons pe_int (pa_cons (pe_tup (pa_cons pe_str pa_nil)) (pa_cons pe_str pa_nil)))))))) (pe_callG (ok__law_take T) (hr.mono (by decide)) gu (by rfl) T.g__law_take T.F__law_take.kp T.b__law_take (pa_cons (pv 0) (pa_cons pe_int pa_nil))) (fun _ _ => rfl)))) pss_nil)
    (pss_cons (ps_set (i := 4) sc__law_odd.nd rfl (by first | exact .inl rfl | exact .inr rfl) (pe_lst (pa_cons (pe_tup (pa_cons pe_int (pa_cons (pe_op op_plus (pv 3) pe_int) pa_nil))) (pa_cons (pe_tup (pa_cons (pv 3) (pa_cons pe_int pa_nil))) (pa_cons (pe_tup (pa_cons (pe_op op_subX (pv 3) pe_int) (pa_cons pe_int pa_nil))) (pa_cons (pe_tup (pa_cons (pe_un un_negX pe_int) (pa_cons pe_int pa_nil))) (pa_cons (pe_tup (pa_cons pe_int (pa_cons pe_int pa_nil))) (pa_cons (pe_tup (pa_cons pe_int (pa_cons pe_bl pa_nil))) (pa_cons (pe_tup (pa_cons pe_int pa_nil)) (pa_cons (pe_tup (pa_cons pe_int (pa_cons pe_int (pa_cons pe_int pa_nil)))) pa_nil))))))))))
    (pss_one (ps_ret (pe_ix ix_seq (pe_op op_plus (pv 4) (pe_lst (pa_cons (pe_lst (pa_cons pe_int (pa_cons pe_int pa_nil))) (pa_cons pe_non (pa_cons pe_int (pa_cons (pe_tup (pa_cons pe_non (pa_cons pe_int pa_nil))) pa_nil)))))) (pe_callG (ok__law_take T) (hr.mono (by decide)) gu (by rfl) T.g__law_take T.F__law_take.kp T.b__law_take (pa_cons (pv 0) (pa_cons pe_int pa_nil))) (fun _ _ => rfl)))))))))
theorem ok__are_roads (T : Txt K mg Z f_is_whole f_is_stretch f_least f_both f__end f_is_hand f_Land___init__ f_Land_cells f_Land_hand f_Land_grow f_Land_lapse f_Land_roads f_Land___eq__ f_Land___repr__ f__is_amount f__are_roads f_look_deed f_parts_of f_is_day f__wrong_part f__is_part f__law_bag f__law_take f__law_names f__law_plan f__law_land f__law_stretch f__law_deed f__law_odd f__law_bent f__law_told f_law fe_NoDeed d_is_whole d_is_stretch d_least d_both d__end d_is_hand d_Land___init__ d_Land_cells d_Land_hand d_Land_grow d_Land_lapse d_Land_roads d_Land___eq__ d_Land___repr__ d__is_amount d__are_roads d_look_deed d_parts_of d_is_day d__wrong_part d__is_part d__law_bag d__law_take d__law_names d__law_plan d__law_land d__law_stretch d__law_deed d__law_odd d__law_bent d__law_told d_law de_NoDeed) : FnG P w K mg base 3 f__are_roads d__are_roads ["thing", "cells"] (sp__are_roads K Z) := by
  refine okG T.F__are_roads sc__are_roads (fun vs H Q E h => spD.len (E := E) h) (fun cdv A fr s H vs Q gu hr h => ⟨rd__are_roads K Z, ?_, body_of (E := E0) h fun ss hl hp => sem__are_roads T.lf ss hp⟩)
  have gu : (A.deeper (envOfC "_are_roads" (defScope s__are_roads) s.heap.objs.size f__are_roads cdv)).guards = some [] := gu
  exact (pss_cons (ps_if (PW.pt (pw_or (pt_not (pt_val (pe_callB call_isi (by rfl) T.z_isinstance (by decide +kernel) (pa_cons (pv 0) (pa_cons (pe_bltn (by rfl) T.z_tuple (by decide +kernel) rfl) pa_nil))))) (pw_or1 (pt_cmpR op_gtX (pe_callB call_lenX (by rfl) T.z_len (by decide +kernel) (pa_cons (pv 0) pa_nil)) (pe_glob (by rfl) T.c_MOST_ROADS.choose_spec ⟨_, rfl⟩) (nomark _))))) (pss_one (ps_ret pe_bl)) pss_nil)
    (pss_cons (ps_if (pt_not (pt_val (pe_callB (cr_all rfl) (by rfl) T.z_all (by decide +kernel) (pa_cons (pe_lc (own := [("road", 3)]) (g := (gName 3)) (tt := tYes) (te := (tCall (sp_is_stretch K Z) [] E0 (tCons (tVar 3) tNil))) rfl sc__are_roads.nd (pi_tup (pv 0)) (blkOk_by (N := ["thing", "cells", "roads", "road"]) (sc := defScope s__are_roads) (by decide +kernel)) (fun _ _ _ _ _ => (pg_name (i := 3) sc__are_roads.nd rfl (by first | exact .inl rfl | exact .inr rfl))) (fun _ _ _ _ _ => pts_nil) (fun _ _ _ _ _ => (pe_callG (ok_is_stretch T) (hr.mono (by decide)) gu (by rfl) T.g_is_stretch T.F_is_stretch.kp T.b_is_stretch (pa_cons (pv 3) pa_nil)))) pa_nil)))) (pss_one (ps_ret pe_bl)) pss_nil)
    (pss_cons (ps_set (i := 2) sc__are_roads.nd rfl (by first | exact .inl rfl | exact .inr rfl) (pe_callTy call_listX (by rfl) T.z_list (by decide +kernel) (pa_cons (pv 0) pa_nil)))
    (pss_one (ps_ret (pe_cmpR (op_eqX hr.units) (pe_callG (ok_both T) (hr.mono (by decide)) gu (by rfl) T.g_both T.F_both.kp T.b_both (pa_cons (pv 2) (pa_cons (pe_lst (pa_cons (pe_tup (pa_cons pe_int (pa_cons (pv 1) pa_nil))) pa_nil)) pa_nil))) (pv 2) (nomark _)))))))
theorem ok__is_part (T : Txt K mg Z f_is_whole f_is_stretch f_least f_both f__end f_is_hand f_Land___init__ f_Land_cells f_Land_hand f_Land_grow f_Land_lapse f_Land_roads f_Land___eq__ f_Land___repr__ f__is_amount f__are_roads f_look_deed f_parts_of f_is_day f__wrong_part f__is_part f__law_bag f__law_take f__law_names f__law_plan f__law_land f__law_stretch f__law_deed f__law_odd f__law_bent f__law_told f_law fe_NoDeed d_is_whole d_is_stretch d_least d_both d__end d_is_hand d_Land___init__ d_Land_cells d_Land_hand d_Land_grow d_Land_lapse d_Land_roads d_Land___eq__ d_Land___repr__ d__is_amount d__are_roads d_look_deed d_parts_of d_is_day d__wrong_part d__is_part d__law_bag d__law_take d__law_names d__law_plan d__law_land d__law_stretch d__law_deed d__law_odd d__law_bent d__law_told d_law de_NoDeed) : FnG P w K mg base 3 f__is_part d__is_part ["land", "part", "thing", "ahead"] (sp__is_part K Z) := by
  refine okG T.F__is_part sc__is_part (fun vs H Q E h => spQ.len (E := E) h) (fun cdv A fr s H vs Q gu hr h => ⟨rd__is_part K Z, ?_, bodyQ (E := E0) h fun x hp => sem__is_part T.lf x hp⟩)
  have gu : (A.deeper (envOfC "_is_part" (defScope s__is_part) s.heap.objs.size f__is_part cdv)).guards = some [] := gu
  exact (pss_cons (ps_if (pt_cmpR (op_eqX hr.units) (pv 1) pe_str (nomark _)) (pss_one (ps_ret (pe_and (pe_callG (ok_is_stretch T) (hr.mono (by decide)) gu (by rfl) T.g_is_stretch T.F_is_stretch.kp T.b_is_stretch (pa_cons (pv 2) pa_nil)) (pe_one (pe_cmpR op_leX (pe_op op_plus (pe_ix ix_seq (pv 2) pe_int (fun _ _ => rfl)) (pe_ix ix_seq (pv 2) pe_int (fun _ _ => rfl))) (pe_methG0 (pv 0) T.lf.i.cl ⟨T.e_Land_cells, T.i_Land_cells, T.F_Land_cells.kp⟩ (ok_Land_cells T) (hr.mono (by decide)) gu T.b_Land_cells) (nomark _)))))) pss_nil)
    (pss_cons (ps_if (pt_cmpR (op_eqX hr.units) (pv 1) pe_str (nomark _)) (pss_one (ps_ret (pe_callG (ok_is_day T) (hr.mono (by decide)) gu (by rfl) T.g_is_day T.F_is_day.kp T.b_is_day (pa_cons (pv 2) pa_nil)))) pss_nil)
    (pss_cons (ps_if (pt_cmpR (op_eqX hr.units) (pv 1) pe_str (nomark _)) (pss_one (ps_ret (pe_and (pe_callG (ok_is_day T) (hr.mono (by decide)) gu (by rfl) T.g_is_day T.F_is_day.kp T.b_is_day (pa_cons (pv 2) pa_nil)) (pe_one (pe_cmpR op_leX (pv 3) (pv 2) (nomark _)))))) pss_nil)
    (pss_cons (ps_if (pt_cmpR (op_eqX hr.units) (pv 1) pe_str (nomark _)) (pss_one (ps_ret (pe_callG (ok_is_hand T) (hr.mono (by decide)) gu (by rfl) T.g_is_hand T.F_is_hand.kp T.b_is_hand (pa_cons (pv 2) pa_nil)))) pss_nil)
    (pss_one (ps_ret (pe_callB call_isi (by rfl) T.z_isinstance (by decide +kernel) (pa_cons (pv 2) (pa_cons (pe_bltn (by rfl) T.z_bool (by decide +kernel) rfl) pa_nil)))))))))
theorem ok__law_plan (T : Txt K mg Z f_is_whole f_is_stretch f_least f_both f__end f_is_hand f_Land___init__ f_Land_cells f_Land_hand f_Land_grow f_Land_lapse f_Land_roads f_Land___eq__ f_Land___repr__ f__is_amount f__are_roads f_look_deed f_parts_of f_is_day f__wrong_part f__is_part f__law_bag f__law_take f__law_names f__law_plan f__law_land f__law_stretch f__law_deed f__law_odd f__law_bent f__law_told f_law fe_NoDeed d_is_whole d_is_stretch d_least d_both d__end d_is_hand d_Land___init__ d_Land_cells d_Land_hand d_Land_grow d_Land_lapse d_Land_roads d_Land___eq__ d_Land___repr__ d__is_amount d__are_roads d_look_deed d_parts_of d_is_day d__wrong_part d__is_part d__law_bag d__law_take d__law_names d__law_plan d__law_land d__law_stretch d__law_deed d__law_odd d__law_bent d__law_told d_law de_NoDeed) : FnG P w K mg base 3 f__law_plan d__law_plan ["bag"] (sp__law_plan K Z) := by
  refine okG T.F__law_plan sc__law_plan (fun vs H Q E h => spQ.len (E := E) h) (fun cdv A fr s H vs Q gu hr h => ⟨rd__law_plan K Z, ?_, bodyQ (E := E0) h fun x hp => sem__law_plan T.lf x hp⟩)
  have gu : (A.deeper (envOfC "_law_plan" (defScope s__law_plan) s.heap.objs.size f__law_plan cdv)).guards = some [] := gu
  exact (pss_cons (ps_par (i := 1) (j := 2) rfl sc__law_plan.nd rfl rfl (by decide) rfl rfl (pa_cons (pe_op op_plus pe_int (pe_callG (ok__law_take T) (hr.mono (by decide)) gu (by rfl) T.g__law_take T.F__law_take.kp T.b__law_take (pa_cons (pv 0) (pa_cons pe_int pa_nil)))) (pa_cons (pe_ix ix_seq (pe_lst (pa_cons pe_int (pa_cons pe_int (pa_cons pe_int (pa_cons (pe_op op_powX pe_int pe_int) pa_nil))))) (pe_callG (ok__law_take T) (hr.mono (by decide)) gu (by rfl) T.g__law_take T.F__law_take.kp T.b__law_take (pa_cons (pv 0) (pa_cons pe_int pa_nil))) (fun _ _ => rfl)) pa_nil)) rfl)
    (pss_cons (ps_par (i := 3) (j := 4) rfl sc__law_plan.nd rfl rfl (by decide) rfl rfl (pa_cons (pe_callG (ok__law_names T) (hr.mono (by decide)) gu (by rfl) T.g__law_names T.F__law_names.kp T.b__law_names (pa_cons (pv 0) (pa_cons pe_int pa_nil))) (pa_cons (pe_op op_plus pe_int (pe_callG (ok__law_take T) (hr.mono (by decide)) gu (by rfl) T.g__law_take T.F__law_take.kp T.b__law_take (pa_cons (pv 0) (pa_cons pe_int pa_nil)))) pa_nil)) rfl)
    (pss_one (ps_ret (pe_tup (pa_cons (pv 1) (pa_cons (pv 2) (pa_cons (pv 3) (pa_cons (pv 4) (pa_cons (pe_op op_plus pe_int (pe_callG (ok__law_take T) (hr.mono (by decide)) gu (by rfl) T.g__law_take T.F__law_take.kp T.b__law_take (pa_cons (pv 0) (pa_cons pe_int pa_nil)))) (pa_cons (pe_op op_plus pe_int (pe_callG (ok__law_take T) (hr.mono (by decide)) gu (by rfl) T.g__law_take T.F__law_take.kp T.b__law_take (pa_cons (pv 0) (pa_cons pe_int pa_nil)))) pa_nil)))))))))))
theorem ok__law_deed (T : Txt K mg Z f_is_whole f_is_stretch f_least f_both f__end f_is_hand f_Land___init__ f_Land_cells f_Land_hand f_Land_grow f_Land_lapse f_Land_roads f_Land___eq__ f_Land___repr__ f__is_amount f__are_roads f_look_deed f_parts_of f_is_day f__wrong_part f__is_part f__law_bag f__law_take f__law_names f__law_plan f__law_land f__law_stretch f__law_deed f__law_odd f__law_bent f__law_told f_law fe_NoDeed d_is_whole d_is_stretch d_least d_both d__end d_is_hand d_Land___init__ d_Land_cells d_Land_hand d_Land_grow d_Land_lapse d_Land_roads d_Land___eq__ d_Land___repr__ d__is_amount d__are_roads d_look_deed d_parts_of d_is_day d__wrong_part d__is_part d__law_bag d__law_take d__law_names d__law_plan d__law_land d__law_stretch d__law_deed d__law_odd d__law_bent d__law_told d_law de_NoDeed) : FnG P w K mg base 3 f__law_deed d__law_deed ["bag", "plan"] (sp__law_deed K Z) := by
  refine okG T.F__law_deed sc__law_deed (fun vs H Q E h => spQ.len (E := E) h) (fun cdv A fr s H vs Q gu hr h => ⟨rd__law_deed K Z, ?_, bodyQ (E := E0) h fun x hp => sem__law_deed T.lf x hp⟩)
  have gu : (A.deeper (envOfC "_law_deed" (defScope s__law_deed) s.heap.objs.size f__law_deed cdv)).guards = some [] := gu
  exact (pss_cons (ps_par (i := 2) (j := 3) rfl sc__law_deed.nd rfl rfl (by decide) rfl rfl (pa_cons (pe_callG (ok__law_take T) (hr.mono (by decide)) gu (by rfl) T.g__law_take T.F__law_take.kp T.b__law_take (pa_cons (pv 0) (pa_cons pe_int pa_nil))) (pa_cons (pe_callG (ok__law_take T) (hr.mono (by decide)) gu (by rfl) T.g__law_take T.F__law_take.kp T.b__law_take (pa_cons (pv 0) (pa_cons (pe_op op_plus (pe_ix ix_seq (pv 1) pe_int (fun _ _ => rfl)) pe_int) pa_nil))) pa_nil)) rfl)
    (pss_cons (ps_set (i := 4) sc__law_deed.nd rfl (by first | exact .inl rfl | exact .inr rfl) (pe_ix ix_seq (pe_ix ix_seq (pv 1) pe_int (fun _ _ => rfl)) (pe_callG (ok__law_take T) (hr.mono (by decide)) gu (by rfl) T.g__law_take T.F__law_take.kp T.b__law_take (pa_cons (pv 0) (pa_cons pe_int pa_nil))) (fun _ _ => rfl)))
    (pss_cons (ps_if (pt_cmpR op_ltX (pv 2) pe_int (nomark _)) (pss_one (ps_ret (pe_tup (pa_cons pe_str (pa_cons (pv 3) (pa_cons (pe_callG (ok__law_stretch T) (hr.mono (by decide)) gu (by rfl) T.g__law_stretch T.F__law_stretch.kp T.b__law_stretch (pa_cons (pv 0) (pa_cons (pv 1) pa_nil))) (pa_cons (pv 4) pa_nil))))))) pss_nil)
    (pss_cons (ps_par (i := 5) (j := 6) rfl sc__law_deed.nd rfl rfl (by decide) rfl rfl (pa_cons (pe_callG (ok__law_stretch T) (hr.mono (by decide)) gu (by rfl) T.g__law_stretch T.F__law_stretch.kp T.b__law_stretch (pa_cons (pv 0) (pa_cons (pv 1) pa_nil))) (pa_cons (pe_callG (ok__law_stretch T) (hr.mono (by decide)) gu (by rfl) T.g__law_stretch T.F__law_stretch.kp T.b__law_stretch (pa_cons (pv 0) (pa_cons (pv 1) pa_nil))) pa_nil)) rfl)
    (pss_cons (ps_if (pt_cmpR op_ltX (pv 2) pe_int (nomark _)) (pss_one (ps_ret (pe_tup (pa_cons pe_str (pa_cons (pv 3) (pa_cons (pe_op op_plus (pv 3) (pe_callG (ok__law_take T) (hr.mono (by decide)) gu (by rfl) T.g__law_take T.F__law_take.kp T.b__law_take (pa_cons (pv 0) (pa_cons (pe_op op_subX (pe_op op_plus (pe_ix ix_seq (pv 1) pe_int (fun _ _ => rfl)) pe_int) (pv 3)) pa_nil)))) (pa_cons (pv 5) (pa_cons (pv 6) (pa_cons (pe_cmpR (op_eqX hr.units) (pe_callG (ok__law_take T) (hr.mono (by decide)) gu (by rfl) T.g__law_take T.F__law_take.kp T.b__law_take (pa_cons (pv 0) (pa_cons pe_int pa_nil))) pe_int (nomark _)) pa_nil))))))))) pss_nil)
    (pss_one (ps_ret (pe_tup (pa_cons (pe_ix ix_seq (pe_lst (pa_cons pe_str (pa_cons pe_str (pa_cons pe_str pa_nil)))) (pe_op op_subX (pv 2) pe_int) (fun _ _ => rfl)) (pa_cons (pv 3) (pa_cons (pv 4) (pa_cons (pv 5) (pa_cons (pv 6) pa_nil)))))))))))))
theorem ok__law_bent (T : Txt K mg Z f_is_whole f_is_stretch f_least f_both f__end f_is_hand f_Land___init__ f_Land_cells f_Land_hand f_Land_grow f_Land_lapse f_Land_roads f_Land___eq__ f_Land___repr__ f__is_amount f__are_roads f_look_deed f_parts_of f_is_day f__wrong_part f__is_part f__law_bag f__law_take f__law_names f__law_plan f__law_land f__law_stretch f__law_deed f__law_odd f__law_bent f__law_told f_law fe_NoDeed d_is_whole d_is_stretch d_least d_both d__end d_is_hand d_Land___init__ d_Land_cells d_Land_hand d_Land_grow d_Land_lapse d_Land_roads d_Land___eq__ d_Land___repr__ d__is_amount d__are_roads d_look_deed d_parts_of d_is_day d__wrong_part d__is_part d__law_bag d__law_take d__law_names d__law_plan d__law_land d__law_stretch d__law_deed d__law_odd d__law_bent d__law_told d_law de_NoDeed) : FnG P w K mg base 3 f__law_bent d__law_bent ["bag", "plan", "deed"] (sp__law_bent K Z) := by
  refine okG T.F__law_bent sc__law_bent (fun vs H Q E h => spQ.len (E := E) h) (fun cdv A fr s H vs Q gu hr h => ⟨rd__law_bent K Z, ?_, bodyQ (E := E0) h fun x hp => sem__law_bent T.lf x hp⟩)
  have gu : (A.deeper (envOfC "_law_bent" (defScope s__law_bent) s.heap.objs.size f__law_bent cdv)).guards = some [] := gu
  exact (pss_cons (ps_par (i := 3) (j := 4) rfl sc__law_bent.nd rfl rfl (by decide) rfl rfl (pa_cons (pe_callG (ok__law_take T) (hr.mono (by decide)) gu (by rfl) T.g__law_take T.F__law_take.kp T.b__law_take (pa_cons (pv 0) (pa_cons pe_int pa_nil))) (pa_cons (pe_callTy call_listX (by rfl) T.z_list (by decide +kernel) (pa_cons (pv 2) pa_nil)) pa_nil)) rfl)
    (pss_cons (ps_if (pt_cmpR (op_eqX hr.units) (pv 3) pe_int (nomark _)) (pss_cons (ps_set (i := 5) sc__law_bent.nd rfl (by first | exact .inl rfl | exact .inr rfl) (pe_lst (pa_cons (pe_op op_plus (pv 2) (pe_tup (pa_cons pe_int pa_nil))) (pa_cons (pe_slice sl_3 (pv 2) po_none (po_some (pe_un un_negX pe_int))) (pa_cons (pe_callTy call_listX (by rfl) T.z_list (by decide +kernel) (pa_cons (pv 2) pa_nil)) (pa_cons (pe_op op_plus (pe_tup (pa_cons pe_str pa_nil)) (pe_slice sl_3 (pv 2) (po_some pe_int) po_none)) (pa_cons (pe_tup (pa_cons (pv 2) pa_nil)) (pa_cons (pe_op op_plus (pe_tup (pa_cons pe_str pa_nil)) (pe_slice sl_3 (pv 2) (po_some pe_int) po_none)) pa_nil))))))))
    (pss_one (ps_ret (pe_tup (pa_cons (pe_ix ix_seq (pv 5) (pe_callG (ok__law_take T) (hr.mono (by decide)) gu (by rfl) T.g__law_take T.F__law_take.kp T.b__law_take (pa_cons (pv 0) (pa_cons pe_int pa_nil))) (fun _ _ => rfl)) (pa_cons pe_int pa_nil)))))) pss_nil)
    (pss_cons (ps_if (pt_cmpR (op_eqX hr.units) (pv 3) pe_int (nomark _)) (pss_cons (ps_set (i := 5) sc__law_bent.nd rfl (by first | exact .inl rfl | exact .inr rfl) (pe_lst (pa_cons (pe_tup pa_nil) (pa_cons pe_non (pa_cons pe_str (pa_cons pe_int (pa_cons pe_bl (pa_cons (pe_lst pa_nil) (pa_cons (pe_op op_plus (pe_tup (pa_cons pe_non pa_nil)) (pe_slice sl_3 (pv 2) (po_some pe_int) po_none)) (pa_cons (pe_tup (pa_cons (pe_tup (pa_cons pe_str pa_nil)) pa_nil)) (pa_cons (pe_op op_plus (pe_tup (pa_cons pe_int pa_nil)) (pe_slice sl_3 (pv 2) (po_some pe_int) po_none)) pa_nil)))))))))))
    (pss_one (ps_ret (pe_tup (pa_cons (pe_ix ix_seq (pv 5) (pe_callG (ok__law_take T) (hr.mono (by decide)) gu (by rfl) T.g__law_take T.F__law_take.kp T.b__law_take (pa_cons (pv 0) (pa_cons pe_int pa_nil))) (fun _ _ => rfl)) (pa_cons pe_int pa_nil)))))) pss_nil)
    (pss_cons (ps_if (PW.pt (pw_and (pt_cmpR (op_eqX hr.units) (pv 3) pe_int (nomark _)) (pw_and (pt_cmpR (op_eqX hr.units) (pe_ix ix_seq (pv 2) pe_int (fun _ _ => rfl)) pe_str (nomark _)) (pw_and1 (pt_cmpR op_gtX (pe_ix ix_seq (pv 2) pe_int (fun _ _ => rfl)) pe_int (nomark _)))))) (pss_one (ps_ret (pe_tup (pa_cons (pe_op op_plus (pe_op op_plus (pe_slice sl_3 (pv 2) po_none (po_some pe_int)) (pe_tup (pa_cons (pe_op op_subX (pe_ix ix_seq (pv 2) pe_int (fun _ _ => rfl)) pe_int) pa_nil))) (pe_slice sl_3 (pv 2) (po_some pe_int) po_none)) (pa_cons pe_int pa_nil))))) pss_nil)
    (pss_cons (ps_set (i := 6) sc__law_bent.nd rfl (by first | exact .inl rfl | exact .inr rfl) (pe_callB call_lenX (by rfl) T.z_len (by decide +kernel) (pa_cons (pv 2) pa_nil)))
    (pss_cons (ps_for PassesOwn.never rfl (pi_range1 (by rfl) T.z_range (pa_cons (pe_op op_plus pe_int (pe_callG (ok__law_take T) (hr.mono (by decide)) gu (by rfl) T.g__law_take T.F__law_take.kp T.b__law_take (pa_cons (pv 0) (pa_cons pe_int pa_nil)))) pa_nil)) (pg_name (i := 7) sc__law_bent.nd rfl (by first | exact .inl rfl | exact .inr rfl)) (pss_cons (ps_set (i := 8) sc__law_bent.nd rfl (by first | exact .inl rfl | exact .inr rfl) (pe_op op_plus pe_int (pe_callG (ok__law_take T) (hr.mono (by decide)) gu (by rfl) T.g__law_take T.F__law_take.kp T.b__law_take (pa_cons (pv 0) (pa_cons (pe_op op_subX (pe_callB call_lenX (by rfl) T.z_len (by decide +kernel) (pa_cons (pv 2) pa_nil)) pe_int) pa_nil)))))
    (pss_cons (ps_asg (pe_callG (ok__law_odd T) (hr.mono (by decide)) gu (by rfl) T.g__law_odd T.F__law_odd.kp T.b__law_odd (pa_cons (pv 0) (pa_cons (pv 1) (pa_cons (pe_ix ix_seq (pv 2) (pv 8) (fun _ _ => rfl)) pa_nil)))) (pg_sub (pv 4) (pv 8) set_list))
    (pss_one (ps_set (i := 6) sc__law_bent.nd rfl (by first | exact .inl rfl | exact .inr rfl) (pe_callB (call_minX rfl) (by rfl) T.z_min (by decide +kernel) (pa_cons (pv 6) (pa_cons (pv 8) pa_nil))))))))
    (pss_one (ps_ret (pe_tup (pa_cons (pe_callTy call_tupleX (by rfl) T.z_tuple (by decide +kernel) (pa_cons (pv 4) pa_nil)) (pa_cons (pv 6) pa_nil)))))))))))
theorem ok_Land___init__ (T : Txt K mg Z f_is_whole f_is_stretch f_least f_both f__end f_is_hand f_Land___init__ f_Land_cells f_Land_hand f_Land_grow f_Land_lapse f_Land_roads f_Land___eq__ f_Land___repr__ f__is_amount f__are_roads f_look_deed f_parts_of f_is_day f__wrong_part f__is_part f__law_bag f__law_take f__law_names f__law_plan f__law_land f__law_stretch f__law_deed f__law_odd f__law_bent f__law_told f_law fe_NoDeed d_is_whole d_is_stretch d_least d_both d__end d_is_hand d_Land___init__ d_Land_cells d_Land_hand d_Land_grow d_Land_lapse d_Land_roads d_Land___eq__ d_Land___repr__ d__is_amount d__are_roads d_look_deed d_parts_of d_is_day d__wrong_part d__is_part d__law_bag d__law_take d__law_names d__law_plan d__law_land d__law_stretch d__law_deed d__law_odd d__law_bent d__law_told d_law de_NoDeed) : FnG P w K mg base 4 f_Land___init__ d_Land___init__ ["self", "cells", "hand", "grow", "lapse", "roads"] (sp_Land___init__ K Z) := by
  refine okGD T.F_Land___init__ sc_Land___init__ (fun vs H Q E h => spI.len h) (fun cdv A fr s H vs Q gu hr h => ⟨rd_Land___init__ K Z, ?_, init_of h (fun x dx ss hl hp => sem_Land___init__ T.lf x dx ss hp) (by decide)⟩)
  have gu : (A.deeper (envOfC "Land.__init__" (defScope s_Land___init__) s.heap.objs.size f_Land___init__ cdv)).guards = some [] := gu
  exact (pss_cons (ps_if (pt_not (pt_val (pe_callG (ok__is_amount T) (hr.mono (by decide)) gu (by rfl) T.g__is_amount T.F__is_amount.kp T.b__is_amount (pa_cons (pv 1) (pa_cons (pe_glob (by rfl) T.c_MOST_CELLS.choose_spec ⟨_, rfl⟩) pa_nil))))) (pss_one ps_never) pss_nil)
    (pss_cons (ps_if (pt_not (pt_val (pe_callG (ok_is_hand T) (hr.mono (by decide)) gu (by rfl) T.g_is_hand T.F_is_hand.kp T.b_is_hand (pa_cons (pv 2) pa_nil)))) (pss_one ps_never) pss_nil)
    (pss_cons (ps_if (pt_not (pt_val (pe_callG (ok__is_amount T) (hr.mono (by decide)) gu (by rfl) T.g__is_amount T.F__is_amount.kp T.b__is_amount (pa_cons (pv 3) (pa_cons (pe_glob (by rfl) T.c_MOST_DAYS.choose_spec ⟨_, rfl⟩) pa_nil))))) (pss_one ps_never) pss_nil)
    (pss_cons (ps_if (pt_not (pt_val (pe_callG (ok__is_amount T) (hr.mono (by decide)) gu (by rfl) T.g__is_amount T.F__is_amount.kp T.b__is_amount (pa_cons (pv 4) (pa_cons (pe_glob (by rfl) T.c_MOST_DAYS.choose_spec ⟨_, rfl⟩) pa_nil))))) (pss_one ps_never) pss_nil)
    (pss_cons (ps_if (pt_not (pt_val (pe_callG (ok__are_roads T) (hr.mono (by decide)) gu (by rfl) T.g__are_roads T.F__are_roads.kp T.b__are_roads (pa_cons (pv 5) (pa_cons (pv 1) pa_nil))))) (pss_one ps_never) pss_nil)
    (pss_cons (ps_fld (pv 0) (pv 1) rfl)
    (pss_cons (ps_fld (pv 0) (pv 2) rfl)
    (pss_cons (ps_fld (pv 0) (pv 3) rfl)
    (pss_cons (ps_fld (pv 0) (pv 4) rfl)
    (pss_cons (ps_fld (pv 0) (pv 5) rfl)
    pss_nil))))))))))
theorem ok__wrong_part (T : Txt K mg Z f_is_whole f_is_stretch f_least f_both f__end f_is_hand f_Land___init__ f_Land_cells f_Land_hand f_Land_grow f_Land_lapse f_Land_roads f_Land___eq__ f_Land___repr__ f__is_amount f__are_roads f_look_deed f_parts_of f_is_day f__wrong_part f__is_part f__law_bag f__law_take f__law_names f__law_plan f__law_land f__law_stretch f__law_deed f__law_odd f__law_bent f__law_told f_law fe_NoDeed d_is_whole d_is_stretch d_least d_both d__end d_is_hand d_Land___init__ d_Land_cells d_Land_hand d_Land_grow d_Land_lapse d_Land_roads d_Land___eq__ d_Land___repr__ d__is_amount d__are_roads d_look_deed d_parts_of d_is_day d__wrong_part d__is_part d__law_bag d__law_take d__law_names d__law_plan d__law_land d__law_stretch d__law_deed d__law_odd d__law_bent d__law_told d_law de_NoDeed) : FnG P w K mg base 4 f__wrong_part d__wrong_part ["land", "thing"] (sp__wrong_part K Z) := by
  refine okG T.F__wrong_part sc__wrong_part (fun vs H Q E h => spQ.len (E := E) h) (fun cdv A fr s H vs Q gu hr h => ⟨rd__wrong_part K Z, ?_, bodyQ (E := E0) h fun x hp => sem__wrong_part T.lf x hp⟩)
  have gu : (A.deeper (envOfC "_wrong_part" (defScope s__wrong_part) s.heap.objs.size f__wrong_part cdv)).guards = some [] := gu
  exact (pss_cons (ps_if (PW.pt (pw_or (pt_not (pt_val (pe_callB call_isi (by rfl) T.z_isinstance (by decide +kernel) (pa_cons (pv 1) (pa_cons (pe_bltn (by rfl) T.z_tuple (by decide +kernel) rfl) pa_nil))))) (pw_or (pt_not (pt_truth (pv 1) (fun _ => rfl))) (pw_or1 (pt_not (pt_val (pe_callB call_isi (by rfl) T.z_isinstance (by decide +kernel) (pa_cons (pe_ix ix_seq (pv 1) pe_int (fun _ _ => rfl)) (pa_cons (pe_bltn (by rfl) T.z_str (by decide +kernel) rfl) pa_nil))))))))) (pss_one (ps_ret pe_int)) pss_nil)
    (pss_cons (ps_set (i := 2) sc__wrong_part.nd rfl (by first | exact .inl rfl | exact .inr rfl) (pe_callG (ok_parts_of T) (hr.mono (by decide)) gu (by rfl) T.g_parts_of T.F_parts_of.kp T.b_parts_of (pa_cons (pe_ix ix_seq (pv 1) pe_int (fun _ _ => rfl)) pa_nil)))
    (pss_cons (ps_if (PW.pt (pw_or (pt_not (pt_truth (pv 2) (fun _ => rfl))) (pw_or1 (pt_cmpR (op_neX hr.units) (pe_callB call_lenX (by rfl) T.z_len (by decide +kernel) (pa_cons (pv 1) pa_nil)) (pe_op op_plus pe_int (pe_callB call_lenX (by rfl) T.z_len (by decide +kernel) (pa_cons (pv 2) pa_nil))) (nomark _))))) (pss_one (ps_ret pe_int)) pss_nil)
    (pss_cons (ps_for PassesOwn.never rfl (pi_enumS (by rfl) T.z_enumerate (pa_cons (pv 2) pa_nil) (pk_cons pe_int pk_nil)) (pg_tup rfl (pgs_cons (pg_name (i := 3) sc__wrong_part.nd rfl (by first | exact .inl rfl | exact .inr rfl)) (pgs_cons (pg_name (i := 4) sc__wrong_part.nd rfl (by first | exact .inl rfl | exact .inr rfl)) pgs_nil))) (pss_one (ps_if (pt_not (pt_val (pe_callG (ok__is_part T) (hr.mono (by decide)) gu (by rfl) T.g__is_part T.F__is_part.kp T.b__is_part (pa_cons (pv 0) (pa_cons (pv 4) (pa_cons (pe_ix ix_seq (pv 1) (pv 3) (fun _ _ => rfl)) (pa_cons (pe_ix ix_seq (pv 1) (pe_op op_subX (pv 3) pe_int) (fun _ _ => rfl)) pa_nil))))))) (pss_one (ps_ret (pv 3))) pss_nil)))
    (pss_one (ps_ret pe_non))))))
theorem ok_look_deed (T : Txt K mg Z f_is_whole f_is_stretch f_least f_both f__end f_is_hand f_Land___init__ f_Land_cells f_Land_hand f_Land_grow f_Land_lapse f_Land_roads f_Land___eq__ f_Land___repr__ f__is_amount f__are_roads f_look_deed f_parts_of f_is_day f__wrong_part f__is_part f__law_bag f__law_take f__law_names f__law_plan f__law_land f__law_stretch f__law_deed f__law_odd f__law_bent f__law_told f_law fe_NoDeed d_is_whole d_is_stretch d_least d_both d__end d_is_hand d_Land___init__ d_Land_cells d_Land_hand d_Land_grow d_Land_lapse d_Land_roads d_Land___eq__ d_Land___repr__ d__is_amount d__are_roads d_look_deed d_parts_of d_is_day d__wrong_part d__is_part d__law_bag d__law_take d__law_names d__law_plan d__law_land d__law_stretch d__law_deed d__law_odd d__law_bent d__law_told d_law de_NoDeed) : FnX P w K mg base 5 f_look_deed d_look_deed ["land", "thing"] (sp_look_deed K Z) := by
  refine okX T.F_look_deed sc_look_deed (fun vs H Q E h => spX.len h) (fun cdv A fr s H vs Q E gu hr h => ⟨rd_look_deed K Z E, ?_, bodyX h fun x hp => sem_look_deed T.lf E x hp⟩)
  have gu : (A.deeper (envOfC "look_deed" (defScope s_look_deed) s.heap.objs.size f_look_deed cdv)).guards = some [] := gu
  exact (pss_cons (ps_set (i := 2) sc_look_deed.nd rfl (by first | exact .inl rfl | exact .inr rfl) (pe_callG (ok__wrong_part T) (hr.mono (by decide)) gu (by rfl) T.g__wrong_part T.F__wrong_part.kp T.b__wrong_part (pa_cons (pv 0) (pa_cons (pv 1) pa_nil))))
    (pss_one (ps_if (pt_cmpR op_isnotX (pv 2) pe_non (nomark _)) (pss_one (ps_raiseE rfl T.er_NoDeed (oke_NoDeed T) (hr.mono (by decide)) T.be_NoDeed (takes_of rfl rfl rfl rfl) (pa_cons (pv 2) pa_nil) (by rfl))) pss_nil)))
theorem ok__law_land (T : Txt K mg Z f_is_whole f_is_stretch f_least f_both f__end f_is_hand f_Land___init__ f_Land_cells f_Land_hand f_Land_grow f_Land_lapse f_Land_roads f_Land___eq__ f_Land___repr__ f__is_amount f__are_roads f_look_deed f_parts_of f_is_day f__wrong_part f__is_part f__law_bag f__law_take f__law_names f__law_plan f__law_land f__law_stretch f__law_deed f__law_odd f__law_bent f__law_told f_law fe_NoDeed d_is_whole d_is_stretch d_least d_both d__end d_is_hand d_Land___init__ d_Land_cells d_Land_hand d_Land_grow d_Land_lapse d_Land_roads d_Land___eq__ d_Land___repr__ d__is_amount d__are_roads d_look_deed d_parts_of d_is_day d__wrong_part d__is_part d__law_bag d__law_take d__law_names d__law_plan d__law_land d__law_stretch d__law_deed d__law_odd d__law_bent d__law_told d_law de_NoDeed) : FnG P w K mg base 6 f__law_land d__law_land ["plan"] (sp__law_land K Z) := by
  refine okG T.F__law_land sc__law_land (fun vs H Q E h => spQ.len (E := E) h) (fun cdv A fr s H vs Q gu hr h => ⟨rd__law_land K Z, ?_, bodyQ (E := E0) h fun x hp => sem__law_land T.lf x hp⟩)
  have gu : (A.deeper (envOfC "_law_land" (defScope s__law_land) s.heap.objs.size f__law_land cdv)).guards = some [] := gu
  exact (pss_one (ps_ret (pe_makeKG (n := 2) (ks := ["grow", "lapse"]) T.mk_Land (ok_Land___init__ T) (hr.mono (by decide)) gu (by rfl) T.gC_Land (kb_Land___init___2_grow_lapse T).choose_spec (pa_cons (pe_op op_mulX' (pe_ix ix_seq (pv 0) pe_int (fun _ _ => rfl)) (pe_ix ix_seq (pv 0) pe_int (fun _ _ => rfl))) (pa_cons (pe_ix ix_seq (pe_ix ix_seq (pv 0) pe_int (fun _ _ => rfl)) pe_int (fun _ _ => rfl)) pa_nil)) (pk_cons (pe_ix ix_seq (pv 0) pe_int (fun _ _ => rfl)) (pk_cons (pe_ix ix_seq (pv 0) pe_int (fun _ _ => rfl)) pk_nil)))))
theorem ok__law_told (T : Txt K mg Z f_is_whole f_is_stretch f_least f_both f__end f_is_hand f_Land___init__ f_Land_cells f_Land_hand f_Land_grow f_Land_lapse f_Land_roads f_Land___eq__ f_Land___repr__ f__is_amount f__are_roads f_look_deed f_parts_of f_is_day f__wrong_part f__is_part f__law_bag f__law_take f__law_names f__law_plan f__law_land f__law_stretch f__law_deed f__law_odd f__law_bent f__law_told f_law fe_NoDeed d_is_whole d_is_stretch d_least d_both d__end d_is_hand d_Land___init__ d_Land_cells d_Land_hand d_Land_grow d_Land_lapse d_Land_roads d_Land___eq__ d_Land___repr__ d__is_amount d__are_roads d_look_deed d_parts_of d_is_day d__wrong_part d__is_part d__law_bag d__law_take d__law_names d__law_plan d__law_land d__law_stretch d__law_deed d__law_odd d__law_bent d__law_told d_law de_NoDeed) : FnG P w K mg base 7 f__law_told d__law_told ["plan", "made"] (sp__law_told K Z) := by
  refine okG T.F__law_told sc__law_told (fun vs H Q E h => spQ.len (E := E) h) (fun cdv A fr s H vs Q gu hr h => ⟨rd__law_told K Z, ?_, bodyQ (E := E0) h fun x hp => sem__law_told T.lf x hp⟩)
  have gu : (A.deeper (envOfC "_law_told" (defScope s__law_told) s.heap.objs.size f__law_told cdv)).guards = some [] := gu
  exact (pss_one (ps_try_as (i := 2) (c := .ref Z.C_NoDeed) (tb := fun W => (tRet (tCallNS 2 0 (sp_look_deed K Z) (fun vs zs => pick [0, 1] (vs ++ [] ++ zs)) W (tCons (tCall (sp__law_land K Z) [] E0 (tCons (tVar 0) tNil)) (tCons (tVar 1) tNil)) tNil))) (ts := tSuite K 2 3 [.ref Z.C_NoLand, .ref Z.C_NoText, .ref Z.C_NoCell, .ref Z.C_NoDay, .ref Z.C_NoHand, .ref Z.C_TooMany, .ref Z.C_Unlike] Z.C_NoDeed "number") (Wout := fun _ _ _ _ => False) rfl rfl sc__law_told.nd rfl rfl ⟨by rfl, by decide, Or.inl T.gC_NoDeed⟩ takes0
    (fun W pn xe tk _ => pss_one (ps_ret (pe_callXP (n := 2) (ok_look_deed T) (hr.mono (by decide)) gu tk (by rfl) T.g_look_deed T.F_look_deed.kp (kb_look_deed_2 T).choose_spec (pa_cons (pe_callG (ok__law_land T) (hr.mono (by decide)) gu (by rfl) T.g__law_land T.F__law_land.kp T.b__law_land (pa_cons (pv 0) pa_nil)) (pa_cons (pv 1) pa_nil)))))
    (fun a oe cls d pn hz hf => (pss_cons (ps_set (i := 3) sc__law_told.nd rfl (by first | exact .inl rfl | exact .inr rfl) (pe_callB (call_isXT hz hf) (by rfl) T.z_isinstance (by decide +kernel) (pa_cons (pv 2) (pa_cons (pe_tup (pa_cons (pe_glob (by rfl) T.gC_NoLand rfl) (pa_cons (pe_glob (by rfl) T.gC_NoText rfl) (pa_cons (pe_glob (by rfl) T.gC_NoCell rfl) (pa_cons (pe_glob (by rfl) T.gC_NoDay rfl) (pa_cons (pe_glob (by rfl) T.gC_NoHand rfl) (pa_cons (pe_glob (by rfl) T.gC_TooMany rfl) (pa_cons (pe_glob (by rfl) T.gC_Unlike rfl) pa_nil)))))))) pa_nil)))) (pss_one (ps_ret (pe_ifExp (PW.pt (pw_or (pt_val (pv 3)) (pw_or1 (pt_not (pt_val (pe_callB (call_isX1 hz hf) (by rfl) T.z_isinstance (by decide +kernel) (pa_cons (pv 2) (pa_cons (pe_bltn (by rfl) T.z_ValueError (by decide +kernel) rfl) pa_nil)))))))) pe_str (pe_xf T.xf_NoDeed T.er_NoDeed.noF hz hf (pv 2)))))))))
theorem ok_law (T : Txt K mg Z f_is_whole f_is_stretch f_least f_both f__end f_is_hand f_Land___init__ f_Land_cells f_Land_hand f_Land_grow f_Land_lapse f_Land_roads f_Land___eq__ f_Land___repr__ f__is_amount f__are_roads f_look_deed f_parts_of f_is_day f__wrong_part f__is_part f__law_bag f__law_take f__law_names f__law_plan f__law_land f__law_stretch f__law_deed f__law_odd f__law_bent f__law_told f_law fe_NoDeed d_is_whole d_is_stretch d_least d_both d__end d_is_hand d_Land___init__ d_Land_cells d_Land_hand d_Land_grow d_Land_lapse d_Land_roads d_Land___eq__ d_Land___repr__ d__is_amount d__are_roads d_look_deed d_parts_of d_is_day d__wrong_part d__is_part d__law_bag d__law_take d__law_names d__law_plan d__law_land d__law_stretch d__law_deed d__law_odd d__law_bent d__law_told d_law de_NoDeed) : FnG P w K mg base 8 f_law d_law ["script"] (sp_law K) := by
  refine okG T.F_law sc_law (fun vs H Q E h => spD.len (E := E) h) (fun cdv A fr s H vs Q gu hr h => ⟨rd_law K Z, ?_, body_of (E := E0) h fun ss hl hp => sem_law T.lf ss hp⟩)
  have gu : (A.deeper (envOfC "law" (defScope s_law) s.heap.objs.size f_law cdv)).guards = some [] := gu
  exact (pss_cons (ps_for PassesOwn.never rfl (pi_range1 (by rfl) T.z_range (pa_cons (pe_callB (call_maxX rfl) (by rfl) T.z_max (by decide +kernel) (pa_cons pe_int (pa_cons (pe_callB (call_minX rfl) (by rfl) T.z_min (by decide +kernel) (pa_cons pe_int (pa_cons (pe_callB call_lenX (by rfl) T.z_len (by decide +kernel) (pa_cons (pv 0) pa_nil)) pa_nil))) pa_nil))) pa_nil)) (pg_name (i := 1) sc_law.nd rfl (by first | exact .inl rfl | exact .inr rfl)) (pss_cons (ps_set (i := 2) sc_law.nd rfl (by first | exact .inl rfl | exact .inr rfl) (pe_callG (ok__law_bag T) (hr.mono (by decide)) gu (by rfl) T.g__law_bag T.F__law_bag.kp T.b__law_bag (pa_cons (pv 0) (pa_cons (pv 1) pa_nil))))
    (pss_cons (ps_set (i := 3) sc_law.nd rfl (by first | exact .inl rfl | exact .inr rfl) (pe_callG (ok__law_plan T) (hr.mono (by decide)) gu (by rfl) T.g__law_plan T.F__law_plan.kp T.b__law_plan (pa_cons (pv 2) pa_nil)))
    (pss_one (ps_for PassesOwn.never rfl (pi_range1 (by rfl) T.z_range (pa_cons pe_int pa_nil)) (pg_name (i := 4) sc_law.nd rfl (by first | exact .inl rfl | exact .inr rfl)) (pss_cons (ps_set (i := 5) sc_law.nd rfl (by first | exact .inl rfl | exact .inr rfl) (pe_callG (ok__law_deed T) (hr.mono (by decide)) gu (by rfl) T.g__law_deed T.F__law_deed.kp T.b__law_deed (pa_cons (pv 2) (pa_cons (pv 3) pa_nil))))
    (pss_cons (ps_asg (pe_callG (ok__law_bent T) (hr.mono (by decide)) gu (by rfl) T.g__law_bent T.F__law_bent.kp T.b__law_bent (pa_cons (pv 2) (pa_cons (pv 3) (pa_cons (pv 5) pa_nil)))) (pg_tup rfl (pgs_cons (pg_name (i := 6) sc_law.nd rfl (by first | exact .inl rfl | exact .inr rfl)) (pgs_cons (pg_name (i := 7) sc_law.nd rfl (by first | exact .inl rfl | exact .inr rfl)) pgs_nil))))
    (pss_cons (ps_set (i := 8) sc_law.nd rfl (by first | exact .inl rfl | exact .inr rfl) (pe_callB (call_repr gu hr.units) (by rfl) T.z_repr (by decide +kernel) (pa_cons (pe_tup (pa_cons (pv 5) (pa_cons (pv 6) pa_nil))) pa_nil)))
    (pss_one (ps_if (PW.pt (pw_or (pt_cmpR op_isnotX (pe_callG (ok__law_told T) (hr.mono (by decide)) gu (by rfl) T.g__law_told T.F__law_told.kp T.b__law_told (pa_cons (pv 3) (pa_cons (pv 5) pa_nil))) pe_non (nomark _)) (pw_or (pt_cmpR (op_neX hr.units) (pe_callG (ok__law_told T) (hr.mono (by decide)) gu (by rfl) T.g__law_told T.F__law_told.kp T.b__law_told (pa_cons (pv 3) (pa_cons (pv 6) pa_nil))) (pv 7) (nomark _)) (pw_or1 (pt_cmpR (op_neX hr.units) (pe_callB (call_repr gu hr.units) (by rfl) T.z_repr (by decide +kernel) (pa_cons (pe_tup (pa_cons (pv 5) (pa_cons (pv 6) pa_nil))) pa_nil)) (pv 8) (nomark _)))))) (pss_one (ps_ret pe_bl)) pss_nil))))))))))
    (pss_cons (ps_set (i := 9) sc_law.nd rfl (by first | exact .inl rfl | exact .inr rfl) (pe_tup (pa_cons pe_str (pa_cons pe_int (pa_cons (pe_op op_powX pe_int pe_int) (pa_cons (pe_tup (pa_cons pe_int (pa_cons pe_int pa_nil))) (pa_cons (pe_tup (pa_cons pe_int (pa_cons pe_int pa_nil))) (pa_cons pe_bl pa_nil))))))))
    (pss_one (ps_ret (pe_and (pe_cmpR op_isX (pe_callXP (n := 2) (ok_look_deed T) (hr.mono (by decide)) gu takes0 (by rfl) T.g_look_deed T.F_look_deed.kp (kb_look_deed_2 T).choose_spec (pa_cons (pe_makeGP (n := 2) T.mk_Land (ok_Land___init__ T) (hr.mono (by decide)) gu (by rfl) T.gC_Land (kb_Land___init___2 T).choose_spec (pa_cons pe_int (pa_cons pe_str pa_nil))) (pa_cons (pv 9) pa_nil))) pe_non (nomark _)) (pe_one (pe_cmpR op_isX (pe_callX0N (ks := ["thing", "land"]) (ok_look_deed T) (hr.mono (by decide)) gu takes0 (by rfl) T.g_look_deed T.F_look_deed.kp (kb_look_deed_0_thing_land T).choose_spec (pk_cons (pv 9) (pk_cons (pe_makeGP (n := 2) T.mk_Land (ok_Land___init__ T) (hr.mono (by decide)) gu (by rfl) T.gC_Land (kb_Land___init___2 T).choose_spec (pa_cons pe_int (pa_cons pe_str pa_nil))) pk_nil))) pe_non (nomark _))))))))
end
theorem all_mk {l : PySem.W.OpenLaw} {w : World} {K : PySem.W.Frag} {h : Heap} {mg : Str → Option Value} {fa f_is_whole f_is_stretch f_least f_both f__end f_is_hand f_Land___init__ f_Land_cells f_Land_hand f_Land_grow f_Land_lapse f_Land_roads f_Land___eq__ f_Land___repr__ f__is_amount f__are_roads f_look_deed f_parts_of f_is_day f__wrong_part f__is_part f__law_bag f__law_take f__law_names f__law_plan f__law_land f__law_stretch f__law_deed f__law_odd f__law_bent f__law_told f_law C_Land T_Land_roads C_NoLand C_NoDeed C_NoText C_NoCell C_NoDay C_NoHand C_TooMany C_Unlike A_PARTS A_PARTS_0 A_PARTS_1 A_PARTS_2 A_PARTS_3 fe_NoDeed : Addr} (X : K.In h) (G : h.Ns mainGlobals mg) (hfa : mg "law" = some (.ref fa))
    {od0 an0 : Option Addr} {sl0 : Array (Option Value)} {oc0 dc0 pm0 cd0 ct0 : Value}
    {kV0 : Value}
    {od1 an1 : Option Addr} {sl1 : Array (Option Value)} {oc1 dc1 pm1 cd1 ct1 : Value}
    {kV1 : Value}
    {od2 an2 : Option Addr} {sl2 : Array (Option Value)} {oc2 dc2 pm2 cd2 ct2 : Value}
    {kV2 : Value}
    {od3 an3 : Option Addr} {sl3 : Array (Option Value)} {oc3 dc3 pm3 cd3 ct3 : Value}
    {kV3 : Value}
    {od4 an4 : Option Addr} {sl4 : Array (Option Value)} {oc4 dc4 pm4 cd4 ct4 : Value}
    {kV4 : Value}
    {od5 an5 : Option Addr} {sl5 : Array (Option Value)} {oc5 dc5 pm5 cd5 ct5 : Value}
    {kV5 : Value}
    {od6 an6 : Option Addr} {sl6 : Array (Option Value)} {oc6 dc6 pm6 cd6 ct6 : Value}
    {kV6 : Addr}
    {tq6_grow : Tok}
    {tq6_lapse : Tok}
    {oT_Land_roads : Obj} {mT_Land_roads : Nat}
    {od7 an7 : Option Addr} {sl7 : Array (Option Value)} {oc7 dc7 pm7 cd7 ct7 : Value}
    {kV7 : Value}
    {od8 an8 : Option Addr} {sl8 : Array (Option Value)} {oc8 dc8 pm8 cd8 ct8 : Value}
    {kV8 : Value}
    {od9 an9 : Option Addr} {sl9 : Array (Option Value)} {oc9 dc9 pm9 cd9 ct9 : Value}
    {kV9 : Value}
    {od10 an10 : Option Addr} {sl10 : Array (Option Value)} {oc10 dc10 pm10 cd10 ct10 : Value}
    {kV10 : Value}
    {od11 an11 : Option Addr} {sl11 : Array (Option Value)} {oc11 dc11 pm11 cd11 ct11 : Value}
    {kV11 : Value}
    {od12 an12 : Option Addr} {sl12 : Array (Option Value)} {oc12 dc12 pm12 cd12 ct12 : Value}
    {kV12 : Value}
    {od13 an13 : Option Addr} {sl13 : Array (Option Value)} {oc13 dc13 pm13 cd13 ct13 : Value}
    {kV13 : Value}
    {od14 an14 : Option Addr} {sl14 : Array (Option Value)} {oc14 dc14 pm14 cd14 ct14 : Value}
    {kV14 : Value}
    {od15 an15 : Option Addr} {sl15 : Array (Option Value)} {oc15 dc15 pm15 cd15 ct15 : Value}
    {kV15 : Value}
    {od16 an16 : Option Addr} {sl16 : Array (Option Value)} {oc16 dc16 pm16 cd16 ct16 : Value}
    {kV16 : Value}
    {od17 an17 : Option Addr} {sl17 : Array (Option Value)} {oc17 dc17 pm17 cd17 ct17 : Value}
    {kV17 : Value}
    {od18 an18 : Option Addr} {sl18 : Array (Option Value)} {oc18 dc18 pm18 cd18 ct18 : Value}
    {kV18 : Value}
    {od19 an19 : Option Addr} {sl19 : Array (Option Value)} {oc19 dc19 pm19 cd19 ct19 : Value}
    {kV19 : Value}
    {od20 an20 : Option Addr} {sl20 : Array (Option Value)} {oc20 dc20 pm20 cd20 ct20 : Value}
    {kV20 : Value}
    {od21 an21 : Option Addr} {sl21 : Array (Option Value)} {oc21 dc21 pm21 cd21 ct21 : Value}
    {kV21 : Value}
    {od22 an22 : Option Addr} {sl22 : Array (Option Value)} {oc22 dc22 pm22 cd22 ct22 : Value}
    {kV22 : Value}
    {od23 an23 : Option Addr} {sl23 : Array (Option Value)} {oc23 dc23 pm23 cd23 ct23 : Value}
    {kV23 : Value}
    {od24 an24 : Option Addr} {sl24 : Array (Option Value)} {oc24 dc24 pm24 cd24 ct24 : Value}
    {kV24 : Value}
    {od25 an25 : Option Addr} {sl25 : Array (Option Value)} {oc25 dc25 pm25 cd25 ct25 : Value}
    {kV25 : Value}
    {od26 an26 : Option Addr} {sl26 : Array (Option Value)} {oc26 dc26 pm26 cd26 ct26 : Value}
    {kV26 : Value}
    {od27 an27 : Option Addr} {sl27 : Array (Option Value)} {oc27 dc27 pm27 cd27 ct27 : Value}
    {kV27 : Value}
    {od28 an28 : Option Addr} {sl28 : Array (Option Value)} {oc28 dc28 pm28 cd28 ct28 : Value}
    {kV28 : Value}
    {od29 an29 : Option Addr} {sl29 : Array (Option Value)} {oc29 dc29 pm29 cd29 ct29 : Value}
    {kV29 : Value}
    {od30 an30 : Option Addr} {sl30 : Array (Option Value)} {oc30 dc30 pm30 cd30 ct30 : Value}
    {kV30 : Value}
    {od31 an31 : Option Addr} {sl31 : Array (Option Value)} {oc31 dc31 pm31 cd31 ct31 : Value}
    {kV31 : Value}
    {enmNoDeed eqNoDeed : Str} {eNNoDeed : Addr} {ebsNoDeed : List Value} {esnNoDeed : List Str} {esubNoDeed : List Value} {eabNoDeed : Bool} {ecolNoDeed : Option Bool} {eddNoDeed : Option Addr} {em0NoDeed em1NoDeed em2NoDeed em3NoDeed em5NoDeed : Option Value} {eodNoDeed eanNoDeed : Option Addr} {eslNoDeed : Array (Option Value)} {eocNoDeed ekVNoDeed edcNoDeed epmNoDeed ecdNoDeed ectNoDeed : Value}
    {od_PARTS : Obj} {oe_PARTS : Array DictEntry} {op_PARTS : Nat}
    {ot_PARTS_0 : Obj} {ov_PARTS_0 : Array Value} {om_PARTS_0 : Nat}
    {ot_PARTS_1 : Obj} {ov_PARTS_1 : Array Value} {om_PARTS_1 : Nat}
    {ot_PARTS_2 : Obj} {ov_PARTS_2 : Array Value} {om_PARTS_2 : Nat}
    {ot_PARTS_3 : Obj} {ov_PARTS_3 : Array Value} {om_PARTS_3 : Nat}
    {t_MOST_CELLS : Tok}
    {t_MOST_DAYS : Tok}
    {t_MOST_ROADS : Tok}
    {t_MOST_LETTERS : Tok}
    {t_LAST_DAY : Tok}
    (a0 : PySem.W.nsIn K mainGlobals "is_whole" = some (some (.ref f_is_whole)))
    (l0 : K.lookup f_is_whole = some ⟨oc0, od0, .func (PySem.W.fnOf "is_whole" "is_whole" (defArgs s_is_whole) (defBody s_is_whole) (defScope s_is_whole) .none kV0 dc0 pm0 an0 cd0 ct0), sl0⟩)
    (p0 : PySem.W.codeIn K cd0 "is_whole" = true)
    (k0 : PySem.W.keepIn K (.ref f_is_whole) = true)
    (a1 : PySem.W.nsIn K mainGlobals "is_stretch" = some (some (.ref f_is_stretch)))
    (l1 : K.lookup f_is_stretch = some ⟨oc1, od1, .func (PySem.W.fnOf "is_stretch" "is_stretch" (defArgs s_is_stretch) (defBody s_is_stretch) (defScope s_is_stretch) .none kV1 dc1 pm1 an1 cd1 ct1), sl1⟩)
    (p1 : PySem.W.codeIn K cd1 "is_stretch" = true)
    (k1 : PySem.W.keepIn K (.ref f_is_stretch) = true)
    (a2 : PySem.W.nsIn K mainGlobals "least" = some (some (.ref f_least)))
    (l2 : K.lookup f_least = some ⟨oc2, od2, .func (PySem.W.fnOf "least" "least" (defArgs s_least) (defBody s_least) (defScope s_least) .none kV2 dc2 pm2 an2 cd2 ct2), sl2⟩)
    (p2 : PySem.W.codeIn K cd2 "least" = true)
    (k2 : PySem.W.keepIn K (.ref f_least) = true)
    (a3 : PySem.W.nsIn K mainGlobals "both" = some (some (.ref f_both)))
    (l3 : K.lookup f_both = some ⟨oc3, od3, .func (PySem.W.fnOf "both" "both" (defArgs s_both) (defBody s_both) (defScope s_both) .none kV3 dc3 pm3 an3 cd3 ct3), sl3⟩)
    (p3 : PySem.W.codeIn K cd3 "both" = true)
    (k3 : PySem.W.keepIn K (.ref f_both) = true)
    (a4 : PySem.W.nsIn K mainGlobals "_end" = some (some (.ref f__end)))
    (l4 : K.lookup f__end = some ⟨oc4, od4, .func (PySem.W.fnOf "_end" "_end" (defArgs s__end) (defBody s__end) (defScope s__end) .none kV4 dc4 pm4 an4 cd4 ct4), sl4⟩)
    (p4 : PySem.W.codeIn K cd4 "_end" = true)
    (k4 : PySem.W.keepIn K (.ref f__end) = true)
    (a5 : PySem.W.nsIn K mainGlobals "is_hand" = some (some (.ref f_is_hand)))
    (l5 : K.lookup f_is_hand = some ⟨oc5, od5, .func (PySem.W.fnOf "is_hand" "is_hand" (defArgs s_is_hand) (defBody s_is_hand) (defScope s_is_hand) .none kV5 dc5 pm5 an5 cd5 ct5), sl5⟩)
    (p5 : PySem.W.codeIn K cd5 "is_hand" = true)
    (k5 : PySem.W.keepIn K (.ref f_is_hand) = true)
    (a6 : PySem.W.findIn K (.ref C_Land) "__init__" = some (some (.ref f_Land___init__)))
    (i6 : PySem.W.isFn K (.ref f_Land___init__) = true)
    (l6 : K.lookup f_Land___init__ = some ⟨oc6, od6, .func (PySem.W.fnOf "__init__" "Land.__init__" (defArgs s_Land___init__) (defBody s_Land___init__) (defScope s_Land___init__) .none (.ref kV6) dc6 pm6 an6 cd6 ct6), sl6⟩)
    (q6_grow : PySem.W.nsIn K kV6 "grow" = some (some (.int 20 tq6_grow)))
    (q6_lapse : PySem.W.nsIn K kV6 "lapse" = some (some (.int 20 tq6_lapse)))
    (q6_roads : PySem.W.nsIn K kV6 "roads" = some (some (.ref T_Land_roads)))
    (lT_Land_roads : K.lookup T_Land_roads = some oT_Land_roads)
    (cT_Land_roads : oT_Land_roads.cls = .type "tuple")
    (dT_Land_roads : oT_Land_roads.data = .seq #[] mT_Land_roads)
    (p6 : PySem.W.codeIn K cd6 "Land.__init__" = true)
    (k6 : PySem.W.keepIn K (.ref f_Land___init__) = true)
    (a7 : PySem.W.findIn K (.ref C_Land) "cells" = some (some (.ref f_Land_cells)))
    (i7 : PySem.W.isFn K (.ref f_Land_cells) = true)
    (l7 : K.lookup f_Land_cells = some ⟨oc7, od7, .func (PySem.W.fnOf "cells" "Land.cells" (defArgs s_Land_cells) (defBody s_Land_cells) (defScope s_Land_cells) .none kV7 dc7 pm7 an7 cd7 ct7), sl7⟩)
    (p7 : PySem.W.codeIn K cd7 "Land.cells" = true)
    (k7 : PySem.W.keepIn K (.ref f_Land_cells) = true)
    (a8 : PySem.W.findIn K (.ref C_Land) "hand" = some (some (.ref f_Land_hand)))
    (i8 : PySem.W.isFn K (.ref f_Land_hand) = true)
    (l8 : K.lookup f_Land_hand = some ⟨oc8, od8, .func (PySem.W.fnOf "hand" "Land.hand" (defArgs s_Land_hand) (defBody s_Land_hand) (defScope s_Land_hand) .none kV8 dc8 pm8 an8 cd8 ct8), sl8⟩)
    (p8 : PySem.W.codeIn K cd8 "Land.hand" = true)
    (k8 : PySem.W.keepIn K (.ref f_Land_hand) = true)
    (a9 : PySem.W.findIn K (.ref C_Land) "grow" = some (some (.ref f_Land_grow)))
    (i9 : PySem.W.isFn K (.ref f_Land_grow) = true)
    (l9 : K.lookup f_Land_grow = some ⟨oc9, od9, .func (PySem.W.fnOf "grow" "Land.grow" (defArgs s_Land_grow) (defBody s_Land_grow) (defScope s_Land_grow) .none kV9 dc9 pm9 an9 cd9 ct9), sl9⟩)
    (p9 : PySem.W.codeIn K cd9 "Land.grow" = true)
    (k9 : PySem.W.keepIn K (.ref f_Land_grow) = true)
    (a10 : PySem.W.findIn K (.ref C_Land) "lapse" = some (some (.ref f_Land_lapse)))
    (i10 : PySem.W.isFn K (.ref f_Land_lapse) = true)
    (l10 : K.lookup f_Land_lapse = some ⟨oc10, od10, .func (PySem.W.fnOf "lapse" "Land.lapse" (defArgs s_Land_lapse) (defBody s_Land_lapse) (defScope s_Land_lapse) .none kV10 dc10 pm10 an10 cd10 ct10), sl10⟩)
    (p10 : PySem.W.codeIn K cd10 "Land.lapse" = true)
    (k10 : PySem.W.keepIn K (.ref f_Land_lapse) = true)
    (a11 : PySem.W.findIn K (.ref C_Land) "roads" = some (some (.ref f_Land_roads)))
    (i11 : PySem.W.isFn K (.ref f_Land_roads) = true)
    (l11 : K.lookup f_Land_roads = some ⟨oc11, od11, .func (PySem.W.fnOf "roads" "Land.roads" (defArgs s_Land_roads) (defBody s_Land_roads) (defScope s_Land_roads) .none kV11 dc11 pm11 an11 cd11 ct11), sl11⟩)
    (p11 : PySem.W.codeIn K cd11 "Land.roads" = true)
    (k11 : PySem.W.keepIn K (.ref f_Land_roads) = true)
    (a12 : PySem.W.findIn K (.ref C_Land) "__eq__" = some (some (.ref f_Land___eq__)))
    (i12 : PySem.W.isFn K (.ref f_Land___eq__) = true)
    (l12 : K.lookup f_Land___eq__ = some ⟨oc12, od12, .func (PySem.W.fnOf "__eq__" "Land.__eq__" (defArgs s_Land___eq__) (defBody s_Land___eq__) (defScope s_Land___eq__) .none kV12 dc12 pm12 an12 cd12 ct12), sl12⟩)
    (p12 : PySem.W.codeIn K cd12 "Land.__eq__" = true)
    (k12 : PySem.W.keepIn K (.ref f_Land___eq__) = true)
    (a13 : PySem.W.findIn K (.ref C_Land) "__repr__" = some (some (.ref f_Land___repr__)))
    (i13 : PySem.W.isFn K (.ref f_Land___repr__) = true)
    (l13 : K.lookup f_Land___repr__ = some ⟨oc13, od13, .func (PySem.W.fnOf "__repr__" "Land.__repr__" (defArgs s_Land___repr__) (defBody s_Land___repr__) (defScope s_Land___repr__) .none kV13 dc13 pm13 an13 cd13 ct13), sl13⟩)
    (p13 : PySem.W.codeIn K cd13 "Land.__repr__" = true)
    (k13 : PySem.W.keepIn K (.ref f_Land___repr__) = true)
    (a14 : PySem.W.nsIn K mainGlobals "_is_amount" = some (some (.ref f__is_amount)))
    (l14 : K.lookup f__is_amount = some ⟨oc14, od14, .func (PySem.W.fnOf "_is_amount" "_is_amount" (defArgs s__is_amount) (defBody s__is_amount) (defScope s__is_amount) .none kV14 dc14 pm14 an14 cd14 ct14), sl14⟩)
    (p14 : PySem.W.codeIn K cd14 "_is_amount" = true)
    (k14 : PySem.W.keepIn K (.ref f__is_amount) = true)
    (a15 : PySem.W.nsIn K mainGlobals "_are_roads" = some (some (.ref f__are_roads)))
    (l15 : K.lookup f__are_roads = some ⟨oc15, od15, .func (PySem.W.fnOf "_are_roads" "_are_roads" (defArgs s__are_roads) (defBody s__are_roads) (defScope s__are_roads) .none kV15 dc15 pm15 an15 cd15 ct15), sl15⟩)
    (p15 : PySem.W.codeIn K cd15 "_are_roads" = true)
    (k15 : PySem.W.keepIn K (.ref f__are_roads) = true)
    (a16 : PySem.W.nsIn K mainGlobals "look_deed" = some (some (.ref f_look_deed)))
    (l16 : K.lookup f_look_deed = some ⟨oc16, od16, .func (PySem.W.fnOf "look_deed" "look_deed" (defArgs s_look_deed) (defBody s_look_deed) (defScope s_look_deed) .none kV16 dc16 pm16 an16 cd16 ct16), sl16⟩)
    (p16 : PySem.W.codeIn K cd16 "look_deed" = true)
    (k16 : PySem.W.keepIn K (.ref f_look_deed) = true)
    (a17 : PySem.W.nsIn K mainGlobals "parts_of" = some (some (.ref f_parts_of)))
    (l17 : K.lookup f_parts_of = some ⟨oc17, od17, .func (PySem.W.fnOf "parts_of" "parts_of" (defArgs s_parts_of) (defBody s_parts_of) (defScope s_parts_of) .none kV17 dc17 pm17 an17 cd17 ct17), sl17⟩)
    (p17 : PySem.W.codeIn K cd17 "parts_of" = true)
    (k17 : PySem.W.keepIn K (.ref f_parts_of) = true)
    (a18 : PySem.W.nsIn K mainGlobals "is_day" = some (some (.ref f_is_day)))
    (l18 : K.lookup f_is_day = some ⟨oc18, od18, .func (PySem.W.fnOf "is_day" "is_day" (defArgs s_is_day) (defBody s_is_day) (defScope s_is_day) .none kV18 dc18 pm18 an18 cd18 ct18), sl18⟩)
    (p18 : PySem.W.codeIn K cd18 "is_day" = true)
    (k18 : PySem.W.keepIn K (.ref f_is_day) = true)
    (a19 : PySem.W.nsIn K mainGlobals "_wrong_part" = some (some (.ref f__wrong_part)))
    (l19 : K.lookup f__wrong_part = some ⟨oc19, od19, .func (PySem.W.fnOf "_wrong_part" "_wrong_part" (defArgs s__wrong_part) (defBody s__wrong_part) (defScope s__wrong_part) .none kV19 dc19 pm19 an19 cd19 ct19), sl19⟩)
    (p19 : PySem.W.codeIn K cd19 "_wrong_part" = true)
    (k19 : PySem.W.keepIn K (.ref f__wrong_part) = true)
    (a20 : PySem.W.nsIn K mainGlobals "_is_part" = some (some (.ref f__is_part)))
    (l20 : K.lookup f__is_part = some ⟨oc20, od20, .func (PySem.W.fnOf "_is_part" "_is_part" (defArgs s__is_part) (defBody s__is_part) (defScope s__is_part) .none kV20 dc20 pm20 an20 cd20 ct20), sl20⟩)
    (p20 : PySem.W.codeIn K cd20 "_is_part" = true)
    (k20 : PySem.W.keepIn K (.ref f__is_part) = true)
    (a21 : PySem.W.nsIn K mainGlobals "_law_bag" = some (some (.ref f__law_bag)))
    (l21 : K.lookup f__law_bag = some ⟨oc21, od21, .func (PySem.W.fnOf "_law_bag" "_law_bag" (defArgs s__law_bag) (defBody s__law_bag) (defScope s__law_bag) .none kV21 dc21 pm21 an21 cd21 ct21), sl21⟩)
    (p21 : PySem.W.codeIn K cd21 "_law_bag" = true)
    (k21 : PySem.W.keepIn K (.ref f__law_bag) = true)
    (a22 : PySem.W.nsIn K mainGlobals "_law_take" = some (some (.ref f__law_take)))
    (l22 : K.lookup f__law_take = some ⟨oc22, od22, .func (PySem.W.fnOf "_law_take" "_law_take" (defArgs s__law_take) (defBody s__law_take) (defScope s__law_take) .none kV22 dc22 pm22 an22 cd22 ct22), sl22⟩)
    (p22 : PySem.W.codeIn K cd22 "_law_take" = true)
    (k22 : PySem.W.keepIn K (.ref f__law_take) = true)
    (a23 : PySem.W.nsIn K mainGlobals "_law_names" = some (some (.ref f__law_names)))
    (l23 : K.lookup f__law_names = some ⟨oc23, od23, .func (PySem.W.fnOf "_law_names" "_law_names" (defArgs s__law_names) (defBody s__law_names) (defScope s__law_names) .none kV23 dc23 pm23 an23 cd23 ct23), sl23⟩)
    (p23 : PySem.W.codeIn K cd23 "_law_names" = true)
    (k23 : PySem.W.keepIn K (.ref f__law_names) = true)
    (a24 : PySem.W.nsIn K mainGlobals "_law_plan" = some (some (.ref f__law_plan)))
    (l24 : K.lookup f__law_plan = some ⟨oc24, od24, .func (PySem.W.fnOf "_law_plan" "_law_plan" (defArgs s__law_plan) (defBody s__law_plan) (defScope s__law_plan) .none kV24 dc24 pm24 an24 cd24 ct24), sl24⟩)
    (p24 : PySem.W.codeIn K cd24 "_law_plan" = true)
    (k24 : PySem.W.keepIn K (.ref f__law_plan) = true)
    (a25 : PySem.W.nsIn K mainGlobals "_law_land" = some (some (.ref f__law_land)))
    (l25 : K.lookup f__law_land = some ⟨oc25, od25, .func (PySem.W.fnOf "_law_land" "_law_land" (defArgs s__law_land) (defBody s__law_land) (defScope s__law_land) .none kV25 dc25 pm25 an25 cd25 ct25), sl25⟩)
    (p25 : PySem.W.codeIn K cd25 "_law_land" = true)
    (k25 : PySem.W.keepIn K (.ref f__law_land) = true)
    (a26 : PySem.W.nsIn K mainGlobals "_law_stretch" = some (some (.ref f__law_stretch)))
    (l26 : K.lookup f__law_stretch = some ⟨oc26, od26, .func (PySem.W.fnOf "_law_stretch" "_law_stretch" (defArgs s__law_stretch) (defBody s__law_stretch) (defScope s__law_stretch) .none kV26 dc26 pm26 an26 cd26 ct26), sl26⟩)
    (p26 : PySem.W.codeIn K cd26 "_law_stretch" = true)
    (k26 : PySem.W.keepIn K (.ref f__law_stretch) = true)
    (a27 : PySem.W.nsIn K mainGlobals "_law_deed" = some (some (.ref f__law_deed)))
    (l27 : K.lookup f__law_deed = some ⟨oc27, od27, .func (PySem.W.fnOf "_law_deed" "_law_deed" (defArgs s__law_deed) (defBody s__law_deed) (defScope s__law_deed) .none kV27 dc27 pm27 an27 cd27 ct27), sl27⟩)
    (p27 : PySem.W.codeIn K cd27 "_law_deed" = true)
    (k27 : PySem.W.keepIn K (.ref f__law_deed) = true)
    (a28 : PySem.W.nsIn K mainGlobals "_law_odd" = some (some (.ref f__law_odd)))
    (l28 : K.lookup f__law_odd = some ⟨oc28, od28, .func (PySem.W.fnOf "_law_odd" "_law_odd" (defArgs s__law_odd) (defBody s__law_odd) (defScope s__law_odd) .none kV28 dc28 pm28 an28 cd28 ct28), sl28⟩)
    (p28 : PySem.W.codeIn K cd28 "_law_odd" = true)
    (k28 : PySem.W.keepIn K (.ref f__law_odd) = true)
    (a29 : PySem.W.nsIn K mainGlobals "_law_bent" = some (some (.ref f__law_bent)))
    (l29 : K.lookup f__law_bent = some ⟨oc29, od29, .func (PySem.W.fnOf "_law_bent" "_law_bent" (defArgs s__law_bent) (defBody s__law_bent) (defScope s__law_bent) .none kV29 dc29 pm29 an29 cd29 ct29), sl29⟩)
    (p29 : PySem.W.codeIn K cd29 "_law_bent" = true)
    (k29 : PySem.W.keepIn K (.ref f__law_bent) = true)
    (a30 : PySem.W.nsIn K mainGlobals "_law_told" = some (some (.ref f__law_told)))
    (l30 : K.lookup f__law_told = some ⟨oc30, od30, .func (PySem.W.fnOf "_law_told" "_law_told" (defArgs s__law_told) (defBody s__law_told) (defScope s__law_told) .none kV30 dc30 pm30 an30 cd30 ct30), sl30⟩)
    (p30 : PySem.W.codeIn K cd30 "_law_told" = true)
    (k30 : PySem.W.keepIn K (.ref f__law_told) = true)
    (a31 : PySem.W.nsIn K mainGlobals "law" = some (some (.ref f_law)))
    (l31 : K.lookup f_law = some ⟨oc31, od31, .func (PySem.W.fnOf "law" "law" (defArgs s_law) (defBody s_law) (defScope s_law) .none kV31 dc31 pm31 an31 cd31 ct31), sl31⟩)
    (p31 : PySem.W.codeIn K cd31 "law" = true)
    (k31 : PySem.W.keepIn K (.ref f_law) = true)
    (gCNoLand : PySem.W.nsIn K mainGlobals "NoLand" = some (some (.ref C_NoLand)))
    (ec1NoLand : PySem.W.isClsIn K C_NoLand = true)
    (ec2NoLand : PySem.W.typeIn K (.ref C_NoLand) = some (.type "type"))
    (gCNoDeed : PySem.W.nsIn K mainGlobals "NoDeed" = some (some (.ref C_NoDeed)))
    (ec1NoDeed : PySem.W.isClsIn K C_NoDeed = true)
    (ec2NoDeed : PySem.W.typeIn K (.ref C_NoDeed) = some (.type "type"))
    (gCNoText : PySem.W.nsIn K mainGlobals "NoText" = some (some (.ref C_NoText)))
    (ec1NoText : PySem.W.isClsIn K C_NoText = true)
    (ec2NoText : PySem.W.typeIn K (.ref C_NoText) = some (.type "type"))
    (gCNoCell : PySem.W.nsIn K mainGlobals "NoCell" = some (some (.ref C_NoCell)))
    (ec1NoCell : PySem.W.isClsIn K C_NoCell = true)
    (ec2NoCell : PySem.W.typeIn K (.ref C_NoCell) = some (.type "type"))
    (gCNoDay : PySem.W.nsIn K mainGlobals "NoDay" = some (some (.ref C_NoDay)))
    (ec1NoDay : PySem.W.isClsIn K C_NoDay = true)
    (ec2NoDay : PySem.W.typeIn K (.ref C_NoDay) = some (.type "type"))
    (gCNoHand : PySem.W.nsIn K mainGlobals "NoHand" = some (some (.ref C_NoHand)))
    (ec1NoHand : PySem.W.isClsIn K C_NoHand = true)
    (ec2NoHand : PySem.W.typeIn K (.ref C_NoHand) = some (.type "type"))
    (gCTooMany : PySem.W.nsIn K mainGlobals "TooMany" = some (some (.ref C_TooMany)))
    (ec1TooMany : PySem.W.isClsIn K C_TooMany = true)
    (ec2TooMany : PySem.W.typeIn K (.ref C_TooMany) = some (.type "type"))
    (gCUnlike : PySem.W.nsIn K mainGlobals "Unlike" = some (some (.ref C_Unlike)))
    (ec1Unlike : PySem.W.isClsIn K C_Unlike = true)
    (ec2Unlike : PySem.W.typeIn K (.ref C_Unlike) = some (.type "type"))
    (xLNoDeed : K.lookup C_NoDeed = some (excClassObj enmNoDeed eqNoDeed C_NoDeed eNNoDeed ebsNoDeed [.type "ValueError", .type "Exception", .type "BaseException", .type "object"] true esnNoDeed esubNoDeed eabNoDeed ecolNoDeed eddNoDeed em0NoDeed em1NoDeed em2NoDeed em3NoDeed em5NoDeed "ValueError.__new__"))
    (saNoDeed : PySem.W.findIn K (.ref C_NoDeed) "__setattr__" = some (some (.builtin "object.__setattr__")))
    (gaNoDeed : PySem.W.findIn K (.ref C_NoDeed) "__getattribute__" = some (some (.builtin "BaseException.__getattribute__")))
    (ggNoDeed : PySem.W.findIn K (.ref C_NoDeed) "__getattr__" = some none)
    (nbNoDeed : PySem.W.findIn K (.ref C_NoDeed) "number" = some none)
    (eiNoDeed : PySem.W.findIn K (.ref C_NoDeed) "__init__" = some (some (.ref fe_NoDeed)))
    (etNoDeed : PySem.W.typeIn K (.ref fe_NoDeed) = some (.type "function"))
    (elNoDeed : K.lookup fe_NoDeed = some ⟨eocNoDeed, eodNoDeed, .func (PySem.W.fnOf "__init__" "NoDeed.__init__" (defArgs se_NoDeed) (defBody se_NoDeed) (defScope se_NoDeed) .none ekVNoDeed edcNoDeed epmNoDeed eanNoDeed ecdNoDeed ectNoDeed), eslNoDeed⟩)
    (epNoDeed : PySem.W.codeIn K ecdNoDeed "NoDeed.__init__" = true)
    (ekNoDeed : PySem.W.keepIn K (.ref fe_NoDeed) = true)
    (kCNoDeed : PySem.W.keepIn K (.ref C_NoDeed) = true)
    (eCNoDeed : PySem.W.subIn K (.ref C_NoDeed) (.type "BaseException") = some true)
    (hCNoDeed : PySem.W.hasDictIn K C_NoDeed = true)
    (sCNoDeed : PySem.W.subIn K (.ref C_NoDeed) (.ref C_NoDeed) = some true)
    (evNoDeed : PySem.W.subIn K (.ref C_NoDeed) (.type "ValueError") = some true)
    (eaNoDeed : PySem.W.findIn K (.ref C_NoDeed) "__class__" = some (some (.builtin "object.__class__")))
    (emNoDeed : PySem.W.mroIn K C_NoDeed (.type "object") = some true)
    (esNoDeed_NoLand : PySem.W.subIn K (.ref C_NoDeed) (.ref C_NoLand) = some false)
    (esNoDeed_NoText : PySem.W.subIn K (.ref C_NoDeed) (.ref C_NoText) = some false)
    (esNoDeed_NoCell : PySem.W.subIn K (.ref C_NoDeed) (.ref C_NoCell) = some false)
    (esNoDeed_NoDay : PySem.W.subIn K (.ref C_NoDeed) (.ref C_NoDay) = some false)
    (esNoDeed_NoHand : PySem.W.subIn K (.ref C_NoDeed) (.ref C_NoHand) = some false)
    (esNoDeed_TooMany : PySem.W.subIn K (.ref C_NoDeed) (.ref C_TooMany) = some false)
    (esNoDeed_Unlike : PySem.W.subIn K (.ref C_NoDeed) (.ref C_Unlike) = some false)
    (z_int : PySem.W.nsIn K mainGlobals "int" = some none)
    (z_isinstance : PySem.W.nsIn K mainGlobals "isinstance" = some none)
    (z_bool : PySem.W.nsIn K mainGlobals "bool" = some none)
    (z_tuple : PySem.W.nsIn K mainGlobals "tuple" = some none)
    (z_len : PySem.W.nsIn K mainGlobals "len" = some none)
    (z_sorted : PySem.W.nsIn K mainGlobals "sorted" = some none)
    (z_max : PySem.W.nsIn K mainGlobals "max" = some none)
    (z_min : PySem.W.nsIn K mainGlobals "min" = some none)
    (z_str : PySem.W.nsIn K mainGlobals "str" = some none)
    (z_all : PySem.W.nsIn K mainGlobals "all" = some none)
    (z_list : PySem.W.nsIn K mainGlobals "list" = some none)
    (z_enumerate : PySem.W.nsIn K mainGlobals "enumerate" = some none)
    (z_abs : PySem.W.nsIn K mainGlobals "abs" = some none)
    (z_range : PySem.W.nsIn K mainGlobals "range" = some none)
    (z_ValueError : PySem.W.nsIn K mainGlobals "ValueError" = some none)
    (z_repr : PySem.W.nsIn K mainGlobals "repr" = some none)
    (gC : PySem.W.nsIn K mainGlobals "Land" = some (some (.ref C_Land)))
    (c1 : PySem.W.plainGet K C_Land Str.empty = true)
    (c2 : PySem.W.hasDictIn K C_Land = true)
    (c3 : PySem.W.plainOver K C_Land = true)
    (c4 : PySem.W.findIn K (.ref C_Land) "__setattr__" = some (some (.builtin "object.__setattr__")))
    (c5 : PySem.W.findIn K (.ref C_Land) "__class__" = some (some (.builtin "object.__class__")))
    (c6 : PySem.W.specialIn K (.builtin "object.__class__") "__get__" = some (some (.builtin "getset_descriptor.__get__")))
    (c7 : PySem.W.takesIn K (.builtin "object.__class__") = some true)
    (c8 : PySem.W.mroIn K C_Land (.type "object") = some true)
    (c11 : PySem.W.isClsIn K C_Land = true)
    (c12 : PySem.W.typeIn K (.ref C_Land) = some (.type "type"))
    (c9 : PySem.W.makesIn K C_Land = true)
    (c10 : PySem.W.keepIn K (.ref C_Land) = true)
    (n_cells : PySem.W.findIn K (.ref C_Land) "_cells" = some none)
    (n_hand : PySem.W.findIn K (.ref C_Land) "_hand" = some none)
    (n_grow : PySem.W.findIn K (.ref C_Land) "_grow" = some none)
    (n_lapse : PySem.W.findIn K (.ref C_Land) "_lapse" = some none)
    (n_roads : PySem.W.findIn K (.ref C_Land) "_roads" = some none)
    (o_obj : PySem.W.notFirst K C_Land (.type "object") = true)
    (o_tuple : PySem.W.notFirst K C_Land (.type "tuple") = true)
    (kk_tuple : PySem.W.subIn K (.type "tuple") (.ref C_Land) = some false)
    (o_str : PySem.W.notFirst K C_Land (.type "str") = true)
    (kk_str : PySem.W.subIn K (.type "str") (.ref C_Land) = some false)
    (gAPARTS : PySem.W.nsIn K mainGlobals "PARTS" = some (some (.ref A_PARTS)))
    (lAPARTS : K.lookup A_PARTS = some od_PARTS)
    (dAPARTS : od_PARTS.cls = .type "dict" ∧ od_PARTS.dict = none ∧ od_PARTS.data = .dict oe_PARTS op_PARTS)
    (rAPARTS : KTD.Rows (fun (v : V) (u : Value) => L2.RelV v u) oe_PARTS.toList [("sale", .ref A_PARTS_0), ("grant", .ref A_PARTS_1), ("end", .ref A_PARTS_2), ("use", .ref A_PARTS_3)])
    (sAPARTS : (A_PARTS == sysModules) = false)
    (lBPARTS_0 : K.lookup A_PARTS_0 = some ot_PARTS_0)
    (dBPARTS_0 : ot_PARTS_0.cls = .type "tuple" ∧ ot_PARTS_0.data = .seq ov_PARTS_0 om_PARTS_0)
    (vBPARTS_0 : Vals [.str "day", .str "stretch", .str "hand"] ov_PARTS_0.toList)
    (zBPARTS_0 : ov_PARTS_0.size ≤ sizeLine)
    (lBPARTS_1 : K.lookup A_PARTS_1 = some ot_PARTS_1)
    (dBPARTS_1 : ot_PARTS_1.cls = .type "tuple" ∧ ot_PARTS_1.data = .seq ov_PARTS_1 om_PARTS_1)
    (vBPARTS_1 : Vals [.str "day", .str "hand", .str "stretch", .str "stretch"] ov_PARTS_1.toList)
    (zBPARTS_1 : ov_PARTS_1.size ≤ sizeLine)
    (lBPARTS_2 : K.lookup A_PARTS_2 = some ot_PARTS_2)
    (dBPARTS_2 : ot_PARTS_2.cls = .type "tuple" ∧ ot_PARTS_2.data = .seq ov_PARTS_2 om_PARTS_2)
    (vBPARTS_2 : Vals [.str "day", .str "hand", .str "stretch", .str "stretch"] ov_PARTS_2.toList)
    (zBPARTS_2 : ov_PARTS_2.size ≤ sizeLine)
    (lBPARTS_3 : K.lookup A_PARTS_3 = some ot_PARTS_3)
    (dBPARTS_3 : ot_PARTS_3.cls = .type "tuple" ∧ ot_PARTS_3.data = .seq ov_PARTS_3 om_PARTS_3)
    (vBPARTS_3 : Vals [.str "day", .str "last", .str "stretch", .str "stretch", .str "leave"] ov_PARTS_3.toList)
    (zBPARTS_3 : ov_PARTS_3.size ≤ sizeLine)
    (c_MOST_CELLS : PySem.W.nsIn K mainGlobals "MOST_CELLS" = some (some (.int 1000000000000000000000000000000 t_MOST_CELLS)))
    (c_MOST_DAYS : PySem.W.nsIn K mainGlobals "MOST_DAYS" = some (some (.int 1000000000000 t_MOST_DAYS)))
    (c_MOST_ROADS : PySem.W.nsIn K mainGlobals "MOST_ROADS" = some (some (.int 8 t_MOST_ROADS)))
    (c_MOST_LETTERS : PySem.W.nsIn K mainGlobals "MOST_LETTERS" = some (some (.int 8 t_MOST_LETTERS)))
    (c_LAST_DAY : PySem.W.nsIn K mainGlobals "LAST_DAY" = some (some (.int 1000000000000000000000000000000 t_LAST_DAY))) :
    ∃ fd : FuncData, (∀ (s : Shared) (v : Value), BindsTo s fd ⟨[v], []⟩ [("script", v)]) ∧ ∀ base : Heap, K.In base → base.Ns mainGlobals mg → FnG l.prog w K mg base 8 fa fd ["script"] (sp_law K) := by
  have e := hfa.symm.trans (PySem.W.mg_of X G a31)
  cases e
  have F0 := fun_mk (st := s_is_whole) l0 p0 k0
  have F1 := fun_mk (st := s_is_stretch) l1 p1 k1
  have F2 := fun_mk (st := s_least) l2 p2 k2
  have F3 := fun_mk (st := s_both) l3 p3 k3
  have F4 := fun_mk (st := s__end) l4 p4 k4
  have F5 := fun_mk (st := s_is_hand) l5 p5 k5
  have F6 : FunD K "__init__" "Land.__init__" (defArgs s_Land___init__) (defBody s_Land___init__) (defScope s_Land___init__) [] [("grow", .int 20), ("lapse", .int 20), ("roads", .ref T_Land_roads)] f_Land___init__ _ := ⟨⟨_, _, _, _, _, _, _, _, _, _, rfl, l6, p6, .inl ⟨rfl, rfl⟩, .inr ⟨_, rfl, (kwd_cons q6_grow ⟨_, rfl⟩ (kwd_cons q6_lapse ⟨_, rfl⟩ (kwd_cons q6_roads rfl kwd_nil)))⟩⟩, k6⟩
  have F7 := fun_mk (st := s_Land_cells) l7 p7 k7
  have F8 := fun_mk (st := s_Land_hand) l8 p8 k8
  have F9 := fun_mk (st := s_Land_grow) l9 p9 k9
  have F10 := fun_mk (st := s_Land_lapse) l10 p10 k10
  have F11 := fun_mk (st := s_Land_roads) l11 p11 k11
  have F12 := fun_mk (st := s_Land___eq__) l12 p12 k12
  have F13 := fun_mk (st := s_Land___repr__) l13 p13 k13
  have F14 := fun_mk (st := s__is_amount) l14 p14 k14
  have F15 := fun_mk (st := s__are_roads) l15 p15 k15
  have F16 := fun_mk (st := s_look_deed) l16 p16 k16
  have F17 := fun_mk (st := s_parts_of) l17 p17 k17
  have F18 := fun_mk (st := s_is_day) l18 p18 k18
  have F19 := fun_mk (st := s__wrong_part) l19 p19 k19
  have F20 := fun_mk (st := s__is_part) l20 p20 k20
  have F21 := fun_mk (st := s__law_bag) l21 p21 k21
  have F22 := fun_mk (st := s__law_take) l22 p22 k22
  have F23 := fun_mk (st := s__law_names) l23 p23 k23
  have F24 := fun_mk (st := s__law_plan) l24 p24 k24
  have F25 := fun_mk (st := s__law_land) l25 p25 k25
  have F26 := fun_mk (st := s__law_stretch) l26 p26 k26
  have F27 := fun_mk (st := s__law_deed) l27 p27 k27
  have F28 := fun_mk (st := s__law_odd) l28 p28 k28
  have F29 := fun_mk (st := s__law_bent) l29 p29 k29
  have F30 := fun_mk (st := s__law_told) l30 p30 k30
  have F31 := fun_mk (st := s_law) l31 p31 k31
  have FeNoDeed := fun_mk (st := se_NoDeed) elNoDeed epNoDeed ekNoDeed
  exact ⟨_, fun s v => .of_eq rfl, fun base _ _ => ok_law (Z := ⟨C_Land, T_Land_roads, C_NoLand, C_NoDeed, C_NoText, C_NoCell, C_NoDay, C_NoHand, C_TooMany, C_Unlike, A_PARTS, A_PARTS_0, A_PARTS_1, A_PARTS_2, A_PARTS_3⟩) ⟨F0, PySem.W.mg_of X G a0, F0.binds (ps := ["thing"]) fun _ _ _ _ _ _ us hl => match us, hl with | [_], _ => rfl, F1, PySem.W.mg_of X G a1, F1.binds (ps := ["thing"]) fun _ _ _ _ _ _ us hl => match us, hl with | [_], _ => rfl, F2, PySem.W.mg_of X G a2, F2.binds (ps := ["stretches"]) fun _ _ _ _ _ _ us hl => match us, hl with | [_], _ => rfl, F3, PySem.W.mg_of X G a3, F3.binds (ps := ["one", "other"]) fun _ _ _ _ _ _ us hl => match us, hl with | [_, _], _ => rfl, F4, PySem.W.mg_of X G a4, F4.binds (ps := ["stretch"]) fun _ _ _ _ _ _ us hl => match us, hl with | [_], _ => rfl, F5, PySem.W.mg_of X G a5, F5.binds (ps := ["thing"]) fun _ _ _ _ _ _ us hl => match us, hl with | [_], _ => rfl, F6, a6, i6, F7, a7, i7, F7.binds (ps := ["self"]) fun _ _ _ _ _ _ us hl => match us, hl with | [_], _ => rfl, F8, a8, i8, F8.binds (ps := ["self"]) fun _ _ _ _ _ _ us hl => match us, hl with | [_], _ => rfl, F9, a9, i9, F9.binds (ps := ["self"]) fun _ _ _ _ _ _ us hl => match us, hl with | [_], _ => rfl, F10, a10, i10, F10.binds (ps := ["self"]) fun _ _ _ _ _ _ us hl => match us, hl with | [_], _ => rfl, F11, a11, i11, F11.binds (ps := ["self"]) fun _ _ _ _ _ _ us hl => match us, hl with | [_], _ => rfl, F12, a12, i12, F12.binds (ps := ["self", "other"]) fun _ _ _ _ _ _ us hl => match us, hl with | [_, _], _ => rfl, F13, a13, i13, F13.binds (ps := ["self"]) fun _ _ _ _ _ _ us hl => match us, hl with | [_], _ => rfl, F14, PySem.W.mg_of X G a14, F14.binds (ps := ["thing", "most"]) fun _ _ _ _ _ _ us hl => match us, hl with | [_, _], _ => rfl, F15, PySem.W.mg_of X G a15, F15.binds (ps := ["thing", "cells"]) fun _ _ _ _ _ _ us hl => match us, hl with | [_, _], _ => rfl, F16, PySem.W.mg_of X G a16, F16.binds (ps := ["land", "thing"]) fun _ _ _ _ _ _ us hl => match us, hl with | [_, _], _ => rfl, F17, PySem.W.mg_of X G a17, F17.binds (ps := ["word"]) fun _ _ _ _ _ _ us hl => match us, hl with | [_], _ => rfl, F18, PySem.W.mg_of X G a18, F18.binds (ps := ["thing"]) fun _ _ _ _ _ _ us hl => match us, hl with | [_], _ => rfl, F19, PySem.W.mg_of X G a19, F19.binds (ps := ["land", "thing"]) fun _ _ _ _ _ _ us hl => match us, hl with | [_, _], _ => rfl, F20, PySem.W.mg_of X G a20, F20.binds (ps := ["land", "part", "thing", "ahead"]) fun _ _ _ _ _ _ us hl => match us, hl with | [_, _, _, _], _ => rfl, F21, PySem.W.mg_of X G a21, F21.binds (ps := ["script", "at"]) fun _ _ _ _ _ _ us hl => match us, hl with | [_, _], _ => rfl, F22, PySem.W.mg_of X G a22, F22.binds (ps := ["bag", "size"]) fun _ _ _ _ _ _ us hl => match us, hl with | [_, _], _ => rfl, F23, PySem.W.mg_of X G a23, F23.binds (ps := ["bag", "size"]) fun _ _ _ _ _ _ us hl => match us, hl with | [_, _], _ => rfl, F24, PySem.W.mg_of X G a24, F24.binds (ps := ["bag"]) fun _ _ _ _ _ _ us hl => match us, hl with | [_], _ => rfl, F25, PySem.W.mg_of X G a25, F25.binds (ps := ["plan"]) fun _ _ _ _ _ _ us hl => match us, hl with | [_], _ => rfl, F26, PySem.W.mg_of X G a26, F26.binds (ps := ["bag", "plan"]) fun _ _ _ _ _ _ us hl => match us, hl with | [_, _], _ => rfl, F27, PySem.W.mg_of X G a27, F27.binds (ps := ["bag", "plan"]) fun _ _ _ _ _ _ us hl => match us, hl with | [_, _], _ => rfl, F28, PySem.W.mg_of X G a28, F28.binds (ps := ["bag", "plan", "part"]) fun _ _ _ _ _ _ us hl => match us, hl with | [_, _, _], _ => rfl, F29, PySem.W.mg_of X G a29, F29.binds (ps := ["bag", "plan", "deed"]) fun _ _ _ _ _ _ us hl => match us, hl with | [_, _, _], _ => rfl, F30, PySem.W.mg_of X G a30, F30.binds (ps := ["plan", "made"]) fun _ _ _ _ _ _ us hl => match us, hl with | [_, _], _ => rfl, F31, PySem.W.mg_of X G a31, F31.binds (ps := ["script"]) fun _ _ _ _ _ _ us hl => match us, hl with | [_], _ => rfl, ⟨⟨⟨c1, c2, c3, c4⟩, c5, c6, c7, c8⟩, n_cells, n_hand, n_grow, n_lapse, n_roads, o_tuple, o_str, o_obj, kit_own c11 c12 kk_tuple, kit_own c11 c12 kk_str, sqt_of lT_Land_roads cT_Land_roads dT_Land_roads, ⟨⟨gaNoDeed, ggNoDeed, eCNoDeed, hCNoDeed, eaNoDeed, c6, c7, emNoDeed⟩, ⟨_, (.cons (.own _) (.cons (.own _) (.cons (.own _) (.cons (.own _) (.cons (.own _) (.cons (.own _) (.cons (.own _) .nil))))))), (kitAny_f (kit_ref ec1NoLand ec2NoLand sCNoDeed esNoDeed_NoLand) (kitAny_f (kit_ref ec1NoText ec2NoText sCNoDeed esNoDeed_NoText) (kitAny_f (kit_ref ec1NoCell ec2NoCell sCNoDeed esNoDeed_NoCell) (kitAny_f (kit_ref ec1NoDay ec2NoDay sCNoDeed esNoDeed_NoDay) (kitAny_f (kit_ref ec1NoHand ec2NoHand sCNoDeed esNoDeed_NoHand) (kitAny_f (kit_ref ec1TooMany ec2TooMany sCNoDeed esNoDeed_TooMany) (kitAny_f (kit_ref ec1Unlike ec2Unlike sCNoDeed esNoDeed_Unlike) rfl)))))))⟩, kit_ve evNoDeed, exm_self eCNoDeed ec1NoDeed ec2NoDeed sCNoDeed⟩, fun M H => (.cons (.tupK ⟨_, _, _, lBPARTS_0, dBPARTS_0.1, dBPARTS_0.2, zBPARTS_0, vBPARTS_0⟩ (.cons (.str _) (.cons (.str _) (.cons (.str _) .nil))) rfl) (.cons (.tupK ⟨_, _, _, lBPARTS_1, dBPARTS_1.1, dBPARTS_1.2, zBPARTS_1, vBPARTS_1⟩ (.cons (.str _) (.cons (.str _) (.cons (.str _) (.cons (.str _) .nil)))) rfl) (.cons (.tupK ⟨_, _, _, lBPARTS_2, dBPARTS_2.1, dBPARTS_2.2, zBPARTS_2, vBPARTS_2⟩ (.cons (.str _) (.cons (.str _) (.cons (.str _) (.cons (.str _) .nil)))) rfl) (.cons (.tupK ⟨_, _, _, lBPARTS_3, dBPARTS_3.1, dBPARTS_3.2, zBPARTS_3, vBPARTS_3⟩ (.cons (.str _) (.cons (.str _) (.cons (.str _) (.cons (.str _) (.cons (.str _) .nil))))) rfl) .nil))))⟩, PySem.W.mg_of X G gC, ⟨c9, a6, i6, c10⟩, PySem.W.mg_of X G gCNoLand, PySem.W.mg_of X G gCNoDeed, PySem.W.mg_of X G gCNoText, PySem.W.mg_of X G gCNoCell, PySem.W.mg_of X G gCNoDay, PySem.W.mg_of X G gCNoHand, PySem.W.mg_of X G gCTooMany, PySem.W.mg_of X G gCUnlike, ⟨⟨⟨_, _, _, _, _, _, _, _, _, _, _, _, _, _, _, xLNoDeed, by decide +kernel⟩, saNoDeed, eCNoDeed, ec2NoDeed, kCNoDeed⟩, PySem.W.mg_of X G gCNoDeed, nbNoDeed, eiNoDeed, etNoDeed, gaNoDeed, ggNoDeed, hCNoDeed⟩, ⟨gaNoDeed, ggNoDeed, eCNoDeed, hCNoDeed⟩, FeNoDeed, FeNoDeed.binds (ps := ["self", "number"]) fun _ _ _ _ _ _ us hl => match us, hl with | [_, _], _ => rfl, ⟨sAPARTS, _, _, _, lAPARTS, dAPARTS.1, dAPARTS.2.1, dAPARTS.2.2, rAPARTS⟩, PySem.W.mg_of X G gAPARTS, PySem.W.mg_none_of X G z_int, PySem.W.mg_none_of X G z_isinstance, PySem.W.mg_none_of X G z_bool, PySem.W.mg_none_of X G z_tuple, PySem.W.mg_none_of X G z_len, PySem.W.mg_none_of X G z_sorted, PySem.W.mg_none_of X G z_max, PySem.W.mg_none_of X G z_min, PySem.W.mg_none_of X G z_str, PySem.W.mg_none_of X G z_all, PySem.W.mg_none_of X G z_list, PySem.W.mg_none_of X G z_enumerate, PySem.W.mg_none_of X G z_abs, PySem.W.mg_none_of X G z_range, PySem.W.mg_none_of X G z_ValueError, PySem.W.mg_none_of X G z_repr, ⟨_, PySem.W.mg_of X G c_MOST_CELLS⟩, ⟨_, PySem.W.mg_of X G c_MOST_DAYS⟩, ⟨_, PySem.W.mg_of X G c_MOST_ROADS⟩, ⟨_, PySem.W.mg_of X G c_MOST_LETTERS⟩, ⟨_, PySem.W.mg_of X G c_LAST_DAY⟩⟩⟩

end K07
open PySem PySem.W PyProof.Rows in
set_option maxRecDepth 100000 in
set_option maxHeartbeats 0 in
theorem PySem.Challenge.cw_oldways_k07_deeds_vetted_holds : PySem.Challenge.rw_oldways_k07_deeds_vetted.Holds := by
  w_on; o_law; k_head; (case hw => w_witness2)
  k_fill
  refine DL.walkG (l := PySem.Challenge.rw_oldways_k07_deeds_vetted) (n := 63) (k := 8) (x := "script") (sp := fun K => K07.sp_law K) rfl (by decide) rfl ⟨rfl, by decide, by decide⟩ (fun w h Y => PySem.W.kIn_of Y) ?F (fun K H a ns hl ho hS => K07.law_end hl ho hS)
  case F =>
    intro w mg fa h KX G hmg
    refine' K07.all_mk KX G hmg ?a0 ?l0 ?p0 ?k0 ?a1 ?l1 ?p1 ?k1 ?a2 ?l2 ?p2 ?k2 ?a3 ?l3 ?p3 ?k3 ?a4 ?l4 ?p4 ?k4 ?a5 ?l5 ?p5 ?k5 ?a6 ?i6 ?l6 ?q6_grow ?q6_lapse ?q6_roads ?lT_Land_roads ?cT_Land_roads ?dT_Land_roads ?p6 ?k6 ?a7 ?i7 ?l7 ?p7 ?k7 ?a8 ?i8 ?l8 ?p8 ?k8 ?a9 ?i9 ?l9 ?p9 ?k9 ?a10 ?i10 ?l10 ?p10 ?k10 ?a11 ?i11 ?l11 ?p11 ?k11 ?a12 ?i12 ?l12 ?p12 ?k12 ?a13 ?i13 ?l13 ?p13 ?k13 ?a14 ?l14 ?p14 ?k14 ?a15 ?l15 ?p15 ?k15 ?a16 ?l16 ?p16 ?k16 ?a17 ?l17 ?p17 ?k17 ?a18 ?l18 ?p18 ?k18 ?a19 ?l19 ?p19 ?k19 ?a20 ?l20 ?p20 ?k20 ?a21 ?l21 ?p21 ?k21 ?a22 ?l22 ?p22 ?k22 ?a23 ?l23 ?p23 ?k23 ?a24 ?l24 ?p24 ?k24 ?a25 ?l25 ?p25 ?k25 ?a26 ?l26 ?p26 ?k26 ?a27 ?l27 ?p27 ?k27 ?a28 ?l28 ?p28 ?k28 ?a29 ?l29 ?p29 ?k29 ?a30 ?l30 ?p30 ?k30 ?a31 ?l31 ?p31 ?k31 ?gCNoLand ?ec1NoLand ?ec2NoLand ?gCNoDeed ?ec1NoDeed ?ec2NoDeed ?gCNoText ?ec1NoText ?ec2NoText ?gCNoCell ?ec1NoCell ?ec2NoCell ?gCNoDay ?ec1NoDay ?ec2NoDay ?gCNoHand ?ec1NoHand ?ec2NoHand ?gCTooMany ?ec1TooMany ?ec2TooMany ?gCUnlike ?ec1Unlike ?ec2Unlike ?xLNoDeed ?saNoDeed ?gaNoDeed ?ggNoDeed ?nbNoDeed ?eiNoDeed ?etNoDeed ?elNoDeed ?epNoDeed ?ekNoDeed ?kCNoDeed ?eCNoDeed ?hCNoDeed ?sCNoDeed ?evNoDeed ?eaNoDeed ?emNoDeed ?esNoDeed_NoLand ?esNoDeed_NoText ?esNoDeed_NoCell ?esNoDeed_NoDay ?esNoDeed_NoHand ?esNoDeed_TooMany ?esNoDeed_Unlike ?z_int ?z_isinstance ?z_bool ?z_tuple ?z_len ?z_sorted ?z_max ?z_min ?z_str ?z_all ?z_list ?z_enumerate ?z_abs ?z_range ?z_ValueError ?z_repr ?gC ?c1 ?c2 ?c3 ?c4 ?c5 ?c6 ?c7 ?c8 ?c11 ?c12 ?c9 ?c10 ?n_cells ?n_hand ?n_grow ?n_lapse ?n_roads ?o_obj ?o_tuple ?kk_tuple ?o_str ?kk_str ?gAPARTS ?lAPARTS ?dAPARTS ?rAPARTS ?sAPARTS ?lBPARTS_0 ?dBPARTS_0 ?vBPARTS_0 ?zBPARTS_0 ?lBPARTS_1 ?dBPARTS_1 ?vBPARTS_1 ?zBPARTS_1 ?lBPARTS_2 ?dBPARTS_2 ?vBPARTS_2 ?zBPARTS_2 ?lBPARTS_3 ?dBPARTS_3 ?vBPARTS_3 ?zBPARTS_3 ?c_MOST_CELLS ?c_MOST_DAYS ?c_MOST_ROADS ?c_MOST_LETTERS ?c_LAST_DAY
    (case gCNoLand => k_is)
    (case gCNoDeed => k_is)
    (case gCNoText => k_is)
    (case gCNoCell => k_is)
    (case gCNoDay => k_is)
    (case gCNoHand => k_is)
    (case gCTooMany => k_is)
    (case gCUnlike => k_is)
    (case gC => k_is)
    (case a0 => k_is)
    (case l0 => k_is)
    (case p0 => k_is)
    (case k0 => k_is)
    (case a1 => k_is)
    (case l1 => k_is)
    (case p1 => k_is)
    (case k1 => k_is)
    (case a2 => k_is)
    (case l2 => k_is)
    (case p2 => k_is)
    (case k2 => k_is)
    (case a3 => k_is)
    (case l3 => k_is)
    (case p3 => k_is)
    (case k3 => k_is)
    (case a4 => k_is)
    (case l4 => k_is)
    (case p4 => k_is)
    (case k4 => k_is)
    (case a5 => k_is)
    (case l5 => k_is)
    (case p5 => k_is)
    (case k5 => k_is)
    (case a6 => k_is)
    (case i6 => k_is)
    (case l6 => k_is)
    (case q6_grow => k_is)
    (case q6_lapse => k_is)
    (case q6_roads => k_is)
    (case lT_Land_roads => k_is)
    (case p6 => k_is)
    (case k6 => k_is)
    (case a7 => k_is)
    (case i7 => k_is)
    (case l7 => k_is)
    (case p7 => k_is)
    (case k7 => k_is)
    (case a8 => k_is)
    (case i8 => k_is)
    (case l8 => k_is)
    (case p8 => k_is)
    (case k8 => k_is)
    (case a9 => k_is)
    (case i9 => k_is)
    (case l9 => k_is)
    (case p9 => k_is)
    (case k9 => k_is)
    (case a10 => k_is)
    (case i10 => k_is)
    (case l10 => k_is)
    (case p10 => k_is)
    (case k10 => k_is)
    (case a11 => k_is)
    (case i11 => k_is)
    (case l11 => k_is)
    (case p11 => k_is)
    (case k11 => k_is)
    (case a12 => k_is)
    (case i12 => k_is)
    (case l12 => k_is)
    (case p12 => k_is)
    (case k12 => k_is)
    (case a13 => k_is)
    (case i13 => k_is)
    (case l13 => k_is)
    (case p13 => k_is)
    (case k13 => k_is)
    (case a14 => k_is)
    (case l14 => k_is)
    (case p14 => k_is)
    (case k14 => k_is)
    (case a15 => k_is)
    (case l15 => k_is)
    (case p15 => k_is)
    (case k15 => k_is)
    (case a16 => k_is)
    (case l16 => k_is)
    (case p16 => k_is)
    (case k16 => k_is)
    (case a17 => k_is)
    (case l17 => k_is)
    (case p17 => k_is)
    (case k17 => k_is)
    (case a18 => k_is)
    (case l18 => k_is)
    (case p18 => k_is)
    (case k18 => k_is)
    (case a19 => k_is)
    (case l19 => k_is)
    (case p19 => k_is)
    (case k19 => k_is)
    (case a20 => k_is)
    (case l20 => k_is)
    (case p20 => k_is)
    (case k20 => k_is)
    (case a21 => k_is)
    (case l21 => k_is)
    (case p21 => k_is)
    (case k21 => k_is)
    (case a22 => k_is)
    (case l22 => k_is)
    (case p22 => k_is)
    (case k22 => k_is)
    (case a23 => k_is)
    (case l23 => k_is)
    (case p23 => k_is)
    (case k23 => k_is)
    (case a24 => k_is)
    (case l24 => k_is)
    (case p24 => k_is)
    (case k24 => k_is)
    (case a25 => k_is)
    (case l25 => k_is)
    (case p25 => k_is)
    (case k25 => k_is)
    (case a26 => k_is)
    (case l26 => k_is)
    (case p26 => k_is)
    (case k26 => k_is)
    (case a27 => k_is)
    (case l27 => k_is)
    (case p27 => k_is)
    (case k27 => k_is)
    (case a28 => k_is)
    (case l28 => k_is)
    (case p28 => k_is)
    (case k28 => k_is)
    (case a29 => k_is)
    (case l29 => k_is)
    (case p29 => k_is)
    (case k29 => k_is)
    (case a30 => k_is)
    (case l30 => k_is)
    (case p30 => k_is)
    (case k30 => k_is)
    (case a31 => k_is)
    (case l31 => k_is)
    (case p31 => k_is)
    (case k31 => k_is)
    (case ec1NoLand => k_is)
    (case ec2NoLand => k_is)
    (case ec1NoDeed => k_is)
    (case ec2NoDeed => k_is)
    (case ec1NoText => k_is)
    (case ec2NoText => k_is)
    (case ec1NoCell => k_is)
    (case ec2NoCell => k_is)
    (case ec1NoDay => k_is)
    (case ec2NoDay => k_is)
    (case ec1NoHand => k_is)
    (case ec2NoHand => k_is)
    (case ec1TooMany => k_is)
    (case ec2TooMany => k_is)
    (case ec1Unlike => k_is)
    (case ec2Unlike => k_is)
    (case xLNoDeed => k_is)
    (case saNoDeed => k_is)
    (case gaNoDeed => k_is)
    (case ggNoDeed => k_is)
    (case nbNoDeed => k_is)
    (case eiNoDeed => k_is)
    (case etNoDeed => k_is)
    (case elNoDeed => k_is)
    (case epNoDeed => k_is)
    (case ekNoDeed => k_is)
    (case kCNoDeed => k_is)
    (case eCNoDeed => k_is)
    (case hCNoDeed => k_is)
    (case sCNoDeed => k_is)
    (case evNoDeed => k_is)
    (case eaNoDeed => k_is)
    (case emNoDeed => k_is)
    (case esNoDeed_NoLand => k_is)
    (case esNoDeed_NoText => k_is)
    (case esNoDeed_NoCell => k_is)
    (case esNoDeed_NoDay => k_is)
    (case esNoDeed_NoHand => k_is)
    (case esNoDeed_TooMany => k_is)
    (case esNoDeed_Unlike => k_is)
    (case z_int => k_is)
    (case z_isinstance => k_is)
    (case z_bool => k_is)
    (case z_tuple => k_is)
    (case z_len => k_is)
    (case z_sorted => k_is)
    (case z_max => k_is)
    (case z_min => k_is)
    (case z_str => k_is)
    (case z_all => k_is)
    (case z_list => k_is)
    (case z_enumerate => k_is)
    (case z_abs => k_is)
    (case z_range => k_is)
    (case z_ValueError => k_is)
    (case z_repr => k_is)
    (case c1 => k_is)
    (case c2 => k_is)
    (case c3 => k_is)
    (case c4 => k_is)
    (case c5 => k_is)
    (case c6 => k_is)
    (case c7 => k_is)
    (case c8 => k_is)
    (case c11 => k_is)
    (case c12 => k_is)
    (case c9 => k_is)
    (case c10 => k_is)
    (case n_cells => k_is)
    (case n_hand => k_is)
    (case n_grow => k_is)
    (case n_lapse => k_is)
    (case n_roads => k_is)
    (case o_obj => k_is)
    (case o_tuple => k_is)
    (case kk_tuple => k_is)
    (case o_str => k_is)
    (case kk_str => k_is)
    (case gAPARTS => k_is)
    (case lAPARTS => k_is)
    (case c_MOST_CELLS => k_is)
    (case c_MOST_DAYS => k_is)
    (case c_MOST_ROADS => k_is)
    (case c_MOST_LETTERS => k_is)
    (case c_LAST_DAY => k_is)
    (case cT_Land_roads => rfl)
    (case dT_Land_roads => rfl)
    (case dAPARTS => exact ⟨rfl, rfl, rfl⟩)
    (case rAPARTS => exact (.cons rfl rfl (.cons rfl rfl (.cons rfl rfl (.cons rfl rfl .nil)))))
    (case sAPARTS => first | rfl | decide | decide +kernel)
    (case lBPARTS_0 => k_is)
    (case dBPARTS_0 => exact ⟨rfl, rfl⟩)
    (case vBPARTS_0 => exact (.cons ⟨_, rfl⟩ (.cons ⟨_, rfl⟩ (.cons ⟨_, rfl⟩ .nil))))
    (case zBPARTS_0 => first | exact Nat.le_of_ble_eq_true rfl | decide)
    (case lBPARTS_1 => k_is)
    (case dBPARTS_1 => exact ⟨rfl, rfl⟩)
    (case vBPARTS_1 => exact (.cons ⟨_, rfl⟩ (.cons ⟨_, rfl⟩ (.cons ⟨_, rfl⟩ (.cons ⟨_, rfl⟩ .nil)))))
    (case zBPARTS_1 => first | exact Nat.le_of_ble_eq_true rfl | decide)
    (case lBPARTS_2 => k_is)
    (case dBPARTS_2 => exact ⟨rfl, rfl⟩)
    (case vBPARTS_2 => exact (.cons ⟨_, rfl⟩ (.cons ⟨_, rfl⟩ (.cons ⟨_, rfl⟩ (.cons ⟨_, rfl⟩ .nil)))))
    (case zBPARTS_2 => first | exact Nat.le_of_ble_eq_true rfl | decide)
    (case lBPARTS_3 => k_is)
    (case dBPARTS_3 => exact ⟨rfl, rfl⟩)
    (case vBPARTS_3 => exact (.cons ⟨_, rfl⟩ (.cons ⟨_, rfl⟩ (.cons ⟨_, rfl⟩ (.cons ⟨_, rfl⟩ (.cons ⟨_, rfl⟩ .nil))))))
    (case zBPARTS_3 => first | exact Nat.le_of_ble_eq_true rfl | decide)
