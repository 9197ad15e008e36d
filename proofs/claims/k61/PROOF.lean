import PyProof.Rows.All
import Wide.All
import OpenK.AllK
import Wide.FinOn
import HandS.ForMost
import HandS.Walk
import HandS.Lambda
import HandS.Strs
import HandS.WordsList
import HandS.Comp
import HandS.Text
import HandS.Conv
import PyProof.ListStr
import HandS.IsInst
import HandS.Iter
import KE.GoesEnum
import KE.SortData
import HandS.SortInts
import HandS.TupAny
import HandS.TupLe
import HandS.Wide
import HandS.WideBits
import PyProof.P3In
import HandS.Deep
import HandS.Call
import HandS.WordsExc
import PyProof.ReprRoads
import HandS.Property
import HandS.Defaults
import PyProof.EnumMake
import KE.GoesMore
import PyProof.Draws
import HandS.Zip
import HandS.DictComp
import HandS.Dict
import HandS.SetBool
import PyProof.CollectStr
import HandS.More
import HandS.Style
import HandS.TupMul
import HandS.OwnEq
import KE.KFmtOwn
import KE.KOpsOwn
import HandS.Star
import HandS.SetFor
import HandS.SetKeys
import PyProof.SetRoads
import PySem.Challenge.RW_fewheld_k61_windows_in_order
import HandS.EndTab
import KE.KNest
set_option Elab.async false
set_option linter.all false
set_option maxRecDepth 100000
set_option maxHeartbeats 2000000
/-! data: what values denote, over a heap of which a part is frozen -/
namespace Dl
open PySem PySem.Spec PyProof.Rows L2

/-- data without addresses -/
inductive D where
  | non | bl (b : Bool) | int (i : Int) | str (x : Str) | ty (n : String)
  | tup (ds : List D) | lst (ds : List D)
  | dk (ds : List (Key × D)) | dt (ds : List (List Key × D))
  | ins (C : Addr) (fs : List (Str × D))
  | set (w : World) (S : Int → Bool) (n : Nat)
  | scr (ns : List Int)

mutual
/-- the value denotes the datum, within the frozen heap -/
inductive Den (K : PySem.W.Frag) (F : Hp) : D → V → Prop where
  | non : Den K F .non .non
  | bl (b : Bool) : Den K F (.bl b) (.bl b)
  | int (i : Int) : Den K F (.int i) (.int i)
  | str (x : Str) : x.length ≤ sizeLine → Den K F (.str x) (.str x)
  | ty (n : String) : Den K F (.ty n) (.ty n)
  | tup {a : Addr} {xs : List V} {ds : List D} : F a = some (.tup xs) → xs.length ≤ sizeLine → Dens K F ds xs → Den K F (.tup ds) (.ref a)
  | lst {a : Addr} {xs : List V} {ds : List D} : F a = some (.lst xs) → xs.length ≤ sizeLine → Dens K F ds xs → Den K F (.lst ds) (.ref a)
  | dk {a : Addr} {kvs : List (Key × V)} {ds : List (Key × D)} : Rd F a (.dK kvs) → kvs.length ≤ sizeLine → ds.map (·.1) = kvs.map (·.1) → Dens K F (ds.map (·.2)) (kvs.map (·.2)) → Den K F (.dk ds) (.ref a)
  | dt {a : Addr} {kvs : List (List Key × V)} {ds : List (List Key × D)} : Rd F a (.dT kvs) → kvs.length ≤ sizeLine → ds.map (·.1) = kvs.map (·.1) → Dens K F (ds.map (·.2)) (kvs.map (·.2)) → Den K F (.dt ds) (.ref a)
  | ins {a C dx : Addr} {fs : List (Str × V)} {ds : List (Str × D)} : F a = some (.ins C dx fs) → ds.map (·.1) = fs.map (·.1) → Dens K F (ds.map (·.2)) (fs.map (·.2)) → Den K F (.ins C ds) (.ref a)
  | scr {a : Addr} {ns : List Int} : SqL K F a (ns.map V.int) → ns.length ≤ sizeLine → Den K F (.scr ns) (.ref a)
  | set {a : Addr} {w : World} {S : Int → Bool} {n : Nat} : F a = some (SetO w a S n) → Den K F (.set w S n) (.ref a)
inductive Dens (K : PySem.W.Frag) (F : Hp) : List D → List V → Prop where
  | nil : Dens K F [] []
  | cons {d : D} {ds : List D} {v : V} {vs : List V} : Den K F d v → Dens K F ds vs → Dens K F (d :: ds) (v :: vs)
end

/-- all that is frozen in F may be read in F' -/
structure Le (F F' : Hp) : Prop where
  rd : ∀ a u, Rd F a u → Rd F' a u
  lst : ∀ a xs, F a = some (.lst xs) → F' a = some (.lst xs)
  ins : ∀ a C dx fs, F a = some (.ins C dx fs) → F' a = some (.ins C dx fs)
  ext : ∀ a f, F a = some (.ext f) → F' a = some (.ext f)
  tup : ∀ a xs, F a = some (.tup xs) → F' a = some (.tup xs)
theorem Le.refl (F : Hp) : Le F F := ⟨fun _ _ h => h, fun _ _ h => h, fun _ _ _ _ h => h, fun _ _ h => h, fun _ _ h => h⟩
theorem Le.trans {F G H : Hp} (a : Le F G) (b : Le G H) : Le F H := ⟨fun c u h => b.rd c u (a.rd c u h), fun c u h => b.lst c u (a.lst c u h), fun c x y u h => b.ins c x y u (a.ins c x y u h), fun c x h => b.ext c x (a.ext c x h), fun c x h => b.tup c x (a.tup c x h)⟩
theorem Le.of {F F' : Hp} (s : Same F F') : Le F F' := ⟨fun a u h => h.elim (fun e => .inl (s a u e)) fun ⟨o, e⟩ => .inr ⟨o, s a _ e⟩, fun a _ h => s a _ h, fun a _ _ _ h => s a _ h, fun a _ h => s a _ h, fun a _ h => s a _ h⟩
theorem Le.sqL {K : PySem.W.Frag} {F F' : Hp} (l : Le F F') {a : Addr} {xs : List V} (h : SqL K F a xs) : SqL K F' a xs := h.elim (fun r => .inl (l.rd a _ r)) .inr
theorem Le.sqT {K : PySem.W.Frag} {F F' : Hp} (l : Le F F') {a : Addr} {xs : List V} (h : SqT K F a xs) : SqT K F' a xs := h.elim (fun r => .inl (l.rd a _ r)) .inr
mutual
theorem Den.le {K : PySem.W.Frag} {F F' : Hp} (l : Le F F') : ∀ {d : D} {v : V}, Den K F d v → Den K F' d v
  | _, _, .non => .non
  | _, _, .bl b => .bl b
  | _, _, .int i => .int i
  | _, _, .str x h => .str x h
  | _, _, .ty n => .ty n
  | _, _, .tup h z ds => .tup (l.tup _ _ h) z (Dens.le l ds)
  | _, _, .lst h z ds => .lst (l.lst _ _ h) z (Dens.le l ds)
  | _, _, .dk h z k ds => .dk (l.rd _ _ h) z k (Dens.le l ds)
  | _, _, .dt h z k ds => .dt (l.rd _ _ h) z k (Dens.le l ds)
  | _, _, .ins h k ds => .ins (l.ins _ _ _ _ h) k (Dens.le l ds)
  | _, _, .set h => .set (l.ext _ _ h)
  | _, _, .scr h z => .scr (l.sqL h) z
theorem Dens.le {K : PySem.W.Frag} {F F' : Hp} (l : Le F F') : ∀ {ds : List D} {vs : List V}, Dens K F ds vs → Dens K F' ds vs
  | _, _, .nil => .nil
  | _, _, .cons h t => .cons (Den.le l h) (Dens.le l t)
end
section
variable {K : PySem.W.Frag} {F : Hp}
theorem Dens.length : ∀ {ds : List D} {vs : List V}, Dens K F ds vs → ds.length = vs.length
  | _, _, .nil => rfl
  | _, _, .cons _ t => congrArg (· + 1) t.length
theorem Dens.append : ∀ {ds es : List D} {vs us : List V}, Dens K F ds vs → Dens K F es us → Dens K F (ds ++ es) (vs ++ us)
  | _, _, _, _, .nil, h => h
  | _, _, _, _, .cons x t, h => .cons x (t.append h)
theorem Dens.one {d : D} {v : V} (h : Den K F d v) : Dens K F [d] [v] := .cons h .nil
theorem Dens.get : ∀ {ds : List D} {vs : List V}, Dens K F ds vs → ∀ {i : Nat} {v : V}, vs[i]? = some v → ∃ d, ds[i]? = some d ∧ Den K F d v
  | _, _, .cons h _, 0, _, e => ⟨_, rfl, by simp at e; subst e; exact h⟩
  | _, _, .cons _ t, i + 1, _, e => by
    obtain ⟨d, h1, h2⟩ := t.get (i := i) (by simpa using e)
    exact ⟨d, by simpa using h1, h2⟩
theorem Dens.getD : ∀ {ds : List D} {vs : List V}, Dens K F ds vs → ∀ {i : Nat} {d : D}, ds[i]? = some d → ∃ v, vs[i]? = some v ∧ Den K F d v
  | _, _, .cons h _, 0, _, e => ⟨_, rfl, by simp at e; subst e; exact h⟩
  | _, _, .cons _ t, i + 1, _, e => by
    obtain ⟨d, h1, h2⟩ := t.getD (i := i) (by simpa using e)
    exact ⟨d, by simpa using h1, h2⟩
theorem Dens.take : ∀ {ds : List D} {vs : List V} (n : Nat), Dens K F ds vs → Dens K F (ds.take n) (vs.take n)
  | _, _, 0, _ => .nil
  | _, _, _ + 1, .nil => .nil
  | _, _, n + 1, .cons h t => .cons h (t.take n)
theorem Dens.drop : ∀ {ds : List D} {vs : List V} (n : Nat), Dens K F ds vs → Dens K F (ds.drop n) (vs.drop n)
  | _, _, 0, h => h
  | _, _, _ + 1, .nil => .nil
  | _, _, n + 1, .cons _ t => t.drop n
theorem Dens.reverse : ∀ {ds : List D} {vs : List V}, Dens K F ds vs → Dens K F ds.reverse vs.reverse
  | _, _, .nil => .nil
  | _, _, .cons h t => by rw [List.reverse_cons, List.reverse_cons]; exact t.reverse.append (.cons h .nil)
theorem Dens.set : ∀ {ds : List D} {vs : List V} {d : D} {v : V} (i : Nat), Dens K F ds vs → Den K F d v → Dens K F (ds.set i d) (vs.set i v)
  | _, _, _, _, _, .nil, _ => .nil
  | _, _, _, _, 0, .cons _ t, h => .cons h t
  | _, _, _, _, i + 1, .cons x t, h => .cons x (t.set i h)
theorem Dens.eraseIdx : ∀ {ds : List D} {vs : List V} (i : Nat), Dens K F ds vs → Dens K F (ds.eraseIdx i) (vs.eraseIdx i)
  | _, _, _, .nil => .nil
  | _, _, 0, .cons _ t => t
  | _, _, i + 1, .cons x t => .cons x (t.eraseIdx i)
theorem Dens.dropLast {ds : List D} {vs : List V} (h : Dens K F ds vs) : Dens K F ds.dropLast vs.dropLast := by
  rw [List.dropLast_eq_take, List.dropLast_eq_take, h.length]
  exact h.take _
theorem Dens.ints : ∀ {ns : List Int} {vs : List V}, Dens K F (ns.map D.int) vs → vs = ns.map V.int
  | [], _, .nil => rfl
  | n :: ns, _, .cons (.int _) t => by rw [List.map_cons, ← t.ints]
theorem Dens.bls : ∀ {ns : List Bool} {vs : List V}, Dens K F (ns.map D.bl) vs → vs = ns.map V.bl
  | [], _, .nil => rfl
  | n :: ns, _, .cons (.bl _) t => by rw [List.map_cons, ← t.bls]
theorem Dens.strs : ∀ {ns : List Str} {vs : List V}, Dens K F (ns.map D.str) vs → vs = ns.map V.str ∧ ∀ x ∈ ns, x.length ≤ sizeLine
  | [], _, .nil => ⟨rfl, fun _ h => absurd h List.not_mem_nil⟩
  | n :: ns, _, .cons (.str _ h) t => by
    obtain ⟨e, r⟩ := t.strs
    refine ⟨by rw [List.map_cons, ← e], fun x hx => ?_⟩
    rcases List.mem_cons.mp hx with rfl | hx
    · exact h
    · exact r x hx
theorem Dens.of_ints : ∀ (ns : List Int), Dens K F (ns.map D.int) (ns.map V.int)
  | [] => .nil
  | n :: ns => .cons (.int n) (Dens.of_ints ns)
theorem Dens.of_strs : ∀ (ns : List Str), (∀ x ∈ ns, x.length ≤ sizeLine) → Dens K F (ns.map D.str) (ns.map V.str)
  | [], _ => .nil
  | n :: ns, h => .cons (.str n (h n List.mem_cons_self)) (Dens.of_strs ns fun x hx => h x (List.mem_cons_of_mem _ hx))
theorem Dens.of_bls : ∀ (ns : List Bool), Dens K F (ns.map D.bl) (ns.map V.bl)
  | [] => .nil
  | n :: ns => .cons (.bl n) (Dens.of_bls ns)
end
end Dl
set_option autoImplicit false
set_option Elab.async false
set_option linter.all false
set_option maxRecDepth 100000
set_option maxHeartbeats 2000000
/-! what stands in the slots and between: frozen, owned, borrowed; how it lasts -/
namespace Dl
open PySem PySem.Spec PyProof.Rows L2 LamX

/-- the pot at p: what is left of its digits, and the mixed number -/
def PotH (H : Hp) (p : Addr) : Prop := ∃ a b : Int, H p = some (.lst [.int a, .int b]) ∧ 0 ≤ a ∧ 0 ≤ b ∧ b < 2147483648
/-- what may change behind all: the pot, the tables of code objects -/
structure Fm where
  pot : Option Addr
  tabs : List (Addr × Str)
def Fm.mu (f : Fm) (a : Addr) : Prop := f.pot = some a ∨ ∃ q, (a, q) ∈ f.tabs
structure Fm.Iv (f : Fm) (H : Hp) : Prop where
  pot : ∀ a, f.pot = some a → PotH H a
  tab : Tabs f.tabs H

/-- what a value stands for: a frozen datum, an owned object of this content, a slot's own object, the pot -/
inductive R where
  | z (d : D) | o (d : D) | b (i : Nat) | p
abbrev Rho := List (Option R)
abbrev Sg := List (Option V)
abbrev Ts := List (V × R)

/-- an object's content, its parts frozen -/
def OwnD (K : PySem.W.Frag) (F H : Hp) (a : Addr) : D → Prop
  | .lst ds => ∃ vs, H a = some (.lst vs) ∧ vs.length ≤ sizeLine ∧ Dens K F ds vs
  | .dk ds => ∃ kvs, H a = some (.dK kvs) ∧ kvs.length ≤ sizeLine ∧ ds.map (·.1) = kvs.map (·.1) ∧ Dens K F (ds.map (·.2)) (kvs.map (·.2))
  | .dt ds => ∃ kvs, H a = some (.dT kvs) ∧ kvs.length ≤ sizeLine ∧ ds.map (·.1) = kvs.map (·.1) ∧ Dens K F (ds.map (·.2)) (kvs.map (·.2))
  | .ins C ds => ∃ dx fs, H a = some (.ins C dx fs) ∧ ds.map (·.1) = fs.map (·.1) ∧ Dens K F (ds.map (·.2)) (fs.map (·.2))
  | .set w S n => H a = some (SetO w a S n)
  | _ => False
theorem OwnD.le {K : PySem.W.Frag} {F F' H H' : Hp} {a : Addr} {d : D} (l : Le F F') (h : ∀ o, H a = some o → H' a = some o) (x : OwnD K F H a d) : OwnD K F' H' a d := by
  cases d with
  | lst ds => obtain ⟨vs, e, z, r⟩ := x; exact ⟨vs, h _ e, z, r.le l⟩
  | dk ds => obtain ⟨vs, e, z, k, r⟩ := x; exact ⟨vs, h _ e, z, k, r.le l⟩
  | dt ds => obtain ⟨vs, e, z, k, r⟩ := x; exact ⟨vs, h _ e, z, k, r.le l⟩
  | ins C ds => obtain ⟨dx, vs, e, k, r⟩ := x; exact ⟨dx, vs, h _ e, k, r.le l⟩
  | set w S n => exact h _ x
  | _ => exact x
theorem OwnD.has {K : PySem.W.Frag} {F H : Hp} {a : Addr} {d : D} (x : OwnD K F H a d) : ∃ o, H a = some o ∧ (∀ z u, o ≠ .frz z u) ∧ Mut (some o) := by
  cases d with
  | lst ds => obtain ⟨vs, e, z, r⟩ := x; exact ⟨_, e, (fun _ _ q => nomatch q), trivial⟩
  | dk ds => obtain ⟨vs, e, z, k, r⟩ := x; exact ⟨_, e, (fun _ _ q => nomatch q), trivial⟩
  | dt ds => obtain ⟨vs, e, z, k, r⟩ := x; exact ⟨_, e, (fun _ _ q => nomatch q), trivial⟩
  | ins C ds => obtain ⟨dx, vs, e, k, r⟩ := x; exact ⟨_, e, (fun _ _ q => nomatch q), trivial⟩
  | set w S n => exact ⟨_, x, (fun _ _ q => nomatch q), trivial⟩
  | _ => exact x.elim
/-- the entry: the fragment, the frame, what was frozen, the heap -/
structure Gm where
  K : PySem.W.Frag
  fm : Fm
  F : Hp
  H : Hp
/-- owned: new since the entry, outside the frozen part -/
structure Own (g : Gm) (F H : Hp) (a : Addr) (d : D) : Prop where
  new : g.H a = none
  out : F a = none
  mu : ¬ g.fm.mu a
  at_ : OwnD g.K F H a d
def ROk (g : Gm) (β : Sg) (F H : Hp) (x : V) : R → Prop
  | .z d => Den g.K F d x
  | .o d => ∃ a, x = .ref a ∧ Own g F H a d
  | .b i => β[i]? = some (some x)
  | .p => ∃ a, x = .ref a ∧ g.fm.pot = some a
def R.nob : R → Bool
  | .b _ => false
  | _ => true
theorem ROk.nob {g : Gm} {β β' : Sg} {F H : Hp} {x : V} {r : R} (n : r.nob = true) (h : ROk g β F H x r) : ROk g β' F H x r := by
  cases r with
  | b i => cases n
  | _ => exact h
structure Core (g : Gm) (lk : List Addr) (F H : Hp) : Prop where
  sub : ∀ a o, F a = some o → H a = some o
  ent : ∀ a o, g.F a = some o → F a = some o ∨ (a ∈ lk ∧ ∃ z, F a = some (.frz z o))
  keep : ∀ a o, g.H a = some o → g.F a = none → ¬ g.fm.mu a → F a = none ∧ H a = some o
  mu : ∀ a, g.fm.mu a → F a = none
  iv : g.fm.Iv H
  ev : ∀ a o, g.H a = some o → ∃ o', H a = some o'
abbrev Cell := Option V × Option R
def Apart (c c' : Cell) : Prop := ∀ a d d', c = (some (.ref a), some (.o d)) → c' = (some (.ref a), some (.o d')) → False
theorem Apart.symm {c c' : Cell} (h : Apart c c') : Apart c' c := fun a d d' e e' => h a d' d e' e
def tcell (c : V × R) : Cell := (some c.1, some c.2)
def cells (σ : Sg) (ρ : Rho) (ts : Ts) : List Cell := σ.zip ρ ++ ts.map tcell
structure AtF (g : Gm) (lk : List Addr) (β : Sg) (F : Hp) (σ : Sg) (ρ : Rho) (ts : Ts) (H : Hp) : Prop where
  core : Core g lk F H
  len : ρ.length = σ.length
  slot : ∀ (i : Nat) (r : R), ρ[i]? = some (some r) → r.nob = true ∧ ∃ x, σ[i]? = some (some x) ∧ ROk g β F H x r
  tmp : ∀ c ∈ ts, ROk g β F H c.1 c.2
  link : ∀ (i : Nat) (d : D), ρ[i]? = some (some (.o d)) → β[i]? = σ[i]?
  dis : (cells σ ρ ts).Pairwise Apart
def At (g : Gm) (lk : List Addr) (β σ : Sg) (ρ : Rho) (ts : Ts) (H : Hp) : Prop := ∃ F, AtF g lk β F σ ρ ts H

/-! ### how it lasts -/
section
variable {g : Gm} {lk : List Addr} {β σ : Sg} {F F' H H' : Hp} {ρ : Rho} {ts : Ts}
theorem Own.out_mem {a : Addr} {d : D} (o : Own g F H a d) : ∃ u, H a = some u := let ⟨u, e, _⟩ := o.at_.has; ⟨u, e⟩
theorem Own.le {a : Addr} {d : D} (o : Own g F H a d) (l : Le F F') (h : ∀ u, H a = some u → H' a = some u) (n : F' a = none) : Own g F' H' a d := ⟨o.new, n, o.mu, o.at_.le l h⟩
theorem ROk.le {x : V} {r : R} (l : Le F F') (h : ∀ a d, x = .ref a → r = .o d → (∀ u, H a = some u → H' a = some u) ∧ F' a = none) (q : ROk g β F H x r) : ROk g β F' H' x r := by
  cases r with
  | z d => exact Den.le l q
  | o d => obtain ⟨a, e, q⟩ := q; exact ⟨a, e, q.le l (h a d e rfl).1 (h a d e rfl).2⟩
  | b i => exact q
  | p => exact q
/-- the heap grows; what is newly frozen is new -/
theorem AtF.grow (A : AtF g lk β F σ ρ ts H) (c : Core g lk F' H') (l : Le F F') (hH : ∀ a o, H a = some o → F a = none → ¬ g.fm.mu a → H' a = some o ∧ F' a = none) : AtF g lk β F' σ ρ ts H' := by
  have up : ∀ {x : V} {r : R}, ROk g β F H x r → ROk g β F' H' x r := fun {x r} q => q.le l fun a d e er => by
    subst er
    obtain ⟨b, eb, ob⟩ := q
    rw [e] at eb
    cases eb
    obtain ⟨u, hu⟩ := ob.out_mem
    exact ⟨fun o ho => (hH a o ho ob.out ob.mu).1, (hH a u hu ob.out ob.mu).2⟩
  refine ⟨c, A.len, fun i r e => ?_, fun c hc => up (A.tmp c hc), A.link, A.dis⟩
  obtain ⟨n, x, h1, h2⟩ := A.slot i r e
  exact ⟨n, x, h1, up h2⟩
theorem Core.new (c : Core g lk F H) {p : Addr} {o : HO} (hp : H p = none) (nt : ∀ q, (p, q) ∉ g.fm.tabs) (np : g.fm.pot ≠ some p) : Core g lk F (upd H p o) := by
  have st : ∀ a u, H a = some u → upd H p o a = some u := fun a u e => by rw [upd_ne (ne_of_none e hp)]; exact e
  refine ⟨fun a u e => st a u (c.sub a u e), c.ent, fun a u e1 e2 e3 => ⟨(c.keep a u e1 e2 e3).1, st a u (c.keep a u e1 e2 e3).2⟩, c.mu, ⟨fun a e => ?_, c.iv.tab.ext st⟩, fun a u e => ?_⟩
  · obtain ⟨x, y, h1, r⟩ := c.iv.pot a e
    exact ⟨x, y, st _ _ h1, r⟩
  · obtain ⟨o', e'⟩ := c.ev a u e
    exact ⟨o', st _ _ e'⟩
theorem Core.newF (c : Core g lk F H) {p : Addr} {o : HO} (hp : H p = none) (nm : ¬ g.fm.mu p) : Core g lk (upd F p o) (upd H p o) := by
  have st : ∀ a u, H a = some u → upd H p o a = some u := fun a u e => by rw [upd_ne (ne_of_none e hp)]; exact e
  have hF : F p = none := by
    cases e : F p with
    | none => rfl
    | some u => rw [c.sub _ _ e] at hp; cases hp
  refine ⟨fun a u e => ?_, fun a u e => ?_, fun a u e1 e2 e3 => ?_, fun a e => ?_, ⟨fun a e => ?_, c.iv.tab.ext st⟩, fun a u e => ?_⟩
  · by_cases ea : a = p
    · subst ea; rw [upd_same] at e ⊢; exact e
    · rw [upd_ne ea] at e ⊢; exact c.sub a u e
  · rcases c.ent a u e with z | ⟨hl, z, e'⟩
    · exact .inl (by rw [upd_ne (ne_of_none z hF)]; exact z)
    · exact .inr ⟨hl, z, by rw [upd_ne (ne_of_none e' hF)]; exact e'⟩
  · obtain ⟨h1, h2⟩ := c.keep a u e1 e2 e3
    exact ⟨by rw [upd_ne (ne_of_none h2 hp)]; exact h1, st _ _ h2⟩
  · have ea : a ≠ p := fun z => nm (z ▸ e)
    rw [upd_ne ea]
    exact c.mu a e
  · obtain ⟨x, y, h1, r⟩ := c.iv.pot a e
    exact ⟨x, y, st _ _ h1, r⟩
  · obtain ⟨o', e'⟩ := c.ev a u e
    exact ⟨o', st _ _ e'⟩
/-- what is tracked nowhere is no pot and no table -/
theorem Core.nomu (c : Core g lk F H) {p : Addr} (hp : H p = none) : ¬ g.fm.mu p := by
  rintro (e | ⟨q, e⟩)
  · obtain ⟨x, y, h1, _⟩ := c.iv.pot p e
    rw [hp] at h1
    cases h1
  · obtain ⟨ps, h1, _⟩ := c.iv.tab (p, q) e
    rw [hp] at h1
    cases h1
theorem Core.outF (c : Core g lk F H) {p : Addr} (hp : H p = none) : F p = none := by
  cases e : F p with
  | none => rfl
  | some u => rw [c.sub _ _ e] at hp; cases hp
theorem Core.outE (c : Core g lk F H) {p : Addr} (hp : H p = none) : g.H p = none := by
  cases e : g.H p with
  | none => rfl
  | some u =>
    obtain ⟨o', e'⟩ := c.ev p u e
    rw [hp] at e'
    cases e'
theorem Core.new' (c : Core g lk F H) {p : Addr} {o : HO} (hp : H p = none) : Core g lk F (upd H p o) :=
  c.new hp (fun q h => c.nomu hp (.inr ⟨q, h⟩)) (fun h => c.nomu hp (.inl h))
theorem same_upd {H : Hp} {p : Addr} {o : HO} (hp : H p = none) : Same H (upd H p o) := fun a u e => by
  rw [upd_ne (ne_of_none e hp)]
  exact e
/-- a new object, not frozen -/
theorem AtF.new (A : AtF g lk β F σ ρ ts H) {p : Addr} {o : HO} (hp : H p = none) : AtF g lk β F σ ρ ts (upd H p o) :=
  A.grow (A.core.new' hp) (Le.refl F) fun a u e hF _ => ⟨same_upd hp a u e, hF⟩
/-- a new object, frozen -/
theorem AtF.newF (A : AtF g lk β F σ ρ ts H) {p : Addr} {o : HO} (hp : H p = none) : AtF g lk β (upd F p o) σ ρ ts (upd H p o) :=
  A.grow (A.core.newF hp (A.core.nomu hp)) (Le.of (same_upd (A.core.outF hp))) fun a u e hF _ => ⟨same_upd hp a u e, by rw [upd_ne (ne_of_none e hp)]; exact hF⟩

theorem cells_snoc {c : V × R} : cells σ ρ (ts ++ [c]) = cells σ ρ ts ++ [tcell c] := by
  unfold cells
  rw [List.map_append, List.append_assoc]
  rfl
theorem mem_cells {c : Cell} (h : c ∈ cells σ ρ ts) : (∃ (i : Nat) (v : Option V) (r : Option R), c = (v, r) ∧ σ[i]? = some v ∧ ρ[i]? = some r) ∨ ∃ t ∈ ts, c = tcell t := by
  unfold cells at h
  rcases List.mem_append.mp h with h | h
  · obtain ⟨i, hi, e⟩ := List.getElem_of_mem h
    have hl : i < σ.length ∧ i < ρ.length := by rw [List.length_zip] at hi; omega
    refine .inl ⟨i, σ[i]'hl.1, ρ[i]'hl.2, ?_, List.getElem?_eq_getElem hl.1, List.getElem?_eq_getElem hl.2⟩
    rw [← e, List.getElem_zip]
  · obtain ⟨t, ht, e⟩ := List.mem_map.mp h
    exact .inr ⟨t, ht, e.symm⟩
/-- an own object of a cell -/
theorem AtF.own_of (A : AtF g lk β F σ ρ ts H) {a : Addr} {d : D} (h : ((some (.ref a), some (.o d)) : Cell) ∈ cells σ ρ ts) : Own g F H a d := by
  rcases mem_cells h with ⟨i, v, r, e, h1, h2⟩ | ⟨t, ht, e⟩
  · cases e
    obtain ⟨_, x, e1, b, eb, ob⟩ := A.slot i _ h2
    rw [h1] at e1
    cases e1
    cases eb
    exact ob
  · obtain ⟨v, r⟩ := t
    cases e
    obtain ⟨b, eb, ob⟩ := A.tmp _ ht
    cases eb
    exact ob
/-- one more between -/
theorem AtF.push (A : AtF g lk β F σ ρ ts H) {x : V} {r : R} (h : ROk g β F H x r) (n : ∀ a d, x = .ref a → r = .o d → ∀ d', ((some (.ref a), some (.o d')) : Cell) ∉ cells σ ρ ts) : AtF g lk β F σ ρ (ts ++ [(x, r)]) H := by
  refine ⟨A.core, A.len, A.slot, fun c hc => ?_, A.link, ?_⟩
  · rcases List.mem_append.mp hc with hc | hc
    · exact A.tmp c hc
    · rw [List.mem_singleton.mp hc]
      exact h
  · rw [cells_snoc, List.pairwise_append]
    refine ⟨A.dis, List.pairwise_singleton _ _, fun c hc c' hc' => ?_⟩
    rw [List.mem_singleton.mp hc']
    intro a d d' e e'
    cases e'
    exact n a d' rfl rfl d (e ▸ hc)
theorem AtF.push_z (A : AtF g lk β F σ ρ ts H) {x : V} {d : D} (h : Den g.K F d x) : AtF g lk β F σ ρ (ts ++ [(x, .z d)]) H := A.push h fun _ _ _ e => nomatch e
/-- a new object of its own between -/
theorem AtF.push_new (A : AtF g lk β F σ ρ ts H) {p : Addr} {o : HO} {d : D} (hp : H p = none) (h : OwnD g.K F (upd H p o) p d) : AtF g lk β F σ ρ (ts ++ [(.ref p, .o d)]) (upd H p o) := by
  refine (A.new hp).push ⟨p, rfl, A.core.outE hp, A.core.outF hp, A.core.nomu hp, h⟩ fun a d' e _ d'' hm => ?_
  cases e
  obtain ⟨u, hu⟩ := (A.own_of hm).out_mem
  rw [hp] at hu
  cases hu
/-- some between are let go -/
theorem AtF.sub (A : AtF g lk β F σ ρ ts H) {us : Ts} (h : us.Sublist ts) : AtF g lk β F σ ρ us H :=
  ⟨A.core, A.len, A.slot, fun c hc => A.tmp c (h.subset hc), A.link, A.dis.sublist (List.Sublist.append (List.Sublist.refl _) (h.map _))⟩
theorem pw_set {α : Type} {P : α → α → Prop} (sy : ∀ a b, P a b → P b a) : ∀ {xs : List α} {c : α} (i : Nat), xs.Pairwise P → (∀ y ∈ xs, P c y) → (xs.set i c).Pairwise P
  | [], _, _, _, _ => .nil
  | x :: xs, c, 0, h, hc => by
    rw [List.set_cons_zero]
    exact .cons (fun y hy => hc y (List.mem_cons_of_mem _ hy)) (List.pairwise_cons.mp h).2
  | x :: xs, c, i + 1, h, hc => by
    rw [List.set_cons_succ]
    obtain ⟨h1, h2⟩ := List.pairwise_cons.mp h
    refine .cons (fun y hy => ?_) (pw_set sy i h2 fun y hy => hc y (List.mem_cons_of_mem _ hy))
    rcases List.mem_or_eq_of_mem_set hy with hy | rfl
    · exact h1 y hy
    · exact sy _ _ (hc x List.mem_cons_self)
theorem zip_set {α β : Type} {x : α} {y : β} : ∀ {xs : List α} {ys : List β} (i : Nat), (xs.set i x).zip (ys.set i y) = (xs.zip ys).set i (x, y)
  | [], ys, i => by simp
  | _ :: _, [], i => by cases i <;> simp
  | _ :: xs, _ :: ys, 0 => by simp
  | _ :: xs, _ :: ys, i + 1 => by
    simp only [List.set_cons_succ, List.zip_cons_cons]
    rw [zip_set i]
theorem set_self {α : Type} : ∀ {xs : List α} {i : Nat} {x : α}, xs[i]? = some x → xs.set i x = xs
  | [], _, _, h => by simp at h
  | _ :: _, 0, _, h => by simp at h; simp [h]
  | _ :: xs, i + 1, _, h => by
    rw [List.set_cons_succ, set_self (by simpa using h)]
theorem append_set {α : Type} {xs ys : List α} {i : Nat} {x : α} (h : i < xs.length) : (xs ++ ys).set i x = xs.set i x ++ ys := List.set_append_left i x h
theorem cells_set {i : Nat} {v : Option V} {r : Option R} (h : i < σ.length) (hl : ρ.length = σ.length) : cells (σ.set i v) (ρ.set i r) ts = (cells σ ρ ts).set i (v, r) := by
  unfold cells
  rw [zip_set, append_set (by rw [List.length_zip]; omega)]
theorem cells_setR {i : Nat} {v : Option V} {r : Option R} (h : σ[i]? = some v) (hl : ρ.length = σ.length) : cells σ (ρ.set i r) ts = (cells σ ρ ts).set i (v, r) := by
  have hi : i < σ.length := (List.getElem?_eq_some_iff.mp h).1
  rw [← cells_set hi hl, set_self h]
theorem get_set {α : Type} {xs : List α} {i j : Nat} {x y : α} (h : (xs.set i x)[j]? = some y) : (j = i ∧ y = x) ∨ (j ≠ i ∧ xs[j]? = some y) := by
  by_cases e : i = j
  · subst e
    by_cases hi : i < xs.length
    · rw [List.getElem?_set_self hi] at h
      exact .inl ⟨rfl, (Option.some.inj h).symm⟩
    · rw [List.getElem?_eq_none (by rw [List.length_set]; omega)] at h
      cases h
  · rw [List.getElem?_set_ne e] at h
    exact .inr ⟨Ne.symm e, h⟩
/-- a slot is stored from what stands last between; nothing borrowed is left -/
theorem AtF.store {x : V} {r : R} (A : AtF g lk β F σ ρ (ts ++ [(x, r)]) H) {i : Nat} (hi : i < σ.length) (nb : r.nob = true) (nt : ∀ c ∈ ts, c.2.nob = true) : AtF g lk (σ.set i (some x)) F (σ.set i (some x)) (ρ.set i (some r)) ts H := by
  have rx := A.tmp (x, r) (by simp)
  refine ⟨A.core, by simp [A.len], fun j q e => ?_, fun c hc => (A.tmp c (List.mem_append_left _ hc)).nob (nt c hc), fun _ _ _ => rfl, ?_⟩
  · rcases get_set e with ⟨rfl, e'⟩ | ⟨hj, e'⟩
    · cases e'
      exact ⟨nb, x, List.getElem?_set_self hi, rx.nob nb⟩
    · obtain ⟨n, y, h1, h2⟩ := A.slot j q e'
      exact ⟨n, y, by rw [List.getElem?_set_ne (Ne.symm hj)]; exact h1, h2.nob n⟩
  · rw [cells_set hi A.len]
    have d := A.dis
    rw [cells_snoc, List.pairwise_append] at d
    exact pw_set (fun _ _ h => h.symm) i d.1 fun y hy => (d.2.2 y hy (tcell (x, r)) (by simp)).symm
/-- a slot forgotten -/
theorem AtF.wipe1 (A : AtF g lk β F σ ρ ts H) {i : Nat} {v : Option V} (hi : i < σ.length) : AtF g lk β F (σ.set i v) (ρ.set i none) ts H := by
  refine ⟨A.core, by simp [A.len], fun j q e => ?_, A.tmp, fun j d e => ?_, ?_⟩
  · rcases get_set e with ⟨rfl, e'⟩ | ⟨hj, e'⟩
    · cases e'
    · obtain ⟨n, y, h1, h2⟩ := A.slot j q e'
      exact ⟨n, y, by rw [List.getElem?_set_ne (Ne.symm hj)]; exact h1, h2⟩
  · rcases get_set e with ⟨rfl, e'⟩ | ⟨hj, e'⟩
    · cases e'
    · rw [List.getElem?_set_ne (Ne.symm hj)]
      exact A.link j d e'
  · rw [cells_set hi A.len]
    exact pw_set (fun _ _ h => h.symm) i A.dis fun y _ a d d' e _ => nomatch e
end
end Dl
set_option autoImplicit false
set_option Elab.async false
set_option linter.all false
set_option maxRecDepth 100000
set_option maxHeartbeats 2000000
/-! expressions: readings over data -/
namespace Dl
open PySem PySem.Spec PyProof.Rows L2 LamX

/-- a datum seen from its top: the top is read in the heap, its parts are frozen -/
def DenT (K : PySem.W.Frag) (F H : Hp) (x : V) : D → Prop
  | .non => x = .non
  | .bl b => x = .bl b
  | .int i => x = .int i
  | .str z => x = .str z ∧ z.length ≤ sizeLine
  | .ty n => x = .ty n
  | .tup ds => ∃ a vs, x = .ref a ∧ F a = some (.tup vs) ∧ vs.length ≤ sizeLine ∧ Dens K F ds vs
  | .lst ds => ∃ a vs, x = .ref a ∧ H a = some (.lst vs) ∧ vs.length ≤ sizeLine ∧ Dens K F ds vs
  | .dk ds => ∃ a kvs, x = .ref a ∧ Rd H a (.dK kvs) ∧ kvs.length ≤ sizeLine ∧ ds.map (·.1) = kvs.map (·.1) ∧ Dens K F (ds.map (·.2)) (kvs.map (·.2))
  | .dt ds => ∃ a kvs, x = .ref a ∧ Rd H a (.dT kvs) ∧ kvs.length ≤ sizeLine ∧ ds.map (·.1) = kvs.map (·.1) ∧ Dens K F (ds.map (·.2)) (kvs.map (·.2))
  | .ins C ds => ∃ a dx fs, x = .ref a ∧ H a = some (.ins C dx fs) ∧ ds.map (·.1) = fs.map (·.1) ∧ Dens K F (ds.map (·.2)) (fs.map (·.2))
  | .set w S n => ∃ a, x = .ref a ∧ H a = some (SetO w a S n)
  | .scr ns => ∃ a, x = .ref a ∧ SqL K H a (ns.map V.int) ∧ ns.length ≤ sizeLine
section
variable {K : PySem.W.Frag} {F H : Hp} {x : V} {d : D}
theorem rd_sub (s : ∀ a o, F a = some o → H a = some o) {a : Addr} {u : HO} (h : Rd F a u) : Rd H a u := h.elim (fun e => .inl (s a u e)) fun ⟨o, e⟩ => .inr ⟨o, s a _ e⟩
theorem sqT_sub (s : ∀ a o, F a = some o → H a = some o) {a : Addr} {u : List V} (h : SqT K F a u) : SqT K H a u := h.elim (fun e => .inl (rd_sub s e)) .inr
theorem Den.top (s : ∀ a o, F a = some o → H a = some o) (h : Den K F d x) : DenT K F H x d := by
  cases h with
  | non => rfl
  | bl b => rfl
  | int i => rfl
  | str z h => exact ⟨rfl, h⟩
  | ty n => rfl
  | tup h z r => exact ⟨_, _, rfl, h, z, r⟩
  | lst h z r => exact ⟨_, _, rfl, s _ _ h, z, r⟩
  | dk h z k r => exact ⟨_, _, rfl, rd_sub s h, z, k, r⟩
  | dt h z k r => exact ⟨_, _, rfl, rd_sub s h, z, k, r⟩
  | ins h k r => exact ⟨_, _, _, rfl, s _ _ h, k, r⟩
  | set h => exact ⟨_, rfl, s _ _ h⟩
  | scr h z => exact ⟨_, rfl, h.elim (fun r => .inl (rd_sub s r)) .inr, z⟩
theorem OwnD.top {a : Addr} (h : OwnD K F H a d) : DenT K F H (.ref a) d := by
  cases d with
  | lst ds => obtain ⟨vs, e, r⟩ := h; exact ⟨a, vs, rfl, e, r⟩
  | dk ds => obtain ⟨vs, e, r⟩ := h; exact ⟨a, vs, rfl, .inl e, r⟩
  | dt ds => obtain ⟨vs, e, r⟩ := h; exact ⟨a, vs, rfl, .inl e, r⟩
  | ins C ds => obtain ⟨dx, vs, e, r⟩ := h; exact ⟨a, dx, vs, rfl, e, r⟩
  | set w S n => exact ⟨a, rfl, h⟩
  | _ => exact h.elim
end
theorem DenT.tup {K : PySem.W.Frag} {F H : Hp} {x : V} {ds : List D} (h : DenT K F H x (.tup ds)) : Den K F (.tup ds) x := by
  obtain ⟨a, vs, rfl, h, z, r⟩ := h
  exact .tup h z r
theorem DenT.non {K : PySem.W.Frag} {F H : Hp} : ∀ {d : D}, DenT K F H .non d → d = .non
  | .non, _ => rfl
  | .bl _, h => nomatch (show V.non = _ from h)
  | .int _, h => nomatch (show V.non = _ from h)
  | .str _, h => nomatch h.1
  | .ty _, h => nomatch (show V.non = _ from h)
  | .tup _, ⟨_, _, h, _⟩ => nomatch h
  | .lst _, ⟨_, _, h, _⟩ => nomatch h
  | .dk _, ⟨_, _, h, _⟩ => nomatch h
  | .dt _, ⟨_, _, h, _⟩ => nomatch h
  | .ins _ _, ⟨_, _, _, h, _⟩ => nomatch h
  | .set _ _ _, ⟨_, h, _⟩ => nomatch h
  | .scr _, ⟨_, h, _⟩ => nomatch h
/-- what is seen of a value -/
def viewR (ρ : Rho) : R → Option D
  | .z d => some d
  | .o d => some d
  | .b i => match ρ[i]? with
    | some (some (.o d)) => some d
    | _ => none
  | .p => none
section
variable {g : Gm} {lk : List Addr} {β σ : Sg} {F H : Hp} {ρ : Rho} {ts : Ts}
theorem AtF.view (A : AtF g lk β F σ ρ ts H) {x : V} {r : R} {d : D} (h : ROk g β F H x r) (e : viewR ρ r = some d) : DenT g.K F H x d := by
  cases r with
  | z d' => cases e; exact Den.top A.core.sub h
  | o d' => cases e; obtain ⟨a, rfl, o⟩ := h; exact o.at_.top
  | p => cases e
  | b i =>
    unfold viewR at e
    simp only at e
    split at e
    · rename_i d' hi
      cases e
      have l := A.link i d hi
      obtain ⟨_, y, h1, a, h2, o⟩ := A.slot i _ hi
      have h : β[i]? = some (some x) := h
      rw [l, h1] at h
      cases h
      subst h2
      exact o.at_.top
    · cases e
end

abbrev TD := Rho → (Rho → R → Prop) → Prop
abbrev TDT := Rho → (Rho → Bool → Prop) → Prop
/-- a reading over data as one over heaps -/
def liftE (X : Cx) (t : TD) : TE := fun σ H Q => ∃ g lk β ρ ts Qd, g.K = X.K ∧ At g lk β σ ρ ts H ∧ t ρ Qd ∧ ∀ ρ' r v H', At g lk β σ ρ' (ts ++ [(v, r)]) H' → Qd ρ' r → Q v H'
def liftT (X : Cx) (t : TDT) : TT := fun σ H Q => ∃ g lk β ρ ts Qd, g.K = X.K ∧ At g lk β σ ρ ts H ∧ t ρ Qd ∧ ∀ ρ' b H', At g lk β σ ρ' ts H' → Qd ρ' b → Q b H'
abbrev PD (X : Cx) (e : Expr) (t : TD) : Prop := PE X e (liftE X t)
abbrev PDT (X : Cx) (e : Expr) (t : TDT) : Prop := PT X e (liftT X t)
abbrev PDW (X : Cx) (e : Expr) (t : TDT) : Prop := PW X e (liftT X t)
theorem PE.weak {X : Cx} {e : Expr} {t t' : TE} (h : PE X e t) (w : ∀ σ H Q, t' σ H Q → t σ H Q) : PE X e t' := ⟨fun pins s σ H Q I q => h.run pins s σ H Q I (w σ H Q q)⟩
theorem PT.weak {X : Cx} {e : Expr} {t t' : TT} (h : PT X e t) (w : ∀ σ H Q, t' σ H Q → t σ H Q) : PT X e t' := ⟨fun pins s σ H Q I q => h.run pins s σ H Q I (w σ H Q q)⟩
theorem PW.weak {X : Cx} {e : Expr} {t t' : TT} (h : PW X e t) (w : ∀ σ H Q, t' σ H Q → t σ H Q) : PW X e t' := ⟨fun wh pins s σ H Q I q => h.run wh pins s σ H Q I (w σ H Q q)⟩

section
variable {g : Gm} {lk : List Addr} {β σ : Sg} {H : Hp} {ρ : Rho} {ts us : Ts}
theorem At.sub (A : At g lk β σ ρ ts H) (h : us.Sublist ts) : At g lk β σ ρ us H := let ⟨F, a⟩ := A; ⟨F, a.sub h⟩
theorem At.pop {c : V × R} (A : At g lk β σ ρ (ts ++ [c]) H) : At g lk β σ ρ ts H := A.sub (List.sublist_append_left _ _)
theorem At.drop1 {c e : V × R} (A : At g lk β σ ρ (ts ++ [c] ++ [e]) H) : At g lk β σ ρ (ts ++ [e]) H := A.sub (by
  rw [List.append_assoc]
  exact List.Sublist.append (List.Sublist.refl _) (List.sublist_append_right _ _))
theorem At.drop2 {c d e : V × R} (A : At g lk β σ ρ (ts ++ [c] ++ [d] ++ [e]) H) : At g lk β σ ρ (ts ++ [e]) H := A.drop1.drop1
end

/-! ### names, constants -/
def dVar (i : Nat) : TD := fun ρ Q => match ρ[i]? with
  | some (some (.o _)) => Q ρ (.b i)
  | some (some r) => Q ρ r
  | _ => False
def dC (d : D) : TD := fun ρ Q => Q ρ (.z d)
section
variable {X : Cx} {a b : Expr} {pos : Pos}
theorem pd_var (i : Nat) {x : Str} (hN : X.N[i]? = some x := by rfl) (hv : Vis X.env.scope x := by first | exact Or.inl rfl | exact Or.inr (Or.inl rfl) | exact Or.inr (Or.inr rfl)) (hd : (x == ("__debug__" : Str)) = false := by decide)
    (hcd : (x == ("__classdict__" : Str)) = false := by decide) : PD X (.Name x pos) (dVar i) := by
  refine PE.weak (pe_var hN hv hd hcd) fun σ H Q h => ?_
  obtain ⟨g, lk, β, ρ, ts, Qd, hK, ⟨F, A⟩, t, q⟩ := h
  unfold dVar at t
  cases e : ρ[i]? with
  | none => rw [e] at t; exact t.elim
  | some o =>
    cases o with
    | none => rw [e] at t; exact t.elim
    | some r =>
      rw [e] at t
      obtain ⟨nb, x, h1, h2⟩ := A.slot i r e
      refine ⟨x, h1, ?_⟩
      cases r with
      | o d =>
        refine q _ _ x H ⟨F, A.push (r := .b i) ?_ fun _ _ _ e => nomatch e⟩ t
        show β[i]? = _
        rw [A.link i d e]
        exact h1
      | z d => exact q _ _ x H ⟨F, A.push h2 fun _ _ _ e => nomatch e⟩ t
      | p => exact q _ _ x H ⟨F, A.push h2 fun _ _ _ e => nomatch e⟩ t
      | b j => cases nb
theorem pd_of_const {e : Expr} {d : D} {v : V} (h : PE X e (tC v)) (hd : ∀ K F, Den K F d v) : PD X e (dC d) := by
  refine PE.weak h fun σ H Q h => ?_
  obtain ⟨g, lk, β, ρ, ts, Qd, hK, ⟨F, A⟩, t, q⟩ := h
  exact q _ _ _ _ ⟨F, A.push_z (hd _ F)⟩ t
theorem pd_int {i : Int} {j} : PD X (.Constant (.int i) j pos) (dC (.int i)) := pd_of_const pe_int fun _ _ => .int i
theorem pd_bl {b : Bool} {j} : PD X (.Constant (.bool b) j pos) (dC (.bl b)) := pd_of_const pe_bl fun _ _ => .bl b
theorem pd_non {j} : PD X (.Constant .none j pos) (dC .non) := pd_of_const pe_non fun _ _ => .non
theorem pd_str {x : Str} {j} (h : x.length ≤ sizeLine := by decide) : PD X (.Constant (.str x) j pos) (dC (.str x)) := pd_of_const pe_str fun _ _ => .str x h
/-- a module's constant: an int or a text -/
theorem pd_globI {x : Str} {i : Int} {t : Tok} (hg : Gl X x) (hm : X.mg x = some (.int i t)) (hd : (x == ("__debug__" : Str)) = false := by decide) : PD X (.Name x pos) (dC (.int i)) := pd_of_const (pe_glob (v := .int i) hg hm ⟨t, rfl⟩ hd) fun _ _ => .int i
theorem pd_globS {x z : Str} {t : Tok} (hg : Gl X x) (hm : X.mg x = some (.str z t)) (h : z.length ≤ sizeLine := by decide) (hd : (x == ("__debug__" : Str)) = false := by decide) : PD X (.Name x pos) (dC (.str z)) := pd_of_const (pe_glob (v := .str z) hg hm ⟨t, rfl⟩ hd) fun _ _ => .str z h
theorem pd_globT {x : Str} {n : String} (hg : Gl X x) (hm : X.mg x = none) (hv : bootBuiltins x = some (.type n)) (hn : x ≠ "__name__" := by decide) (hd : (x == ("__debug__" : Str)) = false := by decide) : PD X (.Name x pos) (dC (.ty n)) := pd_of_const (pe_bltn (v := .ty n) hg hm hv rfl hn hd) fun _ _ => .ty n
end

/-! ### operators by values -/
abbrev F2 := D → D → (R → Prop) → Prop
abbrev F1 := D → (R → Prop) → Prop
/-- an operator's rule, over data -/
def Op2 (X : Cx) (r : R2) (f : F2) : Prop := ∀ (g : Gm) (lk : List Addr) (β : Sg) (F : Hp) (σ : Sg) (ρ : Rho) (ts : Ts) (H : Hp) (x y : V) (d e : D) (Qr : R → Prop) (Q : VK), g.K = X.K → AtF g lk β F σ ρ ts H → DenT X.K F H x d → DenT X.K F H y e → f d e Qr →
  (∀ v H' q, At g lk β σ ρ (ts ++ [(v, q)]) H' → Qr q → Q v H') → r x y H Q
def Op1 (X : Cx) (r : V → Hp → VK → Prop) (f : F1) : Prop := ∀ (g : Gm) (lk : List Addr) (β : Sg) (F : Hp) (σ : Sg) (ρ : Rho) (ts : Ts) (H : Hp) (x : V) (d : D) (Qr : R → Prop) (Q : VK), g.K = X.K → AtF g lk β F σ ρ ts H → DenT X.K F H x d → f d Qr →
  (∀ v H' q, At g lk β σ ρ (ts ++ [(v, q)]) H' → Qr q → Q v H') → r x H Q
def d2 (f : F2) (ta tb : TD) : TD := fun ρ Q => ta ρ fun ρ1 r1 => tb ρ1 fun ρ2 r2 => match viewR ρ2 r1, viewR ρ2 r2 with
  | some d, some e => f d e (Q ρ2)
  | _, _ => False
def d1 (f : F1) (ta : TD) : TD := fun ρ Q => ta ρ fun ρ1 r1 => match viewR ρ1 r1 with
  | some d => f d (Q ρ1)
  | _ => False
section
variable {X : Cx} {a b : Expr} {ta tb : TD} {pos : Pos} {r : R2} {f : F2}
theorem lift_op (hf : Op2 X r f) {σ : L2.St} {H : Hp} {Q : VK} (h : liftE X (d2 f ta tb) σ H Q) : tOp r (liftE X ta) (liftE X tb) σ H Q := by
  obtain ⟨g, lk, β, ρ, ts, Qd, hK, A, t, q⟩ := h
  refine ⟨g, lk, β, ρ, ts, _, hK, A, t, fun ρ1 r1 v1 H1 A1 t1 => ⟨g, lk, β, ρ1, ts ++ [(v1, r1)], _, hK, A1, t1, fun ρ2 r2 v2 H2 A2 t2 => ?_⟩⟩
  obtain ⟨F, A2⟩ := A2
  cases e1 : viewR ρ2 r1 with
  | none => rw [e1] at t2; exact t2.elim
  | some d =>
    cases e2 : viewR ρ2 r2 with
    | none => rw [e1, e2] at t2; exact t2.elim
    | some e =>
      rw [e1, e2] at t2
      have h1 := A2.view (A2.tmp (v1, r1) (by simp)) e1
      have h2 := A2.view (A2.tmp (v2, r2) (by simp)) e2
      rw [hK] at h1 h2
      exact hf g lk β F σ ρ2 _ H2 v1 v2 d e (Qd ρ2) Q hK A2 h1 h2 t2 fun v H' q' A3 t3 => q _ _ _ _ A3.drop2 t3
theorem pd_op {op : Operator} (ho : OpR X (binaryOp op) r) (hf : Op2 X r f) (ha : PD X a ta) (hb : PD X b tb) : PD X (.BinOp a op b pos) (d2 f ta tb) :=
  PE.weak (pe_op ho ha hb) fun _ _ _ h => lift_op hf h
theorem pd_cmp {op : CmpOp} (ho : OpR X (compareOp op) r) (hf : Op2 X r f) (ha : PD X a ta) (hb : PD X b tb) (hm : behindInMarks op b = false) : PD X (.Compare a [op] [b] pos) (d2 f ta tb) :=
  PE.weak (pe_cmpR ho ha hb hm) fun _ _ _ h => lift_op hf h
theorem pd_un {op : UnaryOp} {r : V → Hp → VK → Prop} {f : F1} (ho : UnR X (unaryOp op) r) (hf : Op1 X r f) (ha : PD X a ta) : PD X (.UnaryOp op a pos) (d1 f ta) := by
  refine PE.weak (pe_un ho ha) fun σ H Q h => ?_
  obtain ⟨g, lk, β, ρ, ts, Qd, hK, A, t, q⟩ := h
  refine ⟨g, lk, β, ρ, ts, _, hK, A, t, fun ρ1 r1 v1 H1 A1 t1 => ?_⟩
  obtain ⟨F, A1⟩ := A1
  cases e1 : viewR ρ1 r1 with
  | none => rw [e1] at t1; exact t1.elim
  | some d =>
    rw [e1] at t1
    have h1 := A1.view (A1.tmp (v1, r1) (by simp)) e1
    rw [hK] at h1
    exact hf g lk β F σ ρ1 _ H1 v1 d (Qd ρ1) Q hK A1 h1 t1 fun v H' q' A3 t3 => q _ _ _ _ A3.drop1 t3
/-! ### tests -/
def dTest (t : TD) : TDT := fun ρ Q => t ρ fun ρ' r => match r with
  | .z (.bl b) => Q ρ' b
  | _ => False
theorem lift_test {t : TD} {σ : L2.St} {H : Hp} {Q : Bool → Hp → Prop} (h : liftT X (dTest t) σ H Q) : liftE X t σ H fun x H' => ∃ k, x = .bl k ∧ Q k H' := by
  obtain ⟨g, lk, β, ρ, ts, Qd, hK, A, t, q⟩ := h
  refine ⟨g, lk, β, ρ, ts, _, hK, A, t, fun ρ1 r1 v1 H1 A1 t1 => ?_⟩
  obtain ⟨F, A1⟩ := A1
  have h1 := A1.tmp (v1, r1) (by simp)
  cases r1 with
  | z d =>
    cases d with
    | bl k => cases h1; exact ⟨k, rfl, q _ _ _ ⟨F, A1.sub (List.sublist_append_left _ _)⟩ t1⟩
    | _ => exact t1.elim
  | _ => exact t1.elim
theorem pdt_val {e : Expr} {t : TD} (h : PD X e t) (he : ∀ whole, isTrue e X.env whole = (do let v ← whole; standAt e.pos; holding [v] (truthy v)) := by intro _; rfl) : PDT X e (dTest t) :=
  PT.weak (pt_val h he) fun _ _ _ h => lift_test h
theorem pdt_cmp {op : CmpOp} (ho : OpR X (compareOp op) r) (hf : Op2 X r f) (ha : PD X a ta) (hb : PD X b tb) (hm : behindInMarks op b = false) : PDT X (.Compare a [op] [b] pos) (dTest (d2 f ta tb)) := by
  refine PT.weak (pt_cmpR ho ha hb hm) fun σ H Q h => ?_
  have := lift_test h
  exact lift_op hf this
def dAnd (t u : TDT) : TDT := fun ρ Q => t ρ fun ρ' c => if c = true then u ρ' Q else Q ρ' false
def dOr (t u : TDT) : TDT := fun ρ Q => t ρ fun ρ' c => if c = true then Q ρ' true else u ρ' Q
def dNot (t : TDT) : TDT := fun ρ Q => t ρ fun ρ' c => Q ρ' (!c)
variable {tA tB : TDT} {rest : List Expr}
theorem liftT_then {t : TDT} {k : Rho → Bool → (Rho → Bool → Prop) → Prop} {σ : L2.St} {H : Hp} {Q : Bool → Hp → Prop} {R : Bool → Hp → Prop} (h : liftT X (fun ρ Q => t ρ fun ρ' c => k ρ' c Q) σ H Q)
    (hk : ∀ g lk β ρ' ts Qd c H', g.K = X.K → At g lk β σ ρ' ts H' → k ρ' c Qd → (∀ ρ'' b H'', At g lk β σ ρ'' ts H'' → Qd ρ'' b → Q b H'') → R c H') : liftT X t σ H R := by
  obtain ⟨g, lk, β, ρ, ts, Qd, hK, A, t, q⟩ := h
  exact ⟨g, lk, β, ρ, ts, _, hK, A, t, fun ρ1 c H1 A1 t1 => hk g lk β ρ1 ts Qd c H1 hK A1 t1 q⟩
theorem pdw_and1 (ha : PDT X a tA) : PDW X (.BoolOp .And [a] pos) tA := pw_and1 ha
theorem pdw_or1 (ha : PDT X a tA) : PDW X (.BoolOp .Or [a] pos) tA := pw_or1 ha
theorem pdw_and (ha : PDT X a tA) (hb : PDW X (.BoolOp .And (b :: rest) pos) tB) : PDW X (.BoolOp .And (a :: b :: rest) pos) (dAnd tA tB) := by
  refine PW.weak (pw_and ha hb) fun σ H Q h => ?_
  refine liftT_then (k := fun ρ' c Q => if c = true then tB ρ' Q else Q ρ' false) h fun g lk β ρ' ts Qd c H' hK A t q => ?_
  cases c with
  | true => exact iteT ⟨g, lk, β, ρ', ts, Qd, hK, A, t, q⟩
  | false => exact iteF (q _ _ _ A t)
theorem pdw_or (ha : PDT X a tA) (hb : PDW X (.BoolOp .Or (b :: rest) pos) tB) : PDW X (.BoolOp .Or (a :: b :: rest) pos) (dOr tA tB) := by
  refine PW.weak (pw_or ha hb) fun σ H Q h => ?_
  refine liftT_then (k := fun ρ' c Q => if c = true then Q ρ' true else tB ρ' Q) h fun g lk β ρ' ts Qd c H' hK A t q => ?_
  cases c with
  | true => exact iteT (q _ _ _ A t)
  | false => exact iteF ⟨g, lk, β, ρ', ts, Qd, hK, A, t, q⟩
theorem pdt_not (ha : PDT X a tA) : PDT X (.UnaryOp .Not a pos) (dNot tA) := by
  refine PT.weak (pt_not ha) fun σ H Q h => ?_
  exact liftT_then (k := fun ρ' c Q => Q ρ' (!c)) h fun g lk β ρ' ts Qd c H' hK A t q => q _ _ _ A t
/-- and, or, not as values: of bools -/
def dAndV (ta tb : TD) : TD := fun ρ Q => ta ρ fun ρ' r => match r with
  | .z (.bl true) => tb ρ' Q
  | .z (.bl false) => Q ρ' (.z (.bl false))
  | _ => False
def dOrV (ta tb : TD) : TD := fun ρ Q => ta ρ fun ρ' r => match r with
  | .z (.bl true) => Q ρ' (.z (.bl true))
  | .z (.bl false) => tb ρ' Q
  | _ => False
def dNotV (ta : TD) : TD := fun ρ Q => ta ρ fun ρ' r => match r with
  | .z (.bl c) => Q ρ' (.z (.bl (!c)))
  | _ => False
theorem pd_one {op} {t : TD} (h : PD X a t) : PD X (.BoolOp op [a] pos) t := pe_one h
theorem pd_and (ha : PD X a ta) (hb : PD X (.BoolOp .And (b :: rest) pos) tb) : PD X (.BoolOp .And (a :: b :: rest) pos) (dAndV ta tb) := by
  refine PE.weak (pe_and ha hb) fun σ H Q h => ?_
  obtain ⟨g, lk, β, ρ, ts, Qd, hK, A, t, q⟩ := h
  refine ⟨g, lk, β, ρ, ts, _, hK, A, t, fun ρ1 r1 v1 H1 A1 t1 => ?_⟩
  obtain ⟨F, A1⟩ := A1
  have h1 := A1.tmp (v1, r1) (by simp)
  cases r1 with
  | z d =>
    cases d with
    | bl k =>
      cases h1
      refine ⟨k, rfl, ?_⟩
      cases k with
      | true => exact iteT ⟨g, lk, β, ρ1, ts, Qd, hK, At.pop ⟨F, A1⟩, t1, q⟩
      | false => exact iteF (q _ _ _ _ ⟨F, A1⟩ t1)
    | _ => exact t1.elim
  | _ => exact t1.elim
theorem pd_or (ha : PD X a ta) (hb : PD X (.BoolOp .Or (b :: rest) pos) tb) : PD X (.BoolOp .Or (a :: b :: rest) pos) (dOrV ta tb) := by
  refine PE.weak (pe_or ha hb) fun σ H Q h => ?_
  obtain ⟨g, lk, β, ρ, ts, Qd, hK, A, t, q⟩ := h
  refine ⟨g, lk, β, ρ, ts, _, hK, A, t, fun ρ1 r1 v1 H1 A1 t1 => ?_⟩
  obtain ⟨F, A1⟩ := A1
  have h1 := A1.tmp (v1, r1) (by simp)
  cases r1 with
  | z d =>
    cases d with
    | bl k =>
      cases h1
      refine ⟨k, rfl, ?_⟩
      cases k with
      | true => exact iteT (q _ _ _ _ ⟨F, A1⟩ t1)
      | false => exact iteF ⟨g, lk, β, ρ1, ts, Qd, hK, At.pop ⟨F, A1⟩, t1, q⟩
    | _ => exact t1.elim
  | _ => exact t1.elim
theorem pd_not (ha : PD X a ta) : PD X (.UnaryOp .Not a pos) (dNotV ta) := by
  refine PE.weak (pe_not ha) fun σ H Q h => ?_
  obtain ⟨g, lk, β, ρ, ts, Qd, hK, A, t, q⟩ := h
  refine ⟨g, lk, β, ρ, ts, _, hK, A, t, fun ρ1 r1 v1 H1 A1 t1 => ?_⟩
  obtain ⟨F, A1⟩ := A1
  have h1 := A1.tmp (v1, r1) (by simp)
  cases r1 with
  | z d =>
    cases d with
    | bl k => cases h1; exact ⟨k, rfl, q _ _ _ _ ⟨F, (A1.sub (List.sublist_append_left _ _)).push_z (.bl _)⟩ t1⟩
    | _ => exact t1.elim
  | _ => exact t1.elim
def dIf (t : TDT) (ta tb : TD) : TD := fun ρ Q => t ρ fun ρ' c => if c = true then ta ρ' Q else tb ρ' Q
theorem pd_ifExp {c : Expr} (hc : PDT X c tA) (ha : PD X a ta) (hb : PD X b tb) : PD X (.IfExp c a b pos) (dIf tA ta tb) := by
  refine PE.weak (pe_ifExp hc ha hb) fun σ H Q h => ?_
  obtain ⟨g, lk, β, ρ, ts, Qd, hK, A, t, q⟩ := h
  refine ⟨g, lk, β, ρ, ts, _, hK, A, t, fun ρ1 c H1 A1 t1 => ?_⟩
  cases c with
  | true => exact iteT ⟨g, lk, β, ρ1, ts, Qd, hK, A1, t1, q⟩
  | false => exact iteF ⟨g, lk, β, ρ1, ts, Qd, hK, A1, t1, q⟩
end
end Dl
set_option Elab.async false
set_option linter.all false
set_option maxRecDepth 100000
set_option maxHeartbeats 4000000
namespace Lw
open PySem PySem.Spec PyProof.Rows L2
/-- the signs of a text, each a text of one sign -/
def sgn (c : Nat) : Str := ⟨#[c]⟩
def sgs (x : Str) : List V := x.cps.toList.map fun c => V.str (sgn c)
theorem sgs_len (x : Str) : (sgs x).length = x.length := by
  unfold sgs
  rw [List.length_map]
  simp [Str.length]
section
variable {X : Cx}
theorem call_listS (hc : X.calm = true) : CallR X (.type "list") (fun xs H Q => ∃ z, xs = [.str z] ∧ z.length ≤ sizeLine ∧ ∀ l, H l = none → Q (.ref l) (upd H l (.lst (sgs z)))) := by
  intro pins s σ H xs us Q I r h
  obtain ⟨z, rfl, hz, q⟩ := h
  obtain ⟨u, rfl, t, rfl⟩ := vals1 r
  refine call_list_str (I.ok.hd hc) z t (fun h' tk acc c kp e it => ?_) hz
  have sz : acc.toList.length = z.cps.toList.length := by
    have := it.1
    simpa using this
  have rv : Vals (sgs z) acc.toList := by
    have g := vals_of_get acc.toList (fun j => (sgs z).getD j V.non) (fun j u hu => by
      have hu' : acc[j]? = some u := by rw [← Array.getElem?_toList]; exact hu
      obtain ⟨cc, t2, hc2, rfl⟩ := it.2 j u hu'
      have e2 : (sgs z).getD j V.non = V.str (sgn cc) := by
        unfold sgs
        rw [List.getD_eq_getElem?_getD, List.getElem?_map]
        have : z.cps.toList[j]? = some cc := by rw [Array.getElem?_toList]; exact hc2
        rw [this]
        rfl
      rw [e2]
      exact ⟨t2, rfl⟩)
    have e3 : (List.range acc.toList.length).map (fun j => (sgs z).getD j V.non) = sgs z := by
      apply List.ext_getElem?
      intro j
      rw [List.getElem?_map]
      have ln : (sgs z).length = acc.toList.length := by
        unfold sgs
        rw [List.length_map, sz]
      by_cases hj : j < acc.toList.length
      · rw [List.getElem?_range hj]
        have hj2 : j < (sgs z).length := by omega
        rw [Option.map_some, List.getD_eq_getElem?_getD, List.getElem?_eq_getElem hj2]
        rfl
      · rw [List.getElem?_eq_none (by rw [List.length_range]; omega), List.getElem?_eq_none (by omega)]
        rfl
    rw [e3] at g
    exact g
  refine ⟨.ref s.heap.objs.size, _, I.laid (t' := tk) kp (Nat.le_refl _) (show ObjOk X.prog X.w _ h' _ (.lst (sgs z)) from ⟨by rw [sgs_len]; exact hz, acc.toList, c, rv, ?_⟩), rfl, q _ (I.hok.fresh (Nat.le_refl _))⟩
  rw [e]
end
end Lw
set_option Elab.async false
set_option linter.all false
set_option maxRecDepth 100000
set_option maxHeartbeats 4000000
namespace Lw
open PySem PySem.Spec PyProof.Rows L2
theorem Same.new' {H H1 : Hp} {q : Addr} {o : HO} (a : Same H H1) (hq : H1 q = none) : Same H (upd H1 q o) := fun c u h => by
  rw [upd_ne (ne_of_none (a c u h) hq)]; exact a c u h
/-- a change at a place that H doesn't know -/
theorem Same.mut' {H H1 : Hp} {q : Addr} {o : HO} (a : Same H H1) (hq : H q = none) : Same H (upd H1 q o) := fun c u h => by
  rw [upd_ne (ne_of_none h hq)]; exact a c u h
/-- the first n of f -/
def firsts (f : Nat → V) (n : Nat) : List V := (List.range n).map f
theorem firsts_succ (f : Nat → V) (n : Nat) : firsts f (n + 1) = firsts f n ++ [f n] := by
  unfold firsts
  rw [List.range_succ, List.map_append]
  rfl
theorem firsts_len (f : Nat → V) (n : Nat) : (firsts f n).length = n := by
  unfold firsts
  rw [List.length_map, List.length_range]
/-- a comprehension whose turns change nothing that is tracked: the i-th element is f i -/
theorem lc_map {J : It} {n : Nat} {G : Hp → Prop} {Y : Nat → Hp → V → Hp → Prop} (w : Walk J n G Y) (f : Nat → V) {g : TG} {tt : TT} {te : TE} {vs : List Nat} {σ : L2.St} {H1 : Hp} {D : Addr} {Qd : Hp → Prop} (hD : H1 D = none) (hn : n < 100000)
    (hG : ∀ H', Same H1 H' → G H')
    (hs : ∀ i x Ha Hb (C : V → Hp → Prop) (Z : Hp → Prop), i < n → Same H1 Ha → Y i Ha x Hb → (∀ Hc, Same Ha Hc → C (f i) Hc) → g x (wipe σ vs) Hb fun σ2 H2 => wipe σ2 vs = wipe σ vs ∧ tt σ2 H2 fun b H3 => if b = true then te σ2 H3 C else Z H3)
    (hd : ∀ H', Same H1 H' → H' D = some (.lst (firsts f n)) → Qd H') :
    ∃ W : Nat → Nat → Hp → Prop, (∃ m, W 0 m (upd H1 D (.lst []))) ∧ ∀ i m H, W i m H →
      (J.stop i H ∧ Qd H) ∨ (J.go i H ∧ ∃ Nx : Hp → Prop, (∀ H', Nx H' → ∃ m', m' < m ∧ W (i + 1) m' H') ∧ ∀ x H', J.yld i H x H' → g x (wipe σ vs) H' fun σ2 H2 => wipe σ2 vs = wipe σ vs ∧ tt σ2 H2 fun b H3 =>
        if b = true then te σ2 H3 fun y H4 => ∃ acc, H4 D = some (.lst acc) ∧ acc.length < sizeLine ∧ Nx (upd H4 D (.lst (acc ++ [y]))) else Nx H3) := by
  refine lc_it w (fun i H' => Same H1 H' ∧ H' D = some (.lst (firsts f i))) ⟨Same.new' (Same.refl H1) hD, upd_same⟩ (fun i H' _ h => hG H' h.1) (fun i x Ha Hb hi hp y => ?_) (fun H' h => hd H' h.1 h.2)
  refine hs i x Ha Hb _ _ hi hp.1 y fun Hc sc => ?_
  refine ⟨firsts f i, sc _ _ hp.2, ?_, ?_, ?_⟩
  · rw [firsts_len]
    exact Nat.lt_of_lt_of_le (show i < 100000 by omega) (by decide)
  · exact Same.mut' (hp.1.trans sc) hD
  · rw [upd_same, firsts_succ]
/-- the kinds of values that the law hands to the program: a value of a built-in type -/
def Kind (K : PySem.W.Frag) (H : Hp) (v : V) : Prop := ∃ n : String, TyX K H v (.type n) ∧ n ∈ ["NoneType", "bool", "int", "str", "list", "tuple", "dict"]
/-- the kinds told by the value -/
theorem Kind.same {K : PySem.W.Frag} {H H' : Hp} {v : V} (sm : Same H H') (h : Kind K H v) : Kind K H' v := by
  obtain ⟨n, h, hn⟩ := h
  refine ⟨n, ?_, hn⟩
  cases h with
  | base b =>
    cases b with
    | non => exact .base .non
    | bl y => exact .base (.bl y)
    | int i => exact .base (.int i)
    | str y => exact .base (.str y)
    | flt y => exact .base (.flt y)
    | lst ea => exact .base (.lst (sm _ _ ea))
    | frz ea => exact .base (.frz (sm _ _ ea))
    | tup ea => exact .base (.tup (sm _ _ ea))
    | dK ea => exact .base (.dK (sm _ _ ea))
    | dT ea => exact .base (.dT (sm _ _ ea))
  | byt b => exact .byt b
  | set e => exact .set (sm _ _ e)
  | kList e c => exact .kList e c
  | kTuple e c => exact .kTuple e c
  | kDict e c => exact .kDict e c
  | fTuple e => exact .fTuple (sm _ _ e)
  | fDict e => exact .fDict (sm _ _ e)
/-- a text; a number or a bool; a bool -/
def isStrV : V → Bool
  | .str _ => true
  | _ => false
def isIntV : V → Bool
  | .int _ => true
  | .bl _ => true
  | _ => false
def isBlV : V → Bool
  | .bl _ => true
  | _ => false
theorem Kind.isStr {K : PySem.W.Frag} {H : Hp} {v : V} (h : Kind K H v) : ∃ t : Value, TyX K H v t ∧ PySem.W.kitOne K t (.type "str") = some (isStrV v) := by
  obtain ⟨n, h, hn⟩ := h
  refine ⟨_, h, ?_⟩
  cases h with
  | base b => cases b <;> first
      | (show PySem.W.kitOne K _ _ = some false; exact kit_ty (by decide +kernel))
      | (show PySem.W.kitOne K _ _ = some true; exact kit_ty (by decide +kernel))
      | (exact absurd hn (by decide))
      | simp at hn
  | byt b => exact absurd hn (by decide)
  | set e => exact absurd hn (by decide)
  | kList e c => (show PySem.W.kitOne K _ _ = some false; exact kit_ty (by decide +kernel))
  | kTuple e c => (show PySem.W.kitOne K _ _ = some false; exact kit_ty (by decide +kernel))
  | kDict e c => (show PySem.W.kitOne K _ _ = some false; exact kit_ty (by decide +kernel))
  | fTuple e => (show PySem.W.kitOne K _ _ = some false; exact kit_ty (by decide +kernel))
  | fDict e => (show PySem.W.kitOne K _ _ = some false; exact kit_ty (by decide +kernel))
theorem Kind.isInt {K : PySem.W.Frag} {H : Hp} {v : V} (h : Kind K H v) : ∃ t : Value, TyX K H v t ∧ PySem.W.kitOne K t (.type "int") = some (isIntV v) := by
  obtain ⟨n, h, hn⟩ := h
  refine ⟨_, h, ?_⟩
  cases h with
  | base b => cases b <;> first
      | (show PySem.W.kitOne K _ _ = some false; exact kit_ty (by decide +kernel))
      | (show PySem.W.kitOne K _ _ = some true; exact kit_ty (by decide +kernel))
      | (exact absurd hn (by decide))
      | simp at hn
  | byt b => exact absurd hn (by decide)
  | set e => exact absurd hn (by decide)
  | kList e c => (show PySem.W.kitOne K _ _ = some false; exact kit_ty (by decide +kernel))
  | kTuple e c => (show PySem.W.kitOne K _ _ = some false; exact kit_ty (by decide +kernel))
  | kDict e c => (show PySem.W.kitOne K _ _ = some false; exact kit_ty (by decide +kernel))
  | fTuple e => (show PySem.W.kitOne K _ _ = some false; exact kit_ty (by decide +kernel))
  | fDict e => (show PySem.W.kitOne K _ _ = some false; exact kit_ty (by decide +kernel))
theorem Kind.isBool {K : PySem.W.Frag} {H : Hp} {v : V} (h : Kind K H v) : ∃ t : Value, TyX K H v t ∧ PySem.W.kitOne K t (.type "bool") = some (isBlV v) := by
  obtain ⟨n, h, hn⟩ := h
  refine ⟨_, h, ?_⟩
  cases h with
  | base b => cases b <;> first
      | (show PySem.W.kitOne K _ _ = some false; exact kit_ty (by decide +kernel))
      | (show PySem.W.kitOne K _ _ = some true; exact kit_ty (by decide +kernel))
      | (exact absurd hn (by decide))
      | simp at hn
  | byt b => exact absurd hn (by decide)
  | set e => exact absurd hn (by decide)
  | kList e c => (show PySem.W.kitOne K _ _ = some false; exact kit_ty (by decide +kernel))
  | kTuple e c => (show PySem.W.kitOne K _ _ = some false; exact kit_ty (by decide +kernel))
  | kDict e c => (show PySem.W.kitOne K _ _ = some false; exact kit_ty (by decide +kernel))
  | fTuple e => (show PySem.W.kitOne K _ _ = some false; exact kit_ty (by decide +kernel))
  | fDict e => (show PySem.W.kitOne K _ _ = some false; exact kit_ty (by decide +kernel))
end Lw
set_option Elab.async false
set_option linter.all false
set_option maxRecDepth 100000
set_option maxHeartbeats 4000000
namespace Lw
open PySem PySem.Spec PyProof.Rows L2
/-- zip of two texts: at each turn a new pair of signs -/
def Itzs (x y : Str) : It :=
  ⟨fun i _ => i < min x.cps.size y.cps.size,
   fun i H v H' => ∃ T c d, v = .ref T ∧ H T = none ∧ H' = upd H T (.tup [.str (sgn c), .str (sgn d)]) ∧ x.cps[i]? = some c ∧ y.cps[i]? = some d,
   fun i _ => i = min x.cps.size y.cps.size⟩
theorem turn_zipS {P : Program} {w : World} {K : PySem.W.Frag} {elts : List Expr} {kk : Nat} {tpos : Pos} {x y : Str} {tx ty : Tok} {z TI TO i1 i2 : Addr} (D : ZipSep2 z TI TO i1 i2 [i1] [i2]) :
    Turn P w K (.Tuple elts kk tpos) (Itzs x y) [z, TI, TO, i1, i2] z (fun i h => IsZip h z TI TO .none ∧ IsTupOf2 h TI (.ref i1) (.ref i2) ∧ (∃ a b, IsTupOf2 h TO a b) ∧ h.IsStrIter i1 (strIterType x) x tx i ∧ h.IsStrIter i2 (strIterType y) y ty i) where
  mem := by simp
  obj := fun i h st c hc => by
    obtain ⟨hz, hTI, ⟨a, b, hTO⟩, ⟨o1, e1, _, d1⟩, ⟨o2, e2, _, d2⟩⟩ := st
    have e' : c = z ∨ c = TI ∨ c = TO ∨ c = i1 ∨ c = i2 := by simpa using hc
    rcases e' with q | q | q | q | q
    · rw [q]; exact ⟨_, hz, fun v q => nomatch q⟩
    · rw [q]; exact ⟨_, hTI, fun v q => nomatch q⟩
    · rw [q]; exact ⟨_, hTO, fun v q => nomatch q⟩
    · rw [q]; exact ⟨o1, e1, fun v q => by rw [d1] at q; cases q⟩
    · rw [q]; exact ⟨o2, e2, fun v q => by rw [d2] at q; cases q⟩
  keep := fun i h h' st k => by
    obtain ⟨hz, hTI, ⟨a, b, hTO⟩, ⟨o1, e1, r1⟩, ⟨o2, e2, r2⟩⟩ := st
    exact ⟨k z (by simp) _ hz, k TI (by simp) _ hTI, ⟨a, b, k TO (by simp) _ hTO⟩, ⟨o1, k i1 (by simp) _ e1, r1⟩, ⟨o2, k i2 (by simp) _ e2, r2⟩⟩
  item := by
    intro X hP hw hK hc i pins s σ H E I hf st hg
    subst hP hw hK
    obtain ⟨hz, hTI, ⟨x0, y0, hTO⟩, h1, h2⟩ := st
    have hg' : i < min x.cps.size y.cps.size := hg
    have hzl : z < s.heap.objs.size := Heap.lt_size hz
    refine wpAny_pyNext_zipD2_item D (.text (A := X.A.in1) (I.ok.hd hc) i1 x tx) (.text (A := X.A.in1) (I.ok.hd hc) i2 y ty) hz hTI hTO h1 h2 (by omega) (by omega) fun u u2 h' tk pu pu2 z' TO' h1' h2' hT hsz hk => ?_
    obtain ⟨c, t1, hc1, rfl⟩ := pu
    obtain ⟨d, t2, hc2, rfl⟩ := pu2
    refine ⟨_, rfl, wpAny_letOwnedTupleGo_zip (s := { s with heap := h', toks := tk }) z' fun h'' z'' sb => ?_⟩
    have hT2 : h''.get? s.heap.objs.size = some { cls := .type "tuple", data := .seq #[.str ⟨#[c]⟩ t1, .str ⟨#[d]⟩ t2] } := (sb.2 _ (Nat.ne_of_gt hzl)).trans hT
    have new : ObjOk X.prog X.w (upd H s.heap.objs.size (.tup [.str (sgn c), .str (sgn d)])) h'' s.heap.objs.size (.tup [.str (sgn c), .str (sgn d)]) :=
      ⟨by show 2 ≤ sizeLine; decide, [.str ⟨#[c]⟩ t1, .str ⟨#[d]⟩ t2], .cons ⟨t1, rfl⟩ (.cons ⟨t2, rfl⟩ .nil), ⟨_, hT2, rfl, _, rfl⟩⟩
    have I1 : Inv X pins σ (upd H s.heap.objs.size (.tup [.str (sgn c), .str (sgn d)])) { s with heap := h'', toks := tk } :=
      I.turnedNew (t' := tk) (ch := [z, TI, TO, i1, i2]) (fun c o hb q => (sb.2 c (fun q' => hb (by simp [q']))).trans (hk c o (fun q' => hb (by simp [q'])) (fun q' => hb (by simp [q'])) (fun q' => hb (by simp [q'])) (fun q' => hb (by simp [q'])) q)) hf (Nat.le_refl _) new
    refine ⟨.ref s.heap.objs.size, _, I1, rfl, ⟨_, c, d, rfl, I.hok.fresh (Nat.le_refl _), rfl, hc1, hc2⟩, ⟨z'', ?_, ⟨.str ⟨#[c]⟩ t1, .str ⟨#[d]⟩ t2, ?_⟩, ?_, ?_⟩, fun c hcm => ?_⟩
    · exact (sb.2 _ D.TIz).trans (hk _ _ D.TIz D.TITO D.TIi1 D.TIi2 hTI)
    · exact (sb.2 _ D.TOz).trans TO'
    · obtain ⟨o, e, r⟩ := h1'
      exact ⟨o, (sb.2 _ (fun q => D.zf1 (by rw [← q]; exact D.mem1))).trans e, r⟩
    · obtain ⟨o, e, r⟩ := h2'
      exact ⟨o, (sb.2 _ (fun q => D.zf2 (by rw [← q]; exact D.mem2))).trans e, r⟩
    · have hlt : c < s.heap.objs.size := by
        have e' : c = z ∨ c = TI ∨ c = TO ∨ c = i1 ∨ c = i2 := by simpa using hcm
        rcases e' with q | q | q | q | q
        · rw [q]; exact hzl
        · rw [q]; exact Heap.lt_size hTI
        · rw [q]; exact Heap.lt_size hTO
        · rw [q]; obtain ⟨_, e1, _⟩ := h1; exact Heap.lt_size e1
        · rw [q]; obtain ⟨_, e2, _⟩ := h2; exact Heap.lt_size e2
      rw [upd_ne (Nat.ne_of_lt hlt)]
      exact (hf c hcm).1
  done := by
    intro X hP hw hK hc i pins s σ H E I hf st hg
    subst hP hw hK
    obtain ⟨hz, hTI, ⟨x0, y0, hTO⟩, h1, h2⟩ := st
    have hg' : i = min x.cps.size y.cps.size := hg
    exact wpAny_pyNext_zipD2_end D (.text (A := X.A.in1) (I.ok.hd hc) i1 x tx) (.text (A := X.A.in1) (I.ok.hd hc) i2 y ty) hz hTI hTO h1 h2 (by omega) (by omega) (by omega) fun h' tk hk => ⟨rfl, I.turnedL (t' := tk) (ch := [z, TI, TO, i1, i2]) (fun c o hb q =>
      hk c o (fun q' => hb (by simp [q'])) (fun q' => hb (by simp [q'])) (fun q' => hb (by simp [q'])) (fun q' => hb (by simp [q'])) q) hf⟩
  self := fun A i s Q E st h => wpAny_pyIter_zip st.1 h
def iZipS (ta : TA) : TI := fun σ H R => ta σ H fun vs H1 => ∃ x y, vs = [.str x, .str y] ∧ R (Itzs x y) H1
theorem pi_zipS {X : Cx} {e e2 : Expr} {ta : TA} {p pos tpos : Pos} {elts : List Expr} {kk : Nat} (hg : Gl X "zip") (hm : X.mg "zip" = none) (ha : PA X [e, e2] ta)
    (hs : starEach [e, e2] X.env = (false, eval e X.env) :: starEach [e2] X.env := by rfl) (hpl : (backTo pos (starEach [e2] X.env)).any (·.1) = false := by rfl) :
    PI X (.Tuple elts kk tpos) (.Call (.Name "zip" p) [e, e2] [] pos) (iZipS ta) := by
  refine ⟨fun pins s σ H R I h => ?_⟩
  refine Call_ (ld_blt I hg hm PyProof.Rows.boot_zip (PyProof.Rows.callWith_type1 (thn (ha.run pos pins s σ H _ I h) fun us s1 ⟨vs, H1, I1, r1, q1⟩ => ?_) hs hpl))
  obtain ⟨x, y, ex, q⟩ := q1
  subst ex
  obtain ⟨u1, u2, rfl, ⟨t1, rfl⟩, ⟨t2, rfl⟩⟩ := vals2 r1
  refine zip_begins2 (begins_text x t1) (begins_text y t2) trivial trivial fun h' hz hTI hTO h1 h2 hsz hk => wpAny_pyIter_zip hz ?_
  have I2 : Inv X pins σ H1 { s1 with heap := h' } := I1.kept (t' := s1.toks) hk
  refine ⟨s1.heap.objs.size + 4, [s1.heap.objs.size + 4, s1.heap.objs.size + 2, s1.heap.objs.size + 3, s1.heap.objs.size, s1.heap.objs.size + 1], _, _, H1, rfl, I2,
    turn_zipS (zip_sep2 (N := s1.heap.objs.size) (fp1 := []) (fp2 := []) (by simp) (by simp)), ⟨hz, hTI, ⟨_, _, hTO⟩, ⟨_, h1, rfl, rfl⟩, ⟨_, h2, rfl, rfl⟩⟩, fun c hcm => ?_, q⟩
  have e' : c = s1.heap.objs.size + 4 ∨ c = s1.heap.objs.size + 2 ∨ c = s1.heap.objs.size + 3 ∨ c = s1.heap.objs.size ∨ c = s1.heap.objs.size + 1 := by simpa using hcm
  have hle : s1.heap.objs.size ≤ c := by
    rcases e' with z | z | z | z | z
    · rw [z]; exact Nat.le_add_right _ _
    · rw [z]; exact Nat.le_add_right _ _
    · rw [z]; exact Nat.le_add_right _ _
    · rw [z]; exact Nat.le_refl _
    · rw [z]; exact Nat.le_add_right _ _
  exact I1.fpOk hle (I1.hok.fresh hle)
theorem walk_zipS {x y : Str} : Walk (Itzs x y) (min x.cps.size y.cps.size) (fun _ => True)
    (fun i H v H' => ∃ T c d, v = .ref T ∧ H T = none ∧ H' = upd H T (.tup [.str (sgn c), .str (sgn d)]) ∧ x.cps[i]? = some c ∧ y.cps[i]? = some d) :=
  ⟨fun _ _ hi _ => hi, fun _ _ => rfl, fun _ _ _ _ _ _ y => y⟩
end Lw
set_option Elab.async false
set_option linter.all false
set_option maxRecDepth 100000
set_option maxHeartbeats 4000000
/-! sorted of a list of data, of any length -/
namespace Lw
open PySem PySem.Spec PyProof.Rows L2
section
variable {X : Cx} {pins : List (Addr × Obj)} {σ : L2.St} {H : Hp} {s : Shared}
theorem each_rel {R : Value → V × PyData → Prop} (hR : ∀ u b, RelV b.1 u → R u b) : ∀ {bs : List (V × PyData)} {us : List Value}, Vals (bs.map (·.1)) us → PySem.W.EachIs R us bs
  | [], _, r => by cases r; exact .nil
  | b :: bs, _, r => by
    cases r with
    | cons r1 r2 => exact .cons (hR _ _ r1) (each_rel hR r2)
theorem each_vals : ∀ {bs : List (V × PyData)} {us : List Value}, PySem.W.EachIs (fun u b => RelV b.1 u) us bs → Vals (bs.map (·.1)) us
  | _, _, .nil => .nil
  | _, _, .cons r1 r2 => .cons r1 (each_vals r2)
theorem each_reads (I : Inv X pins σ H s) : ∀ {bs : List (V × PyData)} {us : List Value}, Vals (bs.map (·.1)) us → (∀ b ∈ bs, Dp X.K H b.1 b.2) → PySem.W.EachIs (fun u b => ∃ as, Reads s.heap u b.2 as) us bs
  | [], _, r, _ => by cases r; exact .nil
  | b :: bs, _, r, h => by
    cases r with
    | cons r1 r2 => exact .cons (Dp.reads I b.2 b.1 _ (h b List.mem_cons_self) r1) (each_reads I r2 fun c hc => h c (List.mem_cons_of_mem _ hc))
/-- sorted(xs): bs the items with their data -/
def rSortV (K : PySem.W.Frag) : List V → Hp → VK → Prop := fun vs H Q => ∃ (a : Addr) (bs : List (V × PyData)), vs = [V.ref a] ∧ SqL K H a (bs.map (·.1)) ∧ (∀ b ∈ bs, Dp K H b.1 b.2) ∧ PySem.W.AllAlike (bs.map (fun b => b.2)) ∧ PySem.W.Sortable (bs.map (fun b => b.2)) ∧
  (∀ b ∈ bs, b.2.depth ≤ 20) ∧ ∀ p, H p = none → Q (.ref p) (upd H p (.lst ((bs.mergeSort (PySem.W.dataLe false (fun b : V × PyData => b.2))).map (·.1))))
theorem cr_sortV {k : Nat} (hr : Room k X.A) : CallR X (.builtin "sorted") (rSortV X.K) := by
  intro pins s σ H vs us Q I r h
  obtain ⟨a, bs, rfl, hs, hd, al, so, dp, q⟩ := h
  obtain ⟨its, rv, hl, hz⟩ := I.list hs
  have hu := hr.units
  rw [Vals.ref1 r]
  refine PySem.W.sorted_data (β := V × PyData) (R := fun u b => RelV b.1 u) (enc := fun b => b.2) hl.isList (each_rel (fun _ _ z => z) rv) (each_reads I rv hd) al so (by rw [List.length_map] at hz; exact hz) (fun b hb => by have := dp b hb; omega) fun out h1 h2 => ?_
  obtain ⟨ep, he'⟩ := PyProof.Rows.sortedAll_at s.heap its out.toArray
  have rv2 := each_vals h2
  have hlen : ((bs.mergeSort (PySem.W.dataLe false (fun b : V × PyData => b.2))).map (·.1)).length ≤ sizeLine := by
    rw [List.length_map, List.length_mergeSort]
    rw [List.length_map] at hz
    exact hz
  exact ⟨.ref _, upd H (s.heap.objs.size + 1) (.lst ((bs.mergeSort (PySem.W.dataLe false (fun b : V × PyData => b.2))).map (·.1))), I.laid (t' := s.toks) (fun _ _ => PyProof.Rows.sortedAll_old) (Nat.le_succ _) ⟨hlen, out, ep, rv2, he'⟩, rfl, q _ (I.hok.fresh (Nat.le_succ _))⟩
end
end Lw
set_option autoImplicit false
set_option Elab.async false
set_option linter.all false
set_option maxRecDepth 100000
set_option maxHeartbeats 2000000
/-! operators over data -/
namespace Dl
open PySem PySem.Spec PyProof.Rows L2 LamX

/-! ### plain data as the library's -/
mutual
def D.py : D → Option PyData
  | .non => some .none
  | .bl b => some (.bool b)
  | .int i => some (.int i)
  | .str x => some (.str x)
  | .lst ds => match D.pys ds with
    | some ps => some (.list ps)
    | none => none
  | .tup ds => match D.pys ds with
    | some ps => some (.tuple ps)
    | none => none
  | _ => none
def D.pys : List D → Option (List PyData)
  | [] => some []
  | d :: ds => match D.py d, D.pys ds with
    | some p, some ps => some (p :: ps)
    | _, _ => none
end
theorem D.pys_cons {d : D} {ds : List D} {qs : List PyData} (h : D.pys (d :: ds) = some qs) : ∃ p ps, d.py = some p ∧ D.pys ds = some ps ∧ qs = p :: ps := by
  unfold D.pys at h
  split at h
  · rename_i p ps h1 h2
    cases h
    exact ⟨p, ps, h1, h2, rfl⟩
  · cases h
section
variable {K : PySem.W.Frag} {F H : Hp}
mutual
theorem Den.dp (s : ∀ a o, F a = some o → H a = some o) : ∀ {d : D} {v : V} {p : PyData}, Den K F d v → d.py = some p → Dp K H v p
  | _, _, _, .non, e => by cases e; exact .non
  | _, _, _, .bl b, e => by cases e; exact .bl b
  | _, _, _, .int i, e => by cases e; exact .int i
  | _, _, _, .str x _, e => by cases e; exact .str x
  | _, _, _, .ty _, e => nomatch e
  | _, _, _, .tup (ds := ds) h _ r, e => by
    unfold D.py at e
    split at e
    · rename_i ps hp
      cases e
      exact .tup (.of (s _ _ h)) (Dens.dp s r hp)
    · cases e
  | _, _, _, .lst (ds := ds) h _ r, e => by
    unfold D.py at e
    split at e
    · rename_i ps hp
      cases e
      exact .lst (.of (s _ _ h)) (Dens.dp s r hp)
    · cases e
  | _, _, _, .dk _ _ _ _, e => nomatch e
  | _, _, _, .dt _ _ _ _, e => nomatch e
  | _, _, _, .ins _ _ _, e => nomatch e
  | _, _, _, .set _, e => nomatch e
  | _, _, _, .scr _ _, e => nomatch e
theorem Dens.dp (s : ∀ a o, F a = some o → H a = some o) : ∀ {ds : List D} {vs : List V} {ps : List PyData}, Dens K F ds vs → D.pys ds = some ps → DpAll K H vs ps
  | _, _, _, .nil, e => by cases e; exact .nil
  | _, _, _, .cons h t, e => by
    obtain ⟨p, ps, h1, h2, rfl⟩ := D.pys_cons e
    exact .cons (Den.dp s h h1) (Dens.dp s t h2)
end
theorem DenT.dp (s : ∀ a o, F a = some o → H a = some o) {d : D} {v : V} {p : PyData} (h : DenT K F H v d) (e : d.py = some p) : Dp K H v p := by
  cases d with
  | non => cases e; cases h; exact .non
  | bl b => cases e; cases h; exact .bl b
  | int i => cases e; cases h; exact .int i
  | str x => cases e; obtain ⟨rfl, _⟩ := h; exact .str x
  | tup ds =>
    obtain ⟨a, vs, rfl, h1, _, r⟩ := h
    unfold D.py at e
    split at e
    · rename_i ps hp
      cases e
      exact .tup (.of (s _ _ h1)) (Dens.dp s r hp)
    · cases e
  | lst ds =>
    obtain ⟨a, vs, rfl, h1, _, r⟩ := h
    unfold D.py at e
    split at e
    · rename_i ps hp
      cases e
      exact .lst (.of h1) (Dens.dp s r hp)
    · cases e
  | _ => cases e
end
/-- shaped: laid without end, not too deep -/
abbrev shp (p : PyData) : Prop := SeqAt.shaped p = true

/-! ### results -/
section
variable {g : Gm} {lk : List Addr} {β σ : Sg} {F H : Hp} {ρ : Rho} {ts : Ts}
theorem AtF.res_z (A : AtF g lk β F σ ρ ts H) {v : V} {d : D} (h : Den g.K F d v) : At g lk β σ ρ (ts ++ [(v, .z d)]) H := ⟨F, A.push_z h⟩
theorem AtF.res_lst (A : AtF g lk β F σ ρ ts H) {p : Addr} {vs : List V} {ds : List D} (hp : H p = none) (h : Dens g.K F ds vs) (z : vs.length ≤ sizeLine) : At g lk β σ ρ (ts ++ [(.ref p, .o (.lst ds))]) (upd H p (.lst vs)) :=
  ⟨F, A.push_new hp ⟨vs, upd_same, z, h⟩⟩
theorem AtF.res_tup (A : AtF g lk β F σ ρ ts H) {p : Addr} {vs : List V} {ds : List D} (hp : H p = none) (h : Dens g.K F ds vs) (z : vs.length ≤ sizeLine) : At g lk β σ ρ (ts ++ [(.ref p, .z (.tup ds))]) (upd H p (.tup vs)) :=
  ⟨upd F p (.tup vs), (A.newF hp).push_z (.tup upd_same z (h.le (Le.of (same_upd (A.core.outF hp)))))⟩
end

/-! ### the operators' meanings -/
def fEq : F2 := fun d e Q => ∃ p q, d.py = some p ∧ e.py = some q ∧ shp p ∧ shp q ∧ Q (.z (.bl (PyData.eqv p q)))
def fNe : F2 := fun d e Q => ∃ p q, d.py = some p ∧ e.py = some q ∧ shp p ∧ shp q ∧ Q (.z (.bl (!PyData.eqv p q)))
def keyD : D → Option Key
  | .int i => some (.inl i)
  | .str x => some (.inr x)
  | _ => none
def keysD : List D → Option (List Key)
  | [] => some []
  | d :: ds => match keyD d, keysD ds with
    | some k, some ks => some (k :: ks)
    | _, _ => none
/-- a dict's datum at a key -/
def lkD {κ : Type} [DecidableEq κ] (ds : List (κ × D)) (k : κ) : Option D := (ds.find? fun kv => decide (kv.1 = k)).map (·.2)
def fInB (neg : Bool) : F2 := fun d e Q => match e with
  | .lst ds => ∃ p ps, d.py = some p ∧ D.pys ds = some ps ∧ shp p ∧ shp (.list ps) ∧ Q (.z (.bl (neg != ps.any fun z => PyData.eqv z p)))
  | .tup ds => ∃ p ps, d.py = some p ∧ D.pys ds = some ps ∧ shp p ∧ shp (.tuple ps) ∧ Q (.z (.bl (neg != ps.any fun z => PyData.eqv z p)))
  | .str z => match d with
    | .str y => match y.cps.toList with
      | [c] => Q (.z (.bl (neg != decide (c ∈ z.cps.toList))))
      | _ => False
    | _ => False
  | .dk ds => match keyD d with
    | some k => Q (.z (.bl (neg != (lkD ds k).isSome)))
    | none => False
  | .dt ds => match d with
    | .tup ks => match keysD ks with
      | some k => Q (.z (.bl (neg != (lkD ds k).isSome)))
      | none => False
    | _ => False
  | _ => False
def fAdd : F2 := fun d e Q => match d, e with
  | .int i, .int j => Q (.z (.int (i + j)))
  | .str x, .str y => x.length + y.length ≤ sizeLine ∧ Q (.z (.str (x ++ y)))
  | .lst xs, .lst ys => xs.length + ys.length ≤ sizeLine ∧ Q (.o (.lst (xs ++ ys)))
  | .tup xs, .tup ys => xs.length + ys.length ≤ sizeLine ∧ Q (.z (.tup (xs ++ ys)))
  | _, _ => False
def fII (C : Int → Int → Prop) (f : Int → Int → D) : F2 := fun d e Q => match d, e with
  | .int i, .int j => C i j ∧ Q (.z (f i j))
  | _, _ => False
def fII0 (f : Int → Int → D) : F2 := fun d e Q => match d, e with
  | .int i, .int j => Q (.z (f i j))
  | _, _ => False
def fI (f : Int → Int) : F1 := fun d Q => match d with
  | .int i => Q (.z (.int (f i)))
  | _ => False
def fIsN (neg : Bool) : F2 := fun d e Q => match e with
  | .non => match d with
    | .non => Q (.z (.bl (neg != true)))
    | _ => Q (.z (.bl (neg != false)))
  | _ => False

section
variable {X : Cx}
theorem o2_eq : Op2 X (rEqD X.K) fEq := fun g lk β F σ ρ ts H x y d e Qr Q hK A hx hy ⟨p, q, e1, e2, s1, s2, t⟩ k =>
  ⟨p, q, DenT.dp A.core.sub hx e1, DenT.dp A.core.sub hy e2, s1, s2, k _ _ _ (A.res_z (.bl _)) t⟩
theorem o2_ne : Op2 X (rNeD X.K) fNe := fun g lk β F σ ρ ts H x y d e Qr Q hK A hx hy ⟨p, q, e1, e2, s1, s2, t⟩ k =>
  ⟨p, q, DenT.dp A.core.sub hx e1, DenT.dp A.core.sub hy e2, s1, s2, k _ _ _ (A.res_z (.bl _)) t⟩
theorem o2_II {C : Int → Int → Prop} {f : Int → Int → V} {h : Int → Int → D} (hd : ∀ K F i j, Den K F (h i j) (f i j)) : Op2 X (rI C f) (fII C h) := fun g lk β F σ ρ ts H x y d e Qr Q hK A hx hy t k => by
  cases d with
  | int i => cases e with
    | int j => cases hx; cases hy; exact ⟨i, j, rfl, rfl, t.1, k _ _ _ (A.res_z (hd _ _ i j)) t.2⟩
    | _ => exact t.elim
  | _ => exact t.elim
theorem o2_II0 {f : Int → Int → V} {h : Int → Int → D} (hd : ∀ K F i j, Den K F (h i j) (f i j)) : Op2 X (rI0 f) (fII0 h) := fun g lk β F σ ρ ts H x y d e Qr Q hK A hx hy t k => by
  cases d with
  | int i => cases e with
    | int j => cases hx; cases hy; exact ⟨i, j, rfl, rfl, k _ _ _ (A.res_z (hd _ _ i j)) t⟩
    | _ => exact t.elim
  | _ => exact t.elim
theorem o1_I {f : Int → Int} : Op1 X (rU fun i => .int (f i)) (fI f) := fun g lk β F σ ρ ts H x d Qr Q hK A hx t k => by
  cases d with
  | int i => cases hx; exact ⟨i, rfl, k _ _ _ (A.res_z (.int _)) t⟩
  | _ => exact t.elim
theorem o2_isN : Op2 X (fun x y H Q => y = .non ∧ Q (.bl (decide (x = .non))) H) (fIsN false) := fun g lk β F σ ρ ts H x y d e Qr Q hK A hx hy t k => by
  cases e with
  | non =>
    cases hy
    refine ⟨rfl, k _ _ _ (A.res_z (.bl _)) ?_⟩
    have nn : d ≠ .non → decide (x = V.non) = false := fun n => decide_eq_false fun e => by
      subst e
      exact n (DenT.non hx)
    cases d with
    | non => cases hx; exact t
    | _ => rw [nn (by intro z; cases z)]; exact t
  | _ => exact t.elim
theorem o2_notN : Op2 X (fun x y H Q => y = .non ∧ Q (.bl (!decide (x = .non))) H) (fIsN true) := fun g lk β F σ ρ ts H x y d e Qr Q hK A hx hy t k => by
  cases e with
  | non =>
    cases hy
    refine ⟨rfl, k _ _ _ (A.res_z (.bl _)) ?_⟩
    have nn : d ≠ .non → decide (x = V.non) = false := fun n => decide_eq_false fun e => by
      subst e
      exact n (DenT.non hx)
    cases d with
    | non => cases hx; exact t
    | _ => rw [nn (by intro z; cases z)]; exact t
  | _ => exact t.elim
/-- + -/
def rAddA (K : PySem.W.Frag) : R2 := fun x y H Q => (rI0 (fun i j => V.int (i + j))) x y H Q ∨ (∃ i j, x = .str i ∧ y = .str j ∧ i.length + j.length ≤ sizeLine ∧ Q (.str (i ++ j)) H) ∨ rCat x y H Q ∨ rCatA K x y H Q
theorem op_addA : OpR X (binaryOp .Add) (rAddA X.K) := OpR.or op_add (OpR.or op_add_str (OpR.or op_cat op_catA))
theorem str_len_add (x y : Str) : (x ++ y).length = x.length + y.length := by
  show (x.cps ++ y.cps).size = _
  rw [Array.size_append]
  rfl
theorem o2_add : Op2 X (rAddA X.K) fAdd := fun g lk β F σ ρ ts H x y d e Qr Q hK A hx hy t k => by
  cases d with
  | int i => cases e with
    | int j => cases hx; cases hy; exact .inl ⟨i, j, rfl, rfl, k _ _ _ (A.res_z (.int _)) t⟩
    | _ => exact t.elim
  | str i => cases e with
    | str j =>
      obtain ⟨rfl, _⟩ := hx
      obtain ⟨rfl, _⟩ := hy
      exact .inr (.inl ⟨i, j, rfl, rfl, t.1, k _ _ _ (A.res_z (.str _ (by rw [str_len_add]; exact t.1))) t.2⟩)
    | _ => exact t.elim
  | lst xs => cases e with
    | lst ys =>
      obtain ⟨a, vs, rfl, h1, z1, r1⟩ := hx
      obtain ⟨b, us, rfl, h2, z2, r2⟩ := hy
      rw [← hK] at r1 r2
      refine .inr (.inr (.inl ⟨a, b, vs, us, rfl, rfl, h1, h2, by rw [← r1.length, ← r2.length]; exact t.1, fun p hp => k _ _ _ (A.res_lst hp (r1.append r2) ?_) t.2⟩))
      rw [List.length_append, ← r1.length, ← r2.length]
      exact t.1
    | _ => exact t.elim
  | tup xs => cases e with
    | tup ys =>
      obtain ⟨a, vs, rfl, h1, z1, r1⟩ := hx
      obtain ⟨b, us, rfl, h2, z2, r2⟩ := hy
      rw [← hK] at r1 r2
      have zz : (vs ++ us).length ≤ sizeLine := by rw [List.length_append, ← r1.length, ← r2.length]; exact t.1
      refine .inr (.inr (.inr ⟨a, b, vs, us, rfl, rfl, .of (A.core.sub _ _ h1), .of (A.core.sub _ _ h2), by rw [← r1.length, ← r2.length]; exact t.1, fun e => ?_, fun _ e => ?_, fun _ _ p hp => k _ _ _ (A.res_tup hp (r1.append r2) zz) t.2⟩))
      · subst e
        have e : xs = [] := List.eq_nil_of_length_eq_zero r1.length
        subst e
        exact k _ _ _ (A.res_z (.tup h2 z2 r2)) t.2
      · subst e
        have e : ys = [] := List.eq_nil_of_length_eq_zero r2.length
        subst e
        have t2 := t.2
        rw [List.append_nil] at t2
        exact k _ _ _ (A.res_z (.tup h1 z1 r1)) t2
    | _ => exact t.elim
  | _ => exact t.elim
end
end Dl
set_option autoImplicit false
set_option Elab.async false
set_option linter.all false
set_option maxRecDepth 100000
set_option maxHeartbeats 2000000
/-! in, items, slices, displays -/
namespace Dl
open PySem PySem.Spec PyProof.Rows L2 LamX
section
variable {κ : Type} [DecidableEq κ] {K : PySem.W.Frag} {F : Hp}
theorem lk_rel : ∀ {ds : List (κ × D)} {kvs : List (κ × V)} (k : κ), ds.map (·.1) = kvs.map (·.1) → Dens K F (ds.map (·.2)) (kvs.map (·.2)) → (lkD ds k = none ∧ valV kvs k = none) ∨ ∃ d v, lkD ds k = some d ∧ valV kvs k = some v ∧ Den K F d v
  | [], [], k, _, _ => .inl ⟨rfl, rfl⟩
  | [], _ :: _, _, h, _ => nomatch h
  | _ :: _, [], _, h, _ => nomatch h
  | (k1, d) :: ds, (k2, v) :: kvs, k, h, r => by
    have h1 : k1 = k2 := (List.cons.inj h).1
    have h2 : ds.map (·.1) = kvs.map (·.1) := (List.cons.inj h).2
    subst h1
    cases r with
    | cons r1 r2 =>
      by_cases e : k1 = k
      · subst e
        exact .inr ⟨d, v, by simp [lkD], by simp [valV], r1⟩
      · have := lk_rel k h2 r2
        unfold lkD valV at this ⊢
        simpa [List.find?_cons, e] using this
theorem lk_some {ds : List (κ × D)} {kvs : List (κ × V)} {k : κ} {d : D} (h : ds.map (·.1) = kvs.map (·.1)) (r : Dens K F (ds.map (·.2)) (kvs.map (·.2))) (e : lkD ds k = some d) : ∃ v, valV kvs k = some v ∧ Den K F d v := by
  rcases lk_rel k h r with ⟨h1, _⟩ | ⟨d', v, h1, h2, h3⟩
  · rw [e] at h1; cases h1
  · rw [e] at h1; cases h1; exact ⟨v, h2, h3⟩
theorem lk_is {ds : List (κ × D)} {kvs : List (κ × V)} {k : κ} (h : ds.map (·.1) = kvs.map (·.1)) (r : Dens K F (ds.map (·.2)) (kvs.map (·.2))) : (valV kvs k).isSome = (lkD ds k).isSome := by
  rcases lk_rel k h r with ⟨h1, h2⟩ | ⟨d', v, h1, h2, h3⟩
  · rw [h1, h2]; rfl
  · rw [h1, h2]; rfl
end
section
variable {K : PySem.W.Frag} {F H : Hp}
theorem keyD_v {d : D} {k : Key} {x : V} (e : keyD d = some k) (h : DenT K F H x d) : x = kV k := by
  cases d with
  | int i => cases e; exact h
  | str z => cases e; exact h.1
  | _ => cases e
theorem keyD_den {d : D} {k : Key} {x : V} (e : keyD d = some k) (h : Den K F d x) : x = kV k := by
  cases h with
  | int i => cases e; rfl
  | str z _ => cases e; rfl
  | _ => cases e
theorem keysD_v : ∀ {ds : List D} {ks : List Key} {xs : List V}, keysD ds = some ks → Dens K F ds xs → xs = ks.map kV
  | [], ks, _, e, .nil => by cases e; rfl
  | d :: ds, ks, _, e, .cons h t => by
    unfold keysD at e
    split at e
    · rename_i k ks' h1 h2
      cases e
      rw [List.map_cons, ← keyD_den h1 h, ← keysD_v h2 t]
    · cases e
end
/-- in, over data -/
def rInT (K : PySem.W.Frag) (neg : Bool) : R2 := fun x y H Q => ∃ d ds, Dp K H x d ∧ Dp K H y (.tuple ds) ∧ SeqAt.shaped d = true ∧ SeqAt.shaped (.tuple ds) = true ∧ Q (.bl (neg != ds.any fun z => PyData.eqv z d)) H
def rInDict (neg : Bool) : R2 := fun x y H Q => ∃ a o, y = .ref a ∧ DGet H a x o ∧ Q (.bl (neg != o.isSome)) H
theorem bne_true (b : Bool) : (true != b) = !b := by cases b <;> rfl
theorem bne_false (b : Bool) : (false != b) = b := by cases b <;> rfl
section
variable {X : Cx}
theorem op_inT (hu : X.A.units + 65 < cLine) : OpR X (compareOp .In) (rInT X.K false) := by
  intro pins s σ H x y v u Q I rx ry h
  obtain ⟨d, ds, hd, he, sd, se, q⟩ := h
  obtain ⟨as, r1⟩ := Dp.reads I d x v hd rx
  obtain ⟨bs, r2⟩ := Dp.reads I (.tuple ds) y u he ry
  rw [bne_false] at q
  exact SeqAt.in_tuple_reads r2 r1 (SeqAt.canLay_of_shaped se) (SeqAt.canLay_of_shaped sd) (room_in_shaped sd hu) ⟨.bl _, H, I, rfl, q⟩
theorem op_notInT (hu : X.A.units + 65 < cLine) : OpR X (compareOp .NotIn) (rInT X.K true) := by
  intro pins s σ H x y v u Q I rx ry h
  obtain ⟨d, ds, hd, he, sd, se, q⟩ := h
  obtain ⟨as, r1⟩ := Dp.reads I d x v hd rx
  obtain ⟨bs, r2⟩ := Dp.reads I (.tuple ds) y u he ry
  rw [bne_true] at q
  exact SeqAt.notIn_tuple_reads r2 r1 (SeqAt.canLay_of_shaped se) (SeqAt.canLay_of_shaped sd) (room_in_shaped sd hu) ⟨.bl _, H, I, rfl, q⟩
theorem op_inDict (hu : X.A.units + 1 < cLine) : OpR X (compareOp .In) (rInDict false) := by
  intro pins s σ H x y v u Q I rx ry h
  obtain ⟨a, o, rfl, hg, q⟩ := h
  cases (show u = Value.ref a from ry)
  rw [bne_false] at q
  exact d_in hu I hg rx fun s' I' => ⟨.bl _, H, I', rfl, q⟩
theorem op_notInDict (hu : X.A.units + 1 < cLine) : OpR X (compareOp .NotIn) (rInDict true) := by
  intro pins s σ H x y v u Q I rx ry h
  obtain ⟨a, o, rfl, hg, q⟩ := h
  cases (show u = Value.ref a from ry)
  rw [bne_true] at q
  exact d_notIn hu I hg rx fun s' I' => ⟨.bl _, H, I', rfl, q⟩
def rInSign (neg : Bool) : R2 := fun x y H Q => ∃ (c : Nat) (z : Str), x = .str ⟨#[c]⟩ ∧ y = .str z ∧ Q (.bl (neg != decide (c ∈ z.cps.toList))) H
def rInList (K : PySem.W.Frag) (neg : Bool) : R2 := fun x y H Q => ∃ d ds, Dp K H x d ∧ Dp K H y (.list ds) ∧ SeqAt.shaped d = true ∧ SeqAt.shaped (.list ds) = true ∧ Q (.bl (neg != ds.any fun z => PyData.eqv z d)) H
def rInA (K : PySem.W.Frag) (neg : Bool) : R2 := fun x y H Q => rInList K neg x y H Q ∨ rInT K neg x y H Q ∨ rInSign neg x y H Q ∨ rInDict neg x y H Q
theorem OpR.weak {f : Value → Value → Sem Value} {r r' : R2} (h : OpR X f r) (w : ∀ x y H Q, r' x y H Q → r x y H Q) : OpR X f r' := fun pins s σ H x y v u Q I rx ry q => h pins s σ H x y v u Q I rx ry (w _ _ _ _ q)
theorem op_inA (hu : X.A.units + 65 < cLine) : OpR X (compareOp .In) (rInA X.K false) := by
  refine OpR.or (OpR.weak (op_inD hu) fun x y H Q h => ?_) (OpR.or (op_inT hu) (OpR.or (OpR.weak op_in_sign fun x y H Q h => ?_) (op_inDict (by omega))))
  · obtain ⟨d, ds, a, b, c, e, q⟩ := h
    exact ⟨d, ds, a, b, c, e, by rw [bne_false] at q; exact q⟩
  · obtain ⟨d, ds, a, b, q⟩ := h
    exact ⟨d, ds, a, b, by rw [bne_false] at q; exact q⟩
theorem op_notInA (hu : X.A.units + 65 < cLine) : OpR X (compareOp .NotIn) (rInA X.K true) := by
  refine OpR.or (OpR.weak (op_notInD hu) fun x y H Q h => ?_) (OpR.or (op_notInT hu) (OpR.or (OpR.weak op_notIn_sign fun x y H Q h => ?_) (op_notInDict (by omega))))
  · obtain ⟨d, ds, a, b, c, e, q⟩ := h
    exact ⟨d, ds, a, b, c, e, by rw [bne_true] at q; exact q⟩
  · obtain ⟨d, ds, a, b, q⟩ := h
    exact ⟨d, ds, a, b, by rw [bne_true] at q; exact q⟩
theorem o2_in {neg : Bool} : Op2 X (rInA X.K neg) (fInB neg) := fun g lk β F σ ρ ts H x y d e Qr Q hK A hx hy t k => by
  cases e with
  | lst ds =>
    obtain ⟨p, ps, e1, e2, s1, s2, t⟩ := t
    refine .inl ⟨p, ps, DenT.dp A.core.sub hx e1, DenT.dp A.core.sub hy (by unfold D.py; rw [e2]), s1, s2, k _ _ _ (A.res_z (.bl _)) t⟩
  | tup ds =>
    obtain ⟨p, ps, e1, e2, s1, s2, t⟩ := t
    refine .inr (.inl ⟨p, ps, DenT.dp A.core.sub hx e1, DenT.dp A.core.sub hy (by unfold D.py; rw [e2]), s1, s2, k _ _ _ (A.res_z (.bl _)) t⟩)
  | str z =>
    obtain ⟨rfl, _⟩ := hy
    cases d with
    | str w =>
      obtain ⟨rfl, _⟩ := hx
      unfold fInB at t
      simp only at t
      split at t
      · rename_i c hc
        obtain ⟨⟨l⟩⟩ := w
        have : l = [c] := hc
        subst this
        exact .inr (.inr (.inl ⟨c, z, rfl, rfl, k _ _ _ (A.res_z (.bl _)) t⟩))
      · exact t.elim
    | _ => exact t.elim
  | dk ds =>
    obtain ⟨a, kvs, rfl, hr, hz, hk, r⟩ := hy
    unfold fInB at t
    simp only at t
    split at t
    · rename_i kk hkk
      refine .inr (.inr (.inr ⟨a, _, rfl, .inl ⟨kvs, kk, hr, keyD_v hkk hx, rfl⟩, k _ _ _ (A.res_z (.bl _)) ?_⟩))
      rw [lk_is hk r]
      exact t
    · exact t.elim
  | dt ds =>
    obtain ⟨a, kvs, rfl, hr, hz, hk, r⟩ := hy
    cases d with
    | tup ks =>
      obtain ⟨b, us, rfl, hb, _, rb⟩ := hx
      unfold fInB at t
      simp only at t
      split at t
      · rename_i kk hkk
        have := keysD_v hkk rb
        subst this
        refine .inr (.inr (.inr ⟨a, _, rfl, .inr ⟨kvs, kk, b, hr, rfl, A.core.sub _ _ hb, rfl⟩, k _ _ _ (A.res_z (.bl _)) ?_⟩))
        rw [lk_is hk r]
        exact t
      · exact t.elim
    | _ => exact t.elim
  | _ => exact t.elim

/-! ### items -/
def fIx : F2 := fun d e Q => match d with
  | .lst ds => match e with
    | .int i => match atI ds i with
      | some x => Q (.z x)
      | none => False
    | _ => False
  | .tup ds => match e with
    | .int i => match atI ds i with
      | some x => Q (.z x)
      | none => False
    | _ => False
  | .str z => match e with
    | .int i => match atI z.cps.toList i with
      | some c => Q (.z (.str ⟨#[c]⟩))
      | none => False
    | _ => False
  | .scr ns => match e with
    | .int i => match atI ns i with
      | some x => Q (.z (.int x))
      | none => False
    | _ => False
  | .dk ds => match keyD e with
    | some k => match lkD ds k with
      | some x => Q (.z x)
      | none => False
    | none => False
  | .dt ds => match e with
    | .tup ks => match keysD ks with
      | some k => match lkD ds k with
        | some x => Q (.z x)
        | none => False
      | none => False
    | _ => False
  | _ => False
def rIxDict : R2 := fun x y H Q => ∃ a v, x = .ref a ∧ DGet H a y (some v) ∧ Q v H
theorem ix_dict (hu : X.A.units + 1 < cLine) : IxR X rIxDict := by
  intro value slice pins s σ H x y v u Q I rx ry h hs
  obtain ⟨a, w, rfl, hg, q⟩ := h
  cases (show v = Value.ref a from rx)
  exact tail_any (dict_typeIs I hg) PySem.F.slot_dict_getitem.lookup (d_getItem hu I hg ry fun w' s' I' r' => ⟨w, H, I', r', q⟩) hs
def rIxA (K : PySem.W.Frag) : R2 := fun x y H Q => rIx K x y H Q ∨ rIxDict x y H Q
theorem ix_any (hu : X.A.units + 1 < cLine) : IxR X (rIxA X.K) := ix_seq.or (ix_dict hu)
theorem atI_den {K : PySem.W.Frag} {F : Hp} {ds : List D} {vs : List V} {i : Int} {d : D} (r : Dens K F ds vs) (h : atI ds i = some d) : ∃ v, atI vs i = some v ∧ Den K F d v := by
  unfold atI at h ⊢
  rw [← r.length]
  cases e : ixN ds.length i with
  | none => rw [e] at h; cases h
  | some j =>
    rw [e] at h
    exact r.getD h
theorem o2_ix : Op2 X (rIxA X.K) fIx := fun g lk β F σ ρ ts H x y d e Qr Q hK A hx hy t k => by
  cases d with
  | lst ds => cases e with
    | int i =>
      obtain ⟨a, vs, rfl, h1, z1, r1⟩ := hx
      unfold fIx at t
      simp only at t
      split at t
      · rename_i z hz
        obtain ⟨v, hv, dv⟩ := atI_den r1 hz
        rw [← hK] at dv
        exact .inl (.inl ⟨a, vs, i, v, rfl, hy, .of h1, hv, k _ _ _ (A.res_z dv) t⟩)
      · exact t.elim
    | _ => exact t.elim
  | tup ds => cases e with
    | int i =>
      obtain ⟨a, vs, rfl, h1, z1, r1⟩ := hx
      unfold fIx at t
      simp only at t
      split at t
      · rename_i z hz
        obtain ⟨v, hv, dv⟩ := atI_den r1 hz
        rw [← hK] at dv
        exact .inl (.inr (.inl ⟨a, vs, i, v, rfl, hy, .of (A.core.sub _ _ h1), hv, k _ _ _ (A.res_z dv) t⟩))
      · exact t.elim
    | _ => exact t.elim
  | str z => cases e with
    | int i =>
      obtain ⟨rfl, hz⟩ := hx
      unfold fIx at t
      simp only at t
      split at t
      · rename_i c hc
        exact .inl (.inr (.inr ⟨z, i, c, rfl, hy, hz, hc, k _ _ _ (A.res_z (.str _ (by show 1 ≤ sizeLine; decide))) t⟩))
      · exact t.elim
    | _ => exact t.elim
  | scr ns => cases e with
    | int i =>
      obtain ⟨a, rfl, h1, z1⟩ := hx
      unfold fIx at t
      simp only at t
      split at t
      · rename_i z hz
        refine .inl (.inl ⟨a, ns.map V.int, i, .int z, rfl, hy, h1, ?_, k _ _ _ (A.res_z (.int z)) t⟩)
        unfold atI at hz ⊢
        rw [List.length_map]
        cases e : ixN ns.length i with
        | none => rw [e] at hz; cases hz
        | some j =>
          rw [e] at hz
          have hz : ns[j]? = some z := hz
          show (ns.map V.int)[j]? = some (V.int z)
          rw [List.getElem?_map, hz]
          rfl
      · exact t.elim
    | _ => exact t.elim
  | dk ds =>
    obtain ⟨a, kvs, rfl, hr, hz, hk, r⟩ := hx
    unfold fIx at t
    simp only at t
    split at t
    · rename_i kk hkk
      split at t
      · rename_i z hzz
        obtain ⟨v, hv, dv⟩ := lk_some hk r hzz
        rw [← hK] at dv
        exact .inr ⟨a, v, rfl, .inl ⟨kvs, kk, hr, keyD_v hkk hy, hv.symm⟩, k _ _ _ (A.res_z dv) t⟩
      · exact t.elim
    · exact t.elim
  | dt ds =>
    obtain ⟨a, kvs, rfl, hr, hz, hk, r⟩ := hx
    cases e with
    | tup ks =>
      obtain ⟨b, us, rfl, hb, _, rb⟩ := hy
      unfold fIx at t
      simp only at t
      split at t
      · rename_i kk hkk
        split at t
        · rename_i z hzz
          have := keysD_v hkk rb
          subst this
          obtain ⟨v, hv, dv⟩ := lk_some hk r hzz
          rw [← hK] at dv
          exact .inr ⟨a, v, rfl, .inr ⟨kvs, kk, b, hr, rfl, A.core.sub _ _ hb, hv.symm⟩, k _ _ _ (A.res_z dv) t⟩
        · exact t.elim
      · exact t.elim
    | _ => exact t.elim
  | _ => exact t.elim
variable {a b : Expr} {ta tb : TD} {pos : Pos}
theorem pd_ix (hu : X.A.units + 1 < cLine) (ha : PD X a ta) (hb : PD X b tb) (hs : PlainIx b := by intro _ _; rfl) : PD X (.Subscript a b pos) (d2 fIx ta tb) :=
  PE.weak (pe_ix (ix_any hu) ha hb hs) fun _ _ _ h => lift_op o2_ix h

/-! ### argument lists, displays -/
abbrev TDA := Rho → (Rho → List R → Prop) → Prop
/-- the values, each as it came -/
def liftA (X : Cx) (t : TDA) : TA := fun σ H Q => ∃ g lk β ρ ts Qd, g.K = X.K ∧ At g lk β σ ρ ts H ∧ t ρ Qd ∧ ∀ ρ' (rs : List R) vs H', vs.length = rs.length → At g lk β σ ρ' (ts ++ vs.zip rs) H' → Qd ρ' rs → Q vs H'
abbrev PDA (X : Cx) (es : List Expr) (t : TDA) : Prop := PA X es (liftA X t)
def aNil : TDA := fun ρ Q => Q ρ []
def aCons (ta : TD) (tr : TDA) : TDA := fun ρ Q => ta ρ fun ρ1 r => tr ρ1 fun ρ2 rs => Q ρ2 (r :: rs)
theorem PA.weak {es : List Expr} {t t' : TA} (h : PA X es t) (w : ∀ σ H Q, t' σ H Q → t σ H Q) : PA X es t' := ⟨fun p pins s σ H Q I q => h.run p pins s σ H Q I (w σ H Q q)⟩
theorem pda_nil : PDA X [] aNil := by
  refine PA.weak pa_nil fun σ H Q h => ?_
  obtain ⟨g, lk, β, ρ, ts, Qd, hK, A, t, q⟩ := h
  exact q _ [] [] H rfl (by simpa using A) t
theorem pda_cons {es : List Expr} {tr : TDA} (ha : PD X a ta) (hr : PDA X es tr) (hs : starEach (a :: es) X.env = (false, eval a X.env) :: starEach es X.env := by rfl) : PDA X (a :: es) (aCons ta tr) := by
  refine PA.weak (pa_cons ha hr hs) fun σ H Q h => ?_
  obtain ⟨g, lk, β, ρ, ts, Qd, hK, A, t, q⟩ := h
  refine ⟨g, lk, β, ρ, ts, _, hK, A, t, fun ρ1 r1 v1 H1 A1 t1 => ⟨g, lk, β, ρ1, ts ++ [(v1, r1)], _, hK, A1, t1, fun ρ2 rs vs H2 hl A2 t2 => ?_⟩⟩
  exact q _ (r1 :: rs) (v1 :: vs) H2 (by simp [hl]) (by simpa using A2) t2
end
end Dl
set_option autoImplicit false
set_option Elab.async false
set_option linter.all false
set_option maxRecDepth 100000
set_option maxHeartbeats 2000000
/-! freezing; displays; built-ins called by name -/
namespace Dl
open PySem PySem.Spec PyProof.Rows L2 LamX
/-- handed on: frozen -/
def frzR (ρ : Rho) : R → Option (Rho × D)
  | .z d => some (ρ, d)
  | .o d => some (ρ, d)
  | .b i => match ρ[i]? with
    | some (some (.o d)) => some (ρ.set i (some (.z d)), d)
    | _ => none
  | .p => none
def frzL (ρ : Rho) : List R → Option (Rho × List D)
  | [] => some (ρ, [])
  | r :: rs => match frzR ρ r with
    | some (ρ', d) => match frzL ρ' rs with
      | some (ρ'', ds) => some (ρ'', d :: ds)
      | none => none
    | none => none
section
variable {g : Gm} {lk : List Addr} {β σ : Sg} {F H : Hp} {ρ ρ' : Rho} {ts us : Ts}
theorem OwnD.den {K : PySem.W.Frag} {F F' H : Hp} {a : Addr} {d : D} (o : OwnD K F H a d) (l : Le F F') (h : ∀ u, H a = some u → F' a = some u) : Den K F' d (.ref a) := by
  cases d with
  | lst ds => obtain ⟨vs, e, z, r⟩ := o; exact .lst (h _ e) z (r.le l)
  | dk ds => obtain ⟨vs, e, z, k, r⟩ := o; exact .dk (.inl (h _ e)) z k (r.le l)
  | dt ds => obtain ⟨vs, e, z, k, r⟩ := o; exact .dt (.inl (h _ e)) z k (r.le l)
  | ins C ds => obtain ⟨dx, vs, e, k, r⟩ := o; exact .ins (h _ e) k (r.le l)
  | set w S n => exact .set (h _ o)
  | _ => exact o.elim
/-- an own object is frozen -/
theorem Core.frz (c : Core g lk F H) {a : Addr} {u : HO} (e : H a = some u) (hF : F a = none) (nm : ¬ g.fm.mu a) (hg : g.H a = none) : Core g lk (upd F a u) H := by
  refine ⟨fun b o h => ?_, fun b o h => ?_, fun b o h1 h2 h3 => ?_, fun b h => ?_, c.iv, c.ev⟩
  · by_cases eb : b = a
    · subst eb; rw [upd_same] at h; cases h; exact e
    · rw [upd_ne eb] at h; exact c.sub b o h
  · rcases c.ent b o h with z | ⟨hl, z, e'⟩
    · exact .inl (by rw [upd_ne (ne_of_none z hF)]; exact z)
    · exact .inr ⟨hl, z, by rw [upd_ne (ne_of_none e' hF)]; exact e'⟩
  · rw [upd_ne (ne_of_none h1 hg)]
    exact c.keep b o h1 h2 h3
  · have eb : b ≠ a := fun z => nm (z ▸ h)
    rw [upd_ne eb]
    exact c.mu b h
theorem ROk.frz {x : V} {r : R} {a : Addr} {u : HO} (hF : F a = none) (n : ∀ d, x = .ref a → r ≠ .o d) (q : ROk g β F H x r) : ROk g β (upd F a u) H x r :=
  q.le (Le.of (same_upd hF)) fun b d e er => by
    refine ⟨fun _ h => h, ?_⟩
    subst er
    obtain ⟨b', eb, ob⟩ := q
    rw [e] at eb
    cases eb
    rw [upd_ne (fun z => n d (by rw [e, z]) rfl)]
    exact ob.out
theorem mem_mid {α : Type} {xs ys : List α} {x : α} : x ∈ xs ++ x :: ys := List.mem_append_right _ List.mem_cons_self
theorem cells_mid {c : V × R} : cells σ ρ (ts ++ c :: us) = cells σ ρ ts ++ tcell c :: us.map tcell := by
  unfold cells
  rw [List.map_append, List.append_assoc]
  rfl
/-- the cells but one own nothing at a -/
theorem AtF.other {a : Addr} {d : D} (A : AtF g lk β F σ ρ (ts ++ (.ref a, .o d) :: us) H) : (∀ c ∈ cells σ ρ ts, ∀ d', c ≠ (some (.ref a), some (.o d'))) ∧ ∀ c ∈ us.map tcell, ∀ d', c ≠ (some (.ref a), some (.o d')) := by
  have dd := A.dis
  rw [cells_mid, List.pairwise_append] at dd
  obtain ⟨d1, d2, d3⟩ := dd
  obtain ⟨d4, d5⟩ := List.pairwise_cons.mp d2
  exact ⟨fun c hc d' e => d3 c hc _ List.mem_cons_self a d' d e rfl, fun c hc d' e => d4 c hc a d d' rfl e⟩
end
section
variable {g : Gm} {lk : List Addr} {β σ : Sg} {F H : Hp} {ρ ρ' : Rho} {ts us : Ts} {v : V} {r : R} {d : D}
theorem tcell_mem {c : V × R} {ts : Ts} (h : c ∈ ts) : tcell c ∈ cells σ ρ ts := List.mem_append_right _ (List.mem_map.mpr ⟨c, h, rfl⟩)
theorem slot_mem {i : Nat} {x : Option V} {r : Option R} (h1 : σ[i]? = some x) (h2 : ρ[i]? = some r) : (x, r) ∈ cells σ ρ ts := by
  refine List.mem_append_left _ (List.mem_iff_getElem?.mpr ⟨i, ?_⟩)
  rw [List.getElem?_zip_eq_some]
  exact ⟨h1, h2⟩
theorem AtF.freeze1 (A : AtF g lk β F σ ρ (ts ++ (v, r) :: us) H) (e : frzR ρ r = some (ρ', d)) : ∃ F', Le F F' ∧ AtF g lk β F' σ ρ' (ts ++ (v, .z d) :: us) H := by
  have rv := A.tmp (v, r) mem_mid
  cases r with
  | z d' => cases e; exact ⟨F, Le.refl F, A⟩
  | p => cases e
  | o d' =>
    cases e
    obtain ⟨a, rfl, ow⟩ := rv
    obtain ⟨u, hu⟩ := ow.out_mem
    obtain ⟨n1, n2⟩ := A.other
    refine ⟨upd F a u, Le.of (same_upd ow.out), A.core.frz hu ow.out ow.mu ow.new, A.len, fun i r hr => ?_, fun c hc => ?_, A.link, ?_⟩
    · obtain ⟨nb, x, h1, h2⟩ := A.slot i r hr
      exact ⟨nb, x, h1, h2.frz ow.out fun d'' ex er => n1 _ (slot_mem h1 hr) d'' (by rw [ex, er])⟩
    · rcases List.mem_append.mp hc with hc | hc
      · exact (A.tmp c (List.mem_append_left _ hc)).frz ow.out fun d'' ex er => n1 _ (tcell_mem hc) d'' (by unfold tcell; rw [ex, er])
      · rcases List.mem_cons.mp hc with rfl | hc
        · exact ow.at_.den (Le.of (same_upd ow.out)) fun u' h => by rw [hu] at h; cases h; exact upd_same
        · exact (A.tmp c (List.mem_append_right _ (List.mem_cons_of_mem _ hc))).frz ow.out fun d'' ex er => n2 _ (List.mem_map.mpr ⟨c, hc, rfl⟩) d'' (by unfold tcell; rw [ex, er])
    · have dd := A.dis
      rw [cells_mid, List.pairwise_append] at dd ⊢
      obtain ⟨d1, d2, d3⟩ := dd
      obtain ⟨d4, d5⟩ := List.pairwise_cons.mp d2
      refine ⟨d1, .cons (fun c hc a d d' e _ => nomatch e) d5, fun c hc c' hc' => ?_⟩
      rcases List.mem_cons.mp hc' with rfl | hc'
      · intro a d d' _ e
        exact nomatch e
      · exact d3 c hc c' (List.mem_cons_of_mem _ hc')
  | b i =>
    unfold frzR at e
    simp only at e
    split at e
    · rename_i d' hi
      cases e
      obtain ⟨nb, x, h1, a, hx, ow⟩ := A.slot i _ hi
      subst hx
      have lk' := A.link i d hi
      have rv : β[i]? = some (some v) := rv
      rw [lk', h1] at rv
      cases rv
      obtain ⟨u, hu⟩ := ow.out_mem
      have hiσ : i < σ.length := (List.getElem?_eq_some_iff.mp h1).1
      have dd := A.dis
      -- no other cell owns a
      have nS : ∀ j r, j ≠ i → ρ[j]? = some (some r) → ∀ x, σ[j]? = some (some x) → ∀ d'', x = .ref a → r ≠ .o d'' := fun j r hj hr x hx d'' ex er => by
        subst ex er
        unfold cells at dd
        have dz := (List.pairwise_append.mp dd).1
        have g1 : (σ.zip ρ)[i]? = some (some (.ref a), some (.o d)) := by rw [List.getElem?_zip_eq_some]; exact ⟨h1, hi⟩
        have g2 : (σ.zip ρ)[j]? = some (some (.ref a), some (.o d'')) := by rw [List.getElem?_zip_eq_some]; exact ⟨hx, hr⟩
        rw [List.pairwise_iff_getElem] at dz
        obtain ⟨li, e1⟩ := List.getElem?_eq_some_iff.mp g1
        obtain ⟨lj, e2⟩ := List.getElem?_eq_some_iff.mp g2
        rcases Nat.lt_or_gt_of_ne hj with h | h
        · exact dz j i lj li h a d'' d e2 e1
        · exact dz i j li lj h a d d'' e1 e2
      have nT : ∀ c ∈ ts ++ (.ref a, .b i) :: us, ∀ d'', c.1 = .ref a → c.2 ≠ .o d'' := fun c hc d'' ex er => by
        unfold cells at dd
        exact (List.pairwise_append.mp dd).2.2 _ (List.mem_iff_getElem?.mpr ⟨i, by rw [List.getElem?_zip_eq_some]; exact ⟨h1, hi⟩⟩) (tcell c) (List.mem_map.mpr ⟨c, hc, rfl⟩) a d d'' rfl (by unfold tcell; rw [ex, er])
      refine ⟨upd F a u, Le.of (same_upd ow.out), A.core.frz hu ow.out ow.mu ow.new, by simp [A.len], fun j r hr => ?_, fun c hc => ?_, fun j d'' hr => ?_, ?_⟩
      · rcases get_set hr with ⟨rfl, e⟩ | ⟨hj, e⟩
        · cases e
          exact ⟨rfl, _, h1, ow.at_.den (Le.of (same_upd ow.out)) fun u' h => by rw [hu] at h; cases h; exact upd_same⟩
        · obtain ⟨nb', x, h1', h2'⟩ := A.slot j r e
          exact ⟨nb', x, h1', h2'.frz ow.out (nS j r hj e x h1')⟩
      · rcases List.mem_append.mp hc with hc | hc
        · exact (A.tmp c (List.mem_append_left _ hc)).frz ow.out (nT c (List.mem_append_left _ hc))
        · rcases List.mem_cons.mp hc with rfl | hc
          · exact ow.at_.den (Le.of (same_upd ow.out)) fun u' h => by rw [hu] at h; cases h; exact upd_same
          · exact (A.tmp c (List.mem_append_right _ (List.mem_cons_of_mem _ hc))).frz ow.out (nT c (List.mem_append_right _ (List.mem_cons_of_mem _ hc)))
      · rcases get_set hr with ⟨rfl, e⟩ | ⟨hj, e⟩
        · cases e
        · exact A.link j d'' e
      · rw [cells_setR h1 A.len]
        refine pw_set (fun _ _ h => h.symm) i ?_ fun y hy a d d' e _ => nomatch e
        have : cells σ ρ (ts ++ (.ref a, .z d) :: us) = cells σ ρ ts ++ (some (.ref a), some (.z d)) :: us.map tcell := cells_mid
        rw [this]
        rw [cells_mid, List.pairwise_append] at dd
        obtain ⟨d1, d2, d3⟩ := dd
        obtain ⟨d4, d5⟩ := List.pairwise_cons.mp d2
        rw [List.pairwise_append]
        refine ⟨d1, .cons (fun c hc a d d' e _ => nomatch e) d5, fun c hc c' hc' => ?_⟩
        rcases List.mem_cons.mp hc' with rfl | hc'
        · intro a d d' _ e
          exact nomatch e
        · exact d3 c hc c' (List.mem_cons_of_mem _ hc')
    · cases e
/-- all of a list of values -/
theorem AtF.freezeL : ∀ {rs : List R} {vs : List V} {ρ ρ' : Rho} {F : Hp} {ds : List D} {ts : Ts}, vs.length = rs.length → AtF g lk β F σ ρ (ts ++ vs.zip rs) H → frzL ρ rs = some (ρ', ds) → ∃ F', Le F F' ∧ AtF g lk β F' σ ρ' ts H ∧ Dens g.K F' ds vs
  | [], [], _, _, F, _, _, _, A, e => by cases e; exact ⟨F, Le.refl F, by simpa using A, .nil⟩
  | [], _ :: _, _, _, _, _, _, l, _, _ => nomatch l
  | _ :: _, [], _, _, _, _, _, l, _, _ => nomatch l
  | r :: rs, v :: vs, ρ, ρ', F, ds, ts, l, A, e => by
    unfold frzL at e
    split at e
    · rename_i ρ1 d h1
      split at e
      · rename_i ρ2 ds' h2
        cases e
        obtain ⟨F1, l1, A1⟩ := A.freeze1 (ts := ts) (us := vs.zip rs) h1
        have A2 : AtF g lk β F1 σ ρ1 ((ts ++ [(v, .z d)]) ++ vs.zip rs) H := by simpa using A1
        obtain ⟨F2, l2, A3, ds3⟩ := AtF.freezeL (by simpa using l) A2 h2
        have dv : Den g.K F2 d v := A3.tmp (v, .z d) (by simp)
        exact ⟨F2, l1.trans l2, A3.sub (List.sublist_append_left _ _), .cons dv ds3⟩
      · cases e
    · cases e
end

/-! ### displays -/
def dTup (t : TDA) : TD := fun ρ Q => t ρ fun ρ1 rs => match frzL ρ1 rs with
  | some (ρ2, ds) => ds.length ≤ sizeLine ∧ Q ρ2 (.z (.tup ds))
  | none => False
def dLst (t : TDA) : TD := fun ρ Q => t ρ fun ρ1 rs => match frzL ρ1 rs with
  | some (ρ2, ds) => ds.length ≤ sizeLine ∧ Q ρ2 (.o (.lst ds))
  | none => False
section
variable {X : Cx} {es : List Expr} {t : TDA} {pos : Pos}
theorem pd_tup {x1} (h : PDA X es t) : PD X (.Tuple es x1 pos) (dTup t) := by
  refine PE.weak (pe_tup h) fun σ H Q q => ?_
  obtain ⟨g, lk, β, ρ, ts, Qd, hK, A, t, q⟩ := q
  refine ⟨g, lk, β, ρ, ts, _, hK, A, t, fun ρ1 rs vs H1 hl A1 t1 => ?_⟩
  cases e : frzL ρ1 rs with
  | none => simp only [e] at t1
  | some p =>
    obtain ⟨ρ2, ds⟩ := p
    simp only [e] at t1
    obtain ⟨F1, A1⟩ := A1
    obtain ⟨F2, _, A2, dv⟩ := A1.freezeL hl e
    have z : vs.length ≤ sizeLine := by rw [← dv.length]; exact t1.1
    exact ⟨z, fun p hp => q _ _ _ _ (A2.res_tup hp dv z) t1.2⟩
theorem pd_lst (h : PDA X es t) : PD X (.List es pos) (dLst t) := by
  refine PE.weak (pe_lst h) fun σ H Q q => ?_
  obtain ⟨g, lk, β, ρ, ts, Qd, hK, A, t, q⟩ := q
  refine ⟨g, lk, β, ρ, ts, _, hK, A, t, fun ρ1 rs vs H1 hl A1 t1 => ?_⟩
  cases e : frzL ρ1 rs with
  | none => simp only [e] at t1
  | some p =>
    obtain ⟨ρ2, ds⟩ := p
    simp only [e] at t1
    obtain ⟨F1, A1⟩ := A1
    obtain ⟨F2, _, A2, dv⟩ := A1.freezeL hl e
    have z : vs.length ≤ sizeLine := by rw [← dv.length]; exact t1.1
    exact ⟨z, fun p hp => q _ _ _ _ (A2.res_lst hp dv z) t1.2⟩
end

/-! ### built-ins by name -/
def viewL (ρ : Rho) : List R → Option (List D)
  | [] => some []
  | r :: rs => match viewR ρ r, viewL ρ rs with
    | some d, some ds => some (d :: ds)
    | _, _ => none
abbrev FN := List D → (R → Prop) → Prop
inductive DTs (K : PySem.W.Frag) (F H : Hp) : List V → List D → Prop
  | nil : DTs K F H [] []
  | cons {v : V} {d : D} {vs : List V} {ds : List D} : DenT K F H v d → DTs K F H vs ds → DTs K F H (v :: vs) (d :: ds)
def OpN (X : Cx) (r : List V → Hp → VK → Prop) (f : FN) : Prop := ∀ (g : Gm) (lk : List Addr) (β : Sg) (F : Hp) (σ : Sg) (ρ : Rho) (ts : Ts) (H : Hp) (vs : List V) (ds : List D) (Qr : R → Prop) (Q : VK), g.K = X.K → AtF g lk β F σ ρ ts H → DTs X.K F H vs ds → f ds Qr →
  (∀ v H' q, At g lk β σ ρ (ts ++ [(v, q)]) H' → Qr q → Q v H') → r vs H Q
def dCB (f : FN) (t : TDA) : TD := fun ρ Q => t ρ fun ρ1 rs => match viewL ρ1 rs with
  | some ds => f ds (Q ρ1)
  | none => False
theorem AtF.viewL {g : Gm} {lk : List Addr} {β σ : Sg} {F H : Hp} {ρ : Rho} {ts : Ts} (A : AtF g lk β F σ ρ ts H) : ∀ {rs : List R} {vs : List V} {ds : List D}, vs.length = rs.length → (∀ c ∈ vs.zip rs, c ∈ ts) → viewL ρ rs = some ds → DTs g.K F H vs ds
  | [], [], _, _, _, e => by cases e; exact .nil
  | [], _ :: _, _, l, _, _ => nomatch l
  | _ :: _, [], _, l, _, _ => nomatch l
  | r :: rs, v :: vs, ds, l, h, e => by
    unfold Dl.viewL at e
    split at e
    · rename_i d ds' h1 h2
      cases e
      exact .cons (A.view (A.tmp (v, r) (h _ (by simp))) h1) (A.viewL (by simpa using l) (fun c hc => h c (by simp [hc])) h2)
    · cases e
section
variable {X : Cx} {e : Expr} {es : List Expr} {t : TDA} {pos p : Pos} {x : Str} {id T : String} {r : List V → Hp → VK → Prop} {f : FN}
theorem lift_cb (hf : OpN X r f) {σ : L2.St} {H : Hp} {Q : VK} (h : liftE X (dCB f t) σ H Q) : tCB r (liftA X t) σ H Q := by
  obtain ⟨g, lk, β, ρ, ts, Qd, hK, A, t, q⟩ := h
  refine ⟨g, lk, β, ρ, ts, _, hK, A, t, fun ρ1 rs vs H1 hl A1 t1 => ?_⟩
  obtain ⟨F1, A1⟩ := A1
  cases e : viewL ρ1 rs with
  | none => simp only [e] at t1
  | some ds =>
    simp only [e] at t1
    have h1 := A1.viewL hl (fun c hc => List.mem_append_right _ hc) e
    rw [hK] at h1
    exact hf g lk β F1 σ ρ1 _ H1 vs ds _ Q hK A1 h1 t1 fun v H' q' A3 t3 => q _ _ _ _ (A3.sub (List.Sublist.append (List.sublist_append_left _ _) (List.Sublist.refl _))) t3
theorem pd_callB (hc : CallR X (.builtin id) r) (hf : OpN X r f) (hg : Gl X x) (hm : X.mg x = none) (hv : bootBuiltins x = some (.builtin id)) (ha : PDA X (e :: es) t) (hn : x ≠ "__name__" := by decide) (hdb : (x == ("__debug__" : Str)) = false := by decide)
    (he : starEach (e :: es) X.env = (false, eval e X.env) :: starEach es X.env := by rfl) (hpl : (backTo pos (starEach es X.env)).any (·.1) = false := by rfl) : PD X (.Call (.Name x p) (e :: es) [] pos) (dCB f t) :=
  PE.weak (pe_callB hc hg hm hv ha hn hdb he hpl) fun _ _ _ h => lift_cb hf h
theorem pd_callTy (hc : CallR X (.type T) r) (hf : OpN X r f) (hg : Gl X x) (hm : X.mg x = none) (hv : bootBuiltins x = some (.type T)) (ha : PDA X (e :: es) t) (hn : x ≠ "__name__" := by decide) (hdb : (x == ("__debug__" : Str)) = false := by decide)
    (he : starEach (e :: es) X.env = (false, eval e X.env) :: starEach es X.env := by rfl) (hpl : (backTo pos (starEach es X.env)).any (·.1) = false := by rfl) : PD X (.Call (.Name x p) (e :: es) [] pos) (dCB f t) :=
  PE.weak (pe_callTy hc hg hm hv ha hn hdb he hpl) fun _ _ _ h => lift_cb hf h
end
end Dl
set_option autoImplicit false
set_option Elab.async false
set_option linter.all false
set_option maxRecDepth 100000
set_option maxHeartbeats 2000000
/-! statements over data -/
namespace Dl
open PySem PySem.Spec PyProof.Rows L2 LamX
structure DE where
  nx : Rho → Prop
  rt : R → Prop
  bk : Rho → Prop := fun _ => False
  ct : Rho → Prop := fun _ => False
abbrev TDS := DE → Rho → Prop
def Nob (ts : Ts) : Prop := ∀ c ∈ ts, c.2.nob = true
/-- where a statement stands: its own slots are what may be borrowed -/
structure EndsOk (g : Gm) (lk : List Addr) (ts : Ts) (Ed : DE) (E : Ends) : Prop where
  nx : ∀ ρ σ H, At g lk σ σ ρ ts H → Ed.nx ρ → E.nx σ H
  rt : ∀ r v σ ρ H, At g lk σ σ ρ (ts ++ [(v, r)]) H → r.nob = true → Ed.rt r → E.rt v H
  bk : ∀ ρ σ H, At g lk σ σ ρ ts H → Ed.bk ρ → E.bk σ H
  ct : ∀ ρ σ H, At g lk σ σ ρ ts H → Ed.ct ρ → E.ct σ H
def liftS (X : Cx) (t : TDS) : TS := fun E σ H => ∃ g lk ρ ts Ed, g.K = X.K ∧ Nob ts ∧ At g lk σ σ ρ ts H ∧ t Ed ρ ∧ EndsOk g lk ts Ed E
abbrev PDS (X : Cx) (st : Stmt) (t : TDS) : Prop := PS X st (liftS X t)
abbrev PDSs (X : Cx) (sts : List Stmt) (t : TDS) : Prop := PSs X sts (liftS X t)
theorem PS.weak {X : Cx} {s : Stmt} {t t' : TS} (h : PS X s t) (w : ∀ E σ H, t' E σ H → t E σ H) : PS X s t' := ⟨fun pins s σ H E I q => h.run pins s σ H E I (w E σ H q)⟩
theorem PSs.weak {X : Cx} {s : List Stmt} {t t' : TS} (h : PSs X s t) (w : ∀ E σ H, t' E σ H → t E σ H) : PSs X s t' := ⟨fun pins s σ H E I q => h.run pins s σ H E I (w E σ H q)⟩
theorem Nob.snoc {ts : Ts} {c : V × R} (h : Nob ts) (hc : c.2.nob = true) : Nob (ts ++ [c]) := fun x hx => by
  rcases List.mem_append.mp hx with hx | hx
  · exact h x hx
  · rw [List.mem_singleton.mp hx]; exact hc
theorem Nob.app {ts us : Ts} (h : Nob ts) (h' : Nob us) : Nob (ts ++ us) := fun x hx => (List.mem_append.mp hx).elim (h x) (h' x)
/-! ### blocks -/
def dNext : TDS := fun E ρ => E.nx ρ
def dSeq (t u : TDS) : TDS := fun E ρ => t { E with nx := u E } ρ
def dBreak : TDS := fun E ρ => E.bk ρ
def dCont : TDS := fun E ρ => E.ct ρ
def dNever : TDS := fun _ _ => False
section
variable {X : Cx} {st : Stmt} {sts : List Stmt} {t u : TDS} {pos : Pos}
theorem pds_nil : PDSs X [] dNext := PSs.weak pss_nil fun E σ H ⟨g, lk, ρ, ts, Ed, hK, nb, A, t, e⟩ => e.nx ρ σ H A t
theorem pds_one (h : PDS X st t) : PDSs X [st] t := pss_one h
theorem pds_cons (h : PDS X st t) (hs : PDSs X sts u) : PDSs X (st :: sts) (dSeq t u) :=
  PSs.weak (pss_cons h hs) fun E σ H ⟨g, lk, ρ, ts, Ed, hK, nb, A, t, e⟩ => ⟨g, lk, ρ, ts, _, hK, nb, A, t, fun ρ1 σ1 H1 A1 t1 => ⟨g, lk, ρ1, ts, Ed, hK, nb, A1, t1, e⟩, e.rt, e.bk, e.ct⟩
theorem pd_pass : PDS X (.Pass pos) dNext := PS.weak ps_pass fun E σ H ⟨g, lk, ρ, ts, Ed, hK, nb, A, t, e⟩ => e.nx ρ σ H A t
theorem pd_break : PDS X (.Break pos) dBreak := PS.weak ps_break fun E σ H ⟨g, lk, ρ, ts, Ed, hK, nb, A, t, e⟩ => e.bk ρ σ H A t
theorem pd_continue : PDS X (.Continue pos) dCont := PS.weak ps_continue fun E σ H ⟨g, lk, ρ, ts, Ed, hK, nb, A, t, e⟩ => e.ct ρ σ H A t
theorem pd_never : PDS X st dNever := PS.weak ps_never fun E σ H ⟨g, lk, ρ, ts, Ed, hK, nb, A, t, e⟩ => t
theorem pd_doc {x j pos'} : PDS X (.Expr (.Constant (.str x) j pos) pos') dNext := PS.weak ps_doc fun E σ H ⟨g, lk, ρ, ts, Ed, hK, nb, A, t, e⟩ => e.nx ρ σ H A t
def dIfS (c : TDT) (t u : TDS) : TDS := fun E ρ => c ρ fun ρ' b => if b = true then t E ρ' else u E ρ'
theorem pd_if {c : Expr} {a b : List Stmt} {tc : TDT} (hc : PDT X c tc) (ha : PDSs X a t) (hb : PDSs X b u) : PDS X (.If c a b pos) (dIfS tc t u) :=
  PS.weak (ps_if hc ha hb) fun E σ H ⟨g, lk, ρ, ts, Ed, hK, nb, A, t, e⟩ => ⟨g, lk, σ, ρ, ts, _, hK, A, t, fun ρ1 b H1 A1 t1 => by
    cases b with
    | true => exact iteT ⟨g, lk, ρ1, ts, Ed, hK, nb, A1, t1, e⟩
    | false => exact iteF ⟨g, lk, ρ1, ts, Ed, hK, nb, A1, t1, e⟩⟩
def dExpr (te : TD) : TDS := fun E ρ => te ρ fun ρ' _ => E.nx ρ'
theorem pd_expr {e : Expr} {te : TD} (he : PD X e te) (hs : swapsWith e none pos.line X.env = pure false := by rfl) : PDS X (.Expr e pos) (dExpr te) :=
  PS.weak (ps_expr he hs) fun E σ H ⟨g, lk, ρ, ts, Ed, hK, nb, A, t, e⟩ => ⟨g, lk, σ, ρ, ts, _, hK, A, t, fun ρ1 r v H1 A1 t1 => e.nx ρ1 σ H1 A1.pop t1⟩
/-- returned: an own object goes out -/
def outR (ρ : Rho) : R → Option R
  | .b i => match ρ[i]? with
    | some (some (.o d)) => some (.o d)
    | _ => none
  | r => some r
def dRet (te : TD) : TDS := fun E ρ => te ρ fun ρ' r => match outR ρ' r with
  | some q => E.rt q
  | none => False
theorem At.out {g : Gm} {lk : List Addr} {σ : Sg} {ρ : Rho} {ts : Ts} {H : Hp} {v : V} {r q : R} (A : At g lk σ σ ρ (ts ++ [(v, r)]) H) (e : outR ρ r = some q) : q.nob = true ∧ ∃ ρ', At g lk σ σ ρ' (ts ++ [(v, q)]) H := by
  obtain ⟨F, A⟩ := A
  cases r with
  | z d => cases e; exact ⟨rfl, ρ, F, A⟩
  | o d => cases e; exact ⟨rfl, ρ, F, A⟩
  | p => cases e; exact ⟨rfl, ρ, F, A⟩
  | b i =>
    unfold outR at e
    simp only at e
    split at e
    · rename_i d hi
      cases e
      obtain ⟨nb, x, h1, a, hx, ow⟩ := A.slot i _ hi
      subst hx
      have rv : σ[i]? = some (some v) := A.tmp (v, .b i) (by simp)
      rw [h1] at rv
      cases rv
      have hiσ : i < σ.length := (List.getElem?_eq_some_iff.mp h1).1
      have A0 := A.sub (List.sublist_append_left ts [(V.ref a, R.b i)])
      have A1 := A0.wipe1 (v := some (.ref a)) hiσ
      rw [set_self h1] at A1
      refine ⟨rfl, ρ.set i none, F, A1.push ⟨a, rfl, ow⟩ fun b d' eb er d'' hm => ?_⟩
      cases eb
      have dd := A0.dis
      rw [cells_setR h1 A.len] at hm
      -- the only cell that owned a is the one set to none
      obtain ⟨j, hj, ej⟩ := List.getElem_of_mem hm
      rw [List.getElem_set] at ej
      split at ej
      · cases ej
      · rename_i hne
        have hij : (cells σ ρ ts)[i]? = some (some (.ref a), some (.o d)) := by
          unfold cells
          rw [List.getElem?_append_left (by rw [List.length_zip, A.len]; omega), List.getElem?_zip_eq_some]
          exact ⟨h1, hi⟩
        obtain ⟨li, e1⟩ := List.getElem?_eq_some_iff.mp hij
        rw [List.length_set] at hj
        rw [List.pairwise_iff_getElem] at dd
        rcases Nat.lt_or_gt_of_ne hne with h | h
        · exact dd i j li hj h a d d'' e1 ej
        · exact dd j i hj li h a d'' d ej e1
    · cases e
theorem pd_ret {e : Expr} {te : TD} (he : PD X e te) : PDS X (.Return (some e) pos) (dRet te) :=
  PS.weak (ps_ret he) fun E σ H ⟨g, lk, ρ, ts, Ed, hK, nb, A, t, e⟩ => ⟨g, lk, σ, ρ, ts, _, hK, A, t, fun ρ1 r v H1 A1 t1 => by
    cases eo : outR ρ1 r with
    | none => simp only [eo] at t1
    | some q =>
      simp only [eo] at t1
      obtain ⟨n, ρ2, A2⟩ := A1.out eo
      exact e.rt q v σ ρ2 H1 A2 n t1⟩
def dRetN : TDS := fun E _ => E.rt (.z .non)
theorem pd_retN : PDS X (.Return none pos) dRetN :=
  PS.weak ps_retN fun E σ H ⟨g, lk, ρ, ts, Ed, hK, nb, ⟨F, A⟩, t, e⟩ => e.rt _ _ σ ρ H ⟨F, A.push_z .non⟩ rfl t
end
/-! ### stores -/
section
variable {g : Gm} {lk : List Addr} {β σ : Sg} {F H : Hp} {ρ ρ' : Rho} {ts us : Ts}
/-- a frozen datum, or the pot, is stored: what is borrowed elsewhere lasts -/
theorem AtF.storeZ {x : V} {r : R} (A : AtF g lk β F σ ρ (ts ++ [(x, r)]) H) {i : Nat} (hi : i < σ.length) (nb : r.nob = true) (no : ∀ d, r ≠ .o d) : AtF g lk β F (σ.set i (some x)) (ρ.set i (some r)) ts H := by
  have rx := A.tmp (x, r) (by simp)
  refine ⟨A.core, by simp [A.len], fun j q e => ?_, fun c hc => A.tmp c (List.mem_append_left _ hc), fun j d e => ?_, ?_⟩
  · rcases get_set e with ⟨rfl, e'⟩ | ⟨hj, e'⟩
    · cases e'
      exact ⟨nb, x, List.getElem?_set_self hi, rx⟩
    · obtain ⟨n, y, h1, h2⟩ := A.slot j q e'
      exact ⟨n, y, by rw [List.getElem?_set_ne (Ne.symm hj)]; exact h1, h2⟩
  · rcases get_set e with ⟨rfl, e'⟩ | ⟨hj, e'⟩
    · cases e'
      exact absurd rfl (no d)
    · rw [List.getElem?_set_ne (Ne.symm hj)]
      exact A.link j d e'
  · rw [cells_set hi A.len]
    have d := A.dis
    rw [cells_snoc, List.pairwise_append] at d
    exact pw_set (fun _ _ h => h.symm) i d.1 fun y hy => (d.2.2 y hy (tcell (x, r)) (by simp)).symm
end
/-- x = e, x in the i-th slot: a borrowed object is frozen -/
def dSet (i : Nat) (te : TD) : TDS := fun E ρ => te ρ fun ρ' r => match r with
  | .b j => match frzR ρ' (.b j) with
    | some (ρ'', d) => E.nx (ρ''.set i (some (.z d)))
    | none => False
  | r => E.nx (ρ'.set i (some r))
/-- targets of frozen data -/
abbrev TDG := D → Rho → (Rho → Prop) → Prop
abbrev TDGs := List D → Rho → (Rho → Prop) → Prop
def liftG (X : Cx) (ss : List Nat) (t : TDG) : TG := fun v σ H Q => ∃ g lk β ρ ts d Qd, g.K = X.K ∧ At g lk β σ ρ (ts ++ [(v, .z d)]) H ∧ t d ρ Qd ∧ ∀ ρ' σ' H', At g lk β σ' ρ' ts H' → σ'.length = σ.length → (∀ (j : Nat), j ∉ ss → σ'[j]? = σ[j]?) → Qd ρ' → Q σ' H'
def liftGs (X : Cx) (ss : List Nat) (t : TDGs) : TGs := fun vs σ H Q => ∃ g lk β ρ us ts ds Qd, g.K = X.K ∧ vs.length = ds.length ∧ (∀ c ∈ vs.zip (ds.map R.z), c ∈ us) ∧ At g lk β σ ρ us H ∧ ts.Sublist us ∧ t ds ρ Qd ∧ ∀ ρ' σ' H', At g lk β σ' ρ' ts H' → σ'.length = σ.length → (∀ (j : Nat), j ∉ ss → σ'[j]? = σ[j]?) → Qd ρ' → Q σ' H'
abbrev PDG (X : Cx) (ss : List Nat) (e : Expr) (t : TDG) : Prop := PG X e (liftG X ss t)
abbrev PDGs (X : Cx) (ss : List Nat) (es : List Expr) (t : TDGs) : Prop := PGs X es (liftGs X ss t)
theorem PG.weak {X : Cx} {e : Expr} {t t' : TG} (h : PG X e t) (w : ∀ v σ H Q, t' v σ H Q → t v σ H Q) : PG X e t' := ⟨fun pins s σ H x u Q I r q => h.run pins s σ H x u Q I r (w _ _ _ _ q)⟩
theorem PGs.weak {X : Cx} {e : List Expr} {t t' : TGs} (h : PGs X e t) (w : ∀ v σ H Q, t' v σ H Q → t v σ H Q) : PGs X e t' := ⟨fun pins s σ H x u Q I r q => h.run pins s σ H x u Q I r (w _ _ _ _ q)⟩
def gdName (i : Nat) : TDG := fun d ρ Q => Q (ρ.set i (some (.z d)))
def gdNil : TDGs := fun ds ρ Q => match ds with
  | [] => Q ρ
  | _ => False
def gdCons (t : TDG) (u : TDGs) : TDGs := fun ds ρ Q => match ds with
  | d :: ds => t d ρ fun ρ' => u ds ρ' Q
  | [] => False
def lenIs {α : Type} : List α → Nat → Bool
  | [], 0 => true
  | _ :: xs, n + 1 => lenIs xs n
  | _, _ => false
theorem lenIs_eq {α : Type} : ∀ {xs : List α} {n : Nat}, lenIs xs n = true → xs.length = n
  | [], 0, _ => rfl
  | _ :: xs, n + 1, h => congrArg (· + 1) (lenIs_eq (xs := xs) h)
  | [], _ + 1, h => nomatch h
  | _ :: _, 0, h => nomatch h
def gdTup (n : Nat) (t : TDGs) : TDG := fun d ρ Q => match d with
  | .tup ds => match lenIs ds n with
    | true => t ds ρ Q
    | false => False
  | _ => False
theorem AtF.push_zs {g : Gm} {lk : List Addr} {β σ : Sg} {F H : Hp} {ρ : Rho} : ∀ {ds : List D} {vs : List V} {ts : Ts}, AtF g lk β F σ ρ ts H → Dens g.K F ds vs → AtF g lk β F σ ρ (ts ++ vs.zip (ds.map R.z)) H
  | _, _, ts, A, .nil => by simpa using A
  | _, _, ts, A, .cons dv r => by
    have := AtF.push_zs (A.push_z dv) r
    simpa using this
/-- what may be borrowed is told anew -/
theorem AtF.rebase {g : Gm} {lk : List Addr} {β σ : Sg} {F H : Hp} {ρ : Rho} {ts : Ts} (A : AtF g lk β F σ ρ ts H) (nt : Nob ts) : AtF g lk σ F σ ρ ts H :=
  ⟨A.core, A.len, fun i r e => by
    obtain ⟨n, x, h1, h2⟩ := A.slot i r e
    exact ⟨n, x, h1, h2.nob n⟩, fun c hc => (A.tmp c hc).nob (nt c hc), fun _ _ _ => rfl, A.dis⟩
section
variable {X : Cx} {e : Expr} {es : List Expr} {t : TDG} {u : TDGs} {pos : Pos} {i : Nat} {x : Str}
theorem pdg_name (hN : X.N.Nodup) (hi : X.N[i]? = some x) (hx : Loc X.env.scope x) (hl : i < X.N.length := by first | decide | (simp; done)) (hf : X.fn x = true ∨ X.env.scope.names.lookup x = some .local := by first | exact .inl rfl | exact .inr rfl | assumption) : PDG X [i] (.Name x pos) (gdName i) := by
  refine ⟨fun pins s σ H v u Q I r h => ?_⟩
  refine (pg_name hN hi hx hf).run pins s σ H v u Q I r ?_
  obtain ⟨g, lk, β, ρ, ts, d, Qd, hK, ⟨F, A⟩, t, q⟩ := h
  have hiσ : i < σ.length := by rw [I.len]; exact hl
  exact q _ _ _ ⟨F, A.storeZ hiσ rfl fun _ e => nomatch e⟩ (by simp) (fun j hj => by rw [List.getElem?_set_ne (fun e => hj (by simp [e]))]) t
theorem pdgs_nil : PDGs X [] [] gdNil := by
  refine PGs.weak pgs_nil fun vs σ H Q h => ?_
  obtain ⟨g, lk, β, ρ, us, ts, ds, Qd, hK, hl, hm, A, sb, t, q⟩ := h
  cases ds with
  | nil => exact ⟨List.eq_nil_of_length_eq_zero hl, q _ _ _ (A.sub sb) rfl (fun _ _ => rfl) t⟩
  | cons _ _ => exact t.elim
theorem pdgs_cons {s1 s2 : List Nat} (h1 : PDG X s1 e t) (h2 : PDGs X s2 es u) (hs : (assignEach (e :: es) X.env).map (·.2) = assign e X.env :: (assignEach es X.env).map (·.2) := by rfl) : PDGs X (s1 ++ s2) (e :: es) (gdCons t u) := by
  refine PGs.weak (pgs_cons h1 h2 hs) fun vs σ H Q h => ?_
  obtain ⟨g, lk, β, ρ, us, ts, ds, Qd, hK, hl, hm, ⟨F, A⟩, sb, t, q⟩ := h
  cases ds with
  | nil => exact t.elim
  | cons d ds =>
    cases vs with
    | nil => cases hl
    | cons v vs =>
      refine ⟨v, vs, rfl, g, lk, β, ρ, us, d, _, hK, ⟨F, A.push_z (A.tmp (v, .z d) (hm _ (by simp)))⟩, t, fun ρ1 σ1 H1 A1 l1 k1 t1 => ?_⟩
      exact ⟨g, lk, β, ρ1, us, ts, ds, Qd, hK, by simpa using hl, fun c hc => hm c (by simp [hc]), A1, sb, t1, fun ρ2 σ2 H2 A2 l2 k2 t2 => q ρ2 σ2 H2 A2 (l2.trans l1) (fun j hj => (k2 j fun z => hj (by simp [z])).trans (k1 j fun z => hj (by simp [z]))) t2⟩
theorem pdg_tup {k n : Nat} {ss : List Nat} (hc : X.calm = true) (h : PDGs X ss es u) (hn : (assignEach es X.env).length = n := by rfl) (hst : (assignEach es X.env).findIdx? (·.1) = none := by rfl) : PDG X ss (.Tuple es k pos) (gdTup n u) := by
  refine PG.weak (pg_tup hc h hn hst) fun v σ H Q h => ?_
  obtain ⟨g, lk, β, ρ, ts, d, Qd, hK, ⟨F, A⟩, t, q⟩ := h
  cases d with
  | tup ds =>
    have dv : Den g.K F (.tup ds) v := A.tmp (v, .z (.tup ds)) (by simp)
    cases dv with
    | @tup a xs _ h1 z r =>
      have hl := r.length
      unfold gdTup at t
      simp only at t
      split at t
      · rename_i hn
        refine ⟨a, xs, rfl, .of (A.core.sub _ _ h1), by rw [← hl]; exact lenIs_eq hn, ?_⟩
        exact ⟨g, lk, β, ρ, ts ++ xs.zip (ds.map R.z), ts, ds, Qd, hK, hl.symm, fun c hc => List.mem_append_right _ hc, ⟨F, (A.sub (List.sublist_append_left ts _)).push_zs r⟩, List.sublist_append_left _ _, t, q⟩
      · exact t.elim
  | _ => exact t.elim
/-! ### assignments -/
theorem pd_set {te : TD} {pos' : Pos} (hN : X.N.Nodup) (hi : X.N[i]? = some x) (hx : Loc X.env.scope x) (he : PD X e te) (hl : i < X.N.length := by first | decide | (simp; done)) (hs : swapsWith e (some (.Name x pos')) pos.line X.env = pure false := by rfl)
    (hf : X.fn x = true ∨ X.env.scope.names.lookup x = some .local := by first | exact .inl rfl | exact .inr rfl | assumption) : PDS X (.Assign [.Name x pos'] e pos) (dSet i te) := by
  refine ⟨fun pins s σ H E I h => ?_⟩
  have hiσ : i < σ.length := by rw [I.len]; exact hl
  refine (ps_set hN hi hx he hs hf).run pins s σ H E I ?_
  obtain ⟨g, lk, ρ, ts, Ed, hK, nb, A, t, ee⟩ := h
  refine ⟨g, lk, σ, ρ, ts, _, hK, A, t, fun ρ1 r v H1 ⟨F1, A1⟩ t1 => ?_⟩
  cases r with
  | b j =>
    simp only at t1
    cases ef : frzR ρ1 (.b j) with
    | none => simp only [ef] at t1
    | some p =>
      obtain ⟨ρ2, d⟩ := p
      simp only [ef] at t1
      obtain ⟨F2, _, A2⟩ := A1.freeze1 (us := []) ef
      exact ee.nx _ _ _ ⟨F2, (A2.storeZ hiσ rfl fun _ e => nomatch e).rebase nb⟩ t1
  | z d => exact ee.nx _ _ _ ⟨F1, A1.store hiσ rfl nb⟩ t1
  | o d => exact ee.nx _ _ _ ⟨F1, A1.store hiσ rfl nb⟩ t1
  | p => exact ee.nx _ _ _ ⟨F1, A1.store hiσ rfl nb⟩ t1
/-- a, b = e: of a frozen tuple -/
def dAsg (te : TD) (tg : TDG) : TDS := fun E ρ => te ρ fun ρ' r => match r with
  | .z d => tg d ρ' E.nx
  | _ => False
theorem pd_asg {tg : Expr} {te : TD} {t : TDG} {ss : List Nat} (he : PD X e te) (hg : PDG X ss tg t) (hs : swapsWithSole [tg] e pos.line X.env = pure false := by rfl) (hw : swappedStores [tg] e X.env = pure none := by rfl) (h1 : (assignEach [tg] X.env).map (·.2) = [assign tg X.env] := by rfl) : PDS X (.Assign [tg] e pos) (dAsg te t) := by
  refine PS.weak (ps_asg he hg hs hw (h1 := h1)) fun E σ H h => ?_
  obtain ⟨g, lk, ρ, ts, Ed, hK, nb, A, t, ee⟩ := h
  refine ⟨g, lk, σ, ρ, ts, _, hK, A, t, fun ρ1 r v H1 ⟨F1, A1⟩ t1 => ?_⟩
  cases r with
  | z d => exact ⟨g, lk, σ, ρ1, ts, d, _, hK, ⟨F1, A1⟩, t1, fun ρ2 σ2 H2 ⟨F2, A2⟩ l2 _ t2 => ee.nx _ _ _ ⟨F2, A2.rebase nb⟩ t2⟩
  | _ => exact t1.elim
end
/-! ### loops -/
abbrev TDI := Rho → (Rho → List D → Prop) → Prop
/-- the iterator yields these data; cs is what it walks -/
structure Serves (g : Gm) (J : It) (ds : List D) (cs : Ts) : Prop where
  nob : Nob cs
  go : ∀ (lk : List Addr) (β σ : Sg) (ρ : Rho) (ts : Ts) (H : Hp) (i : Nat) (d : D), At g lk β σ ρ (ts ++ cs) H → ds[i]? = some d → J.go i H ∧ ∀ x H', J.yld i H x H' → At g lk β σ ρ (ts ++ cs ++ [(x, .z d)]) H'
  stop : ∀ (lk : List Addr) (β σ : Sg) (ρ : Rho) (ts : Ts) (H : Hp), At g lk β σ ρ (ts ++ cs) H → J.stop ds.length H
def liftI (X : Cx) (t : TDI) : TI := fun σ H Q => ∃ g lk β ρ ts Qd, g.K = X.K ∧ At g lk β σ ρ ts H ∧ t ρ Qd ∧ ∀ ρ' ds cs J H', At g lk β σ ρ' (ts ++ cs) H' → Serves g J ds cs → Qd ρ' ds → Q J H'
abbrev PDI (X : Cx) (tg iter : Expr) (t : TDI) : Prop := PI X tg iter (liftI X t)
theorem PI.weak {X : Cx} {tg iter : Expr} {t t' : TI} (h : PI X tg iter t) (w : ∀ σ H Q, t' σ H Q → t σ H Q) : PI X tg iter t' := ⟨fun pins s σ H Q I q => h.run pins s σ H Q I (w _ _ _ q)⟩
def forD (tg : TDG) (tb : TDS) (E : DE) : List D → Rho → Prop
  | [], ρ => E.nx ρ
  | d :: ds, ρ => tg d ρ fun ρ1 => tb { nx := forD tg tb E ds, rt := E.rt, bk := E.nx, ct := forD tg tb E ds } ρ1
def dFor (ti : TDI) (tg : TDG) (tb : TDS) : TDS := fun E ρ => ti ρ fun ρ1 ds => forD tg tb E ds ρ1
def dWhile (tc : TDT) (tb : TDS) : TDS := fun E ρ => ∃ W : Nat → Rho → Prop, (∃ m, W m ρ) ∧ ∀ m ρ, W m ρ → tc ρ fun ρ1 b => if b = true then tb { nx := fun ρ2 => ∃ m', m' < m ∧ W m' ρ2, rt := E.rt, bk := E.nx, ct := fun ρ2 => ∃ m', m' < m ∧ W m' ρ2 } ρ1 else E.nx ρ1
section
variable {X : Cx} {iter tg : Expr} {body : List Stmt} {ti : TDI} {t : TDG} {tb : TDS} {pos : Pos}
theorem pd_for {ss : List Nat} (hp : PassesOwn (model X.prog X.w) X.A X.env X.xe) (hc : X.calm = true) (hi : PDI X tg iter ti) (hg : PDG X ss tg t) (hb : PDSs X body tb) (hs : ∀ x, foldedSetIterable iter X.env x = pure x := by intro _; rfl) : PDS X (.For tg iter body [] pos) (dFor ti t tb) := by
  refine PS.weak (ps_for hp hc hi hg hb hs) fun E σ H h => ?_
  obtain ⟨g, lk, ρ, ts, Ed, hK, nb, A, t, ee⟩ := h
  refine ⟨g, lk, σ, ρ, ts, _, hK, A, t, fun ρ1 ds cs J H1 A1 sv t1 => ?_⟩
  refine ⟨fun i m σ2 H2 => m = ds.length - i ∧ i ≤ ds.length ∧ ∃ ρ2, At g lk σ2 σ2 ρ2 (ts ++ cs) H2 ∧ forD _ _ Ed (ds.drop i) ρ2, ⟨ds.length, by simp, Nat.zero_le _, ρ1, A1, t1⟩, ?_⟩
  rintro i m σ2 H2 ⟨rfl, hi, ρ2, A2, t2⟩
  by_cases hlt : i < ds.length
  · have hd : ds[i]? = some ds[i] := List.getElem?_eq_getElem hlt
    rw [List.drop_eq_getElem_cons hlt] at t2
    obtain ⟨go, yl⟩ := sv.go lk σ2 σ2 ρ2 ts H2 i _ A2 hd
    refine .inr ⟨go, fun σ3 H3 => ∃ ρ3, At g lk σ3 σ3 ρ3 (ts ++ cs) H3 ∧ forD _ _ Ed (ds.drop (i + 1)) ρ3, fun σ3 H3 ⟨ρ3, A3, t3⟩ => ⟨ds.length - (i + 1), by omega, rfl, hlt, ρ3, A3, t3⟩, fun x H3 y => ?_⟩
    refine ⟨g, lk, σ2, ρ2, ts ++ cs, ds[i], _, hK, yl x H3 y, t2, fun ρ4 σ4 H4 ⟨F4, A4⟩ l4 _ t4 => ?_⟩
    have nbc : Nob (ts ++ cs) := nb.app sv.nob
    refine ⟨g, lk, ρ4, ts ++ cs, _, hK, nbc, ⟨F4, A4.rebase nbc⟩, t4, ?_⟩
    refine ⟨fun ρ5 σ5 H5 A5 t5 => ⟨ρ5, A5, t5⟩, fun r v σ5 ρ5 H5 A5 n5 t5 => ee.rt r v σ5 ρ5 H5 (A5.sub ?_) n5 t5, fun ρ5 σ5 H5 A5 t5 => ee.nx ρ5 σ5 H5 (A5.sub (List.sublist_append_left _ _)) t5, fun ρ5 σ5 H5 A5 t5 => ⟨ρ5, A5, t5⟩⟩
    exact List.Sublist.append (List.sublist_append_left _ _) (List.Sublist.refl _)
  · have e : i = ds.length := by omega
    subst e
    rw [List.drop_length] at t2
    exact .inl ⟨sv.stop lk σ2 σ2 ρ2 ts H2 A2, ee.nx ρ2 σ2 H2 (A2.sub (List.sublist_append_left _ _)) t2⟩
theorem pd_while {c : Expr} {tc : TDT} (hp : PassesOwn (model X.prog X.w) X.A X.env X.xe) (hc : PDT X c tc) (hb : PDSs X body tb) : PDS X (.While c body [] pos) (dWhile tc tb) := by
  refine PS.weak (ps_while hp hc hb) fun E σ H h => ?_
  obtain ⟨g, lk, ρ, ts, Ed, hK, nb, A, ⟨W, ⟨m0, w0⟩, turn⟩, ee⟩ := h
  refine ⟨fun m σ2 H2 => ∃ ρ2, At g lk σ2 σ2 ρ2 ts H2 ∧ W m ρ2, ⟨m0, ρ, A, w0⟩, ?_⟩
  rintro m σ2 H2 ⟨ρ2, A2, w2⟩
  refine ⟨g, lk, σ2, ρ2, ts, _, hK, A2, turn m ρ2 w2, fun ρ3 b H3 A3 t3 => ?_⟩
  cases b with
  | true =>
    refine iteT ⟨fun σ4 H4 => ∃ ρ4, At g lk σ4 σ4 ρ4 ts H4 ∧ ∃ m', m' < m ∧ W m' ρ4, fun σ4 H4 ⟨ρ4, A4, m', hm, w4⟩ => ⟨m', hm, ρ4, A4, w4⟩, ?_⟩
    exact ⟨g, lk, ρ3, ts, _, hK, nb, A3, t3, fun ρ4 σ4 H4 A4 t4 => ⟨ρ4, A4, t4⟩, ee.rt, ee.nx, fun ρ4 σ4 H4 A4 t4 => ⟨ρ4, A4, t4⟩⟩
  | false => exact iteF (ee.nx ρ3 σ2 H3 A3 t3)
end
end Dl
set_option Elab.async false
set_option linter.all false
set_option maxRecDepth 100000
set_option maxHeartbeats 4000000
/-! repr of a list of plain values: the guards of the surroundings are carried along. -/
namespace Lw
open PySem PySem.Spec PyProof.Rows L2
/-! ### a def whose promise wants that no repr is under way -/
/-- as FnOk, where no repr is under way -/
structure FnG (P : Program) (w : World) (K : PySem.W.Frag) (mg : Str → Option Value) (base : Heap) (CX : CXT) (k : Nat) (f : Addr) (fd : FuncData) (ps : List Str) (sp : Sp) : Prop where
  size : ∀ vs H Q E, sp vs H Q E → vs.length = ps.length
  goes : ∀ (A : Around) (outer : List Env) (s : Shared) (H : Hp) (us : List Value) (vs : List V) (Q : VK) (E : XK), A.guards = some [] → Room k A → Env0 P w K mg base A outer s H → BindsTo s fd ⟨us, []⟩ (ps.zip us) → Vals vs us → sp vs H Q E →
    codeAny (model P w) A (.call (.ref f) ⟨us, []⟩) (CR CX outer P w H s Q E) s
section
variable {P : Program} {w : World} {K : PySem.W.Frag} {mg : Str → Option Value} {base : Heap}
theorem guards_in {A : Around} (h : A.guards = some []) (env : Env) : (A.deeper env).guards = some [] := h
theorem fng_of {CX : CXT} {x qual : Str} {st : Stmt} {f : Addr} {fd : FuncData} {N ps : List Str} {k : Nat} {sp : Sp} (F : L2.Fun K x qual st f fd) (S : FnScope N ps (defScope st)) (size : ∀ vs H Q E, sp vs H Q E → vs.length = ps.length)
    (hb : ∀ (cdv : Value) (A : Around) (outer : List Env) (s : Shared) (H : Hp) (vs : List V) (Q : VK) (E : XK), A.guards = some [] → Room k (A.deeper (envOfC qual (defScope st) s.heap.objs.size f cdv)) → sp vs H Q E →
      ∃ t, PSs (cxOf CX P w K mg base N qual (defScope st) f cdv A outer s H E) (defBody st) t ∧ t { nx := fun _ H' => Q .non H', rt := Q } (start N vs) H) : FnG P w K mg base CX (k + 1) f fd ps sp := by
  obtain ⟨oc, od, kV, doc, pm, an, cdv, ct, osl, rfl, lk, hcd⟩ := F.ex
  exact ⟨size, fun A outer s H us vs Q E g hr e0 bt r h => LamX.run_ofS lk hcd S hr e0 bt r (size _ _ _ _ h) fun hr' => hb cdv A outer s H vs Q E g hr' h⟩
/-- the same of a def that lets no exception out -/
theorem fng_of0 {x qual : Str} {st : Stmt} {f : Addr} {fd : FuncData} {N ps : List Str} {k : Nat} {sp : Sp} (F : L2.Fun K x qual st f fd) (S : FnScope N ps (defScope st)) (size : ∀ vs H Q E, sp vs H Q E → vs.length = ps.length)
    (hb : ∀ (cdv : Value) (A : Around) (outer : List Env) (s : Shared) (H : Hp) (vs : List V) (Q : VK) (E : XK), A.guards = some [] → Room k (A.deeper (envOfC qual (defScope st) s.heap.objs.size f cdv)) → sp vs H Q E →
      ∃ t, PSs (cxOf CX0 P w K mg base N qual (defScope st) f cdv A outer s H E).nox (defBody st) t ∧ t { nx := fun _ H' => Q .non H', rt := Q } (start N vs) H) : FnG P w K mg base CX0 (k + 1) f fd ps sp := by
  refine fng_of F S size fun cdv A outer s H vs Q E g hr h => ?_
  obtain ⟨t, h1, h2⟩ := hb cdv A outer s H vs Q E g hr h
  exact ⟨t, h1.nox, h2⟩
end
section
variable {X : Cx} {CX : CXT} {k : Nat} {f : Addr} {fd : FuncData} {ps : List Str} {sp : Sp} {E : XK} {x : Str} {p pos : Pos} {e : Expr} {es : List Expr} {t : TA}
theorem pe_callG (gd : X.A.guards = some []) (F : FnG X.prog X.w X.K X.mg X.base CX k f fd ps sp) (hr : Room k X.A) (hg : Gl X x) (hm : X.mg x = some (.ref f)) (hk : PySem.W.keepIn X.K (.ref f) = true) (hb : Binds X.K fd ps []) (hx : Passes CX X E)
    (ha : PA X (e :: es) t) (hdb : (x == ("__debug__" : Str)) = false := by decide) (he : starEach (e :: es) X.env = (false, eval e X.env) :: starEach es X.env := by rfl) (hpl : (backTo pos (starEach es X.env)).any (·.1) = false := by rfl) :
    PE X (.Call (.Name x p) (e :: es) [] pos) (tCall sp [] E t) := by
  constructor
  intro pins s σ H Q I h
  refine wpAny_Call_Name_kw (ld_glob I hg hm (PySem.W.callWith_K (h₀ := X.base) I.ok.mod.kin hk ?_ he hpl) hdb)
  refine thn (ha.run pos pins s σ H _ I h) ?_
  rintro us s1 ⟨vs, H1, I1, r, q⟩
  refine ⟨I1.kIn, ?_⟩
  rw [List.append_nil] at q
  have hl : us.length = ps.length := r.length.symm.trans (F.size _ _ _ _ q)
  have bt : BindsTo s1 fd ⟨us, []⟩ (ps.zip us) := by
    have z := hb s1 us I1.kIn (by rw [List.append_nil]; exact hl)
    rw [List.append_nil] at z
    exact z
  refine wpAny_call (codeAny_mono (F.goes X.A X.stack s1 H1 us vs Q E gd hr I1.env0 bt r q) ?_)
  intro o s' ho
  cases o with
  | error ex => exact hx pins σ H1 s1 ex s' I1 ho
  | ok fl =>
    cases fl with
    | ret u => exact I1.after ho
    | next => exact ho.elim
    | brk => exact ho.elim
    | cont => exact ho.elim
end
end Lw
set_option autoImplicit false
set_option Elab.async false
set_option linter.all false
set_option maxRecDepth 100000
set_option maxHeartbeats 2000000
/-! defs over data: promises and calls -/
namespace Dl
open PySem PySem.Spec PyProof.Rows L2 LamX
/-- what a def gets: frozen data, the pot -/
inductive ArgR (K : PySem.W.Frag) (fm : Fm) (F : Hp) : V → R → Prop
  | z {v : V} {d : D} : Den K F d v → ArgR K fm F v (.z d)
  | p {a : Addr} : fm.pot = some a → ArgR K fm F (.ref a) .p
abbrev Sem := List R → (R → Prop) → Prop
/-- a def's way out -/
structure Out (g : Gm) (F : Hp) (H : Hp) (v : V) (r : R) : Prop where
  core : Core g [] F H
  ok : ROk g [] F H v r
  nob : r.nob = true
def spD (K : PySem.W.Frag) (fm : Fm) (sem : Sem) : Sp := fun vs H Q _ => ∃ (F : Hp) (rs : List R) (Qd : R → Prop), Core ⟨K, fm, F, H⟩ [] F H ∧ Paired (ArgR K fm F) vs rs ∧ sem rs Qd ∧ ∀ r v F' H', Out ⟨K, fm, F, H⟩ F' H' v r → Qd r → Q v H'
def startR (N : List Str) (rs : List R) : Rho := rs.map some ++ List.replicate (N.length - rs.length) none
section
variable {K : PySem.W.Frag} {fm : Fm} {F H : Hp}
theorem ArgR.le {F' : Hp} {v : V} {r : R} (l : Le F F') (h : ArgR K fm F v r) : ArgR K fm F' v r := by
  cases h with
  | z h => exact .z (h.le l)
  | p h => exact .p h
theorem ArgR.ok {g : Gm} {β : Sg} {v : V} {r : R} (eK : g.K = K) (ef : g.fm = fm) (h : ArgR K fm F v r) : ROk g β F H v r ∧ r.nob = true ∧ ∀ d, r ≠ .o d := by
  cases h with
  | z h => exact ⟨by rw [← eK] at h; exact h, rfl, fun _ e => nomatch e⟩
  | p h => exact ⟨⟨_, rfl, by rw [ef]; exact h⟩, rfl, fun _ e => nomatch e⟩
theorem paired_get {α β : Type} {P : α → β → Prop} : ∀ {xs : List α} {ys : List β}, Paired P xs ys → ∀ {i : Nat} {y : β}, ys[i]? = some y → ∃ x, xs[i]? = some x ∧ P x y
  | _, _, .cons h _, 0, _, e => ⟨_, rfl, by simp at e; subst e; exact h⟩
  | _, _, .cons _ t, i + 1, _, e => by
    obtain ⟨x, h1, h2⟩ := paired_get t (i := i) (by simpa using e)
    exact ⟨x, by simpa using h1, h2⟩
  | _, _, .nil, _, _, e => by simp at e
/-- at the entry -/
theorem entry {N : List Str} {vs : List V} {rs : List R} (c : Core ⟨K, fm, F, H⟩ [] F H) (h : Paired (ArgR K fm F) vs rs) : At ⟨K, fm, F, H⟩ [] (start N vs) (start N vs) (startR N rs) [] H := by
  have hl : vs.length = rs.length := Paired.length h
  have at_ : ∀ (i : Nat) (r : R), (startR N rs)[i]? = some (some r) → ∃ v, (start N vs)[i]? = some (some v) ∧ ArgR K fm F v r := fun i r e => by
    unfold startR at e
    rw [List.getElem?_append] at e
    split at e
    · rename_i hi
      rw [List.getElem?_map] at e
      cases er : rs[i]? with
      | none => rw [er] at e; cases e
      | some r' =>
        rw [er] at e
        cases e
        obtain ⟨v, h1, h2⟩ := paired_get h er
        refine ⟨v, ?_, h2⟩
        unfold L2.start
        rw [List.getElem?_append_left (by rw [List.length_map] at hi ⊢; omega), List.getElem?_map, h1]
        rfl
    · rw [List.getElem?_replicate] at e
      split at e <;> cases e
  refine ⟨F, c, ?_, fun i r e => ?_, fun c hc => absurd hc List.not_mem_nil, fun _ _ _ => rfl, ?_⟩
  · unfold startR L2.start
    simp [hl]
  · obtain ⟨v, h1, h2⟩ := at_ i r e
    obtain ⟨o1, o2, _⟩ := h2.ok (g := ⟨K, fm, F, H⟩) (β := start N vs) (H := H) rfl rfl
    exact ⟨o2, v, h1, o1⟩
  · rw [List.pairwise_iff_forall_sublist]
    intro c c' hs a d d' e _
    have hm : c ∈ cells (start N vs) (startR N rs) [] := hs.subset (by simp)
    rcases mem_cells hm with ⟨i, v, r, ec, h1, h2⟩ | ⟨t, ht, _⟩
    · rw [e] at ec
      cases ec
      obtain ⟨v', _, h3⟩ := at_ i _ h2
      exact (h3.ok (g := ⟨K, fm, F, H⟩) (β := []) (H := H) rfl rfl).2.2 d rfl
    · exact absurd ht List.not_mem_nil
/-- all that a body does, it does for the promise -/
theorem ends_d {g : Gm} {Qd : R → Prop} {Q : VK} (q : ∀ r v F' H', Out g F' H' v r → Qd r → Q v H') : EndsOk g [] [] { nx := fun _ => Qd (.z .non), rt := Qd } { nx := fun _ H' => Q .non H', rt := Q } :=
  ⟨fun ρ σ H ⟨F, A⟩ h => q (.z .non) .non F H ⟨A.core, Den.non, rfl⟩ h, fun r v σ ρ H ⟨F, A⟩ n h => q r v F H ⟨A.core, (A.tmp (v, r) (by simp)).nob n, n⟩ h, fun _ _ _ _ h => h, fun _ _ _ _ h => h⟩
end
section
variable {P : Program} {w : World} {K : PySem.W.Frag} {mg : Str → Option Value} {base : Heap} {x qual : Str} {st : Stmt} {f : Addr} {fd : FuncData} {N ps : List Str} {k : Nat} {sem : Sem}
/-- THE RULE for a def over data -/
theorem ok_d (F : Fun K x qual st f fd) (S : FnScope N ps (defScope st)) (len : ∀ rs Q, sem rs Q → rs.length = ps.length)
    (hb : ∀ (fm : Fm) (cdv : Value) (A : Around) (outer : List Env) (s : Shared) (H : Hp) (E : XK), Room k (A.deeper (envOfC qual (defScope st) s.heap.objs.size f cdv)) →
      ∃ t, PDSs (cxOf CX0 P w K mg base N qual (defScope st) f cdv A outer s H E).nox (defBody st) t ∧ ∀ rs Qd, sem rs Qd → t { nx := fun _ => Qd (.z .non), rt := Qd } (startR N rs)) (fm : Fm) : FnOk P w K mg base CX0 (k + 1) f fd ps (spD K fm sem) := by
  refine F.ok S (fun vs H Q E h => ?_) (fun cdv A outer s H vs Q E hr h => ?_)
  · obtain ⟨F, rs, Qd, _, h1, h2, _⟩ := h
    rw [Paired.length h1]
    exact len _ _ h2
  · obtain ⟨F, rs, Qd, c, h1, h2, q⟩ := h
    obtain ⟨t, p, r⟩ := hb fm cdv A outer s H E hr
    exact ⟨_, p, ⟨K, fm, F, H⟩, [], startR N rs, [], _, rfl, fun c hc => absurd hc List.not_mem_nil, entry c h1, r rs Qd h2, ends_d q⟩
/-- .. where no repr is under way -/
theorem ok_g (F : Fun K x qual st f fd) (S : FnScope N ps (defScope st)) (len : ∀ rs Q, sem rs Q → rs.length = ps.length)
    (hb : ∀ (fm : Fm) (cdv : Value) (A : Around) (outer : List Env) (s : Shared) (H : Hp) (E : XK), A.guards = some [] → Room k (A.deeper (envOfC qual (defScope st) s.heap.objs.size f cdv)) →
      ∃ t, PDSs (cxOf CX0 P w K mg base N qual (defScope st) f cdv A outer s H E).nox (defBody st) t ∧ ∀ rs Qd, sem rs Qd → t { nx := fun _ => Qd (.z .non), rt := Qd } (startR N rs)) (fm : Fm) : Lw.FnG P w K mg base CX0 (k + 1) f fd ps (spD K fm sem) := by
  refine Lw.fng_of0 F S (fun vs H Q E h => ?_) (fun cdv A outer s H vs Q E gd hr h => ?_)
  · obtain ⟨F, rs, Qd, _, h1, h2, _⟩ := h
    rw [Paired.length h1]
    exact len _ _ h2
  · obtain ⟨F, rs, Qd, c, h1, h2, q⟩ := h
    obtain ⟨t, p, r⟩ := hb fm cdv A outer s H E gd hr
    exact ⟨_, p, ⟨K, fm, F, H⟩, [], startR N rs, [], _, rfl, fun c hc => absurd hc List.not_mem_nil, entry c h1, r rs Qd h2, ends_d q⟩
end
/-! ### calls -/
def argR (ρ : Rho) : R → Option (Rho × R)
  | .p => some (ρ, .p)
  | r => match frzR ρ r with
    | some (ρ', d) => some (ρ', .z d)
    | none => none
def argL (ρ : Rho) : List R → Option (Rho × List R)
  | [] => some (ρ, [])
  | r :: rs => match argR ρ r with
    | some (ρ', q) => match argL ρ' rs with
      | some (ρ'', qs) => some (ρ'', q :: qs)
      | none => none
    | none => none
section
variable {g : Gm} {lk : List Addr} {β σ : Sg} {F H : Hp} {ρ ρ' : Rho} {ts us : Ts}
theorem AtF.arg1 {v : V} {r q : R} (A : AtF g lk β F σ ρ (ts ++ (v, r) :: us) H) (e : argR ρ r = some (ρ', q)) : ∃ F', Le F F' ∧ AtF g lk β F' σ ρ' (ts ++ (v, q) :: us) H ∧ ArgR g.K g.fm F' v q := by
  cases r with
  | p =>
    cases e
    obtain ⟨a, rfl, h⟩ := A.tmp (v, .p) mem_mid
    exact ⟨F, Le.refl F, A, .p h⟩
  | z d =>
    cases e
    exact ⟨F, Le.refl F, A, .z (A.tmp (v, .z d) mem_mid)⟩
  | o d =>
    cases e
    obtain ⟨F', l, A'⟩ := A.freeze1 (r := .o d) rfl
    exact ⟨F', l, A', .z (A'.tmp (v, .z d) mem_mid)⟩
  | b i =>
    unfold argR at e
    simp only at e
    split at e
    · rename_i ρ1 d h1
      cases e
      obtain ⟨F', l, A'⟩ := A.freeze1 h1
      exact ⟨F', l, A', .z (A'.tmp (v, .z d) mem_mid)⟩
    · cases e
theorem AtF.argL : ∀ {rs qs : List R} {vs : List V} {ρ ρ' : Rho} {F : Hp} {ts : Ts}, vs.length = rs.length → AtF g lk β F σ ρ (ts ++ vs.zip rs) H → Dl.argL ρ rs = some (ρ', qs) → ∃ F', Le F F' ∧ AtF g lk β F' σ ρ' ts H ∧ Paired (ArgR g.K g.fm F') vs qs
  | [], _, [], _, _, F, _, _, A, e => by cases e; exact ⟨F, Le.refl F, by simpa using A, .nil⟩
  | [], _, _ :: _, _, _, _, _, l, _, _ => nomatch l
  | _ :: _, _, [], _, _, _, _, l, _, _ => nomatch l
  | r :: rs, qs, v :: vs, ρ, ρ', F, ts, l, A, e => by
    unfold Dl.argL at e
    split at e
    · rename_i ρ1 q h1
      split at e
      · rename_i ρ2 qs' h2
        cases e
        obtain ⟨F1, l1, A1, a1⟩ := A.arg1 (ts := ts) (us := vs.zip rs) h1
        have A2 : AtF g lk β F1 σ ρ1 ((ts ++ [(v, q)]) ++ vs.zip rs) H := by simpa using A1
        obtain ⟨F2, l2, A3, a3⟩ := AtF.argL (by simpa using l) A2 h2
        exact ⟨F2, l1.trans l2, A3.sub (List.sublist_append_left _ _), .cons (a1.le l2) a3⟩
      · cases e
    · cases e
/-- the callee's entry -/
theorem Core.call (c : Core g lk F H) : Core ⟨g.K, g.fm, F, H⟩ [] F H :=
  ⟨c.sub, fun a o h => .inl h, fun a o h1 h2 h3 => ⟨h2, h1⟩, c.mu, c.iv, fun a o h => ⟨o, h⟩⟩
/-- behind a call -/
theorem AtF.after (A : AtF g lk β F σ ρ ts H) {F' H' : Hp} {v : V} {r : R} (o : Out ⟨g.K, g.fm, F, H⟩ F' H' v r) : AtF g lk β F' σ ρ (ts ++ [(v, r)]) H' := by
  have sm : Same F F' := fun a u h => (o.core.ent a u h).elim id fun z => absurd z.1 List.not_mem_nil
  have kp : ∀ a u, H a = some u → F a = none → ¬ g.fm.mu a → H' a = some u ∧ F' a = none := fun a u h1 h2 h3 => let ⟨x, y⟩ := o.core.keep a u h1 h2 h3; ⟨y, x⟩
  have c' : Core g lk F' H' := by
    refine ⟨o.core.sub, fun a u h => ?_, fun a u h1 h2 h3 => ?_, o.core.mu, o.core.iv, fun a u h => ?_⟩
    · rcases A.core.ent a u h with z | ⟨hl, z, e⟩
      · exact .inl (sm a u z)
      · exact .inr ⟨hl, z, sm a _ e⟩
    · obtain ⟨e1, e2⟩ := A.core.keep a u h1 h2 h3
      obtain ⟨e3, e4⟩ := kp a u e2 e1 h3
      exact ⟨e4, e3⟩
    · obtain ⟨u', e⟩ := A.core.ev a u h
      exact o.core.ev a u' e
  refine (A.grow c' (Le.of sm) kp).push ?_ fun a d ev er d' hm => ?_
  · have k := o.ok
    cases r with
    | z d => exact k
    | p => exact k
    | b i => exact absurd o.nob (by simp [R.nob])
    | o d =>
      obtain ⟨a, e, n1, n2, n3, n4⟩ := k
      exact ⟨a, e, A.core.outE n1, n2, n3, n4⟩
  · subst ev er
    obtain ⟨a', e', n1, _⟩ := o.ok
    cases e'
    obtain ⟨u, hu⟩ := (A.own_of hm).out_mem
    exact absurd (n1.symm.trans hu) (by simp)
end
def dCall (sem : Sem) (ta : TDA) : TD := fun ρ Q => ta ρ fun ρ1 rs => match argL ρ1 rs with
  | some (ρ2, qs) => sem qs fun r => Q ρ2 r
  | none => False
section
variable {X : Cx} {f : Addr} {fd : FuncData} {ps : List Str} {sem : Sem} {k : Nat} {x : Str} {e : Expr} {es : List Expr} {t : TDA} {p pos : Pos}
theorem lift_call {σ : L2.St} {H : Hp} {Q : VK} (h : liftE X (dCall sem t) σ H Q) : ∃ fm, tCall (spD X.K fm sem) [] E0 (liftA X t) σ H Q := by
  obtain ⟨g, lk, β, ρ, ts, Qd, hK, A, t, q⟩ := h
  refine ⟨g.fm, g, lk, β, ρ, ts, _, hK, A, t, fun ρ1 rs vs H1 hl A1 t1 => ?_⟩
  cases e : argL ρ1 rs with
  | none => simp only [e] at t1
  | some z =>
    obtain ⟨ρ2, qs⟩ := z
    simp only [e] at t1
    obtain ⟨F1, A1⟩ := A1
    obtain ⟨F2, _, A2, a2⟩ := A1.argL hl e
    rw [List.append_nil]
    rw [← hK]
    exact ⟨F2, qs, _, A2.core.call, a2, t1, fun r v F' H' o tq => q _ _ _ _ ⟨F', A2.after o⟩ tq⟩
theorem pd_call (F : ∀ fm, FnOk X.prog X.w X.K X.mg X.base CX0 k f fd ps (spD X.K fm sem)) (hr : Room k X.A) (hg : Gl X x) (hm : X.mg x = some (.ref f)) (hk : PySem.W.keepIn X.K (.ref f) = true) (hb : Binds X.K fd ps [])
    (ha : PDA X (e :: es) t) (hdb : (x == ("__debug__" : Str)) = false := by decide) (he : starEach (e :: es) X.env = (false, eval e X.env) :: starEach es X.env := by rfl) (hpl : (backTo pos (starEach es X.env)).any (·.1) = false := by rfl) :
    PD X (.Call (.Name x p) (e :: es) [] pos) (dCall sem t) := by
  refine ⟨fun pins s σ H Q I h => ?_⟩
  obtain ⟨fm, h⟩ := lift_call h
  exact (pe_call (F fm) hr hg hm hk hb .nil pass0 ha hdb he hpl).run pins s σ H Q I h
theorem pd_callG (gd : X.A.guards = some []) (F : ∀ fm, Lw.FnG X.prog X.w X.K X.mg X.base CX0 k f fd ps (spD X.K fm sem)) (hr : Room k X.A) (hg : Gl X x) (hm : X.mg x = some (.ref f)) (hk : PySem.W.keepIn X.K (.ref f) = true) (hb : Binds X.K fd ps [])
    (ha : PDA X (e :: es) t) (hdb : (x == ("__debug__" : Str)) = false := by decide) (he : starEach (e :: es) X.env = (false, eval e X.env) :: starEach es X.env := by rfl) (hpl : (backTo pos (starEach es X.env)).any (·.1) = false := by rfl) :
    PD X (.Call (.Name x p) (e :: es) [] pos) (dCall sem t) := by
  refine ⟨fun pins s σ H Q I h => ?_⟩
  obtain ⟨fm, h⟩ := lift_call h
  exact (Lw.pe_callG gd (F fm) hr hg hm hk hb pass0 ha hdb he hpl).run pins s σ H Q I h
end
/-! ### instances -/
/-- an attribute's datum -/
def lkF (fs : List (Str × D)) (f : Str) : Option D := fs.lookup f
section
variable {K : PySem.W.Frag} {F : Hp}
theorem lkF_some : ∀ {ds : List (Str × D)} {fs : List (Str × V)} {f : Str} {d : D}, ds.map (·.1) = fs.map (·.1) → Dens K F (ds.map (·.2)) (fs.map (·.2)) → lkF ds f = some d → ∃ v, fs.lookup f = some v ∧ Den K F d v
  | [], [], _, _, _, _, e => nomatch e
  | [], _ :: _, _, _, h, _, _ => nomatch h
  | _ :: _, [], _, _, h, _, _ => nomatch h
  | (k1, d1) :: ds, (k2, v2) :: fs, f, d, h, r, e => by
    have h1 : k1 = k2 := (List.cons.inj h).1
    have h2 : ds.map (·.1) = fs.map (·.1) := (List.cons.inj h).2
    subst h1
    cases r with
    | cons r1 r2 =>
      unfold lkF at e
      rw [List.lookup_cons] at e ⊢
      cases hb : f == k1 with
      | true => rw [hb] at e; cases e; exact ⟨v2, rfl, r1⟩
      | false => rw [hb] at e; exact lkF_some h2 r2 e
theorem lkF_none : ∀ {ds : List (Str × D)} {fs : List (Str × V)} {f : Str}, ds.map (·.1) = fs.map (·.1) → lkF ds f = none → fs.lookup f = none
  | [], [], _, _, _ => rfl
  | [], _ :: _, _, h, _ => nomatch h
  | _ :: _, [], _, h, _ => nomatch h
  | (k1, d1) :: ds, (k2, v2) :: fs, f, h, e => by
    have h1 : k1 = k2 := (List.cons.inj h).1
    subst h1
    unfold lkF at e
    rw [List.lookup_cons] at e ⊢
    cases hb : f == k1 with
    | true => rw [hb] at e; cases e
    | false => rw [hb] at e; exact lkF_none (List.cons.inj h).2 e
end
def dFld (C : Addr) (f : Str) (ta : TD) : TD := fun ρ Q => ta ρ fun ρ1 r => match viewR ρ1 r with
  | some (.ins C' fs) => C' = C ∧ match lkF fs f with
    | some d => Q ρ1 (.z d)
    | none => False
  | _ => False
def dMeth (C : Addr) (m : Str) (sem : Sem) (ta : TD) (t : TDA) : TD := fun ρ Q => ta ρ fun ρ1 r => match r with
  | .z (.ins C' fs) => C' = C ∧ lkF fs m = none ∧ t ρ1 fun ρ2 rs => match argL ρ2 rs with
    | some (ρ3, qs) => sem (.z (.ins C' fs) :: qs) fun r => Q ρ3 r
    | none => False
  | _ => False
def dProp (C : Addr) (sem : Sem) (ta : TD) : TD := fun ρ Q => ta ρ fun ρ1 r => match r with
  | .z (.ins C' fs) => C' = C ∧ sem [.z (.ins C' fs)] fun r => Q ρ1 r
  | _ => False
section
variable {X : Cx} {f C : Addr} {fd : FuncData} {ps : List Str} {sem : Sem} {k : Nat} {x m fl : Str} {e o : Expr} {es : List Expr} {ta : TD} {t : TDA} {p pos apos : Pos}
theorem pd_fld (c : Cls X.K C) (n : NoAttr X.K C fl) (he : PD X e ta) (hb : attributeBase e fl X.env (eval e X.env) = eval e X.env := by rfl) : PD X (.Attribute e fl pos) (dFld C fl ta) := by
  refine PE.weak (pe_fld he hb) fun σ H Q h => ?_
  obtain ⟨g, lk, β, ρ, ts, Qd, hK, A, t, q⟩ := h
  refine ⟨g, lk, β, ρ, ts, _, hK, A, t, fun ρ1 r v H1 ⟨F1, A1⟩ t1 => ?_⟩
  cases ev : viewR ρ1 r with
  | none => simp only [ev] at t1
  | some d =>
    simp only [ev] at t1
    have h1 := A1.view (A1.tmp (v, r) (by simp)) ev
    cases d with
    | ins C' fs =>
      obtain ⟨rfl, t1⟩ := t1
      obtain ⟨a, dx, vs, rfl, ha, hk, dn⟩ := h1
      cases el : lkF fs fl with
      | none => simp only [el] at t1
      | some d =>
        simp only [el] at t1
        obtain ⟨u, hu, du⟩ := lkF_some hk dn el
        exact ⟨a, C', dx, vs, u, rfl, ha, c, n, hu, q _ _ _ _ (At.pop (c := (u, R.z d)) ⟨F1, A1.push_z du⟩ |> fun _ => ⟨F1, (A1.sub (List.sublist_append_left _ _)).push_z du⟩) t1⟩
    | _ => exact t1.elim
theorem lift_meth {σ : L2.St} {H : Hp} {Q : VK} (h : liftE X (dMeth C m sem ta t) σ H Q) : ∃ fm, tMeth C m (spD X.K fm sem) [] E0 (liftE X ta) (liftA X t) σ H Q := by
  obtain ⟨g, lk, β, ρ, ts, Qd, hK, A, t, q⟩ := h
  refine ⟨g.fm, g, lk, β, ρ, ts, _, hK, A, t, fun ρ1 r v H1 ⟨F1, A1⟩ t1 => ?_⟩
  cases r with
  | z d =>
    cases d with
    | ins C' fs =>
      obtain ⟨rfl, hm, t1⟩ := t1
      have h1 := A1.tmp (v, .z (.ins C' fs)) (by simp)
      cases (show Den g.K F1 (.ins C' fs) v from h1) with
      | @ins a _ dx vs _ ha hk dn =>
        refine ⟨a, dx, vs, rfl, A1.core.sub _ _ ha, lkF_none hk hm, g, lk, β, ρ1, _, _, hK, ⟨F1, A1⟩, t1, fun ρ2 rs vs2 H2 hl A2 t2 => ?_⟩
        cases e : argL ρ2 rs with
        | none => simp only [e] at t2
        | some z =>
          obtain ⟨ρ3, qs⟩ := z
          simp only [e] at t2
          obtain ⟨F2, A2⟩ := A2
          obtain ⟨F3, l3, A3, a3⟩ := A2.argL hl e
          rw [List.append_nil, ← hK]
          have hs : Den g.K F3 (.ins C' fs) (.ref a) := A3.tmp (.ref a, .z (.ins C' fs)) (by simp)
          exact ⟨F3, _, _, A3.core.call, .cons (.z hs) a3, t2, fun r v F' H' o tq => q _ _ _ _ (At.drop1 ⟨F', A3.after o⟩) tq⟩
    | _ => exact t1.elim
  | _ => exact t1.elim
theorem pd_meth {pl : PySem.Sem Bool} (c : Cls X.K C) (hm : Meth X.K C m f) (F : ∀ fm, FnOk X.prog X.w X.K X.mg X.base CX0 k f fd ps (spD X.K fm sem)) (hr : Room k X.A) (hb : Binds X.K fd ps []) (he : PD X o ta) (ha : PDA X (e :: es) t)
    (hst : starEach (e :: es) X.env = (false, eval e X.env) :: starEach es X.env := by rfl) (hpl : (backTo pos (starEach es X.env)).any (·.1) = false := by rfl)
    (ht : eval (.Call (.Attribute o m apos) (e :: es) [] pos) X.env = (do
      let ov ← eval o X.env
      standAt apos.atName
      let (f, first) ← holding [ov] (getMethod ov m pl)
      callWith pos f first (backTo pos (starEach (e :: es) X.env)) (backToKw pos (keywordEach [] X.env))) := by rfl) : PD X (.Call (.Attribute o m apos) (e :: es) [] pos) (dMeth C m sem ta t) := by
  refine ⟨fun pins s σ H Q I h => ?_⟩
  obtain ⟨fm, h⟩ := lift_meth h
  exact (pe_meth he c hm (F fm) hr hb .nil pass0 ha hst hpl ht).run pins s σ H Q I h
theorem pd_meth0 {pl : PySem.Sem Bool} (c : Cls X.K C) (hm : Meth X.K C m f) (F : ∀ fm, FnOk X.prog X.w X.K X.mg X.base CX0 k f fd ps (spD X.K fm sem)) (hr : Room k X.A) (hb : Binds X.K fd ps []) (he : PD X o ta)
    (ht : eval (.Call (.Attribute o m apos) [] [] pos) X.env = (do
      let ov ← eval o X.env
      standAt apos.atName
      let (f, first) ← holding [ov] (getMethod ov m pl)
      callWith pos f first (backTo pos (starEach [] X.env)) (backToKw pos (keywordEach [] X.env))) := by rfl) : PD X (.Call (.Attribute o m apos) [] [] pos) (dMeth C m sem ta aNil) := by
  refine ⟨fun pins s σ H Q I h => ?_⟩
  obtain ⟨fm, h⟩ := lift_meth h
  refine (pe_meth0 he c hm (F fm) hr hb .nil pass0 ht).run pins s σ H Q I ?_
  obtain ⟨g, lk, β, ρ, ts, Qd, hK, A, t, q⟩ := h
  refine ⟨g, lk, β, ρ, ts, Qd, hK, A, t, fun ρ1 r v H1 A1 t1 => ?_⟩
  obtain ⟨a, dx, fs, e1, e2, e3, g2, lk2, β2, ρ2, ts2, Qd2, hK2, A2, t2, q2⟩ := q ρ1 r v H1 A1 t1
  exact ⟨a, dx, fs, e1, e2, e3, q2 ρ2 [] [] H1 rfl (by simpa using A2) t2⟩
theorem pd_prop {pa : Addr} (c : Cls X.K C) (hp : PropOf X.K C fl pa f) (F : ∀ fm, FnOk X.prog X.w X.K X.mg X.base CX0 k f fd ps (spD X.K fm sem)) (hr : Room (k + 1) X.A) (hb : Binds X.K fd ps []) (he : PD X e ta)
    (hab : attributeBase e fl X.env (eval e X.env) = eval e X.env := by rfl) : PD X (.Attribute e fl pos) (dProp C sem ta) := by
  refine ⟨fun pins s σ H Q I h => ?_⟩
  obtain ⟨g, lk, β, ρ, ts, Qd, hK, A, t, q⟩ := h
  refine (pe_prop he c hp (F g.fm) hr hb .nil pass0 hab).run pins s σ H Q I ?_
  refine ⟨g, lk, β, ρ, ts, _, hK, A, t, fun ρ1 r v H1 ⟨F1, A1⟩ t1 => ?_⟩
  cases r with
  | z d =>
    cases d with
    | ins C' fs =>
      obtain ⟨rfl, t1⟩ := t1
      have h1 := A1.tmp (v, .z (.ins C' fs)) (by simp)
      cases (show Den g.K F1 (.ins C' fs) v from h1) with
      | @ins a _ dx vs _ ha hk dn =>
        refine ⟨a, dx, vs, rfl, A1.core.sub _ _ ha, ?_⟩
        rw [← hK]
        exact ⟨F1, _, _, A1.core.call, .cons (.z h1) .nil, t1, fun r v F' H' o tq => q _ _ _ _ (At.drop1 ⟨F', A1.after o⟩) tq⟩
    | _ => exact t1.elim
  | _ => exact t1.elim
end
end Dl
set_option Elab.async false
set_option linter.all false
set_option maxRecDepth 100000
set_option maxHeartbeats 4000000
/-! enumerate of a tuple -/
namespace PySem.Et
open PySem PySem.Spec PyProof.Rows
abbrev walker (t : Addr) : Obj := { cls := .type "tuple_iterator", data := .fields #[.ref t, .int 0 0] }
abbrev teller (it : Addr) : Obj := { cls := .type "enumerate", data := .fields #[.none, .bool false, .ref it, rawInt 0, .none, .none] }
theorem made (t : Addr) (items : Array Value) (n : Nat) (dct : Option Addr) (sl : Array (Option Value)) :
    Meets (Builtin.«enumerate.__new__» ⟨[.type "enumerate", .ref t], []⟩) (fun _ R s => s.heap.get? t = some { cls := .type "tuple", dict := dct, data := .seq items n, slots := sl } ∧
      R (.ok (.ret (.ref (s.heap.push (walker t)).objs.size))) { s with heap := (s.heap.push (walker t)).push (teller s.heap.objs.size) }) :=
  .of_wp fun prog w A R s h => by
    obtain ⟨hp, g, d, tk, os⟩ := s
    obtain ⟨hl, h⟩ := h
    have hsub := sub_enumerate
    have isT : Heap.IsTuple (Shared.heap ⟨hp, g, d, tk, os⟩) t items := ⟨_, hl, rfl, n, rfl⟩
    wp_walk using wpAny_loadPart' hl
    refine wpAny_stack_any fun st => wpAny_pure ?_
    split
    · rename_i c _ _ _ _ _
      cases (c == Value.type "enumerate")
      · wp_walk using wpAny_loadPart' hl, wpAny_pyIter_tuple isT
        exact ⟨_, rfl, h⟩
      · wp_walk using wpAny_loadPart' hl, wpAny_pyIter_tuple isT
        exact ⟨_, rfl, h⟩
    · wp_walk using wpAny_loadPart' hl, wpAny_pyIter_tuple isT
      exact ⟨_, rfl, h⟩
end PySem.Et
namespace PySem.Et
open PySem PySem.Spec PyProof.Rows
section
variable {prog : Program} {w : World} {A : Around} {E : Value → Shared → Prop} {s : Shared}
theorem call_made {t : Addr} {items : Array Value} {Q : Value → Shared → Prop} (ht : s.heap.IsTuple t items)
    (h : ∀ h', IsEnum h' (s.heap.objs.size + 1) s.heap.objs.size 0 .none → h'.IsTupleIter s.heap.objs.size t 0 → (∀ b o, s.heap.get? b = some o → h'.get? b = some o) → Q (.ref (s.heap.objs.size + 1)) { s with heap := h' }) :
    wpAny (model prog w) A (call (.type "enumerate") [.ref t]) Q E s := by
  obtain ⟨⟨c, dct, dt, sl⟩, hl, hc, n, hd⟩ := ht
  obtain rfl : c = .type "tuple" := hc
  obtain rfl : dt = .seq items n := hd
  refine callType_new F.called_enumerate (by decide) (F.typeCall_enumerate_1 _) (F.newCall_enumerate_1 _) (fun obj => F.args_object_init_2 obj _) F.entry_enumerate_new (made t items n dct sl) ⟨hl, ?_⟩
  have one : (s.heap.push (walker t)).objs.size = s.heap.objs.size + 1 := Heap.size_push ..
  show _ ∧ _
  rw [one]
  have en : IsEnum ((s.heap.push (walker t)).push (teller s.heap.objs.size)) (s.heap.objs.size + 1) s.heap.objs.size 0 .none := by
    have := Heap.get?_push_size (s.heap.push (walker t)) (o := teller s.heap.objs.size) rfl
    rw [one] at this
    exact this
  exact ⟨⟨_, en, rfl⟩, h _ en ⟨_, Heap.get?_push_of_some _ (Heap.get?_push_size _ rfl), rfl, rfl⟩ fun b o x => Heap.get?_push_of_some _ (Heap.get?_push_of_some _ x)⟩
end
end PySem.Et
namespace Lw
open PySem PySem.Spec PyProof.Rows L2
/-- the tuple at a, each item in a new pair with its place -/
def IteT (K : PySem.W.Frag) (a : Addr) (xs : List V) : It where
  go := fun i H => SqT K H a xs ∧ i < xs.length
  yld := fun i H v H' => ∃ T x, v = .ref T ∧ H T = none ∧ H' = upd H T (.tup [.int (i : Nat), x]) ∧ xs[i]? = some x
  stop := fun i H => SqT K H a xs ∧ xs.length ≤ i
theorem turn_enumT {P : Program} {w : World} {K : PySem.W.Frag} {elts : List Expr} {kk : Nat} {tpos : Pos} (a e it : Addr) (xs : List V) (nai : a ≠ it) (nea : e ≠ a) :
    Turn P w K (.Tuple elts kk tpos) (IteT K a xs) [e, it] e (fun i h => (∃ old, IsEnum h e it ((i : Nat) : Int) old) ∧ h.IsTupleIter it a i ∧ e ≠ it ∧ i ≤ xs.length) where
  mem := List.mem_cons_self
  obj := fun i h st b hb => by
    obtain ⟨⟨old, he⟩, ⟨o, ho, hc, hd⟩, _⟩ := st
    rcases List.mem_cons.mp hb with z | z
    · rw [z]
      exact ⟨_, he, fun v q => nomatch q⟩
    · rw [List.mem_singleton.mp z]
      exact ⟨o, ho, fun v q => by rw [hd] at q; cases q⟩
  keep := fun i h h' st k => by
    obtain ⟨⟨old, he⟩, hi, hne, hle⟩ := st
    exact ⟨⟨old, k e List.mem_cons_self _ he⟩, hi.at fun o q => k it (List.mem_cons_of_mem _ (List.mem_singleton.mpr rfl)) o q, hne, hle⟩
  item := by
    intro X hP hw hK hc i pins s σ H E I hf st hg
    subst hP hw hK
    obtain ⟨⟨old, he⟩, hit, hne, _⟩ := st
    obtain ⟨hq, hlt⟩ := hg
    obtain ⟨its, rv, p, hz⟩ := I.tuple hq
    have hl := rv.length
    have tp : s.heap.IsTuple a its.toArray := p
    have D := Draws.tuple (prog := X.prog) (w := X.w) (A := X.A.in1) (I.ok.hd hc) it a nai its.toArray
    have elt : e < s.heap.objs.size := Heap.lt_size he
    have ilt : it < s.heap.objs.size := by
      obtain ⟨_, q, _⟩ := hit
      exact Heap.lt_size q
    refine wpAny_pyNext_enum_itemD D he ⟨hit, tp⟩ (by simp; omega) hne (by simp; exact ⟨hne, nea⟩) fun u h' tk hu ho hst hT hsz hk => ?_
    have hu' : its[i]? = some u := by simpa using hu
    obtain ⟨x, hx, rx⟩ : ∃ x, xs[i]? = some x ∧ RelV x u := by
      have hx : xs[i]? = some xs[i] := List.getElem?_eq_getElem hlt
      obtain ⟨u2, h2, r2⟩ := rv.get hx
      rw [hu'] at h2
      cases h2
      exact ⟨_, hx, r2⟩
    refine ⟨_, rfl, wpAny_letOwnedTupleGo_enum (s := { s with heap := h', toks := tk + 1 }) ho fun h2 he2 sb => ?_⟩
    have hT2 : h2.get? s.heap.objs.size = some { cls := .type "tuple", data := .seq #[.int i tk, u] } := (sb.2 _ (Nat.ne_of_gt elt)).trans hT
    have new : ObjOk X.prog X.w (upd H s.heap.objs.size (.tup [.int (i : Nat), x])) h2 s.heap.objs.size (.tup [.int (i : Nat), x]) :=
      ⟨by show 2 ≤ sizeLine; decide, [.int i tk, u], .cons ⟨_, rfl⟩ (.cons rx .nil), ⟨_, hT2, rfl, _, rfl⟩⟩
    have I1 : Inv X pins σ (upd H s.heap.objs.size (.tup [.int (i : Nat), x])) { s with heap := h2, toks := tk + 1 } :=
      I.turnedNew (ch := [e, it]) (fun b ob hb q => (sb.2 b (fun z => hb (by simp [z]))).trans (hk b ob (fun z => hb (by simp [z])) (fun z => hb (by simp [z])) q)) hf (Nat.le_refl _) new
    refine ⟨.ref s.heap.objs.size, _, I1, rfl, ⟨_, x, rfl, I.hok.fresh (Nat.le_refl _), rfl, hx⟩, ⟨⟨u, ?_⟩, hst.1.at fun o q => (sb.2 it (Ne.symm hne)).trans q, hne, by omega⟩, fun b hb => ?_⟩
    · have e1 : ((i + 1 : Nat) : Int) = (i : Int) + 1 := by omega
      rw [e1]
      exact he2
    · have lt : b < s.heap.objs.size := by
        rcases List.mem_cons.mp hb with z | z
        · rw [z]; exact elt
        · rw [List.mem_singleton.mp z]; exact ilt
      rw [upd_ne (Nat.ne_of_lt lt)]
      exact (hf b hb).1
  done := by
    intro X hP hw hK hc i pins s σ H E I hf st hg
    subst hP hw hK
    obtain ⟨⟨old, he⟩, hit, hne, hle⟩ := st
    obtain ⟨hq, hge⟩ := hg
    obtain ⟨its, rv, p, hz⟩ := I.tuple hq
    have hl := rv.length
    have tp : s.heap.IsTuple a its.toArray := p
    have D := Draws.tuple (prog := X.prog) (w := X.w) (A := X.A.in1) (I.ok.hd hc) it a nai its.toArray
    obtain ⟨f0, f1, f2, f3, f4, f5⟩ := hf it (List.mem_cons_of_mem _ (List.mem_singleton.mpr rfl))
    have ei : i = its.toArray.size := by simp; omega
    exact wpAny_pyNext_enum_endD D he ⟨by rw [← ei]; exact hit, tp⟩ fun h' eb => ⟨rfl, I.turned (t' := s.toks) (fun b o hb q => eb b o hb q) f0 f1 f3 f4 f5⟩
  self := fun A i s Q E st h => by
    obtain ⟨⟨_, he⟩, _⟩ := st
    exact wpAny_pyIter_enum he h
def iEnumT (K : PySem.W.Frag) (ta : TA) : TI := fun σ H R => ta σ H fun vs H1 => ∃ a xs, vs = [.ref a] ∧ SqT K H1 a xs ∧ R (IteT K a xs) H1
theorem pi_enumT {X : Cx} {e : Expr} {ta : TA} {p pos tpos : Pos} {elts : List Expr} {kk : Nat} (hg : Gl X "enumerate") (hm : X.mg "enumerate" = none) (ha : PA X [e] ta) (one : starEach [e] X.env = [(false, eval e X.env)] := by rfl) :
    PI X (.Tuple elts kk tpos) (.Call (.Name "enumerate" p) [e] [] pos) (iEnumT X.K ta) := by
  constructor
  intro pins s σ H R I h
  refine Call_ (ld_blt I hg hm boot_enumerate (PyProof.Rows.callWith_type1 (thn (ha.run pos pins s σ H _ I h) ?_) one rfl))
  rintro us s1 ⟨vs, H1, I1, r1, a, xs, rfl, hq, q⟩
  obtain ⟨u, rfl, ru⟩ := vals1 r1
  cases (show u = Value.ref a from ru)
  obtain ⟨its, rv, p', hz⟩ := I1.tuple hq
  have tp : s1.heap.IsTuple a its.toArray := p'
  have alt : a < s1.heap.objs.size := by
    obtain ⟨_, e, _⟩ := tp
    exact Heap.lt_size e
  refine PySem.Et.call_made tp fun h' he hit hk => wpAny_pyIter_enum he ?_
  have I2 : Inv X pins σ H1 { s1 with heap := h' } := I1.kept (t' := s1.toks) hk
  refine ⟨s1.heap.objs.size + 1, [s1.heap.objs.size + 1, s1.heap.objs.size], _, _, H1, rfl, I2, turn_enumT a (s1.heap.objs.size + 1) s1.heap.objs.size xs (Nat.ne_of_lt alt) (Nat.ne_of_gt (Nat.lt_succ_of_lt alt)), ⟨⟨.none, he⟩, hit, Nat.succ_ne_self _, Nat.zero_le _⟩, fun b hb => ?_, q⟩
  have le : s1.heap.objs.size ≤ b := by
    rcases List.mem_cons.mp hb with z | z
    · rw [z]; exact Nat.le_add_right _ _
    · rw [List.mem_singleton.mp z]; exact Nat.le_refl _
  exact I1.fpOk le (I1.hok.fresh le)
end Lw
set_option autoImplicit false
set_option Elab.async false
set_option linter.all false
set_option maxRecDepth 100000
set_option maxHeartbeats 2000000
/-! what is walked -/
namespace Dl
open PySem PySem.Spec PyProof.Rows L2 LamX
def signsD (z : Str) : List D := z.cps.toList.map fun c => D.str ⟨#[c]⟩
/-- the data of what is walked -/
def itemsD : D → Option (List D)
  | .lst ds => some ds
  | .tup ds => some ds
  | .str z => some (signsD z)
  | _ => none
section
variable {g : Gm}
theorem at_den {lk : List Addr} {β σ : Sg} {ρ : Rho} {ts : Ts} {H : Hp} {x : V} {d : D} (A : At g lk β σ ρ (ts ++ [(x, .z d)]) H) : ∃ F, AtF g lk β F σ ρ (ts ++ [(x, .z d)]) H ∧ Den g.K F d x := let ⟨F, a⟩ := A; ⟨F, a, a.tmp (x, .z d) (by simp)⟩
theorem nob1 {x : V} {d : D} : Nob [(x, R.z d)] := fun c hc => by rw [List.mem_singleton.mp hc]; rfl
theorem serves_list {a : Addr} {ds : List D} : Serves g (Itl g.K a) ds [(.ref a, .z (.lst ds))] := by
  refine ⟨nob1, fun lk β σ ρ ts H i d A hd => ?_, fun lk β σ ρ ts H A => ?_⟩
  · obtain ⟨F, A, h⟩ := at_den A
    cases h with
    | lst h z r =>
      obtain ⟨v, hv, dv⟩ := r.getD hd
      have hs : SqL g.K H a _ := .of (A.core.sub _ _ h)
      refine ⟨⟨_, v, hs, hv⟩, fun x H' y => ?_⟩
      obtain ⟨rfl, hx⟩ := y
      have := hx _ hs
      rw [hv] at this
      cases this
      exact ⟨F, A.push_z dv⟩
  · obtain ⟨F, A, h⟩ := at_den A
    cases h with
    | lst h z r => exact ⟨_, .of (A.core.sub _ _ h), by rw [r.length]; exact Nat.le_refl _⟩
theorem serves_tup {a : Addr} {ds : List D} : Serves g (Itt g.K a) ds [(.ref a, .z (.tup ds))] := by
  refine ⟨nob1, fun lk β σ ρ ts H i d A hd => ?_, fun lk β σ ρ ts H A => ?_⟩
  · obtain ⟨F, A, h⟩ := at_den A
    cases h with
    | tup h z r =>
      obtain ⟨v, hv, dv⟩ := r.getD hd
      have hs : SqT g.K H a _ := .of (A.core.sub _ _ h)
      refine ⟨⟨_, v, hs, hv⟩, fun x H' y => ?_⟩
      obtain ⟨rfl, hx⟩ := y
      have := hx _ hs
      rw [hv] at this
      cases this
      exact ⟨F, A.push_z dv⟩
  · obtain ⟨F, A, h⟩ := at_den A
    cases h with
    | tup h z r => exact ⟨_, .of (A.core.sub _ _ h), by rw [r.length]; exact Nat.le_refl _⟩
theorem sign_den {K : PySem.W.Frag} {F : Hp} {c : Nat} : Den K F (.str ⟨#[c]⟩) (.str ⟨#[c]⟩) := .str _ (by show 1 ≤ sizeLine; decide)
theorem serves_str {z : Str} : Serves g (Its z) (signsD z) [] := by
  have hl : (signsD z).length = z.cps.size := by unfold signsD; simp
  refine ⟨fun c hc => absurd hc List.not_mem_nil, fun lk β σ ρ ts H i d A hd => ?_, fun lk β σ ρ ts H A => ?_⟩
  · have hi : i < z.cps.size := by rw [← hl]; exact (List.getElem?_eq_some_iff.mp hd).1
    refine ⟨hi, fun x H' y => ?_⟩
    obtain ⟨rfl, c, hc, rfl⟩ := y
    unfold signsD at hd
    rw [List.getElem?_map, Array.getElem?_toList, hc] at hd
    cases hd
    obtain ⟨F, A⟩ := A
    exact ⟨F, A.push_z sign_den⟩
  · show z.cps.size ≤ _
    rw [hl]
    exact Nat.le_refl _
def rangeD (lo : Int) (n : Nat) : List D := (List.range n).map fun (k : Nat) => D.int (lo + (k : Int))
theorem serves_range {lo : Int} {n : Nat} : Serves g (Itr lo n) (rangeD lo n) [] := by
  have hl : (rangeD lo n).length = n := by unfold rangeD; simp
  refine ⟨fun c hc => absurd hc List.not_mem_nil, fun lk β σ ρ ts H i d A hd => ?_, fun lk β σ ρ ts H A => ?_⟩
  · have hi : i < n := by rw [← hl]; exact (List.getElem?_eq_some_iff.mp hd).1
    refine ⟨hi, fun x H' y => ?_⟩
    obtain ⟨rfl, rfl⟩ := y
    unfold rangeD at hd
    rw [List.getElem?_map, List.getElem?_range hi] at hd
    cases hd
    obtain ⟨F, A⟩ := A
    exact ⟨F, A.push_z (.int _)⟩
  · show n ≤ _
    rw [hl]
    exact Nat.le_refl _
/-- pairs that are made at each turn -/
def enumD (ds : List D) : List D := ds.zipIdx.map fun p => D.tup [.int (p.2 : Nat), p.1]
theorem enumD_get {ds : List D} {i : Nat} {d : D} (h : (enumD ds)[i]? = some d) : ∃ e, ds[i]? = some e ∧ d = .tup [.int (i : Nat), e] := by
  unfold enumD at h
  rw [List.getElem?_map, List.getElem?_zipIdx] at h
  cases e : ds[i]? with
  | none => rw [e] at h; cases h
  | some x =>
    rw [e] at h
    simp only [Option.map_some, Option.some.injEq, Nat.zero_add] at h
    exact ⟨x, rfl, h.symm⟩
theorem enumD_len {ds : List D} : (enumD ds).length = ds.length := by unfold enumD; simp
theorem pair_new {lk : List Addr} {β σ : Sg} {ρ : Rho} {ts : Ts} {F H : Hp} {T : Addr} {x y : V} {d e : D} (A : AtF g lk β F σ ρ ts H) (hT : H T = none) (h1 : Den g.K F d x) (h2 : Den g.K F e y) : At g lk β σ ρ (ts ++ [(.ref T, .z (.tup [d, e]))]) (upd H T (.tup [x, y])) :=
  A.res_tup hT (.cons h1 (.cons h2 .nil)) (by show 2 ≤ sizeLine; decide)
theorem serves_enum {a : Addr} {ds : List D} : Serves g (Ite g.K a) (enumD ds) [(.ref a, .z (.lst ds))] := by
  refine ⟨nob1, fun lk β σ ρ ts H i d A hd => ?_, fun lk β σ ρ ts H A => ?_⟩
  · obtain ⟨F, A, h⟩ := at_den A
    obtain ⟨e, he, rfl⟩ := enumD_get hd
    cases h with
    | lst h z r =>
      obtain ⟨v, hv, dv⟩ := r.getD he
      have hs : SqL g.K H a _ := .of (A.core.sub _ _ h)
      refine ⟨⟨_, v, hs, hv⟩, fun x H' y => ?_⟩
      obtain ⟨T, w, rfl, hT, rfl, hx⟩ := y
      have := hx _ hs
      rw [hv] at this
      cases this
      exact pair_new A hT (.int _) dv
  · obtain ⟨F, A, h⟩ := at_den A
    cases h with
    | lst h z r => exact ⟨_, .of (A.core.sub _ _ h), by rw [enumD_len, r.length]; exact Nat.le_refl _⟩
end
/-! ### the readings -/
def dIter (te : TD) : TDI := fun ρ Q => te ρ fun ρ1 r => match frzR ρ1 r with
  | some (ρ2, d) => match itemsD d with
    | some ds => Q ρ2 ds
    | none => False
  | none => False
def dRange1 (te : TD) : TDI := fun ρ Q => te ρ fun ρ1 r => match r with
  | .z (.int j) => (-(2 ^ 62) ≤ j ∧ j < 2 ^ 62) ∧ Q ρ1 (rangeD 0 j.toNat)
  | _ => False
def dRange2 (ta tb : TD) : TDI := fun ρ Q => ta ρ fun ρ1 r => tb ρ1 fun ρ2 q => match r, q with
  | .z (.int i), .z (.int j) => (-(2 ^ 62) ≤ i ∧ i < 2 ^ 62 ∧ -(2 ^ 62) ≤ j ∧ j < 2 ^ 62) ∧ Q ρ2 (rangeD i (j - i).toNat)
  | _, _ => False
def dEnum (te : TD) : TDI := fun ρ Q => te ρ fun ρ1 r => match frzR ρ1 r with
  | some (ρ2, d) => match d with
    | .lst ds => Q ρ2 (enumD ds)
    | .tup ds => Q ρ2 (enumD ds)
    | _ => False
  | none => False
theorem pi_or {X : Cx} {tg it : Expr} {w1 w2 : TI} (a : PI X tg it w1) (b : PI X tg it w2) : PI X tg it (fun σ H R => w1 σ H R ∨ w2 σ H R) :=
  ⟨fun pins s σ H R I h => h.elim (fun h => a.run pins s σ H R I h) (fun h => b.run pins s σ H R I h)⟩
section
variable {X : Cx} {tg e a b : Expr} {te ta tb : TD} {p pos tpos : Pos}
/-- a walk of a list, a tuple, a text -/
theorem pi_val {t : TE} (h : PE X e t) : PI X tg e (fun σ H R => t σ H fun x H1 => (∃ a xs, x = .ref a ∧ SqL X.K H1 a xs ∧ R (Itl X.K a) H1) ∨ (∃ a xs, x = .ref a ∧ SqT X.K H1 a xs ∧ R (Itt X.K a) H1) ∨ ∃ z, x = .str z ∧ R (Its z) H1) := by
  refine ⟨fun pins s σ H R I q => ?_⟩
  refine thn (h.run pins s σ H _ I q) fun v s1 ⟨x, H1, I1, r1, q1⟩ => ?_
  rcases q1 with ⟨a, xs, rfl, hq, q⟩ | ⟨a, xs, rfl, hq, q⟩ | ⟨x, rfl, q⟩
  · cases r1
    obtain ⟨its, rv, p, hz⟩ := I1.list hq
    refine wpAny_pyIter_list p.isList ?_
    refine ⟨s1.heap.objs.size, [s1.heap.objs.size], _, _, H1, rfl, I1.kept (t' := s1.toks) fun b o e => Heap.get?_push_of_some _ e, turn_list a _, ⟨_, Heap.get?_push_size _ rfl, rfl, rfl⟩, fun b hb => ?_, q⟩
    have e : b = s1.heap.objs.size := by simpa using hb
    subst e
    exact I1.fpOk (Nat.le_refl _) (I1.hok.fresh (Nat.le_refl _))
  · cases r1
    obtain ⟨its, rv, p, hz⟩ := I1.tuple hq
    refine wpAny_pyIter_tuple (show s1.heap.IsTuple a its.toArray from p) ?_
    refine ⟨s1.heap.objs.size, [s1.heap.objs.size], _, _, H1, rfl, I1.kept (t' := s1.toks) fun b o e => Heap.get?_push_of_some _ e, turn_tuple a _, ⟨_, Heap.get?_push_size _ rfl, rfl, rfl⟩, fun b hb => ?_, q⟩
    have e : b = s1.heap.objs.size := by simpa using hb
    subst e
    exact I1.fpOk (Nat.le_refl _) (I1.hok.fresh (Nat.le_refl _))
  · obtain ⟨t, rfl⟩ := r1
    cases ha : x.cps.all (· < 128)
    · exact wpAny_pyIter_wide ha (pi_one (tk := s1.toks) I1 _ (turn_str _ x t "str_iterator" (.inr rfl)) ⟨_, Heap.get?_push_size _ rfl, rfl, rfl⟩ q)
    · exact wpAny_pyIter_ascii ha (pi_one (tk := s1.toks) I1 _ (turn_str _ x t "str_ascii_iterator" (.inl rfl)) ⟨_, Heap.get?_push_size _ rfl, rfl, rfl⟩ q)
theorem pdi_any (he : PD X e te) : PDI X tg e (dIter te) := by
  refine PI.weak (pi_val he) fun σ H Q h => ?_
  obtain ⟨g, lk, β, ρ, ts, Qd, hK, A, t, q⟩ := h
  refine ⟨g, lk, β, ρ, ts, _, hK, A, t, fun ρ1 r v H1 ⟨F1, A1⟩ t1 => ?_⟩
  cases e1 : frzR ρ1 r with
  | none => simp only [e1] at t1
  | some pr =>
    obtain ⟨ρ2, d⟩ := pr
    simp only [e1] at t1
    obtain ⟨F2, _, A2⟩ := A1.freeze1 (us := []) e1
    have dv : Den g.K F2 d v := A2.tmp (v, .z d) (by simp)
    cases d with
    | lst ds =>
      cases dv with
      | lst h z r => exact .inl ⟨_, _, rfl, .of (A2.core.sub _ _ h), by rw [← hK]; exact q _ ds _ _ _ ⟨F2, A2⟩ serves_list t1⟩
    | tup ds =>
      cases dv with
      | tup h z r => exact .inr (.inl ⟨_, _, rfl, .of (A2.core.sub _ _ h), by rw [← hK]; exact q _ ds _ _ _ ⟨F2, A2⟩ serves_tup t1⟩)
    | str z =>
      cases dv with
      | str z h => exact .inr (.inr ⟨z, rfl, q _ _ [] _ _ (by rw [List.append_nil]; exact At.pop ⟨F2, A2⟩) serves_str t1⟩)
    | _ => exact t1.elim
theorem pdi_range1 (hg : Gl X "range") (hm : X.mg "range" = none) (ha : PD X a ta) (hs : starEach [a] X.env = [(false, eval a X.env)] := by rfl) (hs' : starEach [a] X.env = (false, eval a X.env) :: starEach [] X.env := by rfl) : PDI X tg (.Call (.Name "range" p) [a] [] pos) (dRange1 ta) := by
  refine PI.weak (pi_range1 hg hm (pa_cons ha pa_nil hs') hs) fun σ H Q h => ?_
  obtain ⟨g, lk, β, ρ, ts, Qd, hK, A, t, q⟩ := h
  refine ⟨g, lk, β, ρ, ts, _, hK, A, t, fun ρ1 r v H1 ⟨F1, A1⟩ t1 => ?_⟩
  have h1 := A1.tmp (v, r) (by simp)
  cases r with
  | z d =>
    cases d with
    | int j =>
      cases h1
      exact ⟨j, rfl, t1.1.1, t1.1.2, q _ _ [] _ _ (by rw [List.append_nil]; exact At.pop ⟨F1, A1⟩) serves_range t1.2⟩
    | _ => exact t1.elim
  | _ => exact t1.elim
theorem pdi_range2 (hg : Gl X "range") (hm : X.mg "range" = none) (ha : PD X a ta) (hb : PD X b tb) (hs : starEach [a, b] X.env = [(false, eval a X.env), (false, eval b X.env)] := by rfl) (hs2 : starEach [b] X.env = [(false, eval b X.env)] := by rfl)
    (hs3 : starEach [a, b] X.env = (false, eval a X.env) :: starEach [b] X.env := by rfl) (hs4 : starEach [b] X.env = (false, eval b X.env) :: starEach [] X.env := by rfl) : PDI X tg (.Call (.Name "range" p) [a, b] [] pos) (dRange2 ta tb) := by
  refine PI.weak (pi_range2 hg hm (pa_cons ha (pa_cons hb pa_nil hs4) hs3) hs hs2) fun σ H Q h => ?_
  obtain ⟨g, lk, β, ρ, ts, Qd, hK, A, t, q⟩ := h
  refine ⟨g, lk, β, ρ, ts, _, hK, A, t, fun ρ1 r v H1 A1 t1 => ⟨g, lk, β, ρ1, ts ++ [(v, r)], _, hK, A1, t1, fun ρ2 r2 v2 H2 ⟨F2, A2⟩ t2 => ?_⟩⟩
  have h1 := A2.tmp (v, r) (by simp)
  have h2 := A2.tmp (v2, r2) (by simp)
  cases r with
  | z d =>
    cases d with
    | int i =>
      cases r2 with
      | z d =>
        cases d with
        | int j =>
          cases h1
          cases h2
          exact ⟨i, j, rfl, t2.1, q _ _ [] _ _ (by rw [List.append_nil]; exact At.pop (At.pop ⟨F2, A2⟩)) serves_range t2.2⟩
        | _ => exact t2.elim
      | _ => exact t2.elim
    | _ => exact t2.elim
  | _ => exact t2.elim
/-- the tuple at a, each item in a new pair -/
def ItE (K : PySem.W.Frag) (a : Addr) : It where
  go := fun i H => ∃ xs : List V, SqT K H a xs ∧ i < xs.length
  yld := fun i H v H' => ∃ T x, v = .ref T ∧ H T = none ∧ H' = upd H T (.tup [.int (i : Nat), x]) ∧ ∀ xs, SqT K H a xs → xs[i]? = some x
  stop := fun i H => ∃ xs : List V, SqT K H a xs ∧ xs.length = i
theorem turn_E {P : Program} {w : World} {K : PySem.W.Frag} {elts : List Expr} {kk : Nat} {tpos : Pos} (a e it : Addr) (nai : a ≠ it) (nea : e ≠ a) :
    Turn P w K (.Tuple elts kk tpos) (ItE K a) [e, it] e (fun i h => (∃ old, IsEnum h e it ((i : Nat) : Int) old) ∧ h.IsTupleIter it a i ∧ e ≠ it) where
  mem := List.mem_cons_self
  obj := fun i h st => (Lw.turn_enumT (P := P) (w := w) (K := K) (elts := elts) (kk := kk) (tpos := tpos) a e it (List.replicate i V.non) nai nea).obj i h ⟨st.1, st.2.1, st.2.2, by rw [List.length_replicate]; exact Nat.le_refl _⟩
  keep := fun i h h' st k => by
    obtain ⟨a1, a2, a3, _⟩ := (Lw.turn_enumT (P := P) (w := w) (K := K) (elts := elts) (kk := kk) (tpos := tpos) a e it (List.replicate i V.non) nai nea).keep i h h' ⟨st.1, st.2.1, st.2.2, by rw [List.length_replicate]; exact Nat.le_refl _⟩ k
    exact ⟨a1, a2, a3⟩
  item := fun X hP hw hK hc i pins s σ H E I hf st hg => by
    obtain ⟨xs, hs, hi⟩ := hg
    refine wpAny_mono ((Lw.turn_enumT (elts := elts) (kk := kk) (tpos := tpos) a e it xs nai nea).item X hP hw hK hc i pins s σ H E I hf ⟨st.1, st.2.1, st.2.2, by omega⟩ ⟨hs, hi⟩) (fun r s1 ⟨u, hr, h⟩ => ⟨u, hr, wpAny_mono h (fun _ s2 ⟨x, H', I', rx, y, tn, fr⟩ => ⟨x, H', I', rx, ?_, ⟨tn.1, tn.2.1, tn.2.2.1⟩, fr⟩) fun _ _ z => z⟩) fun _ _ z => z
    obtain ⟨T, w', e1, e2, e3, e4⟩ := y
    refine ⟨T, w', e1, e2, e3, fun ys hy => ?_⟩
    subst hK
    rw [← I.tuple_inj hs hy]
    exact e4
  done := fun X hP hw hK hc i pins s σ H E I hf st hg => by
    obtain ⟨xs, hs, hi⟩ := hg
    exact (Lw.turn_enumT (elts := elts) (kk := kk) (tpos := tpos) a e it xs nai nea).done X hP hw hK hc i pins s σ H E I hf ⟨st.1, st.2.1, st.2.2, by omega⟩ ⟨hs, by omega⟩
  self := fun A i s Q E st h => (Lw.turn_enumT (P := P) (w := w) (K := K) (elts := elts) (kk := kk) (tpos := tpos) a e it (List.replicate i V.non) nai nea).self A i s Q E ⟨st.1, st.2.1, st.2.2, by rw [List.length_replicate]; exact Nat.le_refl _⟩ h
theorem serves_enumT {g : Gm} {a : Addr} {ds : List D} : Serves g (ItE g.K a) (enumD ds) [(.ref a, .z (.tup ds))] := by
  refine ⟨nob1, fun lk β σ ρ ts H i d A hd => ?_, fun lk β σ ρ ts H A => ?_⟩
  · obtain ⟨F, A, h⟩ := at_den A
    obtain ⟨e, he, rfl⟩ := enumD_get hd
    cases h with
    | tup h z r =>
      obtain ⟨v, hv, dv⟩ := r.getD he
      have hs : SqT g.K H a _ := .of (A.core.sub _ _ h)
      refine ⟨⟨_, hs, (List.getElem?_eq_some_iff.mp hv).1⟩, fun x H' y => ?_⟩
      obtain ⟨T, w, rfl, hT, rfl, hx⟩ := y
      have := hx _ hs
      rw [hv] at this
      cases this
      exact pair_new A hT (.int _) dv
  · obtain ⟨F, A, h⟩ := at_den A
    cases h with
    | tup h z r => exact ⟨_, .of (A.core.sub _ _ h), by rw [enumD_len, r.length]⟩
theorem pi_enumV {elts : List Expr} {kk : Nat} {ta : TA} (hg : Gl X "enumerate") (hm : X.mg "enumerate" = none) (ha : PA X [e] ta) (one : starEach [e] X.env = [(false, eval e X.env)] := by rfl) :
    PI X (.Tuple elts kk tpos) (.Call (.Name "enumerate" p) [e] [] pos) (fun σ H R => ta σ H fun vs H1 => (∃ a xs, vs = [.ref a] ∧ SqL X.K H1 a xs ∧ R (Ite X.K a) H1) ∨ ∃ a xs, vs = [.ref a] ∧ SqT X.K H1 a xs ∧ R (ItE X.K a) H1) := by
  refine ⟨fun pins s σ H R I h => ?_⟩
  refine Call_ (ld_blt I hg hm boot_enumerate (PyProof.Rows.callWith_type1 (thn (ha.run pos pins s σ H _ I h) fun us s1 ⟨vs, H1, I1, r1, q1⟩ => ?_) one rfl))
  rcases q1 with ⟨a, xs, ex, hq, q⟩ | ⟨a, xs, ex, hq, q⟩
  · subst ex
    cases r1 with
    | cons r rr =>
      cases rr
      cases r
      obtain ⟨its, rv, p', hz⟩ := I1.list hq
      refine call_enumerate_list p'.isList fun h' he hit hsz hk => wpAny_pyIter_enum he ?_
      have I2 : Inv X pins σ H1 { s1 with heap := h' } := I1.kept (t' := s1.toks) hk
      refine ⟨s1.heap.objs.size + 1, [s1.heap.objs.size + 1, s1.heap.objs.size], _, _, H1, rfl, I2, turn_enum a (s1.heap.objs.size + 1) s1.heap.objs.size, ⟨⟨.none, he⟩, hit, Nat.succ_ne_self _⟩, fun b hb => ?_, q⟩
      have e' : b = s1.heap.objs.size + 1 ∨ b = s1.heap.objs.size := by simpa using hb
      have hle : s1.heap.objs.size ≤ b := by
        rcases e' with z | z
        · rw [z]; exact Nat.le_add_right _ _
        · rw [z]; exact Nat.le_refl _
      exact I1.fpOk hle (I1.hok.fresh hle)
  · subst ex
    obtain ⟨u, rfl, ru⟩ := vals1 r1
    cases (show u = Value.ref a from ru)
    obtain ⟨its, rv, p', hz⟩ := I1.tuple hq
    have tp : s1.heap.IsTuple a its.toArray := p'
    have alt : a < s1.heap.objs.size := by
      obtain ⟨_, e, _⟩ := tp
      exact Heap.lt_size e
    refine PySem.Et.call_made tp fun h' he hit hk => wpAny_pyIter_enum he ?_
    have I2 : Inv X pins σ H1 { s1 with heap := h' } := I1.kept (t' := s1.toks) hk
    refine ⟨s1.heap.objs.size + 1, [s1.heap.objs.size + 1, s1.heap.objs.size], _, _, H1, rfl, I2, turn_E a (s1.heap.objs.size + 1) s1.heap.objs.size (Nat.ne_of_lt alt) (Nat.ne_of_gt (Nat.lt_succ_of_lt alt)), ⟨⟨.none, he⟩, hit, Nat.succ_ne_self _⟩, fun b hb => ?_, q⟩
    have le : s1.heap.objs.size ≤ b := by
      rcases List.mem_cons.mp hb with z | z
      · rw [z]; exact Nat.le_add_right _ _
      · rw [List.mem_singleton.mp z]; exact Nat.le_refl _
    exact I1.fpOk le (I1.hok.fresh le)
theorem pdi_enum {elts : List Expr} {kk : Nat} (hg : Gl X "enumerate") (hm : X.mg "enumerate" = none) (he : PD X e te) (hs : starEach [e] X.env = [(false, eval e X.env)] := by rfl) (hs' : starEach [e] X.env = (false, eval e X.env) :: starEach [] X.env := by rfl) :
    PDI X (.Tuple elts kk tpos) (.Call (.Name "enumerate" p) [e] [] pos) (dEnum te) := by
  refine PI.weak (pi_enumV hg hm (pa_cons he pa_nil hs') hs) fun σ H Q h => ?_
  obtain ⟨g, lk, β, ρ, ts, Qd, hK, A, t, q⟩ := h
  refine ⟨g, lk, β, ρ, ts, _, hK, A, t, fun ρ1 r v H1 ⟨F1, A1⟩ t1 => ?_⟩
  cases e1 : frzR ρ1 r with
  | none => simp only [e1] at t1
  | some pr =>
    obtain ⟨ρ2, d⟩ := pr
    simp only [e1] at t1
    obtain ⟨F2, _, A2⟩ := A1.freeze1 (us := []) e1
    have dv : Den g.K F2 d v := A2.tmp (v, .z d) (by simp)
    cases d with
    | lst ds =>
      cases dv with
      | lst h z r => exact .inl ⟨_, _, rfl, .of (A2.core.sub _ _ h), by rw [← hK]; exact q _ _ _ _ _ ⟨F2, A2⟩ serves_enum t1⟩
    | tup ds =>
      cases dv with
      | tup h z r => exact .inr ⟨_, _, rfl, .of (A2.core.sub _ _ h), by rw [← hK]; exact q _ _ _ _ _ ⟨F2, A2⟩ serves_enumT t1⟩
    | _ => exact t1.elim
end
end Dl
set_option Elab.async false
set_option linter.all false
set_option maxRecDepth 100000
set_option maxHeartbeats 4000000
/-! comprehensions of lists, sets and dicts with any number of fors: a clause at a time -/
namespace Lw
open PySem PySem.Spec PyProof.Rows L2
/-- what a turn of the clause at place k does once its tests have passed: the next clause's loop, or the store -/
def inBody (emit : Sem Unit) (nxt : Option Comprehension) (e : Expr) (k : Nat) (acc : Value) (env : Env) : Sem Unit :=
  match nxt with
  | some g' => do
    let x ← eval g'.iter env
    standAt g'.iter.pos
    let x ← if g'.is_async != 0 then foldedIterable g'.iter x else foldedSetIterable g'.iter env x
    let _ ← runOwn (.compStart e (k + 1) (← holding [x] (if g'.is_async != 0 then asyncIter x else pyIter x)) acc env) env
  | none => emit
/-- the clauses of a comprehension and its store -/
def CSplit (e : Expr) (acc : Value) (env : Env) (gs : List Comprehension) (emit : Sem Unit) : Prop :=
  (∃ elt sc p, e = .ListComp elt gs sc p ∧ emit = (do let _ ← call (.builtin "list.append") [acc, ← eval elt env])) ∨
  (∃ elt sc p, e = .SetComp elt gs sc p ∧ emit = (do let v ← eval elt env; standAt elt.pos; let _ ← call (.builtin "set.add") [acc, v])) ∨
  (∃ kx vx sc p D, e = .DictComp kx vx gs sc p ∧ acc = .ref D ∧ emit = (do
    let kv ← eval kx env
    let vv ← holding [kv] (eval vx env)
    standAt { kx.pos with endLine := vx.pos.endLine, endCol := vx.pos.endCol }
    holding [kv, vv] (dictSet D kv vv)))
theorem CSplit.cl {e : Expr} {acc : Value} {env : Env} {gs : List Comprehension} {emit : Sem Unit} (h : CSplit e acc env gs emit) : clausesOf e = gs := by
  rcases h with ⟨_, _, _, rfl, _⟩ | ⟨_, _, _, rfl, _⟩ | ⟨_, _, _, _, _, rfl, _, _⟩ <;> rfl
section
variable {prog : Program} {w : World} {A : Around} {R : Result → Shared → Prop} {s : Shared}
/-- one turn of a clause's loop, told by its body -/
theorem turn_by {e : Expr} {acc it : Value} {env : Env} {gs : List Comprehension} {emit : Sem Unit} {k : Nat} {tg iter : Expr} {ifs : List Expr} (hs : CSplit e acc env gs emit) (hk : gs[k]? = some ⟨tg, iter, ifs, 0⟩) {Q : Fin → Shared → Prop} {E : Value → Shared → Prop}
    (h : wpAny (model prog w) A (pyNext it) (fun r s1 => match r with
      | none => Q (.done .next) s1
      | some v => wpAny (model prog w) A (letOwnedTupleGo tg it v) (fun _ s2 =>
          wpAny (model prog w) A (assign tg env v) (fun _ s3 =>
            wpAny (model prog w) A (forIn ifs true fun c r => if r = true then do let ok ← isTrue c env (eval c env); pure (ForInStep.yield ok) else pure (ForInStep.yield r)) (fun ok s4 =>
              if ok = true then wpAny (model prog w) A (inBody emit gs[k + 1]? e k acc env) (fun _ s5 => Q (.again (.compLoop e k it acc env)) s5) E s4
              else Q (.again (.compLoop e k it acc env)) s4) E s3) E s2) E s1) E s) :
    wpAny (model prog w) A (compTurn e k it acc env) Q E s := by
  have put : ∀ (emit0 : Sem Unit) (nx : Option Comprehension), emit0 = emit → nx = gs[k + 1]? →
      wpAny (model prog w) A (do
        standAt iter.pos
        match ← pyNext it with
        | none => pure (.done .next)
        | some v =>
          letOwnedTupleGo tg it v
          assign tg env v
          let mut ok := true
          for c in ifs do
            if ok then ok ← isTrue c env (eval c env)
          if ok then
            match nx with
            | some g' =>
              let x ← eval g'.iter env
              standAt g'.iter.pos
              let x ← if g'.is_async != 0 then foldedIterable g'.iter x else foldedSetIterable g'.iter env x
              let _ ← runOwn (.compStart e (k + 1) (← holding [x] (if g'.is_async != 0 then asyncIter x else pyIter x)) acc env) env
            | none => emit0
          again (.compLoop e k it acc env)) Q E s := by
    intro emit0 nx0 e0 n0
    subst e0 n0
    refine wpAny_bind (wpAny_standAt (wpAny_bind (wpAny_mono h (fun r s1 h1 => ?_) fun _ _ z => z)))
    cases r with
    | none => exact wpAny_pure h1
    | some v =>
      refine wpAny_bind (wpAny_mono h1 (fun _ s2 h2 => wpAny_bind (wpAny_mono h2 (fun _ s3 h3 => wpAny_bind (wpAny_mono h3 (fun ok s4 h4 => ?_) fun _ _ z => z)) fun _ _ z => z)) fun _ _ z => z)
      cases ok with
      | false => exact wpAny_pure h4
      | true =>
        have h4 : wpAny (model prog w) A (inBody emit0 gs[k + 1]? e k acc env) (fun _ s5 => Q (.again (.compLoop e k it acc env)) s5) E s4 := h4
        generalize gs[k + 1]? = nx at h4 ⊢
        cases nx with
        | none => exact wpAny_bind (wpAny_mono h4 (fun _ s5 h5 => wpAny_pure h5) fun _ _ z => z)
        | some g' =>
          have h4 := wpAny_bind (M := model prog w) (f := fun (_ : Unit) => (again (.compLoop e k it acc env) : Sem Fin)) (wpAny_mono h4 (fun _ s5 h5 => wpAny_pure h5) fun _ _ z => z)
          cases hg : (g'.is_async != 0) <;> (simp only [inBody, hg, Bool.false_eq_true, if_false, if_true, bind_assoc] at h4 ⊢; exact h4)
  rcases hs with ⟨elt, sc, p, rfl, rfl⟩ | ⟨elt, sc, p, rfl, rfl⟩ | ⟨kx, vx, sc, p, D, rfl, rfl, rfl⟩
  · have := put _ _ rfl rfl
    unfold compTurn
    simp only [hk]
    exact this
  · have := put _ _ rfl rfl
    unfold compTurn
    simp only [hk]
    exact this
  · have := put _ _ rfl rfl
    unfold compTurn
    simp only [hk]
    exact this
end
end Lw
set_option Elab.async false
set_option linter.all false
set_option maxRecDepth 100000
set_option maxHeartbeats 4000000
namespace Lw
open PySem PySem.Spec PyProof.Rows L2
/-- what a turn does within a block, the slots ws forgotten behind it -/
structure BD (X : Cx) (B : Sem Unit) (ws : List Nat) (t : L2.St → Hp → (Hp → Prop) → Prop) : Prop where
  run : ∀ (pins : List (Addr × Obj)) (s : Shared) (σ : L2.St) (H : Hp) (Q : Hp → Prop), Inv X pins σ H s → t σ H Q →
    wpAny (model X.prog X.w) X.A B (fun _ s' => ∃ H', Inv X pins (wipe σ ws) H' s' ∧ Q H') (fun _ _ => False) s
/-- a clause's turns: W by the turn and a measure; behind the last one Q -/
def ClW (J : It) (g : TG) (tt : TT) (tb : L2.St → Hp → (Hp → Prop) → Prop) (vs : List Nat) (σ : L2.St) (H : Hp) (Q : Hp → Prop) : Prop :=
  ∃ W : Nat → Nat → Hp → Prop, (∃ m, W 0 m H) ∧ ∀ i m H1, W i m H1 → (J.stop i H1 ∧ Q H1) ∨
    (J.go i H1 ∧ ∃ Nx : Hp → Prop, (∀ H2, Nx H2 → ∃ m', m' < m ∧ W (i + 1) m' H2) ∧ ∀ x H2, J.yld i H1 x H2 →
      g x (wipe σ vs) H2 fun σ2 H3 => wipe σ2 vs = wipe σ vs ∧ tt σ2 H3 fun b H4 => if b = true then tb σ2 H4 Nx else Nx H4)
section
variable {X : Cx} {e : Expr} {acc : Value} {gs : List Comprehension} {emit : Sem Unit} {k : Nat} {tg iter : Expr} {ifs : List Expr} {g : TG} {tt : TT} {tb : L2.St → Hp → (Hp → Prop) → Prop} {ws vs : List Nat}
theorem wipe_sub {σ2 τ : L2.St} {us zs : List Nat} (h : ∀ i ∈ us, i ∈ zs) (e : wipe σ2 zs = wipe τ zs) : (wipe τ zs).length = (wipe σ2 us).length ∧ ∀ (j : Nat) v, (wipe τ zs)[j]? = some (some v) → (wipe σ2 us)[j]? = some (some v) := by
  refine ⟨by rw [← e, wipe_length, wipe_length], fun j v hj => ?_⟩
  rw [← e] at hj
  obtain ⟨h1, h2⟩ := wipe_some hj
  rw [wipe_out fun z => h2 (h j z)]
  exact h1
theorem den_loop {prog : Program} {w : World} {A : Around} {it : Value} {env env' : Env} (hs : CSplit e acc env' gs emit) : A.under (.compLoop e k it acc env) = A ∧
    (model prog w).den (.compLoop e k it acc env) = (compTurn e k it acc env).onRaise (fun x => do noteFrame x env; theTreesLotGoes x) := by
  rcases hs with ⟨_, _, _, rfl, _⟩ | ⟨_, _, _, rfl, _⟩ | ⟨_, _, _, _, _, rfl, _, _⟩ <;> exact ⟨rfl, rfl⟩
theorem den_start {prog : Program} {w : World} {A : Around} {it : Value} {env env' : Env} (hs : CSplit e acc env' gs emit) : A.under (.compStart e k it acc env) = A ∧
    (model prog w).den (.compStart e k it acc env) = (compStart e k it acc env).onRaise (fun x => do noteFrame x env; standAt theWindowsPlace) := by
  rcases hs with ⟨_, _, _, rfl, _⟩ | ⟨_, _, _, rfl, _⟩ | ⟨_, _, _, _, _, rfl, _, _⟩ <;> exact ⟨rfl, rfl⟩
theorem loop_cl (hc : X.calm = true) (hxe : X.xe = fun _ _ => False) (hs : CSplit e acc X.env gs emit) (hk : gs[k]? = some ⟨tg, iter, ifs, 0⟩) {J : It} {fp : List Addr} {it : Addr} {tn : Nat → Heap → Prop}
    (T : Turn X.prog X.w X.K tg J fp it tn) (pg : PG X tg g) (pt : PTs X ifs tt) (bd : BD X (inBody emit gs[k + 1]? e k acc X.env) ws tb) (hws : ∀ i ∈ ws, i ∈ vs)
    {pins : List (Addr × Obj)} {σ : L2.St} {H : Hp} {s : Shared} {Q : Hp → Prop} (I : Inv X pins (wipe σ vs) H s) (st : tn 0 s.heap) (hf : ∀ b ∈ fp, FpOk X pins H b) (hW : ClW J g tt tb vs σ H Q) :
    codeAny (model X.prog X.w) X.A (.compLoop e k (.ref it) acc X.env) (fun r s' => match r with
      | .ok _ => ∃ H', Inv X pins (wipe σ vs) H' s' ∧ Q H'
      | .error _ => False) s := by
  obtain ⟨W, ⟨m0, w0⟩, turn⟩ := hW
  have fpo : ∀ {H' : Hp}, (∀ b ∈ fp, H' b = none) → ∀ b ∈ fp, FpOk X pins H' b := fun hn b hb => ⟨hn b hb, (hf b hb).2⟩
  refine codeAny_loop rfl (fun n s' => ∃ i H', Inv X pins (wipe σ vs) H' s' ∧ tn i s'.heap ∧ (∀ b ∈ fp, H' b = none) ∧ W i n H') (fun n s1 hI => ?_) m0 ⟨0, H, I, st, fun b hb => (hf b hb).1, w0⟩
  obtain ⟨i, H1, I1, st1, n1, w1⟩ := hI
  rw [(den_loop (prog := X.prog) (w := X.w) (A := X.A) (k := k) (it := .ref it) (env := X.env) hs).1, (den_loop (prog := X.prog) (w := X.w) (A := X.A) (k := k) (it := .ref it) (env := X.env) hs).2]
  refine wpAny_noted (turn_by hs hk ?_)
  rcases turn i n H1 w1 with ⟨stop, q⟩ | ⟨go, Nx, hNx, step⟩
  · refine thnF (T.done X rfl rfl rfl hc i pins s1 _ H1 (fun _ _ => False) I1 (fpo n1) st1 stop) fun r s2 ⟨hr, I2⟩ => ?_
    subst hr
    exact ⟨H1, I2, q⟩
  · refine thnF (T.item X rfl rfl rfl hc i pins s1 _ H1 (fun _ _ => False) I1 (fpo n1) st1 go) fun r s2 ⟨u, hr, h2⟩ => ?_
    subst hr
    refine thnF h2 fun _ s3 ⟨x, H3, I3, r3, y3, st3, n3⟩ => ?_
    have a3 := pg.run _ s3 _ H3 x u _ (I3.pinned (fpo n3) (T.obj _ _ st3)) r3 (step x H3 y3)
    rw [hxe] at a3
    refine thnF a3 fun _ s4 ⟨σ4, H4, I4, hw4, q4⟩ => ?_
    have a4 := pt.run _ s4 σ4 H4 _ I4 q4
    rw [hxe] at a4
    refine thnF a4 fun b s5 ⟨H5, I5, q5⟩ => ?_
    have fin : ∀ {us : List Nat} {s' : Shared} {H' : Hp}, (∀ i ∈ us, i ∈ vs) → Inv X (pins ++ pinsAt fp s3.heap) (wipe σ4 us) H' s' → Nx H' →
        ∃ m, m < n ∧ ∃ i H', Inv X pins (wipe σ vs) H' s' ∧ tn i s'.heap ∧ (∀ b ∈ fp, H' b = none) ∧ W i m H' := fun {us s' H'} hu I' nx => by
      obtain ⟨m', hm, w'⟩ := hNx H' nx
      obtain ⟨wl, wk⟩ := wipe_sub hu hw4
      have pin' : ∀ b ∈ fp, ∀ o, s3.heap.get? b = some o → s'.heap.get? b = some o ∧ H' b = none := fun b hb o eo =>
        let z := I'.pin (b, o) (List.mem_append_right _ (List.mem_append_right _ (mem_pinsAt hb eo)))
        ⟨z.1, z.2.1⟩
      refine ⟨m', hm, i + 1, H', (I'.unpinned (pins := pins)).weak wl wk, T.keep _ _ _ st3 fun b hb o eo => (pin' b hb o eo).1, fun b hb => ?_, w'⟩
      obtain ⟨o, eo, _⟩ := T.obj _ _ st3 b hb
      exact (pin' b hb o eo).2
    cases b with
    | false =>
      simp only [Bool.false_eq_true, if_false] at q5 ⊢
      exact ⟨trivial, fin (us := []) (fun i hi => absurd hi List.not_mem_nil) I5 q5⟩
    | true =>
      simp only [if_true] at q5 ⊢
      exact thnF (bd.run _ s5 σ4 H5 Nx I5 q5) fun _ s6 ⟨H6, I6, nx⟩ => ⟨trivial, fin hws I6 nx⟩
/-- the start of a clause's loop -/
theorem start_cl {prog : Program} {w : World} {A : Around} {R : Result → Shared → Prop} {s : Shared} {it : Value} {env env' : Env} (hs : CSplit e acc env' gs emit) (hk : gs[k]? = some ⟨tg, iter, ifs, 0⟩) (h0 : codeAny (model prog w) A (.compLoop e k it acc env) R s)
    (h : wpAny (model prog w) A (pyIter it) (fun it' s' => codeAny (model prog w) A (.compLoop e k it' acc env) R s') (notedBy (model prog w) A env fun x s' => R (.error x) s') s) :
    codeAny (model prog w) A (.compStart e k it acc env) R s := by
  refine codeAny_of_tree ?_
  rw [(den_start (prog := prog) (w := w) (A := A) (k := k) (it := it) (env := env) hs).1, (den_start (prog := prog) (w := w) (A := A) (k := k) (it := it) (env := env) hs).2]
  refine wpAny_notedAt ?_
  unfold compStart
  rw [hs.cl, hk]
  show wpAny _ _ (ask >>= _) _ _ s
  refine wpAny_bind (wpAny_askSetting (wpAny_ite ?_))
  split
  · first
      | exact wpAny_bind (wpAny_pure (wpAny_pure ⟨rfl, h0⟩))
      | exact wpAny_pure ⟨rfl, h0⟩
  · refine wpAny_bind (wpAny_rule ?_)
    first
      | exact wpAny_bind (wpAny_standAt (wpAny_bind (wpAny_mono h (fun it' s' h' => wpAny_pure ⟨rfl, h'⟩) fun _ _ x => x)))
      | (show wpAny _ _ (standAt iter.pos >>= _) _ _ s; exact wpAny_bind (wpAny_standAt (wpAny_bind (wpAny_mono h (fun it' s' h' => wpAny_pure ⟨rfl, h'⟩) fun _ _ x => x))))
/-- the reading of a further clause -/
def tCl (wi : TI) (g : TG) (tt : TT) (tb : L2.St → Hp → (Hp → Prop) → Prop) (vs : List Nat) : L2.St → Hp → (Hp → Prop) → Prop := fun σ H Q => wi σ H fun J H1 => ClW J g tt tb vs σ H1 Q
theorem bd_cl (hc : X.calm = true) (hxe : X.xe = fun _ _ => False) (hs : CSplit e acc X.env gs emit) (hk : gs[k + 1]? = some ⟨tg, iter, ifs, 0⟩) {wi : TI} (pi : PI X tg iter wi) (pg : PG X tg g) (pt : PTs X ifs tt)
    (bd : BD X (inBody emit gs[k + 1 + 1]? e (k + 1) acc X.env) ws tb) (hws : ∀ i ∈ ws, i ∈ vs) (hfs : ∀ x, foldedSetIterable iter X.env x = pure x) :
    BD X (inBody emit gs[k + 1]? e k acc X.env) vs (tCl wi g tt tb vs) := by
  refine ⟨fun pins s σ H Q I h => ?_⟩
  rw [hk]
  have a1 := pi.run pins s σ H _ I h
  rw [hxe] at a1
  show wpAny _ _ (eval iter X.env >>= _) _ _ s
  refine wpAny_bind (thnF a1 fun x s1 h1 => wpAny_bind (wpAny_standAt (wpAny_bind ?_)))
  show wpAny _ _ (foldedSetIterable iter X.env x) _ _ s1
  refine wpAny_of_eq (hfs x) (wpAny_bind (wpAny_holding (thnF h1 fun itv s2 h2 => ?_)))
  obtain ⟨it, fp, tn, J, H2, rfl, I2, T, st2, f2, hW⟩ := h2
  have lp := loop_cl hc hxe hs hk T pg pt bd hws (I2.weak (wipe_length _ _) (fun j v e => (wipe_some e).1)) st2 f2 hW
  refine wpAny_bind (wpAny_runOwn ?_)
  rw [Around.mark_none]
  refine codeAny_mono (start_cl hs hk lp (T.self X.A 0 _ _ _ st2 lp)) fun r s' hr => ?_
  cases r with
  | ok f => exact wpAny_pure hr
  | error x => exact hr.elim
/-- the stores -/
theorem bd_list {elt : Expr} {D : Addr} {te : TE} (hxe : X.xe = fun _ _ => False) (he : PE X elt te) :
    BD X (do let _ ← call (.builtin "list.append") [.ref D, ← eval elt X.env]) [] (fun σ H Q => te σ H fun y H1 => ∃ ys, H1 D = some (.lst ys) ∧ ys.length < sizeLine ∧ Q (upd H1 D (.lst (ys ++ [y])))) := by
  refine ⟨fun pins s σ H Q I h => ?_⟩
  have a1 := he.run pins s σ H _ I h
  rw [hxe] at a1
  refine wpAny_bind (thnF a1 fun v s1 ⟨y, H1, I1, r1, ys, hD, hz, q⟩ => wpAny_bind ?_)
  exact app_ok I1 hD hz r1 fun s2 I2 => wpAny_pure ⟨_, I2, q⟩
theorem d_put2 {pins : List (Addr × Obj)} {σ : L2.St} {H H' : Hp} {s : Shared} {D : Addr} {y v : V} {u r : Value} {Q : Unit → Shared → Prop} {E : Value → Shared → Prop} (hu : X.A.units + 1 < cLine) (I : Inv X pins σ H s) (gp : DPut H D y v H') (ry : RelV y u) (rv : RelV v r)
    (h : ∀ s', Inv X pins σ H' s' → Q () s') : wpAny (model X.prog X.w) X.A (dictSet D u r) Q E s := by
  rcases gp with ⟨kvs, ky, e1, rfl, l1, rfl⟩ | ⟨kvs, ky, b, e1, rfl, eb, l1, rfl⟩
  · exact d_dictSet I e1 l1 ry rv h
  · obtain rfl : u = Value.ref b := ry
    obtain ⟨z, hd, xs, rel, dd⟩ := dt_of I.hok e1
    refine wpAny_dictSet_heap (hsz := by rw [← Paired.length rel]; exact z) (show X.A.units < cLine by omega) (key_of I.hok eb) dd fun h' dd' sb => h _ ?_
    obtain ⟨q, es, ep, hq, h2, h3, h4, _, h5⟩ := dd'
    refine d_write I (by rw [e1]; exact True.intro) sb ⟨q, hq⟩ ⟨by have := length_putK kvs ky v; omega, hd, _, (rel.put ky eb rv).keeps fun c ys ec => ?_, q, es, ep, hq, h2, h3, h4, h5⟩
    rw [upd_ne (ne_of ec e1 (fun z => nomatch z))]
    exact ec
theorem bd_dict {kx vx : Expr} {D : Addr} {tk tv : TE} (hu : X.A.units + 1 < cLine) (hxe : X.xe = fun _ _ => False) (hk : PE X kx tk) (he : PE X vx tv) :
    BD X (do
      let kv ← eval kx X.env
      let vv ← holding [kv] (eval vx X.env)
      standAt { kx.pos with endLine := vx.pos.endLine, endCol := vx.pos.endCol }
      holding [kv, vv] (dictSet D kv vv)) [] (fun σ H Q => tk σ H fun y H1 => tv σ H1 fun z H2 => ∃ H3, DPut H2 D y z H3 ∧ Q H3) := by
  refine ⟨fun pins s σ H Q I h => ?_⟩
  have a1 := hk.run pins s σ H _ I h
  rw [hxe] at a1
  refine wpAny_bind (thnF a1 fun v s1 ⟨y, H1, I1, r1, q1⟩ => wpAny_bind (wpAny_holding ?_))
  have a2 := he.run pins s1 σ H1 _ I1 q1
  rw [hxe] at a2
  refine thnF a2 fun z s2 ⟨y2, H2, I2, r2, H3, gp, q⟩ => wpAny_bind (wpAny_standAt (wpAny_holding ?_))
  exact d_put2 hu I2 gp r1 r2 fun s3 I3 => ⟨_, I3, q⟩
end
end Lw
set_option Elab.async false
set_option linter.all false
set_option maxRecDepth 100000
set_option maxHeartbeats 4000000
namespace Lw
open PySem PySem.Spec PyProof.Rows L2
/-- the reading of a comprehension: D the new object, at first o0; tb what a turn of the first clause does -/
def tCo (o0 : HO) (wi : TI) (g : TG) (tt : TT) (tb : Addr → L2.St → Hp → (Hp → Prop) → Prop) (vs : List Nat) : TE := fun σ H Q =>
  wi σ H fun J H1 => ∀ D, H1 D = none → ClW J g tt (tb D) vs σ (upd H1 D o0) fun H2 => Q (.ref D) H2
/-- a block's context -/
abbrev blkX (X : Cx) (scope : Scope) (s : Shared) (H : Hp) (C : Addr) (cl : List (Str × Addr)) (fp : List Addr) : Cx := X.blk s H scope (compEnvC scope cl C X.env) fp
section
variable {X : Cx}
theorem co_core {e : Expr} {gs : List Comprehension} {tg iter : Expr} {ifs : List Expr} {scope : Scope} {own : List (Str × Nat)} {o0 : HO} {ob : Obj} {newAcc : Sem Value} {emit : Addr → Env → Sem Unit} {wi : TI} {g : TG} {tt : TT}
    {tb : Addr → L2.St → Hp → (Hp → Prop) → Prop} {ws : List Nat} {pins : List (Addr × Obj)} {s : Shared} {σ : L2.St} {H : Hp} {Q : VK} {pos' : Pos} {use : Option (Value → Sem Unit)} {Qf : Value → Shared → Prop}
    (hc : X.calm = true) (hN : X.N.Nodup) (I : Inv X pins σ H s) (hsp : ∀ D env, CSplit e (.ref D) env gs (emit D env)) (hk : gs[0]? = some ⟨tg, iter, ifs, 0⟩)
    (hnew : ∀ (E : Value → Shared → Prop) (Q1 : Value → Shared → Prop) (s1 : Shared), Q1 (.ref s1.heap.objs.size) { s1 with heap := s1.heap.push ob } → wpAny (model X.prog X.w) X.A newAcc Q1 E s1)
    (hob : ∀ (H1 : Hp) (h : Heap), sysModules < h.objs.size → ObjOk X.prog X.w H1 (h.push ob) h.objs.size o0) (hfz : ob.isFreed = false)
    (hi : PI X tg iter wi) (ok : BlkOk X.N X.env.scope scope own) (hws : ∀ i ∈ ws, i ∈ own.map (·.2))
    (hg : ∀ s H C cl fp, PG (blkX X scope s H C cl fp) tg g) (ht : ∀ s H C cl fp, PTs (blkX X scope s H C cl fp) ifs tt)
    (hb : ∀ s H C cl fp D, BD (blkX X scope s H C cl fp) (inBody (emit D (blkX X scope s H C cl fp).env) gs[1]? e 0 (.ref D) (blkX X scope s H C cl fp).env) ws (tb D))
    (hfs : ∀ x, foldedSetIterable iter X.env x = pure x) (h : tCo o0 wi g tt tb (own.map (·.2)) σ H Q)
    (hRR : ∀ D C s' m H', Inv X pins σ H' s' → Q (.ref D) H' → s'.heap.Ns C m → FpOk X pins H' C → compPost (model X.prog X.w) X.A X.xe use Qf (.ref D) C (.ok .next) s') :
    wpAny (model X.prog X.w) X.A (comprehension e scope X.env pos' newAcc false (eval iter X.env) use) Qf X.xe s := by
  have hfree : ∀ y ∈ scope.names, y.2 = .free → ∃ c, X.env.cells.lookup y.1 = some c := fun y hy ey => (ok.free y hy ey).elim (fun z => I.ok.has _ (.inl z)) fun z => I.ok.has _ (.inr z)
  obtain ⟨rest, egs⟩ : ∃ rest, gs = ⟨tg, iter, ifs, 0⟩ :: rest := by
    cases gs with
    | nil => cases hk
    | cons c r =>
      have : c = ⟨tg, iter, ifs, 0⟩ := Option.some.inj hk
      exact ⟨r, by rw [this]⟩
  refine wpAny_comprehension_free (use := use) ((hsp 0 X.env).cl.trans egs) hfs (closure_ok hfree) ok.kind (fun y hy ey => by rw [ok.uniq y hy, ey])
    (thn (hi.run pins s σ H _ I h) fun xv s1 hx => thn hx fun itv s2 h2 => ?_)
  obtain ⟨it, fp, tn, J, H2, rfl, I2, T, st2, f2, q⟩ := h2
  refine hnew _ _ _ (newEnv_comp ?_)
  have hDn : H2 s2.heap.objs.size = none := I2.hok.fresh (Nat.le_refl _)
  have cw := q _ hDn
  generalize hD : s2.heap.objs.size = D at cw hDn
  have keep1 : ∀ b o, s2.heap.get? b = some o → (s2.heap.push ob).get? b = some o := fun b o z => Heap.get?_push_of_some _ z
  have I3 : Inv X pins σ (upd H2 D o0) { s2 with heap := s2.heap.push ob } := by
    refine I2.laid (t' := s2.toks) keep1 (Nat.le_of_eq hD) ?_
    rw [← hD]
    exact hob _ s2.heap I2.big
  generalize hs3 : ({ s2 with heap := s2.heap.push ob } : Shared) = s3 at I3
  have h3 : s3.heap = s2.heap.push ob := by rw [← hs3]
  have f3 : ∀ b ∈ fp, FpOk X pins (upd H2 D o0) b ∧ b < s3.heap.objs.size := fun b hb => by
    obtain ⟨o, z, _⟩ := T.obj _ _ st2 b hb
    have lt := Heap.lt_size z
    refine ⟨⟨?_, (f2 b hb).2⟩, by rw [h3, Heap.size_push]; exact Nat.lt_succ_of_lt lt⟩
    rw [upd_ne (by rw [← hD]; exact Nat.ne_of_lt lt)]
    exact (f2 b hb).1
  have I4 := block_start I3 ok hN f3
  have nfp : ∀ b ∈ fp, (upd H2 D o0) b = none := fun b hb => (f3 b hb).1.1
  generalize hcl : cellsFrom (s3.heap.objs.size + 1) scope.names (cloFrom X.env.cells scope.names []) = cl at I4
  have pg := hg s3 (upd H2 D o0) s3.heap.objs.size cl fp
  have pt := ht s3 (upd H2 D o0) s3.heap.objs.size cl fp
  have pb := hb s3 (upd H2 D o0) s3.heap.objs.size cl fp D
  have fB : ∀ b ∈ fp, FpOk (blkX X scope s3 (upd H2 D o0) s3.heap.objs.size cl fp) [] (upd H2 D o0) b := fun b hb =>
    ⟨nfp b hb, (I4.ok.exf b hb).1, I4.ok.exfs b hb, .inl hb, fun x c z => (I4.ok.exf b hb).2 x c z, fun p hp => absurd (show p ∈ ([] : List (Addr × Obj)) ++ [] from hp) (by simp)⟩
  have st4 : tn 0 (pushCells (s3.heap.push { cls := .type "dict", data := .dict #[] }) scope.names) := T.keep _ _ _ st2 fun b _ o z => pushCells_keeps _ _ _ _ (Heap.get?_push_of_some _ (by rw [h3]; exact keep1 _ _ z))
  have lp := loop_cl (X := blkX X scope s3 (upd H2 D o0) s3.heap.objs.size cl fp) (e := e) (k := 0) (pins := []) (σ := σ) hc rfl (hsp D _) hk T pg pt pb hws I4 st4 fB cw
  have lp2 : codeAny (model X.prog X.w) X.A (.compLoop e 0 (.ref it) (.ref D) (compEnvC scope cl s3.heap.objs.size X.env)) (compPost (model X.prog X.w) X.A X.xe use Qf (.ref D) s3.heap.objs.size) { s3 with heap := pushCells (s3.heap.push { cls := .type "dict", data := .dict #[] }) scope.names } := by
    have fin : ∀ H5 s5, Inv (blkX X scope s3 (upd H2 D o0) s3.heap.objs.size cl fp) [] (wipe σ (own.map (·.2))) H5 s5 → Q (.ref D) H5 → compPost (model X.prog X.w) X.A X.xe use Qf (.ref D) s3.heap.objs.size (.ok .next) s5 := fun H5 s5 I5 qq => by
      have I7 : Inv X pins σ H5 s5 := I3.call' (ch := fp) I5.os I5.base I5.hok I5.bare fun b hb => ⟨(f3 b hb).1.2.2.2.1, (f3 b hb).1.2.1, (f3 b hb).1.2.2.2.2.1, (f3 b hb).1.2.2.2.2.2⟩
      have nC : H5 s3.heap.objs.size = none := I5.free
      obtain ⟨m, hn, _⟩ := I5.loc
      exact hRR D s3.heap.objs.size s5 m H5 I7 qq hn (I3.fpOk (Nat.le_refl _) nC)
    refine codeAny_mono lp fun r s5 hr => ?_
    cases r with
    | error x => exact hr.elim
    | ok f =>
      obtain ⟨H5, I5, qq⟩ := hr
      have ef : compPost (model X.prog X.w) X.A X.xe use Qf (.ref D) s3.heap.objs.size (.ok f) s5 = compPost (model X.prog X.w) X.A X.xe use Qf (.ref D) s3.heap.objs.size (.ok .next) s5 := by cases use <;> rfl
      rw [ef]
      exact fin H5 s5 I5 qq
  subst hs3 hD hcl
  exact start_cl (env' := X.env) (hsp _ X.env) hk lp2 (T.self X.A 0 _ _ _ st4 lp2)
/-- a list comprehension -/
theorem new_list {E : Value → Shared → Prop} {Q1 : Value → Shared → Prop} {s1 : Shared} (h : Q1 (.ref s1.heap.objs.size) { s1 with heap := s1.heap.push { cls := .type "list", data := .seq ([] : List Value).toArray } }) :
    wpAny (model X.prog X.w) X.A (newList []) Q1 E s1 := wpAny_newObj_type h (by show 0 ≤ sizeLine; decide)
theorem new_dict {E : Value → Shared → Prop} {Q1 : Value → Shared → Prop} {s1 : Shared} (h : Q1 (.ref s1.heap.objs.size) { s1 with heap := s1.heap.push { cls := .type "dict", data := .dict #[] } }) :
    wpAny (model X.prog X.w) X.A newDict Q1 E s1 := wpAny_newObj_type h
/-- a new dict, for keys of either sort -/
def EmptyD (o0 : HO) : Prop := o0 = .dK [] ∨ o0 = .dT []
theorem EmptyD.ok {o0 : HO} (z : EmptyD o0) (H1 : Hp) (h : Heap) (b : sysModules < h.objs.size) : ObjOk X.prog X.w H1 (h.push { cls := .type "dict", data := .dict #[] }) h.objs.size o0 := by
  rcases z with rfl | rfl
  · exact dk_empty h b
  · exact dt_empty h b
/-- the turns of a list's last clause; of a dict's -/
def tApp (te : TE) (D : Addr) : L2.St → Hp → (Hp → Prop) → Prop := fun σ H Q => te σ H fun y H1 => ∃ ys, H1 D = some (.lst ys) ∧ ys.length < sizeLine ∧ Q (upd H1 D (.lst (ys ++ [y])))
def tPut (tk tv : TE) (D : Addr) : L2.St → Hp → (Hp → Prop) → Prop := fun σ H Q => tk σ H fun y H1 => tv σ H1 fun z H2 => ∃ H3, DPut H2 D y z H3 ∧ Q H3
section
variable {kx vx elt tg iter : Expr} {ifs : List Expr} {rest : List Comprehension} {scope : Scope} {own : List (Str × Nat)} {pos : Pos} {wi : TI} {g : TG} {tt : TT} {tb : Addr → L2.St → Hp → (Hp → Prop) → Prop} {ws : List Nat}
theorem pe_coD {o0 : HO} (z : EmptyD o0) (hc : X.calm = true) (hN : X.N.Nodup) (hi : PI X tg iter wi) (ok : BlkOk X.N X.env.scope scope own) (hws : ∀ i ∈ ws, i ∈ own.map (·.2))
    (hg : ∀ s H C cl fp, PG (blkX X scope s H C cl fp) tg g) (ht : ∀ s H C cl fp, PTs (blkX X scope s H C cl fp) ifs tt)
    (hb : ∀ s H C cl fp D, BD (blkX X scope s H C cl fp) (inBody (do
      let kv ← eval kx (blkX X scope s H C cl fp).env
      let vv ← holding [kv] (eval vx (blkX X scope s H C cl fp).env)
      standAt { kx.pos with endLine := vx.pos.endLine, endCol := vx.pos.endCol }
      holding [kv, vv] (dictSet D kv vv)) (⟨tg, iter, ifs, 0⟩ :: rest)[1]? (.DictComp kx vx (⟨tg, iter, ifs, 0⟩ :: rest) scope pos) 0 (.ref D) (blkX X scope s H C cl fp).env) ws (tb D))
    (hfs : ∀ x, foldedSetIterable iter X.env x = pure x := by intro _; rfl) : PE X (.DictComp kx vx (⟨tg, iter, ifs, 0⟩ :: rest) scope pos) (tCo o0 wi g tt tb (own.map (·.2))) := by
  refine ⟨fun pins s σ H Q I h => ?_⟩
  rw [arm_eval_DictComp]
  refine co_core (emit := fun D env => do
      let kv ← eval kx env
      let vv ← holding [kv] (eval vx env)
      standAt { kx.pos with endLine := vx.pos.endLine, endCol := vx.pos.endCol }
      holding [kv, vv] (dictSet D kv vv)) hc hN I (fun D env => .inr (.inr ⟨kx, vx, scope, pos, D, rfl, rfl, rfl⟩)) rfl (fun E Q1 s1 h1 => new_dict h1) z.ok rfl hi ok hws hg ht hb hfs h fun D C s' m H' I' q hn f => ⟨m, hn, fun h'' sb => ?_⟩
  obtain ⟨f0, f1, f2, f3, f4, f5⟩ := f
  exact ⟨.ref D, H', I'.turned (t' := s'.toks) (fun b o hb z => (sb.2 b hb).trans z) f0 f1 f3 f4 f5, rfl, q⟩
theorem pe_coL (hc : X.calm = true) (hN : X.N.Nodup) (hi : PI X tg iter wi) (ok : BlkOk X.N X.env.scope scope own) (hws : ∀ i ∈ ws, i ∈ own.map (·.2))
    (hg : ∀ s H C cl fp, PG (blkX X scope s H C cl fp) tg g) (ht : ∀ s H C cl fp, PTs (blkX X scope s H C cl fp) ifs tt)
    (hb : ∀ s H C cl fp D, BD (blkX X scope s H C cl fp) (inBody (do let _ ← call (.builtin "list.append") [.ref D, ← eval elt (blkX X scope s H C cl fp).env]) (⟨tg, iter, ifs, 0⟩ :: rest)[1]? (.ListComp elt (⟨tg, iter, ifs, 0⟩ :: rest) scope pos) 0 (.ref D) (blkX X scope s H C cl fp).env) ws (tb D))
    (hfs : ∀ x, foldedSetIterable iter X.env x = pure x := by intro _; rfl) : PE X (.ListComp elt (⟨tg, iter, ifs, 0⟩ :: rest) scope pos) (tCo (.lst []) wi g tt tb (own.map (·.2))) := by
  refine ⟨fun pins s σ H Q I h => ?_⟩
  rw [eval_ListComp]
  refine co_core (o0 := .lst []) (emit := fun D env => do let _ ← call (.builtin "list.append") [.ref D, ← eval elt env]) hc hN I (fun D env => .inl ⟨elt, scope, pos, rfl, rfl⟩) rfl (fun E Q1 s1 h1 => new_list h1)
    (fun H1 h b => ⟨Nat.zero_le _, [], 0, .nil, Heap.get?_push_size _ rfl⟩) rfl hi ok hws hg ht hb hfs h fun D C s' m H' I' q hn f => ⟨m, hn, fun h'' sb => ?_⟩
  obtain ⟨f0, f1, f2, f3, f4, f5⟩ := f
  exact ⟨.ref D, H', I'.turned (t' := s'.toks) (fun b o hb z => (sb.2 b hb).trans z) f0 f1 f3 f4 f5, rfl, q⟩
end
end
end Lw
set_option Elab.async false
set_option linter.all false
set_option maxRecDepth 100000
set_option maxHeartbeats 4000000
/-! comprehensions whose new object is told by its place: sets of ints, with any number of fors -/
namespace Lw
open PySem PySem.Spec PyProof.Rows L2
/-- the reading of a comprehension: D the new object, at first o0; tb what a turn of the first clause does -/
def tCoA (o0 : Addr → HO) (wi : TI) (g : TG) (tt : TT) (tb : Addr → L2.St → Hp → (Hp → Prop) → Prop) (vs : List Nat) : TE := fun σ H Q =>
  wi σ H fun J H1 => ∀ D, H1 D = none → ClW J g tt (tb D) vs σ (upd H1 D (o0 D)) fun H2 => Q (.ref D) H2
section
variable {X : Cx}
theorem co_coreA {e : Expr} {gs : List Comprehension} {tg iter : Expr} {ifs : List Expr} {scope : Scope} {own : List (Str × Nat)} {o0 : Addr → HO} {ob : Obj} {newAcc : Sem Value} {emit : Addr → Env → Sem Unit} {wi : TI} {g : TG} {tt : TT}
    {tb : Addr → L2.St → Hp → (Hp → Prop) → Prop} {ws : List Nat} {pins : List (Addr × Obj)} {s : Shared} {σ : L2.St} {H : Hp} {Q : VK} {pos' : Pos} {use : Option (Value → Sem Unit)} {Qf : Value → Shared → Prop}
    (hc : X.calm = true) (hN : X.N.Nodup) (I : Inv X pins σ H s) (hsp : ∀ D env, CSplit e (.ref D) env gs (emit D env)) (hk : gs[0]? = some ⟨tg, iter, ifs, 0⟩)
    (hnew : ∀ (E : Value → Shared → Prop) (Q1 : Value → Shared → Prop) (s1 : Shared), Q1 (.ref s1.heap.objs.size) { s1 with heap := s1.heap.push ob } → wpAny (model X.prog X.w) X.A newAcc Q1 E s1)
    (hob : ∀ (H1 : Hp) (h : Heap), sysModules < h.objs.size → ObjOk X.prog X.w H1 (h.push ob) h.objs.size (o0 h.objs.size)) (hfz : ob.isFreed = false)
    (hi : PI X tg iter wi) (ok : BlkOk X.N X.env.scope scope own) (hws : ∀ i ∈ ws, i ∈ own.map (·.2))
    (hg : ∀ s H C cl fp, PG (blkX X scope s H C cl fp) tg g) (ht : ∀ s H C cl fp, PTs (blkX X scope s H C cl fp) ifs tt)
    (hb : ∀ s H C cl fp D, BD (blkX X scope s H C cl fp) (inBody (emit D (blkX X scope s H C cl fp).env) gs[1]? e 0 (.ref D) (blkX X scope s H C cl fp).env) ws (tb D))
    (hfs : ∀ x, foldedSetIterable iter X.env x = pure x) (h : tCoA o0 wi g tt tb (own.map (·.2)) σ H Q)
    (hRR : ∀ D C s' m H', Inv X pins σ H' s' → Q (.ref D) H' → s'.heap.Ns C m → FpOk X pins H' C → compPost (model X.prog X.w) X.A X.xe use Qf (.ref D) C (.ok .next) s') :
    wpAny (model X.prog X.w) X.A (comprehension e scope X.env pos' newAcc false (eval iter X.env) use) Qf X.xe s := by
  have hfree : ∀ y ∈ scope.names, y.2 = .free → ∃ c, X.env.cells.lookup y.1 = some c := fun y hy ey => (ok.free y hy ey).elim (fun z => I.ok.has _ (.inl z)) fun z => I.ok.has _ (.inr z)
  obtain ⟨rest, egs⟩ : ∃ rest, gs = ⟨tg, iter, ifs, 0⟩ :: rest := by
    cases gs with
    | nil => cases hk
    | cons c r =>
      have : c = ⟨tg, iter, ifs, 0⟩ := Option.some.inj hk
      exact ⟨r, by rw [this]⟩
  refine wpAny_comprehension_free (use := use) ((hsp 0 X.env).cl.trans egs) hfs (closure_ok hfree) ok.kind (fun y hy ey => by rw [ok.uniq y hy, ey])
    (thn (hi.run pins s σ H _ I h) fun xv s1 hx => thn hx fun itv s2 h2 => ?_)
  obtain ⟨it, fp, tn, J, H2, rfl, I2, T, st2, f2, q⟩ := h2
  refine hnew _ _ _ (newEnv_comp ?_)
  have hDn : H2 s2.heap.objs.size = none := I2.hok.fresh (Nat.le_refl _)
  have cw := q _ hDn
  generalize hD : s2.heap.objs.size = D at cw hDn
  have keep1 : ∀ b o, s2.heap.get? b = some o → (s2.heap.push ob).get? b = some o := fun b o z => Heap.get?_push_of_some _ z
  have I3 : Inv X pins σ (upd H2 D (o0 D)) { s2 with heap := s2.heap.push ob } := by
    refine I2.laid (t' := s2.toks) keep1 (Nat.le_of_eq hD) ?_
    rw [← hD]
    exact hob _ s2.heap I2.big
  generalize hs3 : ({ s2 with heap := s2.heap.push ob } : Shared) = s3 at I3
  have h3 : s3.heap = s2.heap.push ob := by rw [← hs3]
  have f3 : ∀ b ∈ fp, FpOk X pins (upd H2 D (o0 D)) b ∧ b < s3.heap.objs.size := fun b hb => by
    obtain ⟨o, z, _⟩ := T.obj _ _ st2 b hb
    have lt := Heap.lt_size z
    refine ⟨⟨?_, (f2 b hb).2⟩, by rw [h3, Heap.size_push]; exact Nat.lt_succ_of_lt lt⟩
    rw [upd_ne (by rw [← hD]; exact Nat.ne_of_lt lt)]
    exact (f2 b hb).1
  have I4 := block_start I3 ok hN f3
  have nfp : ∀ b ∈ fp, (upd H2 D (o0 D)) b = none := fun b hb => (f3 b hb).1.1
  generalize hcl : cellsFrom (s3.heap.objs.size + 1) scope.names (cloFrom X.env.cells scope.names []) = cl at I4
  have pg := hg s3 (upd H2 D (o0 D)) s3.heap.objs.size cl fp
  have pt := ht s3 (upd H2 D (o0 D)) s3.heap.objs.size cl fp
  have pb := hb s3 (upd H2 D (o0 D)) s3.heap.objs.size cl fp D
  have fB : ∀ b ∈ fp, FpOk (blkX X scope s3 (upd H2 D (o0 D)) s3.heap.objs.size cl fp) [] (upd H2 D (o0 D)) b := fun b hb =>
    ⟨nfp b hb, (I4.ok.exf b hb).1, I4.ok.exfs b hb, .inl hb, fun x c z => (I4.ok.exf b hb).2 x c z, fun p hp => absurd (show p ∈ ([] : List (Addr × Obj)) ++ [] from hp) (by simp)⟩
  have st4 : tn 0 (pushCells (s3.heap.push { cls := .type "dict", data := .dict #[] }) scope.names) := T.keep _ _ _ st2 fun b _ o z => pushCells_keeps _ _ _ _ (Heap.get?_push_of_some _ (by rw [h3]; exact keep1 _ _ z))
  have lp := loop_cl (X := blkX X scope s3 (upd H2 D (o0 D)) s3.heap.objs.size cl fp) (e := e) (k := 0) (pins := []) (σ := σ) hc rfl (hsp D _) hk T pg pt pb hws I4 st4 fB cw
  have lp2 : codeAny (model X.prog X.w) X.A (.compLoop e 0 (.ref it) (.ref D) (compEnvC scope cl s3.heap.objs.size X.env)) (compPost (model X.prog X.w) X.A X.xe use Qf (.ref D) s3.heap.objs.size) { s3 with heap := pushCells (s3.heap.push { cls := .type "dict", data := .dict #[] }) scope.names } := by
    have fin : ∀ H5 s5, Inv (blkX X scope s3 (upd H2 D (o0 D)) s3.heap.objs.size cl fp) [] (wipe σ (own.map (·.2))) H5 s5 → Q (.ref D) H5 → compPost (model X.prog X.w) X.A X.xe use Qf (.ref D) s3.heap.objs.size (.ok .next) s5 := fun H5 s5 I5 qq => by
      have I7 : Inv X pins σ H5 s5 := I3.call' (ch := fp) I5.os I5.base I5.hok I5.bare fun b hb => ⟨(f3 b hb).1.2.2.2.1, (f3 b hb).1.2.1, (f3 b hb).1.2.2.2.2.1, (f3 b hb).1.2.2.2.2.2⟩
      have nC : H5 s3.heap.objs.size = none := I5.free
      obtain ⟨m, hn, _⟩ := I5.loc
      exact hRR D s3.heap.objs.size s5 m H5 I7 qq hn (I3.fpOk (Nat.le_refl _) nC)
    refine codeAny_mono lp fun r s5 hr => ?_
    cases r with
    | error x => exact hr.elim
    | ok f =>
      obtain ⟨H5, I5, qq⟩ := hr
      have ef : compPost (model X.prog X.w) X.A X.xe use Qf (.ref D) s3.heap.objs.size (.ok f) s5 = compPost (model X.prog X.w) X.A X.xe use Qf (.ref D) s3.heap.objs.size (.ok .next) s5 := by cases use <;> rfl
      rw [ef]
      exact fin H5 s5 I5 qq
  subst hs3 hD hcl
  exact start_cl (env' := X.env) (hsp _ X.env) hk lp2 (T.self X.A 0 _ _ _ st4 lp2)
/-- the store of a set's last clause -/
def tAddC (w : World) (te : TE) (D : Addr) : L2.St → Hp → (Hp → Prop) → Prop := fun σ H Q => te σ H fun y H1 => ∃ (k : Int) (S : Int → Bool) (n : Nat), y = .int k ∧ H1 D = some (SetO w D S n) ∧ n + 1 < scanBound ∧
  Q (upd H1 D (SetO w D (fun j => S j || decide (j = k)) (if S k = true then n else n + 1)))
theorem bd_set {elt : Expr} {D : Addr} {te : TE} (hxe : X.xe = fun _ _ => False) (he : PE X elt te) :
    BD X (do let v ← eval elt X.env; standAt elt.pos; let _ ← call (.builtin "set.add") [.ref D, v]) [] (tAddC X.w te D) := by
  refine ⟨fun pins s σ H Q I h => ?_⟩
  have a1 := he.run pins s σ H _ I h
  rw [hxe] at a1
  refine wpAny_bind (thnF a1 fun v s1 ⟨y, H1, I1, r1, k, S, n, ey, hD, hz, q⟩ => wpAny_bind (wpAny_standAt (wpAny_bind ?_)))
  subst ey
  have a2 := mt_sadd pins s1 σ H1 (.ref D) [.int k] (.ref D) [v] (fun _ H' => Q H') I1 rfl (.cons r1 .nil) ⟨D, k, S, n, rfl, rfl, hD, hz, q⟩
  rw [hxe] at a2
  refine thnF a2 fun _ s2 ⟨_, H2, I2, _, q2⟩ => ?_
  exact wpAny_pure ⟨H2, I2, q2⟩
section
variable {elt tg iter : Expr} {ifs : List Expr} {rest : List Comprehension} {scope : Scope} {own : List (Str × Nat)} {pos : Pos} {wi : TI} {g : TG} {tt : TT} {tb : Addr → L2.St → Hp → (Hp → Prop) → Prop} {ws : List Nat}
theorem pe_coS (hc : X.calm = true) (hN : X.N.Nodup) (hi : PI X tg iter wi) (ok : BlkOk X.N X.env.scope scope own) (hws : ∀ i ∈ ws, i ∈ own.map (·.2))
    (hg : ∀ s H C cl fp, PG (blkX X scope s H C cl fp) tg g) (ht : ∀ s H C cl fp, PTs (blkX X scope s H C cl fp) ifs tt)
    (hb : ∀ s H C cl fp D, BD (blkX X scope s H C cl fp) (inBody (do let v ← eval elt (blkX X scope s H C cl fp).env; standAt elt.pos; let _ ← call (.builtin "set.add") [.ref D, v]) (⟨tg, iter, ifs, 0⟩ :: rest)[1]? (.SetComp elt (⟨tg, iter, ifs, 0⟩ :: rest) scope pos) 0 (.ref D) (blkX X scope s H C cl fp).env) ws (tb D))
    (hfs : ∀ x, foldedSetIterable iter X.env x = pure x := by intro _; rfl) : PE X (.SetComp elt (⟨tg, iter, ifs, 0⟩ :: rest) scope pos) (tCoA (fun D => SetO X.w D (fun _ => false) 0) wi g tt tb (own.map (·.2))) := by
  refine ⟨fun pins s σ H Q I h => ?_⟩
  rw [PpSet.eval_SetComp]
  refine co_coreA (o0 := fun D => SetO X.w D (fun _ => false) 0) (emit := fun D env => do let v ← eval elt env; standAt elt.pos; let _ ← call (.builtin "set.add") [.ref D, v]) hc hN I (fun D env => .inr (.inl ⟨elt, scope, pos, rfl, rfl⟩)) rfl (fun E Q1 s1 h1 => PpSet.newSet_ok h1)
    (fun H1 h b => setO_new (setR_fresh X.w)) rfl hi ok hws hg ht hb hfs h fun D C s' m H' I' q hn f => ⟨m, hn, fun h'' sb => ?_⟩
  obtain ⟨f0, f1, f2, f3, f4, f5⟩ := f
  exact ⟨.ref D, H', I'.turned (t' := s'.toks) (fun b o hb z => (sb.2 b hb).trans z) f0 f1 f3 f4 f5, rfl, q⟩
end
end
end Lw
set_option autoImplicit false
set_option Elab.async false
set_option linter.all false
set_option maxRecDepth 100000
set_option maxHeartbeats 2000000
/-! own objects written; comprehensions -/
namespace Dl
open PySem PySem.Spec PyProof.Rows L2 LamX
section
variable {g : Gm} {lk : List Addr} {β σ : Sg} {F H : Hp} {ρ ρ' : Rho} {ts us : Ts}
theorem heap_of_size : ∀ n : Nat, ∃ h : Heap, h.objs.size = n
  | 0 => ⟨{ objs := #[] }, rfl⟩
  | n + 1 => by
    obtain ⟨h, e⟩ := heap_of_size n
    exact ⟨h.push { cls := .none, data := .fields #[] }, by rw [Heap.size_push, e]⟩
theorem code_ne_set {a : Addr} {q : Str} {w : World} {S : Int → Bool} {n : Nat} : CodeO a q ≠ SetO w a S n := fun e => by
  obtain ⟨h, hs⟩ := heap_of_size a
  have e : (fun h : Heap => ∃ (oc : Obj) (vs : Array Value) (t : Tok), h.get? a = some oc ∧ oc.data = .fields vs ∧ vs[1]? = some (.str q t)) = fun h => SetR w h a S n := HO.ext.inj e
  have g : (h.push { cls := .none, data := .fields #[.none, .str q 0] }).get? a = some { cls := .none, data := .fields #[.none, .str q 0] } := by
    rw [← hs]
    exact Heap.get?_push_size _ rfl
  have r := cast (congrFun e (h.push { cls := .none, data := .fields #[.none, .str q 0] })) ⟨_, _, 0, g, rfl, rfl⟩
  obtain ⟨o, es, ep, t, ho, _, hd, _⟩ := r
  rw [g] at ho
  cases ho
  cases hd
theorem Tabs.write {T : List (Addr × Str)} {a : Addr} {u o : HO} (t : Tabs T H) (h : H a = some u) (n1 : ∀ ps, u ≠ .tbl ps) (n2 : ∀ q, u ≠ CodeO a q) : Tabs T (upd H a o) := fun p hp => by
  obtain ⟨ps, h1, h2, h3⟩ := t p hp
  have ne : ∀ b w, H b = some w → (b = a → w ≠ u) → upd H a o b = some w := fun b w e n => by
    rw [upd_ne (fun z => n z (by rw [z, h] at e; exact (Option.some.inj e).symm))]
    exact e
  refine ⟨ps, ne _ _ h1 (fun _ z => n1 ps z.symm), h2, fun pos cv hc => ?_⟩
  obtain ⟨c, e1, e2⟩ := h3 pos cv hc
  exact ⟨c, e1, ne _ _ e2 (fun eb z => n2 p.2 (by rw [← eb]; exact z.symm))⟩
theorem OwnD.kind {K : PySem.W.Frag} {a : Addr} {d : D} (x : OwnD K F H a d) : ∃ u, H a = some u ∧ (∀ ps, u ≠ .tbl ps) ∧ (∀ q, u ≠ CodeO a q) := by
  cases d with
  | lst ds => obtain ⟨vs, e, z, r⟩ := x; exact ⟨_, e, (fun _ q => nomatch q), fun _ q => nomatch q⟩
  | dk ds => obtain ⟨vs, e, z, k, r⟩ := x; exact ⟨_, e, (fun _ q => nomatch q), fun _ q => nomatch q⟩
  | dt ds => obtain ⟨vs, e, z, k, r⟩ := x; exact ⟨_, e, (fun _ q => nomatch q), fun _ q => nomatch q⟩
  | ins C ds => obtain ⟨dx, vs, e, k, r⟩ := x; exact ⟨_, e, (fun _ q => nomatch q), fun _ q => nomatch q⟩
  | set w S n => exact ⟨_, x, (fun _ q => nomatch q), fun _ q => code_ne_set q.symm⟩
  | _ => exact x.elim
theorem Core.write (c : Core g lk F H) {a : Addr} {d : D} {o : HO} (w : Own g F H a d) : Core g lk F (upd H a o) := by
  obtain ⟨u, hu, n1, n2⟩ := w.at_.kind
  refine ⟨fun b v e => ?_, c.ent, fun b v h1 h2 h3 => ?_, c.mu, ⟨fun b e => ?_, Tabs.write c.iv.tab hu n1 n2⟩, fun b v e => ?_⟩
  · rw [upd_ne (fun z => by rw [z, w.out] at e; cases e)]
    exact c.sub b v e
  · obtain ⟨e1, e2⟩ := c.keep b v h1 h2 h3
    exact ⟨e1, by rw [upd_ne (fun z => by rw [z, w.new] at h1; cases h1)]; exact e2⟩
  · obtain ⟨x, y, h1, r⟩ := c.iv.pot b e
    have nb : b ≠ a := fun z => w.mu (.inl (by rw [← z]; exact e))
    exact ⟨x, y, by rw [upd_ne nb]; exact h1, r⟩
  · obtain ⟨v', e'⟩ := c.ev b v e
    by_cases eb : b = a
    · subst eb; exact ⟨_, upd_same⟩
    · exact ⟨v', by rw [upd_ne eb]; exact e'⟩
theorem ROk.write {x : V} {r : R} {a : Addr} {o : HO} (n : ∀ d, x = .ref a → r ≠ .o d) (q : ROk g β F H x r) : ROk g β F (upd H a o) x r := by
  cases r with
  | z d => exact q
  | b i => exact q
  | p => exact q
  | o d =>
    obtain ⟨b, e, n1, n2, n3, n4⟩ := q
    have eb : b ≠ a := fun z => n d (by rw [e, z]) rfl
    exact ⟨b, e, n1, n2, n3, n4.le (Le.refl F) fun u hu => by rw [upd_ne eb]; exact hu⟩
/-- a temporary's own object is changed -/
theorem AtF.writeT {a : Addr} {d d' : D} {o : HO} (A : AtF g lk β F σ ρ (ts ++ (.ref a, .o d) :: us) H) (h : OwnD g.K F (upd H a o) a d') : AtF g lk β F σ ρ (ts ++ (.ref a, .o d') :: us) (upd H a o) := by
  obtain ⟨b, eb, w⟩ := A.tmp (.ref a, .o d) mem_mid
  cases eb
  obtain ⟨n1, n2⟩ := A.other
  refine ⟨A.core.write w, A.len, fun i r hr => ?_, fun c hc => ?_, A.link, ?_⟩
  · obtain ⟨nb, x, h1, h2⟩ := A.slot i r hr
    exact ⟨nb, x, h1, h2.write fun d'' ex er => n1 _ (slot_mem h1 hr) d'' (by rw [ex, er])⟩
  · rcases List.mem_append.mp hc with hc | hc
    · exact (A.tmp c (List.mem_append_left _ hc)).write fun d'' ex er => n1 _ (tcell_mem hc) d'' (by unfold tcell; rw [ex, er])
    · rcases List.mem_cons.mp hc with rfl | hc
      · exact ⟨a, rfl, w.new, w.out, w.mu, h⟩
      · exact (A.tmp c (List.mem_append_right _ (List.mem_cons_of_mem _ hc))).write fun d'' ex er => n2 _ (List.mem_map.mpr ⟨c, hc, rfl⟩) d'' (by unfold tcell; rw [ex, er])
  · have dd := A.dis
    rw [cells_mid, List.pairwise_append] at dd ⊢
    obtain ⟨d1, d2, d3⟩ := dd
    obtain ⟨d4, d5⟩ := List.pairwise_cons.mp d2
    refine ⟨d1, .cons (fun c hc b e e' h1 h2 => ?_) d5, fun c hc c' hc' => ?_⟩
    · cases h1
      exact n2 c hc e' h2
    · rcases List.mem_cons.mp hc' with rfl | hc'
      · intro b e e' h1 h2
        cases h2
        exact n1 c hc e h1
      · exact d3 c hc c' (List.mem_cons_of_mem _ hc')
theorem pw_set2 {α : Type} {P : α → α → Prop} (sy : ∀ a b, P a b → P b a) : ∀ {xs : List α} {c : α} (i : Nat), xs.Pairwise P → (∀ (j : Nat) y, j ≠ i → xs[j]? = some y → P c y) → (xs.set i c).Pairwise P
  | [], _, _, _, _ => .nil
  | x :: xs, c, 0, h, hc => by
    rw [List.set_cons_zero]
    exact .cons (fun y hy => by
      obtain ⟨j, hj, e⟩ := List.getElem_of_mem hy
      exact hc (j + 1) y (by omega) (by rw [List.getElem?_cons_succ, List.getElem?_eq_getElem hj, e])) (List.pairwise_cons.mp h).2
  | x :: xs, c, i + 1, h, hc => by
    rw [List.set_cons_succ]
    obtain ⟨h1, h2⟩ := List.pairwise_cons.mp h
    refine .cons (fun y hy => ?_) (pw_set2 sy i h2 fun j y hj e => hc (j + 1) y (by omega) (by simpa using e))
    rcases List.mem_or_eq_of_mem_set hy with hy | rfl
    · exact h1 y hy
    · exact sy _ _ (hc 0 x (by omega) rfl)
/-- a slot's own object is changed -/
theorem AtF.writeS {i : Nat} {a : Addr} {d d' : D} {o : HO} (A : AtF g lk β F σ ρ ts H) (hs : σ[i]? = some (some (.ref a))) (hr : ρ[i]? = some (some (.o d))) (h : OwnD g.K F (upd H a o) a d') : AtF g lk β F σ (ρ.set i (some (.o d'))) ts (upd H a o) := by
  obtain ⟨_, x, h1, b, eb, w⟩ := A.slot i _ hr
  rw [hs] at h1
  cases h1
  cases eb
  have hi : i < σ.length := (List.getElem?_eq_some_iff.mp hs).1
  have dd := A.dis
  have nS : ∀ j r, j ≠ i → ρ[j]? = some (some r) → ∀ x, σ[j]? = some (some x) → ∀ d'', x = .ref a → r ≠ .o d'' := fun j r hj hr' x hx d'' ex er => by
    subst ex er
    unfold cells at dd
    have dz := (List.pairwise_append.mp dd).1
    have g1 : (σ.zip ρ)[i]? = some (some (.ref a), some (.o d)) := by rw [List.getElem?_zip_eq_some]; exact ⟨hs, hr⟩
    have g2 : (σ.zip ρ)[j]? = some (some (.ref a), some (.o d'')) := by rw [List.getElem?_zip_eq_some]; exact ⟨hx, hr'⟩
    rw [List.pairwise_iff_getElem] at dz
    obtain ⟨li, e1⟩ := List.getElem?_eq_some_iff.mp g1
    obtain ⟨lj, e2⟩ := List.getElem?_eq_some_iff.mp g2
    rcases Nat.lt_or_gt_of_ne hj with h | h
    · exact dz j i lj li h a d'' d e2 e1
    · exact dz i j li lj h a d d'' e1 e2
  have nT : ∀ c ∈ ts, ∀ d'', c.1 = .ref a → c.2 ≠ .o d'' := fun c hc d'' ex er => by
    unfold cells at dd
    exact (List.pairwise_append.mp dd).2.2 _ (List.mem_iff_getElem?.mpr ⟨i, by rw [List.getElem?_zip_eq_some]; exact ⟨hs, hr⟩⟩) (tcell c) (List.mem_map.mpr ⟨c, hc, rfl⟩) a d d'' rfl (by unfold tcell; rw [ex, er])
  refine ⟨A.core.write w, by simp [A.len], fun j r hj => ?_, fun c hc => (A.tmp c hc).write (nT c hc), fun j e hj => ?_, ?_⟩
  · rcases get_set hj with ⟨rfl, e⟩ | ⟨nj, e⟩
    · cases e
      exact ⟨rfl, _, hs, a, rfl, w.new, w.out, w.mu, h⟩
    · obtain ⟨nb, x, h1, h2⟩ := A.slot j r e
      exact ⟨nb, x, h1, h2.write (nS j r nj e x h1)⟩
  · rcases get_set hj with ⟨rfl, _⟩ | ⟨nj, e'⟩
    · exact A.link _ d hr
    · exact A.link j e e'
  · rw [cells_setR hs A.len]
    refine pw_set2 (fun _ _ h => h.symm) i dd fun j y hj hy b e e' h1 h2 => ?_
    cases h1
    subst h2
    unfold cells at hy
    rw [List.getElem?_append] at hy
    split at hy
    · rw [List.getElem?_zip_eq_some] at hy
      exact nS j _ hj hy.2 _ hy.1 e' rfl rfl
    · have := List.mem_of_getElem? hy
      obtain ⟨c, hc, ec⟩ := List.mem_map.mp this
      unfold tcell at ec
      cases ec' : c with
      | mk v r =>
        rw [ec'] at ec
        simp only [Prod.mk.injEq, Option.some.injEq] at ec
        exact nT c hc e' (by rw [ec']; exact ec.1) (by rw [ec']; exact ec.2)
end
/-! ### blocks -/
def wipeR (ρ : Rho) : List Nat → Rho
  | [] => ρ
  | v :: vs => (wipeR ρ vs).set v none
theorem wipeR_length (ρ : Rho) : ∀ vs : List Nat, (wipeR ρ vs).length = ρ.length
  | [] => rfl
  | v :: vs => by unfold wipeR; rw [List.length_set, wipeR_length ρ vs]
theorem wipeR_some {ρ : Rho} {i : Nat} {x : R} : ∀ {vs : List Nat}, (wipeR ρ vs)[i]? = some (some x) → ρ[i]? = some (some x) ∧ i ∉ vs
  | [], h => ⟨h, by simp⟩
  | v :: vs, h => by
    unfold wipeR at h
    rcases get_set h with ⟨_, e⟩ | ⟨hi, e⟩
    · cases e
    · obtain ⟨h1, h2⟩ := wipeR_some e
      exact ⟨h1, by simp only [List.mem_cons, not_or]; exact ⟨hi, h2⟩⟩
theorem wipe_out' {σ : Sg} {j : Nat} : ∀ {vs : List Nat}, j ∉ vs → (wipe σ vs)[j]? = σ[j]?
  | [], _ => rfl
  | v :: vs, h => by
    unfold wipe
    rw [List.getElem?_set_ne (fun e => h (by simp [e])), wipe_out' (fun z => h (by simp [z]))]
section
variable {g : Gm} {lk : List Addr} {β σ τ : Sg} {F H : Hp} {ρ ρ' : Rho} {ts us : Ts}
/-- the slots at vs forgotten, the others as they are -/
theorem AtF.wipe (A : AtF g lk β F σ ρ ts H) {vs : List Nat} (hl : τ.length = σ.length) (h : ∀ (j : Nat), j ∉ vs → τ[j]? = σ[j]?) : AtF g lk β F τ (wipeR ρ vs) ts H := by
  refine ⟨A.core, by rw [wipeR_length, hl]; exact A.len, fun i r e => ?_, A.tmp, fun i d e => ?_, ?_⟩
  · obtain ⟨e1, e2⟩ := wipeR_some e
    obtain ⟨nb, x, h1, h2⟩ := A.slot i r e1
    exact ⟨nb, x, by rw [h i e2]; exact h1, h2⟩
  · obtain ⟨e1, e2⟩ := wipeR_some e
    rw [h i e2]
    exact A.link i d e1
  · have dd := A.dis
    unfold cells at dd ⊢
    rw [List.pairwise_append] at dd ⊢
    obtain ⟨d1, d2, d3⟩ := dd
    have back : ∀ (i : Nat) (c : Cell) a d, (τ.zip (wipeR ρ vs))[i]? = some c → c = (some (.ref a), some (.o d)) → (σ.zip ρ)[i]? = some c := fun i c a d e ec => by
      subst ec
      rw [List.getElem?_zip_eq_some] at e ⊢
      obtain ⟨e1, e2⟩ := wipeR_some e.2
      exact ⟨by rw [← h i e2]; exact e.1, e1⟩
    refine ⟨?_, d2, fun c hc c' hc' a d d' e e' => ?_⟩
    · rw [List.pairwise_iff_getElem] at d1 ⊢
      intro i j hi hj hij a d d' e e'
      have g1 := back i _ a d (List.getElem?_eq_getElem hi) e
      have g2 := back j _ a d' (List.getElem?_eq_getElem hj) e'
      obtain ⟨li, f1⟩ := List.getElem?_eq_some_iff.mp g1
      obtain ⟨lj, f2⟩ := List.getElem?_eq_some_iff.mp g2
      exact d1 i j li lj hij a d d' (by rw [f1]; exact e) (by rw [f2]; exact e')
    · obtain ⟨i, hi, ei⟩ := List.getElem_of_mem hc
      have g1 := back i c a d (by rw [List.getElem?_eq_getElem hi, ei]) e
      exact d3 c (List.mem_of_getElem? g1) c' hc' a d d' e e'
end
/-- what a block does: from the slots and what is collected -/
abbrev TDB := Rho → D → (Rho → D → Prop) → Prop
def liftB (X : Cx) (ws : List Nat) (t : TDB) (a : Addr) : L2.St → Hp → (Hp → Prop) → Prop := fun σ H Q => ∃ g lk β ρ ts us d Qd, g.K = X.K ∧ At g lk β σ ρ (ts ++ (.ref a, .o d) :: us) H ∧ t ρ d Qd ∧ ∀ ρ' d' H', At g lk β (L2.wipe σ ws) ρ' (ts ++ (.ref a, .o d') :: us) H' → Qd ρ' d' → Q H'
/-- the turns of a clause -/
def lcD (vs : List Nat) (tg : TDG) (tt : TDT) (tb : TDB) : List D → Rho → D → (Rho → D → Prop) → Prop
  | [], ρ, acc, Q => Q (wipeR ρ vs) acc
  | d :: ds, ρ, acc, Q => tg d (wipeR ρ vs) fun ρ1 => tt ρ1 fun ρ2 b => if b = true then tb ρ2 acc fun ρ3 acc' => lcD vs tg tt tb ds ρ3 acc' Q else lcD vs tg tt tb ds ρ2 acc Q
def dCl (ti : TDI) (tg : TDG) (tt : TDT) (tb : TDB) (vs : List Nat) : TDB := fun ρ acc Q => ti ρ fun ρ1 ds => lcD vs tg tt tb ds ρ1 acc Q
theorem wipe_wipe {σ τ : L2.St} {ws vs : List Nat} (hs : ∀ i ∈ ws, i ∈ vs) (e : L2.wipe σ vs = L2.wipe τ vs) : ∀ (j : Nat), j ∉ vs → (L2.wipe τ vs)[j]? = (L2.wipe σ ws)[j]? := fun j hj => by
  rw [← e, wipe_out' hj, wipe_out' fun z => hj (hs j z)]
theorem wipe_same {σ τ : L2.St} {vs : List Nat} (hl : τ.length = σ.length) (h : ∀ (j : Nat), j ∉ vs → τ[j]? = σ[j]?) : L2.wipe τ vs = L2.wipe σ vs := by
  refine List.ext_getElem? fun j => ?_
  by_cases hj : j ∈ vs
  · have e : ∀ {τ : L2.St} {us : List Nat}, j ∈ us → (L2.wipe τ us)[j]? = if j < τ.length then some none else none := by
      intro τ us
      induction us with
      | nil => intro h; cases h
      | cons v us ih =>
        intro h
        unfold L2.wipe
        by_cases ev : v = j
        · subst ev
          by_cases hl : v < τ.length
          · rw [List.getElem?_set_self (by rw [L2.wipe_length]; exact hl), if_pos hl]
          · rw [List.getElem?_eq_none (by rw [List.length_set, L2.wipe_length]; omega), if_neg hl]
        · rw [List.getElem?_set_ne ev]
          exact ih ((List.mem_cons.mp h).resolve_left fun z => ev z.symm)
    rw [e hj, e hj, hl]
  · rw [wipe_out' hj, wipe_out' hj, h j hj]
section
variable {X : Cx} {J : It} {tg : TDG} {tt : TDT} {tb : TDB} {vs ws ss : List Nat}
/-- a clause's turns by its data -/
theorem clW_of (hws : ∀ i ∈ ws, i ∈ vs) (hss : ∀ i ∈ ss, i ∈ vs) {g : Gm} {lk : List Addr} {β : Sg} {σ : L2.St} {ρ : Rho} {ts us : Ts} {a : Addr} {acc : D} {ds : List D} {cs : Ts} {H : Hp} {Qd : Rho → D → Prop} {Q : Hp → Prop} (hK : g.K = X.K) (sv : Serves g J ds cs)
    (A : At g lk β σ ρ (ts ++ (.ref a, .o acc) :: us ++ cs) H) (t : lcD vs tg tt tb ds ρ acc Qd)
    (q : ∀ ρ' d' H', At g lk β (L2.wipe σ vs) ρ' (ts ++ (.ref a, .o d') :: us) H' → Qd ρ' d' → Q H') :
    Lw.ClW J (liftG X ss tg) (liftT X tt) (liftB X ws tb a) vs σ H Q := by
  refine ⟨fun i m H1 => m = ds.length - i ∧ i ≤ ds.length ∧ ∃ ρ1 acc1, At g lk β (L2.wipe σ vs) (wipeR ρ1 vs) (ts ++ (.ref a, .o acc1) :: us ++ cs) H1 ∧ lcD vs tg tt tb (ds.drop i) ρ1 acc1 Qd, ⟨ds.length, by simp, Nat.zero_le _, ρ, acc, ?_, t⟩, ?_⟩
  · obtain ⟨F, A⟩ := A
    exact ⟨F, A.wipe (L2.wipe_length _ _) fun j hj => wipe_out' hj⟩
  · rintro i m H1 ⟨rfl, hi, ρ1, acc1, A1, t1⟩
    by_cases hlt : i < ds.length
    · have hd : ds[i]? = some ds[i] := List.getElem?_eq_getElem hlt
      rw [List.drop_eq_getElem_cons hlt] at t1
      obtain ⟨go, yl⟩ := sv.go lk β _ _ _ H1 i _ A1 hd
      refine .inr ⟨go, fun H2 => ∃ ρ2 acc2, At g lk β (L2.wipe σ vs) (wipeR ρ2 vs) (ts ++ (.ref a, .o acc2) :: us ++ cs) H2 ∧ lcD vs tg tt tb (ds.drop (i + 1)) ρ2 acc2 Qd, fun H2 ⟨ρ2, acc2, A2, t2⟩ => ⟨ds.length - (i + 1), by omega, rfl, hlt, ρ2, acc2, A2, t2⟩, fun x H2 y => ?_⟩
      refine ⟨g, lk, β, _, _, _, _, hK, yl x H2 y, t1, fun ρ3 σ3 H3 A3 l3 k3 t3 => ?_⟩
      have ew : L2.wipe σ3 vs = L2.wipe σ vs := by
        rw [L2.wipe_length] at l3
        refine wipe_same l3 fun j hj => ?_
        rw [k3 j fun z => hj (hss j z), wipe_out' hj]
      refine ⟨ew, g, lk, β, ρ3, _, _, hK, A3, t3, fun ρ4 b H4 A4 t4 => ?_⟩
      cases b with
      | true =>
        refine iteT ?_
        refine ⟨g, lk, β, ρ4, ts, us ++ cs, acc1, _, hK, by simpa using A4, t4, fun ρ5 d5 H5 ⟨F5, A5⟩ t5 => ⟨ρ5, d5, ?_, t5⟩⟩
        have A6 := A5.wipe (τ := L2.wipe σ vs) (vs := vs) (by rw [← ew, L2.wipe_length, L2.wipe_length]) (wipe_wipe hws ew)
        exact ⟨F5, by simpa using A6⟩
      | false =>
        refine iteF ⟨ρ4, acc1, ?_, t4⟩
        obtain ⟨F4, A4⟩ := A4
        exact ⟨F4, A4.wipe (by rw [← ew, L2.wipe_length]) fun j hj => by rw [← ew, wipe_out' hj]⟩
    · have e : i = ds.length := by omega
      subst e
      rw [List.drop_length] at t1
      exact .inl ⟨sv.stop lk β _ _ _ H1 A1, q _ _ _ (A1.sub (List.sublist_append_left _ _)) t1⟩
/-- a further clause -/
theorem lift_cl {ti : TDI} (hws : ∀ i ∈ ws, i ∈ vs) (hss : ∀ i ∈ ss, i ∈ vs) {a : Addr} {σ : L2.St} {H : Hp} {Q : Hp → Prop} (h : liftB X vs (dCl ti tg tt tb vs) a σ H Q) :
    Lw.tCl (liftI X ti) (liftG X ss tg) (liftT X tt) (liftB X ws tb a) vs σ H Q := by
  obtain ⟨g, lk, β, ρ, ts, us, d, Qd, hK, A, t, q⟩ := h
  exact ⟨g, lk, β, ρ, _, _, hK, A, t, fun ρ1 ds cs J H1 A1 sv t1 => clW_of hws hss hK sv A1 t1 q⟩
end
abbrev BDD (X : Cx) (B : PySem.Sem Unit) (ws : List Nat) (t : TDB) (a : Addr) : Prop := Lw.BD X B ws (liftB X ws t a)
theorem BD.weak {X : Cx} {B : PySem.Sem Unit} {ws : List Nat} {t t' : L2.St → Hp → (Hp → Prop) → Prop} (h : Lw.BD X B ws t) (w : ∀ σ H Q, t' σ H Q → t σ H Q) : Lw.BD X B ws t' := ⟨fun pins s σ H Q I q => h.run pins s σ H Q I (w _ _ _ q)⟩
abbrev PDTs (X : Cx) (ifs : List Expr) (t : TDT) : Prop := PTs X ifs (liftT X t)
theorem PTs.weak {X : Cx} {e : List Expr} {t t' : TT} (h : PTs X e t) (w : ∀ σ H Q, t' σ H Q → t σ H Q) : PTs X e t' := ⟨fun pins s σ H Q I q => h.run pins s σ H Q I (w σ H Q q)⟩
def dYes : TDT := fun ρ Q => Q ρ true
theorem pdts_nil {X : Cx} : PDTs X [] dYes := PTs.weak pts_nil fun σ H Q ⟨g, lk, β, ρ, ts, Qd, hK, A, t, q⟩ => q _ _ _ A t
theorem pdts_one {X : Cx} {c : Expr} {t : TDT} (h : PDT X c t) : PDTs X [c] t := pts_one h
/-! ### the stores -/
def bApp (te : TD) : TDB := fun ρ acc Q => te ρ fun ρ1 r => match frzR ρ1 r with
  | some (ρ2, d) => match acc with
    | .lst ds => ds.length < sizeLine ∧ Q ρ2 (.lst (ds ++ [d]))
    | _ => False
  | none => False
section
variable {X : Cx} {te : TD} {a : Addr}
theorem lift_app {σ : L2.St} {H : Hp} {Q : Hp → Prop} (h : liftB X [] (bApp te) a σ H Q) : Lw.tApp (liftE X te) a σ H Q := by
  obtain ⟨g, lk, β, ρ, ts, us, d, Qd, hK, A, t, q⟩ := h
  refine ⟨g, lk, β, ρ, _, _, hK, A, t, fun ρ1 r v H1 ⟨F1, A1⟩ t1 => ?_⟩
  cases e : frzR ρ1 r with
  | none => simp only [e] at t1
  | some pr =>
    obtain ⟨ρ2, x⟩ := pr
    simp only [e] at t1
    obtain ⟨F2, _, A2⟩ := A1.freeze1 (us := []) e
    have dv : Den g.K F2 x v := A2.tmp (v, .z x) (by simp)
    cases d with
    | lst ds =>
      obtain ⟨b, eb, w⟩ := A2.tmp (.ref a, .o (.lst ds)) (by simp)
      cases eb
      obtain ⟨vs, h1, h2, h3⟩ := w.at_
      have A3 := A2.sub (List.sublist_append_left _ _)
      have hl : vs.length < sizeLine := by rw [← h3.length]; exact t1.1
      refine ⟨vs, h1, hl, q ρ2 _ _ ?_ t1.2⟩
      exact ⟨F2, A3.writeT (d' := .lst (ds ++ [x])) ⟨_, upd_same, by rw [List.length_append]; exact hl, h3.append (.one dv)⟩⟩
    | _ => exact t1.elim
end
theorem AtF.perm {g : Gm} {lk : List Addr} {β σ : Sg} {F H : Hp} {ρ : Rho} {ts us : Ts} (A : AtF g lk β F σ ρ ts H) (h : ts.Perm us) : AtF g lk β F σ ρ us H := by
  refine ⟨A.core, A.len, A.slot, fun c hc => A.tmp c (h.mem_iff.mpr hc), A.link, ?_⟩
  refine (List.Perm.pairwise_iff (fun h => h.symm) ?_).mp A.dis
  exact List.Perm.append_left _ (h.map _)
/-! ### list comprehensions -/
def dComp (o0 : D) (ti : TDI) (tg : TDG) (tt : TDT) (tb : TDB) (vs : List Nat) : TD := fun ρ Q => ti ρ fun ρ1 ds => lcD vs tg tt tb ds ρ1 o0 fun ρ2 acc => Q (wipeR ρ2 vs) (.o acc)
section
variable {X : Cx} {elt tgx iter : Expr} {ifs : List Expr} {rest : List Comprehension} {scope : Scope} {own : List (Str × Nat)} {pos : Pos} {ti : TDI} {tg : TDG} {tt : TDT} {tb : TDB} {ws ss : List Nat}
theorem lift_comp {o0 : D} {h0 : HO} (ho : ∀ K F H a, OwnD K F (upd H a h0) a o0) (hws : ∀ i ∈ ws, i ∈ own.map (·.2)) (hss : ∀ i ∈ ss, i ∈ own.map (·.2)) {σ : L2.St} {H : Hp} {Q : VK} (h : liftE X (dComp o0 ti tg tt tb (own.map (·.2))) σ H Q) :
    Lw.tCo h0 (liftI X ti) (liftG X ss tg) (liftT X tt) (fun a => liftB X ws tb a) (own.map (·.2)) σ H Q := by
  obtain ⟨g, lk, β, ρ, ts, Qd, hK, A, t, q⟩ := h
  refine ⟨g, lk, β, ρ, _, _, hK, A, t, fun ρ1 ds cs J H1 ⟨F1, A1⟩ sv t1 => fun D hD => ?_⟩
  have A2 := A1.push_new (d := o0) hD (ho _ _ _ _)
  have A3 : At g lk β σ ρ1 (ts ++ (.ref D, .o o0) :: [] ++ cs) (upd H1 D h0) := by
    refine ⟨F1, A2.perm ?_⟩
    rw [List.append_assoc, List.append_assoc]
    exact List.Perm.append_left _ (List.perm_append_comm)
  refine clW_of hws hss hK sv A3 t1 fun ρ2 d2 H2 ⟨F2, A4⟩ t2 => ?_
  exact q _ _ _ _ ⟨F2, A4.wipe (L2.wipe_length _ _).symm fun j hj => (wipe_out' hj).symm⟩ t2
theorem pd_coL (hc : X.calm = true) (hN : X.N.Nodup) (hi : PDI X tgx iter ti) (ok : BlkOk X.N X.env.scope scope own) (hws : ∀ i ∈ ws, i ∈ own.map (·.2)) (hss : ∀ i ∈ ss, i ∈ own.map (·.2))
    (hg : ∀ s H C cl fp, PDG (Lw.blkX X scope s H C cl fp) ss tgx tg) (ht : ∀ s H C cl fp, PDTs (Lw.blkX X scope s H C cl fp) ifs tt)
    (hb : ∀ s H C cl fp D, BDD (Lw.blkX X scope s H C cl fp) (Lw.inBody (do let _ ← call (.builtin "list.append") [.ref D, ← eval elt (Lw.blkX X scope s H C cl fp).env]) (⟨tgx, iter, ifs, 0⟩ :: rest)[1]? (.ListComp elt (⟨tgx, iter, ifs, 0⟩ :: rest) scope pos) 0 (.ref D) (Lw.blkX X scope s H C cl fp).env) ws tb D)
    (hfs : ∀ x, foldedSetIterable iter X.env x = pure x := by intro _; rfl) : PD X (.ListComp elt (⟨tgx, iter, ifs, 0⟩ :: rest) scope pos) (dComp (.lst []) ti tg tt tb (own.map (·.2))) :=
  PE.weak (Lw.pe_coL hc hN hi ok hws hg ht hb hfs) fun σ H Q h => lift_comp (o0 := .lst []) (h0 := .lst []) (fun K F H a => ⟨[], upd_same, Nat.zero_le _, .nil⟩) hws hss h
/-- the store of a list comprehension -/
theorem bd_app {X : Cx} {elt : Expr} {te : TD} {D : Addr} (hxe : X.xe = fun _ _ => False) (he : PD X elt te) : BDD X (do let _ ← call (.builtin "list.append") [.ref D, ← eval elt X.env]) [] (bApp te) D :=
  BD.weak (Lw.bd_list hxe he) fun σ H Q h => lift_app h
/-- a further clause -/
theorem bd_more {X : Cx} {e : Expr} {acc : Value} {gs : List Comprehension} {emit : PySem.Sem Unit} {k : Nat} {D : Addr} {vs : List Nat} (hc : X.calm = true) (hxe : X.xe = fun _ _ => False) (hs : Lw.CSplit e acc X.env gs emit) (hk : gs[k + 1]? = some ⟨tgx, iter, ifs, 0⟩) (hi : PDI X tgx iter ti) (hg : PDG X ss tgx tg) (ht : PDTs X ifs tt)
    (hb : BDD X (Lw.inBody emit gs[k + 1 + 1]? e (k + 1) acc X.env) ws tb D) (hws : ∀ i ∈ ws, i ∈ vs) (hss : ∀ i ∈ ss, i ∈ vs) (hfs : ∀ x, foldedSetIterable iter X.env x = pure x := by intro _; rfl) :
    BDD X (Lw.inBody emit gs[k + 1]? e k acc X.env) vs (dCl ti tg tt tb vs) D :=
  BD.weak (Lw.bd_cl hc hxe hs hk hi hg ht hb hws hfs) fun σ H Q h => lift_cl hws hss h
end
end Dl
set_option Elab.async false
set_option linter.all false
set_option maxRecDepth 100000
set_option maxHeartbeats 4000000
/-! sorted of a text: its signs -/
namespace Lw
open PySem PySem.Spec PyProof.Rows L2
/-- the items of a text that has been gone through are its signs -/
theorem signs_are {z : Str} {acc : Array Value} (it : ItemsOf (SignAt z) acc z.cps.size) : StrsAre acc.toList (z.cps.toList.map sgn) ∧ acc.toList.length = z.cps.size := by
  have n : acc.toList.length = z.cps.size := by rw [Array.length_toList, it.1]
  refine ⟨strs_at (by rw [n, List.length_map, Array.length_toList]) fun j v e => ?_, n⟩
  rw [Array.getElem?_toList] at e
  obtain ⟨c, tk, hc, rfl⟩ := it.2 j v e
  exact ⟨sgn c, tk, by rw [List.getElem?_map, Array.getElem?_toList, hc]; rfl, rfl⟩
section
variable {X : Cx} {pins : List (Addr × Obj)} {σ : L2.St} {H : Hp} {s : Shared}
/-- a list of texts that has just been made is sorted in its place -/
theorem sort_fresh {vs : List Value} {zs : List Str} {Q : VK} (I : Inv X pins σ H s) (hS : StrsAre vs zs) (n : vs.length < 64) (nz : zs.length < 64)
    (q : ∀ ys p, ys.Perm zs → sortedS ys = true → H p = none → Q (.ref p) (upd H p (.lst (ys.map V.str)))) :
    wpAny (model X.prog X.w) X.A.in1 (do let l ← newList vs; let _ ← holding [l] (call (.builtin "list.sort") [l] []); ret l)
      (fun fin s' => ∃ v, fin = .done (.ret v) ∧ EP X pins σ Q v s') X.xe s := by
  have at0 : (s.heap.push (seqObj "list" vs.toArray 0)).get? s.heap.objs.size = some (seqObj "list" vs.toArray 0) := Heap.get?_push_size _ rfl
  refine wpAny_bind (wpAny_newList ?_ (by rw [sizeLine_eq]; omega)); show wpAny _ _ _ _ _ { s with heap := s.heap.push (seqObj "list" vs.toArray 0) }
  refine wpAny_bind (wpAny_holding (wpAny_call_entry slot_list_sort ⟨_, at0, rfl⟩ entry_list_sort (list_sort_treeK strKind_oneLt (s := { s with heap := s.heap.push (seqObj "list" vs.toArray 0) }) at0 hS.keysOf (fun _ _ _ e => keyKind_strs (by rw [← e]; exact hS)) n fun t hp hs => ⟨_, rfl, ?_⟩) (args_list_sort _)))
  obtain ⟨ys, r1, r2, r3⟩ := sorted_out_str hS hp hs; obtain ⟨ep, at1⟩ := sortedHeap_at (vs := vs) (out := (arrOf t).map (·.2)) at0
  have ny : (ys.map V.str).length ≤ sizeLine := by rw [List.length_map, r2.length_eq]; exact Nat.le_trans (Nat.le_of_lt nz) (by decide)
  refine wpAny_pure ⟨_, rfl, .ref s.heap.objs.size, upd H s.heap.objs.size (.lst (ys.map V.str)), I.laid (t' := s.toks) (fun b u e => ?_) (Nat.le_refl _) ⟨ny, ((arrOf t).map (·.2)).toList, ep, vals_of_strs r1, by rw [Array.toArray_toList]; exact at1⟩, rfl, q ys _ r2 r3 (I.hok.fresh (Nat.le_refl _))⟩
  have lb : b < s.heap.objs.size := Heap.lt_size e
  exact (sortedHeap_old (Nat.ne_of_lt lb) (by rw [size_push']; exact Nat.lt_succ_of_lt lb)).trans (Heap.get?_push_of_some _ e)
end
section
variable {X : Cx}
theorem call_sortedTxt (hc : X.calm = true) : CallR X (.builtin "sorted") (fun xs H Q => ∃ z : Str, xs = [.str z] ∧ z.length < 64 ∧ ∀ ys p, ys.Perm (z.cps.toList.map sgn) → sortedS ys = true → H p = none → Q (.ref p) (upd H p (.lst (ys.map V.str)))) := by
  intro pins s σ H xs us Q I r ⟨z, ez, n, q⟩
  subst ez
  obtain ⟨u, rfl, t, rfl⟩ := vals1 r
  have n : z.cps.size < 64 := n
  refine Calls.call_function_entry kind_sorted plain_sorted entry_sorted (args_sorted1 _) (by
    unfold Builtin.«sorted»
    refine wpAny_bind (m := checkCount "sorted" 1 1 _) (wpAny_pure (wpAny_bind ?_))
    refine wpAny_collect_str (A := X.A.in1) (I.ok.hd hc) z t (fun s2 acc hk hg hd ho it => ?_) (by rw [sizeLine_eq]; omega)
    obtain ⟨hS, nS⟩ := signs_are it
    have e2 : s2 = { s with heap := s2.heap, toks := s2.toks } := by
      obtain ⟨_, _, _, _, _⟩ := s2
      obtain ⟨_, _, _, _, _⟩ := s
      simp only at hg hd ho
      subst hg hd ho
      rfl
    rw [e2]
    exact sort_fresh (I.kept hk) hS (by omega) (by rw [List.length_map, Array.length_toList]; exact n) q)
end
end Lw
set_option autoImplicit false
set_option Elab.async false
set_option linter.all false
set_option maxRecDepth 100000
set_option maxHeartbeats 2000000
/-! built-ins over data -/
namespace Dl
open PySem PySem.Spec PyProof.Rows L2 LamX
section
variable {K : PySem.W.Frag} {F H : Hp}
theorem DTs.one {vs : List V} {d : D} (h : DTs K F H vs [d]) : ∃ v, vs = [v] ∧ DenT K F H v d := by
  cases h with
  | cons h t => cases t; exact ⟨_, rfl, h⟩
theorem DTs.two {vs : List V} {d e : D} (h : DTs K F H vs [d, e]) : ∃ v u, vs = [v, u] ∧ DenT K F H v d ∧ DenT K F H u e := by
  cases h with
  | cons h t => cases t with
    | cons h2 t => cases t; exact ⟨_, _, rfl, h, h2⟩
theorem Den.flat_ints {ns : List Int} {vs : List V} (h : Dens K F (ns.map D.int) vs) : vs = ns.map V.int := h.ints
end
/-- the ints, bools, texts of data -/
def intsD : List D → Option (List Int)
  | [] => some []
  | .int i :: ds => (intsD ds).map (i :: ·)
  | _ => none
def blsD : List D → Option (List Bool)
  | [] => some []
  | .bl b :: ds => (blsD ds).map (b :: ·)
  | _ => none
def strsD : List D → Option (List Str)
  | [] => some []
  | .str z :: ds => (strsD ds).map (z :: ·)
  | _ => none
theorem intsD_eq : ∀ {ds : List D} {ns : List Int}, intsD ds = some ns → ds = ns.map D.int
  | [], _, h => by cases h; rfl
  | d :: ds, ns, h => by
    cases d <;> first | (simp only [intsD] at h; done) | skip
    all_goals first | cases h | skip
    rename_i i
    simp only [intsD] at h
    cases e : intsD ds with
    | none => rw [e] at h; cases h
    | some ms => rw [e] at h; cases h; rw [List.map_cons, ← intsD_eq e]
theorem blsD_eq : ∀ {ds : List D} {ns : List Bool}, blsD ds = some ns → ds = ns.map D.bl
  | [], _, h => by cases h; rfl
  | d :: ds, ns, h => by
    cases d <;> first | (simp only [blsD] at h; done) | skip
    all_goals first | cases h | skip
    rename_i i
    simp only [blsD] at h
    cases e : blsD ds with
    | none => rw [e] at h; cases h
    | some ms => rw [e] at h; cases h; rw [List.map_cons, ← blsD_eq e]
theorem strsD_eq : ∀ {ds : List D} {ns : List Str}, strsD ds = some ns → ds = ns.map D.str
  | [], _, h => by cases h; rfl
  | d :: ds, ns, h => by
    cases d <;> first | (simp only [strsD] at h; done) | skip
    all_goals first | cases h | skip
    rename_i i
    simp only [strsD] at h
    cases e : strsD ds with
    | none => rw [e] at h; cases h
    | some ms => rw [e] at h; cases h; rw [List.map_cons, ← strsD_eq e]
theorem intsD_map : ∀ ns : List Int, intsD (ns.map D.int) = some ns
  | [] => rfl
  | n :: ns => by rw [List.map_cons, intsD, intsD_map ns]; rfl
theorem blsD_map : ∀ ns : List Bool, blsD (ns.map D.bl) = some ns
  | [] => rfl
  | n :: ns => by rw [List.map_cons, blsD, blsD_map ns]; rfl
theorem strsD_map : ∀ ns : List Str, strsD (ns.map D.str) = some ns
  | [] => rfl
  | n :: ns => by rw [List.map_cons, strsD, strsD_map ns]; rfl

/-! ### meanings -/
def fLen : FN := fun ds Q => match ds with
  | [.lst xs] => Q (.z (.int (xs.length : Nat)))
  | [.tup xs] => Q (.z (.int (xs.length : Nat)))
  | [.str z] => Q (.z (.int (z.length : Nat)))
  | [.dk xs] => Q (.z (.int (xs.length : Nat)))
  | [.scr ns] => Q (.z (.int (ns.length : Nat)))
  | _ => False
def fTuple : FN := fun ds Q => match ds with
  | [.lst xs] => Q (.z (.tup xs))
  | [.tup xs] => Q (.z (.tup xs))
  | _ => False
def fList : FN := fun ds Q => match ds with
  | [.lst xs] => Q (.o (.lst xs))
  | [.tup xs] => Q (.o (.lst xs))
  | [.str z] => Q (.o (.lst (signsD z)))
  | _ => False
def fSum : FN := fun ds Q => match ds with
  | [.lst xs] => match intsD xs with
    | some ns => Q (.z (.int ns.sum))
    | none => False
  | _ => False
def maxI : List Int → Int
  | [] => 0
  | [x] => x
  | x :: xs => max x (maxI xs)
def minI : List Int → Int
  | [] => 0
  | [x] => x
  | x :: xs => min x (minI xs)
def fMax : FN := fun ds Q => match ds with
  | [.lst xs] => match intsD xs with
    | some ns => ns ≠ [] ∧ Q (.z (.int (maxI ns)))
    | none => False
  | [.int i, .int j] => Q (.z (.int (max i j)))
  | _ => False
def fMin : FN := fun ds Q => match ds with
  | [.lst xs] => match intsD xs with
    | some ns => ns ≠ [] ∧ Q (.z (.int (minI ns)))
    | none => False
  | [.int i, .int j] => Q (.z (.int (min i j)))
  | _ => False
def fAny : FN := fun ds Q => match ds with
  | [.lst xs] => match blsD xs with
    | some bs => Q (.z (.bl (bs.any id)))
    | none => False
  | _ => False
def fAll : FN := fun ds Q => match ds with
  | [.lst xs] => match blsD xs with
    | some bs => Q (.z (.bl (bs.all id)))
    | none => False
  | _ => False
def fAbs : FN := fun ds Q => match ds with
  | [.int i] => Q (.z (.int (if i < 0 then -i else i)))
  | _ => False
def fInt : FN := fun ds Q => match ds with
  | [.int i] => Q (.z (.int i))
  | [.bl b] => Q (.z (.int (if b then 1 else 0)))
  | _ => False
def fDivmod : FN := fun ds Q => match ds with
  | [.int i, .int j] => CDiv i j ∧ Q (.z (.tup [.int (i / j), .int (i % j)]))
  | _ => False
/-- sorted: the data by the library's order of data -/
def sortD (ds : List D) (ps : List PyData) : List D := ((ds.zip ps).mergeSort (PySem.W.dataLe false fun b => b.2)).map (·.1)
def fSorted : FN := fun ds Q => match ds with
  | [.lst xs] => ∃ ps, D.pys xs = some ps ∧ PySem.W.AllAlike ps ∧ PySem.W.Sortable ps ∧ (∀ p ∈ ps, p.depth ≤ 20) ∧ Q (.o (.lst (sortD xs ps)))
  | _ => False

theorem maxI_mem : ∀ {ns : List Int}, ns ≠ [] → maxI ns ∈ ns
  | [], h => absurd rfl h
  | [x], _ => by simp [maxI]
  | x :: y :: r, _ => by
    have ih := maxI_mem (ns := y :: r) (by simp)
    unfold maxI
    rcases Int.le_total x (maxI (y :: r)) with h | h
    · rw [Int.max_eq_right h]; exact List.mem_cons_of_mem _ ih
    · rw [Int.max_eq_left h]; exact List.mem_cons_self
theorem maxI_le : ∀ {ns : List Int} {y : Int}, y ∈ ns → y ≤ maxI ns
  | [x], y, h => by simp at h; simp [maxI, h]
  | x :: z :: r, y, h => by
    unfold maxI
    rcases List.mem_cons.mp h with rfl | h
    · exact Int.le_max_left _ _
    · exact Int.le_trans (maxI_le h) (Int.le_max_right _ _)
theorem minI_mem : ∀ {ns : List Int}, ns ≠ [] → minI ns ∈ ns
  | [], h => absurd rfl h
  | [x], _ => by simp [minI]
  | x :: y :: r, _ => by
    have ih := minI_mem (ns := y :: r) (by simp)
    unfold minI
    rcases Int.le_total x (minI (y :: r)) with h | h
    · rw [Int.min_eq_left h]; exact List.mem_cons_self
    · rw [Int.min_eq_right h]; exact List.mem_cons_of_mem _ ih
theorem minI_le : ∀ {ns : List Int} {y : Int}, y ∈ ns → minI ns ≤ y
  | [x], y, h => by simp at h; simp [minI, h]
  | x :: z :: r, y, h => by
    unfold minI
    rcases List.mem_cons.mp h with rfl | h
    · exact Int.min_le_left _ _
    · exact Int.le_trans (Int.min_le_right _ _) (minI_le h)

section
variable {X : Cx}
theorem CallR.weak {f : Value} {r r' : List V → Hp → VK → Prop} (h : CallR X f r) (w : ∀ xs H Q, r' xs H Q → r xs H Q) : CallR X f r' := fun pins s σ H xs us Q I rr q => h pins s σ H xs us Q I rr (w _ _ _ q)
def rLenA (K : PySem.W.Frag) : List V → Hp → VK → Prop := fun xs H Q => (∃ x n, xs = [x] ∧ LenV K x H n ∧ Q (.int n) H) ∨ ∃ d kvs, xs = [.ref d] ∧ Rd H d (.dK kvs) ∧ Q (.int (kvs.length : Nat)) H
theorem call_lenA : CallR X (.builtin "len") (rLenA X.K) := CallR.or call_len (by
  intro pins s σ H xs us Q I r h
  obtain ⟨d, kvs, rfl, e, q⟩ := h
  rw [Vals.ref1 r]
  exact d_len I e fun t s' I' => ⟨.int (kvs.length : Nat), H, I', ⟨t, rfl⟩, q⟩)
theorem on_len : OpN X (rLenA X.K) fLen := fun g lk β F σ ρ ts H vs ds Qr Q hK A h t k => by
  unfold fLen at t
  split at t
  · obtain ⟨v, rfl, a, us, rfl, h1, z, r⟩ := h.one
    exact .inl ⟨_, us.length, rfl, .inl ⟨us, .of h1, rfl⟩, by rw [← r.length]; exact k _ _ _ (A.res_z (.int _)) t⟩
  · obtain ⟨v, rfl, a, us, rfl, h1, z, r⟩ := h.one
    exact .inl ⟨_, us.length, rfl, .inr ⟨us, .of (A.core.sub _ _ h1), rfl⟩, by rw [← r.length]; exact k _ _ _ (A.res_z (.int _)) t⟩
  · obtain ⟨v, rfl, rfl, hz⟩ := h.one
    exact .inl ⟨_, _, rfl, ⟨hz, rfl⟩, k _ _ _ (A.res_z (.int _)) t⟩
  · obtain ⟨v, rfl, a, kvs, rfl, h1, z, hk, r⟩ := h.one
    refine .inr ⟨a, kvs, rfl, h1, ?_⟩
    have hl := congrArg List.length hk
    rw [List.length_map, List.length_map] at hl
    rw [← hl]
    exact k _ _ _ (A.res_z (.int _)) t
  · obtain ⟨v, rfl, a, rfl, h1, z⟩ := h.one
    exact .inl ⟨_, _, rfl, .inl ⟨_, h1, rfl⟩, by rw [List.length_map]; exact k _ _ _ (A.res_z (.int _)) t⟩
  · exact t.elim
theorem on_tuple : OpN X (fun xs H Q => ∃ p ys, xs = [.ref p] ∧ ((SqL X.K H p ys ∧ ∀ l, H l = none → Q (.ref l) (upd H l (.tup ys))) ∨ (SqT X.K H p ys ∧ Q (.ref p) H))) fTuple := fun g lk β F σ ρ ts H vs ds Qr Q hK A h t k => by
  unfold fTuple at t
  split at t
  · obtain ⟨v, rfl, a, us, rfl, h1, z, r⟩ := h.one
    rw [← hK] at r
    exact ⟨a, us, rfl, .inl ⟨.of h1, fun l hl => k _ _ _ (A.res_tup hl r z) t⟩⟩
  · obtain ⟨v, rfl, h1⟩ := h.one
    have dv := h1.tup
    obtain ⟨a, us, rfl, h1, z, r⟩ := h1
    rw [← hK] at dv
    exact ⟨a, us, rfl, .inr ⟨.of (A.core.sub _ _ h1), k _ _ _ (A.res_z dv) t⟩⟩
  · exact t.elim
def rListA (K : PySem.W.Frag) : List V → Hp → VK → Prop := fun xs H Q => (∃ p ys, xs = [.ref p] ∧ (SqL K H p ys ∨ SqT K H p ys) ∧ ∀ l, H l = none → Q (.ref l) (upd H l (.lst ys))) ∨ ∃ z, xs = [.str z] ∧ z.length ≤ sizeLine ∧ ∀ l, H l = none → Q (.ref l) (upd H l (.lst (Lw.sgs z)))
theorem call_listA (hc : X.calm = true) : CallR X (.type "list") (rListA X.K) := CallR.or call_list_of (Lw.call_listS hc)
theorem signs_dens {K : PySem.W.Frag} {F : Hp} (z : Str) : Dens K F (signsD z) (Lw.sgs z) := by
  unfold signsD Lw.sgs
  induction z.cps.toList with
  | nil => exact .nil
  | cons c r ih => exact .cons sign_den ih
theorem on_list : OpN X (rListA X.K) fList := fun g lk β F σ ρ ts H vs ds Qr Q hK A h t k => by
  unfold fList at t
  split at t
  · obtain ⟨v, rfl, a, us, rfl, h1, z, r⟩ := h.one
    rw [← hK] at r
    exact .inl ⟨a, us, rfl, .inl (.of h1), fun l hl => k _ _ _ (A.res_lst hl r z) t⟩
  · obtain ⟨v, rfl, a, us, rfl, h1, z, r⟩ := h.one
    rw [← hK] at r
    exact .inl ⟨a, us, rfl, .inr (.of (A.core.sub _ _ h1)), fun l hl => k _ _ _ (A.res_lst hl r z) t⟩
  · obtain ⟨v, rfl, rfl, hz⟩ := h.one
    exact .inr ⟨_, rfl, hz, fun l hl => k _ _ _ (A.res_lst hl (signs_dens _) (by rw [Lw.sgs_len]; exact hz)) t⟩
  · exact t.elim
theorem on_sum : OpN X (rSum X.K) fSum := fun g lk β F σ ρ ts H vs ds Qr Q hK A h t k => by
  unfold fSum at t
  split at t
  · obtain ⟨v, rfl, a, us, rfl, h1, z, r⟩ := h.one
    split at t
    · rename_i ns hn
      rw [intsD_eq hn] at r
      have e := r.ints
      subst e
      exact ⟨a, ns, rfl, .of h1, k _ _ _ (A.res_z (.int _)) t⟩
    · exact t.elim
  · exact t.elim
def rMaxA (K : PySem.W.Frag) : List V → Hp → VK → Prop := fun vs H Q => rMax K vs H Q ∨ ∃ i j, vs = [.int i, .int j] ∧ Q (.int (if j > i then j else i)) H
def rMinA (K : PySem.W.Frag) : List V → Hp → VK → Prop := fun vs H Q => rMin K vs H Q ∨ ∃ i j, vs = [.int i, .int j] ∧ Q (.int (if j < i then j else i)) H
theorem call_maxA (hc : X.calm = true) : CallR X (.builtin "max") (rMaxA X.K) := CallR.or (cr_max hc) (call_max2 hc)
theorem call_minA (hc : X.calm = true) : CallR X (.builtin "min") (rMinA X.K) := CallR.or (cr_min hc) (call_min2 hc)
theorem on_max : OpN X (rMaxA X.K) fMax := fun g lk β F σ ρ ts H vs ds Qr Q hK A h t k => by
  unfold fMax at t
  split at t
  · obtain ⟨v, rfl, a, us, rfl, h1, z, r⟩ := h.one
    split at t
    · rename_i ns hn
      rw [intsD_eq hn] at r
      have e := r.ints
      subst e
      refine .inl ⟨a, ns, rfl, .of h1, List.length_pos_iff.mpr t.1, fun m hm hle => ?_⟩
      have : m = maxI ns := Int.le_antisymm (maxI_le hm) (hle _ (maxI_mem t.1))
      subst this
      exact k _ _ _ (A.res_z (.int _)) t.2
    · exact t.elim
  · rename_i i j
    obtain ⟨v, u, rfl, h1, h2⟩ := h.two
    cases h1
    cases h2
    refine .inr ⟨i, j, rfl, ?_⟩
    have : (if j > i then j else i) = max i j := by split <;> omega
    rw [this]
    exact k _ _ _ (A.res_z (.int _)) t
  · exact t.elim
theorem on_min : OpN X (rMinA X.K) fMin := fun g lk β F σ ρ ts H vs ds Qr Q hK A h t k => by
  unfold fMin at t
  split at t
  · obtain ⟨v, rfl, a, us, rfl, h1, z, r⟩ := h.one
    split at t
    · rename_i ns hn
      rw [intsD_eq hn] at r
      have e := r.ints
      subst e
      refine .inl ⟨a, ns, rfl, .of h1, List.length_pos_iff.mpr t.1, fun m hm hle => ?_⟩
      have : m = minI ns := Int.le_antisymm (hle _ (minI_mem t.1)) (minI_le hm)
      subst this
      exact k _ _ _ (A.res_z (.int _)) t.2
    · exact t.elim
  · rename_i i j
    obtain ⟨v, u, rfl, h1, h2⟩ := h.two
    cases h1
    cases h2
    refine .inr ⟨i, j, rfl, ?_⟩
    have : (if j < i then j else i) = min i j := by split <;> omega
    rw [this]
    exact k _ _ _ (A.res_z (.int _)) t
  · exact t.elim
theorem on_any : OpN X (rAny X.K) fAny := fun g lk β F σ ρ ts H vs ds Qr Q hK A h t k => by
  unfold fAny at t
  split at t
  · obtain ⟨v, rfl, a, us, rfl, h1, z, r⟩ := h.one
    split at t
    · rename_i ns hn
      rw [blsD_eq hn] at r
      have e := r.bls
      subst e
      exact ⟨a, ns, rfl, .of h1, k _ _ _ (A.res_z (.bl _)) t⟩
    · exact t.elim
  · exact t.elim
theorem on_all : OpN X (rAll X.K) fAll := fun g lk β F σ ρ ts H vs ds Qr Q hK A h t k => by
  unfold fAll at t
  split at t
  · obtain ⟨v, rfl, a, us, rfl, h1, z, r⟩ := h.one
    split at t
    · rename_i ns hn
      rw [blsD_eq hn] at r
      have e := r.bls
      subst e
      exact ⟨a, ns, rfl, .of h1, k _ _ _ (A.res_z (.bl _)) t⟩
    · exact t.elim
  · exact t.elim
theorem on_abs : OpN X (fun xs H Q => ∃ i, xs = [.int i] ∧ Q (.int (if i < 0 then -i else i)) H) fAbs := fun g lk β F σ ρ ts H vs ds Qr Q hK A h t k => by
  unfold fAbs at t
  split at t
  · obtain ⟨v, rfl, h1⟩ := h.one
    cases h1
    exact ⟨_, rfl, k _ _ _ (A.res_z (.int _)) t⟩
  · exact t.elim
theorem on_int : OpN X (fun xs H Q => (∃ i, xs = [.int i] ∧ Q (.int i) H) ∨ ∃ k, xs = [.bl k] ∧ Q (.int (if k then 1 else 0)) H) fInt := fun g lk β F σ ρ ts H vs ds Qr Q hK A h t k => by
  unfold fInt at t
  split at t
  · obtain ⟨v, rfl, h1⟩ := h.one
    cases h1
    exact .inl ⟨_, rfl, k _ _ _ (A.res_z (.int _)) t⟩
  · obtain ⟨v, rfl, h1⟩ := h.one
    cases h1
    exact .inr ⟨_, rfl, k _ _ _ (A.res_z (.int _)) t⟩
  · exact t.elim
theorem on_divmod : OpN X (fun xs H Q => ∃ i j, xs = [.int i, .int j] ∧ CDiv i j ∧ ∀ p, H p = none → Q (.ref p) (upd H p (.tup [.int (i / j), .int (i % j)]))) fDivmod := fun g lk β F σ ρ ts H vs ds Qr Q hK A h t k => by
  unfold fDivmod at t
  split at t
  · obtain ⟨v, u, rfl, h1, h2⟩ := h.two
    cases h1
    cases h2
    exact ⟨_, _, rfl, t.1, fun p hp => k _ _ _ (A.res_tup hp (.cons (.int _) (.cons (.int _) .nil)) (by show 2 ≤ sizeLine; decide)) t.2⟩
  · exact t.elim
/-! sorted -/
theorem dens_zip {K : PySem.W.Frag} {F H : Hp} (s : ∀ a o, F a = some o → H a = some o) : ∀ {ds : List D} {vs : List V} {ps : List PyData}, Dens K F ds vs → D.pys ds = some ps → ∃ bs : List (V × D × PyData), bs.map (·.1) = vs ∧ bs.map (fun b => b.2.1) = ds ∧ bs.map (fun b => b.2.2) = ps ∧ (∀ b ∈ bs, Den K F b.2.1 b.1 ∧ Dp K H b.1 b.2.2)
  | _, _, _, .nil, e => by cases e; exact ⟨[], rfl, rfl, rfl, fun _ h => absurd h List.not_mem_nil⟩
  | _, _, _, .cons h t, e => by
    obtain ⟨p, ps, h1, h2, rfl⟩ := D.pys_cons e
    obtain ⟨bs, e1, e2, e3, e4⟩ := dens_zip s t h2
    refine ⟨(_, _, p) :: bs, by rw [List.map_cons, e1], by rw [List.map_cons, e2], by rw [List.map_cons, e3], fun b hb => ?_⟩
    rcases List.mem_cons.mp hb with rfl | hb
    · exact ⟨h, Den.dp s h h1⟩
    · exact e4 b hb
theorem mergeSort_mapS {α β : Type} {f : α → β} {le : β → β → Bool} (xs : List α) : (xs.mergeSort fun a b => le (f a) (f b)).map f = (xs.map f).mergeSort le := by
  exact List.map_mergeSort (fun a _ b _ => rfl)
theorem on_sorted : OpN X (Lw.rSortV X.K) fSorted := fun g lk β F σ ρ ts H vs ds Qr Q hK A h t k => by
  unfold fSorted at t
  split at t
  · rename_i xs
    obtain ⟨v, rfl, a, us, rfl, h1, z, r⟩ := h.one
    obtain ⟨ps, e1, al, so, dp, t⟩ := t
    obtain ⟨bs, b1, b2, b3, b4⟩ := dens_zip A.core.sub r e1
    have c1 : (bs.map fun b => (b.1, b.2.2)).map (·.1) = us := by rw [List.map_map]; exact b1
    have c3 : (bs.map fun b => (b.1, b.2.2)).map (fun b => b.2) = ps := by rw [List.map_map]; exact b3
    refine ⟨a, bs.map fun b => (b.1, b.2.2), rfl, by rw [c1]; exact .of h1, fun b hb => ?_, by rw [c3]; exact al, by rw [c3]; exact so, fun b hb => ?_, fun p hp => ?_⟩
    · obtain ⟨c, hc, rfl⟩ := List.mem_map.mp hb
      exact (b4 c hc).2
    · refine dp _ ?_
      rw [← c3]
      exact List.mem_map.mpr ⟨b, hb, rfl⟩
    · have e2 : ((bs.map fun b => (b.1, b.2.2)).mergeSort (PySem.W.dataLe false fun b : V × PyData => b.2)).map (·.1) = (bs.mergeSort (PySem.W.dataLe false fun b : V × D × PyData => b.2.2)).map (·.1) := by
        rw [← mergeSort_mapS (f := fun b : V × D × PyData => (b.1, b.2.2)) (le := PySem.W.dataLe false fun b : V × PyData => b.2) bs, List.map_map]
        rfl
      have e3 : sortD xs ps = (bs.mergeSort (PySem.W.dataLe false fun b : V × D × PyData => b.2.2)).map (fun b => b.2.1) := by
        unfold sortD
        have : xs.zip ps = bs.map fun b => (b.2.1, b.2.2) := by rw [← b2, ← b3, List.zip_map', ]
        rw [this, ← mergeSort_mapS (f := fun b : V × D × PyData => (b.2.1, b.2.2)) (le := PySem.W.dataLe false fun b : D × PyData => b.2) bs, List.map_map]
        rfl
      have pm := List.mergeSort_perm bs (PySem.W.dataLe false fun b : V × D × PyData => b.2.2)
      have dn : ∀ {cs : List (V × D × PyData)}, (∀ b ∈ cs, b ∈ bs) → Dens g.K F (cs.map fun b => b.2.1) (cs.map (·.1)) := by
        intro cs
        induction cs with
        | nil => intro _; exact .nil
        | cons c cs ih =>
          intro hc
          have := (b4 c (hc c List.mem_cons_self)).1
          rw [← hK] at this
          exact .cons this (ih fun b hb => hc b (List.mem_cons_of_mem _ hb))
      have hz : ((bs.mergeSort (PySem.W.dataLe false fun b : V × D × PyData => b.2.2)).map (·.1)).length ≤ sizeLine := by
        rw [List.length_map, List.length_mergeSort, ← List.length_map (f := (·.1)), b1]
        exact z
      rw [e2]
      rw [e3] at t
      exact k _ _ _ (A.res_lst hp (dn fun b hb => pm.mem_iff.mp hb) hz) t
  · exact t.elim
end
end Dl
set_option autoImplicit false
set_option Elab.async false
set_option linter.all false
set_option maxRecDepth 100000
set_option maxHeartbeats 2000000
/-! methods of built-in types -/
namespace Dl
open PySem PySem.Spec PyProof.Rows L2 LamX
abbrev FM := D → List D → (D → D → Prop) → Prop
/-- a method that changes its receiver -/
def OpMut (X : Cx) (T : String) (r : V → List V → Hp → VK → Prop) (f : FM) : Prop := (∀ (F H : Hp) (a : Addr) (d : D) (ds : List D) (Qf : D → D → Prop), OwnD X.K F H a d → f d ds Qf → tyV X.K T (.ref a) H) ∧
  ∀ (F H : Hp) (a : Addr) (vs : List V) (d : D) (ds : List D) (Qf : D → D → Prop) (Q : VK), (∀ b o, F b = some o → H b = some o) → OwnD X.K F H a d → Dens X.K F ds vs → f d ds Qf →
    (∀ d' q v o', OwnD X.K F (upd H a o') a d' → Den X.K F q v → Qf d' q → Q v (upd H a o')) → r (.ref a) vs H Q
/-- on the i-th slot's own object -/
def dMut (T : String) (i : Nat) (f : FM) (t : TDA) : TD := fun ρ Q => match ρ[i]? with
  | some (some (.o d0)) => (∀ K F H a, OwnD K F H a d0 → tyV K T (.ref a) H) ∧ t ρ fun ρ1 rs => match frzL ρ1 rs with
    | some (ρ2, ds) => match ρ2[i]? with
      | some (some (.o d)) => f d ds fun d' q => Q (ρ2.set i (some (.o d'))) (.z q)
      | _ => False
    | none => False
  | _ => False
section
variable {X : Cx} {T id : String} {name x : Str} {r : V → List V → Hp → VK → Prop} {f : FM} {e : Expr} {es : List Expr} {t : TDA} {i : Nat} {p apos cpos : Pos}
theorem lift_mut (hf : OpMut X T r f) {σ : L2.St} {H : Hp} {Q : VK} (h : liftE X (dMut T i f t) σ H Q) : tBM X.K T r (liftE X (dVar i)) (liftA X t) σ H Q := by
  obtain ⟨g, lk, β, ρ, ts, Qd, hK, ⟨F, A⟩, t, q⟩ := h
  unfold dMut at t
  cases e : ρ[i]? with
  | none => rw [e] at t; exact t.elim
  | some oo =>
    cases oo with
    | none => rw [e] at t; exact t.elim
    | some rr =>
      cases rr with
      | o d0 =>
        rw [e] at t
        obtain ⟨ty, t⟩ := t
        obtain ⟨_, x, h1, a, hx, ow⟩ := A.slot i _ e
        subst hx
        refine ⟨g, lk, β, ρ, ts, fun ρ' r' => ρ' = ρ ∧ r' = .b i, hK, ⟨F, A⟩, by unfold dVar; rw [e]; exact ⟨rfl, rfl⟩, fun ρ' r' v H1 ⟨F1, A1⟩ er => ?_⟩
        obtain ⟨rfl, rfl⟩ := er
        -- the value is the slot's
        obtain ⟨_, x1, g1, a1, hx1, ow1⟩ := A1.slot i _ e
        subst hx1
        have hb : β[i]? = some (some v) := A1.tmp (v, .b i) (by simp)
        rw [A1.link i d0 e, g1] at hb
        cases hb
        refine ⟨by rw [← hK]; exact ty _ _ _ _ ow1.at_, g, lk, β, ρ', ts ++ [(.ref a1, .b i)], _, hK, ⟨F1, A1⟩, t, fun ρ2 rs vs H2 hl ⟨F2, A2⟩ t2 => ?_⟩
        cases ef : frzL ρ2 rs with
        | none => simp only [ef] at t2
        | some pr =>
          obtain ⟨ρ3, ds⟩ := pr
          simp only [ef] at t2
          obtain ⟨F3, _, A3, dv⟩ := A2.freezeL hl ef
          cases e3 : ρ3[i]? with
          | none => rw [e3] at t2; exact t2.elim
          | some o3 =>
            cases o3 with
            | none => rw [e3] at t2; exact t2.elim
            | some r3 =>
              cases r3 with
              | o d =>
                rw [e3] at t2
                obtain ⟨_, x3, g3, a3, hx3, ow3⟩ := A3.slot i _ e3
                subst hx3
                have hb3 : β[i]? = some (some (.ref a1)) := A3.tmp (.ref a1, .b i) (by simp)
                rw [A3.link i d e3, g3] at hb3
                cases hb3
                have ow4 := ow3.at_
                rw [hK] at ow4 dv
                refine hf.2 F3 H2 _ vs d ds _ Q A3.core.sub ow4 dv t2 fun d' q' v o' od dq tq => ?_
                rw [← hK] at od dq
                exact q _ _ _ _ ⟨F3, ((A3.sub (List.sublist_append_left _ _)).writeS g3 e3 od).push_z dq⟩ tq
              | _ => rw [e3] at t2; exact t2.elim
      | _ => rw [e] at t; exact t.elim
theorem pd_mut (pa : PlainAttrs T) (slot : Slot T name id) (hty : typeOf (.builtin id) = pure (.type "method_descriptor")) (hm : MtR X id r) (hf : OpMut X T r f) (ho : PD X (.Name x p) (dVar i)) (ha : PDA X (e :: es) t)
    (hbase : attributeBase (.Name x p) name X.env (eval (.Name x p) X.env) = eval (.Name x p) X.env := by rfl)
    (hfew : ((backTo cpos (starEach (e :: es) X.env)).all (fun x => !x.1) && (backToKw cpos (keywordEach [] X.env)).all (fun x => x.1.isSome)
      && decide ((e :: es).length + ([] : List Keyword).length + (if ([] : List Keyword).isEmpty then 0 else 1) < 30)) = true := by rfl)
    (hline : (apos.endLine == cpos.line) = true := by rfl) (hs : starEach (e :: es) X.env = (false, eval e X.env) :: starEach es X.env := by rfl) (hplain : (backTo cpos (starEach es X.env)).any (·.1) = false := by rfl) :
    PD X (.Call (.Attribute (.Name x p) name apos) (e :: es) [] cpos) (dMut T i f t) :=
  PE.weak (pe_bm pa slot hty hm ho ha hbase hfew hline hs hplain) fun σ H Q h => lift_mut hf h
theorem pd_mut0 (pa : PlainAttrs T) (slot : Slot T name id) (hty : typeOf (.builtin id) = pure (.type "method_descriptor")) (hm : MtR X id r) (hf : OpMut X T r f) (ho : PD X (.Name x p) (dVar i))
    (hbase : attributeBase (.Name x p) name X.env (eval (.Name x p) X.env) = eval (.Name x p) X.env := by rfl) (hline : (apos.endLine == cpos.line) = true := by rfl) :
    PD X (.Call (.Attribute (.Name x p) name apos) [] [] cpos) (dMut T i f aNil) := by
  refine PE.weak (pe_bm0 pa slot hty hm ho hbase hline) fun σ H Q h => ?_
  have := lift_mut hf h
  obtain ⟨g, lk, β, ρ, ts, Qd, hK, A, t, q⟩ := this
  refine ⟨g, lk, β, ρ, ts, Qd, hK, A, t, fun ρ' r' v H1 A1 t1 => ?_⟩
  obtain ⟨ty, g2, lk2, β2, ρ2, ts2, Qd2, hK2, A2, t2, q2⟩ := q ρ' r' v H1 A1 t1
  exact ⟨ty, q2 ρ2 [] [] H1 rfl (by simpa using A2) t2⟩
end
/-! ### lists -/
def fAppend : FM := fun d ds Q => match d, ds with
  | .lst xs, [e] => xs.length < sizeLine ∧ Q (.lst (xs ++ [e])) .non
  | _, _ => False
def fExtend : FM := fun d ds Q => match d, ds with
  | .lst xs, [.lst ys] => xs.length + ys.length ≤ sizeLine ∧ Q (.lst (xs ++ ys)) .non
  | _, _ => False
def fPop : FM := fun d ds Q => match d, ds with
  | .lst xs, [] => match xs[xs.length - 1]? with
    | some e => Q (.lst xs.dropLast) e
    | none => False
  | _, _ => False
def fPopAt : FM := fun d ds Q => match d, ds with
  | .lst xs, [.int i] => 0 ≤ i ∧ match xs[i.toNat]? with
    | some e => Q (.lst (xs.eraseIdx i.toNat)) e
    | none => False
  | _, _ => False
def fReverse : FM := fun d ds Q => match d, ds with
  | .lst xs, [] => Q (.lst xs.reverse) .non
  | _, _ => False
def fClear : FM := fun d ds Q => match d, ds with
  | .lst xs, [] => Q (.lst []) .non
  | _, _ => False
section
variable {X : Cx}
theorem own_list_ty {K : PySem.W.Frag} {F H : Hp} {a : Addr} {xs : List D} (o : OwnD K F H a (.lst xs)) : tyV K "list" (.ref a) H := let ⟨vs, e, _⟩ := o; .inl ⟨rfl, vs, .of e⟩
theorem om_append : OpMut X "list" rAppend fAppend := by
  refine ⟨fun F H a d ds Qf o h => ?_, fun F H a vs d ds Qf Q s o dv h k => ?_⟩ <;> unfold fAppend at h <;> split at h
  · exact own_list_ty o
  · exact h.elim
  · obtain ⟨us, e, z, r⟩ := o
    cases dv with
    | cons dv t =>
      cases t
      have hl : us.length < sizeLine := by rw [← r.length]; exact h.1
      exact ⟨a, us, _, rfl, rfl, e, hl, k (.lst _) _ _ _ ⟨_, upd_same, by rw [List.length_append]; exact hl, r.append (.one dv)⟩ .non h.2⟩
  · exact h.elim
theorem om_extend : OpMut X "list" rExtend fExtend := by
  refine ⟨fun F H a d ds Qf o h => ?_, fun F H a vs d ds Qf Q s o dv h k => ?_⟩ <;> unfold fExtend at h <;> split at h
  · exact own_list_ty o
  · exact h.elim
  · obtain ⟨us, e, z, r⟩ := o
    cases dv with
    | cons dv t =>
      cases t
      cases dv with
      | @lst b zs es h2 z2 r2 =>
        have hl : us.length + zs.length ≤ sizeLine := by rw [← r.length, ← r2.length]; exact h.1
        exact ⟨a, b, us, zs, rfl, rfl, e, s _ _ h2, hl, k (.lst _) _ _ _ ⟨_, upd_same, by rw [List.length_append]; exact hl, r.append r2⟩ .non h.2⟩
  · exact h.elim
theorem om_pop : OpMut X "list" rPop fPop := by
  refine ⟨fun F H a d ds Qf o h => ?_, fun F H a vs d ds Qf Q s o dv h k => ?_⟩ <;> unfold fPop at h <;> split at h
  · exact own_list_ty o
  · exact h.elim
  · obtain ⟨us, e, z, r⟩ := o
    cases dv
    split at h
    · rename_i x hx
      obtain ⟨v, hv, dx⟩ := r.getD hx
      rw [r.length] at hv
      exact ⟨a, us, v, rfl, rfl, e, hv, k (.lst _) _ _ _ ⟨_, upd_same, by rw [List.length_dropLast]; omega, r.dropLast⟩ dx h⟩
    · exact h.elim
  · exact h.elim
theorem om_popAt : OpMut X "list" rPopAt fPopAt := by
  refine ⟨fun F H a d ds Qf o h => ?_, fun F H a vs d ds Qf Q s o dv h k => ?_⟩ <;> unfold fPopAt at h <;> split at h
  · exact own_list_ty o
  · exact h.elim
  · rename_i xs i
    obtain ⟨us, e, z, r⟩ := o
    cases dv with
    | cons dv t =>
      cases t
      cases dv
      obtain ⟨h0, h⟩ := h
      split at h
      · rename_i x hx
        obtain ⟨v, hv, dx⟩ := r.getD hx
        have hlt : i.toNat < us.length := (List.getElem?_eq_some_iff.mp hv).1
        have hz := sizeLine_eq
        refine ⟨a, us, i, i.toNat, v, rfl, rfl, e, by omega, by omega, ?_, hv, k (.lst _) _ _ _ ⟨_, upd_same, Nat.le_trans (len_erase _ _) z, r.eraseIdx _⟩ dx h⟩
        rw [seqIndex_of h0 (by omega)]
      · exact h.elim
  · exact h.elim
theorem om_reverse : OpMut X "list" rReverse fReverse := by
  refine ⟨fun F H a d ds Qf o h => ?_, fun F H a vs d ds Qf Q s o dv h k => ?_⟩ <;> unfold fReverse at h <;> split at h
  · exact own_list_ty o
  · exact h.elim
  · obtain ⟨us, e, z, r⟩ := o
    cases dv
    exact ⟨a, us, rfl, rfl, e, k (.lst _) _ _ _ ⟨_, upd_same, by rw [List.length_reverse]; exact z, r.reverse⟩ .non h⟩
  · exact h.elim
theorem om_clear : OpMut X "list" rClear fClear := by
  refine ⟨fun F H a d ds Qf o h => ?_, fun F H a vs d ds Qf Q s o dv h k => ?_⟩ <;> unfold fClear at h <;> split at h
  · exact own_list_ty o
  · exact h.elim
  · obtain ⟨us, e, z, r⟩ := o
    cases dv
    exact ⟨a, us, rfl, rfl, e, k (.lst _) _ _ _ ⟨_, upd_same, Nat.zero_le _, .nil⟩ .non h⟩
  · exact h.elim
theorem ty_list {xs : List D} : ∀ (K : PySem.W.Frag) (F H : Hp) (a : Addr), OwnD K F H a (.lst xs) → tyV K "list" (.ref a) H := fun _ _ _ _ o => own_list_ty o
end
/-! ### methods that only read -/
abbrev FR := D → List D → (R → Prop) → Prop
def OpRd (X : Cx) (r : V → List V → Hp → VK → Prop) (f : FR) : Prop := ∀ (g : Gm) (lk : List Addr) (β : Sg) (F : Hp) (σ : Sg) (ρ : Rho) (ts : Ts) (H : Hp) (x : V) (vs : List V) (d : D) (ds : List D) (Qr : R → Prop) (Q : VK), g.K = X.K → AtF g lk β F σ ρ ts H → DenT X.K F H x d → DTs X.K F H vs ds → f d ds Qr →
  (∀ v H' q, At g lk β σ ρ (ts ++ [(v, q)]) H' → Qr q → Q v H') → r x vs H Q
def tyD : D → String
  | .lst _ => "list"
  | .str _ => "str"
  | .int _ => "int"
  | _ => ""
def dRd (T : String) (f : FR) (to : TD) (t : TDA) : TD := fun ρ Q => to ρ fun ρ0 r0 => match viewR ρ0 r0 with
  | some d0 => tyD d0 = T ∧ t ρ0 fun ρ1 rs => match viewR ρ1 r0, viewL ρ1 rs with
    | some d, some ds => f d ds (Q ρ1)
    | _, _ => False
  | none => False
section
variable {X : Cx} {T id : String} {name : Str} {r : V → List V → Hp → VK → Prop} {f : FR} {e o : Expr} {es : List Expr} {to : TD} {t : TDA} {apos cpos : Pos}
theorem ty_of {K : PySem.W.Frag} {F H : Hp} {x : V} {d : D} (hT : T ≠ "") (h : DenT K F H x d) (e : tyD d = T) : tyV K T x H := by
  subst e
  cases d with
  | lst ds => obtain ⟨a, vs, rfl, h1, _⟩ := h; exact .inl ⟨rfl, vs, .of h1⟩
  | str z => obtain ⟨rfl, _⟩ := h; exact rfl
  | int i => cases h; exact rfl
  | _ => exact absurd rfl hT
theorem lift_rd (hT : T ≠ "") (hf : OpRd X r f) {σ : L2.St} {H : Hp} {Q : VK} (h : liftE X (dRd T f to t) σ H Q) : tBM X.K T r (liftE X to) (liftA X t) σ H Q := by
  obtain ⟨g, lk, β, ρ, ts, Qd, hK, A, t, q⟩ := h
  refine ⟨g, lk, β, ρ, ts, _, hK, A, t, fun ρ0 r0 v0 H0 ⟨F0, A0⟩ t0 => ?_⟩
  cases e0 : viewR ρ0 r0 with
  | none => simp only [e0] at t0
  | some d0 =>
    simp only [e0] at t0
    have h0 := A0.view (A0.tmp (v0, r0) (by simp)) e0
    rw [hK] at h0
    refine ⟨ty_of hT h0 t0.1, g, lk, β, ρ0, _, _, hK, ⟨F0, A0⟩, t0.2, fun ρ1 rs vs H1 hl ⟨F1, A1⟩ t1 => ?_⟩
    cases e1 : viewR ρ1 r0 with
    | none => simp only [e1] at t1
    | some d =>
      cases e2 : viewL ρ1 rs with
      | none => simp only [e1, e2] at t1
      | some ds =>
        simp only [e1, e2] at t1
        have h1 := A1.view (A1.tmp (v0, r0) (by simp)) e1
        have h2 := A1.viewL hl (fun c hc => List.mem_append_right _ hc) e2
        rw [hK] at h1 h2
        refine hf g lk β F1 σ ρ1 _ H1 v0 vs d ds _ Q hK A1 h1 h2 t1 fun v H' q' A3 t3 => q _ _ _ _ (A3.sub ?_) t3
        exact List.Sublist.append ((List.sublist_append_left _ _).trans (List.sublist_append_left _ _)) (List.Sublist.refl _)
theorem pd_rd (pa : PlainAttrs T) (slot : Slot T name id) (hty : typeOf (.builtin id) = pure (.type "method_descriptor")) (hm : MtR X id r) (hT : T ≠ "") (hf : OpRd X r f) (ho : PD X o to) (ha : PDA X (e :: es) t)
    (hbase : attributeBase o name X.env (eval o X.env) = eval o X.env := by rfl)
    (hfew : ((backTo cpos (starEach (e :: es) X.env)).all (fun x => !x.1) && (backToKw cpos (keywordEach [] X.env)).all (fun x => x.1.isSome)
      && decide ((e :: es).length + ([] : List Keyword).length + (if ([] : List Keyword).isEmpty then 0 else 1) < 30)) = true := by rfl)
    (hline : (apos.endLine == cpos.line) = true := by rfl) (hs : starEach (e :: es) X.env = (false, eval e X.env) :: starEach es X.env := by rfl) (hplain : (backTo cpos (starEach es X.env)).any (·.1) = false := by rfl) :
    PD X (.Call (.Attribute o name apos) (e :: es) [] cpos) (dRd T f to t) :=
  PE.weak (pe_bm pa slot hty hm ho ha hbase hfew hline hs hplain) fun σ H Q h => lift_rd hT hf h
theorem pd_rd0 (pa : PlainAttrs T) (slot : Slot T name id) (hty : typeOf (.builtin id) = pure (.type "method_descriptor")) (hm : MtR X id r) (hT : T ≠ "") (hf : OpRd X r f) (ho : PD X o to)
    (hbase : attributeBase o name X.env (eval o X.env) = eval o X.env := by rfl) (hline : (apos.endLine == cpos.line) = true := by rfl) :
    PD X (.Call (.Attribute o name apos) [] [] cpos) (dRd T f to aNil) := by
  refine PE.weak (pe_bm0 pa slot hty hm ho hbase hline) fun σ H Q h => ?_
  have := lift_rd hT hf h
  obtain ⟨g, lk, β, ρ, ts, Qd, hK, A, t, q⟩ := this
  refine ⟨g, lk, β, ρ, ts, Qd, hK, A, t, fun ρ' r' v H1 A1 t1 => ?_⟩
  obtain ⟨ty, g2, lk2, β2, ρ2, ts2, Qd2, hK2, A2, t2, q2⟩ := q ρ' r' v H1 A1 t1
  exact ⟨ty, q2 ρ2 [] [] H1 rfl (by simpa using A2) t2⟩
end
/-! the reading methods -/
/-- the first place of an equal one -/
def indexP (ps : List PyData) (p : PyData) : Option Nat := ps.findIdx? fun z => PyData.eqv z p
def fIndex : FR := fun d ds Q => match d, ds with
  | .lst xs, [e] => ∃ p ps, e.py = some p ∧ D.pys xs = some ps ∧ shp p ∧ shp (.list ps) ∧ match indexP ps p with
    | some j => Q (.z (.int (j : Nat)))
    | none => False
  | _, _ => False
def fJoin : FR := fun d ds Q => match d, ds with
  | .str a, [.lst xs] => match strsD xs with
    | some ys => (ys.map (·.length)).sum + ys.length * a.length ≤ 16777216 ∧ (Txt.join a ys).length ≤ sizeLine ∧ Q (.z (.str (Txt.join a ys)))
    | none => False
  | _, _ => False
def fStarts : FR := fun d ds Q => match d, ds with
  | .str a, [.str b] => Q (.z (.bl (Txt.startswith a b)))
  | _, _ => False
def fEndsw : FR := fun d ds Q => match d, ds with
  | .str a, [.str b] => Q (.z (.bl (Txt.endswith a b)))
  | _, _ => False
section
variable {X : Cx}
theorem or_index : OpRd X (rIndexD X.K) fIndex := fun g lk β F σ ρ ts H x vs d ds Qr Q hK A hx hv t k => by
  unfold fIndex at t
  split at t
  · obtain ⟨p, ps, e1, e2, s1, s2, t⟩ := t
    obtain ⟨v, rfl, hw⟩ := hv.one
    split at t
    · rename_i j hj
      unfold indexP at hj
      rw [List.findIdx?_eq_some_iff_getElem] at hj
      obtain ⟨hl, h1, h2⟩ := hj
      have hx' := hx
      obtain ⟨a, us, rfl, h3, z, r⟩ := hx
      refine ⟨a, v, p, ps, j, ps[j], rfl, rfl, DenT.dp A.core.sub hx' (by unfold D.py; rw [e2]), DenT.dp A.core.sub hw e1, s2, s1, List.getElem?_eq_getElem hl, h1, fun m z' hm hz => ?_, k _ _ _ (A.res_z (.int _)) t⟩
      obtain ⟨hm', e⟩ := List.getElem?_eq_some_iff.mp hz
      have := h2 m hm
      rw [← e]
      simpa using this
    · exact t.elim
  · exact t.elim
theorem or_join : OpRd X (fun x xs H Q => ∃ a p, ∃ ys : List Str, x = .str a ∧ xs = [.ref p] ∧ (SqL X.K H p (ys.map V.str) ∨ SqT X.K H p (ys.map V.str)) ∧ (ys.map (·.length)).sum + ys.length * a.length ≤ 16777216 ∧ Q (.str (Txt.join a ys)) H) fJoin := fun g lk β F σ ρ ts H x vs d ds Qr Q hK A hx hv t k => by
  unfold fJoin at t
  split at t
  · obtain ⟨v, rfl, hw⟩ := hv.one
    obtain ⟨rfl, _⟩ := hx
    split at t
    · rename_i ys hy
      obtain ⟨a, us, rfl, h3, z, r⟩ := hw
      rw [strsD_eq hy] at r
      obtain ⟨e, _⟩ := r.strs
      subst e
      exact ⟨_, a, ys, rfl, rfl, .inl (.of h3), t.1, k _ _ _ (A.res_z (.str _ t.2.1)) t.2.2⟩
    · exact t.elim
  · exact t.elim
theorem or_starts : OpRd X (fun x xs H Q => ∃ a b, x = .str a ∧ xs = [.str b] ∧ Q (.bl (Txt.startswith a b)) H) fStarts := fun g lk β F σ ρ ts H x vs d ds Qr Q hK A hx hv t k => by
  unfold fStarts at t
  split at t
  · obtain ⟨v, rfl, hw⟩ := hv.one
    obtain ⟨rfl, _⟩ := hx
    obtain ⟨rfl, _⟩ := hw
    exact ⟨_, _, rfl, rfl, k _ _ _ (A.res_z (.bl _)) t⟩
  · exact t.elim
theorem or_ends : OpRd X (fun x xs H Q => ∃ a b, x = .str a ∧ xs = [.str b] ∧ Q (.bl (Txt.endswith a b)) H) fEndsw := fun g lk β F σ ρ ts H x vs d ds Qr Q hK A hx hv t k => by
  unfold fEndsw at t
  split at t
  · obtain ⟨v, rfl, hw⟩ := hv.one
    obtain ⟨rfl, _⟩ := hx
    obtain ⟨rfl, _⟩ := hw
    exact ⟨_, _, rfl, rfl, k _ _ _ (A.res_z (.bl _)) t⟩
  · exact t.elim
end
end Dl
set_option Elab.async false
set_option linter.all false
set_option maxRecDepth 100000
set_option maxHeartbeats 4000000
/-! zip of two, each a list, a tuple or a text -/
namespace Lw
open PySem PySem.Spec PyProof.Rows L2
inductive Kd where
  | l (a : Addr) | t (a : Addr) | s (x : Str)
def Kd.v : Kd → V
  | .l a => .ref a
  | .t a => .ref a
  | .s x => .str x
def Kd.has (K : PySem.W.Frag) (H : Hp) : Kd → List V → Prop
  | .l a, xs => SqL K H a xs
  | .t a, xs => SqT K H a xs
  | .s x, xs => xs = x.cps.toList.map fun c => V.str ⟨#[c]⟩
def Kd.fps : Kd → List Addr
  | .l a => [a]
  | .t a => [a]
  | .s _ => []
def Kd.it (u : Tok) (i : Addr) : Kd → Nat → Heap → Prop
  | .l a, j, h => h.IsListIter i a j
  | .t a, j, h => h.IsTupleIter i a j
  | .s x, j, h => h.IsStrIter i (strIterType x) x u j
theorem Kd.it_at {u : Tok} {i : Addr} {k : Kd} {j : Nat} {h h' : Heap} (x : k.it u i j h) (f : ∀ o, h.get? i = some o → h'.get? i = some o) : k.it u i j h' := by
  cases k with
  | l a => exact Heap.IsListIter.at x f
  | t a => exact Heap.IsTupleIter.at x f
  | s z => obtain ⟨o, e, r⟩ := x; exact ⟨o, f o e, r⟩
theorem Kd.it_obj {u : Tok} {i : Addr} {k : Kd} {j : Nat} {h : Heap} (x : k.it u i j h) : ∃ o, h.get? i = some o ∧ ∀ v, o.data ≠ .cell v := by
  cases k with
  | l a => obtain ⟨o, e, _, d⟩ := x; exact ⟨o, e, fun v q => by rw [d] at q; cases q⟩
  | t a => obtain ⟨o, e, _, d⟩ := x; exact ⟨o, e, fun v q => by rw [d] at q; cases q⟩
  | s z => obtain ⟨o, e, _, d⟩ := x; exact ⟨o, e, fun v q => by rw [d] at q; cases q⟩
section
variable {X : Cx} {pins : List (Addr × Obj)} {σ : L2.St} {H : Hp} {s : Shared}
theorem Kd.inj (I : Inv X pins σ H s) {k : Kd} {xs ys : List V} (h : k.has X.K H xs) (h' : k.has X.K H ys) : xs = ys := by
  cases k with
  | l a => exact I.list_inj h h'
  | t a => exact I.tuple_inj h h'
  | s z => exact Eq.trans h (Eq.symm h')
theorem Kd.lt (I : Inv X pins σ H s) {k : Kd} {xs : List V} (h : k.has X.K H xs) : ∀ b ∈ k.fps, b < s.heap.objs.size := fun b hb => by
  cases k with
  | l a => obtain ⟨its, rv, p, _⟩ := I.list h; rw [List.mem_singleton.mp hb]; exact p.lt
  | t a => obtain ⟨its, rv, p, _⟩ := I.tuple h; obtain ⟨o, e, _⟩ := p; rw [List.mem_singleton.mp hb]; exact Heap.lt_size e
  | s z => cases hb
theorem Kd.draws (I : Inv X pins σ H s) {A : Around} (hh : A.handled = none) {k : Kd} {xs : List V} {u : Tok} {i : Addr} {j : Nat} (h : k.has X.K H xs) (x : k.it u i j s.heap) (ne : ∀ b ∈ k.fps, b ≠ i) :
    ∃ (n : Nat) (P : Nat → Value → Prop) (St : Nat → Heap → Prop), n = xs.length ∧ Draws X.prog X.w A i (i :: k.fps) n P St ∧ St j s.heap ∧ (∀ m v, P m v → ∃ y, xs[m]? = some y ∧ RelV y v) ∧ ∀ m h, St m h → k.it u i m h := by
  cases k with
  | l a =>
    obtain ⟨its, rv, p, _⟩ := I.list h
    have hl := rv.length
    refine ⟨_, _, _, ?_, Draws.list hh i a (ne a (by simp [Kd.fps])) its.toArray, ⟨x, p.isList⟩, fun m v e => ?_, fun m h st => st.1⟩
    · simp [hl]
    · have e' : its[m]? = some v := by simpa using e
      have hm : m < xs.length := by rw [hl]; exact (List.getElem?_eq_some_iff.mp e').1
      obtain ⟨u', hu, ru⟩ := rv.get (List.getElem?_eq_getElem hm)
      rw [hu] at e'
      cases e'
      exact ⟨_, List.getElem?_eq_getElem hm, ru⟩
  | t a =>
    obtain ⟨its, rv, p, _⟩ := I.tuple h
    have hl := rv.length
    refine ⟨_, _, _, ?_, Draws.tuple hh i a (ne a (by simp [Kd.fps])) its.toArray, ⟨x, p⟩, fun m v e => ?_, fun m h st => st.1⟩
    · simp [hl]
    · have e' : its[m]? = some v := by simpa using e
      have hm : m < xs.length := by rw [hl]; exact (List.getElem?_eq_some_iff.mp e').1
      obtain ⟨u', hu, ru⟩ := rv.get (List.getElem?_eq_getElem hm)
      rw [hu] at e'
      cases e'
      exact ⟨_, List.getElem?_eq_getElem hm, ru⟩
  | s z =>
    have h : xs = z.cps.toList.map fun c => V.str ⟨#[c]⟩ := h
    subst h
    refine ⟨_, _, _, ?_, Draws.text hh i z u, x, fun m v hm => ?_, fun m h st => st⟩
    · simp
    · obtain ⟨c, t, e, ev⟩ := hm
      subst ev
      refine ⟨.str ⟨#[c]⟩, ?_, t, rfl⟩
      rw [List.getElem?_map, Array.getElem?_toList, e]
      rfl
end
/-- at each turn a new pair -/
def ItzK (K : PySem.W.Frag) (k1 k2 : Kd) : It :=
  ⟨fun i H => ∃ (xs ys : List V), k1.has K H xs ∧ k2.has K H ys ∧ i < xs.length ∧ i < ys.length,
    fun i H v H' => ∃ T x y, v = .ref T ∧ H T = none ∧ H' = upd H T (.tup [x, y]) ∧ (∀ xs, k1.has K H xs → xs[i]? = some x) ∧ ∀ ys, k2.has K H ys → ys[i]? = some y,
    fun i H => ∃ xs ys : List V, k1.has K H xs ∧ k2.has K H ys ∧ i = min xs.length ys.length⟩
theorem turn_zipK {P : Program} {w : World} {K : PySem.W.Frag} {elts : List Expr} {kk : Nat} {tpos : Pos} {k1 k2 : Kd} {t1 t2 : Tok} {z TI TO i1 i2 : Addr} (D : ZipSep2 z TI TO i1 i2 (i1 :: k1.fps) (i2 :: k2.fps)) (n1 : ∀ b ∈ k1.fps, b ≠ i1) (n2 : ∀ b ∈ k2.fps, b ≠ i2) :
    Turn P w K (.Tuple elts kk tpos) (ItzK K k1 k2) [z, TI, TO, i1, i2] z (fun i h => IsZip h z TI TO .none ∧ IsTupOf2 h TI (.ref i1) (.ref i2) ∧ (∃ a b, IsTupOf2 h TO a b) ∧ k1.it t1 i1 i h ∧ k2.it t2 i2 i h) where
  mem := by simp
  obj := fun i h st c hc => by
    obtain ⟨hz, hTI, ⟨a, b, hTO⟩, h1, h2⟩ := st
    have e' : c = z ∨ c = TI ∨ c = TO ∨ c = i1 ∨ c = i2 := by simpa using hc
    rcases e' with q | q | q | q | q
    · rw [q]; exact ⟨_, hz, fun v q => nomatch q⟩
    · rw [q]; exact ⟨_, hTI, fun v q => nomatch q⟩
    · rw [q]; exact ⟨_, hTO, fun v q => nomatch q⟩
    · rw [q]; exact Kd.it_obj h1
    · rw [q]; exact Kd.it_obj h2
  keep := fun i h h' st k => by
    obtain ⟨hz, hTI, ⟨a, b, hTO⟩, h1, h2⟩ := st
    exact ⟨k z (by simp) _ hz, k TI (by simp) _ hTI, ⟨a, b, k TO (by simp) _ hTO⟩, Kd.it_at h1 fun o e => k i1 (by simp) o e, Kd.it_at h2 fun o e => k i2 (by simp) o e⟩
  item := by
    intro X hP hw hK hc i pins s σ H E I hf st hg
    subst hP hw hK
    obtain ⟨hz, hTI, ⟨x0, y0, hTO⟩, h1, h2⟩ := st
    obtain ⟨xs, ys, g1, g2, l1, l2⟩ := hg
    have hzl : z < s.heap.objs.size := Heap.lt_size hz
    obtain ⟨m1, P1, S1, e1, d1, st1, v1, b1⟩ := Kd.draws I (A := X.A.in1) (I.ok.hd hc) g1 h1 n1
    obtain ⟨m2, P2, S2, e2, d2, st2, v2, b2⟩ := Kd.draws I (A := X.A.in1) (I.ok.hd hc) g2 h2 n2
    refine wpAny_pyNext_zipD2_item D d1 d2 hz hTI hTO st1 st2 (by omega) (by omega) fun u u2 h' tk pu pu2 z' TO' h1' h2' hT hsz hk => ?_
    obtain ⟨x, hx, rx⟩ := v1 _ _ pu
    obtain ⟨y, hy, ry⟩ := v2 _ _ pu2
    refine ⟨_, rfl, wpAny_letOwnedTupleGo_zip (s := { s with heap := h', toks := tk }) z' fun h'' z'' sb => ?_⟩
    have hT2 : h''.get? s.heap.objs.size = some { cls := .type "tuple", data := .seq #[u, u2] } := (sb.2 _ (Nat.ne_of_gt hzl)).trans hT
    have new : ObjOk X.prog X.w (upd H s.heap.objs.size (.tup [x, y])) h'' s.heap.objs.size (.tup [x, y]) :=
      ⟨by show 2 ≤ sizeLine; decide, [u, u2], .cons rx (.cons ry .nil), ⟨_, hT2, rfl, _, rfl⟩⟩
    have I1 : Inv X pins σ (upd H s.heap.objs.size (.tup [x, y])) { s with heap := h'', toks := tk } :=
      I.turnedNew (t' := tk) (ch := [z, TI, TO, i1, i2]) (fun c o hb q => (sb.2 c (fun q' => hb (by simp [q']))).trans (hk c o (fun q' => hb (by simp [q'])) (fun q' => hb (by simp [q'])) (fun q' => hb (by simp [q'])) (fun q' => hb (by simp [q'])) q)) hf (Nat.le_refl _) new
    refine ⟨.ref s.heap.objs.size, _, I1, rfl, ⟨_, x, y, rfl, I.hok.fresh (Nat.le_refl _), rfl, fun l hl => by rw [Kd.inj I hl g1]; exact hx, fun l hl => by rw [Kd.inj I hl g2]; exact hy⟩, ⟨z'', ?_, ⟨u, u2, ?_⟩, ?_, ?_⟩, fun c hcm => ?_⟩
    · exact (sb.2 _ D.TIz).trans (hk _ _ D.TIz D.TITO D.TIi1 D.TIi2 hTI)
    · exact (sb.2 _ D.TOz).trans TO'
    · exact Kd.it_at (b1 _ _ h1') fun o e => (sb.2 _ (fun q => D.zf1 (by rw [← q]; exact D.mem1))).trans e
    · exact Kd.it_at (b2 _ _ h2') fun o e => (sb.2 _ (fun q => D.zf2 (by rw [← q]; exact D.mem2))).trans e
    · have hlt : c < s.heap.objs.size := by
        have e' : c = z ∨ c = TI ∨ c = TO ∨ c = i1 ∨ c = i2 := by simpa using hcm
        rcases e' with q | q | q | q | q
        · rw [q]; exact hzl
        · rw [q]; exact Heap.lt_size hTI
        · rw [q]; exact Heap.lt_size hTO
        · rw [q]; obtain ⟨_, e, _⟩ := Kd.it_obj h1; exact Heap.lt_size e
        · rw [q]; obtain ⟨_, e, _⟩ := Kd.it_obj h2; exact Heap.lt_size e
      rw [upd_ne (Nat.ne_of_lt hlt)]
      exact (hf c hcm).1
  done := by
    intro X hP hw hK hc i pins s σ H E I hf st hg
    subst hP hw hK
    obtain ⟨hz, hTI, ⟨x0, y0, hTO⟩, h1, h2⟩ := st
    obtain ⟨xs, ys, g1, g2, l1⟩ := hg
    obtain ⟨m1, P1, S1, e1, d1, st1, v1, b1⟩ := Kd.draws I (A := X.A.in1) (I.ok.hd hc) g1 h1 n1
    obtain ⟨m2, P2, S2, e2, d2, st2, v2, b2⟩ := Kd.draws I (A := X.A.in1) (I.ok.hd hc) g2 h2 n2
    exact wpAny_pyNext_zipD2_end D d1 d2 hz hTI hTO st1 st2 (by omega) (by omega) (by omega) fun h' tk hk => ⟨rfl, I.turnedL (t' := tk) (ch := [z, TI, TO, i1, i2]) (fun c o hb q =>
      hk c o (fun q' => hb (by simp [q'])) (fun q' => hb (by simp [q'])) (fun q' => hb (by simp [q'])) (fun q' => hb (by simp [q'])) q) hf⟩
  self := fun A i s Q E st h => wpAny_pyIter_zip st.1 h
/-- a value as one to walk -/
theorem Kd.begins {X : Cx} {pins : List (Addr × Obj)} {σ : L2.St} {H : Hp} {s : Shared} (I : Inv X pins σ H s) {k : Kd} {xs : List V} {u : Value} (h : k.has X.K H xs) (r : RelV k.v u) :
    ∃ (t : Tok) (o : Obj) (Hh : Heap → Prop), PySem.Begins u o Hh ∧ Hh s.heap ∧ ∀ (i : Addr) (h' : Heap), h'.get? i = some o → k.it t i 0 h' := by
  cases k with
  | l a =>
    cases (show u = Value.ref a from r)
    obtain ⟨its, rv, p, _⟩ := I.list h
    exact ⟨0, _, _, begins_list a its.toArray, p.isList, fun i h' e => ⟨_, e, rfl, rfl⟩⟩
  | t a =>
    cases (show u = Value.ref a from r)
    obtain ⟨its, rv, p, _⟩ := I.tuple h
    exact ⟨0, _, _, begins_tuple a its.toArray, p, fun i h' e => ⟨_, e, rfl, rfl⟩⟩
  | s z =>
    obtain ⟨t, e⟩ := (show ∃ t, u = Value.str z t from r)
    subst e
    exact ⟨t, _, _, begins_text z t, trivial, fun i h' e => ⟨_, e, rfl, rfl⟩⟩
def iZipK (K : PySem.W.Frag) (ta : TA) : TI := fun σ H R => ta σ H fun vs H1 => ∃ k1 k2 xs ys, vs = [Kd.v k1, Kd.v k2] ∧ k1.has K H1 xs ∧ k2.has K H1 ys ∧ R (ItzK K k1 k2) H1
theorem pi_zipK {X : Cx} {e e2 : Expr} {ta : TA} {p pos tpos : Pos} {elts : List Expr} {kk : Nat} (hg : Gl X "zip") (hm : X.mg "zip" = none) (ha : PA X [e, e2] ta)
    (hs : starEach [e, e2] X.env = (false, eval e X.env) :: starEach [e2] X.env := by rfl) (hpl : (backTo pos (starEach [e2] X.env)).any (·.1) = false := by rfl) :
    PI X (.Tuple elts kk tpos) (.Call (.Name "zip" p) [e, e2] [] pos) (iZipK X.K ta) := by
  refine ⟨fun pins s σ H R I h => ?_⟩
  refine Call_ (ld_blt I hg hm PyProof.Rows.boot_zip (PyProof.Rows.callWith_type1 (thn (ha.run pos pins s σ H _ I h) fun us s1 ⟨vs, H1, I1, r1, q1⟩ => ?_) hs hpl))
  obtain ⟨k1, k2, xs, ys, ex, g1, g2, q⟩ := q1
  subst ex
  obtain ⟨u1, u2, eu, ru1, ru2⟩ := vals2 r1
  subst eu
  obtain ⟨t1, o1, Q1, b1, c1, d1⟩ := Kd.begins I1 g1 ru1
  obtain ⟨t2, o2, Q2, b2, c2, d2⟩ := Kd.begins I1 g2 ru2
  have lt1 := Kd.lt I1 g1
  have lt2 := Kd.lt I1 g2
  refine zip_begins2 b1 b2 c1 c2 fun h' hz hTI hTO h1 h2 hsz hk => wpAny_pyIter_zip hz ?_
  have I2 : Inv X pins σ H1 { s1 with heap := h' } := I1.kept (t' := s1.toks) hk
  refine ⟨s1.heap.objs.size + 4, [s1.heap.objs.size + 4, s1.heap.objs.size + 2, s1.heap.objs.size + 3, s1.heap.objs.size, s1.heap.objs.size + 1], _, _, H1, rfl, I2,
    turn_zipK (t1 := t1) (t2 := t2) (zip_sep2 (N := s1.heap.objs.size) (fp1 := k1.fps) (fp2 := k2.fps) lt1 lt2) (fun b hb => Nat.ne_of_lt (lt1 b hb)) (fun b hb => Nat.ne_of_lt (Nat.lt_succ_of_lt (lt2 b hb))), ⟨hz, hTI, ⟨_, _, hTO⟩, d1 _ _ h1, d2 _ _ h2⟩, fun c hcm => ?_, q⟩
  have e' : c = s1.heap.objs.size + 4 ∨ c = s1.heap.objs.size + 2 ∨ c = s1.heap.objs.size + 3 ∨ c = s1.heap.objs.size ∨ c = s1.heap.objs.size + 1 := by simpa using hcm
  have hle : s1.heap.objs.size ≤ c := by
    rcases e' with z | z | z | z | z
    · rw [z]; exact Nat.le_add_right _ _
    · rw [z]; exact Nat.le_add_right _ _
    · rw [z]; exact Nat.le_add_right _ _
    · rw [z]; exact Nat.le_refl _
    · rw [z]; exact Nat.le_add_right _ _
  exact I1.fpOk hle (I1.hok.fresh hle)
end Lw
set_option autoImplicit false
set_option Elab.async false
set_option linter.all false
set_option maxRecDepth 100000
set_option maxHeartbeats 2000000
/-! further operators, chains, isinstance, zip -/
namespace Dl
open PySem PySem.Spec PyProof.Rows L2 LamX
/-! ### order -/
def fCmp (fi : Int → Int → Bool) (fs : Str → Str → Bool) (ft : List Int → List Int → Option Bool) : F2 := fun d e Q => match d, e with
  | .int i, .int j => Q (.z (.bl (fi i j)))
  | .str x, .str y => Q (.z (.bl (fs x y)))
  | .tup xs, .tup ys => match intsD xs, intsD ys with
    | some ns, some ms => match ft ns ms with
      | some b => Q (.z (.bl b))
      | none => False
    | _, _ => False
  | _, _ => False
def ltS (x y : Str) : Bool := decide (x.cps.toList < y.cps.toList)
def fLt : F2 := fCmp (fun i j => decide (i < j)) ltS fun ns ms => some (HT.lexLt ns ms)
def fLe : F2 := fCmp (fun i j => decide (i ≤ j)) (fun x y => !ltS y x) fun _ _ => none
def fGt : F2 := fCmp (fun i j => decide (j < i)) (fun x y => ltS y x) fun _ _ => none
def fGe : F2 := fCmp (fun i j => decide (j ≤ i)) (fun x y => !ltS x y) fun _ _ => none
def rLtS (f : Str → Str → Bool) : R2 := fun x y H Q => ∃ i j, x = .str i ∧ y = .str j ∧ Q (.bl (f i j)) H
def rLtA (K : PySem.W.Frag) : R2 := fun x y H Q => (rI0 fun i j => V.bl (decide (i < j))) x y H Q ∨ rLtS ltS x y H Q ∨ rLtT K x y H Q
def rLe1 : R2 := fun x y H Q => (rI0 fun i j => V.bl (decide (i ≤ j))) x y H Q ∨ rLtS (fun x y => !ltS y x) x y H Q
def rGt1 : R2 := fun x y H Q => (rI0 fun i j => V.bl (decide (j < i))) x y H Q ∨ rLtS (fun x y => ltS y x) x y H Q
def rGe1 : R2 := fun x y H Q => (rI0 fun i j => V.bl (decide (j ≤ i))) x y H Q ∨ rLtS (fun x y => !ltS x y) x y H Q
section
variable {X : Cx}
theorem op_ltA (hu : X.A.units < cLine) : OpR X (compareOp .Lt) (rLtA X.K) := OpR.or op_lt (OpR.or op_lt_str (op_ltT hu))
theorem op_leA : OpR X (compareOp .LtE) rLe1 := OpR.or op_le op_le_str
theorem op_gtA : OpR X (compareOp .Gt) rGt1 := OpR.or op_gt op_gt_str
theorem op_geA : OpR X (compareOp .GtE) rGe1 := OpR.or op_ge op_ge_str
theorem o2_lt : Op2 X (rLtA X.K) fLt := fun g lk β F σ ρ ts H x y d e Qr Q hK A hx hy t k => by
  cases d with
  | int i => cases e with
    | int j => cases hx; cases hy; exact .inl ⟨i, j, rfl, rfl, k _ _ _ (A.res_z (.bl _)) t⟩
    | _ => exact t.elim
  | str i => cases e with
    | str j => obtain ⟨rfl, _⟩ := hx; obtain ⟨rfl, _⟩ := hy; exact .inr (.inl ⟨i, j, rfl, rfl, k _ _ _ (A.res_z (.bl _)) t⟩)
    | _ => exact t.elim
  | tup xs => cases e with
    | tup ys =>
      unfold fLt fCmp at t
      simp only at t
      cases e1 : intsD xs with
      | none => simp only [e1] at t
      | some ns =>
        cases e2 : intsD ys with
        | none => simp only [e1, e2] at t
        | some ms =>
          simp only [e1, e2] at t
          obtain ⟨a, vs, rfl, h1, z1, r1⟩ := hx
          obtain ⟨b, us, rfl, h2, z2, r2⟩ := hy
          rw [intsD_eq e1] at r1
          rw [intsD_eq e2] at r2
          exact .inr (.inr ⟨a, b, ns, ms, rfl, rfl, .of (by rw [← r1.ints]; exact A.core.sub _ _ h1), .of (by rw [← r2.ints]; exact A.core.sub _ _ h2), k _ _ _ (A.res_z (.bl _)) t⟩)
    | _ => exact t.elim
  | _ => exact t.elim
theorem o2_cmp1 {fi : Int → Int → Bool} {fs : Str → Str → Bool} : Op2 X (fun x y H Q => (rI0 fun i j => V.bl (fi i j)) x y H Q ∨ rLtS fs x y H Q) (fCmp fi fs fun _ _ => none) := fun g lk β F σ ρ ts H x y d e Qr Q hK A hx hy t k => by
  cases d with
  | int i => cases e with
    | int j => cases hx; cases hy; exact .inl ⟨i, j, rfl, rfl, k _ _ _ (A.res_z (.bl _)) t⟩
    | _ => exact t.elim
  | str i => cases e with
    | str j => obtain ⟨rfl, _⟩ := hx; obtain ⟨rfl, _⟩ := hy; exact .inr ⟨i, j, rfl, rfl, k _ _ _ (A.res_z (.bl _)) t⟩
    | _ => exact t.elim
  | tup xs => cases e with
    | tup ys =>
      unfold fCmp at t
      simp only at t
      cases e1 : intsD xs <;> cases e2 : intsD ys <;> simp only [e1, e2] at t
    | _ => exact t.elim
  | _ => exact t.elim
theorem o2_le : Op2 X rLe1 fLe := o2_cmp1
theorem o2_gt : Op2 X rGt1 fGt := o2_cmp1
theorem o2_ge : Op2 X rGe1 fGe := o2_cmp1
/-! ### is -/
def fIs (neg : Bool) : F2 := fun d e Q => match e with
  | .non => match d with
    | .non => Q (.z (.bl (neg != true)))
    | _ => Q (.z (.bl (neg != false)))
  | .bl b => match d with
    | .bl a => Q (.z (.bl (neg != decide (a = b))))
    | _ => False
  | _ => False
theorem op_isA : OpR X (compareOp .Is) (fun x y H Q => (y = .non ∧ Q (.bl (decide (x = .non))) H) ∨ rIsB x y H Q) := OpR.or op_isN op_isBl
theorem op_notA : OpR X (compareOp .IsNot) (fun x y H Q => (y = .non ∧ Q (.bl (!decide (x = .non))) H) ∨ rNotB x y H Q) := OpR.or op_notN op_notBl
theorem o2_is : Op2 X (fun x y H Q => (y = .non ∧ Q (.bl (decide (x = .non))) H) ∨ rIsB x y H Q) (fIs false) := fun g lk β F σ ρ ts H x y d e Qr Q hK A hx hy t k => by
  cases e with
  | non => exact .inl (o2_isN g lk β F σ ρ ts H x y d .non Qr Q hK A hx hy t k)
  | bl b => cases d with
    | bl a =>
      cases hx
      cases hy
      refine .inr ⟨a, b, rfl, rfl, k _ _ _ (A.res_z (.bl _)) ?_⟩
      have t : Qr (.z (.bl (false != decide (a = b)))) := t
      rw [Dl.bne_false] at t
      exact t
    | _ => exact t.elim
  | _ => exact t.elim
theorem o2_isnot : Op2 X (fun x y H Q => (y = .non ∧ Q (.bl (!decide (x = .non))) H) ∨ rNotB x y H Q) (fIs true) := fun g lk β F σ ρ ts H x y d e Qr Q hK A hx hy t k => by
  cases e with
  | non => exact .inl (o2_notN g lk β F σ ρ ts H x y d .non Qr Q hK A hx hy t k)
  | bl b => cases d with
    | bl a =>
      cases hx
      cases hy
      refine .inr ⟨a, b, rfl, rfl, k _ _ _ (A.res_z (.bl _)) ?_⟩
      have t : Qr (.z (.bl (true != decide (a = b)))) := t
      rw [Dl.bne_true] at t
      exact t
    | _ => exact t.elim
  | _ => exact t.elim
/-! ### ints -/
def fSub : F2 := fII0 fun i j => .int (i - j)
theorem o2_sub : Op2 X (rI0 fun i j => .int (i - j)) fSub := o2_II0 fun _ _ _ _ => .int _
def fFdiv : F2 := fII CDivW fun i j => .int (i / j)
theorem o2_fdiv : Op2 X (rI CDivW fun i j => .int (i / j)) fFdiv := o2_II fun _ _ _ _ => .int _
def fMod : F2 := fII (fun _ j => 0 < j) fun i j => .int (i % j)
theorem o2_mod : Op2 X (rI (fun _ j => 0 < j) fun i j => .int (i % j)) fMod := o2_II fun _ _ _ _ => .int _
def fPow : F2 := fII CPow fun i j => .int (i ^ j.toNat)
theorem o2_pow : Op2 X (rI CPow fun i j => .int (i ^ j.toNat)) fPow := o2_II fun _ _ _ _ => .int _
def fShl : F2 := fII CShl fun i j => .int (i * 2 ^ j.toNat)
theorem o2_shl : Op2 X (rI CShl fun i j => .int (i * 2 ^ j.toNat)) fShl := o2_II fun _ _ _ _ => .int _
def fShr : F2 := fII (fun _ j => 0 ≤ j) fun i j => .int (i / 2 ^ j.toNat)
theorem o2_shr : Op2 X (rI (fun _ j => 0 ≤ j) fun i j => .int (i / 2 ^ j.toNat)) fShr := o2_II fun _ _ _ _ => .int _
def fAnd : F2 := fII0 fun i j => .int (Builtin.bitAnd i j)
theorem o2_and : Op2 X (rI0 fun i j => .int (Builtin.bitAnd i j)) fAnd := o2_II0 fun _ _ _ _ => .int _
def fOr : F2 := fII0 fun i j => .int (Builtin.bitOr i j)
theorem o2_or : Op2 X (rI0 fun i j => .int (Builtin.bitOr i j)) fOr := o2_II0 fun _ _ _ _ => .int _
def fXor : F2 := fII0 fun i j => .int (Builtin.bitXor i j)
theorem o2_xor : Op2 X (rI0 fun i j => .int (Builtin.bitXor i j)) fXor := o2_II0 fun _ _ _ _ => .int _
def fNeg : F1 := fI fun i => -i
theorem o1_neg : Op1 X (rU fun i => .int (-i)) fNeg := o1_I
/-! ### * -/
def repD (k : Nat) (xs : List D) : List D := (List.replicate k xs).flatten
def fMul : F2 := fun d e Q => match d, e with
  | .int i, .int j => CMulX i j ∧ Q (.z (.int (i * j)))
  | .lst xs, .int k => (-(2 ^ 63) ≤ k ∧ k < 2 ^ 63 ∧ xs.length * k.toNat ≤ sizeLine) ∧ Q (.o (.lst (repD k.toNat xs)))
  | _, _ => False
def rMulA : R2 := fun x y H Q => (rI CMulX fun i j => V.int (i * j)) x y H Q ∨ rRep x y H Q
theorem op_mulA : OpR X (binaryOp .Mult) rMulA := OpR.or op_mulX op_rep
theorem Dens.rep {K : PySem.W.Frag} {F : Hp} {ds : List D} {vs : List V} (h : Dens K F ds vs) : ∀ k, Dens K F (repD k ds) (List.replicate k vs).flatten
  | 0 => .nil
  | k + 1 => by unfold repD; rw [List.replicate_succ, List.replicate_succ, List.flatten_cons, List.flatten_cons]; exact h.append (h.rep k)
theorem rep_len {α : Type} (k : Nat) (xs : List α) : (List.replicate k xs).flatten.length = xs.length * k := by
  rw [List.length_flatten, List.map_replicate, List.sum_replicate_nat, Nat.mul_comm]
theorem o2_mul : Op2 X rMulA fMul := fun g lk β F σ ρ ts H x y d e Qr Q hK A hx hy t k => by
  cases d with
  | int i => cases e with
    | int j => cases hx; cases hy; exact .inl ⟨i, j, rfl, rfl, t.1, k _ _ _ (A.res_z (.int _)) t.2⟩
    | _ => exact t.elim
  | lst xs => cases e with
    | int j =>
      cases hy
      obtain ⟨a, vs, rfl, h1, z1, r1⟩ := hx
      rw [← hK] at r1
      obtain ⟨⟨c1, c2, c3⟩, t⟩ := t
      rw [r1.length] at c3
      refine .inr ⟨a, j, vs, rfl, rfl, h1, c1, c2, c3, fun p hp => k _ _ _ (A.res_lst hp (r1.rep _) ?_) t⟩
      rw [rep_len]
      exact c3
    | _ => exact t.elim
  | _ => exact t.elim
end
/-! ### chains -/
def dChain (f f' : F2) (ta tb tc : TD) : TD := fun ρ Q => ta ρ fun ρ1 r1 => tb ρ1 fun ρ2 r2 => match viewR ρ2 r1, viewR ρ2 r2 with
  | some d, some e => f d e fun q => match q with
    | .z (.bl true) => tc ρ2 fun ρ3 r3 => match viewR ρ3 r2, viewR ρ3 r3 with
      | some e', some h => f' e' h (Q ρ3)
      | _, _ => False
    | .z (.bl false) => Q ρ2 (.z (.bl false))
    | _ => False
  | _, _ => False
section
variable {X : Cx} {a b c : Expr} {ta tb tc : TD} {pos : Pos} {r r' : R2} {f f' : F2} {op op' : CmpOp}
theorem lift_chain (hf : Op2 X r f) (hf' : Op2 X r' f') {σ : L2.St} {H : Hp} {Q : VK} (h : liftE X (dChain f f' ta tb tc) σ H Q) : tChain r r' (liftE X ta) (liftE X tb) (liftE X tc) σ H Q := by
  obtain ⟨g, lk, β, ρ, ts, Qd, hK, A, t, q⟩ := h
  refine ⟨g, lk, β, ρ, ts, _, hK, A, t, fun ρ1 r1 v1 H1 A1 t1 => ⟨g, lk, β, ρ1, ts ++ [(v1, r1)], _, hK, A1, t1, fun ρ2 r2 v2 H2 A2 t2 => ?_⟩⟩
  obtain ⟨F, A2⟩ := A2
  cases e1 : viewR ρ2 r1 with
  | none => rw [e1] at t2; exact t2.elim
  | some d =>
    cases e2 : viewR ρ2 r2 with
    | none => rw [e1, e2] at t2; exact t2.elim
    | some e =>
      rw [e1, e2] at t2
      have h1 := A2.view (A2.tmp (v1, r1) (by simp)) e1
      have h2 := A2.view (A2.tmp (v2, r2) (by simp)) e2
      rw [hK] at h1 h2
      refine hf g lk β F σ ρ2 _ H2 v1 v2 d e _ _ hK A2 h1 h2 t2 fun v H3 q' A3 t3 => ?_
      obtain ⟨F3, A3⟩ := A3
      have h3 := A3.tmp (v, q') (by simp)
      cases q' with
      | z dd =>
        cases dd with
        | bl k =>
          cases h3
          refine ⟨k, rfl, ?_⟩
          have A4 := A3.sub (List.sublist_append_left _ _)
          cases k with
          | false => exact iteF (q _ _ _ _ ⟨F3, (A4.sub ((List.sublist_append_left _ _).trans (List.sublist_append_left _ _))).push_z (.bl _)⟩ t3)
          | true =>
            refine iteT ⟨g, lk, β, ρ2, _, _, hK, ⟨F3, A4⟩, t3, fun ρ3 r3 v3 H4 A5 t5 => ?_⟩
            obtain ⟨F5, A5⟩ := A5
            cases e3 : viewR ρ3 r2 with
            | none => rw [e3] at t5; exact t5.elim
            | some e' =>
              cases e4 : viewR ρ3 r3 with
              | none => rw [e3, e4] at t5; exact t5.elim
              | some h =>
                rw [e3, e4] at t5
                have g1 := A5.view (A5.tmp (v2, r2) (by simp)) e3
                have g2 := A5.view (A5.tmp (v3, r3) (by simp)) e4
                rw [hK] at g1 g2
                refine hf' g lk β F5 σ ρ3 _ H4 v2 v3 e' h _ _ hK A5 g1 g2 t5 fun v H5 q' A6 t6 => q _ _ _ _ (A6.sub ?_) t6
                exact List.Sublist.append ((List.sublist_append_left _ _).trans ((List.sublist_append_left _ _).trans (List.sublist_append_left _ _))) (List.Sublist.refl _)
        | _ => exact t3.elim
      | _ => exact t3.elim
theorem pd_chain (ho : OpR X (compareOp op) r) (ho' : OpR X (compareOp op') r') (hf : Op2 X r f) (hf' : Op2 X r' f') (ha : PD X a ta) (hb : PD X b tb) (hc : PD X c tc) (hm : lastMarks [op, op'] [b, c] = false := by with_unfolding_all rfl) : PD X (.Compare a [op, op'] [b, c] pos) (dChain f f' ta tb tc) :=
  PE.weak (pe_chain ho ho' ha hb hc hm) fun _ _ _ h => lift_chain hf hf' h
theorem pdt_chain (ho : OpR X (compareOp op) r) (ho' : OpR X (compareOp op') r') (hf : Op2 X r f) (hf' : Op2 X r' f') (ha : PD X a ta) (hb : PD X b tb) (hc : PD X c tc) (hm : lastMarks [op, op'] [b, c] = false := by with_unfolding_all rfl) : PDT X (.Compare a [op, op'] [b, c] pos) (dTest (dChain f f' ta tb tc)) :=
  PT.weak (pt_chain ho ho' ha hb hc hm) fun σ H Q h => lift_chain hf hf' (lift_test h)
end
/-! ### isinstance -/
def tyS : D → Option String
  | .non => some "NoneType"
  | .bl _ => some "bool"
  | .int _ => some "int"
  | .str _ => some "str"
  | .tup _ => some "tuple"
  | .lst _ => some "list"
  | .dk _ => some "dict"
  | _ => none
def tysD : List D → Option (List String)
  | [] => some []
  | .ty n :: ds => (tysD ds).map (n :: ·)
  | _ => none
/-- isinstance with one built-in class, as the library tells -/
def isK (T n : String) : Option Bool := match n with
  | "int" => some (T == "int" || T == "bool")
  | "bool" => some (T == "bool")
  | "str" => some (T == "str")
  | "tuple" => some (T == "tuple")
  | "list" => some (T == "list")
  | "dict" => some (T == "dict")
  | _ => none
def isKs (T : String) : List String → Option Bool
  | [] => some false
  | n :: ns => match isK T n, isKs T ns with
    | some a, some b => some (a || b)
    | _, _ => none
def fIsi : FN := fun ds Q => match ds with
  | [d, .ty n] => match tyS d with
    | some T => match isK T n with
      | some b => Q (.z (.bl b))
      | none => False
    | none => False
  | [d, .tup cs] => match tyS d, tysD cs with
    | some T, some ns => match isKs T ns with
      | some b => Q (.z (.bl b))
      | none => False
    | _, _ => False
  | _ => False
def kinds : List String := ["NoneType", "bool", "int", "str", "tuple", "list", "dict"]
theorem tyS_kind {d : D} {T : String} (h : tyS d = some T) : T ∈ kinds := by
  cases d <;> cases h <;> simp [kinds]
theorem isK_kit : ∀ T ∈ kinds, ∀ n ∈ ["int", "bool", "str", "tuple", "list", "dict"], kitB T n = isK T n := by decide +kernel
theorem isK_mem {T n : String} {b : Bool} (h : isK T n = some b) : n ∈ ["int", "bool", "str", "tuple", "list", "dict"] := by
  unfold isK at h
  split at h
  all_goals first | (cases h; done) | simp
theorem isK_ok {K : PySem.W.Frag} {T n : String} {b : Bool} (hT : T ∈ kinds) (h : isK T n = some b) : PySem.W.kitOne K (.type T) (.type n) = some b := kit_ty (by rw [isK_kit T hT n (isK_mem h)]; exact h)
theorem isKs_ok {K : PySem.W.Frag} {T : String} (hT : T ∈ kinds) : ∀ {ns : List String} {b : Bool}, isKs T ns = some b → PySem.W.kitAny K (.type T) (ns.map Value.type) = some b
  | [], b, h => by cases h; exact kitAny_nil
  | n :: ns, b, h => by
    unfold isKs at h
    split at h
    · rename_i a c h1 h2
      cases h
      refine kitAny_cons (isK_ok hT h1) (fun e => ?_) fun e => ?_
      · subst e; exact isKs_ok hT h2
      · subst e; rfl
    · cases h
theorem tyX_of {K : PySem.W.Frag} {F H : Hp} {x : V} {d : D} {T : String} (s : ∀ a o, F a = some o → H a = some o) (h : DenT K F H x d) (e : tyS d = some T) : TyX K H x (.type T) := by
  cases d with
  | non => cases e; cases h; exact .base .non
  | bl b => cases e; cases h; exact .base (.bl b)
  | int i => cases e; cases h; exact .base (.int i)
  | str z => cases e; obtain ⟨rfl, _⟩ := h; exact .base (.str z)
  | tup ds => cases e; obtain ⟨a, vs, rfl, h, _⟩ := h; exact .base (.tup (s _ _ h))
  | lst ds => cases e; obtain ⟨a, vs, rfl, h, _⟩ := h; exact .base (.lst h)
  | dk ds =>
    cases e
    obtain ⟨a, kvs, rfl, h, _⟩ := h
    rcases h with h | ⟨o, h⟩
    · exact .base (.dK h)
    · exact .fDict h
  | _ => cases e
theorem tys_cls : ∀ {cs : List D} {ns : List String} {K : PySem.W.Frag} {F : Hp} {vs : List V}, tysD cs = some ns → Dens K F cs vs → Paired ClsV vs (ns.map Value.type)
  | [], ns, _, _, _, h, .nil => by cases h; exact .nil
  | d :: cs, ns, _, _, _, h, .cons x t => by
    cases x with
    | ty n =>
      simp only [tysD] at h
      cases e : tysD cs with
      | none => rw [e] at h; cases h
      | some ms => rw [e] at h; cases h; exact .cons (.ty n) (tys_cls e t)
    | _ => simp only [tysD] at h; cases h
theorem on_isi {X : Cx} : OpN X (fun xs H Q => rIsi X.K xs H Q ∨ rIsiT X.K xs H Q) fIsi := fun g lk β F σ ρ ts H vs ds Qr Q hK A hv t k => by
  unfold fIsi at t
  split at t
  · rename_i d n
    obtain ⟨v, u, rfl, h1, h2⟩ := hv.two
    cases h2
    cases e : tyS d with
    | none => simp only [e] at t
    | some T =>
      cases e2 : isK T n with
      | none => simp only [e, e2] at t
      | some b =>
        simp only [e, e2] at t
        exact .inl ⟨v, .ty n, _, _, b, rfl, .ty n, tyX_of A.core.sub h1 e, isK_ok (tyS_kind e) e2, k _ _ _ (A.res_z (.bl _)) t⟩
  · rename_i d cs
    obtain ⟨v, u, rfl, h1, h2⟩ := hv.two
    cases e : tyS d with
    | none => simp only [e] at t
    | some T =>
      cases e2 : tysD cs with
      | none => simp only [e, e2] at t
      | some ns =>
        cases e3 : isKs T ns with
        | none => simp only [e, e2, e3] at t
        | some b =>
          simp only [e, e2, e3] at t
          obtain ⟨a, us, rfl, h3, z, r⟩ := h2
          exact .inr ⟨v, a, us, _, _, b, rfl, A.core.sub _ _ h3, tys_cls e2 r, tyX_of A.core.sub h1 e, isKs_ok (tyS_kind e) e3, k _ _ _ (A.res_z (.bl _)) t⟩
  · exact t.elim
theorem call_isiA {X : Cx} : CallR X (.builtin "isinstance") (fun xs H Q => rIsi X.K xs H Q ∨ rIsiT X.K xs H Q) := call_isi.or call_isiT
end Dl
set_option Elab.async false
set_option linter.all false
set_option maxRecDepth 100000
set_option maxHeartbeats 4000000
/-! operators on instances of a class of the module, by its own methods: ==, !=, len, repr, in, a call -/
namespace Lw
open PySem PySem.Spec PyProof.Rows L2
section
variable {X : Cx} {CX : CXT} {k : Nat} {f C : Addr} {fd : FuncData} {ps : List Str} {sp : Sp} {E : XK} {pins : List (Addr × Obj)} {σ : L2.St} {H : Hp} {s : Shared}
/-- a def is called from below the running body -/
theorem own_call {A : Around} {us : List Value} {vs : List V} {Q : VK} {E' : Value → Shared → Prop} (F : FnOk X.prog X.w X.K X.mg X.base CX k f fd ps sp) (hb : Binds X.K fd ps []) (hx : Passes CX X.nox E) (sb : L2.Sub X k A) (I : Inv X pins σ H s) (r : Vals vs us) (h : sp vs H Q E) :
    wpAny (model X.prog X.w) A (call (.ref f) us) (EP X pins σ Q) E' s := by
  have e0 : Env0 X.prog X.w X.K X.mg X.base A X.stack s H := by
    have e := I.env0
    exact ⟨by rw [sb.fr]; exact e.frames, e.mod, e.bs, e.bsz, e.funs, e.frf, e.hok, e.bare⟩
  have hl := F.len _ _ _ _ h
  refine wpAny_call (codeAny_mono (F.run A X.stack s H ⟨us, []⟩ us vs Q E sb.room e0 (by
    have := hb s us I.kIn (by rw [List.append_nil, ← r.length]; exact hl)
    rw [List.append_nil] at this
    exact this) r h) fun o s' ho => ?_)
  cases o with
  | error e => exact (hx pins σ H s e s' (I.wish _) ho).elim
  | ok fl =>
    cases fl with
    | ret u => exact I.after ho
    | next => exact ho.elim
    | brk => exact ho.elim
    | cont => exact ho.elim
theorem sub_here (hr : Room k X.A) : L2.Sub X k X.A := ⟨hr, rfl⟩
/-- the class's own method of the name -/
structure OwnM (K : PySem.W.Frag) (C : Addr) (m : Str) (f : Addr) (fd : FuncData) (ps : List Str) : Prop where
  at_ : PySem.W.findIn K (.ref C) m = some (some (.ref f))
  fn : PySem.W.isFn K (.ref f) = true
  b : Binds K fd ps []
/-- an instance of the class -/
def IsIns (H : Hp) (C : Addr) (v : V) : Prop := ∃ a dx fs, v = .ref a ∧ H a = some (.ins C dx fs)
theorem IsIns.at_ {v : V} {u : Value} (I : Inv X pins σ H s) (h : IsIns H C v) (r : RelV v u) : ∃ a ox od, u = .ref a ∧ PySem.W.InstAt s.heap a ox C (some od) := by
  obtain ⟨a, dx, fs, rfl, ha⟩ := h
  obtain ⟨mA, O, _⟩ := ins_get I.hok ha
  obtain ⟨od, J, _⟩ := O.look
  exact ⟨a, _, od, r, J⟩
/-- x == y -/
def rEqI (K : PySem.W.Frag) (C : Addr) (sp : Sp) (E : XK) : R2 := fun x y H Q => IsIns H C x ∧ (IsIns H C y ∨ ∃ t, TyX K H y t ∧ PySem.W.notFirst K C t = true) ∧ sp [x, y] H (fun v H' => (∃ b, v = .bl b) ∧ Q v H') E
theorem looks_of {y : V} {u : Value} (I : Inv X pins σ H s) (ry : RelV y u) (h : IsIns H C y ∨ ∃ t, TyX X.K H y t ∧ PySem.W.notFirst X.K C t = true) : ∃ t, PySem.W.Looks (model X.prog X.w) s.heap (typeOf u) t ∧ PySem.W.notFirst X.K C t = true := by
  rcases h with h | ⟨t, ht, hn⟩
  · obtain ⟨a, ox, od, rfl, J⟩ := h.at_ I ry
    exact ⟨.ref C, J.type, by simp [PySem.W.notFirst]⟩
  · obtain ⟨P, kx, hp, _⟩ := kit_of I ry ht
    exact ⟨t, kx.ty _ _ I.kIn hp, hn⟩
theorem op_eqI (F : FnOk X.prog X.w X.K X.mg X.base CX k f fd ps sp) (M : OwnM X.K C "__eq__" f fd ps) (hx : Passes CX X.nox E) (hr : Room k X.A) : OpR X (compareOp .Eq) (rEqI X.K C sp E) := by
  intro pins s σ H x y v u Q I rx ry hq
  obtain ⟨hi, hy, hsp⟩ := hq
  obtain ⟨t, lk, hn⟩ := looks_of I ry hy
  obtain ⟨a, ox, od, rfl, J⟩ := hi.at_ I rx
  obtain ⟨m, hF⟩ := I.fr
  show wpAny (model X.prog X.w) X.A (richCompare .Eq (.ref a) u) (EP X pins σ Q) X.xe s
  refine PySem.W.cmp_K (op := .Eq) (tb := t) hr.units0 hF I.ok.mod.kin J lk hn M.at_ M.fn ?_
  refine wpAny_mono (own_call F M.b hx (sub_here hr) I (.cons rx (.cons ry .nil)) hsp) (fun r s' z => ?_) fun _ _ z => z
  obtain ⟨z, H', I', rz, ⟨b, rfl⟩, q⟩ := z
  cases rz
  exact ⟨.bl b, H', I', rfl, q⟩
theorem ne_bound {M : Model} {A : Around} {E' : Value → Shared → Prop} {K : PySem.W.Frag} {a C : Addr} {ox : Obj} {od : Option Obj} {us : List Value} {Q : Option Value → Shared → Prop} (hK : K.In s.heap) (J : PySem.W.InstAt s.heap a ox C od)
    (hn : PySem.W.findIn K (.ref C) "__ne__" = some (some (.builtin "object.__ne__"))) (h : wpAny M A (call (.builtin "object.__ne__") (.ref a :: us)) (fun v => Q (some v)) E' s) : wpAny M A (callSpecialIfBound? (.ref a) "__ne__" us) Q E' s := by
  have go : wpAny M A (call (.builtin "object.__ne__") ([.ref a] ++ us) >>= fun v => pure (some v)) Q E' s := wpAny_bind (wpAny_mono h (fun _ _ z => wpAny_pure z) fun _ _ z => z)
  simp only [callSpecialIfBound?, bindSpecialIfBound?]
  refine wpAny_holding (wpAny_bind (wpAny_bind (wpAny_bind (J.type.here ((PySem.W.looks_findIn hK hn).here (wpAny_bind (wpAny_askSetting (wpAny_ite ?_))))))))
  split
  · exact wpAny_bind (wpAny_of_eq (PySem.F.cmp_object.ne.bind _) (wpAny_pure go))
  · exact wpAny_tryCatch (wpAny_bind (wpAny_of_eq (PySem.F.cmp_object.ne.bind _) (wpAny_pure go)))
/-- x != y, by == -/
theorem op_neI (F : FnOk X.prog X.w X.K X.mg X.base CX k f fd ps sp) (M : OwnM X.K C "__eq__" f fd ps) (hne : PySem.W.findIn X.K (.ref C) "__ne__" = some (some (.builtin "object.__ne__"))) (hm : PySem.W.mroIn X.K C (.type "object") = some true) (hx : Passes CX X.nox E) (hr : Room (k + 1) X.A) :
    OpR X (compareOp .NotEq) (fun x y H Q => IsIns H C x ∧ (IsIns H C y ∨ ∃ t, TyX X.K H y t ∧ PySem.W.notFirst X.K C t = true) ∧ sp [x, y] H (fun v H' => ∃ b, v = .bl b ∧ Q (.bl (!b)) H') E) := by
  intro pins s σ H x y v u Q I rx ry hq
  obtain ⟨hi, hy, hsp⟩ := hq
  obtain ⟨t, lk, hn⟩ := looks_of I ry hy
  obtain ⟨a, ox, od, rfl, J⟩ := hi.at_ I rx
  obtain ⟨m, hF⟩ := I.fr
  have X1 := I.kIn
  show wpAny (model X.prog X.w) X.A (richCompare .NotEq (.ref a) u) (EP X pins σ Q) X.xe s
  have hc : wpAny (model X.prog X.w) X.A.in1 (call (.ref f) [.ref a, u]) (fun v s' => ∃ b, v = .bool b ∧ EP X pins σ Q (.bool (!b)) s') X.xe s := by
    refine wpAny_mono (own_call F M.b hx ((sub_here hr).in1) I (.cons rx (.cons ry .nil)) hsp) (fun r s' z => ?_) fun _ _ z => z
    obtain ⟨z, H', I', rz, b, rfl, q⟩ := z
    cases rz
    exact ⟨b, rfl, .bl (!b), H', I', rfl, q⟩
  have inner : wpAny (model X.prog X.w) X.A.in1 (Builtin.«object.__ne__» ⟨[.ref a, u], []⟩) (fun fin s' => ∃ b, fin = .done (.ret (.bool b)) ∧ EP X pins σ Q (.bool b) s') X.xe s := by
    unfold Builtin.«object.__ne__»
    refine wpAny_bind (m := slotArgs "__ne__" 1 _) (wpAny_pure ?_)
    refine wpAny_bind (m := cRoomFor _ _) (wpAny_cRoomFor hr.in1.units0 ?_)
    refine wpAny_bind (m := callSpecialIfBound? (.ref a) (Str.ofString "__eq__") [u]) (PySem.W.ifBound_K X1 J M.at_ M.fn (wpAny_mono hc (fun v s' hv => ?_) fun _ _ z => z))
    obtain ⟨b, rfl, q⟩ := hv
    refine wpAny_bind (m := truthy (.bool b)) (wpAny_truthy_bool ?_)
    exact wpAny_pure ⟨!b, rfl, q⟩
  have one : wpAny (model X.prog X.w) X.A (tryCompare (.ref a) "__ne__" u) (fun r s' => ∃ v, r = some v ∧ EP X pins σ Q v s') X.xe s := by
    unfold tryCompare
    refine wpAny_bind (ne_bound X1 J hne (wpAny_call (codeAny_call_builtin PySem.F.cmp_object.ne.plain PySem.F.cmpEntry_ne (PySem.W.check_slot PySem.F.cmpKind_ne PySem.F.cmpSplit_ne (J.type.andThen (PySem.W.looks_mroIn X1 hm)) (PySem.F.cmpArgs_ne _ _) (wpAny_mono inner (fun fin s' hv => ?_) fun _ _ z => z)))))
    obtain ⟨b, rfl, q⟩ := hv
    first | exact ⟨_, rfl, wpAny_pure ⟨_, rfl, q⟩⟩ | exact wpAny_pure ⟨_, rfl, q⟩ | exact ⟨_, rfl, q⟩
  unfold richCompare
  simp only [oneThing_ref]
  refine wpAny_holding (wpAny_bind (wpAny_cRoomFor hr.units0 (wpAny_bind (J.type.here (wpAny_bind (lk.here ?_))))))
  have last : ∀ {rf : Bool}, rf = false → wpAny (model X.prog X.w) X.A (do
      if rf then
        if let some v ← tryCompare u (cmpInfo .NotEq).2.2 (.ref a) then rule "compare.subclass-reflected-first"; return v
      if let some v ← tryCompare (.ref a) (cmpInfo .NotEq).2.1 u then return v
      if !rf then
        if let some v ← tryCompare u (cmpInfo .NotEq).2.2 (.ref a) then return v
      rule "compare.ne-identity"; return .bool (!(← isSame (.ref a) u))) (EP X pins σ Q) X.xe s := by
    rintro rf rfl
    simp only [Bool.false_eq_true, if_false]
    refine wpAny_bind (wpAny_mono one (fun r s' z => ?_) fun _ _ z => z)
    obtain ⟨v, rfl, q⟩ := z
    exact wpAny_pure q
  split
  · rename_i q
    have e : PySem.W.subIn X.K t (.ref C) = some false := by
      rcases Bool.or_eq_true_iff.mp hn with e | e
      · rw [beq_iff_eq.mp e] at q; simp at q
      · exact beq_iff_eq.mp e
    exact wpAny_bind ((PySem.W.looks_subIn X1 e).here (last rfl))
  · exact wpAny_bind (wpAny_pure (last rfl))
/-- len(x) -/
theorem call_lenI (F : FnOk X.prog X.w X.K X.mg X.base CX k f fd ps sp) (M : OwnM X.K C "__len__" f fd ps) (hx : Passes CX X.nox E) (hr : Room (k + 1) X.A) :
    CallR X (.builtin "len") (fun xs H Q => ∃ x, xs = [x] ∧ IsIns H C x ∧ sp [x] H (fun v H' => ∃ n : Nat, v = .int n ∧ n < 2 ^ 62 ∧ Q (.int n) H') E) := by
  intro pins s σ H xs us Q I r h
  obtain ⟨x, rfl, hi, hsp⟩ := h
  obtain ⟨u, rfl, ru⟩ := vals1 r
  obtain ⟨a, ox, od, rfl, J⟩ := hi.at_ I ru
  obtain ⟨m, hF⟩ := I.fr
  refine PySem.W.len_K hF I.ok.mod.kin J M.at_ M.fn (wpAny_mono (own_call F M.b hx ((sub_here hr).in1) I (.cons ru .nil) hsp) (fun r s' z => ?_) fun _ _ z => z)
  obtain ⟨z, H', I', rz, n, rfl, hn, q⟩ := z
  obtain ⟨t, rfl⟩ := rz
  exact ⟨⟨by omega, by omega⟩, .int n, H', I'.tok _, ⟨_, rfl⟩, q⟩
/-- repr(x) -/
theorem call_reprI (F : FnOk X.prog X.w X.K X.mg X.base CX k f fd ps sp) (M : OwnM X.K C "__repr__" f fd ps) (hx : Passes CX X.nox E) (hr : Room (k + 1) X.A) :
    CallR X (.builtin "repr") (fun xs H Q => ∃ x, xs = [x] ∧ IsIns H C x ∧ sp [x] H (fun v H' => ∃ z, v = .str z ∧ Q (.str z) H') E) := by
  intro pins s σ H xs us Q I r h
  obtain ⟨x, rfl, hi, hsp⟩ := h
  obtain ⟨u, rfl, ru⟩ := vals1 r
  obtain ⟨a, ox, od, rfl, J⟩ := hi.at_ I ru
  obtain ⟨m, hF⟩ := I.fr
  refine PySem.W.repr_K hr.in1.units0 hF I.ok.mod.kin J M.at_ M.fn (wpAny_mono (own_call F M.b hx ((sub_here hr).in1) I (.cons ru .nil) hsp) (fun r s' z => ?_) fun _ _ z => z)
  obtain ⟨z, H', I', rz, y, rfl, q⟩ := z
  obtain ⟨t, rfl⟩ := rz
  exact ⟨.str y, H', I', ⟨_, rfl⟩, q⟩
/-- y in x -/
theorem op_inI (F : FnOk X.prog X.w X.K X.mg X.base CX k f fd ps sp) (M : OwnM X.K C "__contains__" f fd ps) (hx : Passes CX X.nox E) (hr : Room k X.A) :
    OpR X (compareOp .In) (fun y x H Q => IsIns H C x ∧ sp [x, y] H (fun v H' => ∃ b, v = .bl b ∧ Q (.bl b) H') E) := by
  intro pins s σ H y x u v Q I ry rx hq
  obtain ⟨hi, hsp⟩ := hq
  obtain ⟨a, ox, od, rfl, J⟩ := hi.at_ I rx
  obtain ⟨m, hF⟩ := I.fr
  refine PySem.W.in_K hF I.ok.mod.kin J M.at_ M.fn (wpAny_mono (own_call F M.b hx (sub_here hr) I (.cons rx (.cons ry .nil)) hsp) (fun r s' z => ?_) fun _ _ z => z)
  obtain ⟨z, H', I', rz, b, rfl, q⟩ := z
  cases rz
  exact wpAny_truthy_bool ⟨.bl b, H', I', rfl, q⟩
end
end Lw
set_option Elab.async false
set_option linter.all false
set_option maxRecDepth 100000
set_option maxHeartbeats 4000000
/-! operators on an instance of a class of the module and a value of a built-in class; an instance called -/
namespace Lw
open PySem PySem.Spec PyProof.Rows L2
section
variable {P : Program} {w : World} {A : Around} {E : Value → Shared → Prop} {s : Shared} {K : PySem.W.Frag} {x C L f : Addr} {ox : Obj} {od : Option Obj}
/-- x op b, b of a built-in class that the heap tells -/
theorem bin_looks {op : Operator} {b : Value} {T : String} {fo ro : Option Value} {Q : Value → Shared → Prop} (kin : K.In s.heap) (J : PySem.W.InstAt s.heap x ox C od) (tb : PySem.W.Looks (model P w) s.heap (typeOf b) (.type T)) (sf : PySem.W.selfFirst K C = true)
    (a1 : PySem.W.findIn K (.ref C) (PySem.dunder op.info.2) = some (some (.ref f))) (fn : PySem.W.isFn K (.ref f) = true) (a2 : PySem.W.findIn K (.ref C) (dunderR op.info.2) = some none)
    (b1 : PySem.W.findIn K (.type T) (PySem.dunder op.info.2) = some fo) (b2 : PySem.W.findIn K (.type T) (dunderR op.info.2) = some ro) (ns : PySem.W.subIn K (.type T) (.ref C) = some false)
    (go : wpAny (model P w) A (call (.ref f) [.ref x, b]) (PySem.W.CmpBack Q) E s) : wpAny (model P w) A (binaryOp op (.ref x) b) Q E s := by
  obtain ⟨cd, rest, hcd, hm⟩ := PySem.W.ksp_first sf
  rcases ei : op.info with ⟨sym, nm⟩
  rw [ei] at a1 a2 b1 b2
  dsimp only at a1 a2 b1 b2
  have tried := PySem.W.ksp_try kin J a1 fn go
  obtain ⟨hh, gg, dr, tt, os⟩ := s
  have y1 : PySem.W.Looks (model P w) hh (typeOf (.ref x)) (.ref C) := J.type
  have y2 : PySem.W.Looks (model P w) hh (typeOf b) (.type T) := tb
  have y3 : PySem.W.Looks (model P w) hh (fillsNumberSlot (.ref C) nm) true := PySem.W.fills_K kin hcd hm a1
  have y4 := PySem.W.ksp_fillsT (M := model P w) (nm := nm) kin b1 b2
  have y5 : PySem.W.Looks (model P w) hh (isSubtype (.type T) (.ref C)) false := PySem.W.looks_subIn kin ns
  have y6 : PySem.W.Looks (model P w) hh (numberSlotInPython (.ref C) nm) true := PySem.W.ksp_inPy kin a1 a2 (.inl rfl)
  have y7 : PySem.W.Looks (model P w) hh (numberSlotInPython (.type T) nm) false := PySem.W.Looks.of_pure rfl
  have y8 : PySem.W.Looks (model P w) hh (typeLookup (.type T) (dunderR nm)) ro := PySem.W.looks_findIn kin b2
  generalize ((fo.isSome && !isSeqSlot fo) || (ro.isSome && !isSeqSlot ro)) = right at y4
  have dif : (Value.ref C == Value.type T) = false := by
    rw [Bool.eq_false_iff]
    intro q
    cases beq_iff_eq.mp q
  simp only [binaryOp, ei]
  refine wpAny_holding (wpAny_bind ?_)
  unfold binaryOp1
  refine wpAny_bind (y1.at (wpAny_bind (y2.at (wpAny_bind (y3.at ?_)))))
  simp only [dif, Bool.false_eq_true, if_false]
  cases right <;>
  · ksp_lk
    refine wpAny_mono tried (fun r s2 z => ?_) fun _ _ e => e
    obtain ⟨v, rfl, hq⟩ := z
    ksp_lk
    exact hq
end
section
variable {X : Cx} {CX : CXT} {k : Nat} {f C : Addr} {fd : FuncData} {ps : List Str} {sp : Sp} {E : XK} {pins : List (Addr × Obj)} {σ : L2.St} {H : Hp} {s : Shared}
/-- what the class tells of an operator whose right side is of the built-in class T -/
structure BinM (K : PySem.W.Frag) (C : Addr) (nm T : String) (f : Addr) (fd : FuncData) (ps : List Str) : Prop where
  at_ : PySem.W.findIn K (.ref C) (PySem.dunder nm) = some (some (.ref f))
  fn : PySem.W.isFn K (.ref f) = true
  b : Binds K fd ps []
  first : PySem.W.selfFirst K C = true
  r : PySem.W.findIn K (.ref C) (dunderR nm) = some none
  t1 : ∃ fo, PySem.W.findIn K (.type T) (PySem.dunder nm) = some fo
  t2 : ∃ ro, PySem.W.findIn K (.type T) (dunderR nm) = some ro
  sub : PySem.W.subIn K (.type T) (.ref C) = some false
/-- x op t, t a tuple -/
def rBinT (C : Addr) (sp : Sp) (E : XK) : R2 := fun x y H Q => IsIns H C x ∧ (∃ t ys, y = .ref t ∧ H t = some (.tup ys)) ∧ sp [x, y] H (fun v H' => (∃ b, v = .ref b) ∧ Q v H') E
theorem op_binT {op : Operator} (F : FnOk X.prog X.w X.K X.mg X.base CX k f fd ps sp) (M : BinM X.K C op.info.2 "tuple" f fd ps) (hx : Passes CX X.nox E) (hr : Room k X.A) : OpR X (binaryOp op) (rBinT C sp E) := by
  intro pins s σ H x y v u Q I rx ry hq
  obtain ⟨hi, ⟨t, ys, rfl, ht⟩, hsp⟩ := hq
  obtain ⟨a, ox, od, rfl, J⟩ := hi.at_ I rx
  obtain ⟨fo, h1⟩ := M.t1
  obtain ⟨ro, h2⟩ := M.t2
  obtain ⟨Pk, kx, hp, _⟩ := kit_of (t := .type "tuple") I ry (.base (.tup ht))
  refine bin_looks I.kIn J (kx.ty _ _ I.kIn hp) M.first M.at_ M.fn M.r h1 h2 M.sub ?_
  refine wpAny_mono (own_call F M.b hx (sub_here hr) I (.cons rx (.cons ry .nil)) hsp) (fun r s' z => ?_) fun _ _ z => z
  obtain ⟨z, H', I', rz, ⟨b, rfl⟩, q⟩ := z
  cases rz
  exact ⟨.ref b, H', I', rfl, q⟩
/-- a def whose parameters are all given, called by its address -/
theorem fnR_of (F : FnOk X.prog X.w X.K X.mg X.base CX k f fd ps sp) (hb : Binds X.K fd ps []) : FnR X.prog X.w X.K X.mg X.base CX k f sp := fun A outer s H us vs Q E hr e0 r h =>
  F.run A outer s H ⟨us, []⟩ us vs Q E hr e0 (by
    have hl := F.len _ _ _ _ h
    have := hb s us (fun b o e => (e0.bs _ _ (e0.mod.kin b o e)).1) (by rw [List.append_nil, ← r.length]; exact hl)
    rw [List.append_nil] at this
    exact this) r h
end
end Lw
set_option Elab.async false
set_option linter.all false
set_option maxRecDepth 100000
set_option maxHeartbeats 4000000
/-! an operator by the right side's own method; ~x -/
namespace Lw
open PySem PySem.Spec PyProof.Rows L2
section
variable {P : Program} {w : World} {A : Around} {E : Value → Shared → Prop} {s : Shared} {K : PySem.W.Frag} {x C L f : Addr} {ox : Obj} {od : Option Obj}
theorem fills_R {M : Model} {h : Heap} {nm : String} {cd : ClassData} {rest : List Value} (X : K.In h) (hc : PySem.W.clsIn K C = some cd) (hm : cd.mro = .ref C :: rest) (h0 : PySem.W.findIn K (.ref C) (PySem.dunder nm) = some none) (hs : PySem.W.findIn K (.ref C) (dunderR nm) = some (some (.ref f))) :
    PySem.W.Looks M h (fillsNumberSlot (.ref C) nm) true := by
  intro A Q E s k q
  unfold fillsNumberSlot
  refine wpAny_bind ((PySem.W.looks_clsIn X hc).andThen (f := fun cd => pure cd.mro) .now A _ E s k ?_)
  rw [hm, List.anyM_cons]
  refine wpAny_bind ?_
  show wpAny M A (List.anyM _ [PySem.dunder nm, dunderR nm]) _ _ _
  rw [List.anyM_cons, List.anyM_cons]
  refine wpAny_bind (wpAny_bind (PySem.W.looks_findIn X h0 A _ E s k ?_))
  refine wpAny_pure ?_
  simp only [Bool.false_eq_true, if_false]
  refine wpAny_bind (wpAny_bind (PySem.W.looks_findIn X hs A _ E s k ?_))
  dsimp only
  rw [if_pos (show (!ownNameWrapper (.ref f) (dunderR nm)) = true from rfl)]
  refine wpAny_pure ?_
  rw [if_pos rfl]
  refine wpAny_pure ?_
  rw [if_pos rfl]
  exact wpAny_pure q
/-- a op x, by x's own reflected method -/
theorem rbin_looks {op : Operator} {a : Value} {T : String} {Q : Value → Shared → Prop} (kin : K.In s.heap) (J : PySem.W.InstAt s.heap x ox C od) (ta : typeOf a = pure (.type T)) (sf : PySem.W.selfFirst K C = true)
    (a1 : PySem.W.findIn K (.ref C) (PySem.dunder op.info.2) = some none) (a2 : PySem.W.findIn K (.ref C) (dunderR op.info.2) = some (some (.ref f))) (fn : PySem.W.isFn K (.ref f) = true)
    (b1 : PySem.W.findIn K (.type T) (PySem.dunder op.info.2) = some none) (b2 : PySem.W.findIn K (.type T) (dunderR op.info.2) = some none)
    (go : wpAny (model P w) A (call (.ref f) [.ref x, a]) (PySem.W.CmpBack Q) E s) : wpAny (model P w) A (binaryOp op a (.ref x)) Q E s := by
  obtain ⟨cd, rest, hcd, hm⟩ := PySem.W.ksp_first sf
  rcases ei : op.info with ⟨sym, nm⟩
  rw [ei] at a1 a2 b1 b2
  dsimp only at a1 a2 b1 b2
  have tried := PySem.W.ksp_try kin J a2 fn go
  obtain ⟨hh, gg, dr, tt, os⟩ := s
  have y1 : PySem.W.Looks (model P w) hh (typeOf (.ref x)) (.ref C) := J.type
  have y2 : PySem.W.Looks (model P w) hh (typeOf a) (.type T) := PySem.W.Looks.of_pure ta
  have y3 : PySem.W.Looks (model P w) hh (fillsNumberSlot (.ref C) nm) true := fills_R kin hcd hm a1 a2
  have y4 : PySem.W.Looks (model P w) hh (fillsNumberSlot (.type T) nm) false := PySem.W.ksp_fillsT (M := model P w) (nm := nm) kin b1 b2
  have dif : (Value.type T == Value.ref C) = false := by
    rw [Bool.eq_false_iff]
    intro q
    cases beq_iff_eq.mp q
  simp only [binaryOp, ei]
  refine wpAny_holding (wpAny_bind ?_)
  unfold binaryOp1
  refine wpAny_bind (y2.at (wpAny_bind (y1.at (wpAny_bind (y4.at ?_)))))
  simp only [dif, Bool.false_eq_true, if_false]
  ksp_lk
  refine wpAny_mono tried (fun r s2 z => ?_) fun _ _ e => e
  obtain ⟨v, rfl, hq⟩ := z
  ksp_lk
  exact hq
end
section
variable {X : Cx} {CX : CXT} {k : Nat} {f C : Addr} {fd : FuncData} {ps : List Str} {sp : Sp} {E : XK} {pins : List (Addr × Obj)} {σ : L2.St} {H : Hp} {s : Shared}
/-- what the class tells of an operator whose left side is a text -/
structure BinRM (K : PySem.W.Frag) (C : Addr) (nm : String) (f : Addr) (fd : FuncData) (ps : List Str) : Prop where
  at_ : PySem.W.findIn K (.ref C) (dunderR nm) = some (some (.ref f))
  no : PySem.W.findIn K (.ref C) (PySem.dunder nm) = some none
  fn : PySem.W.isFn K (.ref f) = true
  b : Binds K fd ps []
  first : PySem.W.selfFirst K C = true
  t1 : PySem.W.findIn K (.type "str") (PySem.dunder nm) = some none
  t2 : PySem.W.findIn K (.type "str") (dunderR nm) = some none
def rBinR (C : Addr) (sp : Sp) (E : XK) : R2 := fun x y H Q => (∃ z, x = .str z) ∧ IsIns H C y ∧ sp [y, x] H (fun v H' => (∃ b, v = .ref b) ∧ Q v H') E
theorem op_binR {op : Operator} (F : FnOk X.prog X.w X.K X.mg X.base CX k f fd ps sp) (M : BinRM X.K C op.info.2 f fd ps) (hx : Passes CX X.nox E) (hr : Room k X.A) : OpR X (binaryOp op) (rBinR C sp E) := by
  intro pins s σ H x y v u Q I rx ry hq
  obtain ⟨⟨z, rfl⟩, hi, hsp⟩ := hq
  have rx0 := rx
  obtain ⟨t, rfl⟩ := rx
  obtain ⟨a, ox, od, rfl, J⟩ := hi.at_ I ry
  refine rbin_looks I.kIn J (T := "str") rfl M.first M.no M.at_ M.fn M.t1 M.t2 ?_
  refine wpAny_mono (own_call F M.b hx (sub_here hr) I (.cons ry (.cons rx0 .nil)) hsp) (fun r s' z => ?_) fun _ _ z => z
  obtain ⟨z, H', I', rz, ⟨b, rfl⟩, q⟩ := z
  cases rz
  exact ⟨.ref b, H', I', rfl, q⟩
/-- x op z, z a text -/
def rBinS (C : Addr) (sp : Sp) (E : XK) : R2 := fun x y H Q => IsIns H C x ∧ (∃ z, y = .str z) ∧ sp [x, y] H (fun v H' => (∃ b, v = .ref b) ∧ Q v H') E
theorem op_binS {op : Operator} (F : FnOk X.prog X.w X.K X.mg X.base CX k f fd ps sp) (M : BinM X.K C op.info.2 "str" f fd ps) (hx : Passes CX X.nox E) (hr : Room k X.A) : OpR X (binaryOp op) (rBinS C sp E) := by
  intro pins s σ H x y v u Q I rx ry hq
  obtain ⟨hi, ⟨z, rfl⟩, hsp⟩ := hq
  obtain ⟨a, ox, od, rfl, J⟩ := hi.at_ I rx
  have ry0 := ry
  obtain ⟨t, rfl⟩ := ry
  obtain ⟨fo, h1⟩ := M.t1
  obtain ⟨ro, h2⟩ := M.t2
  refine bin_looks I.kIn J (PySem.W.Looks.of_pure rfl) M.first M.at_ M.fn M.r h1 h2 M.sub ?_
  refine wpAny_mono (own_call F M.b hx (sub_here hr) I (.cons rx (.cons ry0 .nil)) hsp) (fun r s' z => ?_) fun _ _ z => z
  obtain ⟨z, H', I', rz, ⟨b, rfl⟩, q⟩ := z
  cases rz
  exact ⟨.ref b, H', I', rfl, q⟩
/-- ~x -/
theorem un_invI (F : FnOk X.prog X.w X.K X.mg X.base CX k f fd ps sp) (M : OwnM X.K C "__invert__" f fd ps) (hx : Passes CX X.nox E) (hr : Room k X.A) : UnR X (unaryOp .Invert) (fun x H Q => IsIns H C x ∧ sp [x] H Q E) := by
  intro pins s σ H x v Q I rx hq
  obtain ⟨hi, hsp⟩ := hq
  obtain ⟨a, ox, od, rfl, J⟩ := hi.at_ I rx
  obtain ⟨m, hF⟩ := I.fr
  refine PySem.W.ksp_inv hF I.ok.mod.kin J M.at_ M.fn (wpAny_mono (own_call F M.b hx (sub_here hr) I (.cons rx .nil) hsp) (fun r s' z => z) fun _ _ z => z)
end
end Lw
set_option Elab.async false
set_option linter.all false
set_option maxRecDepth 100000
set_option maxHeartbeats 4000000
/-! z[::-1], z a text -/
namespace Lw
open PySem PySem.Spec PyProof.Rows L2
theorem revS_pick (z : Str) : (Builtin.Str.strSliceIndices none none (-1) z.length).filterMap (z.cps[·]?) = z.cps.toList.reverse := by
  show (sliceRange ((z.cps.size : Int) - 1) (-1) (-1)).filterMap (z.cps[·]?) = _
  rw [PySem.W.krv_sliceRange, PySem.W.krv_range, List.filterMap_reverse, PySem.W.krv_all]
def revStr (z : Str) : Str := ⟨z.cps.toList.reverse.toArray⟩
section
variable {X : Cx}
def tRevS (te : TE) : TE := fun σ H Q => te σ H fun x H1 => ∃ z, x = .str z ∧ z.length ≤ sizeLine ∧ Q (.str (revStr z)) H1
theorem pe_revS {e : Expr} {te : TE} {k : Nat} {p1 p2 p3 pos : Pos} (he : PE X e te) : PE X (.Subscript e (.Slice none none (some (.UnaryOp .USub (.Constant (.int 1) k p1) p2)) p3) pos) (tRevS te) := by
  refine ⟨fun pins s σ H Q I h => ?_⟩
  refine Subscript_ (thn (he.run pins s σ H _ I h) fun v s1 ⟨x, H1, I1, r1, q1⟩ => ?_)
  obtain ⟨z, ex, hz, q⟩ := q1
  subst ex
  obtain ⟨t, rfl⟩ := r1
  have st : PO X (some (.UnaryOp .USub (.Constant (.int 1) k p1) p2)) (tPart (tUn (rU fun i => .int (-i)) (tC (.int 1)))) := po_some (pe_un un_neg pe_int)
  refine wpAny_Slice (thn (po_none.run pins s1 σ H1 (fun o H2 => o = none ∧ H2 = H1) I1 ⟨rfl, rfl⟩) fun vl s2 ⟨l, H2, I2, pl, el, e2⟩ => ?_)
  subst el e2
  refine thn (po_none.run pins s2 σ H2 (fun o H3 => o = none ∧ H3 = H2) I2 ⟨rfl, rfl⟩) fun vu s3 ⟨u, H3, I3, pu, eu, e3⟩ => ?_
  subst eu e3
  refine thn (st.run pins s3 σ H3 (fun o H4 => o = some (-1) ∧ H4 = H3) I3 ⟨1, rfl, -1, rfl, rfl, rfl⟩) fun vs s4 ⟨o, H4, I4, ps, eo, e4⟩ => ?_
  subst eo e4
  have I5 : Inv X pins σ H4 { s4 with heap := s4.heap.push { cls := .type "slice", data := .fields #[vl, vu, vs] } } := I4.kept (t' := s4.toks) fun b ob q => Heap.get?_push_of_some _ q
  obtain ⟨l', rfl, hl'⟩ := IsPart.raw pl
  obtain ⟨u', rfl, hu'⟩ := IsPart.raw pu
  obtain ⟨k', rfl, hk'⟩ := IsPart.raw ps
  have el : l' = none := by cases l' with | none => rfl | some _ => cases hl'
  have eu : u' = none := by cases u' with | none => rfl | some _ => cases hu'
  subst el eu
  obtain ⟨tk, rfl⟩ : ∃ tk, k' = some (-1, tk) := by
    cases k' with
    | none => cases hk'
    | some p =>
      obtain ⟨i, tk⟩ := p
      have : i = -1 := Option.some.inj hk'
      exact ⟨tk, by rw [this]⟩
  show wpAny (model X.prog X.w) X.A (subscriptTail e (.Slice none none (some (.UnaryOp .USub (.Constant (.int 1) k p1) p2)) p3) (.str z t) (.ref s4.heap.objs.size)) (EP X pins σ Q) X.xe _
  refine tail_any (ops := [.str z t, .ref s4.heap.objs.size]) (typeIs_str _ _ _) PySem.F.slot_str_getitem.lookup ?_ (by with_unfolding_all rfl)
  refine wpAny_getItem_str_slice (l := none) (u := none) (st := some (-1, tk)) ⟨_, Heap.get?_push_size _ rfl, rfl, rfl⟩ rfl ?_
  have hl : (revStr z).length ≤ sizeLine := by
    show (z.cps.toList.reverse.toArray).size ≤ sizeLine
    rw [List.size_toArray, List.length_reverse, Array.length_toList]
    exact hz
  show Made.post (if ((-1 : Int) == 1 && (Builtin.Str.strSliceIndices none none (-1) z.length).length == z.length) = true then Made.val (.str z t)
    else Made.str ⟨((Builtin.Str.strSliceIndices none none (-1) z.length).filterMap (z.cps[·]?)).toArray⟩) (EP X pins σ Q) _
  rw [if_neg (by simp), revS_pick]
  exact ⟨hl, .str (revStr z), H4, I5.tok _, ⟨_, rfl⟩, q⟩
end
end Lw
set_option Elab.async false
set_option linter.all false
set_option maxRecDepth 100000
set_option maxHeartbeats 4000000
/-! x[::-1] by value: a text, a list, a tuple -/
namespace Lw
open PySem PySem.Spec PyProof.Rows L2 HT
section
variable {prog : Program} {w : World} {A : Around} {E : Value → Shared → Prop} {s : Shared}
theorem sliceApplied_rev {sl : Addr} {vl vu vs : Value} {n : Nat} {Q : Int × Int × Nat → Shared → Prop} (hs : s.heap.IsSliceOf sl vl vu vs) (pl : IsPart vl none) (pu : IsPart vu none) (ps : IsPart vs (some (-1)))
    (h : Q ((n : Int) - 1, -1, n) s) : wpAny (model prog w) A (Builtin.Slice.sliceApplied (.ref sl) (pure (n : Int))) Q E s := by
  obtain ⟨os, hos, hcs, hds⟩ := id hs
  unfold Builtin.Slice.sliceApplied Builtin.Slice.sliceFields
  refine wpAny_bind (wpAny_bind (wpAny_field hos hds (x := vl) rfl (wpAny_bind (wpAny_field hos hds (x := vu) rfl (wpAny_bind (wpAny_field hos hds (x := vs) rfl (wpAny_pure ?_)))))))
  refine wpAny_bind (slicePart_ ps ?_)
  show wpAny _ _ (if ((-1 : Int) == 0) = true then _ else _) _ _ s
  rw [if_neg (by decide)]
  refine wpAny_bind (slicePart_ pl (wpAny_bind (slicePart_ pu (wpAny_bind (wpAny_pure ?_)))))
  show wpAny _ _ (match Builtin.Slice.sliceAdjust none none (-1) (n : Int) with | (lo, hi) => pure (lo, (-1 : Int), Builtin.Slice.slicePlaces lo hi (-1))) _ _ s
  have e1 : Builtin.Slice.sliceAdjust none none (-1) (n : Int) = ((n : Int) - 1, -1) := by
    unfold Builtin.Slice.sliceAdjust
    simp
  have e2 : Builtin.Slice.slicePlaces ((n : Int) - 1) (-1) (-1) = n := by
    unfold Builtin.Slice.slicePlaces
    simp
    omega
  rw [e1]
  show wpAny _ _ (pure ((n : Int) - 1, (-1 : Int), Builtin.Slice.slicePlaces ((n : Int) - 1) (-1) (-1))) _ _ s
  rw [e2]
  exact wpAny_pure h
theorem fm_congr {α β : Type} {f g : α → Option β} : ∀ {l : List α}, (∀ m ∈ l, f m = g m) → l.filterMap f = l.filterMap g
  | [], _ => rfl
  | x :: l, h => by rw [List.filterMap_cons, List.filterMap_cons, h x List.mem_cons_self, fm_congr fun m hm => h m (List.mem_cons_of_mem _ hm)]
theorem pick_rev (xs : Array Value) : ((List.range xs.size).filterMap fun (m : Nat) => xs[(((xs.size : Int) - 1) + (m : Int) * (-1)).toNat]?).toArray = xs.toList.reverse.toArray := by
  congr 1
  have e : ∀ m ∈ List.range xs.size, xs[(((xs.size : Int) - 1) + (m : Int) * (-1)).toNat]? = xs[xs.size - 1 - m]? := fun m hm => by
    have := List.mem_range.mp hm
    have : (((xs.size : Int) - 1) + (m : Int) * (-1)).toNat = xs.size - 1 - m := by omega
    rw [this]
  rw [fm_congr e, ← PySem.W.krv_all xs, ← List.filterMap_reverse, ← PySem.W.krv_range, List.filterMap_map]
  rfl
theorem getItem_tuple_rev {t sl : Addr} {items : Array Value} {vl vu vs : Value} {Q : Value → Shared → Prop} (ht : IsTup s.heap t items) (hs : s.heap.IsSliceOf sl vl vu vs) (pl : IsPart vl none) (pu : IsPart vu none) (ps : IsPart vs (some (-1)))
    (h : Q (.ref s.heap.objs.size) { s with heap := s.heap.push { cls := .type "tuple", data := .seq items.toList.reverse.toArray } })
    (hsz : items.size ≤ sizeLine) : wpAny (model prog w) A (getItem (.ref t) (.ref sl)) Q E s := by
  have htake : sizeOk (.seq items.toList.reverse.toArray) := by
    show items.toList.reverse.toArray.size ≤ sizeLine
    rw [List.size_toArray, List.length_reverse, Array.length_toList]
    exact hsz
  obtain ⟨os, hos, hcs, hds⟩ := id hs
  have hTs : s.TypeIs (.ref sl) "slice" := ⟨os, hos, hcs⟩
  unfold getItem
  try with_reducible refine wpAny_holding ?_
  first | refine wpAny_bind (wpAny_pure ?_) | skip
  refine wpAny_bind (wpAny_sequenceKey ht.typeIs (by decide) ?_)
  refine wpAny_bind (wpAny_callSpecial?_slot (name := Str.ofString "__getitem__") ht.typeIs PyProof.Rows.slot_tuple_getitem
    (wpAny_call_entry PyProof.Rows.slot_tuple_getitem ht.typeIs entry_tuple_getitem ?_ (args_tuple_getitem _ _)))
  show wpAny _ _ (Builtin.Tuple.tupleItemsOf (.ref t) >>= _) _ _ s
  refine wpAny_bind (tupleItemsOf_ ht ?_)
  refine wpAny_bind (wpAny_typeOf hTs ?_)
  rw [if_pos (by decide)]
  refine wpAny_bind (sliceApplied_rev hs pl pu ps ?_)
  show wpAny _ _ (if ((((items.size : Int) - 1) == 0 && (-1 : Int) == 1) && items.size == items.size) = true then _ else _) _ _ s
  rw [if_neg (by simp), pick_rev]
  first
    | exact wpAny_bind (m := Builtin.Tuple.tupleExact _) (wpAny_newObj_type (wpAny_pure ⟨_, rfl, wpAny_pure h⟩) htake)
    | exact wpAny_bind (m := Builtin.Tuple.tupleExact _) (wpAny_newObj_type (wpAny_bind (wpAny_pure (wpAny_pure ⟨_, rfl, wpAny_pure h⟩))) htake)
    | exact wpAny_bind (wpAny_bind (m := Builtin.Tuple.tupleExact _) (wpAny_newObj_type (wpAny_pure (wpAny_pure ⟨_, rfl, wpAny_pure h⟩)) htake))
    | exact wpAny_bind (wpAny_bind (m := Builtin.Tuple.tupleExact _) (wpAny_newObj_type (wpAny_pure ⟨_, rfl, wpAny_pure h⟩) htake))
end
section
variable {X : Cx}
def tRevV (K : PySem.W.Frag) (te : TE) : TE := fun σ H Q => te σ H fun x H1 => (∃ z, x = .str z ∧ z.length ≤ sizeLine ∧ Q (.str (revStr z)) H1) ∨ (∃ a xs, x = .ref a ∧ SqL K H1 a xs ∧ ∀ p, H1 p = none → Q (.ref p) (upd H1 p (.lst xs.reverse))) ∨
  (∃ a xs, x = .ref a ∧ SqT K H1 a xs ∧ ∀ p, H1 p = none → Q (.ref p) (upd H1 p (.tup xs.reverse)))
theorem pe_revV {e : Expr} {te : TE} {k : Nat} {p1 p2 p3 pos : Pos} (he : PE X e te) : PE X (.Subscript e (.Slice none none (some (.UnaryOp .USub (.Constant (.int 1) k p1) p2)) p3) pos) (tRevV X.K te) := by
  refine ⟨fun pins s σ H Q I h => ?_⟩
  refine Subscript_ (thn (he.run pins s σ H _ I h) fun v s1 ⟨x, H1, I1, r1, q1⟩ => ?_)
  have hst : PO X (some (.UnaryOp .USub (.Constant (.int 1) k p1) p2)) (tPart (tUn (rU fun i => .int (-i)) (tC (.int 1)))) := po_some (pe_un un_neg pe_int)
  refine wpAny_Slice (thn (po_none.run pins s1 σ H1 (fun o H2 => o = none ∧ H2 = H1) I1 ⟨rfl, rfl⟩) fun vl s2 ⟨l, H2, I2, pl, el, e2⟩ => ?_)
  subst el e2
  refine thn (po_none.run pins s2 σ H2 (fun o H3 => o = none ∧ H3 = H2) I2 ⟨rfl, rfl⟩) fun vu s3 ⟨u, H3, I3, pu, eu, e3⟩ => ?_
  subst eu e3
  refine thn (hst.run pins s3 σ H3 (fun o H4 => o = some (-1) ∧ H4 = H3) I3 ⟨1, rfl, -1, rfl, rfl, rfl⟩) fun vs s4 ⟨o, H4, I4, ps, eo, e4⟩ => ?_
  subst eo e4
  have I5 : Inv X pins σ H4 { s4 with heap := s4.heap.push { cls := .type "slice", data := .fields #[vl, vu, vs] } } := I4.kept (t' := s4.toks) fun b ob q => Heap.get?_push_of_some _ q
  show wpAny (model X.prog X.w) X.A (subscriptTail e (.Slice none none (some (.UnaryOp .USub (.Constant (.int 1) k p1) p2)) p3) v (.ref s4.heap.objs.size)) (EP X pins σ Q) X.xe { s4 with heap := s4.heap.push { cls := .type "slice", data := .fields #[vl, vu, vs] } }
  rcases q1 with ⟨z, ex, hz, q⟩ | ⟨a, xs, ex, hx, q⟩ | ⟨a, xs, ex, hx, q⟩
  · subst ex
    obtain ⟨t, rfl⟩ := r1
    obtain ⟨l', rfl, hl'⟩ := IsPart.raw pl
    obtain ⟨u', rfl, hu'⟩ := IsPart.raw pu
    obtain ⟨k', rfl, hk'⟩ := IsPart.raw ps
    have el : l' = none := by cases l' with | none => rfl | some _ => cases hl'
    have eu : u' = none := by cases u' with | none => rfl | some _ => cases hu'
    subst el eu
    obtain ⟨tk, rfl⟩ : ∃ tk, k' = some (-1, tk) := by
      cases k' with
      | none => cases hk'
      | some p =>
        obtain ⟨i, tk⟩ := p
        have : i = -1 := Option.some.inj hk'
        exact ⟨tk, by rw [this]⟩
    refine tail_any (ops := [.str z t, .ref s4.heap.objs.size]) (typeIs_str _ _ _) PySem.F.slot_str_getitem.lookup ?_ (by with_unfolding_all rfl)
    refine wpAny_getItem_str_slice (l := none) (u := none) (st := some (-1, tk)) ⟨_, Heap.get?_push_size _ rfl, rfl, rfl⟩ rfl ?_
    have hl : (revStr z).length ≤ sizeLine := by
      show (z.cps.toList.reverse.toArray).size ≤ sizeLine
      rw [List.size_toArray, List.length_reverse, Array.length_toList]
      exact hz
    show Made.post (if ((-1 : Int) == 1 && (Builtin.Str.strSliceIndices none none (-1) z.length).length == z.length) = true then Made.val (.str z t)
      else Made.str ⟨((Builtin.Str.strSliceIndices none none (-1) z.length).filterMap (z.cps[·]?)).toArray⟩) (EP X pins σ Q) _
    rw [if_neg (by simp), revS_pick]
    exact ⟨hl, .str (revStr z), H4, I5.tok _, ⟨_, rfl⟩, q⟩
  · subst ex
    cases r1
    obtain ⟨its, r, ht, hz⟩ := I5.list hx
    have hlen := r.length
    refine tail_any (ops := [.ref a, .ref s4.heap.objs.size]) ht.isList.typeIs (PySem.slot_list_getitem.lookup) ?_ (by with_unfolding_all rfl)
    refine wpAny_getItem_list_slice ht.isList (Heap.IsSliceOf.new _ vl vu vs) pl pu ps (by decide) ?_ (by rw [List.size_toArray]; omega)
    rw [PySem.W.krv_pick]
    refine ⟨.ref _, _, I5.laid (t' := s4.toks) (o := .lst xs.reverse) (fun b ob q => Heap.get?_push_of_some _ q) (Nat.le_refl _) ?_, rfl, q _ (I5.hok.fresh (Nat.le_refl _))⟩
    exact ⟨by rw [List.length_reverse]; exact hz, _, 0, r.reverse, Heap.get?_push_size _ rfl⟩
  · subst ex
    cases r1
    obtain ⟨its, r, ht, hz⟩ := I5.tuple hx
    have hlen := r.length
    refine tail_any (ops := [.ref a, .ref s4.heap.objs.size]) ht.typeIs (PyProof.Rows.slot_tuple_getitem.lookup) ?_ (by with_unfolding_all rfl)
    refine getItem_tuple_rev ht (Heap.IsSliceOf.new _ vl vu vs) pl pu ps ?_ (by rw [List.size_toArray]; omega)
    refine ⟨.ref _, _, I5.laid (t' := s4.toks) (o := .tup xs.reverse) (fun b ob q => Heap.get?_push_of_some _ q) (Nat.le_refl _) ?_, rfl, q _ (I5.hok.fresh (Nat.le_refl _))⟩
    exact ⟨by rw [List.length_reverse]; exact hz, _, r.reverse, IsTup.new _ _⟩
end
end Lw
set_option Elab.async false
set_option linter.all false
set_option maxRecDepth 100000
set_option maxHeartbeats 4000000
/-! *x, x a tuple, a list or a text -/
namespace Lw
open PySem PySem.Spec PyProof.Rows L2
def signsV (z : Str) : List V := z.cps.toList.map fun c => V.str ⟨#[c]⟩
theorem vals_items {xs : List V} {P : Nat → Value → Prop} : ∀ {us : List Value} {n : Nat}, xs.length = n → us.length = n → (∀ i v, us[i]? = some v → P i v) → (∀ i v, P i v → ∃ y, xs[i]? = some y ∧ RelV y v) → Vals xs us := by
  intro us n hx hu h1 h2
  have key : ∀ (k : Nat), k ≤ n → Vals (xs.drop (n - k)) (us.drop (n - k)) := by
    intro k
    induction k with
    | zero =>
      intro _
      rw [List.drop_eq_nil_of_le (by omega), List.drop_eq_nil_of_le (by omega)]
      exact .nil
    | succ k ih =>
      intro hk
      have lx : n - (k + 1) < xs.length := by omega
      have lu : n - (k + 1) < us.length := by omega
      rw [List.drop_eq_getElem_cons lx, List.drop_eq_getElem_cons lu]
      have e : n - (k + 1) + 1 = n - k := by omega
      rw [e]
      obtain ⟨y, hy, ry⟩ := h2 _ _ (h1 _ _ (List.getElem?_eq_getElem lu))
      rw [List.getElem?_eq_getElem lx] at hy
      cases hy
      exact .cons ry (ih (by omega))
  have := key n (Nat.le_refl _)
  simpa using this
section
variable {X : Cx} {pins : List (Addr × Obj)} {σ : L2.St} {H : Hp} {s : Shared}
theorem Inv.shared {s' : Shared} (I : Inv X pins σ H s) (k : ∀ b o, s.heap.get? b = some o → s'.heap.get? b = some o) (h1 : s'.gens = s.gens) (h2 : s'.drawn = s.drawn) (h3 : s'.os = s.os) : Inv X pins σ H s' := by
  obtain ⟨hp, g, d, tk, os⟩ := s'
  simp only at h1 h2 h3
  subst h1 h2 h3
  exact I.kept (t' := tk) k
theorem star_str {z : Str} {t : Tok} {E : Value → Shared → Prop} {Q : List Value → Shared → Prop} (hh : X.A.handled = none) (I : Inv X pins σ H s) (hz : z.length ≤ sizeLine) (hQ : ∀ us s', Inv X pins σ H s' → Vals (signsV z) us → Q us s') :
    PySem.W.StarOf (model X.prog X.w) X.A E (.str z t) Q s := by
  have c : wpAny (model X.prog X.w) X.A (collect (.str z t)) Q E s := by
    refine PySem.wpAny_collect_str hh z t (fun s' acc k h1 h2 h3 it => hQ _ _ (Inv.shared I k h1 h2 h3) ?_) hz
    have hl : acc.toList.length = z.cps.size := by rw [Array.length_toList]; exact it.1
    refine vals_items (P := SignAt z) (n := z.cps.size) (by simp [signsV]) hl (fun i v e => ?_) fun i v ⟨c, u, e, ev⟩ => ?_
    · exact it.2 i v (by rw [Array.getElem?_toList] at e; exact e)
    · subst ev
      refine ⟨.str ⟨#[c]⟩, ?_, u, rfl⟩
      unfold signsV
      rw [List.getElem?_map, Array.getElem?_toList, e]
      rfl
  unfold PySem.W.StarOf notIterableAtAll
  exact wpAny_bind (wpAny_specialOf (T := "str") (v := .str z t) rfl PySem.F.slot_str_iter.lookup (wpAny_pure ⟨rfl, c⟩))
def tStarS (K : PySem.W.Frag) (te : TE) (t : TA) : TA := fun σ H Q => te σ H fun x H1 => ∃ xs, ((∃ p, x = V.ref p ∧ (SqT K H1 p xs ∨ SqL K H1 p xs)) ∨ ∃ z, x = .str z ∧ z.length ≤ sizeLine ∧ xs = signsV z) ∧ t σ H1 fun ys H2 => Q (xs ++ ys) H2
variable {te : TE} {t : TA} {e : Expr} {es : List Expr} {p : Pos}
theorem pa_starS (hc : X.calm = true) (he : PE X e te) (hr : PA X es t) (hs : starEach (.Starred e p :: es) X.env = (true, eval e X.env) :: starEach es X.env := by rfl) : PA X (.Starred e p :: es) (tStarS X.K te t) := by
  refine ⟨fun pos pins s σ H Q I h => ?_⟩
  refine PySem.W.items_star (thn (he.run pins s σ H _ I h) fun v s1 ⟨y, H1, I1, ry, q⟩ => ?_) hs
  obtain ⟨xs, hx, q⟩ := q
  have go : ∀ us s2, Inv X pins σ H1 s2 → Vals xs us → wpAny (model X.prog X.w) X.A (spliced (backTo pos (starEach es X.env))) (fun vs s3 => ∃ (ws : List V) (H2 : Hp), Inv X pins σ H2 s3 ∧ Vals ws (us ++ vs) ∧ Q ws H2) X.xe s2 := fun us s2 I2 rv =>
    thn (hr.run pos pins s2 σ H1 _ I2 q) fun ws s3 ⟨vs, H3, I3, r3, q3⟩ => ⟨xs ++ vs, H3, I3, rv.append r3, q3⟩
  rcases hx with ⟨a, ey, hx⟩ | ⟨z, ey, hz, ex⟩
  · subst ey
    obtain rfl : v = Value.ref a := ry
    exact StX.star_any I1 hx fun us s2 I2 rv => go us s2 I2 rv
  · subst ey ex
    obtain ⟨tk, rfl⟩ := ry
    exact star_str (I1.ok.hd hc) I1 hz fun us s2 I2 rv => go us s2 I2 rv
end
end Lw
set_option autoImplicit false
set_option Elab.async false
set_option linter.all false
set_option maxRecDepth 100000
set_option maxHeartbeats 2000000
/-! slices, stars, zip, several names at once, truth -/
namespace Dl
open PySem PySem.Spec PyProof.Rows L2 LamX
/-! ### slices -/
abbrev TDO := Rho → (Rho → Option Int → Prop) → Prop
def liftO (X : Cx) (t : TDO) : TO := fun σ H Q => ∃ g lk β ρ ts Qd, g.K = X.K ∧ At g lk β σ ρ ts H ∧ t ρ Qd ∧ ∀ ρ' o H', At g lk β σ ρ' ts H' → Qd ρ' o → Q o H'
abbrev PDO (X : Cx) (e : Option Expr) (t : TDO) : Prop := PO X e (liftO X t)
theorem PO.weak {X : Cx} {e : Option Expr} {t t' : TO} (h : PO X e t) (w : ∀ σ H Q, t' σ H Q → t σ H Q) : PO X e t' := ⟨fun pins s σ H Q I q => h.run pins s σ H Q I (w σ H Q q)⟩
def oNone : TDO := fun ρ Q => Q ρ none
def oSome (t : TD) : TDO := fun ρ Q => t ρ fun ρ' r => match r with
  | .z (.int i) => Q ρ' (some i)
  | _ => False
def cutA {α : Type} (xs : List α) (lo hi : Option Int) : List α := (xs.drop (HT.sIx xs.length 0 lo)).take (HT.sIx xs.length xs.length hi - HT.sIx xs.length 0 lo)
def fSl (d : D) (lo hi : Option Int) (Q : R → Prop) : Prop := match d with
  | .lst xs => Q (.o (.lst (cutA xs lo hi)))
  | .tup xs => Q (.z (.tup (cutA xs lo hi)))
  | .str z => Q (.z (.str (cutS z lo hi)))
  | _ => False
def dSl (te : TD) (tl th : TDO) : TD := fun ρ Q => te ρ fun ρ1 r => tl ρ1 fun ρ2 lo => th ρ2 fun ρ3 hi => match viewR ρ3 r with
  | some d => fSl d lo hi (Q ρ3)
  | none => False
def dRev (te : TD) : TD := fun ρ Q => te ρ fun ρ1 r => match viewR ρ1 r with
  | some (.lst xs) => Q ρ1 (.o (.lst xs.reverse))
  | some (.tup xs) => Q ρ1 (.z (.tup xs.reverse))
  | some (.str z) => Q ρ1 (.z (.str (Lw.revStr z)))
  | _ => False
section
variable {X : Cx} {e : Expr} {te : TD} {lo hi : Option Expr} {tl th : TDO} {pos p2 : Pos}
theorem pdo_none : PDO X none oNone := PO.weak po_none fun σ H Q ⟨g, lk, β, ρ, ts, Qd, hK, A, t, q⟩ => q _ _ _ A t
theorem pdo_some (he : PD X e te) : PDO X (some e) (oSome te) := by
  refine PO.weak (po_some he) fun σ H Q h => ?_
  obtain ⟨g, lk, β, ρ, ts, Qd, hK, A, t, q⟩ := h
  refine ⟨g, lk, β, ρ, ts, _, hK, A, t, fun ρ1 r v H1 ⟨F1, A1⟩ t1 => ?_⟩
  have h1 := A1.tmp (v, r) (by simp)
  cases r with
  | z d =>
    cases d with
    | int i => cases h1; exact ⟨i, rfl, q _ _ _ (At.pop ⟨F1, A1⟩) t1⟩
    | _ => exact t1.elim
  | _ => exact t1.elim
theorem Dens.cut {K : PySem.W.Frag} {F : Hp} {ds : List D} {vs : List V} (h : Dens K F ds vs) (lo hi : Option Int) : Dens K F (cutA ds lo hi) (cutV vs lo hi) := by
  unfold cutA cutV
  rw [h.length]
  exact (h.drop _).take _
def rSlAny (K : PySem.W.Frag) : V → Option Int → Option Int → Hp → VK → Prop := fun x lo hi H Q => rSlL K x lo hi H Q ∨ rSlA K x lo hi H Q ∨ rSlS x lo hi H Q
theorem sl_any : SlR X (rSlAny X.K) := sl_list.or (sl_tupA.or sl_str)
theorem pd_sl (he : PD X e te) (hl : PDO X lo tl) (hu : PDO X hi th) : PD X (.Subscript e (.Slice lo hi none p2) pos) (dSl te tl th) := by
  refine PE.weak (pe_slice sl_any he hl hu) fun σ H Q h => ?_
  obtain ⟨g, lk, β, ρ, ts, Qd, hK, A, t, q⟩ := h
  refine ⟨g, lk, β, ρ, ts, _, hK, A, t, fun ρ1 r v H1 A1 t1 => ⟨g, lk, β, ρ1, _, _, hK, A1, t1, fun ρ2 lo H2 A2 t2 => ⟨g, lk, β, ρ2, _, _, hK, A2, t2, fun ρ3 hi H3 ⟨F3, A3⟩ t3 => ?_⟩⟩⟩
  cases ev : viewR ρ3 r with
  | none => simp only [ev] at t3
  | some d =>
    simp only [ev] at t3
    have h1 := A3.view (A3.tmp (v, r) (by simp)) ev
    have A4 := A3.sub (List.sublist_append_left _ _)
    cases d with
    | lst xs =>
      obtain ⟨a, vs, rfl, h, z, r⟩ := h1
      rw [← hK]
      exact .inl ⟨a, vs, rfl, .of h, fun p hp => q _ _ _ _ (A4.res_lst hp (r.cut lo hi) (Nat.le_trans (cutV_length _ _ _) z)) t3⟩
    | tup xs =>
      have h1' := h1.tup
      obtain ⟨a, vs, rfl, h, z, r⟩ := h1
      rw [← hK]
      refine .inr (.inl ⟨a, vs, rfl, .of (A3.core.sub _ _ h), fun w => ?_, fun _ p hp => q _ _ _ _ (A4.res_tup hp (r.cut lo hi) (Nat.le_trans (cutV_length _ _ _) z)) t3⟩)
      have e : cutA xs lo hi = xs := by
        unfold cutA
        rw [r.length, w.1, w.2, List.drop_zero]
        exact List.take_of_length_le (by rw [r.length]; exact Nat.le_refl _)
      rw [show fSl (.tup xs) lo hi (Qd ρ3) = Qd ρ3 (.z (.tup (cutA xs lo hi))) from rfl, e] at t3
      exact q _ _ _ _ ⟨F3, A4.push_z h1'⟩ t3
    | str z =>
      obtain ⟨rfl, hz⟩ := h1
      exact .inr (.inr ⟨z, rfl, hz, q _ _ _ _ ⟨F3, A4.push_z (.str _ (Nat.le_trans (cutS_length _ _ _) hz))⟩ t3⟩)
    | _ => exact t3.elim
theorem Lw_rev_len (z : Str) : (Lw.revStr z).length = z.length := by
  show (z.cps.toList.reverse.toArray).size = z.cps.size
  rw [List.size_toArray, List.length_reverse, Array.length_toList]
theorem pd_rev {k : Nat} {p1 p3 p4 : Pos} (he : PD X e te) : PD X (.Subscript e (.Slice none none (some (.UnaryOp .USub (.Constant (.int 1) k p1) p3)) p4) pos) (dRev te) := by
  refine PE.weak (Lw.pe_revV he) fun σ H Q h => ?_
  obtain ⟨g, lk, β, ρ, ts, Qd, hK, A, t, q⟩ := h
  refine ⟨g, lk, β, ρ, ts, _, hK, A, t, fun ρ1 r v H1 ⟨F1, A1⟩ t1 => ?_⟩
  have A4 := A1.sub (List.sublist_append_left ts [(v, r)])
  cases ev : viewR ρ1 r with
  | none => simp only [ev] at t1
  | some d =>
    have h1 := A1.view (A1.tmp (v, r) (by simp)) ev
    cases d with
    | lst xs =>
      simp only [ev] at t1
      obtain ⟨a, vs, rfl, h, z, r⟩ := h1
      rw [← hK]
      exact .inr (.inl ⟨a, vs, rfl, .of h, fun p hp => q _ _ _ _ (A4.res_lst hp r.reverse (by rw [List.length_reverse]; exact z)) t1⟩)
    | tup xs =>
      simp only [ev] at t1
      obtain ⟨a, vs, rfl, h, z, r⟩ := h1
      rw [← hK]
      exact .inr (.inr ⟨a, vs, rfl, .of (A1.core.sub _ _ h), fun p hp => q _ _ _ _ (A4.res_tup hp r.reverse (by rw [List.length_reverse]; exact z)) t1⟩)
    | str z =>
      simp only [ev] at t1
      obtain ⟨rfl, hz⟩ := h1
      exact .inl ⟨z, rfl, hz, q _ _ _ _ ⟨F1, A4.push_z (.str _ (by rw [Lw_rev_len]; exact hz))⟩ t1⟩
    | _ => simp only [ev] at t1
end
/-! ### *x -/
def aStar (te : TD) (tr : TDA) : TDA := fun ρ Q => te ρ fun ρ1 r => match frzR ρ1 r with
  | some (ρ2, d) => match itemsD d with
    | some ds => tr ρ2 fun ρ3 rs => Q ρ3 (ds.map R.z ++ rs)
    | none => False
  | none => False
theorem Dens.signs {K : PySem.W.Frag} {F : Hp} (z : Str) : Dens K F (signsD z) (Lw.signsV z) := by
  unfold signsD Lw.signsV
  induction z.cps.toList with
  | nil => exact .nil
  | cons c cs ih => rw [List.map_cons, List.map_cons]; exact .cons sign_den ih
section
variable {X : Cx} {e : Expr} {es : List Expr} {te : TD} {tr : TDA} {p : Pos}
theorem pda_star (hc : X.calm = true) (he : PD X e te) (hr : PDA X es tr) (hs : starEach (.Starred e p :: es) X.env = (true, eval e X.env) :: starEach es X.env := by rfl) : PDA X (.Starred e p :: es) (aStar te tr) := by
  refine PA.weak (Lw.pa_starS hc he hr hs) fun σ H Q h => ?_
  obtain ⟨g, lk, β, ρ, ts, Qd, hK, A, t, q⟩ := h
  refine ⟨g, lk, β, ρ, ts, _, hK, A, t, fun ρ1 r v H1 ⟨F1, A1⟩ t1 => ?_⟩
  cases e1 : frzR ρ1 r with
  | none => simp only [e1] at t1
  | some pr =>
    obtain ⟨ρ2, d⟩ := pr
    simp only [e1] at t1
    obtain ⟨F2, _, A2⟩ := A1.freeze1 (us := []) e1
    have dv : Den g.K F2 d v := A2.tmp (v, .z d) (by simp)
    have fin : ∀ {ds : List D} {vs : List V}, Dens g.K F2 ds vs → tr ρ2 (fun ρ3 rs => Qd ρ3 (ds.map R.z ++ rs)) → liftA X tr σ H1 fun ys H2 => Q (vs ++ ys) H2 := fun {ds vs} r t2 => by
      have A3 := (A2.sub (List.sublist_append_left ts _)).push_zs r
      refine ⟨g, lk, β, ρ2, _, _, hK, ⟨F2, A3⟩, t2, fun ρ3 rs us H3 hl A4 t3 => q _ _ _ _ ?_ ?_ t3⟩
      · rw [List.length_append, List.length_append, List.length_map, r.length, hl]
      · rw [List.zip_append (by rw [List.length_map, r.length]), ← List.append_assoc]
        exact A4
    cases d with
    | lst ds =>
      cases dv with
      | lst h z r => exact ⟨_, .inl ⟨_, rfl, .inr (.of (A2.core.sub _ _ h))⟩, fin r t1⟩
    | tup ds =>
      cases dv with
      | tup h z r => exact ⟨_, .inl ⟨_, rfl, .inl (.of (A2.core.sub _ _ h))⟩, fin r t1⟩
    | str z =>
      cases dv with
      | str z h => exact ⟨_, .inr ⟨z, rfl, h, rfl⟩, fin (Dens.signs z) t1⟩
    | _ => exact t1.elim
end
/-! ### zip -/
def zipD (xs ys : List D) : List D := (xs.zip ys).map fun p => D.tup [p.1, p.2]
def dZip (t : TDA) : TDI := fun ρ Q => t ρ fun ρ1 rs => match frzL ρ1 rs with
  | some (ρ2, [d, e]) => match itemsD d, itemsD e with
    | some xs, some ys => Q ρ2 (zipD xs ys)
    | _, _ => False
  | _ => False
section
variable {g : Gm}
/-- a walked datum's kind -/
theorem kind_of {F H : Hp} (s : ∀ a o, F a = some o → H a = some o) {d : D} {v : V} {xs : List D} (h : Den g.K F d v) (e : itemsD d = some xs) : ∃ k : Lw.Kd, v = k.v ∧ ∃ vs, k.has g.K H vs ∧ Dens g.K F xs vs := by
  cases d with
  | lst ds =>
    cases e
    cases h with
    | @lst a vs _ h z r => exact ⟨.l a, rfl, vs, .of (s _ _ h), r⟩
  | tup ds =>
    cases e
    cases h with
    | @tup a vs _ h z r => exact ⟨.t a, rfl, vs, .of (s _ _ h), r⟩
  | str z =>
    cases e
    cases h with
    | str z hz => exact ⟨.s z, rfl, _, rfl, Dens.signs z⟩
  | _ => cases e
/-- a kind for a datum -/
def kfor : D → Lw.Kd → Prop
  | .lst _, k => ∃ a, k = .l a
  | .tup _, k => ∃ a, k = .t a
  | .str z, k => k = .s z
  | _, _ => False
theorem kfor_has {F H : Hp} (s : ∀ a o, F a = some o → H a = some o) {d : D} {k : Lw.Kd} {xs : List D} (h : Den g.K F d k.v) (e : itemsD d = some xs) (hk : kfor d k) : ∃ vs, k.has g.K H vs ∧ Dens g.K F xs vs := by
  cases d with
  | lst ds =>
    cases e
    obtain ⟨a, rfl⟩ := hk
    cases h with
    | lst h z r => exact ⟨_, .of (s _ _ h), r⟩
  | tup ds =>
    cases e
    obtain ⟨a, rfl⟩ := hk
    cases h with
    | tup h z r => exact ⟨_, .of (s _ _ h), r⟩
  | str z =>
    cases e
    have hk : k = .s z := hk
    subst hk
    cases h with
    | str _ hz => exact ⟨_, rfl, Dens.signs z⟩
  | _ => cases e
theorem kfor_of {F : Hp} {d : D} {v : V} {xs : List D} (h : Den g.K F d v) (e : itemsD d = some xs) : ∃ k : Lw.Kd, v = k.v ∧ kfor d k := by
  cases d with
  | lst ds =>
    cases h with
    | @lst a vs _ h z r => exact ⟨.l a, rfl, a, rfl⟩
  | tup ds =>
    cases h with
    | @tup a vs _ h z r => exact ⟨.t a, rfl, a, rfl⟩
  | str z =>
    cases h with
    | str z hz => exact ⟨.s z, rfl, rfl⟩
  | _ => cases e
theorem serves_zip {d e : D} {xs ys : List D} {k1 k2 : Lw.Kd} (e1 : itemsD d = some xs) (e2 : itemsD e = some ys) (f1 : kfor d k1) (f2 : kfor e k2) : Serves g (Lw.ItzK g.K k1 k2) (zipD xs ys) [(k1.v, .z d), (k2.v, .z e)] := by
  have two : ∀ {lk : List Addr} {β σ : Sg} {ρ : Rho} {ts : Ts} {H : Hp}, At g lk β σ ρ (ts ++ [(k1.v, .z d), (k2.v, .z e)]) H → ∃ F vs us, AtF g lk β F σ ρ (ts ++ [(k1.v, .z d), (k2.v, .z e)]) H ∧ k1.has g.K H vs ∧ Dens g.K F xs vs ∧ k2.has g.K H us ∧ Dens g.K F ys us := by
    rintro lk β σ ρ ts H ⟨F, A⟩
    obtain ⟨vs, h1, r1⟩ := kfor_has (H := H) A.core.sub (A.tmp (k1.v, .z d) (by simp)) e1 f1
    obtain ⟨us, h2, r2⟩ := kfor_has (H := H) A.core.sub (A.tmp (k2.v, .z e) (by simp)) e2 f2
    exact ⟨F, vs, us, A, h1, r1, h2, r2⟩
  refine ⟨fun c hc => ?_, fun lk β σ ρ ts H i c A hd => ?_, fun lk β σ ρ ts H A => ?_⟩
  · simp only [List.mem_cons, List.not_mem_nil, or_false] at hc
    rcases hc with rfl | rfl <;> rfl
  · obtain ⟨F, vs, us, A, h1, r1, h2, r2⟩ := two A
    unfold zipD at hd
    rw [List.getElem?_map] at hd
    cases ez : (xs.zip ys)[i]? with
    | none => rw [ez] at hd; cases hd
    | some p =>
      rw [ez] at hd
      cases hd
      rw [List.getElem?_zip_eq_some] at ez
      obtain ⟨v, hv, dv⟩ := r1.getD ez.1
      obtain ⟨u, hu, du⟩ := r2.getD ez.2
      refine ⟨⟨vs, us, h1, h2, (List.getElem?_eq_some_iff.mp hv).1, (List.getElem?_eq_some_iff.mp hu).1⟩, fun x H' y => ?_⟩
      obtain ⟨T, x', y', rfl, hT, rfl, hx, hy⟩ := y
      have q1 := hx _ h1
      have q2 := hy _ h2
      rw [hv] at q1
      rw [hu] at q2
      cases q1
      cases q2
      exact pair_new A hT dv du
  · obtain ⟨F, vs, us, A, h1, r1, h2, r2⟩ := two A
    refine ⟨vs, us, h1, h2, ?_⟩
    unfold zipD
    rw [List.length_map, List.length_zip, r1.length, r2.length]
end
section
variable {X : Cx} {e e2 : Expr} {t : TDA} {p pos tpos : Pos} {elts : List Expr} {kk : Nat}
theorem pdi_zip (hg : Gl X "zip") (hm : X.mg "zip" = none) (ha : PDA X [e, e2] t) (hs : starEach [e, e2] X.env = (false, eval e X.env) :: starEach [e2] X.env := by rfl) (hpl : (backTo pos (starEach [e2] X.env)).any (·.1) = false := by rfl) :
    PDI X (.Tuple elts kk tpos) (.Call (.Name "zip" p) [e, e2] [] pos) (dZip t) := by
  refine PI.weak (Lw.pi_zipK hg hm ha hs hpl) fun σ H Q h => ?_
  obtain ⟨g, lk, β, ρ, ts, Qd, hK, A, t, q⟩ := h
  refine ⟨g, lk, β, ρ, ts, _, hK, A, t, fun ρ1 rs vs H1 hl ⟨F1, A1⟩ t1 => ?_⟩
  cases e1 : frzL ρ1 rs with
  | none => simp only [e1] at t1
  | some pr =>
    obtain ⟨ρ2, ds⟩ := pr
    simp only [e1] at t1
    obtain ⟨F2, _, A2, dv⟩ := A1.freezeL hl e1
    match ds, dv, t1 with
    | [d, e], .cons d1 (.cons d2 .nil), t1 =>
      cases i1 : itemsD d with
      | none => simp only [i1] at t1
      | some xs =>
        cases i2 : itemsD e with
        | none => simp only [i1, i2] at t1
        | some ys =>
          simp only [i1, i2] at t1
          obtain ⟨k1, rfl, f1⟩ := kfor_of d1 i1
          obtain ⟨k2, rfl, f2⟩ := kfor_of d2 i2
          obtain ⟨us1, h1, _⟩ := kfor_has (H := H1) A2.core.sub d1 i1 f1
          obtain ⟨us2, h2, _⟩ := kfor_has (H := H1) A2.core.sub d2 i2 f2
          rw [← hK]
          refine ⟨k1, k2, us1, us2, rfl, h1, h2, q _ _ [(k1.v, .z d), (k2.v, .z e)] _ _ ⟨F2, ?_⟩ (serves_zip i1 i2 f1 f2) t1⟩
          have A3 := (A2.push_z d1).push_z d2
          rw [List.append_assoc] at A3
          exact A3
    | [], _, t1 => exact t1.elim
    | [_], _, t1 => exact t1.elim
    | _ :: _ :: _ :: _, _, t1 => exact t1.elim
end
/-! ### truth -/
def truD : D → Option Bool
  | .non => some false
  | .bl b => some b
  | .int i => some (i != 0)
  | .str z => some ((z.length : Int) != 0)
  | .lst xs => some (!xs.isEmpty)
  | .tup xs => some (!xs.isEmpty)
  | _ => none
def dTru (te : TD) : TDT := fun ρ Q => te ρ fun ρ1 r => match viewR ρ1 r with
  | some d => match truD d with
    | some b => Q ρ1 b
    | none => False
  | none => False
section
variable {X : Cx} {a : Expr} {te : TD}
theorem Dens.isEmpty {K : PySem.W.Frag} {F : Hp} {ds : List D} {vs : List V} (h : Dens K F ds vs) : vs.isEmpty = ds.isEmpty := by cases h <;> rfl
theorem pdt_tru (ha : PD X a te) (he : ∀ whole, isTrue a X.env whole = (do let v ← whole; standAt a.pos; holding [v] (truthy v)) := by intro _; rfl) : PDT X a (dTru te) := by
  refine PT.weak (pt_truth ha he) fun σ H Q h => ?_
  obtain ⟨g, lk, β, ρ, ts, Qd, hK, A, t, q⟩ := h
  refine ⟨g, lk, β, ρ, ts, _, hK, A, t, fun ρ1 r v H1 ⟨F1, A1⟩ t1 => ?_⟩
  cases ev : viewR ρ1 r with
  | none => simp only [ev] at t1
  | some d =>
    simp only [ev] at t1
    have h1 := A1.view (A1.tmp (v, r) (by simp)) ev
    cases eb : truD d with
    | none => simp only [eb] at t1
    | some b =>
      simp only [eb] at t1
      refine ⟨b, ?_, q _ _ _ (At.pop ⟨F1, A1⟩) t1⟩
      cases d with
      | non => cases eb; cases h1; rfl
      | bl b => cases eb; cases h1; rfl
      | int i => cases eb; cases h1; rfl
      | str z => cases eb; obtain ⟨rfl, hz⟩ := h1; exact ⟨hz, rfl⟩
      | lst xs => cases eb; obtain ⟨a, vs, rfl, h, z, r⟩ := h1; exact .inl ⟨vs, .of h, by rw [r.isEmpty]⟩
      | tup xs => cases eb; obtain ⟨a, vs, rfl, h, z, r⟩ := h1; exact .inr (.inl ⟨vs, .of (A1.core.sub _ _ h), by rw [r.isEmpty]⟩)
      | _ => cases eb
end
/-! ### a, b = x, y -/
/-- stored: a borrowed object is frozen -/
def stR (ρ : Rho) : R → Option (Rho × R)
  | .b j => match frzR ρ (.b j) with
    | some (ρ', d) => some (ρ', .z d)
    | none => none
  | r => some (ρ, r)
def stL (ρ : Rho) : List R → Option (Rho × List R)
  | [] => some (ρ, [])
  | r :: rs => match stR ρ r with
    | some (ρ', q) => match stL ρ' rs with
      | some (ρ'', qs) => some (ρ'', q :: qs)
      | none => none
    | none => none
section
variable {g : Gm} {lk : List Addr} {β σ : Sg} {F H : Hp} {ρ ρ' : Rho} {ts us : Ts}
theorem AtF.st1 {v : V} {r q : R} (A : AtF g lk β F σ ρ (ts ++ (v, r) :: us) H) (e : stR ρ r = some (ρ', q)) : q.nob = true ∧ ∃ F', AtF g lk β F' σ ρ' (ts ++ (v, q) :: us) H := by
  cases r with
  | b j =>
    simp only [Dl.stR] at e
    cases h1 : frzR ρ (.b j) with
    | none => rw [h1] at e; cases e
    | some pr =>
      rw [h1] at e
      obtain ⟨ρ1, d⟩ := pr
      cases e
      obtain ⟨F', l, A'⟩ := A.freeze1 h1
      exact ⟨rfl, F', A'⟩
  | z d => simp only [Dl.stR] at e; cases e; exact ⟨rfl, F, A⟩
  | o d => simp only [Dl.stR] at e; cases e; exact ⟨rfl, F, A⟩
  | p => simp only [Dl.stR] at e; cases e; exact ⟨rfl, F, A⟩
theorem AtF.stL : ∀ {rs qs : List R} {vs : List V} {ρ ρ' : Rho} {F : Hp} {ts : Ts}, vs.length = rs.length → AtF g lk β F σ ρ (ts ++ vs.zip rs) H → Dl.stL ρ rs = some (ρ', qs) → (∀ q ∈ qs, q.nob = true) ∧ vs.length = qs.length ∧ ∃ F', AtF g lk β F' σ ρ' (ts ++ vs.zip qs) H
  | [], _, [], _, _, F, _, _, A, e => by cases e; exact ⟨fun _ h => absurd h List.not_mem_nil, rfl, F, A⟩
  | [], _, _ :: _, _, _, _, _, l, _, _ => nomatch l
  | _ :: _, _, [], _, _, _, _, l, _, _ => nomatch l
  | r :: rs, qs, v :: vs, ρ, ρ', F, ts, l, A, e => by
    unfold Dl.stL at e
    split at e
    · rename_i ρ1 q h1
      split at e
      · rename_i ρ2 qs' h2
        cases e
        obtain ⟨n1, F1, A1⟩ := A.st1 (ts := ts) (us := vs.zip rs) h1
        have A2 : AtF g lk β F1 σ ρ1 ((ts ++ [(v, q)]) ++ vs.zip rs) H := by simpa using A1
        obtain ⟨n2, hl, F2, A3⟩ := AtF.stL (by simpa using l) A2 h2
        refine ⟨fun x hx => ?_, by simpa using hl, F2, by simpa using A3⟩
        rcases List.mem_cons.mp hx with rfl | hx
        · exact n1
        · exact n2 x hx
      · cases e
    · cases e
end
def dPar (i j : Nat) (t : TDA) : TDS := fun E ρ => t ρ fun ρ1 rs => match stL ρ1 rs with
  | some (ρ2, [q1, q2]) => E.nx ((ρ2.set i (some q1)).set j (some q2))
  | _ => False
def dPar3 (i j l : Nat) (t : TDA) : TDS := fun E ρ => t ρ fun ρ1 rs => match stL ρ1 rs with
  | some (ρ2, [q1, q2, q3]) => E.nx (((ρ2.set i (some q1)).set j (some q2)).set l (some q3))
  | _ => False
section
variable {X : Cx} {i j l : Nat} {x y z : Str} {a b c : Expr} {t : TDA} {px py pz pt pos : Pos} {kt k2 : Nat} {pt2 : Pos}
theorem pd_par (hc : X.calm = true) (hN : X.N.Nodup) (hi : X.N[i]? = some x) (hj : X.N[j]? = some y) (hij : i ≠ j)
    (hx : X.env.scope.names.lookup x = some .local) (hy : X.env.scope.names.lookup y = some .local) (ha : PDA X [a, b] t)
    (hw : swappedStores [.Tuple [.Name x px, .Name y py] kt pt] (.Tuple [a, b] k2 pt2) X.env = pure (some [x, y])) (li : i < X.N.length := by first | decide | (simp; done)) (lj : j < X.N.length := by first | decide | (simp; done))
    (hs : swapsWithSole [.Tuple [.Name x px, .Name y py] kt pt] (.Tuple [a, b] k2 pt2) pos.line X.env = pure false := by rfl) :
    PDS X (.Assign [.Tuple [.Name x px, .Name y py] kt pt] (.Tuple [a, b] k2 pt2) pos) (dPar i j t) := by
  refine ⟨fun pins s σ H E I h => ?_⟩
  have hiσ : i < σ.length := by rw [I.len]; exact li
  have hjσ : j < σ.length := by rw [I.len]; exact lj
  refine (ps_par hc hN hi hj hij hx hy ha hw hs).run pins s σ H E I ?_
  obtain ⟨g, lk, ρ, ts, Ed, hK, nb, A, t, ee⟩ := h
  refine ⟨g, lk, σ, ρ, ts, _, hK, A, t, fun ρ1 rs vs H1 hl ⟨F1, A1⟩ t1 => ?_⟩
  cases e1 : stL ρ1 rs with
  | none => simp only [e1] at t1
  | some pr =>
    obtain ⟨ρ2, qs⟩ := pr
    simp only [e1] at t1
    obtain ⟨nq, hlq, F2, A2⟩ := A1.stL hl e1
    match qs, vs, hlq, nq, A2, t1 with
    | [q1, q2], [v1, v2], _, nq, A2, t1 =>
      refine ⟨v1, v2, rfl, ?_⟩
      have A2' : AtF g lk σ F2 σ ρ2 ((ts ++ [(v2, q2)]) ++ [(v1, q1)]) H1 := A2.perm (by
        simp only [List.append_assoc, List.cons_append, List.nil_append, List.zip_cons_cons, List.zip_nil_right]
        exact List.Perm.append_left _ (List.Perm.swap _ _ _))
      have A3 := A2'.store hiσ (nq q1 (by simp)) (nb.snoc (nq q2 (by simp)))
      have A4 := A3.store (by simpa using hjσ) (nq q2 (by simp)) nb
      exact ee.nx _ _ _ ⟨F2, A4⟩ t1
    | [], _, _, _, _, t1 => exact t1.elim
    | [_], _, _, _, _, t1 => exact t1.elim
    | _ :: _ :: _ :: _, _, _, _, _, t1 => exact t1.elim
    | [_, _], [], h, _, _, _ => cases h
    | [_, _], [_], h, _, _, _ => cases h
    | [_, _], _ :: _ :: _ :: _, h, _, _, _ => cases h
theorem pd_par3 (hc : X.calm = true) (hN : X.N.Nodup) (hi : X.N[i]? = some x) (hj : X.N[j]? = some y) (hl : X.N[l]? = some z) (hij : i ≠ j) (hil : i ≠ l) (hjl : j ≠ l)
    (hx : X.env.scope.names.lookup x = some .local) (hy : X.env.scope.names.lookup y = some .local) (hz : X.env.scope.names.lookup z = some .local) (ha : PDA X [a, b, c] t)
    (hw : swappedStores [.Tuple [.Name x px, .Name y py, .Name z pz] kt pt] (.Tuple [a, b, c] k2 pt2) X.env = pure (some [x, y, z])) (li : i < X.N.length := by first | decide | (simp; done)) (lj : j < X.N.length := by first | decide | (simp; done)) (ll : l < X.N.length := by first | decide | (simp; done))
    (hs : swapsWithSole [.Tuple [.Name x px, .Name y py, .Name z pz] kt pt] (.Tuple [a, b, c] k2 pt2) pos.line X.env = pure false := by rfl) :
    PDS X (.Assign [.Tuple [.Name x px, .Name y py, .Name z pz] kt pt] (.Tuple [a, b, c] k2 pt2) pos) (dPar3 i j l t) := by
  refine ⟨fun pins s σ H E I h => ?_⟩
  have hiσ : i < σ.length := by rw [I.len]; exact li
  have hjσ : j < σ.length := by rw [I.len]; exact lj
  have hlσ : l < σ.length := by rw [I.len]; exact ll
  refine (ps_par3 hc hN hi hj hl hij hil hjl hx hy hz ha hw hs).run pins s σ H E I ?_
  obtain ⟨g, lk, ρ, ts, Ed, hK, nb, A, t, ee⟩ := h
  refine ⟨g, lk, σ, ρ, ts, _, hK, A, t, fun ρ1 rs vs H1 hl ⟨F1, A1⟩ t1 => ?_⟩
  cases e1 : stL ρ1 rs with
  | none => simp only [e1] at t1
  | some pr =>
    obtain ⟨ρ2, qs⟩ := pr
    simp only [e1] at t1
    obtain ⟨nq, hlq, F2, A2⟩ := A1.stL hl e1
    match qs, vs, hlq, nq, A2, t1 with
    | [q1, q2, q3], [v1, v2, v3], _, nq, A2, t1 =>
      refine ⟨v1, v2, v3, rfl, ?_⟩
      have A2' : AtF g lk σ F2 σ ρ2 (((ts ++ [(v3, q3)]) ++ [(v2, q2)]) ++ [(v1, q1)]) H1 := A2.perm (by
        simp only [List.append_assoc, List.cons_append, List.nil_append, List.zip_cons_cons, List.zip_nil_right]
        refine List.Perm.append_left _ ?_
        exact ((List.Perm.swap _ _ _).trans ((List.Perm.swap _ _ _).cons _)).trans (List.Perm.swap _ _ _))
      have A3 := A2'.store hiσ (nq q1 (by simp)) ((nb.snoc (nq q3 (by simp))).snoc (nq q2 (by simp)))
      have A4 := A3.store (by simpa using hjσ) (nq q2 (by simp)) (nb.snoc (nq q3 (by simp)))
      have A5 := A4.store (by simpa using hlσ) (nq q3 (by simp)) nb
      exact ee.nx _ _ _ ⟨F2, A5⟩ t1
    | [], _, _, _, _, t1 => exact t1.elim
    | [_], _, _, _, _, t1 => exact t1.elim
    | [_, _], _, _, _, _, t1 => exact t1.elim
    | _ :: _ :: _ :: _ :: _, _, _, _, _, t1 => exact t1.elim
    | [_, _, _], [], h, _, _, _ => cases h
    | [_, _, _], [_], h, _, _, _ => cases h
    | [_, _, _], [_, _], h, _, _, _ => cases h
    | [_, _, _], _ :: _ :: _ :: _ :: _, h, _, _, _ => cases h
end
end Dl
set_option Elab.async false
set_option linter.all false
set_option maxRecDepth 100000
set_option maxHeartbeats 4000000
/-! set(xs) of a list of ints, whose members may then be sorted -/
namespace Lw
open PySem PySem.Spec PyProof.Rows L2
theorem nodup_len {α : Type} [DecidableEq α] : ∀ (l D : List α), l.Nodup → (∀ x ∈ l, x ∈ D) → l.length ≤ D.length
  | [], _, _, _ => Nat.zero_le _
  | x :: r, D, nd, h => by
    rw [List.nodup_cons] at nd
    have hx := h x List.mem_cons_self
    have := nodup_len r (D.erase x) nd.2 fun y hy => (List.mem_erase_of_ne (fun e => nd.1 (by rw [← e]; exact hy))).mpr (h y (List.mem_cons_of_mem _ hy))
    rw [List.length_erase_of_mem hx] at this
    have : 0 < D.length := List.length_pos_of_mem hx
    rw [List.length_cons]
    omega
/-- a set whose members are among these has no more members -/
theorem SetR.few {w : World} {h : Heap} {a : Addr} {S : Int → Bool} {n : Nat} (R : SetR w h a S n) {D : List Int} (hD : ∀ k, S k = true → k ∈ D) : n ≤ D.length := by
  obtain ⟨o, es, ep, t, ho, hx, hd, g, nd, hm, hb, hf, hn, hr, hl⟩ := R
  have := nodup_len _ D nd fun k hk => hD k ((hm k).mpr hk)
  rw [List.length_map, Array.length_toList, hn] at this
  exact this
/-- the new set, empty -/
abbrev set0 (w : World) : Obj := { cls := .type "set", dict := none, data := .set #[] 0 (.fresh 0 0 (!w.params.followText "set-order")) }
section
variable {P : Program} {w : World} {A : Around} {E : Value → Shared → Prop} {s : Shared}
theorem set_of_list {l : Addr} {its : Array Value} {ns : List Int} {Q : Value → Shared → Prop} (calm : A.handled = none) (hl : s.heap.IsList l its) (hi : IntsAre its.toList ns) (hb : ns.length + 1 < scanBound)
    (h : ∀ (h' : Heap) (tk c : Nat), SetR w h' s.heap.objs.size (fun j => decide (j ∈ ns)) c → (∀ b o, s.heap.get? b = some o → h'.get? b = some o) → Q (.ref s.heap.objs.size) { s with heap := h', toks := tk }) :
    wpAny (model P w) A (call (.type "set") [.ref l]) Q E s := by
  have sz : its.size = ns.length := by
    have := IntsAre.length hi
    rw [Array.length_toList] at this
    exact this
  have cs := PySem.F.called_set
  obtain ⟨mc, mt, hmr⟩ := cs.mro
  have m1 := cs.made
  have m2 := cs.sub
  refine wpAny_call (codeAny_of_tree ?_)
  show wpAny _ _ (callAny (Value.type "set") _) _ _ _
  refine wpAny_pure ⟨Code.quiet_builtin _ (by decide +kernel), codeAny_builtin PySem.F.entry_type_call ?_⟩
  rw [Around.under_plain (weight_type_call_type "set" [Value.ref l] []) rfl]
  have m3 := cs.notType
  have m4 := cs.canCreate
  have m5 := PySem.F.typeCall_set_1 (Value.ref l)
  repeat (any_goals (first | wp_step | assumption))
  refine codeAny_mono (code_set_led1 (Value.ref l) (E := E) (Q₁ := fun y s1 => y = Value.ref s.heap.objs.size ∧ s1 = { s with heap := s.heap.push (set0 w) }) ⟨rfl, rfl⟩) (fun r s1 hr => ?_)
  cases r with
  | error e => exact hr
  | ok fl =>
  cases fl with
  | next => exact hr.elim
  | brk => exact hr.elim
  | cont => exact hr.elim
  | ret y =>
  obtain ⟨rfl, rfl⟩ := hr
  have at_ : (s.heap.push (set0 w)).get? s.heap.objs.size = some (set0 w) := Heap.get?_push_size _ rfl
  have ty : Shared.TypeIs { s with heap := s.heap.push (set0 w) } (.ref s.heap.objs.size) "set" := ⟨_, at_, rfl⟩
  have m6 := cs.init.lookup
  have m7 := cs.init.bind (Value.ref s.heap.objs.size)
  repeat (any_goals (first | wp_step | assumption))
  let Back : Value → Shared → Prop := fun r s2 => r = Value.none ∧ ∃ h' tk c, s2 = { s with heap := h', toks := tk } ∧ SetR w h' s.heap.objs.size (fun j => decide (j ∈ ns)) c ∧ ∀ b o, s.heap.get? b = some o → h'.get? b = some o
  refine codeAny_mono (codeAny_call_builtin (R := wants Back E) cs.init.plain PySem.F.entry_set_init (check_set_init_1 ty ?_)) (fun r2 s2 hr2 => ?_)
  · obtain ⟨⟨oc, od, da, os⟩, ho, hc, nl, hd⟩ := hl
    simp only at hc hd
    subst hc hd
    have ho2 := Heap.get?_push_of_some (set0 w) ho
    have q1 := PySem.F.sub_list_set
    have q2 := PySem.F.sub_list_frozenset
    have q3 : (Value.type "list" == Value.type "dict") = false := by decide
    have lst : (s.heap.push (set0 w)).IsList l its := ⟨_, ho2, rfl, nl, rfl⟩
    unfold Builtin.«set.__init__» noKeywords
    unfold Builtin.Frozenset.updateFrom
    generalize eP : pyIter = PI
    wp_walk
    subst eP
    refine wpAny_pyIter_list lst (wpAny_bind (wpAny_runValue ?_))
    have lt := Heap.lt_size ho
    have sz1 : (s.heap.push (set0 w)).objs.size = s.heap.objs.size + 1 := Heap.size_push ..
    have calm3 : A.in1.in1.in1.handled = none := by
      simp only [Around.in1]
      exact calm
    have nI : l ≠ (s.heap.push (set0 w)).objs.size := by rw [sz1]; exact Nat.ne_of_lt (Nat.lt_succ_of_lt lt)
    have out : s.heap.objs.size ∉ [(s.heap.push (set0 w)).objs.size, l] := by
      intro z
      rw [sz1] at z
      rcases List.mem_cons.mp z with z | z
      · exact absurd z (Nat.ne_of_lt (Nat.lt_succ_self _))
      · exact absurd (List.mem_singleton.mp z) (Nat.ne_of_gt lt)
    have vals : ∀ (i : Nat) (v : Value), its[i]? = some v → ∃ k t, ns[i]? = some k ∧ v = .int k t := fun i v hv => by
      have hi2 : i < ns.length := by
        rw [← sz]
        exact (Array.getElem?_eq_some_iff.mp hv).1
      obtain ⟨t, e⟩ := IntsAre.int_at hi i v (by rw [Array.getElem?_toList]; exact hv)
      exact ⟨ns[i], t, List.getElem?_eq_getElem hi2, by rw [e, List.getD_eq_getElem?_getD, List.getElem?_eq_getElem hi2]; rfl⟩
    refine set_update_ints ((Walks.list calm3 _ l nI its).toS) s.heap.objs.size out ns sz hb vals its.size 0 _ (by omega) (Nat.zero_le _) ⟨⟨_, Heap.get?_push_size _ rfl, rfl, rfl⟩, lst.push _⟩ ⟨0, Nat.le_refl 0, setR_new_at (Heap.get?_push_of_some _ at_)⟩ ?_
    intro s3 c hm _ hS
    obtain ⟨h3, g3, d3, t3, o3⟩ := s3
    cases (hm.gens : g3 = s.gens)
    cases (hm.drawn : d3 = s.drawn)
    cases (hm.os : o3 = s.os)
    show wpAny _ _ _ _ _ _
    refine wpAny_pure ?_
    show wpAny _ _ (ret Value.none) _ _ _
    refine wpAny_pure ⟨rfl, h3, t3, c, rfl, hS, fun b o eb => ?_⟩
    have lb := Heap.lt_size eb
    refine hm.heap b o (fun z => ?_) (Heap.get?_push_of_some _ (Heap.get?_push_of_some _ eb))
    rw [sz1] at z
    rcases List.mem_cons.mp z with z | z
    · exact absurd z (Nat.ne_of_lt lb)
    · exact absurd (List.mem_singleton.mp z) (Nat.ne_of_lt (Nat.lt_succ_of_lt lb))
  · cases r2 with
    | error e => exact hr2
    | ok f2 =>
    cases f2 with
    | next => exact hr2.elim
    | brk => exact hr2.elim
    | cont => exact hr2.elim
    | ret u =>
      obtain ⟨rfl, h', tk, c, rfl, hS, hk⟩ := hr2
      repeat (any_goals (first | wp_step | assumption))
      exact h _ _ _ hS hk
end
section
variable {X : Cx}
/-- set(xs), xs a list of ints; D: whatever has all of them -/
def rSetL (w : World) (K : PySem.W.Frag) : List V → Hp → VK → Prop := fun xs H Q => ∃ (l : Addr) (ns : List Int), xs = [.ref l] ∧ SqL K H l (ns.map V.int) ∧ ns.length < 1000 ∧
  ∀ p c, H p = none → (∀ D : List Int, (∀ k ∈ ns, k ∈ D) → c ≤ D.length) → Q (.ref p) (upd H p (SetO w p (fun j => decide (j ∈ ns)) c))
theorem cr_setL (hc : X.calm = true) : CallR X (.type "set") (rSetL X.w X.K) := by
  intro pins s σ H xs us Q I r h
  obtain ⟨l, ns, rfl, hl, hn, q⟩ := h
  obtain ⟨its, rv, pl, _⟩ := I.list hl
  rw [Vals.ref1 r]
  refine set_of_list (I.ok.hd hc) pl.isList (ns := ns) (by simpa using rv.ints) (by unfold scanBound; omega) fun h' tk c hS hk => ?_
  refine ⟨.ref s.heap.objs.size, upd H s.heap.objs.size (SetO X.w s.heap.objs.size (fun j => decide (j ∈ ns)) c), I.laid hk (Nat.le_refl _) (setO_new hS), rfl, q _ c (I.hok.fresh (Nat.le_refl _)) fun D hD => ?_⟩
  exact SetR.few hS fun k hk => hD k (of_decide_eq_true hk)
end
end Lw
set_option Elab.async false
set_option linter.all false
set_option maxRecDepth 100000
set_option maxHeartbeats 4000000
/-! set(xs) of a list of ints and texts; its number of members -/
namespace Lw
open PySem PySem.Spec PyProof.Rows L2
section
variable {K : Type} [DecidableEq K]
def inB (ns : List K) (j : K) : Bool := decide (j ∈ ns)
def dset (l : List K) : List K := l.foldl (fun acc x => if x ∈ acc then acc else x :: acc) []
def dcount (l : List K) : Nat := (dset l).length
theorem dset_snoc (l : List K) (z : K) : dset (l ++ [z]) = if z ∈ dset l then dset l else z :: dset l := by
  unfold dset
  rw [List.foldl_append]
  rfl
theorem snoc_ind {α : Type} {P : List α → Prop} (h0 : P []) (h1 : ∀ l z, P l → P (l ++ [z])) : ∀ l, P l := fun l => by
  have : ∀ l : List α, P l.reverse := fun l => by
    induction l with
    | nil => exact h0
    | cons x l ih => rw [List.reverse_cons]; exact h1 _ _ ih
  have := this l.reverse
  rwa [List.reverse_reverse] at this
theorem dset_mem (l : List K) : ∀ x, x ∈ dset l ↔ x ∈ l := by
  refine snoc_ind (P := fun l => ∀ x, x ∈ dset l ↔ x ∈ l) (fun x => Iff.rfl) (fun l z ih x => ?_) l
  rw [dset_snoc]
  split
  · rename_i h
    rw [ih, List.mem_append, List.mem_singleton]
    have := (ih z).mp h
    constructor
    · exact .inl
    · rintro (h | rfl)
      · exact h
      · exact this
  · rw [List.mem_cons, ih, List.mem_append, List.mem_singleton, Or.comm]
theorem dcount_snoc (l : List K) (z : K) : dcount (l ++ [z]) = if z ∈ l then dcount l else dcount l + 1 := by
  unfold dcount
  rw [dset_snoc]
  by_cases h : z ∈ l
  · rw [if_pos h, if_pos ((dset_mem l z).mpr h)]
  · rw [if_neg h, if_neg fun q => h ((dset_mem l z).mp q)]
    rfl
theorem dcount_le (l : List K) : dcount l ≤ l.length := by
  refine snoc_ind (P := fun l => dcount l ≤ l.length) (Nat.le_refl _) (fun l z ih => ?_) l
  rw [dcount_snoc, List.length_append]
  simp only [List.length_cons, List.length_nil]
  split <;> omega
theorem dcount_nodup {l : List K} (h : l.Nodup) : dcount l = l.length := by
  revert h
  refine snoc_ind (P := fun l => l.Nodup → dcount l = l.length) (fun _ => rfl) (fun l z ih h => ?_) l
  rw [List.nodup_append] at h
  rw [dcount_snoc, if_neg fun q => h.2.2 z q z (by simp) rfl, ih h.1, List.length_append]
  rfl
theorem dcount_lt {l : List K} (h : ¬ l.Nodup) : dcount l < l.length := by
  revert h
  refine snoc_ind (P := fun l => ¬ l.Nodup → dcount l < l.length) (fun h => absurd List.nodup_nil h) (fun l z ih h => ?_) l
  rw [dcount_snoc, List.length_append]
  simp only [List.length_cons, List.length_nil]
  have := dcount_le l
  by_cases hz : z ∈ l
  · rw [if_pos hz]; omega
  · rw [if_neg hz]
    have : ¬ l.Nodup := fun n => h (by
      rw [List.nodup_append]
      exact ⟨n, by simp, fun a ha b hb e => hz (by rw [List.mem_singleton.mp hb] at e; exact e ▸ ha)⟩)
    have := ih this
    omega
end
section
variable {P : Program} {w : World} {A : Around} {E : Value → Shared → Prop} {s : Shared} {K : Type} [DecidableEq K] {knd : KeyKind P w K}
theorem setOf_cong {h : Heap} {a : Addr} {S S' : K → Bool} {n n' : Nat} (R : h.SetOf knd a S n) (e : ∀ k, S' k = S k) (en : n' = n) : h.SetOf knd a S' n' := by
  have : S' = S := funext e
  subst this en
  exact R
theorem setOf_keep {h h' : Heap} {a : Addr} {S : K → Bool} {n : Nat} (R : h.SetOf knd a S n) (k : ∀ o, h.get? a = some o → h'.get? a = some o) : h'.SetOf knd a S n := by
  obtain ⟨o, es, ep, t, ho, r⟩ := R
  exact ⟨o, es, ep, t, k o ho, r⟩
theorem set_update_keys {I : Addr} {fp wr : List Addr} {G : Array GenState → Array GenState → Prop} {n : Nat} {Pv : Nat → Value → Prop} {St : Nat → Shared → Prop} {R : Result → Shared → Prop}
    (W : WalksS P w A.in1 I fp wr G n Pv St) (S : Addr) (hSf : S ∉ fp) (ns : List K) (hn : n = ns.length) (hb : ns.length + 1 < scanBound) (hval : ∀ (i : Nat) (v : Value), Pv i v → ∃ k, ns[i]? = some k ∧ knd.is k v = true ∧ v.scannable = true) :
    ∀ (k i : Nat) (s : Shared), n - i = k → i ≤ n → St i s → s.heap.SetOf knd S (fun j => decide (j ∈ ns.take i)) (dcount (ns.take i)) →
      (∀ s', Moved (S :: wr) G s s' → s'.heap.SetOf knd S (fun j => decide (j ∈ ns)) (dcount ns) → R (.ok (.ret .none)) s') →
      codeAny (model P w) A (.builtin "set.update.loop" ⟨[.ref S, .ref I], []⟩) R s := by
  have hSw : S ∉ wr := fun h => hSf (W.sub _ h)
  have hsub : ∀ b ∈ wr, b ∈ S :: wr := fun b hb => List.mem_cons_of_mem _ hb
  intro k
  induction k with
  | zero =>
    intro i s hk' hi hst hS hR
    have hin : i = n := by omega
    subst hin
    refine codeAny_builtin F.entry_set_update_loop ?_
    rw [Around.under_plainId F.plain_set_update_loop _]
    show wpAny _ A.in1 (pyNext (.ref I) >>= _) _ _ s
    refine wpAny_bind (W.done s _ _ hst fun s' hm => ?_)
    show wpAny _ A.in1 (ret Value.none) _ _ s'
    have e : ns.take i = ns := List.take_of_length_le (by omega)
    rw [e] at hS
    exact wpAny_pure (hR s' (hm.mono hsub) (setOf_keep hS fun o e => hm.heap S o hSw e))
  | succ k ih =>
    intro i s hk' hi hst hS hR
    have hlt : i < n := by omega
    refine codeAny_builtin F.entry_set_update_loop ?_
    rw [Around.under_plainId F.plain_set_update_loop _]
    show wpAny _ A.in1 (pyNext (.ref I) >>= _) _ _ s
    refine wpAny_bind (W.item i s _ _ hlt hst fun v s' hP hst' hm => ?_)
    obtain ⟨z, hz, his, hsc⟩ := hval i v hP
    have hS' : s'.heap.SetOf knd S (fun j => decide (j ∈ ns.take i)) (dcount (ns.take i)) := setOf_keep hS fun o e => hm.heap S o hSw e
    have hdc := dcount_le (ns.take i)
    rw [List.length_take] at hdc
    show wpAny _ A.in1 (holding [v] (setAdd S v) >>= _) _ _ s'
    refine wpAny_bind (wpAny_holding ?_)
    unfold setAdd
    refine wpAny_holding ?_
    refine wpAny_bind (knd.pyHash his ?_)
    refine wpAny_setAddHashed_of (s := { s' with toks := s'.toks + 1 }) his hsc hS' (by omega) fun h' hsb hS2 => ?_
    have hS3 : h'.SetOf knd S (fun j => decide (j ∈ ns.take (i + 1))) (dcount (ns.take (i + 1))) := setOf_cong hS2 (fun j => by
      rw [List.take_add_one, hz]
      simp [List.mem_append]) (by
      rw [List.take_add_one, hz]
      show dcount (ns.take i ++ [z]) = _
      rw [dcount_snoc]
      by_cases h : z ∈ ns.take i
      · simp [h]
      · simp [h])
    refine wpAny_pure ⟨plainId_quiet F.plain_set_update_loop _, ih (i + 1) _ (by omega) hlt (W.frame _ s' _ _ hst' (Nat.le_succ _) fun b hb o e => ?_) hS3 fun s'' hm'' hS'' => ?_⟩
    · rw [hsb.2 b (fun h : b = S => hSf (by rw [← h]; exact hb))]; exact e
    · refine hR s'' (Moved.trans W.gtrans ((hm.mono hsub).then_heap (Nat.le_succ _) fun b o hb e => ?_) hm'') hS''
      rw [hsb.2 b (fun h : b = S => hb (by rw [h]; exact List.mem_cons_self))]; exact e
theorem set_of_keys {l : Addr} {its : Array Value} {ns : List K} {Q : Value → Shared → Prop} (calm : A.handled = none) (hl : s.heap.IsList l its) (sz : its.size = ns.length) (hv : ∀ (i : Nat) (v : Value), its[i]? = some v → ∃ k, ns[i]? = some k ∧ knd.is k v = true ∧ v.scannable = true) (hb : ns.length + 1 < scanBound)
    (h : ∀ (h' : Heap) (tk : Nat), h'.SetOf knd s.heap.objs.size (fun j => decide (j ∈ ns)) (dcount ns) → (∀ b o, s.heap.get? b = some o → h'.get? b = some o) → Q (.ref s.heap.objs.size) { s with heap := h', toks := tk }) :
    wpAny (model P w) A (call (.type "set") [.ref l]) Q E s := by
  have cs := PySem.F.called_set
  obtain ⟨mc, mt, hmr⟩ := cs.mro
  have m1 := cs.made
  have m2 := cs.sub
  refine wpAny_call (codeAny_of_tree ?_)
  show wpAny _ _ (callAny (Value.type "set") _) _ _ _
  refine wpAny_pure ⟨Code.quiet_builtin _ (by decide +kernel), codeAny_builtin PySem.F.entry_type_call ?_⟩
  rw [Around.under_plain (weight_type_call_type "set" [Value.ref l] []) rfl]
  have m3 := cs.notType
  have m4 := cs.canCreate
  have m5 := PySem.F.typeCall_set_1 (Value.ref l)
  repeat (any_goals (first | wp_step | assumption))
  refine codeAny_mono (code_set_led1 (Value.ref l) (E := E) (Q₁ := fun y s1 => y = Value.ref s.heap.objs.size ∧ s1 = { s with heap := s.heap.push (set0 w) }) ⟨rfl, rfl⟩) (fun r s1 hr => ?_)
  cases r with
  | error e => exact hr
  | ok fl =>
  cases fl with
  | next => exact hr.elim
  | brk => exact hr.elim
  | cont => exact hr.elim
  | ret y =>
  obtain ⟨rfl, rfl⟩ := hr
  have at_ : (s.heap.push (set0 w)).get? s.heap.objs.size = some (set0 w) := Heap.get?_push_size _ rfl
  have ty : Shared.TypeIs { s with heap := s.heap.push (set0 w) } (.ref s.heap.objs.size) "set" := ⟨_, at_, rfl⟩
  have m6 := cs.init.lookup
  have m7 := cs.init.bind (Value.ref s.heap.objs.size)
  repeat (any_goals (first | wp_step | assumption))
  let Back : Value → Shared → Prop := fun r s2 => r = Value.none ∧ ∃ h' tk, s2 = { s with heap := h', toks := tk } ∧ h'.SetOf knd s.heap.objs.size (fun j => decide (j ∈ ns)) (dcount ns) ∧ ∀ b o, s.heap.get? b = some o → h'.get? b = some o
  refine codeAny_mono (codeAny_call_builtin (R := wants Back E) cs.init.plain PySem.F.entry_set_init (check_set_init_1 ty ?_)) (fun r2 s2 hr2 => ?_)
  · obtain ⟨⟨oc, od, da, os⟩, ho, hc, nl, hd⟩ := hl
    simp only at hc hd
    subst hc hd
    have ho2 := Heap.get?_push_of_some (set0 w) ho
    have q1 := PySem.F.sub_list_set
    have q2 := PySem.F.sub_list_frozenset
    have q3 : (Value.type "list" == Value.type "dict") = false := by decide
    have lst : (s.heap.push (set0 w)).IsList l its := ⟨_, ho2, rfl, nl, rfl⟩
    unfold Builtin.«set.__init__» noKeywords
    unfold Builtin.Frozenset.updateFrom
    generalize eP : pyIter = PI
    wp_walk
    subst eP
    refine wpAny_pyIter_list lst (wpAny_bind (wpAny_runValue ?_))
    have lt := Heap.lt_size ho
    have sz1 : (s.heap.push (set0 w)).objs.size = s.heap.objs.size + 1 := Heap.size_push ..
    have calm3 : A.in1.in1.in1.handled = none := by
      simp only [Around.in1]
      exact calm
    have nI : l ≠ (s.heap.push (set0 w)).objs.size := by rw [sz1]; exact Nat.ne_of_lt (Nat.lt_succ_of_lt lt)
    have out : s.heap.objs.size ∉ [(s.heap.push (set0 w)).objs.size, l] := by
      intro z
      rw [sz1] at z
      rcases List.mem_cons.mp z with z | z
      · exact absurd z (Nat.ne_of_lt (Nat.lt_succ_self _))
      · exact absurd (List.mem_singleton.mp z) (Nat.ne_of_gt lt)
    have fresh0 : ((s.heap.push (set0 w)).push { cls := .type "list_iterator", data := .fields #[.ref l, .int 0 0] }).SetOf knd s.heap.objs.size (fun j => decide (j ∈ ns.take 0)) (dcount (ns.take 0)) :=
      ⟨_, #[], 0, _, Heap.get?_push_of_some _ at_, ⟨rfl, rfl, rfl⟩, rfl, (fun e he => by simp at he), (fun k => by simp), (by decide), (by rfl), rfl⟩
    refine set_update_keys ((Walks.list calm3 _ l nI its).toS) s.heap.objs.size out ns sz hb hv its.size 0 _ (by omega) (Nat.zero_le _) ⟨⟨_, Heap.get?_push_size _ rfl, rfl, rfl⟩, lst.push _⟩ fresh0 ?_
    intro s3 hm hS
    obtain ⟨h3, g3, d3, t3, o3⟩ := s3
    cases (hm.gens : g3 = s.gens)
    cases (hm.drawn : d3 = s.drawn)
    cases (hm.os : o3 = s.os)
    show wpAny _ _ _ _ _ _
    refine wpAny_pure ?_
    show wpAny _ _ (ret Value.none) _ _ _
    refine wpAny_pure ⟨rfl, h3, t3, rfl, hS, fun b o eb => ?_⟩
    have lb := Heap.lt_size eb
    refine hm.heap b o (fun z => ?_) (Heap.get?_push_of_some _ (Heap.get?_push_of_some _ eb))
    rw [sz1] at z
    rcases List.mem_cons.mp z with z | z
    · exact absurd z (Nat.ne_of_lt lb)
    · exact absurd (List.mem_singleton.mp z) (Nat.ne_of_lt (Nat.lt_succ_of_lt lb))
  · cases r2 with
    | error e => exact hr2
    | ok f2 =>
    cases f2 with
    | next => exact hr2.elim
    | brk => exact hr2.elim
    | cont => exact hr2.elim
    | ret u =>
      obtain ⟨rfl, h', tk, rfl, hS, hk⟩ := hr2
      repeat (any_goals (first | wp_step | assumption))
      exact h _ _ hS hk
end
section
variable {X : Cx}
/-- set(xs), xs a list of ints and texts -/
def rSetKy (P : Program) (w : World) (K : PySem.W.Frag) : List V → Hp → VK → Prop := fun xs H Q => ∃ (l : Addr) (ks : List Key), xs = [.ref l] ∧ SqL K H l (ks.map kV) ∧ ks.length < 4000 ∧
  ∀ p, H p = none → Q (.ref p) (upd H p (SetK P w p (inB ks) (dcount ks)))
theorem cr_setKy (hc : X.calm = true) : CallR X (.type "set") (rSetKy X.prog X.w X.K) := by
  intro pins s σ H xs us Q I r h
  obtain ⟨l, ks, rfl, hl, hn, q⟩ := h
  obtain ⟨its, rv, pl, _⟩ := I.list hl
  rw [Vals.ref1 r]
  have hlen : its.length = ks.length := by rw [← rv.length, List.length_map]
  refine set_of_keys (knd := mixKind X.prog X.w) (I.ok.hd hc) pl.isList (ns := ks) (by simpa using hlen) (fun i v hv => ?_) (by unfold scanBound; omega) fun h' tk hS hk => ?_
  · have hv' : its[i]? = some v := by simpa using hv
    have hi : i < ks.length := by rw [← hlen]; exact (List.getElem?_eq_some_iff.mp hv').1
    obtain ⟨u, hu, ru⟩ := rv.get (i := i) (x := kV ks[i]) (by rw [List.getElem?_map, List.getElem?_eq_getElem hi]; rfl)
    rw [hu] at hv'
    cases hv'
    exact ⟨ks[i], List.getElem?_eq_getElem hi, kV_is ru, key_scan ru⟩
  · exact ⟨.ref s.heap.objs.size, _, I.laid hk (Nat.le_refl _) (setK_new hS), rfl, q _ (I.hok.fresh (Nat.le_refl _))⟩
def rLenK (P : Program) (w : World) : List V → Hp → VK → Prop := fun xs H Q => ∃ (a : Addr) (S : Key → Bool) (n : Nat), xs = [.ref a] ∧ H a = some (SetK P w a S n) ∧ n < 4096 ∧ Q (.int (n : Nat)) H
theorem cr_lenK : CallR X (.builtin "len") (rLenK X.prog X.w) := by
  intro pins s σ H xs us Q I r h
  obtain ⟨a, S, n, rfl, ha, hn, q⟩ := h
  rw [Vals.ref1 r]
  obtain ⟨o, es, ep, t, ho, hx, hd, _, _, _, hf, hs⟩ := setK_get I ha
  refine call_len_set ho hx hd hf (by omega) ?_
  rw [hs]
  exact ⟨.int (n : Nat), H, I.tok _, ⟨_, rfl⟩, q⟩
end
end Lw
set_option autoImplicit false
set_option Elab.async false
set_option linter.all false
set_option maxRecDepth 100000
set_option maxHeartbeats 2000000
/-! the pot; sets of ints made and sorted; the number of different ones -/
namespace Dl
open PySem PySem.Spec PyProof.Rows L2 LamX
section
variable {g : Gm} {lk : List Addr} {β σ : Sg} {F H : Hp} {ρ : Rho} {ts : Ts}
theorem AtF.potSet (A : AtF g lk β F σ ρ ts H) {p : Addr} {m n : Int} (hp : g.fm.pot = some p) (h0 : 0 ≤ m) (h1 : 0 ≤ n) (h2 : n < 2147483648) : AtF g lk β F σ ρ ts (upd H p (.lst [.int m, .int n])) := by
  have mu : g.fm.mu p := .inl hp
  obtain ⟨x, y, hx, _⟩ := A.core.iv.pot p hp
  have st : ∀ a u, H a = some u → a ≠ p → upd H p (.lst [.int m, .int n]) a = some u := fun a u e ne => by rw [upd_ne ne]; exact e
  refine A.grow ⟨fun a u e => st a u (A.core.sub a u e) (fun z => by rw [z, A.core.mu p mu] at e; cases e), A.core.ent, fun a u e1 e2 e3 => ?_, A.core.mu, ⟨fun a e => ?_, fun q hq => ?_⟩, fun a u e => ?_⟩ (Le.refl F) fun a u e hF nm => ⟨st a u e fun z => nm (z ▸ mu), hF⟩
  · obtain ⟨k1, k2⟩ := A.core.keep a u e1 e2 e3
    exact ⟨k1, st a u k2 fun z => e3 (z ▸ mu)⟩
  · rw [hp] at e
    cases e
    exact ⟨m, n, upd_same, h0, h1, h2⟩
  · obtain ⟨ps, t1, t2, t3⟩ := A.core.iv.tab q hq
    refine ⟨ps, st _ _ t1 (fun z => by rw [z, hx] at t1; cases t1), t2, fun pos cv hc => ?_⟩
    obtain ⟨c, c1, c2⟩ := t3 pos cv hc
    exact ⟨c, c1, st _ _ c2 fun z => by rw [z, hx] at c2; cases c2⟩
  · obtain ⟨o', e'⟩ := A.core.ev a u e
    by_cases ea : a = p
    · subst ea; exact ⟨_, upd_same⟩
    · exact ⟨o', st a o' e' ea⟩
end
/-- the pot's number at j: what is left of the digits (0), the mixed one (1) -/
def potOk (j : Int) (m : Int) : Prop := 0 ≤ m ∧ (j = 1 → m < 2147483648)
def dPotIx (i : Nat) (j : Int) : TD := fun ρ Q => match ρ[i]? with
  | some (some .p) => (j = 0 ∨ j = 1) ∧ ∀ m : Int, potOk j m → Q ρ (.z (.int m))
  | _ => False
def gdPot (i : Nat) (j : Int) : TDG := fun d ρ Q => match ρ[i]? with
  | some (some .p) => match d with
    | .int m => (j = 0 ∨ j = 1) ∧ potOk j m ∧ Q ρ
    | _ => False
  | _ => False
section
variable {X : Cx} {i k : Nat} {x : Str} {j : Int} {p pos p1 : Pos}
theorem pd_potIx (i : Nat) (hN : X.N[i]? = some x := by rfl) (hv : Vis X.env.scope x := by first | exact Or.inl rfl | exact Or.inr (Or.inl rfl) | exact Or.inr (Or.inr rfl)) (hd : (x == ("__debug__" : Str)) = false := by decide)
    (hcd : (x == ("__classdict__" : Str)) = false := by decide) : PD X (.Subscript (.Name x p) (.Constant (.int j) k p1) pos) (dPotIx i j) := by
  refine PE.weak (pe_ix ix_list (pe_var hN hv hd hcd) pe_int (fun _ _ => rfl)) fun σ H Q h => ?_
  obtain ⟨g, lk, β, ρ, ts, Qd, hK, ⟨F, A⟩, t, q⟩ := h
  unfold dPotIx at t
  split at t
  · rename_i e
    obtain ⟨_, v, h1, a, rfl, ha⟩ := A.slot i _ e
    obtain ⟨m, n, hm, p0, p1, p2⟩ := A.core.iv.pot a ha
    refine ⟨_, h1, ?_⟩
    show rIxL X.K (.ref a) (.int j) H Q
    rcases t.1 with rfl | rfl
    · exact ⟨a, _, _, .int m, rfl, rfl, .of hm, rfl, q _ _ _ _ ⟨F, A.push_z (.int m)⟩ (t.2 m ⟨p0, fun e => by cases e⟩)⟩
    · exact ⟨a, _, _, .int n, rfl, rfl, .of hm, rfl, q _ _ _ _ ⟨F, A.push_z (.int n)⟩ (t.2 n ⟨p1, fun _ => p2⟩)⟩
  · exact t.elim
theorem pdg_pot (i : Nat) (hN : X.N[i]? = some x := by rfl) (hv : Vis X.env.scope x := by first | exact Or.inl rfl | exact Or.inr (Or.inl rfl) | exact Or.inr (Or.inr rfl)) (hd : (x == ("__debug__" : Str)) = false := by decide)
    (hcd : (x == ("__classdict__" : Str)) = false := by decide)
    (ha : ∀ v, assign (.Subscript (.Name x p) (.Constant (.int j) k p1) pos) X.env v = (do
      let ov ← holding [v] (eval (.Name x p) X.env)
      let iv ← holding [v, ov] (eval (.Constant (.int j) k p1) X.env)
      standAt pos
      holding [v, ov, iv] (setItem ov iv v)
      release [v, ov, iv] []) := by intro _; rfl) : PDG X [] (.Subscript (.Name x p) (.Constant (.int j) k p1) pos) (gdPot i j) := by
  refine PG.weak (pg_sub (pe_var hN hv hd hcd) pe_int set_list ha) fun v σ H Q h => ?_
  obtain ⟨g, lk, β, ρ, ts, d, Qd, hK, ⟨F, A⟩, t, q⟩ := h
  unfold gdPot at t
  split at t
  · rename_i e
    have dv : Den g.K F d v := A.tmp (v, .z d) (by simp)
    obtain ⟨_, u, h1, a, rfl, hpa⟩ := A.slot i _ e
    obtain ⟨m, n, hm, p0, p1, p2⟩ := A.core.iv.pot a hpa
    cases d with
    | int z =>
      cases dv
      obtain ⟨hj, hz, t⟩ := t
      have A1 := A.sub (List.sublist_append_left _ _)
      refine ⟨_, h1, ?_⟩
      show rSetL (.ref a) (.int j) (.int z) H fun H3 => Q σ H3
      rcases hj with rfl | rfl
      · exact ⟨a, _, 0, 0, rfl, rfl, hm, rfl, q _ _ _ ⟨F, A1.potSet hpa hz.1 p1 p2⟩ rfl (fun _ _ => rfl) t⟩
      · exact ⟨a, _, 1, 1, rfl, rfl, hm, rfl, q _ _ _ ⟨F, A1.potSet hpa p0 hz.1 (hz.2 rfl)⟩ rfl (fun _ _ => rfl) t⟩
    | _ => exact t.elim
  · exact t.elim
end
/-! ### a call that gets the pot -/
def mixOk : D → Prop
  | .lst [.int m, .int n] => 0 ≤ m ∧ 0 ≤ n ∧ n < 2147483648
  | _ => False
def dCallP (sem : Sem) (ta : TD) (t : TDA) : TD := fun ρ Q => ta ρ fun ρ1 r => t ρ1 fun ρ2 rs => match frzL ρ2 rs with
  | some (ρ3, ds) => match r with
    | .b i => match ρ3[i]? with
      | some (some (.o d)) => mixOk d ∧ sem (.p :: ds.map R.z) fun q => q ≠ .p ∧ ∀ d', mixOk d' → Q (ρ3.set i (some (.o d'))) q
      | _ => False
    | .o d => mixOk d ∧ sem (.p :: ds.map R.z) fun q => q ≠ .p ∧ Q ρ3 q
    | _ => False
  | none => False
theorem mixOk_own {K : PySem.W.Frag} {F H : Hp} {a : Addr} {d : D} (m : mixOk d) (o : OwnD K F H a d) : PotH H a := by
  unfold mixOk at m
  split at m
  · rename_i i j
    obtain ⟨vs, e, _, r⟩ := o
    cases r with
    | cons r1 r =>
      cases r with
      | cons r2 r =>
        cases r
        cases r1
        cases r2
        exact ⟨i, j, e, m⟩
  · exact m.elim
theorem pot_own {K : PySem.W.Frag} {F H : Hp} {a : Addr} (h : PotH H a) : ∃ d, mixOk d ∧ OwnD K F H a d := by
  obtain ⟨m, n, e, r⟩ := h
  exact ⟨.lst [.int m, .int n], r, _, e, by show 2 ≤ sizeLine; decide, .cons (.int m) (.cons (.int n) .nil)⟩
section
variable {g : Gm} {lk : List Addr} {β σ : Sg} {F H : Hp} {ρ : Rho} {ts : Ts}
/-- the callee's entry: the own object at a is its pot -/
theorem Core.callP (c : Core g lk F H) {a : Addr} (hF : F a = none) (hm : PotH H a) : Core ⟨g.K, { pot := some a, tabs := g.fm.tabs }, F, H⟩ [] F H := by
  refine ⟨c.sub, fun a o h => .inl h, fun b o h1 h2 h3 => ⟨h2, h1⟩, ?_, ⟨?_, c.iv.tab⟩, fun a o h => ⟨o, h⟩⟩
  · rintro b (e | h)
    · cases e; exact hF
    · exact c.mu b (.inr h)
  · intro b e
    cases e
    exact hm
/-- behind the call -/
theorem Core.backP (c : Core g lk F H) {a : Addr} (ha : g.H a = none) {F' H' : Hp} (o : Core ⟨g.K, { pot := some a, tabs := g.fm.tabs }, F, H⟩ [] F' H') : Core g lk F' H' := by
  have sm : Same F F' := fun b u h => (o.ent b u h).elim id fun z => absurd z.1 List.not_mem_nil
  have mu' : ∀ b, ({ pot := some a, tabs := g.fm.tabs } : Fm).mu b → b = a ∨ g.fm.mu b := by
    rintro b (e | h)
    · cases e; exact .inl rfl
    · exact .inr (.inr h)
  have kp : ∀ b u, H b = some u → F b = none → ¬ g.fm.mu b → b ≠ a → F' b = none ∧ H' b = some u := fun b u h1 h2 h3 h4 => o.keep b u h1 h2 fun z => (mu' b z).elim h4 h3
  refine ⟨o.sub, fun b u h => ?_, fun b u h1 h2 h3 => ?_, fun b h => ?_, ⟨fun b e => ?_, o.iv.tab⟩, fun b u h => ?_⟩
  · rcases c.ent b u h with z | ⟨hl, z, e⟩
    · exact .inl (sm b u z)
    · exact .inr ⟨hl, z, sm b _ e⟩
  · obtain ⟨e1, e2⟩ := c.keep b u h1 h2 h3
    exact kp b u e2 e1 h3 fun z => by rw [z, ha] at h1; cases h1
  · rcases h with e | h
    · by_cases z : b = a
      · subst z; exact o.mu b (.inl rfl)
      · by_cases ht : ∃ q, (b, q) ∈ g.fm.tabs
        · exact o.mu b (.inr ht)
        · obtain ⟨m, n, hm, _⟩ := c.iv.pot b e
          exact (o.keep b _ hm (c.mu b (.inl e)) fun w => w.elim (fun w => z (Option.some.inj w).symm) ht).1
    · exact o.mu b (.inr h)
  · by_cases z : b = a
    · subst z; exact o.iv.pot b rfl
    · obtain ⟨m, n, hm, hr⟩ := c.iv.pot b e
      by_cases ht : ∃ q, (b, q) ∈ g.fm.tabs
      · obtain ⟨q, hq⟩ := ht
        obtain ⟨ps, h1, _⟩ := c.iv.tab (b, q) hq
        rw [hm] at h1
        cases h1
      · exact ⟨m, n, (o.keep b _ hm (c.mu b (.inl e)) fun w => w.elim (fun w => z (Option.some.inj w).symm) ht).2, hr⟩
  · obtain ⟨u', e⟩ := c.ev b u h
    exact o.ev b u' e
/-- the others last over the call -/
theorem AtF.afterP (A : AtF g lk β F σ ρ ts H) {a : Addr} (ha : g.H a = none) (na : ∀ d, ((some (.ref a), some (.o d)) : Cell) ∉ cells σ ρ ts) {F' H' : Hp} {v : V} {r : R} (o : Out ⟨g.K, { pot := some a, tabs := g.fm.tabs }, F, H⟩ F' H' v r) (np : r ≠ .p) : AtF g lk β F' σ ρ (ts ++ [(v, r)]) H' := by
  have sm : Same F F' := fun b u h => (o.core.ent b u h).elim id fun z => absurd z.1 List.not_mem_nil
  have c' := A.core.backP ha o.core
  have up : ∀ {x : V} {q : R}, (∀ d, x = .ref a → q ≠ .o d) → ROk g β F H x q → ROk g β F' H' x q := fun {x q} n h => h.le (Le.of sm) fun b d e er => by
    subst er
    obtain ⟨b', eb, ob⟩ := h
    rw [e] at eb
    cases eb
    obtain ⟨u, hu⟩ := ob.out_mem
    have nb : b ≠ a := fun z => n d (by rw [e, z]) rfl
    have nm : ¬ ({ pot := some a, tabs := g.fm.tabs } : Fm).mu b := by
      rintro (w | w)
      · exact nb (Option.some.inj w).symm
      · exact ob.mu (.inr w)
    exact ⟨fun u' hu' => (o.core.keep b u' hu' ob.out nm).2, (o.core.keep b u hu ob.out nm).1⟩
  have A2 : AtF g lk β F' σ ρ ts H' := by
    refine ⟨c', A.len, fun i q e => ?_, fun c hc => up (fun d e1 e2 => na d ?_) (A.tmp c hc), A.link, A.dis⟩
    · obtain ⟨n, x, h1, h2⟩ := A.slot i q e
      refine ⟨n, x, h1, up (fun d e1 e2 => na d ?_) h2⟩
      subst e1 e2
      exact slot_mem h1 e
    · have : tcell c ∈ cells σ ρ ts := tcell_mem hc
      unfold tcell at this
      rw [e1, e2] at this
      exact this
  refine A2.push ?_ fun b d ev er d' hm => ?_
  · have k := o.ok
    cases r with
    | z d => exact k
    | p => exact absurd rfl np
    | b i => exact absurd o.nob (by simp [R.nob])
    | o d =>
      obtain ⟨b, e, n1, n2, n3, n4⟩ := k
      have : H b = none := n1
      exact ⟨b, e, A.core.outE n1, n2, fun w => w.elim (fun w => by
        obtain ⟨m, n, hm, _⟩ := A.core.iv.pot b w
        rw [hm] at this
        cases this) fun w => n3 (.inr w), n4⟩
  · subst ev er
    obtain ⟨b', e', n1, _⟩ := o.ok
    cases e'
    have ob := A.own_of hm
    obtain ⟨u, hu⟩ := ob.out_mem
    exact absurd (n1.symm.trans hu) (by simp)
end
/-- one that stands last between is let go, its object out of all cells -/
theorem AtF.gone {g : Gm} {lk : List Addr} {β σ : Sg} {F H : Hp} {ρ : Rho} {ts us : Ts} {a : Addr} {d : D} (A : AtF g lk β F σ ρ (ts ++ (.ref a, .o d) :: us) H) : ∀ d', ((some (.ref a), some (.o d')) : Cell) ∉ cells σ ρ (ts ++ us) := fun d' hm => by
  obtain ⟨h1, h2⟩ := A.other
  rcases mem_cells hm with ⟨i, v, r, e, g1, g2⟩ | ⟨t, ht, e⟩
  · cases e
    exact h1 _ (slot_mem g1 g2) d' rfl
  · rcases List.mem_append.mp ht with ht | ht
    · exact h1 _ (tcell_mem ht) d' (by rw [← e])
    · exact h2 (tcell t) (List.mem_map.mpr ⟨t, ht, rfl⟩) d' (by rw [← e])
section
variable {X : Cx} {f : Addr} {fd : FuncData} {ps : List Str} {sem : Sem} {k : Nat} {x : Str} {e : Expr} {es : List Expr} {ta : TD} {t : TDA} {p pos : Pos}
/-- the promise for any frame -/
def spA (K : PySem.W.Frag) (sem : Sem) : Sp := fun vs H Q E => ∃ fm, spD K fm sem vs H Q E
theorem ok_any {P : Program} {w : World} {K : PySem.W.Frag} {mg : Str → Option Value} {base : Heap} {CX : CXT} (F : ∀ fm, FnOk P w K mg base CX k f fd ps (spD K fm sem)) : FnOk P w K mg base CX k f fd ps (spA K sem) :=
  ⟨fun vs H Q E ⟨fm, h⟩ => (F fm).len vs H Q E h, fun A outer s H args us vs Q E hr he hb hv ⟨fm, h⟩ => (F fm).run A outer s H args us vs Q E hr he hb hv h⟩
theorem okg_any {P : Program} {w : World} {K : PySem.W.Frag} {mg : Str → Option Value} {base : Heap} {CX : CXT} (F : ∀ fm, Lw.FnG P w K mg base CX k f fd ps (spD K fm sem)) : Lw.FnG P w K mg base CX k f fd ps (spA K sem) :=
  ⟨fun vs H Q E ⟨fm, h⟩ => (F fm).size vs H Q E h, fun A outer s H us vs Q E gd hr he hb hv ⟨fm, h⟩ => (F fm).goes A outer s H us vs Q E gd hr he hb hv h⟩
theorem Dens.args {K : PySem.W.Frag} {fm : Fm} {F : Hp} : ∀ {ds : List D} {vs : List V}, Dens K F ds vs → Paired (ArgR K fm F) vs (ds.map R.z)
  | _, _, .nil => .nil
  | _, _, .cons h t => .cons (.z h) t.args
theorem lift_callP {σ : L2.St} {H : Hp} {Q : VK} (h : liftE X (dCallP sem ta t) σ H Q) : tCall (spA X.K sem) [] E0 (tCons (liftE X ta) (liftA X t)) σ H Q := by
  obtain ⟨g, lk, β, ρ, ts, Qd, hK, A, t, q⟩ := h
  refine ⟨g, lk, β, ρ, ts, _, hK, A, t, fun ρ1 r v H1 A1 t1 => ⟨g, lk, β, ρ1, _, _, hK, A1, t1, fun ρ2 rs vs H2 hl ⟨F2, A2⟩ t2 => ?_⟩⟩
  cases e : frzL ρ2 rs with
  | none => simp only [e] at t2
  | some z =>
    obtain ⟨ρ3, ds⟩ := z
    simp only [e] at t2
    obtain ⟨F3, _, A3, dv⟩ := A2.freezeL hl e
    rw [List.append_nil]
    cases r with
    | z d => exact t2.elim
    | p => exact t2.elim
    | o d =>
      obtain ⟨hm, t2⟩ := t2
      obtain ⟨a, ea, ow⟩ := A3.tmp (v, .o d) (by simp)
      simp only at ea
      subst ea
      rw [← hK]
      refine ⟨_, F3, _, _, A3.core.callP ow.out (mixOk_own hm ow.at_), .cons (.p rfl) dv.args, t2, fun q' v' F' H' o tq => ?_⟩
      have A4 := A3.sub (List.sublist_append_left ts [(.ref a, .o d)])
      have gone := AtF.gone (us := []) A3
      rw [List.append_nil] at gone
      exact q _ _ _ _ ⟨F', A4.afterP ow.new gone o tq.1⟩ tq.2
    | b i =>
      cases e3 : ρ3[i]? with
      | none => simp only [e3] at t2
      | some o3 =>
        cases o3 with
        | none => simp only [e3] at t2
        | some r3 =>
          cases r3 with
          | o d =>
            simp only [e3] at t2
            obtain ⟨hm, t2⟩ := t2
            obtain ⟨_, x, h1, a, hx, ow⟩ := A3.slot i _ e3
            subst hx
            have rv : β[i]? = some (some v) := A3.tmp (v, .b i) (by simp)
            rw [A3.link i d e3, h1] at rv
            cases rv
            rw [← hK]
            refine ⟨_, F3, _, _, A3.core.callP ow.out (mixOk_own hm ow.at_), .cons (.p rfl) dv.args, t2, fun q' v' F' H' o tq => ?_⟩
            have hiσ : i < σ.length := (List.getElem?_eq_some_iff.mp h1).1
            have A4 := A3.sub (List.sublist_append_left ts [(.ref a, .b i)])
            have A5 := A4.wipe1 (v := some (.ref a)) hiσ
            rw [set_self h1] at A5
            have na : ∀ d', ((some (.ref a), some (.o d')) : Cell) ∉ cells σ (ρ3.set i none) ts := fun d' hmm => by
              have dd := A4.dis
              rw [cells_setR h1 A4.len] at hmm
              obtain ⟨j, hj, ej⟩ := List.getElem_of_mem hmm
              rw [List.getElem_set] at ej
              split at ej
              · cases ej
              · rename_i hne
                have hij : (cells σ ρ3 ts)[i]? = some (some (.ref a), some (.o d)) := by
                  unfold cells
                  rw [List.getElem?_append_left (by rw [List.length_zip, A4.len]; omega), List.getElem?_zip_eq_some]
                  exact ⟨h1, e3⟩
                obtain ⟨li, e1⟩ := List.getElem?_eq_some_iff.mp hij
                rw [List.length_set] at hj
                rw [List.pairwise_iff_getElem] at dd
                rcases Nat.lt_or_gt_of_ne hne with h | h
                · exact dd i j li hj h a d d' e1 ej
                · exact dd j i hj li h a d' d ej e1
            have A6 := A5.afterP ow.new na o tq.1
            obtain ⟨d', hm', ow'⟩ := pot_own (K := g.K) (F := F') (o.core.iv.pot a rfl)
            have A7 : AtF g lk β F' σ (ρ3.set i (some (.o d'))) (ts ++ [(v', q')]) H' := by
              refine ⟨A6.core, by have := A6.len; rw [List.length_set] at this ⊢; exact this, fun j r hj => ?_, A6.tmp, fun j d0 hj => ?_, ?_⟩
              · rcases get_set hj with ⟨rfl, e⟩ | ⟨nj, e⟩
                · cases e
                  exact ⟨rfl, _, h1, a, rfl, ow.new, o.core.mu a (.inl rfl), ow.mu, ow'⟩
                · exact A6.slot j r (by rw [List.getElem?_set_ne (Ne.symm nj)]; exact e)
              · rcases get_set hj with ⟨rfl, _⟩ | ⟨nj, e⟩
                · exact A4.link _ d e3
                · exact A4.link j d0 e
              · have dd := A6.dis
                have hl : ρ3.length = σ.length := A4.len
                have e0 : cells σ (ρ3.set i (some (.o d'))) (ts ++ [(v', q')]) = (cells σ (ρ3.set i none) (ts ++ [(v', q')])).set i (some (.ref a), some (.o d')) := by
                  rw [← cells_setR h1 (by rw [List.length_set]; exact hl), List.set_set]
                rw [e0]
                refine pw_set (fun _ _ h => h.symm) i dd fun y hy b d1 d2 e1 e2 => ?_
                cases e1
                subst e2
                rw [cells_snoc] at hy
                rcases List.mem_append.mp hy with hy | hy
                · exact na d2 hy
                · rw [List.mem_singleton] at hy
                  unfold tcell at hy
                  simp only [Prod.mk.injEq, Option.some.injEq] at hy
                  obtain ⟨e4, e5⟩ := hy
                  have k := o.ok
                  rw [← e5] at k
                  obtain ⟨b, eb, n1, _⟩ := k
                  rw [← e4] at eb
                  cases eb
                  obtain ⟨u, hu⟩ := ow.out_mem
                  rw [show H2 a = none from n1] at hu
                  cases hu
            exact q _ _ _ _ ⟨F', A7⟩ (tq.2 d' hm')
          | _ => simp only [e3] at t2
theorem pd_callP (F : ∀ fm, FnOk X.prog X.w X.K X.mg X.base CX0 k f fd ps (spD X.K fm sem)) (hr : Room k X.A) (hg : Gl X x) (hm : X.mg x = some (.ref f)) (hk : PySem.W.keepIn X.K (.ref f) = true) (hb : Binds X.K fd ps [])
    (he : PD X e ta) (ha : PDA X es t) (hdb : (x == ("__debug__" : Str)) = false := by decide) (hs : starEach (e :: es) X.env = (false, eval e X.env) :: starEach es X.env := by rfl) (hpl : (backTo pos (starEach es X.env)).any (·.1) = false := by rfl) :
    PD X (.Call (.Name x p) (e :: es) [] pos) (dCallP sem ta t) :=
  PE.weak (pe_call (ok_any F) hr hg hm hk hb .nil pass0 (pa_cons he ha hs) hdb hs hpl) fun _ _ _ h => lift_callP h
theorem pd_callPG (gd : X.A.guards = some []) (F : ∀ fm, Lw.FnG X.prog X.w X.K X.mg X.base CX0 k f fd ps (spD X.K fm sem)) (hr : Room k X.A) (hg : Gl X x) (hm : X.mg x = some (.ref f)) (hk : PySem.W.keepIn X.K (.ref f) = true) (hb : Binds X.K fd ps [])
    (he : PD X e ta) (ha : PDA X es t) (hdb : (x == ("__debug__" : Str)) = false := by decide) (hs : starEach (e :: es) X.env = (false, eval e X.env) :: starEach es X.env := by rfl) (hpl : (backTo pos (starEach es X.env)).any (·.1) = false := by rfl) :
    PD X (.Call (.Name x p) (e :: es) [] pos) (dCallP sem ta t) :=
  PE.weak (Lw.pe_callG gd (okg_any F) hr hg hm hk hb pass0 (pa_cons he ha hs) hdb hs hpl) fun _ _ _ h => lift_callP h
end
end Dl
set_option autoImplicit false
set_option Elab.async false
set_option linter.all false
set_option maxRecDepth 100000
set_option maxHeartbeats 2000000
/-! sets; sorted; dicts and sets by comprehension -/
namespace Dl
open PySem PySem.Spec PyProof.Rows L2 LamX
/-! ### set(xs), sorted -/
def memI (ns : List Int) : Int → Bool := fun j => decide (j ∈ ns)
def fSet (w : World) : FN := fun ds Q => match ds with
  | [.lst xs] => match intsD xs with
    | some ns => ns.length < 1000 ∧ ∀ c : Nat, (∀ D : List Int, (∀ k ∈ ns, k ∈ D) → c ≤ D.length) → Q (.o (.set w (memI ns) c))
    | none => False
  | _ => False
/-- sorted: a list of data, a set of ints, a text -/
def fSorted3 (w : World) : FN := fun ds Q => match ds with
  | [.lst xs] => ∃ ps, D.pys xs = some ps ∧ PySem.W.AllAlike ps ∧ PySem.W.Sortable ps ∧ (∀ p ∈ ps, p.depth ≤ 20) ∧ Q (.o (.lst (sortD xs ps)))
  | [.set w' S n] => w' = w ∧ n < 64 ∧ ∀ ns : List Int, ns.Pairwise (· < ·) → (∀ k : Int, k ∈ ns ↔ S k = true) → ns.length = n → Q (.o (.lst (ns.map D.int)))
  | [.str z] => z.length < 64 ∧ ∀ ys : List Str, ys.Perm (z.cps.toList.map Lw.sgn) → sortedS ys = true → Q (.o (.lst (ys.map D.str)))
  | _ => False
section
variable {X : Cx}
theorem on_set : OpN X (Lw.rSetL X.w X.K) (fSet X.w) := fun g lk β F σ ρ ts H vs ds Qr Q hK A h t k => by
  unfold fSet at t
  split at t
  · obtain ⟨v, rfl, a, us, rfl, h1, z, r⟩ := h.one
    split at t
    · rename_i ns hn
      rw [intsD_eq hn] at r
      have e := r.ints
      subst e
      refine ⟨a, ns, rfl, .of h1, t.1, fun p c hp hc => k _ _ _ ⟨F, A.push_new hp ?_⟩ (t.2 c hc)⟩
      exact upd_same
    · exact t.elim
  · exact t.elim
def rSorted3 (w : World) (K : PySem.W.Frag) : List V → Hp → VK → Prop := fun xs H Q => Lw.rSortV K xs H Q ∨ rSortedSet w xs H Q ∨ ∃ z : Str, xs = [.str z] ∧ z.length < 64 ∧ ∀ ys p, ys.Perm (z.cps.toList.map Lw.sgn) → sortedS ys = true → H p = none → Q (.ref p) (upd H p (.lst (ys.map V.str)))
theorem call_sorted3 {k : Nat} (hr : Room k X.A) (hc : X.calm = true) : CallR X (.builtin "sorted") (rSorted3 X.w X.K) := (Lw.cr_sortV hr).or ((cr_sortedSet hc).or (Lw.call_sortedTxt hc))
theorem on_sorted3 : OpN X (rSorted3 X.w X.K) (fSorted3 X.w) := fun g lk β F σ ρ ts H vs ds Qr Q hK A h t k => by
  unfold fSorted3 at t
  split at t
  · exact .inl (on_sorted g lk β F σ ρ ts H vs _ Qr Q hK A h t k)
  · obtain ⟨v, rfl, a, rfl, h1⟩ := h.one
    obtain ⟨rfl, h64, t⟩ := t
    refine .inr (.inl ⟨a, _, _, rfl, h1, h64, fun ns p hs hm hl hp => k _ _ _ (A.res_lst hp (Dens.of_ints ns) ?_) (t ns hs hm hl)⟩)
    rw [List.length_map, hl, sizeLine_eq]
    omega
  · obtain ⟨v, rfl, rfl, hz⟩ := h.one
    obtain ⟨h64, t⟩ := t
    refine .inr (.inr ⟨_, rfl, h64, fun ys p hp hs hn => k _ _ _ (A.res_lst hn (Dens.of_strs ys fun y hy => ?_) ?_) (t ys hp hs)⟩)
    · obtain ⟨c, _, rfl⟩ := List.mem_map.mp (hp.mem_iff.mp hy)
      show 1 ≤ sizeLine
      decide
    · rw [List.length_map, hp.length_eq, List.length_map, Array.length_toList, sizeLine_eq]
      have : _ < 64 := h64
      unfold Str.length at this
      omega
  · exact t.elim
/-- len(set(xs)) -/
def dLenSet (te : TD) : TD := fun ρ Q => te ρ fun ρ1 r => match viewR ρ1 r with
  | some (.lst ds) => match keysD ds with
    | some ks => ks.length < 4000 ∧ Q ρ1 (.z (.int (Lw.dcount ks : Nat)))
    | none => False
  | _ => False
theorem pd_lenSet {e : Expr} {te : TD} {p p2 pos pos2 : Pos} (hc : X.calm = true) (hg : Gl X "len") (hm : X.mg "len" = none) (hg2 : Gl X "set") (hm2 : X.mg "set" = none) (he : PD X e te) (hs : starEach [e] X.env = (false, eval e X.env) :: starEach [] X.env := by rfl)
    (hs2 : starEach [.Call (.Name "set" p2) [e] [] pos2] X.env = (false, eval (.Call (.Name "set" p2) [e] [] pos2) X.env) :: starEach [] X.env := by rfl) (hpl : (backTo pos2 (starEach [] X.env)).any (·.1) = false := by rfl) (hpl2 : (backTo pos (starEach [] X.env)).any (·.1) = false := by rfl) :
    PD X (.Call (.Name "len" p) [.Call (.Name "set" p2) [e] [] pos2] [] pos) (dLenSet te) := by
  refine PE.weak (pe_callB Lw.cr_lenK hg hm PySem.boot_len (pa_cons (pe_callTy (Lw.cr_setKy hc) hg2 hm2 (by decide +kernel) (pa_cons he pa_nil hs) (he := hs) (hpl := hpl)) pa_nil hs2) (he := hs2) (hpl := hpl2)) fun σ H Q h => ?_
  obtain ⟨g, lk, β, ρ, ts, Qd, hK, A, t, q⟩ := h
  refine ⟨g, lk, β, ρ, ts, _, hK, A, t, fun ρ1 r v H1 ⟨F1, A1⟩ t1 => ?_⟩
  cases ev : viewR ρ1 r with
  | none => simp only [ev] at t1
  | some d =>
    have h1 := A1.view (A1.tmp (v, r) (by simp)) ev
    cases d with
    | lst ds =>
      simp only [ev] at t1
      obtain ⟨a, us, rfl, h, z, r⟩ := h1
      cases ek : keysD ds with
      | none => simp only [ek] at t1
      | some ks =>
        simp only [ek] at t1
        have e := keysD_v ek r
        subst e
        refine ⟨a, ks, rfl, .of h, t1.1, fun p hp => ⟨p, _, _, rfl, upd_same, Nat.lt_of_le_of_lt (Lw.dcount_le ks) (Nat.lt_of_lt_of_le t1.1 (by decide)), ?_⟩⟩
        exact q _ _ _ _ ⟨F1, ((A1.new hp).sub (List.sublist_append_left _ _)).push_z (.int _)⟩ t1.2
    | _ => simp only [ev] at t1
end
/-! ### sets by comprehension -/
def bAdd (w : World) (te : TD) : TDB := fun ρ acc Q => te ρ fun ρ1 r => match r with
  | .z (.int k) => match acc with
    | .set w' S n => w' = w ∧ n < 4000 ∧ Q ρ1 (.set w (fun j => S j || decide (j = k)) (if S k = true then n else n + 1))
    | _ => False
  | _ => False
section
variable {X : Cx} {te : TD} {a : Addr}
theorem lift_add {σ : L2.St} {H : Hp} {Q : Hp → Prop} (h : liftB X [] (bAdd X.w te) a σ H Q) : Lw.tAddC X.w (liftE X te) a σ H Q := by
  obtain ⟨g, lk, β, ρ, ts, us, d, Qd, hK, A, t, q⟩ := h
  refine ⟨g, lk, β, ρ, _, _, hK, A, t, fun ρ1 r v H1 ⟨F1, A1⟩ t1 => ?_⟩
  have h1 := A1.tmp (v, r) (by simp)
  cases r with
  | z x =>
    cases x with
    | int k =>
      cases h1
      cases d with
      | set w S n =>
        obtain ⟨rfl, t1⟩ := t1
        obtain ⟨b, eb, o⟩ := A1.tmp (.ref a, .o (.set X.w S n)) (by simp)
        cases eb
        have A3 := A1.sub (List.sublist_append_left _ _)
        refine ⟨k, S, n, rfl, o.at_, by unfold scanBound; omega, q ρ1 _ _ ?_ t1.2⟩
        exact ⟨F1, A3.writeT (d' := .set X.w (fun j => S j || decide (j = k)) (if S k = true then n else n + 1)) upd_same⟩
      | _ => exact t1.elim
    | _ => exact t1.elim
  | _ => exact t1.elim
theorem bd_add {elt : Expr} (hxe : X.xe = fun _ _ => False) (he : PD X elt te) : BDD X (do let v ← eval elt X.env; standAt elt.pos; let _ ← call (.builtin "set.add") [.ref a, v]) [] (bAdd X.w te) a :=
  BD.weak (Lw.bd_set hxe he) fun σ H Q h => lift_add h
variable {elt kx vx tgx iter : Expr} {ifs : List Expr} {rest : List Comprehension} {scope : Scope} {own : List (Str × Nat)} {pos : Pos} {ti : TDI} {tg : TDG} {tt : TDT} {tb : TDB} {ws ss : List Nat}
theorem lift_compS {σ : L2.St} {H : Hp} {Q : VK} (hws : ∀ i ∈ ws, i ∈ own.map (·.2)) (hss : ∀ i ∈ ss, i ∈ own.map (·.2)) (h : liftE X (dComp (.set X.w (fun _ => false) 0) ti tg tt tb (own.map (·.2))) σ H Q) :
    Lw.tCoA (fun D => SetO X.w D (fun _ => false) 0) (liftI X ti) (liftG X ss tg) (liftT X tt) (fun a => liftB X ws tb a) (own.map (·.2)) σ H Q := by
  obtain ⟨g, lk, β, ρ, ts, Qd, hK, A, t, q⟩ := h
  refine ⟨g, lk, β, ρ, _, _, hK, A, t, fun ρ1 ds cs J H1 ⟨F1, A1⟩ sv t1 => fun D hD => ?_⟩
  have A2 := A1.push_new (d := .set X.w (fun _ => false) 0) hD upd_same
  have A3 : At g lk β σ ρ1 (ts ++ (.ref D, .o (.set X.w (fun _ => false) 0)) :: [] ++ cs) (upd H1 D (SetO X.w D (fun _ => false) 0)) := by
    refine ⟨F1, A2.perm ?_⟩
    rw [List.append_assoc, List.append_assoc]
    exact List.Perm.append_left _ (List.perm_append_comm)
  refine clW_of hws hss hK sv A3 t1 fun ρ2 d2 H2 ⟨F2, A4⟩ t2 => ?_
  exact q _ _ _ _ ⟨F2, A4.wipe (L2.wipe_length _ _).symm fun j hj => (wipe_out' hj).symm⟩ t2
theorem pd_coS (hc : X.calm = true) (hN : X.N.Nodup) (hi : PDI X tgx iter ti) (ok : BlkOk X.N X.env.scope scope own) (hws : ∀ i ∈ ws, i ∈ own.map (·.2)) (hss : ∀ i ∈ ss, i ∈ own.map (·.2))
    (hg : ∀ s H C cl fp, PDG (Lw.blkX X scope s H C cl fp) ss tgx tg) (ht : ∀ s H C cl fp, PDTs (Lw.blkX X scope s H C cl fp) ifs tt)
    (hb : ∀ s H C cl fp D, BDD (Lw.blkX X scope s H C cl fp) (Lw.inBody (do let v ← eval elt (Lw.blkX X scope s H C cl fp).env; standAt elt.pos; let _ ← call (.builtin "set.add") [.ref D, v]) (⟨tgx, iter, ifs, 0⟩ :: rest)[1]? (.SetComp elt (⟨tgx, iter, ifs, 0⟩ :: rest) scope pos) 0 (.ref D) (Lw.blkX X scope s H C cl fp).env) ws tb D)
    (hfs : ∀ x, foldedSetIterable iter X.env x = pure x := by intro _; rfl) : PD X (.SetComp elt (⟨tgx, iter, ifs, 0⟩ :: rest) scope pos) (dComp (.set X.w (fun _ => false) 0) ti tg tt tb (own.map (·.2))) :=
  PE.weak (Lw.pe_coS hc hN hi ok hws hg ht hb hfs) fun σ H Q h => lift_compS hws hss h
end
/-! ### dicts by comprehension -/
def putD {κ : Type} [DecidableEq κ] (ds : List (κ × D)) (k : κ) (d : D) : List (κ × D) := if (ds.any fun kv => decide (kv.1 = k)) = true then ds.map (fun kv => if kv.1 = k then (kv.1, d) else kv) else ds ++ [(k, d)]
theorem put_rel {κ : Type} [DecidableEq κ] {K : PySem.W.Frag} {F : Hp} {k : κ} {d : D} {v : V} (h : Den K F d v) : ∀ {ds : List (κ × D)} {kvs : List (κ × V)}, ds.map (·.1) = kvs.map (·.1) → Dens K F (ds.map (·.2)) (kvs.map (·.2)) →
    (putD ds k d).map (·.1) = (putK kvs k v).map (·.1) ∧ Dens K F ((putD ds k d).map (·.2)) ((putK kvs k v).map (·.2)) ∧ (putK kvs k v).length ≤ kvs.length + 1 := fun {ds kvs} hk r => by
  have any_eq : ∀ {ds : List (κ × D)} {kvs : List (κ × V)}, ds.map (·.1) = kvs.map (·.1) → (ds.any fun kv => decide (kv.1 = k)) = kvs.any fun kv => decide (kv.1 = k) := by
    intro ds
    induction ds with
    | nil => intro kvs h; cases kvs with
      | nil => rfl
      | cons _ _ => cases h
    | cons p ds ih => intro kvs h; cases kvs with
      | nil => cases h
      | cons p' kvs =>
        have h1 : p.1 = p'.1 := (List.cons.inj h).1
        rw [List.any_cons, List.any_cons, h1, ih (List.cons.inj h).2]
  have map_rel : ∀ {ds : List (κ × D)} {kvs : List (κ × V)}, ds.map (·.1) = kvs.map (·.1) → Dens K F (ds.map (·.2)) (kvs.map (·.2)) →
      (ds.map (fun kv => if kv.1 = k then (kv.1, d) else kv)).map (·.1) = (kvs.map (fun kv => if kv.1 = k then (kv.1, v) else kv)).map (·.1) ∧ Dens K F ((ds.map (fun kv => if kv.1 = k then (kv.1, d) else kv)).map (·.2)) ((kvs.map (fun kv => if kv.1 = k then (kv.1, v) else kv)).map (·.2)) := by
    intro ds
    induction ds with
    | nil => intro kvs h r; cases kvs with
      | nil => exact ⟨rfl, .nil⟩
      | cons _ _ => cases h
    | cons p ds ih => intro kvs h r; cases kvs with
      | nil => cases h
      | cons p' kvs =>
        have h1 : p.1 = p'.1 := (List.cons.inj h).1
        cases r with
        | cons r1 r2 =>
          obtain ⟨i1, i2⟩ := ih (List.cons.inj h).2 r2
          simp only [List.map_cons]
          by_cases e : p'.1 = k
          · rw [if_pos (h1.trans e), if_pos e]
            exact ⟨by rw [i1, h1], .cons ‹_› i2⟩
          · rw [if_neg (fun z => e (h1 ▸ z)), if_neg e]
            exact ⟨by rw [i1, h1], .cons r1 i2⟩
  unfold putD putK
  rw [any_eq hk]
  split
  · obtain ⟨m1, m2⟩ := map_rel hk r
    exact ⟨m1, m2, by rw [List.length_map]; omega⟩
  · refine ⟨by rw [List.map_append, List.map_append, hk]; rfl, ?_, by rw [List.length_append]; exact Nat.le_refl _⟩
    rw [List.map_append, List.map_append]
    exact r.append (.one h)
/-- acc[k] = d -/
def putAcc (acc k d : D) (Q : D → Prop) : Prop := match acc with
  | .dk ds => match keyD k with
    | some k => ds.length < sizeLine ∧ Q (.dk (putD ds k d))
    | none => False
  | .dt ds => match k with
    | .tup ks => match keysD ks with
      | some k => ds.length < sizeLine ∧ Q (.dt (putD ds k d))
      | none => False
    | _ => False
  | _ => False
theorem put_own {K : PySem.W.Frag} {F H : Hp} (s : ∀ a o, F a = some o → H a = some o) {a : Addr} {acc k d : D} {x v : V} {Q : D → Prop} (o : OwnD K F H a acc) (hk : DenT K F H x k) (hd : Den K F d v) (t : putAcc acc k d Q) : ∃ acc' H', DPut H a x v H' ∧ (∃ o', H' = upd H a o') ∧ OwnD K F H' a acc' ∧ Q acc' := by
  unfold putAcc at t
  split at t
  · rename_i ds
    cases e : keyD k with
    | none => simp only [e] at t
    | some kk =>
      simp only [e] at t
      obtain ⟨kvs, h1, z, m, r⟩ := o
      have ex := keyD_v e hk
      subst ex
      obtain ⟨p1, p2, p3⟩ := put_rel (k := kk) hd m r
      have hl : kvs.length < sizeLine := by
        have := congrArg List.length m
        rw [List.length_map, List.length_map] at this
        omega
      exact ⟨.dk (putD ds kk d), _, DPut.k h1 hl, ⟨_, rfl⟩, ⟨_, upd_same, by omega, p1, p2⟩, t.2⟩
  · rename_i ds
    cases k with
    | tup ks =>
      cases e : keysD ks with
      | none => simp only [e] at t
      | some kk =>
        simp only [e] at t
        obtain ⟨kvs, h1, z, m, r⟩ := o
        obtain ⟨b, us, rfl, hb, zb, rb⟩ := hk
        have eu := keysD_v e rb
        subst eu
        obtain ⟨p1, p2, p3⟩ := put_rel (k := kk) hd m r
        have hl : kvs.length < sizeLine := by
          have := congrArg List.length m
          rw [List.length_map, List.length_map] at this
          omega
        exact ⟨.dt (putD ds kk d), _, DPut.t h1 (s _ _ hb) hl, ⟨_, rfl⟩, ⟨_, upd_same, by omega, p1, p2⟩, t.2⟩
    | _ => exact t.elim
  · exact t.elim
def bPut (tk tv : TD) : TDB := fun ρ acc Q => tk ρ fun ρ1 r1 => tv ρ1 fun ρ2 r2 => match frzR ρ2 r2 with
  | some (ρ3, d) => match viewR ρ3 r1 with
    | some k => putAcc acc k d fun acc' => Q ρ3 acc'
    | none => False
  | none => False
section
variable {X : Cx} {tk tv : TD} {a : Addr}
theorem lift_put {σ : L2.St} {H : Hp} {Q : Hp → Prop} (h : liftB X [] (bPut tk tv) a σ H Q) : Lw.tPut (liftE X tk) (liftE X tv) a σ H Q := by
  obtain ⟨g, lk, β, ρ, ts, us, d, Qd, hK, A, t, q⟩ := h
  refine ⟨g, lk, β, ρ, _, _, hK, A, t, fun ρ1 r v H1 A1 t1 => ⟨g, lk, β, ρ1, _, _, hK, A1, t1, fun ρ2 r2 v2 H2 ⟨F2, A2⟩ t2 => ?_⟩⟩
  cases e : frzR ρ2 r2 with
  | none => simp only [e] at t2
  | some pr =>
    obtain ⟨ρ3, x⟩ := pr
    simp only [e] at t2
    obtain ⟨F3, _, A3⟩ := A2.freeze1 (us := []) e
    have dv : Den g.K F3 x v2 := A3.tmp (v2, .z x) (by simp)
    cases ev : viewR ρ3 r with
    | none => simp only [ev] at t2
    | some k =>
      simp only [ev] at t2
      have hk := A3.view (A3.tmp (v, r) (by simp)) ev
      obtain ⟨b, eb, w⟩ := A3.tmp (.ref a, .o d) (by simp)
      cases eb
      obtain ⟨acc', H', dp, ⟨o', eH⟩, ow, tq⟩ := put_own A3.core.sub w.at_ hk dv t2
      subst eH
      refine ⟨_, dp, q ρ3 _ _ ?_ tq⟩
      have A4 : AtF g lk β F3 σ ρ3 (ts ++ (.ref a, .o d) :: us) H2 := A3.sub (by simp only [List.append_assoc]; exact List.Sublist.append (List.Sublist.refl _) (by simp))
      exact ⟨F3, A4.writeT (d' := acc') ow⟩
theorem bd_put {kx vx : Expr} (hu : X.A.units + 1 < cLine) (hxe : X.xe = fun _ _ => False) (hk : PD X kx tk) (he : PD X vx tv) : BDD X (do
      let kv ← eval kx X.env
      let vv ← holding [kv] (eval vx X.env)
      standAt { kx.pos with endLine := vx.pos.endLine, endCol := vx.pos.endCol }
      holding [kv, vv] (dictSet a kv vv)) [] (bPut tk tv) a :=
  BD.weak (Lw.bd_dict hu hxe hk he) fun σ H Q h => lift_put h
variable {kx vx tgx iter : Expr} {ifs : List Expr} {rest : List Comprehension} {scope : Scope} {own : List (Str × Nat)} {pos : Pos} {ti : TDI} {tg : TDG} {tt : TDT} {tb : TDB} {ws ss : List Nat}
/-- o0: .dk [] or .dt [], as the keys are -/
theorem pd_coD (tup : Bool) (hc : X.calm = true) (hN : X.N.Nodup) (hi : PDI X tgx iter ti) (ok : BlkOk X.N X.env.scope scope own) (hws : ∀ i ∈ ws, i ∈ own.map (·.2)) (hss : ∀ i ∈ ss, i ∈ own.map (·.2))
    (hg : ∀ s H C cl fp, PDG (Lw.blkX X scope s H C cl fp) ss tgx tg) (ht : ∀ s H C cl fp, PDTs (Lw.blkX X scope s H C cl fp) ifs tt)
    (hb : ∀ s H C cl fp D, BDD (Lw.blkX X scope s H C cl fp) (Lw.inBody (do
      let kv ← eval kx (Lw.blkX X scope s H C cl fp).env
      let vv ← holding [kv] (eval vx (Lw.blkX X scope s H C cl fp).env)
      standAt { kx.pos with endLine := vx.pos.endLine, endCol := vx.pos.endCol }
      holding [kv, vv] (dictSet D kv vv)) (⟨tgx, iter, ifs, 0⟩ :: rest)[1]? (.DictComp kx vx (⟨tgx, iter, ifs, 0⟩ :: rest) scope pos) 0 (.ref D) (Lw.blkX X scope s H C cl fp).env) ws tb D)
    (hfs : ∀ x, foldedSetIterable iter X.env x = pure x := by intro _; rfl) : PD X (.DictComp kx vx (⟨tgx, iter, ifs, 0⟩ :: rest) scope pos) (dComp (if tup then .dt [] else .dk []) ti tg tt tb (own.map (·.2))) := by
  cases tup with
  | true => exact PE.weak (Lw.pe_coD (o0 := .dT []) (.inr rfl) hc hN hi ok hws hg ht hb hfs) fun σ H Q h => lift_comp (o0 := .dt []) (h0 := .dT []) (fun K F H a => ⟨[], upd_same, Nat.zero_le _, rfl, .nil⟩) hws hss h
  | false => exact PE.weak (Lw.pe_coD (o0 := .dK []) (.inl rfl) hc hN hi ok hws hg ht hb hfs) fun σ H Q h => lift_comp (o0 := .dk []) (h0 := .dK []) (fun K F H a => ⟨[], upd_same, Nat.zero_le _, rfl, .nil⟩) hws hss h
end
end Dl
set_option autoImplicit false
set_option Elab.async false
set_option linter.all false
set_option maxRecDepth 100000
set_option maxHeartbeats 2000000
/-! what the written derivations use -/
namespace Dl
open PySem PySem.Spec PyProof.Rows L2 LamX
/-- a def of the module, by its promise -/
def DefD (P : Program) (w : World) (K : PySem.W.Frag) (mg : Str → Option Value) (base : Heap) (k : Nat) (x : Str) (ps : List Str) (sem : Sem) : Prop :=
  ∃ (f : Addr) (fd : FuncData), (∀ fm, FnOk P w K mg base CX0 k f fd ps (spD K fm sem)) ∧ mg x = some (.ref f) ∧ PySem.W.keepIn K (.ref f) = true ∧ Binds K fd ps []
def DefG (P : Program) (w : World) (K : PySem.W.Frag) (mg : Str → Option Value) (base : Heap) (k : Nat) (x : Str) (ps : List Str) (sem : Sem) : Prop :=
  ∃ (f : Addr) (fd : FuncData), (∀ fm, Lw.FnG P w K mg base CX0 k f fd ps (spD K fm sem)) ∧ mg x = some (.ref f) ∧ PySem.W.keepIn K (.ref f) = true ∧ Binds K fd ps []
section
variable {X : Cx} {ps : List Str} {sem : Sem} {k j : Nat} {x : Str} {e : Expr} {es : List Expr} {ta : TD} {t : TDA} {p pos : Pos}
theorem pd_callD (F : DefD X.prog X.w X.K X.mg X.base k x ps sem) (hr : Room j X.A) (hj : k ≤ j) (hg : Gl X x) (ha : PDA X (e :: es) t) (hdb : (x == ("__debug__" : Str)) = false := by decide) (he : starEach (e :: es) X.env = (false, eval e X.env) :: starEach es X.env := by rfl) (hpl : (backTo pos (starEach es X.env)).any (·.1) = false := by rfl) :
    PD X (.Call (.Name x p) (e :: es) [] pos) (dCall sem t) := by
  obtain ⟨f, fd, F, m, kp, b⟩ := F
  exact pd_call F (hr.mono hj) hg m kp b ha hdb he hpl
theorem pd_callDG (gd : X.A.guards = some []) (F : DefG X.prog X.w X.K X.mg X.base k x ps sem) (hr : Room j X.A) (hj : k ≤ j) (hg : Gl X x) (ha : PDA X (e :: es) t) (hdb : (x == ("__debug__" : Str)) = false := by decide) (he : starEach (e :: es) X.env = (false, eval e X.env) :: starEach es X.env := by rfl) (hpl : (backTo pos (starEach es X.env)).any (·.1) = false := by rfl) :
    PD X (.Call (.Name x p) (e :: es) [] pos) (dCall sem t) := by
  obtain ⟨f, fd, F, m, kp, b⟩ := F
  exact pd_callG gd F (hr.mono hj) hg m kp b ha hdb he hpl
theorem pd_callDP (F : DefD X.prog X.w X.K X.mg X.base k x ps sem) (hr : Room j X.A) (hj : k ≤ j) (hg : Gl X x) (hx : PD X e ta) (ha : PDA X es t) (hdb : (x == ("__debug__" : Str)) = false := by decide) (he : starEach (e :: es) X.env = (false, eval e X.env) :: starEach es X.env := by rfl) (hpl : (backTo pos (starEach es X.env)).any (·.1) = false := by rfl) :
    PD X (.Call (.Name x p) (e :: es) [] pos) (dCallP sem ta t) := by
  obtain ⟨f, fd, F, m, kp, b⟩ := F
  exact pd_callP F (hr.mono hj) hg m kp b hx ha hdb he hpl
theorem pd_callDPG (gd : X.A.guards = some []) (F : DefG X.prog X.w X.K X.mg X.base k x ps sem) (hr : Room j X.A) (hj : k ≤ j) (hg : Gl X x) (hx : PD X e ta) (ha : PDA X es t) (hdb : (x == ("__debug__" : Str)) = false := by decide) (he : starEach (e :: es) X.env = (false, eval e X.env) :: starEach es X.env := by rfl) (hpl : (backTo pos (starEach es X.env)).any (·.1) = false := by rfl) :
    PD X (.Call (.Name x p) (e :: es) [] pos) (dCallP sem ta t) := by
  obtain ⟨f, fd, F, m, kp, b⟩ := F
  exact pd_callPG gd F (hr.mono hj) hg m kp b hx ha hdb he hpl
/-- a module's constants -/
theorem pd_cI {i : Int} (hm : ∃ t, X.mg x = some (.int i t)) (hg : Gl X x) (hd : (x == ("__debug__" : Str)) = false := by decide) : PD X (.Name x pos) (dC (.int i)) := by
  obtain ⟨t, hm⟩ := hm
  exact pd_globI hg hm hd
theorem pd_cS {z : Str} (hm : ∃ t, X.mg x = some (.str z t)) (hg : Gl X x) (h : z.length ≤ sizeLine := by decide) (hd : (x == ("__debug__" : Str)) = false := by decide) : PD X (.Name x pos) (dC (.str z)) := by
  obtain ⟨t, hm⟩ := hm
  exact pd_globS hg hm h hd
/-- one of two -/
theorem pd_or2 {e : Expr} {t u : TD} (h : PD X e t) (h' : PD X e u) : PD X e (fun ρ Q => t ρ Q ∨ u ρ Q) := by
  refine ⟨fun pins s σ H Q I q => ?_⟩
  obtain ⟨g, lk, β, ρ, ts, Qd, hK, A, t, k⟩ := q
  rcases t with t | t
  · exact h.run pins s σ H Q I ⟨g, lk, β, ρ, ts, Qd, hK, A, t, k⟩
  · exact h'.run pins s σ H Q I ⟨g, lk, β, ρ, ts, Qd, hK, A, t, k⟩
end
/-! ### divmod by a number of any size that occurs -/
def fDivmodW : FN := fun ds Q => match ds with
  | [.int i, .int j] => (0 < j ∧ j.natAbs < 2 ^ 128) ∧ Q (.z (.tup [.int (i / j), .int (i % j)]))
  | _ => False
theorem divp_small {i j : Int} (hj : 0 < j) (h : j.natAbs < 2 ^ 128) : CDivP i j := by
  refine ⟨hj, ?_⟩
  have e : j.natAbs.log2 < 128 := (Nat.log2_lt (by omega)).mpr h
  unfold Builtin.divisionGoesByPylong
  show (decide ((if j == 0 then 0 else j.natAbs.log2 / 30 + 1) > 300) && _) = false
  have z : ¬ ((if j == 0 then 0 else j.natAbs.log2 / 30 + 1) > 300) := by
    split <;> omega
  rw [decide_eq_false z, Bool.false_and]
section
variable {X : Cx}
theorem on_divmodW : OpN X (fun xs H Q => ∃ i j, xs = [.int i, .int j] ∧ CDivP i j ∧ ∀ p, H p = none → Q (.ref p) (upd H p (.tup [.int (i / j), .int (i % j)]))) fDivmodW := fun g lk β F σ ρ ts H vs ds Qr Q hK A h t k => by
  unfold fDivmodW at t
  split at t
  · obtain ⟨v, u, rfl, h1, h2⟩ := h.two
    cases h1
    cases h2
    exact ⟨_, _, rfl, divp_small t.1.1 t.1.2, fun p hp => k _ _ _ (A.res_tup hp (.cons (.int _) (.cons (.int _) .nil)) (by show 2 ≤ sizeLine; decide)) t.2⟩
  · exact t.elim
end
/-! ### several names at once, where a tuple is made -/
def setL (ρ : Rho) : List Nat → List R → Rho
  | i :: is, q :: qs => setL (ρ.set i (some q)) is qs
  | _, _ => ρ
def dParN (is : List Nat) (t : TDA) : TDS := fun E ρ => t ρ fun ρ1 rs => match stL ρ1 rs with
  | some (ρ2, qs) => qs.length = is.length ∧ E.nx (setL ρ2 is qs)
  | none => False
/-- names of these slots -/
inductive NamesAt (X : Cx) : List Expr → List Nat → Prop
  | nil : NamesAt X [] []
  | cons {x : Str} {p : Pos} {i : Nat} {es : List Expr} {is : List Nat} : X.N[i]? = some x → Loc X.env.scope x → (X.fn x = true ∨ X.env.scope.names.lookup x = some .local) → i < X.N.length →
      ((assignEach (.Name x p :: es) X.env).map (·.2) = assign (.Name x p) X.env :: (assignEach es X.env).map (·.2)) → NamesAt X es is → NamesAt X (.Name x p :: es) (i :: is)
section
variable {X : Cx} {es : List Expr} {is : List Nat} {t : TDA}
theorem names_go (hN : X.N.Nodup) {g : Gm} {lk : List Addr} (hn : NamesAt X es is) : ∃ u : TGs, PGs X es u ∧ ∀ {F : Hp} {σ : L2.St} {ρ : Rho} {ts : Ts} {H : Hp} {vs : List V} {qs : List R} {Q : L2.St → Hp → Prop}, vs.length = qs.length → qs.length = is.length → Nob ts → (∀ q ∈ qs, q.nob = true) → (∀ i ∈ is, i < σ.length) → AtF g lk σ F σ ρ (ts ++ vs.zip qs) H →
    (∀ σ', AtF g lk σ' F σ' (setL ρ is qs) ts H → Q σ' H) → u vs σ H Q := by
  induction hn with
  | nil =>
    refine ⟨_, pgs_nil, fun {F σ ρ ts H vs qs Q} l1 l2 nt nq hi A k => ?_⟩
    cases qs with
    | nil =>
      cases vs with
      | nil => exact ⟨rfl, k σ (by simpa [setL] using A)⟩
      | cons _ _ => cases l1
    | cons _ _ => cases l2
  | @cons x p i es is hx hl hf hlt hs _ ih =>
    obtain ⟨u, hu, go⟩ := ih
    refine ⟨_, pgs_cons (pg_name (pos := p) hN hx hl hf) hu hs, fun {F σ ρ ts H vs qs Q} l1 l2 nt nq hi A k => ?_⟩
    cases qs with
    | nil => cases l2
    | cons q qs =>
      cases vs with
      | nil => cases l1
      | cons v vs =>
        refine ⟨v, vs, rfl, ?_⟩
        show u vs (σ.set i (some v)) H Q
        have nz : Nob (ts ++ vs.zip qs) := nt.app fun c hc => by
          obtain ⟨c1, c2⟩ := c
          exact nq c2 (List.mem_cons_of_mem _ (List.of_mem_zip hc).2)
        have A1 : AtF g lk σ F σ ρ ((ts ++ vs.zip qs) ++ [(v, q)]) H := A.perm (by
          rw [List.append_assoc]
          refine List.Perm.append_left _ ?_
          rw [List.zip_cons_cons]
          exact (List.perm_append_comm (l₁ := [(v, q)]) (l₂ := vs.zip qs)))
        have A2 := A1.store (hi i List.mem_cons_self) (nq q List.mem_cons_self) nz
        exact go (by simpa using l1) (by simpa using l2) nt (fun q hq => nq q (List.mem_cons_of_mem _ hq)) (fun j hj => by rw [List.length_set]; exact hi j (List.mem_cons_of_mem _ hj)) A2 fun σ' A3 => k σ' A3
theorem setL_len : ∀ {ρ : Rho} {is : List Nat} {qs : List R}, (setL ρ is qs).length = ρ.length
  | _, [], _ => by simp [setL]
  | _, _ :: _, [] => by simp [setL]
  | _, _ :: _, _ :: _ => by simp [setL, setL_len]
variable {vals : List Expr} {kt k2 : Nat} {pt pt2 pos : Pos}
theorem pd_parN {n : Nat} (hc : X.calm = true) (hN : X.N.Nodup) (hn : NamesAt X es is) (hl : ∀ i ∈ is, i < X.N.length) (ha : PDA X vals t) (hnn : is.length = n) (hz : n ≤ sizeLine := by decide)
    (hlen : (assignEach es X.env).length = n := by rfl) (hst : (assignEach es X.env).findIdx? (·.1) = none := by rfl)
    (hs : swapsWithSole [.Tuple es kt pt] (.Tuple vals k2 pt2) pos.line X.env = pure false := by rfl) (hw : swappedStores [.Tuple es kt pt] (.Tuple vals k2 pt2) X.env = pure none := by rfl) (h1 : (assignEach [.Tuple es kt pt] X.env).map (·.2) = [assign (.Tuple es kt pt) X.env] := by rfl) :
    PDS X (.Assign [.Tuple es kt pt] (.Tuple vals k2 pt2) pos) (dParN is t) := by
  refine ⟨fun pins s σ H E I h => ?_⟩
  obtain ⟨g, lk, ρ, ts, Ed, hK, nb, A, t, ee⟩ := h
  obtain ⟨u, hu, go⟩ := names_go (g := g) (lk := lk) hN hn
  have hσ : ∀ i ∈ is, i < σ.length := fun i hi => by rw [I.len]; exact hl i hi
  refine (ps_asg (pe_tup ha) (pg_tup hc hu hlen hst) hs hw (h1 := h1)).run pins s σ H E I ?_
  refine ⟨g, lk, σ, ρ, ts, _, hK, A, t, fun ρ1 rs vs H1 hlv ⟨F1, A1⟩ t1 => ?_⟩
  cases e1 : stL ρ1 rs with
  | none => simp only [e1] at t1
  | some pr =>
    obtain ⟨ρ2, qs⟩ := pr
    simp only [e1] at t1
    obtain ⟨nq, hlq, F2, A2⟩ := A1.stL hlv e1
    obtain ⟨t0, t1⟩ := t1
    have vl : vs.length = n := by rw [hlq, t0, hnn]
    refine ⟨?_, fun p hp => ⟨p, vs, rfl, .of upd_same, vl, ?_⟩⟩
    · rw [vl]; exact hz
    · exact go hlq t0 nb nq hσ (A2.new hp) fun σ' A3 => ee.nx _ _ _ ⟨F2, A3⟩ t1
end
end Dl
set_option autoImplicit false
set_option Elab.async false
set_option linter.all false
set_option maxRecDepth 100000
set_option maxHeartbeats 4000000
/-! name = [..], {..} by comprehension, on one line, the name a local -/
namespace Lw
open PySem PySem.Spec PyProof.Rows L2
section
variable {X : Cx} {elt kx vx tg iter : Expr} {ifs : List Expr} {rest : List Comprehension} {scope : Scope} {own : List (Str × Nat)} {pos spos py : Pos} {y : Str} {i : Nat} {wi : TI} {g : TG} {tt : TT} {tb : Addr → L2.St → Hp → (Hp → Prop) → Prop} {ws : List Nat}
/-- the end of it: the new object is stored, the block's frame goes -/
theorem used_end {pins : List (Addr × Obj)} {σ : L2.St} {H' : Hp} {s' : Shared} {D : Ends} {L C : Addr} {m : Str → Option Value} (hN : X.N.Nodup) (hy : X.N[i]? = some y) (hyl : X.env.scope.names.lookup y = some .local) (I' : Inv X pins σ H' s') (q : D.nx (σ.set i (some (V.ref L))) H') (hn : s'.heap.Ns C m) (f : FpOk X pins H' C)
    {Q0 : Unit → Shared → Prop} (k : ∀ s2, (∃ m, s2.heap.Ns C m ∧ ∀ h'' , Heap.SameBut C s2.heap h'' → SP X pins D .next { s2 with heap := h'' }) → Q0 () s2) : wpAny (model X.prog X.w) X.A (assign (.Name y py) X.env (.ref L)) Q0 X.xe s' := by
  refine wpAny_assign_Name (store_ok2 (v := V.ref L) I' hN hy (.inl hyl) rfl (fun s2 I2 ⟨a, sb, ha⟩ => ?_) (.inr hyl))
  obtain ⟨f0, f1, f2, f3, f4, f5⟩ := f
  have haC : C ≠ a := by
    rcases ha with z | z
    · rw [z]; exact f1
    · exact fun e => f4 y a z e.symm
  refine k s2 ⟨m, hn.sameBut sb haC, fun h3 sb3 => ?_⟩
  exact ⟨_, H', I2.turned (t' := s2.toks) (fun b o hb e => (sb3.2 b hb).trans e) f0 f1 f3 f4 f5, q⟩
theorem ps_setCoL (hc : X.calm = true) (hN : X.N.Nodup) (hy : X.N[i]? = some y) (hyl : X.env.scope.names.lookup y = some .local)
    (hsw : swapsWith (.ListComp elt (⟨tg, iter, ifs, 0⟩ :: rest) scope pos) (some (.Name y py)) spos.line X.env = pure true) (hi : PI X tg iter wi) (ok : BlkOk X.N X.env.scope scope own) (hws : ∀ i ∈ ws, i ∈ own.map (·.2))
    (hg : ∀ s H C cl fp, PG (blkX X scope s H C cl fp) tg g) (ht : ∀ s H C cl fp, PTs (blkX X scope s H C cl fp) ifs tt)
    (hb : ∀ s H C cl fp D, BD (blkX X scope s H C cl fp) (inBody (do let _ ← call (.builtin "list.append") [.ref D, ← eval elt (blkX X scope s H C cl fp).env]) (⟨tg, iter, ifs, 0⟩ :: rest)[1]? (.ListComp elt (⟨tg, iter, ifs, 0⟩ :: rest) scope pos) 0 (.ref D) (blkX X scope s H C cl fp).env) ws (tb D))
    (hfs : ∀ x, foldedSetIterable iter X.env x = pure x := by intro _; rfl) : PS X (.Assign [.Name y py] (.ListComp elt (⟨tg, iter, ifs, 0⟩ :: rest) scope pos) spos) (tAsg (tCo (.lst []) wi g tt tb (own.map (·.2))) (gName i)) := by
  refine ⟨fun pins s σ H D I h => ?_⟩
  rw [exec_Assign_Name_used _ _ _ _ hsw]
  refine wpAny_bind (wpAny_standAt (wpAny_bind ?_))
  show wpAny _ X.A (do let _ ← comprehension (.ListComp elt (⟨tg, iter, ifs, 0⟩ :: rest) scope pos) scope X.env (firstIterPos (⟨tg, iter, ifs, 0⟩ :: rest) pos) (newList []) false (eval iter X.env) (some (assign (.Name y py) X.env))) _ _ s
  have h : tCo (.lst []) wi g tt tb (own.map (·.2)) σ H (fun x H1 => gName i x σ H1 D.nx) := h
  refine wpAny_bind (thn (co_core (o0 := .lst []) (Qf := fun _ s' => SP X pins D .next s') (emit := fun D env => do let _ ← call (.builtin "list.append") [.ref D, ← eval elt env]) hc hN I (fun D env => .inl ⟨elt, scope, pos, rfl, rfl⟩) rfl (fun E Q1 s1 h1 => new_list h1)
    (fun H1 h b => ⟨Nat.zero_le _, [], 0, .nil, Heap.get?_push_size _ rfl⟩) rfl hi ok hws hg ht hb hfs h fun L C s' m H' I' q hn f => ?_) fun _ s' hq => wpAny_pure (wpAny_pure hq))
  exact used_end hN hy hyl I' q hn f fun s2 k => k
theorem ps_setCoD {o0 : HO} (z : EmptyD o0) (hc : X.calm = true) (hN : X.N.Nodup) (hy : X.N[i]? = some y) (hyl : X.env.scope.names.lookup y = some .local)
    (hsw : swapsWith (.DictComp kx vx (⟨tg, iter, ifs, 0⟩ :: rest) scope pos) (some (.Name y py)) spos.line X.env = pure true) (hi : PI X tg iter wi) (ok : BlkOk X.N X.env.scope scope own) (hws : ∀ i ∈ ws, i ∈ own.map (·.2))
    (hg : ∀ s H C cl fp, PG (blkX X scope s H C cl fp) tg g) (ht : ∀ s H C cl fp, PTs (blkX X scope s H C cl fp) ifs tt)
    (hb : ∀ s H C cl fp D, BD (blkX X scope s H C cl fp) (inBody (do
      let kv ← eval kx (blkX X scope s H C cl fp).env
      let vv ← holding [kv] (eval vx (blkX X scope s H C cl fp).env)
      standAt { kx.pos with endLine := vx.pos.endLine, endCol := vx.pos.endCol }
      holding [kv, vv] (dictSet D kv vv)) (⟨tg, iter, ifs, 0⟩ :: rest)[1]? (.DictComp kx vx (⟨tg, iter, ifs, 0⟩ :: rest) scope pos) 0 (.ref D) (blkX X scope s H C cl fp).env) ws (tb D))
    (hfs : ∀ x, foldedSetIterable iter X.env x = pure x := by intro _; rfl) : PS X (.Assign [.Name y py] (.DictComp kx vx (⟨tg, iter, ifs, 0⟩ :: rest) scope pos) spos) (tAsg (tCo o0 wi g tt tb (own.map (·.2))) (gName i)) := by
  refine ⟨fun pins s σ H D I h => ?_⟩
  rw [exec_Assign_Name_used _ _ _ _ hsw]
  refine wpAny_bind (wpAny_standAt (wpAny_bind ?_))
  show wpAny _ X.A (do let _ ← comprehension (.DictComp kx vx (⟨tg, iter, ifs, 0⟩ :: rest) scope pos) scope X.env (firstIterPos (⟨tg, iter, ifs, 0⟩ :: rest) pos) newDict false (eval iter X.env) (some (assign (.Name y py) X.env))) _ _ s
  have h : tCo o0 wi g tt tb (own.map (·.2)) σ H (fun x H1 => gName i x σ H1 D.nx) := h
  refine wpAny_bind (thn (co_core (Qf := fun _ s' => SP X pins D .next s') (emit := fun D env => do
      let kv ← eval kx env
      let vv ← holding [kv] (eval vx env)
      standAt { kx.pos with endLine := vx.pos.endLine, endCol := vx.pos.endCol }
      holding [kv, vv] (dictSet D kv vv)) hc hN I (fun D env => .inr (.inr ⟨kx, vx, scope, pos, D, rfl, rfl, rfl⟩)) rfl (fun E Q1 s1 h1 => new_dict h1) z.ok rfl hi ok hws hg ht hb hfs h fun L C s' m H' I' q hn f => ?_) fun _ s' hq => wpAny_pure (wpAny_pure hq))
  exact used_end hN hy hyl I' q hn f fun s2 k => k
theorem sw_trueD {kx vx : Expr} {gs : List Comprehension} {l : Nat} {env : Env} (hk : env.scope.kind = .function) (hy : env.scope.names.lookup y = some .local) (hl : (py.line == pos.line) = true)
    (ha : (scope.names.any fun (n, k) => n == y && (k == .local || k == .cell)) = false) : swapsWith (.DictComp kx vx gs scope pos) (some (.Name y py)) l env = pure true := by
  have ky : env.kindOf y = some .local := hy
  have hb : env.blockKind = .function := by unfold Env.blockKind; rw [hk]; rfl
  unfold swapsWith
  simp only [hb, ky, ha, Expr.pos, hl]
  rfl
end
end Lw
namespace Dl
open PySem PySem.Spec PyProof.Rows L2 LamX
section
variable {X : Cx} {elt kx vx tgx iter : Expr} {ifs : List Expr} {rest : List Comprehension} {scope : Scope} {own : List (Str × Nat)} {pos spos py : Pos} {y : Str} {i : Nat} {ti : TDI} {tg : TDG} {tt : TDT} {tb : TDB} {ws ss : List Nat}
theorem lift_set {te : TD} {pins : List (Addr × Obj)} {s : Shared} {σ : L2.St} {H : Hp} {E : Ends} (hl : i < X.N.length) (I : Inv X pins σ H s) (h : liftS X (dSet i te) E σ H) : liftE X te σ H fun x H1 => gName i x σ H1 E.nx := by
  have hiσ : i < σ.length := by rw [I.len]; exact hl
  obtain ⟨g, lk, ρ, ts, Ed, hK, nb, A, t, ee⟩ := h
  refine ⟨g, lk, σ, ρ, ts, _, hK, A, t, fun ρ1 r v H1 ⟨F1, A1⟩ t1 => ?_⟩
  cases r with
  | b j =>
    simp only at t1
    cases ef : frzR ρ1 (.b j) with
    | none => simp only [ef] at t1
    | some p =>
      obtain ⟨ρ2, d⟩ := p
      simp only [ef] at t1
      obtain ⟨F2, _, A2⟩ := A1.freeze1 (us := []) ef
      exact ee.nx _ _ _ ⟨F2, (A2.storeZ hiσ rfl fun _ e => nomatch e).rebase nb⟩ t1
  | z d => exact ee.nx _ _ _ ⟨F1, A1.store hiσ rfl nb⟩ t1
  | o d => exact ee.nx _ _ _ ⟨F1, A1.store hiσ rfl nb⟩ t1
  | p => exact ee.nx _ _ _ ⟨F1, A1.store hiσ rfl nb⟩ t1
theorem pd_setCoL (hc : X.calm = true) (hN : X.N.Nodup) (hy : X.N[i]? = some y) (hyl : X.env.scope.names.lookup y = some .local) (hl : i < X.N.length) (hk : X.env.scope.kind = .function) (hln : (py.line == pos.line) = true)
    (hna : (scope.names.any fun (n, k) => n == y && (k == .local || k == .cell)) = false) (hi : PDI X tgx iter ti) (ok : BlkOk X.N X.env.scope scope own) (hws : ∀ i ∈ ws, i ∈ own.map (·.2)) (hss : ∀ i ∈ ss, i ∈ own.map (·.2))
    (hg : ∀ s H C cl fp, PDG (Lw.blkX X scope s H C cl fp) ss tgx tg) (ht : ∀ s H C cl fp, PDTs (Lw.blkX X scope s H C cl fp) ifs tt)
    (hb : ∀ s H C cl fp D, BDD (Lw.blkX X scope s H C cl fp) (Lw.inBody (do let _ ← call (.builtin "list.append") [.ref D, ← eval elt (Lw.blkX X scope s H C cl fp).env]) (⟨tgx, iter, ifs, 0⟩ :: rest)[1]? (.ListComp elt (⟨tgx, iter, ifs, 0⟩ :: rest) scope pos) 0 (.ref D) (Lw.blkX X scope s H C cl fp).env) ws tb D)
    (hfs : ∀ x, foldedSetIterable iter X.env x = pure x := by intro _; rfl) : PDS X (.Assign [.Name y py] (.ListComp elt (⟨tgx, iter, ifs, 0⟩ :: rest) scope pos) spos) (dSet i (dComp (.lst []) ti tg tt tb (own.map (·.2)))) := by
  refine ⟨fun pins s σ H E I h => ?_⟩
  refine (Lw.ps_setCoL (tb := fun a => liftB X ws tb a) (g := liftG X ss tg) (tt := liftT X tt) hc hN hy hyl (sw_true hk hyl hln hna) hi ok hws hg ht hb hfs).run pins s σ H E I ?_
  exact lift_comp (o0 := .lst []) (h0 := .lst []) (fun K F H a => ⟨[], upd_same, Nat.zero_le _, .nil⟩) hws hss (lift_set hl I h)
theorem pd_setCoD (tup : Bool) (hc : X.calm = true) (hN : X.N.Nodup) (hy : X.N[i]? = some y) (hyl : X.env.scope.names.lookup y = some .local) (hl : i < X.N.length) (hk : X.env.scope.kind = .function) (hln : (py.line == pos.line) = true)
    (hna : (scope.names.any fun (n, k) => n == y && (k == .local || k == .cell)) = false) (hi : PDI X tgx iter ti) (ok : BlkOk X.N X.env.scope scope own) (hws : ∀ i ∈ ws, i ∈ own.map (·.2)) (hss : ∀ i ∈ ss, i ∈ own.map (·.2))
    (hg : ∀ s H C cl fp, PDG (Lw.blkX X scope s H C cl fp) ss tgx tg) (ht : ∀ s H C cl fp, PDTs (Lw.blkX X scope s H C cl fp) ifs tt)
    (hb : ∀ s H C cl fp D, BDD (Lw.blkX X scope s H C cl fp) (Lw.inBody (do
      let kv ← eval kx (Lw.blkX X scope s H C cl fp).env
      let vv ← holding [kv] (eval vx (Lw.blkX X scope s H C cl fp).env)
      standAt { kx.pos with endLine := vx.pos.endLine, endCol := vx.pos.endCol }
      holding [kv, vv] (dictSet D kv vv)) (⟨tgx, iter, ifs, 0⟩ :: rest)[1]? (.DictComp kx vx (⟨tgx, iter, ifs, 0⟩ :: rest) scope pos) 0 (.ref D) (Lw.blkX X scope s H C cl fp).env) ws tb D)
    (hfs : ∀ x, foldedSetIterable iter X.env x = pure x := by intro _; rfl) : PDS X (.Assign [.Name y py] (.DictComp kx vx (⟨tgx, iter, ifs, 0⟩ :: rest) scope pos) spos) (dSet i (dComp (if tup then .dt [] else .dk []) ti tg tt tb (own.map (·.2)))) := by
  refine ⟨fun pins s σ H E I h => ?_⟩
  cases tup with
  | true =>
    refine (Lw.ps_setCoD (tb := fun a => liftB X ws tb a) (g := liftG X ss tg) (tt := liftT X tt) (o0 := .dT []) (.inr rfl) hc hN hy hyl (Lw.sw_trueD hk hyl hln hna) hi ok hws hg ht hb hfs).run pins s σ H E I ?_
    exact lift_comp (o0 := .dt []) (h0 := .dT []) (fun K F H a => ⟨[], upd_same, Nat.zero_le _, rfl, .nil⟩) hws hss (lift_set hl I h)
  | false =>
    refine (Lw.ps_setCoD (tb := fun a => liftB X ws tb a) (g := liftG X ss tg) (tt := liftT X tt) (o0 := .dK []) (.inl rfl) hc hN hy hyl (Lw.sw_trueD hk hyl hln hna) hi ok hws hg ht hb hfs).run pins s σ H E I ?_
    exact lift_comp (o0 := .dk []) (h0 := .dK []) (fun K F H a => ⟨[], upd_same, Nat.zero_le _, rfl, .nil⟩) hws hss (lift_set hl I h)
end
end Dl
set_option autoImplicit false
set_option Elab.async false
set_option linter.all false
set_option maxRecDepth 100000
set_option maxHeartbeats 4000000
namespace Dl
open PySem PySem.Spec PyProof.Rows L2 LamX
def topS (i : Nat) : Stmt := PySem.Challenge.pw_fewheld_k61_windows_in_order.main.body.getD i (.Pass ⟨0, 0, 0, 0⟩)
/-- the built-ins that are named, none of which the module hides -/
structure Bi (mg : Str → Option Value) : Prop where
  n_abs : mg "abs" = none
  n_all : mg "all" = none
  n_bool : mg "bool" = none
  n_divmod : mg "divmod" = none
  n_int : mg "int" = none
  n_isinstance : mg "isinstance" = none
  n_len : mg "len" = none
  n_max : mg "max" = none
  n_min : mg "min" = none
  n_range : mg "range" = none
  n_set : mg "set" = none
  n_sorted : mg "sorted" = none
  n_str : mg "str" = none
  n_zip : mg "zip" = none
theorem hu_1 {u : Nat} (h : u + 65 < cLine) : u < cLine := Nat.lt_of_le_of_lt (Nat.le_add_right _ _) h
theorem hu_d {u : Nat} (h : u + 65 < cLine) : u + 1 < cLine := Nat.lt_of_le_of_lt (Nat.add_le_add_left (by decide) _) h
theorem hu_e {u : Nat} (h : u + 65 < cLine) : u + 64 < cLine := Nat.lt_of_le_of_lt (Nat.add_le_add_left (by decide) _) h
theorem hu_i {u : Nat} (h : u + 65 < cLine) : u + 65 < cLine := h
theorem hu_r {k : Nat} {A : Around} (hr : Room k A) : A.units + 65 < cLine := by have := hr.un; omega
abbrev s_is_integer : Stmt := topS 8
abbrev N_is_integer : List Str := ["value"]
theorem sc_is_integer : FnScope N_is_integer ["value"] (defScope s_is_integer) := ⟨rfl, rfl, rfl, by decide +kernel, rfl, by decide +kernel, by decide +kernel⟩
abbrev s_is_count : Stmt := topS 9
abbrev N_is_count : List Str := ["value"]
theorem sc_is_count : FnScope N_is_count ["value"] (defScope s_is_count) := ⟨rfl, rfl, rfl, by decide +kernel, rfl, by decide +kernel, by decide +kernel⟩
abbrev s_check_count : Stmt := topS 10
abbrev N_check_count : List Str := ["value"]
theorem sc_check_count : FnScope N_check_count ["value"] (defScope s_check_count) := ⟨rfl, rfl, rfl, by decide +kernel, rfl, by decide +kernel, by decide +kernel⟩
abbrev s_is_letters : Stmt := topS 14
abbrev N_is_letters : List Str := ["value", "one", "other"]
theorem sc_is_letters : FnScope N_is_letters ["value"] (defScope s_is_letters) := ⟨rfl, rfl, rfl, by decide +kernel, rfl, by decide +kernel, by decide +kernel⟩
abbrev s_is_over : Stmt := topS 15
abbrev N_is_over : List Str := ["letters", "value", "letter"]
theorem sc_is_over : FnScope N_is_over ["letters", "value"] (defScope s_is_over) := ⟨rfl, rfl, rfl, by decide +kernel, rfl, by decide +kernel, by decide +kernel⟩
abbrev s_rows_up_to : Stmt := topS 16
abbrev N_rows_up_to : List Str := ["letters", "most", "many", "_"]
theorem sc_rows_up_to : FnScope N_rows_up_to ["letters", "most"] (defScope s_rows_up_to) := ⟨rfl, rfl, rfl, by decide +kernel, rfl, by decide +kernel, by decide +kernel⟩
abbrev s_numbered_row : Stmt := topS 17
abbrev N_numbered_row : List Str := ["letters", "number", "row", "place"]
theorem sc_numbered_row : FnScope N_numbered_row ["letters", "number"] (defScope s_numbered_row) := ⟨rfl, rfl, rfl, by decide +kernel, rfl, by decide +kernel, by decide +kernel⟩
abbrev s_check_letters : Stmt := topS 18
abbrev N_check_letters : List Str := ["letters"]
theorem sc_check_letters : FnScope N_check_letters ["letters"] (defScope s_check_letters) := ⟨rfl, rfl, rfl, by decide +kernel, rfl, by decide +kernel, by decide +kernel⟩
abbrev s_windows : Stmt := topS 22
abbrev N_windows : List Str := ["letters", "d"]
theorem sc_windows : FnScope N_windows ["letters", "d"] (defScope s_windows) := ⟨rfl, rfl, rfl, by decide +kernel, rfl, by decide +kernel, by decide +kernel⟩
abbrev s_following : Stmt := topS 23
abbrev N_following : List Str := ["letters", "d", "window"]
theorem sc_following : FnScope N_following ["letters", "d", "window"] (defScope s_following) := ⟨rfl, rfl, rfl, by decide +kernel, rfl, by decide +kernel, by decide +kernel⟩
abbrev s_check_ahead : Stmt := topS 24
abbrev N_check_ahead : List Str := ["d"]
theorem sc_check_ahead : FnScope N_check_ahead ["d"] (defScope s_check_ahead) := ⟨rfl, rfl, rfl, by decide +kernel, rfl, by decide +kernel, by decide +kernel⟩
abbrev s_check_window : Stmt := topS 25
abbrev N_check_window : List Str := ["letters", "d", "window"]
theorem sc_check_window : FnScope N_check_window ["letters", "d", "window"] (defScope s_check_window) := ⟨rfl, rfl, rfl, by decide +kernel, rfl, by decide +kernel, by decide +kernel⟩
abbrev s_is_window : Stmt := topS 26
abbrev N_is_window : List Str := ["letters", "d", "value"]
theorem sc_is_window : FnScope N_is_window ["letters", "d", "value"] (defScope s_is_window) := ⟨rfl, rfl, rfl, by decide +kernel, rfl, by decide +kernel, by decide +kernel⟩
abbrev s_all_windows : Stmt := topS 27
abbrev N_all_windows : List Str := ["letters", "d", "seen", "number", "row"]
theorem sc_all_windows : FnScope N_all_windows ["letters", "d"] (defScope s_all_windows) := ⟨rfl, rfl, rfl, by decide +kernel, rfl, by decide +kernel, by decide +kernel⟩
abbrev s_followers : Stmt := topS 28
abbrev N_followers : List Str := ["letters", "window", "more"]
theorem sc_followers : FnScope N_followers ["letters", "window"] (defScope s_followers) := ⟨rfl, rfl, rfl, by decide +kernel, rfl, by decide +kernel, by decide +kernel⟩
abbrev s_law_pot : Stmt := topS 30
abbrev N_law_pot : List Str := ["_law_script", "_law_cell", "_law_own"]
theorem sc_law_pot : FnScope N_law_pot ["_law_script", "_law_cell"] (defScope s_law_pot) := ⟨rfl, rfl, rfl, by decide +kernel, rfl, by decide +kernel, by decide +kernel⟩
abbrev s_law_draw : Stmt := topS 31
abbrev N_law_draw : List Str := ["_law_pot_here", "_law_many_here", "_law_digit"]
theorem sc_law_draw : FnScope N_law_draw ["_law_pot_here", "_law_many_here"] (defScope s_law_draw) := ⟨rfl, rfl, rfl, by decide +kernel, rfl, by decide +kernel, by decide +kernel⟩
abbrev s_law_pick : Stmt := topS 32
abbrev N_law_pick : List Str := ["_law_pot_here", "_law_items"]
theorem sc_law_pick : FnScope N_law_pick ["_law_pot_here", "_law_items"] (defScope s_law_pick) := ⟨rfl, rfl, rfl, by decide +kernel, rfl, by decide +kernel, by decide +kernel⟩
abbrev s_law_views : Stmt := topS 33
abbrev N_law_views : List Str := ["_law_signs_here", "_law_far", "_law_lines", "_law_found", "_law_turn", "_law_line", "_law_longer", "_law_sign"]
theorem sc_law_views : FnScope N_law_views ["_law_signs_here", "_law_far"] (defScope s_law_views) := ⟨rfl, rfl, rfl, by decide +kernel, rfl, by decide +kernel, by decide +kernel⟩
abbrev s_law_thens : Stmt := topS 35
abbrev N_law_thens : List Str := ["_law_signs_here", "_law_view", "_law_sign"]
theorem sc_law_thens : FnScope N_law_thens ["_law_signs_here", "_law_view"] (defScope s_law_thens) := ⟨rfl, rfl, rfl, by decide +kernel, rfl, by decide +kernel, by decide +kernel⟩
abbrev s_law_signs : Stmt := topS 36
abbrev N_law_signs : List Str := ["_law_pot_here", "_law_found", "_law_turn", "_law_left", "_law_sign"]
theorem sc_law_signs : FnScope N_law_signs ["_law_pot_here"] (defScope s_law_signs) := ⟨rfl, rfl, rfl, by decide +kernel, rfl, by decide +kernel, by decide +kernel⟩
abbrev s_law_seen : Stmt := topS 37
abbrev N_law_seen : List Str := ["_law_line", "_law_place", "_law_far", "_law_rest"]
theorem sc_law_seen : FnScope N_law_seen ["_law_line", "_law_place", "_law_far"] (defScope s_law_seen) := ⟨rfl, rfl, rfl, by decide +kernel, rfl, by decide +kernel, by decide +kernel⟩
abbrev s_law_many : Stmt := topS 38
abbrev N_law_many : List Str := ["_law_many_here", "_law_far", "_law_found", "_law_turn"]
theorem sc_law_many : FnScope N_law_many ["_law_many_here", "_law_far"] (defScope s_law_many) := ⟨rfl, rfl, rfl, by decide +kernel, rfl, by decide +kernel, by decide +kernel⟩
abbrev s_law_rows_right : Stmt := topS 39
abbrev N_law_rows_right : List Str := ["_law_pot_here", "_law_signs_here", "_law_far", "_law_line", "_law_seen_here", "_law_turn", "_law_place", "_law_view", "_law_later"]
theorem sc_law_rows_right : FnScope N_law_rows_right ["_law_pot_here", "_law_signs_here", "_law_far"] (defScope s_law_rows_right) := ⟨rfl, rfl, rfl, by decide +kernel, rfl, by decide +kernel, by decide +kernel⟩
abbrev s_law_right : Stmt := topS 40
abbrev N_law_right : List Str := ["_law_pot_here", "_law_signs_here", "_law_far", "_law_due", "_law_said", "_law_view"]
theorem sc_law_right : FnScope N_law_right ["_law_pot_here"] (defScope s_law_right) := ⟨rfl, rfl, rfl, by decide +kernel, rfl, by decide +kernel, by decide +kernel⟩
abbrev s_law : Stmt := topS 41
abbrev N_law : List Str := ["_law_script", "_law_cell"]
theorem sc_law : FnScope N_law ["_law_script"] (defScope s_law) := ⟨rfl, rfl, rfl, by decide +kernel, rfl, by decide +kernel, by decide +kernel⟩
end Dl
set_option autoImplicit false
set_option Elab.async false
set_option linter.all false
set_option maxRecDepth 100000
set_option maxHeartbeats 400000
/-! reasoning over what a def does with data -/
namespace Dl
open PySem PySem.Spec PyProof.Rows L2 LamX
/-- a def's ends -/
abbrev eD (Q : R → Prop) : DE := { nx := fun _ => Q (.z .non), rt := Q }
/-- what comes from a value: given, frozen -/
def Gives (r : R) (d : D) : Prop := r = .z d ∨ r = .o d
theorem Gives.frz {r : R} {d : D} {ρ : Rho} (h : Gives r d) : frzR ρ r = some (ρ, d) := by
  rcases h with rfl | rfl <;> rfl
section
variable {α : Type} {vs : List Nat} {tg : TDG} {tt : TDT} {te : TD} {g f : α → D} {p : α → Bool} {ρ0 : Rho} {ρT : D → Rho} {Q : Rho → D → Prop}
/-- a list by comprehension over these data: those that pass, each by f -/
theorem lc_gen (ρ0 : Rho) (ρT : D → Rho) (g f : α → D) (p : α → Bool) (hw : ∀ d, wipeR (ρT d) vs = ρ0) : ∀ (xs : List α) (ρ : Rho) (acc : List D), wipeR ρ vs = ρ0 → (∀ x ∈ xs, ∀ K : Rho → Prop, K (ρT (g x)) → tg (g x) ρ0 K) → (∀ x ∈ xs, ∀ K : Rho → Bool → Prop, K (ρT (g x)) (p x) → tt (ρT (g x)) K) →
    (∀ x ∈ xs, p x = true → ∀ K : Rho → R → Prop, (∀ r, Gives r (f x) → K (ρT (g x)) r) → te (ρT (g x)) K) → acc.length + xs.length ≤ sizeLine → Q ρ0 (.lst (acc ++ (xs.filter p).map f)) → lcD vs tg tt (bApp te) (xs.map g) ρ (.lst acc) Q
  | [], ρ, acc, e, _, _, _, _, q => by
    show Q (wipeR ρ vs) (.lst acc)
    rw [e]
    simpa using q
  | x :: xs, ρ, acc, e, hg, ht, he, hz, q => by
    show tg (g x) (wipeR ρ vs) _
    rw [e]
    refine hg x List.mem_cons_self _ (ht x List.mem_cons_self _ ?_)
    rw [List.length_cons] at hz
    cases hp : p x with
    | false =>
      refine iteF (lc_gen ρ0 ρT g f p hw xs _ acc (hw _) (fun d hd => hg d (List.mem_cons_of_mem _ hd)) (fun d hd => ht d (List.mem_cons_of_mem _ hd)) (fun d hd => he d (List.mem_cons_of_mem _ hd)) (by omega) ?_)
      rw [List.filter_cons_of_neg (by rw [hp]; exact Bool.false_ne_true)] at q
      exact q
    | true =>
      refine iteT ?_
      show te (ρT (g x)) _
      refine he x List.mem_cons_self hp _ fun r hr => ?_
      simp only [hr.frz]
      refine ⟨by omega, lc_gen ρ0 ρT g f p hw xs _ _ (hw _) (fun d hd => hg d (List.mem_cons_of_mem _ hd)) (fun d hd => ht d (List.mem_cons_of_mem _ hd)) (fun d hd => he d (List.mem_cons_of_mem _ hd)) (by rw [List.length_append]; simp only [List.length_cons, List.length_nil]; omega) ?_⟩
      rw [List.filter_cons_of_pos hp, List.map_cons] at q
      rw [List.append_assoc]
      exact q
/-- all of them, each by f -/
theorem lc_map (ρ0 : Rho) (ρT : D → Rho) (g f : α → D) (hw : ∀ d, wipeR (ρT d) vs = ρ0) (xs : List α) (ρ : Rho) (e : wipeR ρ vs = ρ0) (hg : ∀ x ∈ xs, ∀ K : Rho → Prop, K (ρT (g x)) → tg (g x) ρ0 K) (he : ∀ x ∈ xs, ∀ K : Rho → R → Prop, (∀ r, Gives r (f x) → K (ρT (g x)) r) → te (ρT (g x)) K) (hz : xs.length ≤ sizeLine) (q : Q ρ0 (.lst (xs.map f))) :
    lcD vs tg dYes (bApp te) (xs.map g) ρ (.lst []) Q :=
  lc_gen ρ0 ρT g f (fun _ => true) hw xs ρ [] e hg (fun d _ K k => k) (fun d hd _ => he d hd) (by simpa using hz) (by rw [List.filter_eq_self.mpr (fun _ _ => rfl)]; exact q)
end
/-- elements that come as they may: P tells what may come -/
theorem lc_any {α : Type} {vs : List Nat} {tg : TDG} {te : TD} {Q : Rho → D → Prop} (ρ0 : Rho) (ρT : D → Rho) (g : α → D) (P : α → D → Prop) (hw : ∀ d, wipeR (ρT d) vs = ρ0) : ∀ (ds : List α) (ρ : Rho) (acc : List D), wipeR ρ vs = ρ0 → (∀ d ∈ ds, ∀ K : Rho → Prop, K (ρT (g d)) → tg (g d) ρ0 K) →
    (∀ d ∈ ds, ∀ K : Rho → R → Prop, (∀ r x, Gives r x → P d x → K (ρT (g d)) r) → te (ρT (g d)) K) → acc.length + ds.length ≤ sizeLine → (∀ xs, Paired P ds xs → Q ρ0 (.lst (acc ++ xs))) → lcD vs tg dYes (bApp te) (ds.map g) ρ (.lst acc) Q
  | [], ρ, acc, e, _, _, _, q => by
    show Q (wipeR ρ vs) (.lst acc)
    rw [e]
    simpa using q [] .nil
  | d :: ds, ρ, acc, e, hg, he, hz, q => by
    show tg (g d) (wipeR ρ vs) _
    rw [e]
    refine hg d List.mem_cons_self _ ?_
    rw [List.length_cons] at hz
    show (if true = true then bApp te (ρT (g d)) (D.lst acc) (fun ρ3 acc' => lcD vs tg dYes (bApp te) (ds.map g) ρ3 acc' Q) else lcD vs tg dYes (bApp te) (ds.map g) (ρT (g d)) (D.lst acc) Q)
    refine iteT ?_
    show te (ρT (g d)) _
    refine he d List.mem_cons_self _ fun r x hr hp => ?_
    simp only [hr.frz]
    refine ⟨by omega, lc_any ρ0 ρT g P hw ds _ _ (hw _) (fun d hd => hg d (List.mem_cons_of_mem _ hd)) (fun d hd => he d (List.mem_cons_of_mem _ hd)) (by rw [List.length_append]; simp only [List.length_cons, List.length_nil]; omega) fun xs hx => ?_⟩
    rw [List.append_assoc]
    exact q (x :: xs) (.cons hp hx)
/-! ### bounds -/
theorem size_of {n : Nat} (h : n ≤ 16777216) : n ≤ sizeLine := by rw [sizeLine_eq]; exact h
theorem mulX_small {i j : Int} (hi : i.natAbs < 2 ^ 64) (hj : j.natAbs < 2 ^ 64) : CMulX i j := by
  have bits : ∀ {i : Int}, i.natAbs < 2 ^ 64 → (Builtin.Int.intBits i : Int) ≤ 64 := fun {i} h => by
    have : Builtin.Int.intBits i ≤ 64 := intBits_le_64 (by omega) (by omega)
    omega
  have a := bits hi
  have b := bits hj
  show _ ≤ _
  omega
/-! ### plain data: shaped, equal -/
def Ok (n : Nat) (p : PyData) : Prop := p.canLay0 = true ∧ p.depth ≤ n
theorem Ok.sh {n : Nat} {p : PyData} (h : Ok n p) (hn : n ≤ 64) : shp p := by
  show (p.canLay0 && decide (p.depth ≤ 64)) = true
  rw [Bool.and_eq_true]
  exact ⟨h.1, decide_eq_true (Nat.le_trans h.2 hn)⟩
theorem Ok.le {m n : Nat} {p : PyData} (h : Ok m p) (hn : m ≤ n) : Ok n p := ⟨h.1, Nat.le_trans h.2 hn⟩
theorem ok_non : Ok 0 .none := ⟨by simp only [PyData.canLay0], by simp only [PyData.depth]; omega⟩
theorem ok_bl (b : Bool) : Ok 0 (.bool b) := ⟨by simp only [PyData.canLay0], by simp only [PyData.depth]; omega⟩
theorem ok_int (i : Int) : Ok 0 (.int i) := ⟨by simp only [PyData.canLay0], by simp only [PyData.depth]; omega⟩
/-- signs that may stand in a text -/
def Sgs (l : List Nat) : Prop := ∀ c ∈ l, c < 1114112
theorem ok_str {z : Str} (h : Sgs z.cps.toList) : Ok 0 (.str z) := by
  refine ⟨?_, by simp only [PyData.depth]; omega⟩
  simp only [PyData.canLay0]
  show z.cps.all (· < 0x110000) = true
  rw [← Array.all_toList, List.all_eq_true]
  exact fun c hc => decide_eq_true (h c hc)
theorem frzL_zs {ρ : Rho} : ∀ {ds : List D}, frzL ρ (ds.map R.z) = some (ρ, ds)
  | [] => rfl
  | d :: ds => by simp only [List.map_cons, frzL, frzR, frzL_zs]
theorem sgs_of {l : List Nat} (h : l.all (fun c => decide (c < 1114112)) = true) : Sgs l := fun c hc => of_decide_eq_true (List.all_eq_true.mp h c hc)
theorem okAll {n : Nat} : ∀ {ps : List PyData}, (∀ p ∈ ps, Ok n p) → PyData.canLayAll0 ps = true ∧ PyData.depthAll ps ≤ n
  | [], _ => ⟨by simp only [PyData.canLayAll0], by simp only [PyData.depthAll]; omega⟩
  | p :: ps, h => by
    obtain ⟨h1, h2⟩ := okAll fun q hq => h q (List.mem_cons_of_mem _ hq)
    obtain ⟨h3, h4⟩ := h p List.mem_cons_self
    exact ⟨by simp only [PyData.canLayAll0, h1, h3, Bool.and_self], by simp only [PyData.depthAll]; omega⟩
theorem ok_list {n : Nat} {ps : List PyData} (h : ∀ p ∈ ps, Ok n p) : Ok (n + 1) (.list ps) := ⟨by simp only [PyData.canLay0]; exact (okAll h).1, by simp only [PyData.depth]; have := (okAll h).2; omega⟩
theorem ok_tup {n : Nat} {ps : List PyData} (h : ∀ p ∈ ps, Ok n p) : Ok (n + 1) (.tuple ps) := ⟨by simp only [PyData.canLay0]; exact (okAll h).1, by simp only [PyData.depth]; have := (okAll h).2; omega⟩
theorem pys_map {α : Type} {f : α → D} {g : α → PyData} : ∀ {xs : List α}, (∀ x ∈ xs, (f x).py = some (g x)) → D.pys (xs.map f) = some (xs.map g)
  | [], _ => by simp only [List.map_nil, D.pys]
  | x :: xs, h => by
    simp only [List.map_cons, D.pys, h x List.mem_cons_self, pys_map fun y hy => h y (List.mem_cons_of_mem _ hy)]
theorem eqv_int (x y : Int) : PyData.eqv (.int x) (.int y) = decide (x = y) := by
  simp only [PyData.eqv]
  by_cases h : x = y
  · subst h; simp
  · simp [h]
theorem eqv_bl (x y : Bool) : PyData.eqv (.bool x) (.bool y) = decide (x = y) := by
  simp only [PyData.eqv]
  cases x <;> cases y <;> rfl
theorem eqv_str (x y : Str) : PyData.eqv (.str x) (.str y) = decide (x = y) := by
  simp only [PyData.eqv]
  by_cases h : x = y
  · subst h; simp
  · simp [h]
theorem eqvAll_map {α : Type} [DecidableEq α] {d : α → PyData} (h : ∀ x y, PyData.eqv (d x) (d y) = decide (x = y)) : ∀ xs ys : List α, PyData.eqvAll (xs.map d) (ys.map d) = decide (xs = ys)
  | [], [] => by simp [PyData.eqvAll]
  | [], _ :: _ => by simp [PyData.eqvAll]
  | _ :: _, [] => by simp [PyData.eqvAll]
  | x :: xs, y :: ys => by
    have ih := eqvAll_map h xs ys
    simp only [List.map_cons, PyData.eqvAll]
    rw [ih, h]
    by_cases h1 : x = y <;> by_cases h2 : xs = ys <;> simp [h1, h2]
theorem eqv_list {α : Type} [DecidableEq α] {d : α → PyData} (h : ∀ x y, PyData.eqv (d x) (d y) = decide (x = y)) (xs ys : List α) : PyData.eqv (.list (xs.map d)) (.list (ys.map d)) = decide (xs = ys) := by
  simp only [PyData.eqv]
  exact eqvAll_map h xs ys
/-! ### equality of texts, of lists of texts -/
theorem eq_str {neg : Bool} {x y : Str} {Q : R → Prop} (hx : Sgs x.cps.toList) (hy : Sgs y.cps.toList) (q : Q (.z (.bl (neg != decide (x = y))))) : (if neg then fNe else fEq) (.str x) (.str y) Q := by
  cases neg with
  | false =>
    rw [Dl.bne_false, ← eqv_str] at q
    exact ⟨_, _, rfl, rfl, (ok_str hx).sh (by decide), (ok_str hy).sh (by decide), q⟩
  | true =>
    rw [Dl.bne_true, ← eqv_str] at q
    exact ⟨_, _, rfl, rfl, (ok_str hx).sh (by decide), (ok_str hy).sh (by decide), q⟩
theorem eq_int {neg : Bool} {x y : Int} {Q : R → Prop} (q : Q (.z (.bl (neg != decide (x = y))))) : (if neg then fNe else fEq) (.int x) (.int y) Q := by
  cases neg with
  | false =>
    rw [Dl.bne_false, ← eqv_int] at q
    exact ⟨_, _, rfl, rfl, (ok_int _).sh (by decide), (ok_int _).sh (by decide), q⟩
  | true =>
    rw [Dl.bne_true, ← eqv_int] at q
    exact ⟨_, _, rfl, rfl, (ok_int _).sh (by decide), (ok_int _).sh (by decide), q⟩
theorem fEq_str {x y : Str} {Q : R → Prop} (hx : Sgs x.cps.toList) (hy : Sgs y.cps.toList) (q : Q (.z (.bl (decide (x = y))))) : fEq (.str x) (.str y) Q := eq_str (neg := false) hx hy (by rw [Dl.bne_false]; exact q)
theorem fNe_str {x y : Str} {Q : R → Prop} (hx : Sgs x.cps.toList) (hy : Sgs y.cps.toList) (q : Q (.z (.bl (!decide (x = y))))) : fNe (.str x) (.str y) Q := eq_str (neg := true) hx hy (by rw [Dl.bne_true]; exact q)
theorem fEq_int {x y : Int} {Q : R → Prop} (q : Q (.z (.bl (decide (x = y))))) : fEq (.int x) (.int y) Q := eq_int (neg := false) (by rw [Dl.bne_false]; exact q)
theorem fNe_int {x y : Int} {Q : R → Prop} (q : Q (.z (.bl (!decide (x = y))))) : fNe (.int x) (.int y) Q := eq_int (neg := true) (by rw [Dl.bne_true]; exact q)
/-- lists of texts -/
theorem fEq_strs {xs ys : List Str} {Q : R → Prop} (hx : ∀ x ∈ xs, Sgs x.cps.toList) (hy : ∀ y ∈ ys, Sgs y.cps.toList) (q : Q (.z (.bl (decide (xs = ys))))) : fEq (.lst (xs.map D.str)) (.lst (ys.map D.str)) Q := by
  have e : ∀ zs : List Str, (D.lst (zs.map D.str)).py = some (.list (zs.map PyData.str)) := fun zs => by
    simp only [D.py, pys_map (f := D.str) (g := PyData.str) fun x _ => rfl]
  have o : ∀ zs : List Str, (∀ z ∈ zs, Sgs z.cps.toList) → Ok 1 (.list (zs.map PyData.str)) := fun zs h => ok_list fun p hp => by
    obtain ⟨z, hz, rfl⟩ := List.mem_map.mp hp
    exact ok_str (h z hz)
  refine ⟨_, _, e xs, e ys, (o xs hx).sh (by decide), (o ys hy).sh (by decide), ?_⟩
  rw [eqv_list eqv_str]
  exact q
theorem fNe_strs {xs ys : List Str} {Q : R → Prop} (hx : ∀ x ∈ xs, Sgs x.cps.toList) (hy : ∀ y ∈ ys, Sgs y.cps.toList) (q : Q (.z (.bl (!decide (xs = ys))))) : fNe (.lst (xs.map D.str)) (.lst (ys.map D.str)) Q := by
  have e : ∀ zs : List Str, (D.lst (zs.map D.str)).py = some (.list (zs.map PyData.str)) := fun zs => by
    simp only [D.py, pys_map (f := D.str) (g := PyData.str) fun x _ => rfl]
  have o : ∀ zs : List Str, (∀ z ∈ zs, Sgs z.cps.toList) → Ok 1 (.list (zs.map PyData.str)) := fun zs h => ok_list fun p hp => by
    obtain ⟨z, hz, rfl⟩ := List.mem_map.mp hp
    exact ok_str (h z hz)
  refine ⟨_, _, e xs, e ys, (o xs hx).sh (by decide), (o ys hy).sh (by decide), ?_⟩
  rw [eqv_list eqv_str]
  exact q
/-- a text in a list of texts -/
theorem fIn_strs {neg : Bool} {x : Str} {ys : List Str} {Q : R → Prop} (hx : Sgs x.cps.toList) (hy : ∀ y ∈ ys, Sgs y.cps.toList) (q : Q (.z (.bl (neg != decide (x ∈ ys))))) : fInB neg (.str x) (.lst (ys.map D.str)) Q := by
  refine ⟨.str x, ys.map PyData.str, rfl, pys_map fun _ _ => rfl, (ok_str hx).sh (by decide), (ok_list (n := 0) fun p hp => ?_).sh (by decide), ?_⟩
  · obtain ⟨z, hz, rfl⟩ := List.mem_map.mp hp
    exact ok_str (hy z hz)
  · have e : ((ys.map PyData.str).any fun z => PyData.eqv z (.str x)) = decide (x ∈ ys) := by
      rw [List.any_map]
      by_cases h : x ∈ ys
      · rw [decide_eq_true h, List.any_eq_true]
        exact ⟨x, h, by show PyData.eqv (.str x) (.str x) = true; rw [eqv_str]; simp⟩
      · rw [decide_eq_false h, List.any_eq_false]
        intro y hy e
        have e : PyData.eqv (.str y) (.str x) = true := e
        rw [eqv_str, decide_eq_true_eq] at e
        exact h (e ▸ hy)
    rw [e]
    exact q
theorem ixN_nat {n j : Nat} (hj : j < n) : ixN n (j : Int) = some j := by
  unfold ixN
  rw [if_pos (by omega), if_pos (by omega)]
  simp
theorem atI_nat {α : Type} {xs : List α} {j : Nat} (h : j < xs.length) : atI xs (j : Int) = xs[j]? := by
  unfold atI
  rw [ixN_nat h]
  rfl
theorem atI_neg {α : Type} {xs : List α} {j : Nat} (h0 : 0 < j) (h : j ≤ xs.length) : atI xs (-(j : Int)) = xs[xs.length - j]? := by
  unfold atI ixN
  rw [if_neg (by omega), if_pos (by omega)]
  have : (-(j : Int) + (xs.length : Int)).toNat = xs.length - j := by omega
  rw [this]
  rfl
/-! ### texts as lists of signs -/
abbrev cs (z : Str) : List Nat := z.cps.toList
/-- the text of these signs -/
abbrev tx (l : List Nat) : Str := ⟨l.toArray⟩
theorem tx_app (a b : List Nat) : tx a ++ tx b = tx (a ++ b) := by
  show (⟨a.toArray ++ b.toArray⟩ : Str) = _
  rw [List.append_toArray]
theorem cs_tx (a : List Nat) : cs (tx a) = a := by show a.toArray.toList = a; simp
theorem tx_cs (z : Str) : tx (cs z) = z := by cases z; show (⟨_⟩ : Str) = _; simp
theorem tx_len (a : List Nat) : (tx a).length = a.length := by show a.toArray.size = _; simp
theorem len_cs (z : Str) : (cs z).length = z.length := Array.length_toList
theorem tx_inj {a b : List Nat} : tx a = tx b ↔ a = b := ⟨fun h => by have := congrArg cs h; simpa [cs_tx] using this, fun h => by rw [h]⟩
theorem cut_tx (l : List Nat) (lo hi : Option Int) : cutS (tx l) lo hi = tx (cutA l lo hi) := by
  unfold cutS cutA
  rw [tx_len]
theorem cut_str (z : Str) (lo hi : Option Int) : cutS z lo hi = tx (cutA (cs z) lo hi) := by
  have := cut_tx (cs z) lo hi
  rw [tx_cs] at this
  exact this
/-- xs[j:] -/
theorem cutA_from {α : Type} (xs : List α) (j : Nat) : cutA xs (some (j : Int)) none = xs.drop j := by
  unfold cutA
  rw [HT.sIx_nat, HT.sIx_none]
  rcases Nat.le_total j xs.length with h | h
  · rw [Nat.min_eq_left h]
    exact List.take_of_length_le (by rw [List.length_drop]; exact Nat.le_refl _)
  · rw [Nat.min_eq_right h, List.drop_length, List.drop_eq_nil_of_le h, List.take_nil]
/-- xs[:j] -/
theorem cutA_to {α : Type} (xs : List α) (j : Nat) : cutA xs none (some (j : Int)) = xs.take j := by
  unfold cutA
  rw [HT.sIx_nat, HT.sIx_none, List.drop_zero, Nat.sub_zero]
  rcases Nat.le_total j xs.length with h | h
  · rw [Nat.min_eq_left h]
  · rw [Nat.min_eq_right h, List.take_of_length_le h, List.take_of_length_le (Nat.le_refl _)]
/-- xs[:-1] -/
theorem cutA_but {α : Type} (xs : List α) : cutA xs none (some (-1)) = xs.dropLast := by
  unfold cutA
  have e : HT.sIx xs.length xs.length (some (-1)) = xs.length - 1 := by
    show (if (-1 : Int) < 0 then ((-1 : Int) + (xs.length : Int)).toNat else min (-1 : Int).toNat xs.length) = _
    rw [if_pos (by decide)]
    omega
  rw [e, HT.sIx_none, List.drop_zero, Nat.sub_zero, List.dropLast_eq_take]
/-- z.endswith(c), one sign -/
theorem ends_sign (l : List Nat) (c : Nat) : Txt.endswith (tx l) (tx [c]) = decide (l.getLast? = some c) := by
  unfold Txt.endswith Builtin.Str.subAt
  rw [tx_len, tx_len]
  simp only [List.length_cons, List.length_nil, Nat.zero_add]
  rcases List.eq_nil_or_concat l with rfl | ⟨ys, y, rfl⟩
  · simp
  · have e1 : (tx (ys ++ [y])).cps.extract ((ys ++ [y]).length - 1) ((ys ++ [y]).length - 1 + 1) = #[y] := by
      show (ys ++ [y]).toArray.extract _ _ = _
      rw [List.length_append, List.length_singleton, Nat.add_sub_cancel]
      apply Array.ext'
      simp
    rw [List.concat_eq_append, e1]
    simp [List.length_append]
    by_cases h : y = c <;> simp [h]
/-! ### sorted -/
theorem sortD_map {α : Type} (f : α → D) (g : α → PyData) (xs : List α) : sortD (xs.map f) (xs.map g) = (xs.mergeSort (PySem.W.dataLe false g)).map f := by
  unfold sortD
  have : (xs.map f).zip (xs.map g) = xs.map fun x => (f x, g x) := by rw [List.zip_map']
  rw [this, ← mergeSort_mapS (f := fun x => (f x, g x)) (le := PySem.W.dataLe false fun b : D × PyData => b.2) xs, List.map_map]
  rfl
/-- sorted of a list of texts -/
theorem sorted_strs {w : World} {xs : List Str} {Q : R → Prop} (q : Q (.o (.lst ((xs.mergeSort fun a b => decide (a.cps.toList ≤ b.cps.toList)).map D.str)))) : fSorted3 w [.lst (xs.map D.str)] Q := by
  refine ⟨xs.map PyData.str, pys_map fun _ _ => rfl, PySem.W.AllAlike.of fun _ _ => by simp [PySem.W.alike], PySem.W.Sortable.others fun _ => ⟨nofun, nofun⟩, fun p hp => ?_, ?_⟩
  · obtain ⟨x, _, rfl⟩ := List.mem_map.mp hp
    simp only [PyData.depth]
    omega
  · rw [sortD_map, PySem.W.dataLe_str (fun x : Str => x)]
    exact q
theorem sorted_ints {w : World} {xs : List Int} {Q : R → Prop} (q : Q (.o (.lst ((xs.mergeSort fun a b => decide (a ≤ b)).map D.int)))) : fSorted3 w [.lst (xs.map D.int)] Q := by
  refine ⟨xs.map PyData.int, pys_map fun _ _ => rfl, PySem.W.AllAlike.of fun _ _ => by simp [PySem.W.alike], PySem.W.Sortable.others fun _ => ⟨nofun, nofun⟩, fun p hp => ?_, ?_⟩
  · obtain ⟨x, _, rfl⟩ := List.mem_map.mp hp
    simp only [PyData.depth]
    omega
  · rw [sortD_map, PySem.W.dataLe_int (fun x : Int => x)]
    exact q
/-- in (a, b, ..), texts -/
theorem fIn_tup {neg : Bool} {x : Str} {ys : List Str} {Q : R → Prop} (hx : Sgs x.cps.toList) (hy : ∀ y ∈ ys, Sgs y.cps.toList) (q : Q (.z (.bl (neg != decide (x ∈ ys))))) : fInB neg (.str x) (.tup (ys.map D.str)) Q := by
  refine ⟨.str x, ys.map PyData.str, rfl, pys_map fun _ _ => rfl, (ok_str hx).sh (by decide), (ok_tup (n := 0) fun p hp => ?_).sh (by decide), ?_⟩
  · obtain ⟨z, hz, rfl⟩ := List.mem_map.mp hp
    exact ok_str (hy z hz)
  · have e : ((ys.map PyData.str).any fun z => PyData.eqv z (.str x)) = decide (x ∈ ys) := by
      rw [List.any_map]
      by_cases h : x ∈ ys
      · rw [decide_eq_true h, List.any_eq_true]
        exact ⟨x, h, by show PyData.eqv (.str x) (.str x) = true; rw [eqv_str]; simp⟩
      · rw [decide_eq_false h, List.any_eq_false]
        intro y hy e
        have e : PyData.eqv (.str y) (.str x) = true := e
        rw [eqv_str, decide_eq_true_eq] at e
        exact h (e ▸ hy)
    rw [e]
    exact q
/-- a sign in a text -/
theorem fIn_sign {neg : Bool} {c : Nat} {z : Str} {Q : R → Prop} (q : Q (.z (.bl (neg != decide (c ∈ cs z))))) : fInB neg (.str (tx [c])) (.str z) Q := q
/-- "".join of signs -/
theorem join_tx (l : List Nat) : Txt.join "" (l.map fun c => tx [c]) = tx l := by
  show Builtin.Str.glued "" (l.map fun c => tx [c]) = tx l
  have go : ∀ (r : List Nat) (a : List Nat), (r.map fun c => tx [c]).foldl (fun acc p => acc ++ (Str.ofString "").cps ++ p.cps) a.toArray = (a ++ r).toArray := by
    intro r
    induction r with
    | nil => intro a; simp
    | cons c r ih =>
      intro a
      rw [List.map_cons, List.foldl_cons]
      have e : a.toArray ++ (Str.ofString "").cps ++ (tx [c]).cps = (a ++ [c]).toArray := by
        rw [show (Str.ofString "").cps = #[] from rfl, show (tx [c]).cps = [c].toArray from rfl]
        simp
      rw [e, ih]
      simp
  cases l with
  | nil => rfl
  | cons c r =>
    unfold Builtin.Str.glued
    have := go r [c]
    show (⟨_⟩ : Str) = _
    rw [List.map_cons, List.drop_succ_cons, List.drop_zero]
    exact congrArg Str.mk this
theorem sum_ones (l : List Nat) : ((l.map fun c => tx [c]).map fun x => x.length).sum = l.length := by
  induction l with
  | nil => rfl
  | cons c l ih =>
    rw [List.map_cons, List.map_cons, List.sum_cons, ih, List.length_cons]
    show 1 + _ = _
    omega
/-- "".join(xs), xs signs -/
theorem join_signs {l : List Nat} {Q : R → Prop} (h : l.length ≤ 100000) (q : Q (.z (.str (tx l)))) : fJoin (.str "") [.lst (l.map fun c => D.str (tx [c]))] Q := by
  have e : (l.map fun c => D.str (tx [c])) = (l.map fun c => tx [c]).map D.str := by rw [List.map_map]; rfl
  rw [e]
  show (match strsD ((l.map fun c => tx [c]).map D.str) with
    | some ys => (ys.map fun x => x.length).sum + ys.length * (Str.ofString "").length ≤ 16777216 ∧ (Txt.join "" ys).length ≤ sizeLine ∧ Q (.z (.str (Txt.join "" ys)))
    | none => False)
  rw [strsD_map]
  have e0 : (Str.ofString "").length = 0 := by decide
  have e1 := sum_ones l
  have e2 : (tx l).length = l.length := tx_len l
  have e3 := join_tx l
  refine ⟨?_, ?_, ?_⟩
  · rw [e0, e1]
    omega
  · rw [e3, e2]
    exact size_of (by omega)
  · rw [e3]
    exact q
end Dl
set_option autoImplicit false
set_option Elab.async false
set_option linter.all false
set_option maxRecDepth 100000
/-! what each def of k61's text promises -/
namespace Dl
open PySem PySem.Spec PyProof.Rows L2 LamX
/-- one to four letters, ascending -/
structure GoodL (l : List Nat) : Prop where
  pos : 1 ≤ l.length
  few : l.length ≤ 4
  az : ∀ c ∈ l, 97 ≤ c ∧ c ≤ 122
  asc : l.Pairwise (· < ·)
def manyF (n : Nat) : Nat → Nat
  | 0 => 1
  | k + 1 => manyF n k * n + 1
/-- the k-th row -/
def rowF (l : List Nat) : Nat → Nat → List Nat
  | 0, _ => []
  | f + 1, k => if k = 0 then [] else rowF l f ((k - 1) / l.length) ++ (l[(k - 1) % l.length]?).toList
def winF (l : List Nat) (d : Nat) : List (List Nat) := (List.range (manyF l.length d)).map fun k => let r := rowF l k k; if r.length = d then r else r ++ [46]
def follF (l w : List Nat) : List (List Nat) := if w = [46] then [] else if w = [] ∨ w.getLast? = some 46 then [w.drop 1] else (46 :: l).map fun c => w.drop 1 ++ [c]
def overF (l w : List Nat) : Bool := w.all fun c => decide (c ∈ l)
def isWin (l : List Nat) (d : Nat) (w : List Nat) : Bool := if w.getLast? = some 46 then decide (w.length ≤ d) && overF l w.dropLast else decide (w.length = d) && overF l w
def txs (ws : List (List Nat)) : List D := ws.map fun w => D.str (tx w)
/-- all rows of k letters -/
def rowsN (l : List Nat) : Nat → List (List Nat)
  | 0 => [[]]
  | k + 1 => (rowsN l k).flatMap fun r => l.map fun c => r ++ [c]
def viewsF (l : List Nat) (d : Nat) : List (List Nat) := ((List.range d).flatMap fun k => (rowsN l k).map (· ++ [46])) ++ rowsN l d
def seenF (w : List Nat) (p d : Nat) : List Nat := if d ≤ (w.drop p).length then (w.drop p).take d else w.drop p ++ [46]
def potR : R → Prop
  | .o d => mixOk d
  | _ => False

def sem_is_integer : Sem := fun rs Q => match rs with
  | [.z (.int _)] => Q (.z (.bl true))
  | _ => False
def sem_is_count : Sem := fun rs Q => match rs with
  | [.z (.int i)] => Q (.z (.bl (decide (0 ≤ i))))
  | _ => False
def sem_check_count : Sem := fun rs Q => match rs with
  | [.z (.int i)] => 0 ≤ i ∧ Q (.z .non)
  | _ => False
def sem_is_over : Sem := fun rs Q => match rs with
  | [.z (.str l), .z (.str v)] => v.length ≤ 1000 ∧ Q (.z (.bl (overF (cs l) (cs v))))
  | _ => False
def sem_is_letters : Sem := fun rs Q => match rs with
  | [.z (.str l)] => GoodL (cs l) ∧ Q (.z (.bl true))
  | _ => False
def sem_check_letters : Sem := fun rs Q => match rs with
  | [.z (.str l)] => GoodL (cs l) ∧ Q (.z .non)
  | _ => False
def sem_rows_up_to : Sem := fun rs Q => match rs with
  | [.z (.str l), .z (.int m)] => l.length ≤ 4 ∧ 0 ≤ m ∧ m ≤ 3 ∧ Q (.z (.int (manyF l.length m.toNat : Nat)))
  | _ => False
def sem_numbered_row : Sem := fun rs Q => match rs with
  | [.z (.str l), .z (.int m)] => 1 ≤ l.length ∧ l.length ≤ 4 ∧ 0 ≤ m ∧ m ≤ 1000 ∧ Q (.z (.str (tx (rowF (cs l) m.toNat m.toNat))))
  | _ => False
def sem_windows : Sem := fun rs Q => match rs with
  | [.z (.str l), .z (.int d)] => GoodL (cs l) ∧ 0 ≤ d ∧ d ≤ 3 ∧ Q (.o (.lst (txs (winF (cs l) d.toNat))))
  | _ => False
def sem_following : Sem := fun rs Q => match rs with
  | [.z (.str l), .z (.int d), .z (.str v)] => GoodL (cs l) ∧ 0 ≤ d ∧ d ≤ 3 ∧ v.length ≤ 1000 ∧ Sgs (cs v) ∧ isWin (cs l) d.toNat (cs v) = true ∧ Q (.o (.lst (txs (follF (cs l) (cs v)))))
  | _ => False
def sem_check_ahead : Sem := fun rs Q => match rs with
  | [.z (.int d)] => 0 ≤ d ∧ d ≤ 3 ∧ Q (.z .non)
  | _ => False
def sem_check_window : Sem := fun rs Q => match rs with
  | [.z (.str l), .z (.int d), .z (.str v)] => 0 ≤ d ∧ v.length ≤ 1000 ∧ isWin (cs l) d.toNat (cs v) = true ∧ Q (.z .non)
  | _ => False
def sem_is_window : Sem := fun rs Q => match rs with
  | [.z (.str l), .z (.int d), .z (.str v)] => v.length ≤ 1000 ∧ 0 ≤ d ∧ Q (.z (.bl (isWin (cs l) d.toNat (cs v))))
  | _ => False
def sem_all_windows : Sem := fun rs Q => match rs with
  | [.z (.str l), .z (.int d)] => 1 ≤ l.length ∧ l.length ≤ 4 ∧ 0 ≤ d ∧ d ≤ 3 ∧ Q (.o (.lst (txs (winF (cs l) d.toNat))))
  | _ => False
def sem_followers : Sem := fun rs Q => match rs with
  | [.z (.str l), .z (.str v)] => l.length ≤ 4 ∧ v.length ≤ 1000 ∧ Sgs (cs v) ∧ Q (.o (.lst (txs (follF (cs l) (cs v)))))
  | _ => False
def sem_law_pot : Sem := fun rs Q => match rs with
  | [.z (.scr ns), .z (.int k)] => 0 ≤ k ∧ k ≤ 100 ∧ ∀ d, mixOk d → Q (.o d)
  | _ => False
def sem_law_draw : Sem := fun rs Q => match rs with
  | [.p, .z (.int n)] => 0 < n ∧ n < 1000 ∧ ∀ k : Int, 0 ≤ k → k < n → Q (.z (.int k))
  | _ => False
def sem_law_pick : Sem := fun rs Q => match rs with
  | [.p, .z (.str s)] => 1 ≤ s.length ∧ s.length < 1000 ∧ ∀ c ∈ cs s, Q (.z (.str (tx [c])))
  | [.p, .z (.lst ds)] => 1 ≤ ds.length ∧ ds.length < 1000 ∧ ∀ d ∈ ds, Q (.z d)
  | _ => False
def sem_law_views : Sem := fun rs Q => match rs with
  | [.z (.str l), .z (.int d)] => l.length ≤ 4 ∧ 0 ≤ d ∧ d ≤ 3 ∧ Q (.o (.lst (txs (viewsF (cs l) d.toNat))))
  | _ => False
def sem_law_thens : Sem := fun rs Q => match rs with
  | [.z (.str l), .z (.str v)] => l.length ≤ 4 ∧ v.length ≤ 1000 ∧ Sgs (cs v) ∧ Q (.o (.lst (txs (follF (cs l) (cs v)))))
  | _ => False
def sem_law_signs : Sem := fun rs Q => match rs with
  | [.p] => ∀ l : Str, GoodL (cs l) → Q (.z (.str l))
  | _ => False
def sem_law_seen : Sem := fun rs Q => match rs with
  | [.z (.str v), .z (.int p), .z (.int d)] => v.length ≤ 1000 ∧ 0 ≤ p ∧ 0 ≤ d ∧ Q (.z (.str (tx (seenF (cs v) p.toNat d.toNat))))
  | _ => False
def sem_law_many : Sem := fun rs Q => match rs with
  | [.z (.int n), .z (.int d)] => 0 ≤ n ∧ n ≤ 4 ∧ 0 ≤ d ∧ d ≤ 3 ∧ Q (.z (.int (manyF n.toNat d.toNat : Nat)))
  | _ => False
def sem_law_rows_right : Sem := fun rs Q => match rs with
  | [.p, .z (.str l), .z (.int d)] => GoodL (cs l) ∧ 0 ≤ d ∧ d ≤ 3 ∧ Q (.z (.bl true))
  | _ => False
def sem_law_right : Sem := fun rs Q => match rs with
  | [.p] => Q (.z (.bl true))
  | _ => False
def semlaw : Sem := fun rs Q => match rs with
  | [.z (.scr ns)] => ns.length ≤ 63 ∧ Q (.z (.bl true))
  | _ => False
def sem_law : Sem := semlaw
end Dl
set_option autoImplicit false
set_option Elab.async false
set_option linter.all false
set_option maxRecDepth 100000
set_option maxHeartbeats 4000000
namespace Dl
open PySem PySem.Spec PyProof.Rows L2 LamX
def t_law_right (w : World) : TDS := (dSeq (dSet 1 (dCall sem_law_signs (aCons (dVar 0) aNil)))
    (dSeq (dFor (dRange1 (dC (.int 4))) (gdName 2) (dSeq (dPar 3 4 (aCons (dCall sem_law_views (aCons (dVar 1) (aCons (dVar 2) aNil))) (aCons (dCall sem_windows (aCons (dVar 1) (aCons (dVar 2) aNil))) aNil)))
    (dSeq (dIfS (dOr (dTest (d2 fNe (dVar 4) (dVar 3))) (dOr (dTest (d2 fNe (dLenSet (dVar 4)) (dCB fLen (aCons (dVar 4) aNil)))) (dTest (d2 fNe (dCB fLen (aCons (dVar 4) aNil)) (dCall sem_law_many (aCons (dCB fLen (aCons (dVar 1) aNil)) (aCons (dVar 2) aNil))))))) (dRet (dC (.bl false))) dNext)
    (dSeq (dFor (dIter (dVar 3)) (gdName 5) (dSeq (dSet 4 (dCall sem_following (aCons (dVar 1) (aCons (dVar 2) (aCons (dVar 5) aNil)))))
    (dSeq (dIfS (dTest (d2 fNe (dVar 4) (dCall sem_law_thens (aCons (dVar 1) (aCons (dVar 5) aNil))))) (dRet (dC (.bl false))) dNext)
    (dSeq (dExpr (dMut "list" 4 fAppend (aCons (dC (.str "x")) aNil)))
    (dIfS (dTest (d2 fNe (dCall sem_following (aCons (dVar 1) (aCons (dVar 2) (aCons (dVar 5) aNil)))) (dCall sem_law_thens (aCons (dVar 1) (aCons (dVar 5) aNil))))) (dRet (dC (.bl false))) dNext)))))
    (dSeq (dSet 4 (dCall sem_windows (aCons (dVar 1) (aCons (dVar 2) aNil))))
    (dSeq (dExpr (dMut "list" 4 fClear aNil))
    (dIfS (dOr (dTest (d2 fNe (dCall sem_windows (aCons (dVar 1) (aCons (dVar 2) aNil))) (dVar 3))) (dNot (dTest (dCall sem_law_rows_right (aCons (dVar 0) (aCons (dVar 1) (aCons (dVar 2) aNil))))))) (dRet (dC (.bl false))) dNext)))))))
    (dRet (dAndV (d2 fEq (dCall sem_windows (aCons (dC (.str "ab")) (aCons (dC (.int 1)) aNil))) (dLst (aCons (dC (.str ".")) (aCons (dC (.str "a")) (aCons (dC (.str "b")) aNil))))) (d2 fEq (dCall sem_following (aCons (dC (.str "ab")) (aCons (dC (.int 1)) (aCons (dC (.str "b")) aNil)))) (dLst (aCons (dC (.str ".")) (aCons (dC (.str "a")) (aCons (dC (.str "b")) aNil)))))))))
theorem p_law_right {P : Program} {w : World} {K : PySem.W.Frag} {mg : Str → Option Value} {base : Heap} {f : Addr} {cdv : Value} {A : Around} {outer : List Env} {s : Shared} {H : Hp} {E : XK} (hr : Room 6 (A.deeper (envOfC "_law_right" (defScope s_law_right) s.heap.objs.size f cdv))) (B : Bi mg) (D__law_many : DefD P w K mg base 1 "_law_many" ["_law_many_here", "_law_far"] sem_law_many) (D__law_rows_right : DefD P w K mg base 6 "_law_rows_right" ["_law_pot_here", "_law_signs_here", "_law_far"] sem_law_rows_right) (D__law_signs : DefD P w K mg base 3 "_law_signs" ["_law_pot_here"] sem_law_signs) (D__law_thens : DefD P w K mg base 1 "_law_thens" ["_law_signs_here", "_law_view"] sem_law_thens) (D__law_views : DefD P w K mg base 1 "_law_views" ["_law_signs_here", "_law_far"] sem_law_views) (D_following : DefD P w K mg base 5 "following" ["letters", "d", "window"] sem_following) (D_windows : DefD P w K mg base 5 "windows" ["letters", "d"] sem_windows) :
    PDSs (cxOf CX0 P w K mg base N_law_right "_law_right" (defScope s_law_right) f cdv A outer s H E).nox (defBody s_law_right) (t_law_right w) := by
  have hu := hu_r hr
  unfold t_law_right
  exact (pds_cons (pd_set (i := 1) sc_law_right.nd rfl (Or.inl rfl) (pd_callD D__law_signs hr (by decide) (by rfl) (by exact (pda_cons (pd_var 0) pda_nil))) (hl := by show 1 < N_law_right.length; decide))
    (pds_cons (pd_for (ss := [2]) PassesOwn.never (by rfl) (by exact (pdi_range1 (by rfl) B.n_range pd_int)) (pdg_name (i := 2) sc_law_right.nd rfl (Or.inl rfl) (hl := by show 2 < N_law_right.length; decide)) (pds_cons (pd_par (i := 3) (j := 4) (by rfl) sc_law_right.nd rfl rfl (by decide) (by rfl) (by rfl) (by exact (pda_cons (pd_callD D__law_views hr (by decide) (by rfl) (by exact (pda_cons (pd_var 1) (pda_cons (pd_var 2) pda_nil)))) (pda_cons (pd_callD D_windows hr (by decide) (by rfl) (by exact (pda_cons (pd_var 1) (pda_cons (pd_var 2) pda_nil)))) pda_nil))) (by rfl) (li := by show 3 < N_law_right.length; decide) (lj := by show 4 < N_law_right.length; decide))
    (pds_cons (pd_if (PW.pt (pdw_or (pdt_cmp (op_neD (hu_e hu)) o2_ne (pd_var 4) (pd_var 3) (nomark _)) (pdw_or (pdt_cmp (op_neD (hu_e hu)) o2_ne (pd_lenSet (by rfl) (by rfl) B.n_len (by rfl) B.n_set (pd_var 4)) (pd_callB call_lenA on_len (by rfl) B.n_len (by decide +kernel) (by exact (pda_cons (pd_var 4) pda_nil))) (nomark _)) (pdw_or1 (pdt_cmp (op_neD (hu_e hu)) o2_ne (pd_callB call_lenA on_len (by rfl) B.n_len (by decide +kernel) (by exact (pda_cons (pd_var 4) pda_nil))) (pd_callD D__law_many hr (by decide) (by rfl) (by exact (pda_cons (pd_callB call_lenA on_len (by rfl) B.n_len (by decide +kernel) (by exact (pda_cons (pd_var 1) pda_nil))) (pda_cons (pd_var 2) pda_nil)))) (nomark _)))))) (pds_one (pd_ret pd_bl)) pds_nil)
    (pds_cons (pd_for (ss := [5]) PassesOwn.never (by rfl) (by exact (pdi_any (pd_var 3))) (pdg_name (i := 5) sc_law_right.nd rfl (Or.inl rfl) (hl := by show 5 < N_law_right.length; decide)) (pds_cons (pd_set (i := 4) sc_law_right.nd rfl (Or.inl rfl) (pd_callD D_following hr (by decide) (by rfl) (by exact (pda_cons (pd_var 1) (pda_cons (pd_var 2) (pda_cons (pd_var 5) pda_nil))))) (hl := by show 4 < N_law_right.length; decide))
    (pds_cons (pd_if (pdt_cmp (op_neD (hu_e hu)) o2_ne (pd_var 4) (pd_callD D__law_thens hr (by decide) (by rfl) (by exact (pda_cons (pd_var 1) (pda_cons (pd_var 5) pda_nil)))) (nomark _)) (pds_one (pd_ret pd_bl)) pds_nil)
    (pds_cons (pd_expr (pd_mut PySem.F.plainAttrs_list PySem.F.slot_list_append PySem.F.type_list_append mt_append om_append (pd_var 4) (by exact (pda_cons pd_str pda_nil))))
    (pds_one (pd_if (pdt_cmp (op_neD (hu_e hu)) o2_ne (pd_callD D_following hr (by decide) (by rfl) (by exact (pda_cons (pd_var 1) (pda_cons (pd_var 2) (pda_cons (pd_var 5) pda_nil))))) (pd_callD D__law_thens hr (by decide) (by rfl) (by exact (pda_cons (pd_var 1) (pda_cons (pd_var 5) pda_nil)))) (nomark _)) (pds_one (pd_ret pd_bl)) pds_nil))))))
    (pds_cons (pd_set (i := 4) sc_law_right.nd rfl (Or.inl rfl) (pd_callD D_windows hr (by decide) (by rfl) (by exact (pda_cons (pd_var 1) (pda_cons (pd_var 2) pda_nil)))) (hl := by show 4 < N_law_right.length; decide))
    (pds_cons (pd_expr (pd_mut0 PySem.F.plainAttrs_list PySem.F.slot_list_clear PySem.F.type_list_clear mt_clear om_clear (pd_var 4)))
    (pds_one (pd_if (PW.pt (pdw_or (pdt_cmp (op_neD (hu_e hu)) o2_ne (pd_callD D_windows hr (by decide) (by rfl) (by exact (pda_cons (pd_var 1) (pda_cons (pd_var 2) pda_nil)))) (pd_var 3) (nomark _)) (pdw_or1 (pdt_not (pdt_val (pd_callD D__law_rows_right hr (by decide) (by rfl) (by exact (pda_cons (pd_var 0) (pda_cons (pd_var 1) (pda_cons (pd_var 2) pda_nil)))))))))) (pds_one (pd_ret pd_bl)) pds_nil))))))))
    (pds_one (pd_ret (pd_and (pd_cmp (op_eqD (hu_e hu)) o2_eq (pd_callD D_windows hr (by decide) (by rfl) (by exact (pda_cons pd_str (pda_cons pd_int pda_nil)))) (pd_lst (by exact (pda_cons pd_str (pda_cons pd_str (pda_cons pd_str pda_nil))))) (nomark _)) (pd_one (pd_cmp (op_eqD (hu_e hu)) o2_eq (pd_callD D_following hr (by decide) (by rfl) (by exact (pda_cons pd_str (pda_cons pd_int (pda_cons pd_str pda_nil))))) (pd_lst (by exact (pda_cons pd_str (pda_cons pd_str (pda_cons pd_str pda_nil))))) (nomark _))))))))
def t_law (w : World) : TDS := (dRet (dCB fAll (aCons (dComp (.lst []) (dRange1 (dCB fMax (aCons (dC (.int 1)) (aCons (dCB fMin (aCons (dC (.int 6)) (aCons (dCB fLen (aCons (dVar 0) aNil)) aNil))) aNil)))) (gdName 1) dYes (bApp (dCallP sem_law_right (dCall sem_law_pot (aCons (dVar 0) (aCons (dVar 1) aNil))) aNil)) (([("_law_cell", 1)] : List (Str × Nat)).map (·.2))) aNil)))
theorem p_law {P : Program} {w : World} {K : PySem.W.Frag} {mg : Str → Option Value} {base : Heap} {f : Addr} {cdv : Value} {A : Around} {outer : List Env} {s : Shared} {H : Hp} {E : XK} (hr : Room 7 (A.deeper (envOfC "law" (defScope s_law) s.heap.objs.size f cdv))) (B : Bi mg) (D__law_pot : DefD P w K mg base 1 "_law_pot" ["_law_script", "_law_cell"] sem_law_pot) (D__law_right : DefD P w K mg base 7 "_law_right" ["_law_pot_here"] sem_law_right) :
    PDSs (cxOf CX0 P w K mg base N_law "law" (defScope s_law) f cdv A outer s H E).nox (defBody s_law) (t_law w) := by
  have hu := hu_r hr
  unfold t_law
  exact (pds_one (pd_ret (pd_callB (cr_all (by rfl)) on_all (by rfl) B.n_all (by decide +kernel) (by exact (pda_cons (pd_coL (own := [("_law_cell", 1)]) (ws := []) (ss := [1]) (tg := (gdName 1)) (tt := dYes) (tb := (bApp (dCallP sem_law_right (dCall sem_law_pot (aCons (dVar 0) (aCons (dVar 1) aNil))) aNil))) (by rfl) sc_law.nd (by exact (pdi_range1 (by rfl) B.n_range (pd_callB (call_maxA (by rfl)) on_max (by rfl) B.n_max (by decide +kernel) (by exact (pda_cons pd_int (pda_cons (pd_callB (call_minA (by rfl)) on_min (by rfl) B.n_min (by decide +kernel) (by exact (pda_cons pd_int (pda_cons (pd_callB call_lenA on_len (by rfl) B.n_len (by decide +kernel) (by exact (pda_cons (pd_var 0) pda_nil))) pda_nil)))) pda_nil)))))) (blkOk_by (own := [("_law_cell", 1)]) (N := N_law) (sc := defScope s_law) (by decide +kernel)) (by decide) (by decide) (fun _ _ _ _ _ => (by exact (pdg_name (i := 1) sc_law.nd rfl (Or.inl rfl) (hl := by show 1 < N_law.length; decide)))) (fun _ _ _ _ _ => (by exact pdts_nil)) (fun _ _ _ _ _ D => (by exact (bd_app rfl (pd_callDP D__law_right hr (by decide) (by rfl) (pd_callD D__law_pot hr (by decide) (by rfl) (by exact (pda_cons (pd_var 0) (pda_cons (pd_var 1) pda_nil)))) (by exact pda_nil)))))) pda_nil)))))
end Dl
set_option autoImplicit false
set_option Elab.async false
set_option linter.all false
set_option maxRecDepth 100000
set_option maxHeartbeats 4000000
namespace Dl
open PySem PySem.Spec PyProof.Rows L2 LamX
def t_law_draw (w : World) : TDS := (dSeq (dIfS (dTest (d2 fGt (dPotIx 0 0) (dC (.int 0)))) (dSeq (dAsg (dCB fDivmodW (aCons (dPotIx 0 0) (aCons (dVar 1) aNil))) (gdTup 2 (gdCons (gdPot 0 0) (gdCons (gdName 2) gdNil))))
    (dRet (dVar 2))) dNext)
    (dSeq (dAsg (d2 fMod (dCB fInt (aCons (d2 fAdd (d2 fMul (dPotIx 0 1) (dC (.int 48271))) (dC (.int 12343))) aNil)) (dC (.int 2147483629))) (gdPot 0 1))
    (dRet (d2 fMod (dCB fInt (aCons (d2 fFdiv (d2 fMod (dCB fInt (aCons (d2 fMul (dPotIx 0 1) (dPotIx 0 1)) aNil)) (dC (.int 2147483579))) (dC (.int 13))) aNil)) (dVar 1)))))
theorem p_law_draw {P : Program} {w : World} {K : PySem.W.Frag} {mg : Str → Option Value} {base : Heap} {f : Addr} {cdv : Value} {A : Around} {outer : List Env} {s : Shared} {H : Hp} {E : XK} (hr : Room 0 (A.deeper (envOfC "_law_draw" (defScope s_law_draw) s.heap.objs.size f cdv))) (B : Bi mg) :
    PDSs (cxOf CX0 P w K mg base N_law_draw "_law_draw" (defScope s_law_draw) f cdv A outer s H E).nox (defBody s_law_draw) (t_law_draw w) := by
  have hu := hu_r hr
  unfold t_law_draw
  exact (pds_cons (pd_if (pdt_cmp op_gtA o2_gt (pd_potIx 0) pd_int (nomark _)) (pds_cons (pd_asg (ss := [2]) (pd_callB call_divmodW on_divmodW (by rfl) B.n_divmod (by decide +kernel) (by exact (pda_cons (pd_potIx 0) (pda_cons (pd_var 1) pda_nil)))) (pdg_tup (n := 2) (by rfl) (pdgs_cons (pdg_pot 0) (pdgs_cons (pdg_name (i := 2) sc_law_draw.nd rfl (Or.inl rfl) (hl := by show 2 < N_law_draw.length; decide)) pdgs_nil))))
    (pds_one (pd_ret (pd_var 2)))) pds_nil)
    (pds_cons (pd_asg (ss := []) (pd_op op_mod o2_mod (pd_callTy call_int1 on_int (by rfl) B.n_int (by decide +kernel) (by exact (pda_cons (pd_op op_addA o2_add (pd_op op_mulA o2_mul (pd_potIx 0) pd_int) pd_int) pda_nil))) pd_int) (pdg_pot 0))
    (pds_one (pd_ret (pd_op op_mod o2_mod (pd_callTy call_int1 on_int (by rfl) B.n_int (by decide +kernel) (by exact (pda_cons (pd_op op_fdivW o2_fdiv (pd_op op_mod o2_mod (pd_callTy call_int1 on_int (by rfl) B.n_int (by decide +kernel) (by exact (pda_cons (pd_op op_mulA o2_mul (pd_potIx 0) (pd_potIx 0)) pda_nil))) pd_int) pd_int) pda_nil))) (pd_var 1))))))
def t_law_pick (w : World) : TDS := (dRet (d2 fIx (dVar 1) (dCall sem_law_draw (aCons (dVar 0) (aCons (dCB fLen (aCons (dVar 1) aNil)) aNil)))))
theorem p_law_pick {P : Program} {w : World} {K : PySem.W.Frag} {mg : Str → Option Value} {base : Heap} {f : Addr} {cdv : Value} {A : Around} {outer : List Env} {s : Shared} {H : Hp} {E : XK} (hr : Room 1 (A.deeper (envOfC "_law_pick" (defScope s_law_pick) s.heap.objs.size f cdv))) (B : Bi mg) (D__law_draw : DefD P w K mg base 1 "_law_draw" ["_law_pot_here", "_law_many_here"] sem_law_draw) :
    PDSs (cxOf CX0 P w K mg base N_law_pick "_law_pick" (defScope s_law_pick) f cdv A outer s H E).nox (defBody s_law_pick) (t_law_pick w) := by
  have hu := hu_r hr
  unfold t_law_pick
  exact (pds_one (pd_ret (pd_ix (hu_d hu) (pd_var 1) (pd_callD D__law_draw hr (by decide) (by rfl) (by exact (pda_cons (pd_var 0) (pda_cons (pd_callB call_lenA on_len (by rfl) B.n_len (by decide +kernel) (by exact (pda_cons (pd_var 1) pda_nil))) pda_nil)))))))
def t_law_views (w : World) : TDS := (dSeq (dPar 2 3 (aCons (dLst (aCons (dC (.str "")) aNil)) (aCons (dLst aNil) aNil)))
    (dSeq (dFor (dRange1 (dVar 1)) (gdName 4) (dSeq (dExpr (dMut "list" 3 fExtend (aCons (dComp (.lst []) (dIter (dVar 2)) (gdName 5) dYes (bApp (d2 fAdd (dVar 5) (dC (.str ".")))) (([("_law_line", 5)] : List (Str × Nat)).map (·.2))) aNil)))
    (dSeq (dSet 6 (dLst aNil))
    (dSeq (dFor (dIter (dVar 2)) (gdName 5) (dExpr (dMut "list" 6 fExtend (aCons (dComp (.lst []) (dIter (dVar 0)) (gdName 7) dYes (bApp (d2 fAdd (dVar 5) (dVar 7))) (([("_law_sign", 7)] : List (Str × Nat)).map (·.2))) aNil))))
    (dSet 2 (dVar 6))))))
    (dRet (d2 fAdd (dVar 3) (dVar 2)))))
theorem p_law_views {P : Program} {w : World} {K : PySem.W.Frag} {mg : Str → Option Value} {base : Heap} {f : Addr} {cdv : Value} {A : Around} {outer : List Env} {s : Shared} {H : Hp} {E : XK} (hr : Room 0 (A.deeper (envOfC "_law_views" (defScope s_law_views) s.heap.objs.size f cdv))) (B : Bi mg) :
    PDSs (cxOf CX0 P w K mg base N_law_views "_law_views" (defScope s_law_views) f cdv A outer s H E).nox (defBody s_law_views) (t_law_views w) := by
  have hu := hu_r hr
  unfold t_law_views
  exact (pds_cons (pd_par (i := 2) (j := 3) (by rfl) sc_law_views.nd rfl rfl (by decide) (by rfl) (by rfl) (by exact (pda_cons (pd_lst (by exact (pda_cons pd_str pda_nil))) (pda_cons (pd_lst (by exact pda_nil)) pda_nil))) (by rfl) (li := by show 2 < N_law_views.length; decide) (lj := by show 3 < N_law_views.length; decide))
    (pds_cons (pd_for (ss := [4]) PassesOwn.never (by rfl) (by exact (pdi_range1 (by rfl) B.n_range (pd_var 1))) (pdg_name (i := 4) sc_law_views.nd rfl (Or.inl rfl) (hl := by show 4 < N_law_views.length; decide)) (pds_cons (pd_expr (pd_mut PySem.F.plainAttrs_list PySem.F.slot_list_extend PySem.F.type_list_extend mt_extend om_extend (pd_var 3) (by exact (pda_cons (pd_coL (own := [("_law_line", 5)]) (ws := []) (ss := [5]) (tg := (gdName 5)) (tt := dYes) (tb := (bApp (d2 fAdd (dVar 5) (dC (.str "."))))) (by rfl) sc_law_views.nd (by exact (pdi_any (pd_var 2))) (blkOk_by (own := [("_law_line", 5)]) (N := N_law_views) (sc := defScope s_law_views) (by decide +kernel)) (by decide) (by decide) (fun _ _ _ _ _ => (by exact (pdg_name (i := 5) sc_law_views.nd rfl (Or.inl rfl) (hl := by show 5 < N_law_views.length; decide)))) (fun _ _ _ _ _ => (by exact pdts_nil)) (fun _ _ _ _ _ D => (by exact (bd_app rfl (pd_op op_addA o2_add (pd_var 5) pd_str))))) pda_nil))))
    (pds_cons (pd_set (i := 6) sc_law_views.nd rfl (Or.inl rfl) (pd_lst (by exact pda_nil)) (hl := by show 6 < N_law_views.length; decide))
    (pds_cons (pd_for (ss := [5]) PassesOwn.never (by rfl) (by exact (pdi_any (pd_var 2))) (pdg_name (i := 5) sc_law_views.nd rfl (Or.inr rfl) (hl := by show 5 < N_law_views.length; decide)) (pds_one (pd_expr (pd_mut PySem.F.plainAttrs_list PySem.F.slot_list_extend PySem.F.type_list_extend mt_extend om_extend (pd_var 6) (by exact (pda_cons (pd_coL (own := [("_law_sign", 7)]) (ws := []) (ss := [7]) (tg := (gdName 7)) (tt := dYes) (tb := (bApp (d2 fAdd (dVar 5) (dVar 7)))) (by rfl) sc_law_views.nd (by exact (pdi_any (pd_var 0))) (blkOk_by (own := [("_law_sign", 7)]) (N := N_law_views) (sc := defScope s_law_views) (by decide +kernel)) (by decide) (by decide) (fun _ _ _ _ _ => (by exact (pdg_name (i := 7) sc_law_views.nd rfl (Or.inl rfl) (hl := by show 7 < N_law_views.length; decide)))) (fun _ _ _ _ _ => (by exact pdts_nil)) (fun _ _ _ _ _ D => (by exact (bd_app rfl (pd_op op_addA o2_add (pd_var 5) (pd_var 7)))))) pda_nil))))))
    (pds_one (pd_set (i := 2) sc_law_views.nd rfl (Or.inl rfl) (pd_var 6) (hl := by show 2 < N_law_views.length; decide)))))))
    (pds_one (pd_ret (pd_op op_addA o2_add (pd_var 3) (pd_var 2))))))
def t_law_thens (w : World) : TDS := (dSeq (dIfS (dTest (d2 (fInB false) (dVar 1) (dTup (aCons (dC (.str "")) (aCons (dC (.str ".")) aNil))))) (dRet (dIf (dTest (d2 fEq (dVar 1) (dC (.str "")))) (dLst (aCons (dC (.str "")) aNil)) (dLst aNil))) dNext)
    (dSeq (dIfS (dTest (d2 fEq (d2 fIx (dVar 1) (d1 fNeg (dC (.int 1)))) (dC (.str ".")))) (dRet (dLst (aCons (dSl (dVar 1) (oSome (dC (.int 1))) oNone) aNil))) dNext)
    (dRet (d2 fAdd (dLst (aCons (d2 fAdd (dSl (dVar 1) (oSome (dC (.int 1))) oNone) (dC (.str "."))) aNil)) (dComp (.lst []) (dIter (dVar 0)) (gdName 2) dYes (bApp (d2 fAdd (dSl (dVar 1) (oSome (dC (.int 1))) oNone) (dVar 2))) (([("_law_sign", 2)] : List (Str × Nat)).map (·.2)))))))
theorem p_law_thens {P : Program} {w : World} {K : PySem.W.Frag} {mg : Str → Option Value} {base : Heap} {f : Addr} {cdv : Value} {A : Around} {outer : List Env} {s : Shared} {H : Hp} {E : XK} (hr : Room 0 (A.deeper (envOfC "_law_thens" (defScope s_law_thens) s.heap.objs.size f cdv))) (B : Bi mg) :
    PDSs (cxOf CX0 P w K mg base N_law_thens "_law_thens" (defScope s_law_thens) f cdv A outer s H E).nox (defBody s_law_thens) (t_law_thens w) := by
  have hu := hu_r hr
  unfold t_law_thens
  exact (pds_cons (pd_if (pdt_cmp (op_inA (hu_i hu)) (o2_in (neg := false)) (pd_var 1) (pd_tup (by exact (pda_cons pd_str (pda_cons pd_str pda_nil)))) (by with_unfolding_all rfl)) (pds_one (pd_ret (pd_ifExp (pdt_cmp (op_eqD (hu_e hu)) o2_eq (pd_var 1) pd_str (nomark _)) (pd_lst (by exact (pda_cons pd_str pda_nil))) (pd_lst (by exact pda_nil))))) pds_nil)
    (pds_cons (pd_if (pdt_cmp (op_eqD (hu_e hu)) o2_eq (pd_ix (hu_d hu) (pd_var 1) (pd_un un_neg o1_neg pd_int)) pd_str (nomark _)) (pds_one (pd_ret (pd_lst (by exact (pda_cons (pd_sl (pd_var 1) (pdo_some pd_int) pdo_none) pda_nil))))) pds_nil)
    (pds_one (pd_ret (pd_op op_addA o2_add (pd_lst (by exact (pda_cons (pd_op op_addA o2_add (pd_sl (pd_var 1) (pdo_some pd_int) pdo_none) pd_str) pda_nil))) (pd_coL (own := [("_law_sign", 2)]) (ws := []) (ss := [2]) (tg := (gdName 2)) (tt := dYes) (tb := (bApp (d2 fAdd (dSl (dVar 1) (oSome (dC (.int 1))) oNone) (dVar 2)))) (by rfl) sc_law_thens.nd (by exact (pdi_any (pd_var 0))) (blkOk_by (own := [("_law_sign", 2)]) (N := N_law_thens) (sc := defScope s_law_thens) (by decide +kernel)) (by decide) (by decide) (fun _ _ _ _ _ => (by exact (pdg_name (i := 2) sc_law_thens.nd rfl (Or.inl rfl) (hl := by show 2 < N_law_thens.length; decide)))) (fun _ _ _ _ _ => (by exact pdts_nil)) (fun _ _ _ _ _ D => (by exact (bd_app rfl (pd_op op_addA o2_add (pd_sl (pd_var 1) (pdo_some pd_int) pdo_none) (pd_var 2)))))))))))
def t_law_signs (w : World) : TDS := (dSeq (dSet 1 (dLst aNil))
    (dSeq (dFor (dRange1 (d2 fAdd (dC (.int 1)) (dCall sem_law_draw (aCons (dVar 0) (aCons (dC (.int 4)) aNil))))) (gdName 2) (dSeq (dSet 3 (dComp (.lst []) (dIter (dC (.str "abcdefghijklmnopqrstuvwxyz"))) (gdName 4) (dTest (d2 (fInB true) (dVar 4) (dVar 1))) (bApp (dVar 4)) (([("_law_sign", 4)] : List (Str × Nat)).map (·.2))))
    (dExpr (dMut "list" 1 fAppend (aCons (dCall sem_law_pick (aCons (dVar 0) (aCons (dVar 3) aNil))) aNil)))))
    (dRet (dRd "str" fJoin (dC (.str "")) (aCons (dCB (fSorted3 w) (aCons (dVar 1) aNil)) aNil)))))
theorem p_law_signs {P : Program} {w : World} {K : PySem.W.Frag} {mg : Str → Option Value} {base : Heap} {f : Addr} {cdv : Value} {A : Around} {outer : List Env} {s : Shared} {H : Hp} {E : XK} (hr : Room 2 (A.deeper (envOfC "_law_signs" (defScope s_law_signs) s.heap.objs.size f cdv))) (B : Bi mg) (D__law_draw : DefD P w K mg base 1 "_law_draw" ["_law_pot_here", "_law_many_here"] sem_law_draw) (D__law_pick : DefD P w K mg base 2 "_law_pick" ["_law_pot_here", "_law_items"] sem_law_pick) :
    PDSs (cxOf CX0 P w K mg base N_law_signs "_law_signs" (defScope s_law_signs) f cdv A outer s H E).nox (defBody s_law_signs) (t_law_signs w) := by
  have hu := hu_r hr
  unfold t_law_signs
  exact (pds_cons (pd_set (i := 1) sc_law_signs.nd rfl (Or.inr rfl) (pd_lst (by exact pda_nil)) (hl := by show 1 < N_law_signs.length; decide))
    (pds_cons (pd_for (ss := [2]) PassesOwn.never (by rfl) (by exact (pdi_range1 (by rfl) B.n_range (pd_op op_addA o2_add pd_int (pd_callD D__law_draw hr (by decide) (by rfl) (by exact (pda_cons (pd_var 0) (pda_cons pd_int pda_nil))))))) (pdg_name (i := 2) sc_law_signs.nd rfl (Or.inl rfl) (hl := by show 2 < N_law_signs.length; decide)) (pds_cons (pd_setCoL (i := 3) (own := [("_law_sign", 4)]) (ws := []) (ss := [4]) (tg := (gdName 4)) (tt := (dTest (d2 (fInB true) (dVar 4) (dVar 1)))) (tb := (bApp (dVar 4))) (by rfl) sc_law_signs.nd rfl (by rfl) (by show 3 < N_law_signs.length; decide) (by rfl) (by rfl) (by decide +kernel) (by exact (pdi_any pd_str)) (blkOk_by (own := [("_law_sign", 4)]) (N := N_law_signs) (sc := defScope s_law_signs) (by decide +kernel)) (by decide) (by decide) (fun _ _ _ _ _ => (by exact (pdg_name (i := 4) sc_law_signs.nd rfl (Or.inl rfl) (hl := by show 4 < N_law_signs.length; decide)))) (fun _ _ _ _ _ => (by exact (pdts_one (pdt_cmp (op_notInA (hu_i hu)) (o2_in (neg := true)) (pd_var 4) (pd_var 1) (by with_unfolding_all rfl))))) (fun _ _ _ _ _ D => (by exact (bd_app rfl (pd_var 4)))))
    (pds_one (pd_expr (pd_mut PySem.F.plainAttrs_list PySem.F.slot_list_append PySem.F.type_list_append mt_append om_append (pd_var 1) (by exact (pda_cons (pd_callD D__law_pick hr (by decide) (by rfl) (by exact (pda_cons (pd_var 0) (pda_cons (pd_var 3) pda_nil)))) pda_nil)))))))
    (pds_one (pd_ret (pd_rd PySem.F.plainAttrs_str PySem.F.slot_str_join PySem.F.type_str_join mt_join (by decide) or_join pd_str (by exact (pda_cons (pd_callB (call_sorted3 hr (by rfl)) on_sorted3 (by rfl) B.n_sorted (by decide +kernel) (by exact (pda_cons (pd_var 1) pda_nil))) pda_nil)))))))
def t_law_seen (w : World) : TDS := (dSeq (dSet 3 (dSl (dVar 0) (oSome (dVar 1)) oNone))
    (dRet (dIf (dTest (d2 fGe (dCB fLen (aCons (dVar 3) aNil)) (dVar 2))) (dSl (dVar 3) oNone (oSome (dVar 2))) (d2 fAdd (dVar 3) (dC (.str "."))))))
theorem p_law_seen {P : Program} {w : World} {K : PySem.W.Frag} {mg : Str → Option Value} {base : Heap} {f : Addr} {cdv : Value} {A : Around} {outer : List Env} {s : Shared} {H : Hp} {E : XK} (hr : Room 0 (A.deeper (envOfC "_law_seen" (defScope s_law_seen) s.heap.objs.size f cdv))) (B : Bi mg) :
    PDSs (cxOf CX0 P w K mg base N_law_seen "_law_seen" (defScope s_law_seen) f cdv A outer s H E).nox (defBody s_law_seen) (t_law_seen w) := by
  have hu := hu_r hr
  unfold t_law_seen
  exact (pds_cons (pd_set (i := 3) sc_law_seen.nd rfl (Or.inl rfl) (pd_sl (pd_var 0) (pdo_some (pd_var 1)) pdo_none) (hl := by show 3 < N_law_seen.length; decide))
    (pds_one (pd_ret (pd_ifExp (pdt_cmp op_geA o2_ge (pd_callB call_lenA on_len (by rfl) B.n_len (by decide +kernel) (by exact (pda_cons (pd_var 3) pda_nil))) (pd_var 2) (nomark _)) (pd_sl (pd_var 3) pdo_none (pdo_some (pd_var 2))) (pd_op op_addA o2_add (pd_var 3) pd_str)))))
def t_law_many (w : World) : TDS := (dSeq (dSet 2 (dC (.int 1)))
    (dSeq (dFor (dRange1 (dVar 1)) (gdName 3) (dSet 2 (d2 fAdd (d2 fMul (dVar 2) (dVar 0)) (dC (.int 1)))))
    (dRet (dVar 2))))
theorem p_law_many {P : Program} {w : World} {K : PySem.W.Frag} {mg : Str → Option Value} {base : Heap} {f : Addr} {cdv : Value} {A : Around} {outer : List Env} {s : Shared} {H : Hp} {E : XK} (hr : Room 0 (A.deeper (envOfC "_law_many" (defScope s_law_many) s.heap.objs.size f cdv))) (B : Bi mg) :
    PDSs (cxOf CX0 P w K mg base N_law_many "_law_many" (defScope s_law_many) f cdv A outer s H E).nox (defBody s_law_many) (t_law_many w) := by
  have hu := hu_r hr
  unfold t_law_many
  exact (pds_cons (pd_set (i := 2) sc_law_many.nd rfl (Or.inl rfl) pd_int (hl := by show 2 < N_law_many.length; decide))
    (pds_cons (pd_for (ss := [3]) PassesOwn.never (by rfl) (by exact (pdi_range1 (by rfl) B.n_range (pd_var 1))) (pdg_name (i := 3) sc_law_many.nd rfl (Or.inl rfl) (hl := by show 3 < N_law_many.length; decide)) (pds_one (pd_set (i := 2) sc_law_many.nd rfl (Or.inl rfl) (pd_op op_addA o2_add (pd_op op_mulA o2_mul (pd_var 2) (pd_var 0)) pd_int) (hl := by show 2 < N_law_many.length; decide))))
    (pds_one (pd_ret (pd_var 2)))))
def t_law_rows_right (w : World) : TDS := (dSeq (dSet 3 (dRd "str" fJoin (dC (.str "")) (aCons (dComp (.lst []) (dRange1 (dCall sem_law_draw (aCons (dVar 0) (aCons (dC (.int 10)) aNil)))) (gdName 5) dYes (bApp (dCall sem_law_pick (aCons (dVar 0) (aCons (dVar 1) aNil)))) (([("_law_turn", 5)] : List (Str × Nat)).map (·.2))) aNil)))
    (dSeq (dSet 4 (dComp (.lst []) (dRange1 (d2 fAdd (dCB fLen (aCons (dVar 3) aNil)) (dC (.int 1)))) (gdName 6) dYes (bApp (dCall sem_law_seen (aCons (dVar 3) (aCons (dVar 6) (aCons (dVar 2) aNil))))) (([("_law_place", 6)] : List (Str × Nat)).map (·.2))))
    (dSeq (dIfS (dNot (dTest (dCB fAll (aCons (dComp (.lst []) (dIter (dVar 4)) (gdName 7) dYes (bApp (d2 (fInB false) (dVar 7) (dCall sem_windows (aCons (dVar 1) (aCons (dVar 2) aNil))))) (([("_law_view", 7)] : List (Str × Nat)).map (·.2))) aNil)))) (dRet (dC (.bl false))) dNext)
    (dSeq (dIfS (dAnd (dTest (d2 fGt (dVar 2) (dC (.int 0)))) (dOr (dTest (d2 fNe (dCall sem_following (aCons (dVar 1) (aCons (dVar 2) (aCons (d2 fIx (dVar 4) (d1 fNeg (dC (.int 1)))) aNil)))) (dLst aNil))) (dTest (d2 fNe (d2 fIx (dVar 4) (d1 fNeg (dC (.int 1)))) (dC (.str ".")))))) (dRet (dC (.bl false))) dNext)
    (dRet (dCB fAll (aCons (dComp (.lst []) (dZip (aCons (dVar 4) (aCons (dSl (dVar 4) (oSome (dC (.int 1))) oNone) aNil))) (gdTup 2 (gdCons (gdName 7) (gdCons (gdName 8) gdNil))) dYes (bApp (d2 (fInB false) (dVar 8) (dCall sem_following (aCons (dVar 1) (aCons (dVar 2) (aCons (dVar 7) aNil)))))) (([("_law_view", 7), ("_law_later", 8)] : List (Str × Nat)).map (·.2))) aNil)))))))
theorem p_law_rows_right {P : Program} {w : World} {K : PySem.W.Frag} {mg : Str → Option Value} {base : Heap} {f : Addr} {cdv : Value} {A : Around} {outer : List Env} {s : Shared} {H : Hp} {E : XK} (hr : Room 5 (A.deeper (envOfC "_law_rows_right" (defScope s_law_rows_right) s.heap.objs.size f cdv))) (B : Bi mg) (D__law_draw : DefD P w K mg base 1 "_law_draw" ["_law_pot_here", "_law_many_here"] sem_law_draw) (D__law_pick : DefD P w K mg base 2 "_law_pick" ["_law_pot_here", "_law_items"] sem_law_pick) (D__law_seen : DefD P w K mg base 1 "_law_seen" ["_law_line", "_law_place", "_law_far"] sem_law_seen) (D_following : DefD P w K mg base 5 "following" ["letters", "d", "window"] sem_following) (D_windows : DefD P w K mg base 5 "windows" ["letters", "d"] sem_windows) :
    PDSs (cxOf CX0 P w K mg base N_law_rows_right "_law_rows_right" (defScope s_law_rows_right) f cdv A outer s H E).nox (defBody s_law_rows_right) (t_law_rows_right w) := by
  have hu := hu_r hr
  unfold t_law_rows_right
  exact (pds_cons (pd_set (i := 3) sc_law_rows_right.nd rfl (Or.inr rfl) (pd_rd PySem.F.plainAttrs_str PySem.F.slot_str_join PySem.F.type_str_join mt_join (by decide) or_join pd_str (by exact (pda_cons (pd_coL (own := [("_law_turn", 5)]) (ws := []) (ss := [5]) (tg := (gdName 5)) (tt := dYes) (tb := (bApp (dCall sem_law_pick (aCons (dVar 0) (aCons (dVar 1) aNil))))) (by rfl) sc_law_rows_right.nd (by exact (pdi_range1 (by rfl) B.n_range (pd_callD D__law_draw hr (by decide) (by rfl) (by exact (pda_cons (pd_var 0) (pda_cons pd_int pda_nil)))))) (blkOk_by (own := [("_law_turn", 5)]) (N := N_law_rows_right) (sc := defScope s_law_rows_right) (by decide +kernel)) (by decide) (by decide) (fun _ _ _ _ _ => (by exact (pdg_name (i := 5) sc_law_rows_right.nd rfl (Or.inl rfl) (hl := by show 5 < N_law_rows_right.length; decide)))) (fun _ _ _ _ _ => (by exact pdts_nil)) (fun _ _ _ _ _ D => (by exact (bd_app rfl (pd_callD D__law_pick hr (by decide) (by rfl) (by exact (pda_cons (pd_var 0) (pda_cons (pd_var 1) pda_nil)))))))) pda_nil))) (hl := by show 3 < N_law_rows_right.length; decide))
    (pds_cons (pd_setCoL (i := 4) (own := [("_law_place", 6)]) (ws := []) (ss := [6]) (tg := (gdName 6)) (tt := dYes) (tb := (bApp (dCall sem_law_seen (aCons (dVar 3) (aCons (dVar 6) (aCons (dVar 2) aNil)))))) (by rfl) sc_law_rows_right.nd rfl (by rfl) (by show 4 < N_law_rows_right.length; decide) (by rfl) (by rfl) (by decide +kernel) (by exact (pdi_range1 (by rfl) B.n_range (pd_op op_addA o2_add (pd_callB call_lenA on_len (by rfl) B.n_len (by decide +kernel) (by exact (pda_cons (pd_var 3) pda_nil))) pd_int))) (blkOk_by (own := [("_law_place", 6)]) (N := N_law_rows_right) (sc := defScope s_law_rows_right) (by decide +kernel)) (by decide) (by decide) (fun _ _ _ _ _ => (by exact (pdg_name (i := 6) sc_law_rows_right.nd rfl (Or.inl rfl) (hl := by show 6 < N_law_rows_right.length; decide)))) (fun _ _ _ _ _ => (by exact pdts_nil)) (fun _ _ _ _ _ D => (by exact (bd_app rfl (pd_callD D__law_seen hr (by decide) (by rfl) (by exact (pda_cons (pd_var 3) (pda_cons (pd_var 6) (pda_cons (pd_var 2) pda_nil)))))))))
    (pds_cons (pd_if (pdt_not (pdt_val (pd_callB (cr_all (by rfl)) on_all (by rfl) B.n_all (by decide +kernel) (by exact (pda_cons (pd_coL (own := [("_law_view", 7)]) (ws := []) (ss := [7]) (tg := (gdName 7)) (tt := dYes) (tb := (bApp (d2 (fInB false) (dVar 7) (dCall sem_windows (aCons (dVar 1) (aCons (dVar 2) aNil)))))) (by rfl) sc_law_rows_right.nd (by exact (pdi_any (pd_var 4))) (blkOk_by (own := [("_law_view", 7)]) (N := N_law_rows_right) (sc := defScope s_law_rows_right) (by decide +kernel)) (by decide) (by decide) (fun _ _ _ _ _ => (by exact (pdg_name (i := 7) sc_law_rows_right.nd rfl (Or.inl rfl) (hl := by show 7 < N_law_rows_right.length; decide)))) (fun _ _ _ _ _ => (by exact pdts_nil)) (fun _ _ _ _ _ D => (by exact (bd_app rfl (pd_cmp (op_inA (hu_i hu)) (o2_in (neg := false)) (pd_var 7) (pd_callD D_windows hr (by decide) (by rfl) (by exact (pda_cons (pd_var 1) (pda_cons (pd_var 2) pda_nil)))) (by with_unfolding_all rfl)))))) pda_nil))))) (pds_one (pd_ret pd_bl)) pds_nil)
    (pds_cons (pd_if (PW.pt (pdw_and (pdt_cmp op_gtA o2_gt (pd_var 2) pd_int (nomark _)) (pdw_and1 (PW.pt (pdw_or (pdt_cmp (op_neD (hu_e hu)) o2_ne (pd_callD D_following hr (by decide) (by rfl) (by exact (pda_cons (pd_var 1) (pda_cons (pd_var 2) (pda_cons (pd_ix (hu_d hu) (pd_var 4) (pd_un un_neg o1_neg pd_int)) pda_nil))))) (pd_lst (by exact pda_nil)) (nomark _)) (pdw_or1 (pdt_cmp (op_neD (hu_e hu)) o2_ne (pd_ix (hu_d hu) (pd_var 4) (pd_un un_neg o1_neg pd_int)) pd_str (nomark _)))))))) (pds_one (pd_ret pd_bl)) pds_nil)
    (pds_one (pd_ret (pd_callB (cr_all (by rfl)) on_all (by rfl) B.n_all (by decide +kernel) (by exact (pda_cons (pd_coL (own := [("_law_view", 7), ("_law_later", 8)]) (ws := []) (ss := [7, 8]) (tg := (gdTup 2 (gdCons (gdName 7) (gdCons (gdName 8) gdNil)))) (tt := dYes) (tb := (bApp (d2 (fInB false) (dVar 8) (dCall sem_following (aCons (dVar 1) (aCons (dVar 2) (aCons (dVar 7) aNil))))))) (by rfl) sc_law_rows_right.nd (by exact (pdi_zip (by rfl) B.n_zip (by exact (pda_cons (pd_var 4) (pda_cons (pd_sl (pd_var 4) (pdo_some pd_int) pdo_none) pda_nil))))) (blkOk_by (own := [("_law_view", 7), ("_law_later", 8)]) (N := N_law_rows_right) (sc := defScope s_law_rows_right) (by decide +kernel)) (by decide) (by decide) (fun _ _ _ _ _ => (by exact (pdg_tup (n := 2) (by rfl) (pdgs_cons (pdg_name (i := 7) sc_law_rows_right.nd rfl (Or.inl rfl) (hl := by show 7 < N_law_rows_right.length; decide)) (pdgs_cons (pdg_name (i := 8) sc_law_rows_right.nd rfl (Or.inl rfl) (hl := by show 8 < N_law_rows_right.length; decide)) pdgs_nil))))) (fun _ _ _ _ _ => (by exact pdts_nil)) (fun _ _ _ _ _ D => (by exact (bd_app rfl (pd_cmp (op_inA (hu_i hu)) (o2_in (neg := false)) (pd_var 8) (pd_callD D_following hr (by decide) (by rfl) (by exact (pda_cons (pd_var 1) (pda_cons (pd_var 2) (pda_cons (pd_var 7) pda_nil))))) (by with_unfolding_all rfl)))))) pda_nil)))))))))
end Dl
set_option autoImplicit false
set_option Elab.async false
set_option linter.all false
set_option maxRecDepth 100000
set_option maxHeartbeats 4000000
namespace Dl
open PySem PySem.Spec PyProof.Rows L2 LamX
def t_windows (w : World) : TDS := (dSeq (dExpr (dCall sem_check_letters (aCons (dVar 0) aNil)))
    (dSeq (dExpr (dCall sem_check_ahead (aCons (dVar 1) aNil)))
    (dRet (dCall sem_all_windows (aCons (dVar 0) (aCons (dVar 1) aNil))))))
theorem p_windows {P : Program} {w : World} {K : PySem.W.Frag} {mg : Str → Option Value} {base : Heap} {f : Addr} {cdv : Value} {A : Around} {outer : List Env} {s : Shared} {H : Hp} {E : XK} (hr : Room 4 (A.deeper (envOfC "windows" (defScope s_windows) s.heap.objs.size f cdv))) (B : Bi mg) (D_all_windows : DefD P w K mg base 2 "all_windows" ["letters", "d"] sem_all_windows) (D_check_ahead : DefD P w K mg base 4 "check_ahead" ["d"] sem_check_ahead) (D_check_letters : DefD P w K mg base 3 "check_letters" ["letters"] sem_check_letters) :
    PDSs (cxOf CX0 P w K mg base N_windows "windows" (defScope s_windows) f cdv A outer s H E).nox (defBody s_windows) (t_windows w) := by
  have hu := hu_r hr
  unfold t_windows
  exact (pds_cons (pd_expr (pd_callD D_check_letters hr (by decide) (by rfl) (by exact (pda_cons (pd_var 0) pda_nil))))
    (pds_cons (pd_expr (pd_callD D_check_ahead hr (by decide) (by rfl) (by exact (pda_cons (pd_var 1) pda_nil))))
    (pds_one (pd_ret (pd_callD D_all_windows hr (by decide) (by rfl) (by exact (pda_cons (pd_var 0) (pda_cons (pd_var 1) pda_nil))))))))
def t_following (w : World) : TDS := (dSeq (dExpr (dCall sem_check_letters (aCons (dVar 0) aNil)))
    (dSeq (dExpr (dCall sem_check_ahead (aCons (dVar 1) aNil)))
    (dSeq (dExpr (dCall sem_check_window (aCons (dVar 0) (aCons (dVar 1) (aCons (dVar 2) aNil)))))
    (dRet (dCall sem_followers (aCons (dVar 0) (aCons (dVar 2) aNil)))))))
theorem p_following {P : Program} {w : World} {K : PySem.W.Frag} {mg : Str → Option Value} {base : Heap} {f : Addr} {cdv : Value} {A : Around} {outer : List Env} {s : Shared} {H : Hp} {E : XK} (hr : Room 4 (A.deeper (envOfC "following" (defScope s_following) s.heap.objs.size f cdv))) (B : Bi mg) (D_check_ahead : DefD P w K mg base 4 "check_ahead" ["d"] sem_check_ahead) (D_check_letters : DefD P w K mg base 3 "check_letters" ["letters"] sem_check_letters) (D_check_window : DefD P w K mg base 3 "check_window" ["letters", "d", "window"] sem_check_window) (D_followers : DefD P w K mg base 1 "followers" ["letters", "window"] sem_followers) :
    PDSs (cxOf CX0 P w K mg base N_following "following" (defScope s_following) f cdv A outer s H E).nox (defBody s_following) (t_following w) := by
  have hu := hu_r hr
  unfold t_following
  exact (pds_cons (pd_expr (pd_callD D_check_letters hr (by decide) (by rfl) (by exact (pda_cons (pd_var 0) pda_nil))))
    (pds_cons (pd_expr (pd_callD D_check_ahead hr (by decide) (by rfl) (by exact (pda_cons (pd_var 1) pda_nil))))
    (pds_cons (pd_expr (pd_callD D_check_window hr (by decide) (by rfl) (by exact (pda_cons (pd_var 0) (pda_cons (pd_var 1) (pda_cons (pd_var 2) pda_nil))))))
    (pds_one (pd_ret (pd_callD D_followers hr (by decide) (by rfl) (by exact (pda_cons (pd_var 0) (pda_cons (pd_var 2) pda_nil)))))))))
def t_check_ahead (w : World) : TDS := (dSeq (dExpr (dCall sem_check_count (aCons (dVar 0) aNil)))
    (dIfS (dTest (d2 fGt (dVar 0) (dC (.int 3)))) dNever dNext))
theorem p_check_ahead {P : Program} {w : World} {K : PySem.W.Frag} {mg : Str → Option Value} {base : Heap} {f : Addr} {cdv : Value} {A : Around} {outer : List Env} {s : Shared} {H : Hp} {E : XK} (hr : Room 3 (A.deeper (envOfC "check_ahead" (defScope s_check_ahead) s.heap.objs.size f cdv))) (B : Bi mg) (D_check_count : DefD P w K mg base 3 "check_count" ["value"] sem_check_count) (c_MOST_AHEAD : ∃ t, mg "MOST_AHEAD" = some (.int 3 t)) :
    PDSs (cxOf CX0 P w K mg base N_check_ahead "check_ahead" (defScope s_check_ahead) f cdv A outer s H E).nox (defBody s_check_ahead) (t_check_ahead w) := by
  have hu := hu_r hr
  unfold t_check_ahead
  exact (pds_cons (pd_expr (pd_callD D_check_count hr (by decide) (by rfl) (by exact (pda_cons (pd_var 0) pda_nil))))
    (pds_one (pd_if (pdt_cmp op_gtA o2_gt (pd_var 0) (pd_cI c_MOST_AHEAD (by rfl)) (nomark _)) (pds_one pd_never) pds_nil)))
def t_check_window (w : World) : TDS := (dIfS (dNot (dTest (dCall sem_is_window (aCons (dVar 0) (aCons (dVar 1) (aCons (dVar 2) aNil)))))) dNever dNext)
theorem p_check_window {P : Program} {w : World} {K : PySem.W.Frag} {mg : Str → Option Value} {base : Heap} {f : Addr} {cdv : Value} {A : Around} {outer : List Env} {s : Shared} {H : Hp} {E : XK} (hr : Room 2 (A.deeper (envOfC "check_window" (defScope s_check_window) s.heap.objs.size f cdv))) (B : Bi mg) (D_is_window : DefD P w K mg base 2 "is_window" ["letters", "d", "value"] sem_is_window) :
    PDSs (cxOf CX0 P w K mg base N_check_window "check_window" (defScope s_check_window) f cdv A outer s H E).nox (defBody s_check_window) (t_check_window w) := by
  have hu := hu_r hr
  unfold t_check_window
  exact (pds_one (pd_if (pdt_not (pdt_val (pd_callD D_is_window hr (by decide) (by rfl) (by exact (pda_cons (pd_var 0) (pda_cons (pd_var 1) (pda_cons (pd_var 2) pda_nil))))))) (pds_one pd_never) pds_nil))
def t_is_window (w : World) : TDS := (dSeq (dIfS (dNot (dTest (dCB fIsi (aCons (dVar 2) (aCons (dC (.ty "str")) aNil))))) (dRet (dC (.bl false))) dNext)
    (dSeq (dIfS (dTest (dRd "str" fEndsw (dVar 2) (aCons (dC (.str ".")) aNil))) (dRet (dAndV (d2 fLe (dCB fLen (aCons (dVar 2) aNil)) (dVar 1)) (dCall sem_is_over (aCons (dVar 0) (aCons (dSl (dVar 2) oNone (oSome (d1 fNeg (dC (.int 1))))) aNil))))) dNext)
    (dRet (dAndV (d2 fEq (dCB fLen (aCons (dVar 2) aNil)) (dVar 1)) (dCall sem_is_over (aCons (dVar 0) (aCons (dVar 2) aNil)))))))
theorem p_is_window {P : Program} {w : World} {K : PySem.W.Frag} {mg : Str → Option Value} {base : Heap} {f : Addr} {cdv : Value} {A : Around} {outer : List Env} {s : Shared} {H : Hp} {E : XK} (hr : Room 1 (A.deeper (envOfC "is_window" (defScope s_is_window) s.heap.objs.size f cdv))) (B : Bi mg) (D_is_over : DefD P w K mg base 1 "is_over" ["letters", "value"] sem_is_over) (c_STOP : ∃ t, mg "STOP" = some (.str "." t)) :
    PDSs (cxOf CX0 P w K mg base N_is_window "is_window" (defScope s_is_window) f cdv A outer s H E).nox (defBody s_is_window) (t_is_window w) := by
  have hu := hu_r hr
  unfold t_is_window
  exact (pds_cons (pd_if (pdt_not (pdt_val (pd_callB call_isiA on_isi (by rfl) B.n_isinstance (by decide +kernel) (by exact (pda_cons (pd_var 2) (pda_cons (pd_globT (n := "str") (by rfl) B.n_str (by decide +kernel)) pda_nil)))))) (pds_one (pd_ret pd_bl)) pds_nil)
    (pds_cons (pd_if (pdt_val (pd_rd PySem.F.plainAttrs_str PySem.F.slot_str_endswith PySem.F.type_str_endswith mt_endswith (by decide) or_ends (pd_var 2) (by exact (pda_cons (pd_cS c_STOP (by rfl)) pda_nil)))) (pds_one (pd_ret (pd_and (pd_cmp op_leA o2_le (pd_callB call_lenA on_len (by rfl) B.n_len (by decide +kernel) (by exact (pda_cons (pd_var 2) pda_nil))) (pd_var 1) (nomark _)) (pd_one (pd_callD D_is_over hr (by decide) (by rfl) (by exact (pda_cons (pd_var 0) (pda_cons (pd_sl (pd_var 2) pdo_none (pdo_some (pd_un un_neg o1_neg pd_int))) pda_nil)))))))) pds_nil)
    (pds_one (pd_ret (pd_and (pd_cmp (op_eqD (hu_e hu)) o2_eq (pd_callB call_lenA on_len (by rfl) B.n_len (by decide +kernel) (by exact (pda_cons (pd_var 2) pda_nil))) (pd_var 1) (nomark _)) (pd_one (pd_callD D_is_over hr (by decide) (by rfl) (by exact (pda_cons (pd_var 0) (pda_cons (pd_var 2) pda_nil))))))))))
def t_all_windows (w : World) : TDS := (dSeq (dSet 2 (dComp (.lst []) (dRange1 (dCall sem_rows_up_to (aCons (dVar 0) (aCons (dVar 1) aNil)))) (gdName 3) dYes (bApp (dCall sem_numbered_row (aCons (dVar 0) (aCons (dVar 3) aNil)))) (([("number", 3)] : List (Str × Nat)).map (·.2))))
    (dRet (dComp (.lst []) (dIter (dVar 2)) (gdName 4) dYes (bApp (dIf (dTest (d2 fEq (dCB fLen (aCons (dVar 4) aNil)) (dVar 1))) (dVar 4) (d2 fAdd (dVar 4) (dC (.str "."))))) (([("row", 4)] : List (Str × Nat)).map (·.2)))))
theorem p_all_windows {P : Program} {w : World} {K : PySem.W.Frag} {mg : Str → Option Value} {base : Heap} {f : Addr} {cdv : Value} {A : Around} {outer : List Env} {s : Shared} {H : Hp} {E : XK} (hr : Room 1 (A.deeper (envOfC "all_windows" (defScope s_all_windows) s.heap.objs.size f cdv))) (B : Bi mg) (D_numbered_row : DefD P w K mg base 1 "numbered_row" ["letters", "number"] sem_numbered_row) (D_rows_up_to : DefD P w K mg base 1 "rows_up_to" ["letters", "most"] sem_rows_up_to) (c_STOP : ∃ t, mg "STOP" = some (.str "." t)) :
    PDSs (cxOf CX0 P w K mg base N_all_windows "all_windows" (defScope s_all_windows) f cdv A outer s H E).nox (defBody s_all_windows) (t_all_windows w) := by
  have hu := hu_r hr
  unfold t_all_windows
  exact (pds_cons (pd_setCoL (i := 2) (own := [("number", 3)]) (ws := []) (ss := [3]) (tg := (gdName 3)) (tt := dYes) (tb := (bApp (dCall sem_numbered_row (aCons (dVar 0) (aCons (dVar 3) aNil))))) (by rfl) sc_all_windows.nd rfl (by rfl) (by show 2 < N_all_windows.length; decide) (by rfl) (by rfl) (by decide +kernel) (by exact (pdi_range1 (by rfl) B.n_range (pd_callD D_rows_up_to hr (by decide) (by rfl) (by exact (pda_cons (pd_var 0) (pda_cons (pd_var 1) pda_nil)))))) (blkOk_by (own := [("number", 3)]) (N := N_all_windows) (sc := defScope s_all_windows) (by decide +kernel)) (by decide) (by decide) (fun _ _ _ _ _ => (by exact (pdg_name (i := 3) sc_all_windows.nd rfl (Or.inl rfl) (hl := by show 3 < N_all_windows.length; decide)))) (fun _ _ _ _ _ => (by exact pdts_nil)) (fun _ _ _ _ _ D => (by exact (bd_app rfl (pd_callD D_numbered_row hr (by decide) (by rfl) (by exact (pda_cons (pd_var 0) (pda_cons (pd_var 3) pda_nil))))))))
    (pds_one (pd_ret (pd_coL (own := [("row", 4)]) (ws := []) (ss := [4]) (tg := (gdName 4)) (tt := dYes) (tb := (bApp (dIf (dTest (d2 fEq (dCB fLen (aCons (dVar 4) aNil)) (dVar 1))) (dVar 4) (d2 fAdd (dVar 4) (dC (.str ".")))))) (by rfl) sc_all_windows.nd (by exact (pdi_any (pd_var 2))) (blkOk_by (own := [("row", 4)]) (N := N_all_windows) (sc := defScope s_all_windows) (by decide +kernel)) (by decide) (by decide) (fun _ _ _ _ _ => (by exact (pdg_name (i := 4) sc_all_windows.nd rfl (Or.inl rfl) (hl := by show 4 < N_all_windows.length; decide)))) (fun _ _ _ _ _ => (by exact pdts_nil)) (fun _ _ _ _ _ D => (by exact (bd_app rfl (pd_ifExp (pdt_cmp (op_eqD (hu_e hu)) o2_eq (pd_callB call_lenA on_len (by rfl) B.n_len (by decide +kernel) (by exact (pda_cons (pd_var 4) pda_nil))) (pd_var 1) (nomark _)) (pd_var 4) (pd_op op_addA o2_add (pd_var 4) (pd_cS c_STOP (by rfl)))))))))))
def t_followers (w : World) : TDS := (dSeq (dIfS (dTest (d2 fEq (dVar 1) (dC (.str ".")))) (dRet (dLst aNil)) dNext)
    (dSeq (dIfS (dOr (dTest (d2 fEq (dVar 1) (dC (.str "")))) (dTest (dRd "str" fEndsw (dVar 1) (aCons (dC (.str ".")) aNil)))) (dRet (dLst (aCons (dSl (dVar 1) (oSome (dC (.int 1))) oNone) aNil))) dNext)
    (dRet (dComp (.lst []) (dIter (dLst (aCons (dC (.str ".")) (aStar (dVar 0) aNil)))) (gdName 2) dYes (bApp (d2 fAdd (dSl (dVar 1) (oSome (dC (.int 1))) oNone) (dVar 2))) (([("more", 2)] : List (Str × Nat)).map (·.2))))))
theorem p_followers {P : Program} {w : World} {K : PySem.W.Frag} {mg : Str → Option Value} {base : Heap} {f : Addr} {cdv : Value} {A : Around} {outer : List Env} {s : Shared} {H : Hp} {E : XK} (hr : Room 0 (A.deeper (envOfC "followers" (defScope s_followers) s.heap.objs.size f cdv))) (B : Bi mg) (c_STOP : ∃ t, mg "STOP" = some (.str "." t)) :
    PDSs (cxOf CX0 P w K mg base N_followers "followers" (defScope s_followers) f cdv A outer s H E).nox (defBody s_followers) (t_followers w) := by
  have hu := hu_r hr
  unfold t_followers
  exact (pds_cons (pd_if (pdt_cmp (op_eqD (hu_e hu)) o2_eq (pd_var 1) (pd_cS c_STOP (by rfl)) (nomark _)) (pds_one (pd_ret (pd_lst (by exact pda_nil)))) pds_nil)
    (pds_cons (pd_if (PW.pt (pdw_or (pdt_cmp (op_eqD (hu_e hu)) o2_eq (pd_var 1) pd_str (nomark _)) (pdw_or1 (pdt_val (pd_rd PySem.F.plainAttrs_str PySem.F.slot_str_endswith PySem.F.type_str_endswith mt_endswith (by decide) or_ends (pd_var 1) (by exact (pda_cons (pd_cS c_STOP (by rfl)) pda_nil))))))) (pds_one (pd_ret (pd_lst (by exact (pda_cons (pd_sl (pd_var 1) (pdo_some pd_int) pdo_none) pda_nil))))) pds_nil)
    (pds_one (pd_ret (pd_coL (own := [("more", 2)]) (ws := []) (ss := [2]) (tg := (gdName 2)) (tt := dYes) (tb := (bApp (d2 fAdd (dSl (dVar 1) (oSome (dC (.int 1))) oNone) (dVar 2)))) (by rfl) sc_followers.nd (by exact (pdi_any (pd_lst (by exact (pda_cons (pd_cS c_STOP (by rfl)) (pda_star (by rfl) (pd_var 0) pda_nil)))))) (blkOk_by (own := [("more", 2)]) (N := N_followers) (sc := defScope s_followers) (by decide +kernel)) (by decide) (by decide) (fun _ _ _ _ _ => (by exact (pdg_name (i := 2) sc_followers.nd rfl (Or.inl rfl) (hl := by show 2 < N_followers.length; decide)))) (fun _ _ _ _ _ => (by exact pdts_nil)) (fun _ _ _ _ _ D => (by exact (bd_app rfl (pd_op op_addA o2_add (pd_sl (pd_var 1) (pdo_some pd_int) pdo_none) (pd_var 2))))))))))
def t_law_pot (w : World) : TDS := (dSeq (dSet 2 (d2 fAdd (d2 fMul (dC (.int 41)) (dVar 1)) (dC (.int 19))))
    (dSeq (dIfS (dTest (d2 fLt (dVar 1) (dCB fLen (aCons (dVar 0) aNil)))) (dSet 2 (dCB fAbs (aCons (d2 fIx (dVar 0) (dVar 1)) aNil))) dNext)
    (dRet (dLst (aCons (dCB fMax (aCons (dC (.int 0)) (aCons (d2 fSub (dVar 2) (d2 fPow (dC (.int 10)) (dC (.int 18)))) aNil))) (aCons (d2 fAdd (d2 fMod (d2 fMul (dCB fInt (aCons (d2 fAdd (d2 fMod (dCB fInt (aCons (dVar 2) aNil)) (dC (.int 2147483549))) (dC (.int 5))) aNil)) (d2 fPow (d2 fAdd (d2 fMul (dC (.int 2)) (dVar 1)) (dC (.int 3))) (dC (.int 3)))) (dC (.int 2147483587))) (dC (.int 1))) aNil))))))
theorem p_law_pot {P : Program} {w : World} {K : PySem.W.Frag} {mg : Str → Option Value} {base : Heap} {f : Addr} {cdv : Value} {A : Around} {outer : List Env} {s : Shared} {H : Hp} {E : XK} (hr : Room 0 (A.deeper (envOfC "_law_pot" (defScope s_law_pot) s.heap.objs.size f cdv))) (B : Bi mg) :
    PDSs (cxOf CX0 P w K mg base N_law_pot "_law_pot" (defScope s_law_pot) f cdv A outer s H E).nox (defBody s_law_pot) (t_law_pot w) := by
  have hu := hu_r hr
  unfold t_law_pot
  exact (pds_cons (pd_set (i := 2) sc_law_pot.nd rfl (Or.inl rfl) (pd_op op_addA o2_add (pd_op op_mulA o2_mul pd_int (pd_var 1)) pd_int) (hl := by show 2 < N_law_pot.length; decide))
    (pds_cons (pd_if (pdt_cmp (op_ltA (hu_1 hu)) o2_lt (pd_var 1) (pd_callB call_lenA on_len (by rfl) B.n_len (by decide +kernel) (by exact (pda_cons (pd_var 0) pda_nil))) (nomark _)) (pds_one (pd_set (i := 2) sc_law_pot.nd rfl (Or.inl rfl) (pd_callB call_abs on_abs (by rfl) B.n_abs (by decide +kernel) (by exact (pda_cons (pd_ix (hu_d hu) (pd_var 0) (pd_var 1)) pda_nil))) (hl := by show 2 < N_law_pot.length; decide))) pds_nil)
    (pds_one (pd_ret (pd_lst (by exact (pda_cons (pd_callB (call_maxA (by rfl)) on_max (by rfl) B.n_max (by decide +kernel) (by exact (pda_cons pd_int (pda_cons (pd_op op_sub o2_sub (pd_var 2) (pd_op op_pow o2_pow pd_int pd_int)) pda_nil)))) (pda_cons (pd_op op_addA o2_add (pd_op op_mod o2_mod (pd_op op_mulA o2_mul (pd_callTy call_int1 on_int (by rfl) B.n_int (by decide +kernel) (by exact (pda_cons (pd_op op_addA o2_add (pd_op op_mod o2_mod (pd_callTy call_int1 on_int (by rfl) B.n_int (by decide +kernel) (by exact (pda_cons (pd_var 2) pda_nil))) pd_int) pd_int) pda_nil))) (pd_op op_pow o2_pow (pd_op op_addA o2_add (pd_op op_mulA o2_mul pd_int (pd_var 1)) pd_int) pd_int)) pd_int) pd_int) pda_nil))))))))
end Dl
set_option autoImplicit false
set_option Elab.async false
set_option linter.all false
set_option maxRecDepth 100000
set_option maxHeartbeats 4000000
namespace Dl
open PySem PySem.Spec PyProof.Rows L2 LamX
def t_is_integer (w : World) : TDS := (dRet (dAndV (dCB fIsi (aCons (dVar 0) (aCons (dC (.ty "int")) aNil))) (dNotV (dCB fIsi (aCons (dVar 0) (aCons (dC (.ty "bool")) aNil))))))
theorem p_is_integer {P : Program} {w : World} {K : PySem.W.Frag} {mg : Str → Option Value} {base : Heap} {f : Addr} {cdv : Value} {A : Around} {outer : List Env} {s : Shared} {H : Hp} {E : XK} (hr : Room 0 (A.deeper (envOfC "is_integer" (defScope s_is_integer) s.heap.objs.size f cdv))) (B : Bi mg) :
    PDSs (cxOf CX0 P w K mg base N_is_integer "is_integer" (defScope s_is_integer) f cdv A outer s H E).nox (defBody s_is_integer) (t_is_integer w) := by
  have hu := hu_r hr
  unfold t_is_integer
  exact (pds_one (pd_ret (pd_and (pd_callB call_isiA on_isi (by rfl) B.n_isinstance (by decide +kernel) (by exact (pda_cons (pd_var 0) (pda_cons (pd_globT (n := "int") (by rfl) B.n_int (by decide +kernel)) pda_nil)))) (pd_one (pd_not (pd_callB call_isiA on_isi (by rfl) B.n_isinstance (by decide +kernel) (by exact (pda_cons (pd_var 0) (pda_cons (pd_globT (n := "bool") (by rfl) B.n_bool (by decide +kernel)) pda_nil)))))))))
def t_is_count (w : World) : TDS := (dRet (dAndV (dCall sem_is_integer (aCons (dVar 0) aNil)) (d2 fGe (dVar 0) (dC (.int 0)))))
theorem p_is_count {P : Program} {w : World} {K : PySem.W.Frag} {mg : Str → Option Value} {base : Heap} {f : Addr} {cdv : Value} {A : Around} {outer : List Env} {s : Shared} {H : Hp} {E : XK} (hr : Room 1 (A.deeper (envOfC "is_count" (defScope s_is_count) s.heap.objs.size f cdv))) (B : Bi mg) (D_is_integer : DefD P w K mg base 1 "is_integer" ["value"] sem_is_integer) :
    PDSs (cxOf CX0 P w K mg base N_is_count "is_count" (defScope s_is_count) f cdv A outer s H E).nox (defBody s_is_count) (t_is_count w) := by
  have hu := hu_r hr
  unfold t_is_count
  exact (pds_one (pd_ret (pd_and (pd_callD D_is_integer hr (by decide) (by rfl) (by exact (pda_cons (pd_var 0) pda_nil))) (pd_one (pd_cmp op_geA o2_ge (pd_var 0) pd_int (nomark _))))))
def t_check_count (w : World) : TDS := (dIfS (dNot (dTest (dCall sem_is_count (aCons (dVar 0) aNil)))) dNever dNext)
theorem p_check_count {P : Program} {w : World} {K : PySem.W.Frag} {mg : Str → Option Value} {base : Heap} {f : Addr} {cdv : Value} {A : Around} {outer : List Env} {s : Shared} {H : Hp} {E : XK} (hr : Room 2 (A.deeper (envOfC "check_count" (defScope s_check_count) s.heap.objs.size f cdv))) (B : Bi mg) (D_is_count : DefD P w K mg base 2 "is_count" ["value"] sem_is_count) :
    PDSs (cxOf CX0 P w K mg base N_check_count "check_count" (defScope s_check_count) f cdv A outer s H E).nox (defBody s_check_count) (t_check_count w) := by
  have hu := hu_r hr
  unfold t_check_count
  exact (pds_one (pd_if (pdt_not (pdt_val (pd_callD D_is_count hr (by decide) (by rfl) (by exact (pda_cons (pd_var 0) pda_nil))))) (pds_one pd_never) pds_nil))
def t_is_letters (w : World) : TDS := (dSeq (dIfS (dOr (dNot (dTest (dCB fIsi (aCons (dVar 0) (aCons (dC (.ty "str")) aNil))))) (dNot (dTest (dChain fLe fLe (dC (.int 1)) (dCB fLen (aCons (dVar 0) aNil)) (dC (.int 4)))))) (dRet (dC (.bl false))) dNext)
    (dSeq (dIfS (dNot (dTest (dCall sem_is_over (aCons (dC (.str "abcdefghijklmnopqrstuvwxyz")) (aCons (dVar 0) aNil))))) (dRet (dC (.bl false))) dNext)
    (dRet (dCB fAll (aCons (dComp (.lst []) (dZip (aCons (dVar 0) (aCons (dSl (dVar 0) (oSome (dC (.int 1))) oNone) aNil))) (gdTup 2 (gdCons (gdName 1) (gdCons (gdName 2) gdNil))) dYes (bApp (d2 fLt (dVar 1) (dVar 2))) (([("one", 1), ("other", 2)] : List (Str × Nat)).map (·.2))) aNil)))))
theorem p_is_letters {P : Program} {w : World} {K : PySem.W.Frag} {mg : Str → Option Value} {base : Heap} {f : Addr} {cdv : Value} {A : Around} {outer : List Env} {s : Shared} {H : Hp} {E : XK} (hr : Room 1 (A.deeper (envOfC "is_letters" (defScope s_is_letters) s.heap.objs.size f cdv))) (B : Bi mg) (D_is_over : DefD P w K mg base 1 "is_over" ["letters", "value"] sem_is_over) (c_ALPHABET : ∃ t, mg "ALPHABET" = some (.str "abcdefghijklmnopqrstuvwxyz" t)) (c_MOST_LETTERS : ∃ t, mg "MOST_LETTERS" = some (.int 4 t)) :
    PDSs (cxOf CX0 P w K mg base N_is_letters "is_letters" (defScope s_is_letters) f cdv A outer s H E).nox (defBody s_is_letters) (t_is_letters w) := by
  have hu := hu_r hr
  unfold t_is_letters
  exact (pds_cons (pd_if (PW.pt (pdw_or (pdt_not (pdt_val (pd_callB call_isiA on_isi (by rfl) B.n_isinstance (by decide +kernel) (by exact (pda_cons (pd_var 0) (pda_cons (pd_globT (n := "str") (by rfl) B.n_str (by decide +kernel)) pda_nil)))))) (pdw_or1 (pdt_not (pdt_chain op_leA op_leA o2_le o2_le pd_int (pd_callB call_lenA on_len (by rfl) B.n_len (by decide +kernel) (by exact (pda_cons (pd_var 0) pda_nil))) (pd_cI c_MOST_LETTERS (by rfl))))))) (pds_one (pd_ret pd_bl)) pds_nil)
    (pds_cons (pd_if (pdt_not (pdt_val (pd_callD D_is_over hr (by decide) (by rfl) (by exact (pda_cons (pd_cS c_ALPHABET (by rfl)) (pda_cons (pd_var 0) pda_nil)))))) (pds_one (pd_ret pd_bl)) pds_nil)
    (pds_one (pd_ret (pd_callB (cr_all (by rfl)) on_all (by rfl) B.n_all (by decide +kernel) (by exact (pda_cons (pd_coL (own := [("one", 1), ("other", 2)]) (ws := []) (ss := [1, 2]) (tg := (gdTup 2 (gdCons (gdName 1) (gdCons (gdName 2) gdNil)))) (tt := dYes) (tb := (bApp (d2 fLt (dVar 1) (dVar 2)))) (by rfl) sc_is_letters.nd (by exact (pdi_zip (by rfl) B.n_zip (by exact (pda_cons (pd_var 0) (pda_cons (pd_sl (pd_var 0) (pdo_some pd_int) pdo_none) pda_nil))))) (blkOk_by (own := [("one", 1), ("other", 2)]) (N := N_is_letters) (sc := defScope s_is_letters) (by decide +kernel)) (by decide) (by decide) (fun _ _ _ _ _ => (by exact (pdg_tup (n := 2) (by rfl) (pdgs_cons (pdg_name (i := 1) sc_is_letters.nd rfl (Or.inl rfl) (hl := by show 1 < N_is_letters.length; decide)) (pdgs_cons (pdg_name (i := 2) sc_is_letters.nd rfl (Or.inl rfl) (hl := by show 2 < N_is_letters.length; decide)) pdgs_nil))))) (fun _ _ _ _ _ => (by exact pdts_nil)) (fun _ _ _ _ _ D => (by exact (bd_app rfl (pd_cmp (op_ltA (hu_1 hu)) o2_lt (pd_var 1) (pd_var 2) (nomark _)))))) pda_nil)))))))
def t_is_over (w : World) : TDS := (dRet (dAndV (dCB fIsi (aCons (dVar 1) (aCons (dC (.ty "str")) aNil))) (dCB fAll (aCons (dComp (.lst []) (dIter (dVar 1)) (gdName 2) dYes (bApp (d2 (fInB false) (dVar 2) (dVar 0))) (([("letter", 2)] : List (Str × Nat)).map (·.2))) aNil))))
theorem p_is_over {P : Program} {w : World} {K : PySem.W.Frag} {mg : Str → Option Value} {base : Heap} {f : Addr} {cdv : Value} {A : Around} {outer : List Env} {s : Shared} {H : Hp} {E : XK} (hr : Room 0 (A.deeper (envOfC "is_over" (defScope s_is_over) s.heap.objs.size f cdv))) (B : Bi mg) :
    PDSs (cxOf CX0 P w K mg base N_is_over "is_over" (defScope s_is_over) f cdv A outer s H E).nox (defBody s_is_over) (t_is_over w) := by
  have hu := hu_r hr
  unfold t_is_over
  exact (pds_one (pd_ret (pd_and (pd_callB call_isiA on_isi (by rfl) B.n_isinstance (by decide +kernel) (by exact (pda_cons (pd_var 1) (pda_cons (pd_globT (n := "str") (by rfl) B.n_str (by decide +kernel)) pda_nil)))) (pd_one (pd_callB (cr_all (by rfl)) on_all (by rfl) B.n_all (by decide +kernel) (by exact (pda_cons (pd_coL (own := [("letter", 2)]) (ws := []) (ss := [2]) (tg := (gdName 2)) (tt := dYes) (tb := (bApp (d2 (fInB false) (dVar 2) (dVar 0)))) (by rfl) sc_is_over.nd (by exact (pdi_any (pd_var 1))) (blkOk_by (own := [("letter", 2)]) (N := N_is_over) (sc := defScope s_is_over) (by decide +kernel)) (by decide) (by decide) (fun _ _ _ _ _ => (by exact (pdg_name (i := 2) sc_is_over.nd rfl (Or.inl rfl) (hl := by show 2 < N_is_over.length; decide)))) (fun _ _ _ _ _ => (by exact pdts_nil)) (fun _ _ _ _ _ D => (by exact (bd_app rfl (pd_cmp (op_inA (hu_i hu)) (o2_in (neg := false)) (pd_var 2) (pd_var 0) (by with_unfolding_all rfl)))))) pda_nil)))))))
def t_rows_up_to (w : World) : TDS := (dSeq (dSet 2 (dC (.int 1)))
    (dSeq (dFor (dRange1 (dVar 1)) (gdName 3) (dSet 2 (d2 fAdd (d2 fMul (dVar 2) (dCB fLen (aCons (dVar 0) aNil))) (dC (.int 1)))))
    (dRet (dVar 2))))
theorem p_rows_up_to {P : Program} {w : World} {K : PySem.W.Frag} {mg : Str → Option Value} {base : Heap} {f : Addr} {cdv : Value} {A : Around} {outer : List Env} {s : Shared} {H : Hp} {E : XK} (hr : Room 0 (A.deeper (envOfC "rows_up_to" (defScope s_rows_up_to) s.heap.objs.size f cdv))) (B : Bi mg) :
    PDSs (cxOf CX0 P w K mg base N_rows_up_to "rows_up_to" (defScope s_rows_up_to) f cdv A outer s H E).nox (defBody s_rows_up_to) (t_rows_up_to w) := by
  have hu := hu_r hr
  unfold t_rows_up_to
  exact (pds_cons (pd_set (i := 2) sc_rows_up_to.nd rfl (Or.inl rfl) pd_int (hl := by show 2 < N_rows_up_to.length; decide))
    (pds_cons (pd_for (ss := [3]) PassesOwn.never (by rfl) (by exact (pdi_range1 (by rfl) B.n_range (pd_var 1))) (pdg_name (i := 3) sc_rows_up_to.nd rfl (Or.inl rfl) (hl := by show 3 < N_rows_up_to.length; decide)) (pds_one (pd_set (i := 2) sc_rows_up_to.nd rfl (Or.inl rfl) (pd_op op_addA o2_add (pd_op op_mulA o2_mul (pd_var 2) (pd_callB call_lenA on_len (by rfl) B.n_len (by decide +kernel) (by exact (pda_cons (pd_var 0) pda_nil)))) pd_int) (hl := by show 2 < N_rows_up_to.length; decide))))
    (pds_one (pd_ret (pd_var 2)))))
def t_numbered_row (w : World) : TDS := (dSeq (dSet 2 (dC (.str "")))
    (dSeq (dWhile (dTest (d2 fGt (dVar 1) (dC (.int 0)))) (dSeq (dAsg (dCB fDivmodW (aCons (d2 fSub (dVar 1) (dC (.int 1))) (aCons (dCB fLen (aCons (dVar 0) aNil)) aNil))) (gdTup 2 (gdCons (gdName 1) (gdCons (gdName 3) gdNil))))
    (dSet 2 (d2 fAdd (d2 fIx (dVar 0) (dVar 3)) (dVar 2)))))
    (dRet (dVar 2))))
theorem p_numbered_row {P : Program} {w : World} {K : PySem.W.Frag} {mg : Str → Option Value} {base : Heap} {f : Addr} {cdv : Value} {A : Around} {outer : List Env} {s : Shared} {H : Hp} {E : XK} (hr : Room 0 (A.deeper (envOfC "numbered_row" (defScope s_numbered_row) s.heap.objs.size f cdv))) (B : Bi mg) :
    PDSs (cxOf CX0 P w K mg base N_numbered_row "numbered_row" (defScope s_numbered_row) f cdv A outer s H E).nox (defBody s_numbered_row) (t_numbered_row w) := by
  have hu := hu_r hr
  unfold t_numbered_row
  exact (pds_cons (pd_set (i := 2) sc_numbered_row.nd rfl (Or.inl rfl) pd_str (hl := by show 2 < N_numbered_row.length; decide))
    (pds_cons (pd_while PassesOwn.never (pdt_cmp op_gtA o2_gt (pd_var 1) pd_int (nomark _)) (pds_cons (pd_asg (ss := [1, 3]) (pd_callB call_divmodW on_divmodW (by rfl) B.n_divmod (by decide +kernel) (by exact (pda_cons (pd_op op_sub o2_sub (pd_var 1) pd_int) (pda_cons (pd_callB call_lenA on_len (by rfl) B.n_len (by decide +kernel) (by exact (pda_cons (pd_var 0) pda_nil))) pda_nil)))) (pdg_tup (n := 2) (by rfl) (pdgs_cons (pdg_name (i := 1) sc_numbered_row.nd rfl (Or.inl rfl) (hl := by show 1 < N_numbered_row.length; decide)) (pdgs_cons (pdg_name (i := 3) sc_numbered_row.nd rfl (Or.inl rfl) (hl := by show 3 < N_numbered_row.length; decide)) pdgs_nil))))
    (pds_one (pd_set (i := 2) sc_numbered_row.nd rfl (Or.inl rfl) (pd_op op_addA o2_add (pd_ix (hu_d hu) (pd_var 0) (pd_var 3)) (pd_var 2)) (hl := by show 2 < N_numbered_row.length; decide)))))
    (pds_one (pd_ret (pd_var 2)))))
def t_check_letters (w : World) : TDS := (dIfS (dNot (dTest (dCall sem_is_letters (aCons (dVar 0) aNil)))) dNever dNext)
theorem p_check_letters {P : Program} {w : World} {K : PySem.W.Frag} {mg : Str → Option Value} {base : Heap} {f : Addr} {cdv : Value} {A : Around} {outer : List Env} {s : Shared} {H : Hp} {E : XK} (hr : Room 2 (A.deeper (envOfC "check_letters" (defScope s_check_letters) s.heap.objs.size f cdv))) (B : Bi mg) (D_is_letters : DefD P w K mg base 2 "is_letters" ["value"] sem_is_letters) :
    PDSs (cxOf CX0 P w K mg base N_check_letters "check_letters" (defScope s_check_letters) f cdv A outer s H E).nox (defBody s_check_letters) (t_check_letters w) := by
  have hu := hu_r hr
  unfold t_check_letters
  exact (pds_one (pd_if (pdt_not (pdt_val (pd_callD D_is_letters hr (by decide) (by rfl) (by exact (pda_cons (pd_var 0) pda_nil))))) (pds_one pd_never) pds_nil))
end Dl
set_option autoImplicit false
set_option Elab.async false
set_option linter.all false
set_option maxRecDepth 100000
namespace Dl
open PySem PySem.Spec PyProof.Rows L2 LamX
set_option maxHeartbeats 400000
variable (w : World)
theorem z_is_integer : ∀ rs Q, sem_is_integer rs Q → t_is_integer w (eD Q) (startR N_is_integer rs)
  | [.z (.int i)], Q, h => h
theorem z_is_count : ∀ rs Q, sem_is_count rs Q → t_is_count w (eD Q) (startR N_is_count rs)
  | [.z (.int i)], Q, h => h
theorem z_check_count : ∀ rs Q, sem_check_count rs Q → t_check_count w (eD Q) (startR N_check_count rs)
  | [.z (.int i)], Q, h => by
    show (if (!decide (0 ≤ i)) = true then _ else _)
    rw [decide_eq_true h.1]
    exact h.2
theorem all_id : ∀ bs : List Bool, bs.all id = bs.all fun b => b := fun _ => rfl
theorem z_is_over : ∀ rs Q, sem_is_over rs Q → t_is_over w (eD Q) (startR N_is_over rs)
  | [.z (.str l), .z (.str v)], Q, h => by
    show lcD [2] (gdName 2) dYes (bApp (d2 (fInB false) (dVar 2) (dVar 0))) ((cs v).map fun c => D.str ⟨#[c]⟩) [some (.z (.str l)), some (.z (.str v)), none] (.lst []) _
    refine lc_map [some (.z (.str l)), some (.z (.str v)), none] (fun d => [some (.z (.str l)), some (.z (.str v)), some (.z d)]) (fun c => D.str ⟨#[c]⟩) (fun c => D.bl (decide (c ∈ cs l))) (fun _ => rfl) _ _ rfl (fun c _ K k => k) (fun c _ K k => ?_) ?_ ?_
    · have := k (.z (.bl (decide (c ∈ cs l)))) (.inl rfl)
      rw [← Dl.bne_false (decide _)] at this
      exact this
    · refine size_of ?_
      have : (cs v).length = v.length := Array.length_toList
      have := h.1
      omega
    · have e : ((cs v).map fun c => D.bl (decide (c ∈ cs l))) = ((cs v).map fun c => decide (c ∈ cs l)).map D.bl := by rw [List.map_map]; rfl
      rw [e]
      show fAll [.lst (((cs v).map fun c => decide (c ∈ cs l)).map D.bl)] _
      unfold fAll
      simp only [blsD_map, List.all_map]
      exact h.2
theorem z_rows_up_to : ∀ rs Q, sem_rows_up_to rs Q → t_rows_up_to w (eD Q) (startR N_rows_up_to rs)
  | [.z (.str l), .z (.int m)], Q, h => by
    obtain ⟨h4, h0, h3, q⟩ := h
    refine ⟨⟨by omega, by omega⟩, ?_⟩
    have go : ∀ (k j : Nat) (x : Option R), j + k = m.toNat → forD (gdName 3) (dSet 2 (d2 fAdd (d2 fMul (dVar 2) (dCB fLen (aCons (dVar 0) aNil))) (dC (.int 1))))
        { nx := dRet (dVar 2) (eD Q), rt := Q } ((List.range' j k).map fun (i : Nat) => D.int (0 + (i : Int))) [some (.z (.str l)), some (.z (.int m)), some (.z (.int (manyF l.length j : Nat))), x] := by
      intro k
      induction k with
      | zero =>
        intro j x e
        show Q _
        rw [← e] at q
        exact q
      | succ k ih =>
        intro j x e
        have hm : manyF l.length j < 1000 := by
          have hj : j < 3 := by omega
          have : l.length ≤ 4 := h4
          have hm1 : ∀ n ≤ 4, ∀ j < 3, manyF n j < 1000 := by decide
          exact hm1 _ this _ hj
        have hl : l.length ≤ 4 := h4
        refine ⟨mulX_small ?_ ?_, ?_⟩
        · show ((manyF l.length j : Nat) : Int).natAbs < _
          omega
        · show ((l.length : Nat) : Int).natAbs < _
          omega
        · have := ih (j + 1) (some (.z (.int (0 + (j : Int))))) (by omega)
          have e2 : ((manyF l.length j : Nat) : Int) * ((l.length : Nat) : Int) + 1 = ((manyF l.length (j + 1) : Nat) : Int) := by
            show _ = ((manyF l.length j * l.length + 1 : Nat) : Int)
            rw [Int.natCast_add, Int.natCast_mul]
            rfl
          rw [← e2] at this
          exact this
    have := go m.toNat 0 none (by omega)
    rw [← List.range_eq_range'] at this
    exact this
theorem rowF_fuel (l : List Nat) (h : 1 ≤ l.length) : ∀ (f k : Nat), k ≤ f → rowF l f k = rowF l k k := by
  intro f
  induction f using Nat.strongRecOn with
  | _ f ih =>
    intro k hk
    cases f with
    | zero =>
      have : k = 0 := by omega
      subst this
      rfl
    | succ f =>
      cases k with
      | zero => rfl
      | succ k =>
        show (if k + 1 = 0 then [] else _) = (if k + 1 = 0 then [] else _)
        rw [if_neg (by omega), if_neg (by omega)]
        have hd : (k + 1 - 1) / l.length ≤ k := by
          rw [Nat.add_sub_cancel]
          exact Nat.div_le_self _ _
        rw [ih f (by omega) _ (by omega), ih k (by omega) _ hd]
theorem z_numbered_row : ∀ rs Q, sem_numbered_row rs Q → t_numbered_row w (eD Q) (startR N_numbered_row rs)
  | [.z (.str l), .z (.int m)], Q, h => by
    obtain ⟨h1, h4, h0, hm, q⟩ := h
    have hl : 1 ≤ (cs l).length := by rw [len_cs]; exact h1
    refine ⟨fun n ρ => ∃ (r : List Nat) (x : Option R), ρ = [some (.z (.str l)), some (.z (.int (n : Nat))), some (.z (.str (tx r))), x] ∧ n ≤ 1000 ∧ r.length + n ≤ 1000 ∧ rowF (cs l) n n ++ r = rowF (cs l) m.toNat m.toNat, ⟨m.toNat, [], none, ?_, by omega, by simp; omega, by simp⟩, ?_⟩
    · have e : ((m.toNat : Nat) : Int) = m := by omega
      rw [e]
      rfl
    · rintro n ρ ⟨r, x, rfl, b1, b2, b3⟩
      show (if decide ((0 : Int) < ((n : Nat) : Int)) = true then _ else _)
      by_cases hn : 0 < n
      · rw [if_pos (decide_eq_true (by omega))]
        refine ⟨⟨?_, ?_⟩, ?_⟩
        · show (0 : Int) < ((l.length : Nat) : Int)
          omega
        · show ((l.length : Nat) : Int).natAbs < _
          omega
        · have hq : (n - 1) % (cs l).length < (cs l).length := Nat.mod_lt _ (by omega)
          have e1 : (((n : Nat) : Int) - 1) % ((l.length : Nat) : Int) = (((n - 1) % (cs l).length : Nat) : Int) := by
            rw [len_cs, Int.natCast_emod]
            congr 1
            omega
          have e2 : (((n : Nat) : Int) - 1) / ((l.length : Nat) : Int) = (((n - 1) / (cs l).length : Nat) : Int) := by
            rw [len_cs, Int.natCast_ediv]
            congr 1
            omega
          simp only [dSeq, dNext, dIfS, dExpr, dRet, dRetN, dSet, dAsg, dPar, dPar3, dParN, setL, gdName, gdNil, gdCons, gdTup, lenIs, dTest, dTru, truD, dAnd, dOr, dNot, dAndV, dOrV, dNotV, dIf, dVar, dC, d2, d1, dChain, dCall, dCallP, dCB, dTup, dLst, dSl, fSl, dRev, dRd, tyD, dMut, aNil, aCons, aStar, itemsD, oNone, oSome, fLt, fLe, fGt, fGe, fCmp, fAdd, fSub, fMul, fMod, fFdiv, fPow, fShl, fShr, fAnd, fOr, fII, fII0, fI, fNeg, fIs, fIx, fLen, fTuple, fList, fSum, fMax, fMin, fAny, fAll, fAbs, fInt, fDivmodW, fIsi, tyS, isK, isKs, tysD, fStarts, fEndsw, fAppend, fExtend, fPop, fPopAt, fReverse, fClear, viewR, viewL, frzR, frzL, argR, argL, stR, stL, outR, keyD, keysD, startR, D.py, D.pys, dPotIx, gdPot, dYes, dLenSet, List.map_cons, List.map_nil, List.length_cons, List.length_nil, List.replicate_succ, List.replicate_zero, List.cons_append, List.nil_append, List.append_nil, List.getElem?_cons_zero, List.getElem?_cons_succ, List.getElem?_nil, List.set_cons_zero, List.set_cons_succ, List.set_nil, Nat.reduceSub, Nat.reduceAdd, Option.map_some, Bool.false_eq_true, if_true, if_false, Bool.not_true, Bool.not_false, Bool.and_true, Bool.true_and, Bool.and_false, Bool.false_and, Dl.bne_false, Dl.bne_true, frzL_zs]
          rw [show l.cps.toList = cs l from rfl, e1, atI_nat hq, List.getElem?_eq_getElem hq]
          simp only
          have hr : (tx r).length = r.length := tx_len r
          refine ⟨?_, (n - 1) / (cs l).length, ?_, (cs l)[(n - 1) % (cs l).length] :: r, some (.z (.int ((n - 1) % (cs l).length : Nat))), ?_, ?_, ?_, ?_⟩
          · refine size_of ?_
            show 1 + (tx r).length ≤ _
            omega
          · have := Nat.div_le_self (n - 1) (cs l).length
            omega
          · rw [← e2]
            rw [show tx ((cs l)[(n - 1) % (cs l).length] :: r) = tx [(cs l)[(n - 1) % (cs l).length]] ++ tx r from (tx_app [(cs l)[(n - 1) % (cs l).length]] r).symm]
          · have := Nat.div_le_self (n - 1) (cs l).length
            omega
          · have := Nat.div_le_self (n - 1) (cs l).length
            rw [List.length_cons]
            omega
          · rw [← b3]
            have e3 : rowF (cs l) n n = rowF (cs l) ((n - 1) / (cs l).length) ((n - 1) / (cs l).length) ++ [(cs l)[(n - 1) % (cs l).length]] := by
              cases n with
              | zero => omega
              | succ n =>
                show (if n + 1 = 0 then [] else _) = _
                rw [if_neg (by omega), List.getElem?_eq_getElem hq]
                have := Nat.div_le_self n (cs l).length
                rw [rowF_fuel (cs l) hl n _ (by simpa using this)]
                rfl
            rw [e3, List.append_assoc]
            rfl
      · have e : n = 0 := by omega
        subst e
        rw [if_neg (by simp)]
        have e3 : r = rowF (cs l) m.toNat m.toNat := by rw [← b3]; rfl
        rw [← e3] at q
        exact q
theorem GoodL.sgs {l : List Nat} (g : GoodL l) : Sgs l := fun c hc => by have := g.az c hc; omega
theorem asc_pairs : ∀ {l : List Nat}, l.Pairwise (· < ·) → ∀ p ∈ l.zip (l.drop 1), p.1 < p.2
  | [], _, p, hp => by simp at hp
  | [x], _, p, hp => by simp at hp
  | x :: y :: r, h, p, hp => by
    rw [List.pairwise_cons] at h
    simp only [List.drop_succ_cons, List.drop_zero, List.zip_cons_cons, List.mem_cons] at hp
    rcases hp with rfl | hp
    · exact h.1 y List.mem_cons_self
    · exact asc_pairs h.2 p (by simpa using hp)
theorem ltS_sign (a b : Nat) : ltS (tx [a]) (tx [b]) = decide (a < b) := by
  unfold ltS
  rw [show (tx [a]).cps.toList = [a] from rfl, show (tx [b]).cps.toList = [b] from rfl]
  by_cases h : a < b
  · rw [decide_eq_true h, decide_eq_true]
    exact List.Lex.rel h
  · rw [decide_eq_false h, decide_eq_false]
    intro q
    cases q with
    | rel q => exact h q
    | cons q => cases q
theorem z_is_letters : ∀ rs Q, sem_is_letters rs Q → t_is_letters w (eD Q) (startR N_is_letters rs)
  | [.z (.str l)], Q, h => by
    obtain ⟨g, q⟩ := h
    have hl := len_cs l
    have g1 := g.pos
    have g2 := g.few
    have e1 : decide ((1 : Int) ≤ ((l.length : Nat) : Int)) = true := decide_eq_true (by omega)
    have e2 : decide (((l.length : Nat) : Int) ≤ (4 : Int)) = true := decide_eq_true (by omega)
    have e3 : overF (cs "abcdefghijklmnopqrstuvwxyz") (cs l) = true := by
      unfold overF
      rw [List.all_eq_true]
      intro c hc
      have := g.az c hc
      have alpha : ∀ c, 97 ≤ c → c ≤ 122 → c ∈ cs "abcdefghijklmnopqrstuvwxyz" := by
        intro c h1 h2
        have : ∀ k < 26, 97 + k ∈ cs "abcdefghijklmnopqrstuvwxyz" := by decide +kernel
        have := this (c - 97) (by omega)
        rwa [show 97 + (c - 97) = c by omega] at this
      exact decide_eq_true (alpha c this.1 this.2)
    have e4 : "str" = "str" := rfl
    simp only [t_is_letters, sem_is_over, dSeq, dNext, dIfS, dExpr, dRet, dRetN, dSet, dAsg, dPar, dPar3, dParN, setL, gdName, gdNil, gdCons, gdTup, lenIs, dTest, dTru, truD, dAnd, dOr, dNot, dAndV, dOrV, dNotV, dIf, dVar, dC, d2, d1, dChain, dCall, dCallP, dCB, dTup, dLst, dSl, fSl, dRev, dRd, tyD, dMut, aNil, aCons, aStar, itemsD, oNone, oSome, fLt, fLe, fGt, fGe, fCmp, fAdd, fSub, fMul, fMod, fFdiv, fPow, fShl, fShr, fAnd, fOr, fII, fII0, fI, fNeg, fIs, fIx, fLen, fTuple, fList, fSum, fMax, fMin, fAny, fAll, fAbs, fInt, fDivmodW, fIsi, tyS, isK, isKs, tysD, fStarts, fEndsw, fAppend, fExtend, fPop, fPopAt, fReverse, fClear, viewR, viewL, frzR, frzL, argR, argL, stR, stL, outR, keyD, keysD, startR, D.py, D.pys, dPotIx, gdPot, dYes, dLenSet, List.map_cons, List.map_nil, List.length_cons, List.length_nil, List.replicate_succ, List.replicate_zero, List.cons_append, List.nil_append, List.append_nil, List.getElem?_cons_zero, List.getElem?_cons_succ, List.getElem?_nil, List.set_cons_zero, List.set_cons_succ, List.set_nil, Nat.reduceSub, Nat.reduceAdd, Option.map_some, Bool.false_eq_true, if_true, if_false, Bool.not_true, Bool.not_false, Bool.and_true, Bool.true_and, Bool.and_false, Bool.false_and, Dl.bne_false, Dl.bne_true, frzL_zs, e1, e2, e3, beq_self_eq_true]
    refine ⟨by omega, ?_⟩
    have e5 : zipD (signsD l) (signsD (cutS l (some 1) none)) = ((cs l).zip ((cs l).drop 1)).map fun p => D.tup [.str (tx [p.1]), .str (tx [p.2])] := by
      have : cutS l (some 1) none = tx ((cs l).drop 1) := by rw [cut_str]; exact congrArg tx (cutA_from (cs l) 1)
      rw [this]
      unfold zipD signsD
      rw [show (tx ((cs l).drop 1)).cps.toList = (cs l).drop 1 from cs_tx _, List.zip_map, List.map_map]
      rfl
    show lcD [1, 2] _ dYes (bApp _) (zipD (signsD l) (signsD (cutS l (some 1) none))) [some (.z (.str l)), none, none] (.lst []) _
    rw [e5]
    refine lc_map (α := Nat × Nat) [some (.z (.str l)), none, none] (fun d => match d with | .tup [a, b] => [some (.z (.str l)), some (.z a), some (.z b)] | _ => [some (.z (.str l)), none, none]) (fun (p : Nat × Nat) => D.tup [.str (tx [p.1]), .str (tx [p.2])]) (fun (p : Nat × Nat) => D.bl (decide (p.1 < p.2))) ?_ _ _ rfl (fun p _ K k => k) (fun p _ K k => ?_) ?_ ?_
    · intro d
      split <;> rfl
    · have := k (.z (.bl (decide (p.1 < p.2)))) (.inl rfl)
      rw [← ltS_sign] at this
      exact this
    · refine size_of ?_
      rw [List.length_zip, List.length_drop]
      omega
    · rw [show (((cs l).zip ((cs l).drop 1)).map fun p => D.bl (decide (p.1 < p.2))) = (((cs l).zip ((cs l).drop 1)).map fun p => decide (p.1 < p.2)).map D.bl by rw [List.map_map]; rfl]
      show (match blsD ((((cs l).zip ((cs l).drop 1)).map fun p => decide (p.1 < p.2)).map D.bl) with | some bs => Q (.z (.bl (bs.all id))) | none => False)
      rw [blsD_map]
      have e6 : (((cs l).zip ((cs l).drop 1)).map fun p => decide (p.1 < p.2)).all id = true := by
        rw [List.all_map, List.all_eq_true]
        exact fun p hp => decide_eq_true (asc_pairs g.asc p hp)
      simp only [e6]
      exact q
theorem z_check_letters : ∀ rs Q, sem_check_letters rs Q → t_check_letters w (eD Q) (startR N_check_letters rs)
  | [.z (.str l)], Q, h => ⟨h.1, h.2⟩
end Dl
set_option autoImplicit false
set_option Elab.async false
set_option linter.all false
set_option maxRecDepth 100000
namespace Dl
open PySem PySem.Spec PyProof.Rows L2 LamX
set_option maxHeartbeats 400000
variable (w : World)
theorem z_check_ahead : ∀ rs Q, sem_check_ahead rs Q → t_check_ahead w (eD Q) (startR N_check_ahead rs)
  | [.z (.int d)], Q, h => by
    refine ⟨h.1, ?_⟩
    show (if decide ((3 : Int) < d) = true then _ else _)
    rw [if_neg (by have := h.2.1; simp; omega)]
    exact h.2.2
theorem z_windows : ∀ rs Q, sem_windows rs Q → t_windows w (eD Q) (startR N_windows rs)
  | [.z (.str l), .z (.int d)], Q, ⟨g, h0, h3, q⟩ => ⟨g, h0, h3, by have := g.pos; rwa [len_cs] at this, by have := g.few; rwa [len_cs] at this, h0, h3, q⟩
theorem z_following : ∀ rs Q, sem_following rs Q → t_following w (eD Q) (startR N_following rs)
  | [.z (.str l), .z (.int d), .z (.str v)], Q, ⟨g, h0, h3, hv, hs, hw, q⟩ => ⟨g, h0, h3, h0, hv, hw, by have := g.few; rwa [len_cs] at this, hv, hs, q⟩
theorem z_check_window : ∀ rs Q, sem_check_window rs Q → t_check_window w (eD Q) (startR N_check_window rs)
  | [.z (.str l), .z (.int d), .z (.str v)], Q, ⟨h0, hv, hw, q⟩ => by
    refine ⟨hv, h0, ?_⟩
    show (if (!isWin (cs l) d.toNat (cs v)) = true then _ else _)
    rw [hw]
    exact q
theorem z_is_window : ∀ rs Q, sem_is_window rs Q → t_is_window w (eD Q) (startR N_is_window rs)
  | [.z (.str l), .z (.int d), .z (.str v)], Q, ⟨hv, h0, q⟩ => by
    have e1 : Txt.endswith v "." = decide ((cs v).getLast? = some 46) := by
      have := ends_sign (cs v) 46
      rw [tx_cs] at this
      exact this
    have e2 : cutS v none (some (-1)) = tx (cs v).dropLast := by rw [cut_str, cutA_but]
    have hl := len_cs v
    refine ⟨rfl, ?_⟩
    show (if Txt.endswith v "." = true then _ else _)
    rw [e1]
    unfold isWin at q
    by_cases h : (cs v).getLast? = some 46
    · rw [if_pos (decide_eq_true h)]
      rw [if_pos h] at q
      have ed : decide (((v.length : Nat) : Int) ≤ d) = decide ((cs v).length ≤ d.toNat) := by
        rw [hl]
        by_cases z : v.length ≤ d.toNat
        · rw [decide_eq_true z, decide_eq_true (by omega)]
        · rw [decide_eq_false z, decide_eq_false (by omega)]
      simp only [sem_is_over, dSeq, dNext, dIfS, dExpr, dRet, dRetN, dSet, dAsg, dPar, dPar3, dParN, setL, gdName, gdNil, gdCons, gdTup, lenIs, dTest, dTru, truD, dAnd, dOr, dNot, dAndV, dOrV, dNotV, dIf, dVar, dC, d2, d1, dChain, dCall, dCallP, dCB, dTup, dLst, dSl, fSl, dRev, dRd, tyD, dMut, aNil, aCons, aStar, itemsD, oNone, oSome, fLt, fLe, fGt, fGe, fCmp, fAdd, fSub, fMul, fMod, fFdiv, fPow, fShl, fShr, fAnd, fOr, fII, fII0, fI, fNeg, fIs, fIx, fLen, fTuple, fList, fSum, fMax, fMin, fAny, fAll, fAbs, fInt, fDivmodW, fIsi, tyS, isK, isKs, tysD, fStarts, fEndsw, fAppend, fExtend, fPop, fPopAt, fReverse, fClear, viewR, viewL, frzR, frzL, argR, argL, stR, stL, outR, keyD, keysD, startR, D.py, D.pys, dPotIx, gdPot, dYes, dLenSet, List.map_cons, List.map_nil, List.length_cons, List.length_nil, List.replicate_succ, List.replicate_zero, List.cons_append, List.nil_append, List.append_nil, List.getElem?_cons_zero, List.getElem?_cons_succ, List.getElem?_nil, List.set_cons_zero, List.set_cons_succ, List.set_nil, Nat.reduceSub, Nat.reduceAdd, Option.map_some, Bool.false_eq_true, if_true, if_false, Bool.not_true, Bool.not_false, Bool.and_true, Bool.true_and, Bool.and_false, Bool.false_and, Dl.bne_false, Dl.bne_true, frzL_zs]
      rw [ed]
      cases eb : decide ((cs v).length ≤ d.toNat) with
      | false => rw [eb] at q; exact q
      | true =>
        rw [eb, Bool.true_and] at q
        simp only
        rw [e2, cs_tx]
        refine ⟨?_, q⟩
        rw [tx_len, List.length_dropLast]
        have := hl
        show (cs v).length - 1 ≤ 1000
        omega
    · rw [if_neg (by rw [decide_eq_true_eq]; exact h)]
      rw [if_neg h] at q
      have ed : decide (((v.length : Nat) : Int) = d) = decide ((cs v).length = d.toNat) := by
        rw [hl]
        by_cases z : v.length = d.toNat
        · rw [decide_eq_true z, decide_eq_true (by omega)]
        · rw [decide_eq_false z, decide_eq_false (by omega)]
      simp only [sem_is_over, dSeq, dNext, dIfS, dExpr, dRet, dRetN, dSet, dAsg, dPar, dPar3, dParN, setL, gdName, gdNil, gdCons, gdTup, lenIs, dTest, dTru, truD, dAnd, dOr, dNot, dAndV, dOrV, dNotV, dIf, dVar, dC, d2, d1, dChain, dCall, dCallP, dCB, dTup, dLst, dSl, fSl, dRev, dRd, tyD, dMut, aNil, aCons, aStar, itemsD, oNone, oSome, fLt, fLe, fGt, fGe, fCmp, fAdd, fSub, fMul, fMod, fFdiv, fPow, fShl, fShr, fAnd, fOr, fII, fII0, fI, fNeg, fIs, fIx, fLen, fTuple, fList, fSum, fMax, fMin, fAny, fAll, fAbs, fInt, fDivmodW, fIsi, tyS, isK, isKs, tysD, fStarts, fEndsw, fAppend, fExtend, fPop, fPopAt, fReverse, fClear, viewR, viewL, frzR, frzL, argR, argL, stR, stL, outR, keyD, keysD, startR, D.py, D.pys, dPotIx, gdPot, dYes, dLenSet, List.map_cons, List.map_nil, List.length_cons, List.length_nil, List.replicate_succ, List.replicate_zero, List.cons_append, List.nil_append, List.append_nil, List.getElem?_cons_zero, List.getElem?_cons_succ, List.getElem?_nil, List.set_cons_zero, List.set_cons_succ, List.set_nil, Nat.reduceSub, Nat.reduceAdd, Option.map_some, Bool.false_eq_true, if_true, if_false, Bool.not_true, Bool.not_false, Bool.and_true, Bool.true_and, Bool.and_false, Bool.false_and, Dl.bne_false, Dl.bne_true, frzL_zs]
      refine fEq_int ?_
      rw [ed]
      cases eb : decide ((cs v).length = d.toNat) with
      | false => rw [eb] at q; exact q
      | true =>
        rw [eb, Bool.true_and] at q
        exact ⟨hv, q⟩
theorem manyF_small : ∀ n ≤ 4, ∀ d ≤ 3, manyF n d ≤ 85 := by decide
theorem rowF_len (l : List Nat) (h : 1 ≤ l.length) : ∀ f k, (rowF l f k).length ≤ f := by
  intro f
  induction f with
  | zero => intro k; exact Nat.le_refl _
  | succ f ih =>
    intro k
    show (if k = 0 then [] else rowF l f ((k - 1) / l.length) ++ (l[(k - 1) % l.length]?).toList).length ≤ f + 1
    split
    · simp
    · rw [List.length_append]
      have := ih ((k - 1) / l.length)
      have : ((l[(k - 1) % l.length]?).toList).length ≤ 1 := by cases l[(k - 1) % l.length]? <;> simp
      omega
theorem z_all_windows : ∀ rs Q, sem_all_windows rs Q → t_all_windows w (eD Q) (startR N_all_windows rs)
  | [.z (.str l), .z (.int d)], Q, ⟨h1, h4, h0, h3, q⟩ => by
    have hl : 1 ≤ (cs l).length := by rw [len_cs]; exact h1
    have hm : manyF l.length d.toNat ≤ 85 := manyF_small _ h4 _ (by omega)
    refine ⟨h4, h0, h3, ⟨by omega, by omega⟩, ?_⟩
    show lcD [3] _ dYes (bApp _) (rangeD 0 (manyF l.length d.toNat)) [some (.z (.str l)), some (.z (.int d)), none, none, none] (.lst []) _
    refine lc_map [some (.z (.str l)), some (.z (.int d)), none, none, none] (fun x => [some (.z (.str l)), some (.z (.int d)), none, some (.z x), none]) (fun (k : Nat) => D.int (0 + (k : Int))) (fun k => D.str (tx (rowF (cs l) k k))) (fun _ => rfl) _ _ rfl (fun k _ K q => q) (fun k hk K q => ?_) ?_ ?_
    · have hk := List.mem_range.mp hk
      have e : ((0 : Int) + (k : Int)).toNat = k := by omega
      refine ⟨h1, h4, by omega, by omega, ?_⟩
      rw [e]
      exact q _ (.inl rfl)
    · rw [List.length_range]
      exact size_of (by omega)
    · show lcD [4] _ dYes (bApp _) ((List.range (manyF l.length d.toNat)).map fun k => D.str (tx (rowF (cs l) k k))) [some (.z (.str l)), some (.z (.int d)), some (.z (.lst ((List.range (manyF l.length d.toNat)).map fun k => D.str (tx (rowF (cs l) k k))))), none, none] (.lst []) _
      refine lc_map [some (.z (.str l)), some (.z (.int d)), some (.z (.lst ((List.range (manyF l.length d.toNat)).map fun k => D.str (tx (rowF (cs l) k k))))), none, none]
        (fun x => [some (.z (.str l)), some (.z (.int d)), some (.z (.lst ((List.range (manyF l.length d.toNat)).map fun k => D.str (tx (rowF (cs l) k k))))), none, some (.z x)])
        (fun (k : Nat) => D.str (tx (rowF (cs l) k k))) (fun k => D.str (tx (let r := rowF (cs l) k k; if r.length = d.toNat then r else r ++ [46]))) (fun _ => rfl) _ _ rfl (fun k _ K q => q) (fun k hk K q => ?_) ?_ ?_
      · have hk := List.mem_range.mp hk
        have hr := rowF_len (cs l) hl k k
        simp only [dSeq, dNext, dIfS, dExpr, dRet, dRetN, dSet, dAsg, dPar, dPar3, dParN, setL, gdName, gdNil, gdCons, gdTup, lenIs, dTest, dTru, truD, dAnd, dOr, dNot, dAndV, dOrV, dNotV, dIf, dVar, dC, d2, d1, dChain, dCall, dCallP, dCB, dTup, dLst, dSl, fSl, dRev, dRd, tyD, dMut, aNil, aCons, aStar, itemsD, oNone, oSome, fLt, fLe, fGt, fGe, fCmp, fAdd, fSub, fMul, fMod, fFdiv, fPow, fShl, fShr, fAnd, fOr, fII, fII0, fI, fNeg, fIs, fIx, fLen, fTuple, fList, fSum, fMax, fMin, fAny, fAll, fAbs, fInt, fDivmodW, fIsi, tyS, isK, isKs, tysD, fStarts, fEndsw, fAppend, fExtend, fPop, fPopAt, fReverse, fClear, viewR, viewL, frzR, frzL, argR, argL, stR, stL, outR, keyD, keysD, startR, D.py, D.pys, dPotIx, gdPot, dYes, dLenSet, List.map_cons, List.map_nil, List.length_cons, List.length_nil, List.replicate_succ, List.replicate_zero, List.cons_append, List.nil_append, List.append_nil, List.getElem?_cons_zero, List.getElem?_cons_succ, List.getElem?_nil, List.set_cons_zero, List.set_cons_succ, List.set_nil, Nat.reduceSub, Nat.reduceAdd, Option.map_some, Bool.false_eq_true, if_true, if_false, Bool.not_true, Bool.not_false, Bool.and_true, Bool.true_and, Bool.and_false, Bool.false_and, Dl.bne_false, Dl.bne_true, frzL_zs]
        refine fEq_int ?_
        show (if decide ((((tx (rowF (cs l) k k)).length : Nat) : Int) = d) = true then _ else _)
        rw [tx_len]
        by_cases hd : (rowF (cs l) k k).length = d.toNat
        · rw [if_pos (decide_eq_true (by omega))]
          refine q _ (.inl ?_)
          rw [if_pos hd]
        · rw [if_neg (by simp; omega)]
          refine ⟨?_, q _ (.inl ?_)⟩
          · rw [tx_len]
            refine size_of ?_
            show _ + 1 ≤ _
            omega
          · rw [if_neg hd]
            exact congrArg (fun z => R.z (.str z)) (tx_app _ [46])
      · rw [List.length_range]
        exact size_of (by omega)
      · rw [show txs (winF (cs l) d.toNat) = (List.range (manyF l.length d.toNat)).map fun k => D.str (tx (let r := rowF (cs l) k k; if r.length = d.toNat then r else r ++ [46])) by
          unfold txs winF
          rw [List.map_map, len_cs]
          rfl] at q
        exact q
theorem z_followers : ∀ rs Q, sem_followers rs Q → t_followers w (eD Q) (startR N_followers rs)
  | [.z (.str l), .z (.str v)], Q, ⟨h4, hv, hs, q⟩ => by
    have e1 : Txt.endswith v "." = decide ((cs v).getLast? = some 46) := by
      have := ends_sign (cs v) 46
      rw [tx_cs] at this
      exact this
    have hl := len_cs v
    have e2 : cutS v (some 1) none = tx ((cs v).drop 1) := by rw [cut_str]; exact congrArg tx (cutA_from (cs v) 1)
    have eqt : ∀ z : Str, (v = z) ↔ cs v = cs z := fun z => ⟨fun h => by rw [h], fun h => by rw [← tx_cs v, ← tx_cs z, h]⟩
    simp only [t_followers, dSeq, dNext, dIfS, dExpr, dRet, dRetN, dSet, dAsg, dPar, dPar3, dParN, setL, gdName, gdNil, gdCons, gdTup, lenIs, dTest, dTru, truD, dAnd, dOr, dNot, dAndV, dOrV, dNotV, dIf, dVar, dC, d2, d1, dChain, dCall, dCallP, dCB, dTup, dLst, dSl, fSl, dRev, dRd, tyD, dMut, aNil, aCons, aStar, itemsD, oNone, oSome, fLt, fLe, fGt, fGe, fCmp, fAdd, fSub, fMul, fMod, fFdiv, fPow, fShl, fShr, fAnd, fOr, fII, fII0, fI, fNeg, fIs, fIx, fLen, fTuple, fList, fSum, fMax, fMin, fAny, fAll, fAbs, fInt, fDivmodW, fIsi, tyS, isK, isKs, tysD, fStarts, fEndsw, fAppend, fExtend, fPop, fPopAt, fReverse, fClear, viewR, viewL, frzR, frzL, argR, argL, stR, stL, outR, keyD, keysD, startR, D.py, D.pys, dPotIx, gdPot, dYes, dLenSet, List.map_cons, List.map_nil, List.length_cons, List.length_nil, List.replicate_succ, List.replicate_zero, List.cons_append, List.nil_append, List.append_nil, List.getElem?_cons_zero, List.getElem?_cons_succ, List.getElem?_nil, List.set_cons_zero, List.set_cons_succ, List.set_nil, Nat.reduceSub, Nat.reduceAdd, Option.map_some, Bool.false_eq_true, if_true, if_false, Bool.not_true, Bool.not_false, Bool.and_true, Bool.true_and, Bool.and_false, Bool.false_and, Dl.bne_false, Dl.bne_true, frzL_zs]
    refine fEq_str (y := ".") hs (sgs_of (by decide +kernel)) ?_
    simp only
    unfold follF at q
    by_cases h1 : cs v = [46]
    · rw [if_pos (decide_eq_true ((eqt ".").mpr h1))]
      rw [if_pos h1] at q
      exact ⟨Nat.zero_le _, q⟩
    · rw [if_neg (by rw [decide_eq_true_eq]; exact fun z => h1 ((eqt ".").mp z))]
      rw [if_neg h1] at q
      refine fEq_str (y := "") hs (sgs_of (by decide +kernel)) ?_
      simp only
      have tail : (cs v = [] ∨ (cs v).getLast? = some 46) → 1 ≤ sizeLine ∧ Q (R.o (D.lst [D.str (cutS v (some 1) none)])) := fun h => by
        rw [if_pos h] at q
        rw [e2]
        exact ⟨size_of (by decide), q⟩
      by_cases h2 : cs v = []
      · rw [if_pos (decide_eq_true ((eqt "").mpr h2))]
        exact tail (.inl h2)
      · rw [if_neg (by rw [decide_eq_true_eq]; exact fun z => h2 ((eqt "").mp z))]
        rw [e1]
        refine ⟨trivial, ?_⟩
        by_cases h3 : (cs v).getLast? = some 46
        · rw [if_pos (decide_eq_true h3)]
          exact tail (.inr h3)
        · rw [if_neg (by rw [decide_eq_true_eq]; exact h3)]
          rw [if_neg (by rintro (z | z) <;> contradiction)] at q
          have hll := len_cs l
          simp only [dComp, dIter, dSeq, dNext, dIfS, dExpr, dRet, dRetN, dSet, dAsg, dPar, dPar3, dParN, setL, gdName, gdNil, gdCons, gdTup, lenIs, dTest, dTru, truD, dAnd, dOr, dNot, dAndV, dOrV, dNotV, dIf, dVar, dC, d2, d1, dChain, dCall, dCallP, dCB, dTup, dLst, dSl, fSl, dRev, dRd, tyD, dMut, aNil, aCons, aStar, itemsD, oNone, oSome, fLt, fLe, fGt, fGe, fCmp, fAdd, fSub, fMul, fMod, fFdiv, fPow, fShl, fShr, fAnd, fOr, fII, fII0, fI, fNeg, fIs, fIx, fLen, fTuple, fList, fSum, fMax, fMin, fAny, fAll, fAbs, fInt, fDivmodW, fIsi, tyS, isK, isKs, tysD, fStarts, fEndsw, fAppend, fExtend, fPop, fPopAt, fReverse, fClear, viewR, viewL, frzR, frzL, argR, argL, stR, stL, outR, keyD, keysD, startR, D.py, D.pys, dPotIx, gdPot, dYes, dLenSet, List.map_cons, List.map_nil, List.length_cons, List.length_nil, List.replicate_succ, List.replicate_zero, List.cons_append, List.nil_append, List.append_nil, List.getElem?_cons_zero, List.getElem?_cons_succ, List.getElem?_nil, List.set_cons_zero, List.set_cons_succ, List.set_nil, Nat.reduceSub, Nat.reduceAdd, Option.map_some, Bool.false_eq_true, if_true, if_false, Bool.not_true, Bool.not_false, Bool.and_true, Bool.true_and, Bool.and_false, Bool.false_and, Dl.bne_false, Dl.bne_true, frzL_zs]
          refine ⟨size_of ?_, ?_⟩
          · show (signsD l).length + 1 ≤ _
            unfold signsD
            rw [List.length_map]
            show (cs l).length + 1 ≤ _
            omega
          · rw [show (D.str "." :: signsD l) = (46 :: cs l).map fun c => D.str (tx [c]) from rfl]
            refine lc_map [some (.z (.str l)), some (.z (.str v)), none] (fun x => [some (.z (.str l)), some (.z (.str v)), some (.z x)]) (fun c => D.str (tx [c])) (fun c => D.str (tx ((cs v).drop 1 ++ [c]))) (fun _ => rfl) _ _ rfl (fun c _ K k => k) (fun c _ K k => ?_) ?_ ?_
            · rw [← tx_app, ← e2] at k
              refine ⟨size_of ?_, k _ (.inl rfl)⟩
              rw [e2, tx_len, tx_len, List.length_drop]
              show _ + 1 ≤ _
              omega
            · refine size_of ?_
              rw [List.length_cons]
              omega
            · rw [show txs ((46 :: cs l).map fun c => (cs v).drop 1 ++ [c]) = (46 :: cs l).map fun c => D.str (tx ((cs v).drop 1 ++ [c])) by unfold txs; rw [List.map_map]; rfl] at q
              exact q
end Dl
set_option autoImplicit false
set_option Elab.async false
set_option linter.all false
set_option maxRecDepth 100000
namespace Dl
open PySem PySem.Spec PyProof.Rows L2 LamX
set_option maxHeartbeats 800000
variable (w : World)
theorem div_fd {a b : Int} (h : 0 < b) (h2 : b < 2 ^ 60) : CDivW a b := ⟨h, by
  have : b.natAbs.log2 < 60 := (Nat.log2_lt (by omega)).mpr (by omega)
  omega⟩
theorem z_law_draw : ∀ rs Q, sem_law_draw rs Q → t_law_draw w (eD Q) (startR N_law_draw rs)
  | [.p, .z (.int n)], Q, ⟨h0, h1, q⟩ => by
    simp only [t_law_draw, potOk, dSeq, dNext, dIfS, dExpr, dRet, dRetN, dSet, dAsg, dPar, dPar3, dParN, setL, gdName, gdNil, gdCons, gdTup, lenIs, dTest, dTru, truD, dAnd, dOr, dNot, dAndV, dOrV, dNotV, dIf, dVar, dC, d2, d1, dChain, dCall, dCallP, dCB, dTup, dLst, dSl, fSl, dRev, dRd, tyD, dMut, aNil, aCons, aStar, itemsD, oNone, oSome, fLt, fLe, fGt, fGe, fCmp, fAdd, fSub, fMul, fMod, fFdiv, fPow, fShl, fShr, fAnd, fOr, fII, fII0, fI, fNeg, fIs, fIx, fLen, fTuple, fList, fSum, fMax, fMin, fAny, fAll, fAbs, fInt, fDivmodW, fIsi, tyS, isK, isKs, tysD, fStarts, fEndsw, fAppend, fExtend, fPop, fPopAt, fReverse, fClear, viewR, viewL, frzR, frzL, argR, argL, stR, stL, outR, keyD, keysD, startR, D.py, D.pys, dPotIx, gdPot, dYes, dLenSet, List.map_cons, List.map_nil, List.length_cons, List.length_nil, List.replicate_succ, List.replicate_zero, List.cons_append, List.nil_append, List.append_nil, List.getElem?_cons_zero, List.getElem?_cons_succ, List.getElem?_nil, List.set_cons_zero, List.set_cons_succ, List.set_nil, Nat.reduceSub, Nat.reduceAdd, Option.map_some, Bool.false_eq_true, if_true, if_false, Bool.not_true, Bool.not_false, Bool.and_true, Bool.true_and, Bool.and_false, Bool.false_and, Dl.bne_false, Dl.bne_true, frzL_zs]
    refine ⟨.inl trivial, fun m hm => ?_⟩
    by_cases c : decide ((0 : Int) < m) = true
    · rw [if_pos c]
      refine ⟨.inl trivial, fun m hm => ⟨⟨h0, by omega⟩, .inl trivial, ⟨Int.ediv_nonneg hm.1 (by omega), fun e => by cases e⟩, ?_⟩⟩
      exact q _ (Int.emod_nonneg _ (by omega)) (Int.emod_lt_of_pos _ h0)
    · rw [if_neg c]
      refine ⟨.inr trivial, fun m hm => ?_⟩
      have hm2 := hm.2 trivial
      have hm1 := hm.1
      refine ⟨mulX_small (by omega) (by decide), by decide, .inr trivial, ⟨Int.emod_nonneg _ (by decide), fun _ => ?_⟩, .inr trivial, fun m hm => ⟨.inr trivial, fun m' hm' => ?_⟩⟩
      · have := Int.emod_lt_of_pos (m * 48271 + 12343) (show (0 : Int) < 2147483629 by decide)
        omega
      · have a1 := hm.2 trivial
        have a2 := hm.1
        have a3 := hm'.2 trivial
        have a4 := hm'.1
        refine ⟨mulX_small (by omega) (by omega), by decide, div_fd (by decide) (by decide), h0, ?_⟩
        exact q _ (Int.emod_nonneg _ (by omega)) (Int.emod_lt_of_pos _ h0)
theorem z_law_pot : ∀ rs Q, sem_law_pot rs Q → t_law_pot w (eD Q) (startR N_law_pot rs)
  | [.z (.scr ns), .z (.int k)], Q, ⟨h0, h1, q⟩ => by
    have fin : ∀ x : Int, dRet (dLst (aCons (dCB fMax (aCons (dC (.int 0)) (aCons (d2 fSub (dVar 2) (d2 fPow (dC (.int 10)) (dC (.int 18)))) aNil))) (aCons (d2 fAdd (d2 fMod (d2 fMul (dCB fInt (aCons (d2 fAdd (d2 fMod (dCB fInt (aCons (dVar 2) aNil)) (dC (.int 2147483549))) (dC (.int 5))) aNil)) (d2 fPow (d2 fAdd (d2 fMul (dC (.int 2)) (dVar 1)) (dC (.int 3))) (dC (.int 3)))) (dC (.int 2147483587))) (dC (.int 1))) aNil))) (eD Q) [some (.z (.scr ns)), some (.z (.int k)), some (.z (.int x))] := fun x => by
      simp only [dSeq, dNext, dIfS, dExpr, dRet, dRetN, dSet, dAsg, dPar, dPar3, dParN, setL, gdName, gdNil, gdCons, gdTup, lenIs, dTest, dTru, truD, dAnd, dOr, dNot, dAndV, dOrV, dNotV, dIf, dVar, dC, d2, d1, dChain, dCall, dCallP, dCB, dTup, dLst, dSl, fSl, dRev, dRd, tyD, dMut, aNil, aCons, aStar, itemsD, oNone, oSome, fLt, fLe, fGt, fGe, fCmp, fAdd, fSub, fMul, fMod, fFdiv, fPow, fShl, fShr, fAnd, fOr, fII, fII0, fI, fNeg, fIs, fIx, fLen, fTuple, fList, fSum, fMax, fMin, fAny, fAll, fAbs, fInt, fDivmodW, fIsi, tyS, isK, isKs, tysD, fStarts, fEndsw, fAppend, fExtend, fPop, fPopAt, fReverse, fClear, viewR, viewL, frzR, frzL, argR, argL, stR, stL, outR, keyD, keysD, startR, D.py, D.pys, dPotIx, gdPot, dYes, dLenSet, List.map_cons, List.map_nil, List.length_cons, List.length_nil, List.replicate_succ, List.replicate_zero, List.cons_append, List.nil_append, List.append_nil, List.getElem?_cons_zero, List.getElem?_cons_succ, List.getElem?_nil, List.set_cons_zero, List.set_cons_succ, List.set_nil, Nat.reduceSub, Nat.reduceAdd, Option.map_some, Bool.false_eq_true, if_true, if_false, Bool.not_true, Bool.not_false, Bool.and_true, Bool.true_and, Bool.and_false, Bool.false_and, Dl.bne_false, Dl.bne_true, frzL_zs]
      have b1 := Int.emod_nonneg x (show (2147483549 : Int) ≠ 0 by decide)
      have b2 := Int.emod_lt_of_pos x (show (0 : Int) < 2147483549 by decide)
      have p3 : ((2 * k + 3) ^ Int.toNat 3).natAbs < 2 ^ 64 := by
        show ((2 * k + 3) ^ 3).natAbs < _
        rw [Int.natAbs_pow]
        have : (2 * k + 3).natAbs ≤ 203 := by omega
        exact Nat.lt_of_le_of_lt (Nat.pow_le_pow_left this 3) (by decide)
      refine ⟨⟨by decide, by decide, by decide⟩, by decide, mulX_small (by decide) (by omega), ⟨by decide, by decide, by omega⟩, mulX_small (by omega) p3, by decide, size_of (by decide), q _ ⟨Int.le_max_left _ _, ?_, ?_⟩⟩
      · have := Int.emod_nonneg ((x % 2147483549 + 5) * (2 * k + 3) ^ Int.toNat 3) (show (2147483587 : Int) ≠ 0 by decide)
        omega
      · have := Int.emod_lt_of_pos ((x % 2147483549 + 5) * (2 * k + 3) ^ Int.toNat 3) (show (0 : Int) < 2147483587 by decide)
        omega
    refine ⟨mulX_small (by decide) (by omega), ?_⟩
    show (if decide (k < ((ns.length : Nat) : Int)) = true then _ else _)
    by_cases c : k < ((ns.length : Nat) : Int)
    · rw [if_pos (decide_eq_true c)]
      obtain ⟨j, rfl⟩ : ∃ j : Nat, k = (j : Int) := ⟨k.toNat, by omega⟩
      have hj : j < ns.length := by omega
      simp only [dSet, dSeq, dNext, dIfS, dExpr, dRet, dRetN, dSet, dAsg, dPar, dPar3, dParN, setL, gdName, gdNil, gdCons, gdTup, lenIs, dTest, dTru, truD, dAnd, dOr, dNot, dAndV, dOrV, dNotV, dIf, dVar, dC, d2, d1, dChain, dCall, dCallP, dCB, dTup, dLst, dSl, fSl, dRev, dRd, tyD, dMut, aNil, aCons, aStar, itemsD, oNone, oSome, fLt, fLe, fGt, fGe, fCmp, fAdd, fSub, fMul, fMod, fFdiv, fPow, fShl, fShr, fAnd, fOr, fII, fII0, fI, fNeg, fIs, fIx, fLen, fTuple, fList, fSum, fMax, fMin, fAny, fAll, fAbs, fInt, fDivmodW, fIsi, tyS, isK, isKs, tysD, fStarts, fEndsw, fAppend, fExtend, fPop, fPopAt, fReverse, fClear, viewR, viewL, frzR, frzL, argR, argL, stR, stL, outR, keyD, keysD, startR, D.py, D.pys, dPotIx, gdPot, dYes, dLenSet, List.map_cons, List.map_nil, List.length_cons, List.length_nil, List.replicate_succ, List.replicate_zero, List.cons_append, List.nil_append, List.append_nil, List.getElem?_cons_zero, List.getElem?_cons_succ, List.getElem?_nil, List.set_cons_zero, List.set_cons_succ, List.set_nil, Nat.reduceSub, Nat.reduceAdd, Option.map_some, Bool.false_eq_true, if_true, if_false, Bool.not_true, Bool.not_false, Bool.and_true, Bool.true_and, Bool.and_false, Bool.false_and, Dl.bne_false, Dl.bne_true, frzL_zs]
      rw [atI_nat hj, List.getElem?_eq_getElem hj]
      have := fin (if ns[j] < 0 then -ns[j] else ns[j])
      simp only [dSeq, dNext, dIfS, dExpr, dRet, dRetN, dSet, dAsg, dPar, dPar3, dParN, setL, gdName, gdNil, gdCons, gdTup, lenIs, dTest, dTru, truD, dAnd, dOr, dNot, dAndV, dOrV, dNotV, dIf, dVar, dC, d2, d1, dChain, dCall, dCallP, dCB, dTup, dLst, dSl, fSl, dRev, dRd, tyD, dMut, aNil, aCons, aStar, itemsD, oNone, oSome, fLt, fLe, fGt, fGe, fCmp, fAdd, fSub, fMul, fMod, fFdiv, fPow, fShl, fShr, fAnd, fOr, fII, fII0, fI, fNeg, fIs, fIx, fLen, fTuple, fList, fSum, fMax, fMin, fAny, fAll, fAbs, fInt, fDivmodW, fIsi, tyS, isK, isKs, tysD, fStarts, fEndsw, fAppend, fExtend, fPop, fPopAt, fReverse, fClear, viewR, viewL, frzR, frzL, argR, argL, stR, stL, outR, keyD, keysD, startR, D.py, D.pys, dPotIx, gdPot, dYes, dLenSet, List.map_cons, List.map_nil, List.length_cons, List.length_nil, List.replicate_succ, List.replicate_zero, List.cons_append, List.nil_append, List.append_nil, List.getElem?_cons_zero, List.getElem?_cons_succ, List.getElem?_nil, List.set_cons_zero, List.set_cons_succ, List.set_nil, Nat.reduceSub, Nat.reduceAdd, Option.map_some, Bool.false_eq_true, if_true, if_false, Bool.not_true, Bool.not_false, Bool.and_true, Bool.true_and, Bool.and_false, Bool.false_and, Dl.bne_false, Dl.bne_true, frzL_zs] at this
      exact this
    · rw [if_neg (by rw [decide_eq_true_eq]; exact c)]
      exact fin _
theorem z_law_pick : ∀ rs Q, sem_law_pick rs Q → t_law_pick w (eD Q) (startR N_law_pick rs)
  | [.p, .z (.str s)], Q, ⟨h1, h2, q⟩ => by
    refine ⟨by show (0 : Int) < ((s.length : Nat) : Int); omega, by show ((s.length : Nat) : Int) < 1000; omega, fun k k0 k1 => ?_⟩
    obtain ⟨j, rfl⟩ : ∃ j : Nat, k = (j : Int) := ⟨k.toNat, by omega⟩
    have hj : j < (cs s).length := by
      rw [len_cs]
      have : ((j : Nat) : Int) < ((s.length : Nat) : Int) := k1
      omega
    show (match atI (cs s) (j : Int) with | some c => _ | none => _)
    rw [atI_nat hj, List.getElem?_eq_getElem hj]
    exact q _ (List.getElem_mem hj)
  | [.p, .z (.lst ds)], Q, ⟨h1, h2, q⟩ => by
    refine ⟨by show (0 : Int) < ((ds.length : Nat) : Int); omega, by show ((ds.length : Nat) : Int) < 1000; omega, fun k k0 k1 => ?_⟩
    obtain ⟨j, rfl⟩ : ∃ j : Nat, k = (j : Int) := ⟨k.toNat, by omega⟩
    have hj : j < ds.length := by
      have : ((j : Nat) : Int) < ((ds.length : Nat) : Int) := k1
      omega
    show (match atI ds (j : Int) with | some c => _ | none => _)
    rw [atI_nat hj, List.getElem?_eq_getElem hj]
    exact q _ (List.getElem_mem hj)
theorem z_law_many : ∀ rs Q, sem_law_many rs Q → t_law_many w (eD Q) (startR N_law_many rs)
  | [.z (.int n), .z (.int m)], Q, ⟨n0, n4, h0, h3, q⟩ => by
    refine ⟨⟨by omega, by omega⟩, ?_⟩
    obtain ⟨a, rfl⟩ : ∃ a : Nat, n = (a : Int) := ⟨n.toNat, by omega⟩
    have go : ∀ (k j : Nat) (x : Option R), j + k = m.toNat → forD (gdName 3) (dSet 2 (d2 fAdd (d2 fMul (dVar 2) (dVar 0)) (dC (.int 1))))
        { nx := dRet (dVar 2) (eD Q), rt := Q } ((List.range' j k).map fun (i : Nat) => D.int (0 + (i : Int))) [some (.z (.int (a : Nat))), some (.z (.int m)), some (.z (.int (manyF a j : Nat))), x] := by
      intro k
      induction k with
      | zero =>
        intro j x e
        show Q _
        rw [← e] at q
        exact q
      | succ k ih =>
        intro j x e
        have hm := manyF_small a (by omega) j (by omega)
        refine ⟨mulX_small (by omega) (by omega), ?_⟩
        have := ih (j + 1) (some (.z (.int (0 + (j : Int))))) (by omega)
        have e2 : ((manyF a j : Nat) : Int) * ((a : Nat) : Int) + 1 = ((manyF a (j + 1) : Nat) : Int) := by
          show _ = ((manyF a j * a + 1 : Nat) : Int)
          rw [Int.natCast_add, Int.natCast_mul]
          rfl
        rw [← e2] at this
        exact this
    have := go m.toNat 0 none (by omega)
    rw [← List.range_eq_range'] at this
    exact this
theorem z_law_seen : ∀ rs Q, sem_law_seen rs Q → t_law_seen w (eD Q) (startR N_law_seen rs)
  | [.z (.str v), .z (.int p), .z (.int d)], Q, ⟨hv, hp, hd, q⟩ => by
    obtain ⟨a, rfl⟩ : ∃ a : Nat, p = (a : Int) := ⟨p.toNat, by omega⟩
    obtain ⟨b, rfl⟩ : ∃ b : Nat, d = (b : Int) := ⟨d.toNat, by omega⟩
    have e1 : cutS v (some ((a : Nat) : Int)) none = tx ((cs v).drop a) := by rw [cut_str, cutA_from]
    have hl := len_cs v
    simp only [t_law_seen, dSeq, dNext, dIfS, dExpr, dRet, dRetN, dSet, dAsg, dPar, dPar3, dParN, setL, gdName, gdNil, gdCons, gdTup, lenIs, dTest, dTru, truD, dAnd, dOr, dNot, dAndV, dOrV, dNotV, dIf, dVar, dC, d2, d1, dChain, dCall, dCallP, dCB, dTup, dLst, dSl, fSl, dRev, dRd, tyD, dMut, aNil, aCons, aStar, itemsD, oNone, oSome, fLt, fLe, fGt, fGe, fCmp, fAdd, fSub, fMul, fMod, fFdiv, fPow, fShl, fShr, fAnd, fOr, fII, fII0, fI, fNeg, fIs, fIx, fLen, fTuple, fList, fSum, fMax, fMin, fAny, fAll, fAbs, fInt, fDivmodW, fIsi, tyS, isK, isKs, tysD, fStarts, fEndsw, fAppend, fExtend, fPop, fPopAt, fReverse, fClear, viewR, viewL, frzR, frzL, argR, argL, stR, stL, outR, keyD, keysD, startR, D.py, D.pys, dPotIx, gdPot, dYes, dLenSet, List.map_cons, List.map_nil, List.length_cons, List.length_nil, List.replicate_succ, List.replicate_zero, List.cons_append, List.nil_append, List.append_nil, List.getElem?_cons_zero, List.getElem?_cons_succ, List.getElem?_nil, List.set_cons_zero, List.set_cons_succ, List.set_nil, Nat.reduceSub, Nat.reduceAdd, Option.map_some, Bool.false_eq_true, if_true, if_false, Bool.not_true, Bool.not_false, Bool.and_true, Bool.true_and, Bool.and_false, Bool.false_and, Dl.bne_false, Dl.bne_true, frzL_zs]
    rw [e1, cut_tx, cutA_to, tx_len]
    unfold seenF at q
    rw [Int.toNat_natCast, Int.toNat_natCast] at q
    by_cases c : b ≤ ((cs v).drop a).length
    · rw [if_pos (decide_eq_true (by omega))]
      rw [if_pos c] at q
      exact q
    · rw [if_neg (by rw [decide_eq_true_eq]; omega)]
      rw [if_neg c, ← tx_app] at q
      refine ⟨size_of ?_, q⟩
      rw [List.length_drop]
      show _ + 1 ≤ _
      omega
theorem z_law_thens : ∀ rs Q, sem_law_thens rs Q → t_law_thens w (eD Q) (startR N_law_thens rs)
  | [.z (.str l), .z (.str v)], Q, ⟨h4, hv, hs, q⟩ => by
    simp only [t_law_thens, dSeq, dNext, dIfS, dExpr, dRet, dRetN, dSet, dAsg, dPar, dPar3, dParN, setL, gdName, gdNil, gdCons, gdTup, lenIs, dTest, dTru, truD, dAnd, dOr, dNot, dAndV, dOrV, dNotV, dIf, dVar, dC, d2, d1, dChain, dCall, dCallP, dCB, dTup, dLst, dSl, fSl, dRev, dRd, tyD, dMut, aNil, aCons, aStar, itemsD, oNone, oSome, fLt, fLe, fGt, fGe, fCmp, fAdd, fSub, fMul, fMod, fFdiv, fPow, fShl, fShr, fAnd, fOr, fII, fII0, fI, fNeg, fIs, fIx, fLen, fTuple, fList, fSum, fMax, fMin, fAny, fAll, fAbs, fInt, fDivmodW, fIsi, tyS, isK, isKs, tysD, fStarts, fEndsw, fAppend, fExtend, fPop, fPopAt, fReverse, fClear, viewR, viewL, frzR, frzL, argR, argL, stR, stL, outR, keyD, keysD, startR, D.py, D.pys, dPotIx, gdPot, dYes, dLenSet, List.map_cons, List.map_nil, List.length_cons, List.length_nil, List.replicate_succ, List.replicate_zero, List.cons_append, List.nil_append, List.append_nil, List.getElem?_cons_zero, List.getElem?_cons_succ, List.getElem?_nil, List.set_cons_zero, List.set_cons_succ, List.set_nil, Nat.reduceSub, Nat.reduceAdd, Option.map_some, Bool.false_eq_true, if_true, if_false, Bool.not_true, Bool.not_false, Bool.and_true, Bool.true_and, Bool.and_false, Bool.false_and, Dl.bne_false, Dl.bne_true, frzL_zs]
    have hl := len_cs v
    have hll := len_cs l
    have e2 : cutS v (some 1) none = tx ((cs v).drop 1) := by rw [cut_str]; exact congrArg tx (cutA_from (cs v) 1)
    have eqt : ∀ z : Str, (v = z) ↔ cs v = cs z := fun z => ⟨fun h => by rw [h], fun h => by rw [← tx_cs v, ← tx_cs z, h]⟩
    have e0 : cs v = cs "" ↔ cs v = [] := Iff.rfl
    have ed : cs v = cs "." ↔ cs v = [46] := Iff.rfl
    refine ⟨size_of (by decide), ?_⟩
    refine fIn_tup (ys := ["", "."]) hs (fun y hy => ?_) ?_
    · simp only [List.mem_cons, List.not_mem_nil, or_false] at hy
      rcases hy with rfl | rfl <;> exact sgs_of (by decide +kernel)
    unfold follF at q
    simp only [Dl.bne_false]
    by_cases h1 : cs v = []
    · rw [if_pos (decide_eq_true (by rw [(eqt "").mpr h1]; simp))]
      refine fEq_str (y := "") hs (sgs_of (by decide +kernel)) ?_
      simp only
      rw [if_pos (decide_eq_true ((eqt "").mpr h1))]
      rw [h1] at q
      exact ⟨size_of (by decide), q⟩
    · by_cases h2 : cs v = [46]
      · rw [if_pos (decide_eq_true (by rw [(eqt ".").mpr h2]; simp))]
        refine fEq_str (y := "") hs (sgs_of (by decide +kernel)) ?_
        simp only
        rw [if_neg (by rw [decide_eq_true_eq]; exact fun z => h1 ((eqt "").mp z))]
        rw [if_pos h2] at q
        exact ⟨Nat.zero_le _, q⟩
      · rw [if_neg (by
          rw [decide_eq_true_eq]
          simp only [List.mem_cons, List.not_mem_nil, or_false]
          rintro (z | z)
          · exact h1 ((eqt "").mp z)
          · exact h2 ((eqt ".").mp z))]
        have hp : 1 ≤ (cs v).length := List.length_pos_iff.mpr h1
        have ea : atI v.cps.toList (-1) = some (cs v)[(cs v).length - 1] := by
          have := atI_neg (xs := cs v) (j := 1) (by decide) hp
          rw [List.getElem?_eq_getElem (by omega)] at this
          exact this
        have eg : (cs v).getLast? = some (cs v)[(cs v).length - 1] := by
          rw [List.getLast?_eq_getElem?, List.getElem?_eq_getElem (by omega)]
        rw [ea]
        simp only
        refine fEq_str (x := tx [(cs v)[(cs v).length - 1]]) (y := ".") (fun c hc => ?_) (sgs_of (by decide +kernel)) ?_
        · rw [show (tx [(cs v)[(cs v).length - 1]]).cps.toList = [(cs v)[(cs v).length - 1]] from rfl, List.mem_singleton] at hc
          rw [hc]
          exact hs _ (List.getElem_mem _)
        · simp only
          rw [if_neg h2] at q
          have ec : (tx [(cs v)[(cs v).length - 1]] = ".") ↔ (cs v).getLast? = some 46 := by
            rw [eg, show (("." : Str)) = tx [46] from rfl, tx_inj]
            simp
          by_cases h3 : (cs v).getLast? = some 46
          · rw [if_pos (decide_eq_true (ec.mpr h3)), e2]
            rw [if_pos (.inr h3)] at q
            exact ⟨size_of (by decide), q⟩
          · rw [if_neg (by rw [decide_eq_true_eq]; exact fun z => h3 (ec.mp z)), e2]
            rw [if_neg (by rintro (z | z) <;> contradiction)] at q
            refine ⟨?_, size_of (by decide), ?_⟩
            · rw [tx_len, List.length_drop]
              refine size_of ?_
              show _ + 1 ≤ _
              omega
            · simp only [dComp, dIter, dSeq, dNext, dIfS, dExpr, dRet, dRetN, dSet, dAsg, dPar, dPar3, dParN, setL, gdName, gdNil, gdCons, gdTup, lenIs, dTest, dTru, truD, dAnd, dOr, dNot, dAndV, dOrV, dNotV, dIf, dVar, dC, d2, d1, dChain, dCall, dCallP, dCB, dTup, dLst, dSl, fSl, dRev, dRd, tyD, dMut, aNil, aCons, aStar, itemsD, oNone, oSome, fLt, fLe, fGt, fGe, fCmp, fAdd, fSub, fMul, fMod, fFdiv, fPow, fShl, fShr, fAnd, fOr, fII, fII0, fI, fNeg, fIs, fIx, fLen, fTuple, fList, fSum, fMax, fMin, fAny, fAll, fAbs, fInt, fDivmodW, fIsi, tyS, isK, isKs, tysD, fStarts, fEndsw, fAppend, fExtend, fPop, fPopAt, fReverse, fClear, viewR, viewL, frzR, frzL, argR, argL, stR, stL, outR, keyD, keysD, startR, D.py, D.pys, dPotIx, gdPot, dYes, dLenSet, List.map_cons, List.map_nil, List.length_cons, List.length_nil, List.replicate_succ, List.replicate_zero, List.cons_append, List.nil_append, List.append_nil, List.getElem?_cons_zero, List.getElem?_cons_succ, List.getElem?_nil, List.set_cons_zero, List.set_cons_succ, List.set_nil, Nat.reduceSub, Nat.reduceAdd, Option.map_some, Bool.false_eq_true, if_true, if_false, Bool.not_true, Bool.not_false, Bool.and_true, Bool.true_and, Bool.and_false, Bool.false_and, Dl.bne_false, Dl.bne_true, frzL_zs]
              show lcD [2] _ dYes (bApp _) ((cs l).map fun c => D.str (tx [c])) [some (.z (.str l)), some (.z (.str v)), none] (.lst []) _
              refine lc_map [some (.z (.str l)), some (.z (.str v)), none] (fun x => [some (.z (.str l)), some (.z (.str v)), some (.z x)]) (fun c => D.str (tx [c])) (fun c => D.str (tx ((cs v).drop 1 ++ [c]))) (fun _ => rfl) _ _ rfl (fun c _ K k => k) (fun c _ K k => ?_) ?_ ?_
              · rw [← tx_app, ← e2] at k
                refine ⟨size_of ?_, k _ (.inl rfl)⟩
                rw [e2, tx_len, tx_len, List.length_drop]
                show _ + 1 ≤ _
                omega
              · exact size_of (by omega)
              · refine ⟨?_, ?_⟩
                · rw [List.length_map]
                  refine size_of ?_
                  show 1 + _ ≤ _
                  omega
                · rw [show txs ((46 :: cs l).map fun c => (cs v).drop 1 ++ [c]) = D.str (tx ((cs v).drop 1 ++ [46])) :: (cs l).map fun c => D.str (tx ((cs v).drop 1 ++ [c])) by unfold txs; rw [List.map_map]; rfl, ← tx_app] at q
                  exact q
def vsF (l : List Nat) (j : Nat) : List (List Nat) := (List.range j).flatMap fun k => (rowsN l k).map (· ++ [46])
theorem rowsN_len (l : List Nat) : ∀ k, (rowsN l k).length = l.length ^ k
  | 0 => rfl
  | k + 1 => by
    unfold rowsN
    rw [List.length_flatMap, Nat.pow_succ, ← rowsN_len l k]
    generalize rowsN l k = rs
    induction rs with
    | nil => simp
    | cons r rs ih => rw [List.map_cons, List.sum_cons, ih, List.length_map, List.length_cons, Nat.add_mul, Nat.one_mul, Nat.add_comm]
theorem rowsN_each (l : List Nat) : ∀ k, ∀ r ∈ rowsN l k, r.length = k ∧ ∀ c ∈ r, c ∈ l
  | 0, r, h => by
    rw [List.mem_singleton.mp h]
    exact ⟨rfl, fun _ h => absurd h List.not_mem_nil⟩
  | k + 1, r, h => by
    unfold rowsN at h
    obtain ⟨r', h1, h2⟩ := List.mem_flatMap.mp h
    obtain ⟨c, h3, rfl⟩ := List.mem_map.mp h2
    obtain ⟨h4, h5⟩ := rowsN_each l k r' h1
    refine ⟨by rw [List.length_append, h4]; rfl, fun x hx => ?_⟩
    rcases List.mem_append.mp hx with hx | hx
    · exact h5 x hx
    · rw [List.mem_singleton.mp hx]; exact h3
theorem pow_small : ∀ n ≤ 4, ∀ d ≤ 3, n ^ d ≤ 64 := by decide
theorem vsF_len (l : List Nat) (h : l.length ≤ 4) : ∀ j ≤ 3, (vsF l j).length ≤ 64 * j := by
  intro j hj
  induction j with
  | zero => exact Nat.le_refl _
  | succ j ih =>
    unfold vsF
    rw [List.range_succ, List.flatMap_append, List.length_append]
    have := ih (by omega)
    unfold vsF at this
    simp only [List.flatMap_cons, List.flatMap_nil, List.append_nil, List.length_map, rowsN_len]
    have := pow_small _ h j (by omega)
    omega
theorem z_law_views : ∀ rs Q, sem_law_views rs Q → t_law_views w (eD Q) (startR N_law_views rs)
  | [.z (.str l), .z (.int d)], Q, ⟨h4, h0, h3, q⟩ => by
    simp only [t_law_views, dSeq, dNext, dIfS, dExpr, dRet, dRetN, dSet, dAsg, dPar, dPar3, dParN, setL, gdName, gdNil, gdCons, gdTup, lenIs, dTest, dTru, truD, dAnd, dOr, dNot, dAndV, dOrV, dNotV, dIf, dVar, dC, d2, d1, dChain, dCall, dCallP, dCB, dTup, dLst, dSl, fSl, dRev, dRd, tyD, dMut, aNil, aCons, aStar, itemsD, oNone, oSome, fLt, fLe, fGt, fGe, fCmp, fAdd, fSub, fMul, fMod, fFdiv, fPow, fShl, fShr, fAnd, fOr, fII, fII0, fI, fNeg, fIs, fIx, fLen, fTuple, fList, fSum, fMax, fMin, fAny, fAll, fAbs, fInt, fDivmodW, fIsi, tyS, isK, isKs, tysD, fStarts, fEndsw, fAppend, fExtend, fPop, fPopAt, fReverse, fClear, viewR, viewL, frzR, frzL, argR, argL, stR, stL, outR, keyD, keysD, startR, D.py, D.pys, dPotIx, gdPot, dYes, dLenSet, List.map_cons, List.map_nil, List.length_cons, List.length_nil, List.replicate_succ, List.replicate_zero, List.cons_append, List.nil_append, List.append_nil, List.getElem?_cons_zero, List.getElem?_cons_succ, List.getElem?_nil, List.set_cons_zero, List.set_cons_succ, List.set_nil, Nat.reduceSub, Nat.reduceAdd, Option.map_some, Bool.false_eq_true, if_true, if_false, Bool.not_true, Bool.not_false, Bool.and_true, Bool.true_and, Bool.and_false, Bool.false_and, Dl.bne_false, Dl.bne_true, frzL_zs]
    have hll := len_cs l
    refine ⟨size_of (by decide), Nat.zero_le _, ⟨by omega, by omega⟩, ?_⟩
    -- the inner walk: the longer ones
    have longer : ∀ (E : DE) (x2 x3 x4 : Option R) (rows : List (List Nat)) (acc : List (List Nat)) (x5 x7 : Option R), (∀ r ∈ rows, r.length ≤ 3) → acc.length + rows.length * 4 ≤ 1000 →
        (∀ x5 x7, E.nx [some (.z (.str l)), some (.z (.int d)), x2, x3, x4, x5, some (.o (.lst (txs (acc ++ rows.flatMap fun r => (cs l).map fun c => r ++ [c])))), x7]) →
        forD (gdName 5) (dExpr (dMut "list" 6 fExtend (aCons (dComp (D.lst []) (dIter (dVar 0)) (gdName 7) dYes (bApp (d2 fAdd (dVar 5) (dVar 7))) [7]) aNil))) E (txs rows) [some (.z (.str l)), some (.z (.int d)), x2, x3, x4, x5, some (.o (.lst (txs acc))), x7] := by
      intro E x2 x3 x4 rows
      induction rows with
      | nil =>
        intro acc x5 x7 _ _ k
        have := k x5 x7
        rw [List.flatMap_nil, List.append_nil] at this
        exact this
      | cons r rows ih =>
        intro acc x5 x7 h1 h2 k
        rw [List.length_cons] at h2
        refine ⟨ty_list, ?_⟩
        show lcD [7] _ dYes (bApp _) ((cs l).map fun c => D.str (tx [c])) [some (.z (.str l)), some (.z (.int d)), x2, x3, x4, some (.z (.str (tx r))), some (.o (.lst (txs acc))), x7] (.lst []) _
        refine lc_map [some (.z (.str l)), some (.z (.int d)), x2, x3, x4, some (.z (.str (tx r))), some (.o (.lst (txs acc))), none] (fun x => [some (.z (.str l)), some (.z (.int d)), x2, x3, x4, some (.z (.str (tx r))), some (.o (.lst (txs acc))), some (.z x)]) (fun c => D.str (tx [c])) (fun c => D.str (tx (r ++ [c]))) (fun _ => rfl) _ _ rfl (fun c _ K k => k) (fun c _ K k => ?_) ?_ ?_
        · refine ⟨?_, k _ (.inl (congrArg (fun z => R.z (.str z)) (tx_app r [c])))⟩
          rw [tx_len, tx_len]
          have := h1 r List.mem_cons_self
          refine size_of ?_
          show _ + 1 ≤ _
          omega
        · exact size_of (by omega)
        · refine ⟨?_, ?_⟩
          · unfold txs
            rw [List.length_map, List.length_map]
            exact size_of (by omega)
          · have e : txs acc ++ (cs l).map (fun c => D.str (tx (r ++ [c]))) = txs (acc ++ (cs l).map fun c => r ++ [c]) := by
              unfold txs
              rw [List.map_append, List.map_map]
              rfl
            rw [e]
            refine ih _ _ _ (fun r hr => h1 r (List.mem_cons_of_mem _ hr)) ?_ fun x5 x7 => ?_
            · rw [List.length_append, List.length_map]
              omega
            · rw [List.append_assoc]
              have := k x5 x7
              rw [List.flatMap_cons] at this
              exact this
    have go : ∀ (k j : Nat) (r2 : R) (x4 x5 x6 x7 : Option R), j + k = d.toNat → Gives r2 (.lst (txs (rowsN (cs l) j))) →
        forD (gdName 4) (dSeq (dExpr (dMut "list" 3 fExtend (aCons (dComp (D.lst []) (dIter (dVar 2)) (gdName 5) dYes (bApp (d2 fAdd (dVar 5) (dC (D.str ".")))) [5]) aNil)))
          (dSeq (dSet 6 (dLst aNil)) (dSeq (dFor (dIter (dVar 2)) (gdName 5) (dExpr (dMut "list" 6 fExtend (aCons (dComp (D.lst []) (dIter (dVar 0)) (gdName 7) dYes (bApp (d2 fAdd (dVar 5) (dVar 7))) [7]) aNil)))) (dSet 2 (dVar 6)))))
          { nx := dRet (d2 fAdd (dVar 3) (dVar 2)) (eD Q), rt := Q } ((List.range' j k).map fun (i : Nat) => D.int (0 + (i : Int))) [some (.z (.str l)), some (.z (.int d)), some r2, some (.o (.lst (txs (vsF (cs l) j)))), x4, x5, x6, x7] := by
      intro k
      induction k with
      | zero =>
        intro j r2 x4 x5 x6 x7 e g
        have hj : j ≤ 3 := by omega
        have l1 := vsF_len (cs l) (by omega) j hj
        have l2 : (rowsN (cs l) j).length ≤ 64 := by rw [rowsN_len]; exact pow_small _ (by omega) _ hj
        have fin : (txs (vsF (cs l) j)).length + (txs (rowsN (cs l) j)).length ≤ sizeLine ∧ Q (.o (.lst (txs (vsF (cs l) j) ++ txs (rowsN (cs l) j)))) := by
          refine ⟨?_, ?_⟩
          · unfold txs
            rw [List.length_map, List.length_map]
            exact size_of (by omega)
          · have e2 : txs (vsF (cs l) j) ++ txs (rowsN (cs l) j) = txs (viewsF (cs l) d.toNat) := by
              rw [← e]
              unfold txs viewsF vsF
              rw [Nat.add_zero, List.map_append]
            rw [e2]
            exact q
        rcases g with rfl | rfl <;> exact fin
      | succ k ih =>
        intro j r2 x4 x5 x6 x7 e g
        have hj : j ≤ 2 := by omega
        have l1 := vsF_len (cs l) (by omega) j (by omega)
        have l2 : (rowsN (cs l) j).length ≤ 64 := by rw [rowsN_len]; exact pow_small _ (by omega) _ (by omega)
        rcases g with rfl | rfl
        all_goals
          refine ⟨ty_list, ?_⟩
          show lcD [5] _ dYes (bApp _) ((rowsN (cs l) j).map fun w => D.str (tx w)) [some (.z (.str l)), some (.z (.int d)), some (.z (.lst (txs (rowsN (cs l) j)))), some (.o (.lst (txs (vsF (cs l) j)))), some (.z (.int (0 + (j : Int)))), x5, x6, x7] (.lst []) _
          refine lc_map [some (.z (.str l)), some (.z (.int d)), some (.z (.lst (txs (rowsN (cs l) j)))), some (.o (.lst (txs (vsF (cs l) j)))), some (.z (.int (0 + (j : Int)))), none, x6, x7] (fun x => [some (.z (.str l)), some (.z (.int d)), some (.z (.lst (txs (rowsN (cs l) j)))), some (.o (.lst (txs (vsF (cs l) j)))), some (.z (.int (0 + (j : Int)))), some (.z x), x6, x7]) (fun w => D.str (tx w)) (fun w => D.str (tx (w ++ [46]))) (fun _ => rfl) _ _ rfl (fun c _ K k => k) (fun c hc K k => ?_) ?_ ?_
          · refine ⟨?_, k _ (.inl (congrArg (fun z => R.z (.str z)) (tx_app c [46])))⟩
            rw [tx_len, (rowsN_each (cs l) j c hc).1]
            refine size_of ?_
            show _ + 1 ≤ _
            omega
          · exact size_of (by omega)
          · refine ⟨?_, ?_⟩
            · unfold txs
              rw [List.length_map, List.length_map]
              exact size_of (by omega)
            · have e2 : txs (vsF (cs l) j) ++ (rowsN (cs l) j).map (fun w => D.str (tx (w ++ [46]))) = txs (vsF (cs l) (j + 1)) := by
                unfold txs vsF
                rw [List.range_succ, List.flatMap_append, List.map_append]
                simp only [List.flatMap_cons, List.flatMap_nil, List.append_nil, List.map_map]
                rfl
              rw [e2]
              refine ⟨Nat.zero_le _, ?_⟩
              show forD (gdName 5) (dExpr (dMut "list" 6 fExtend (aCons (dComp (D.lst []) (dIter (dVar 0)) (gdName 7) dYes (bApp (d2 fAdd (dVar 5) (dVar 7))) [7]) aNil))) _ (txs (rowsN (cs l) j)) [some (.z (.str l)), some (.z (.int d)), some (.z (.lst (txs (rowsN (cs l) j)))), some (.o (.lst (txs (vsF (cs l) (j + 1))))), some (.z (.int (0 + (j : Int)))), none, some (.o (.lst (txs []))), x7]
              refine longer _ _ _ _ (rowsN (cs l) j) [] none x7 (fun r hr => by rw [(rowsN_each (cs l) j r hr).1]; omega) (by rw [List.length_nil]; omega) fun x5 x7 => ?_
              exact ih (j + 1) (.z (.lst (txs (rowsN (cs l) (j + 1))))) _ _ _ _ (by omega) (.inl rfl)
    have := go d.toNat 0 (.o (.lst [.str ""])) none none none none (by omega) (.inr rfl)
    rw [← List.range_eq_range'] at this
    exact this
end Dl
set_option autoImplicit false
set_option Elab.async false
set_option linter.all false
set_option maxRecDepth 100000
/-! the windows, as lists of signs -/
namespace Dl
open PySem PySem.Spec PyProof.Rows L2 LamX
set_option maxHeartbeats 800000
theorem win_views : ∀ (l : List Nat), 1 ≤ l.length → l.length ≤ 4 → ∀ d ≤ 3, winF l d = viewsF l d
  | [a], _, _, 0, _ => by kernel_rfl
  | [a], _, _, 1, _ => by kernel_rfl
  | [a], _, _, 2, _ => by kernel_rfl
  | [a], _, _, 3, _ => by kernel_rfl
  | [a, b], _, _, 0, _ => by kernel_rfl
  | [a, b], _, _, 1, _ => by kernel_rfl
  | [a, b], _, _, 2, _ => by kernel_rfl
  | [a, b], _, _, 3, _ => by kernel_rfl
  | [a, b, c], _, _, 0, _ => by kernel_rfl
  | [a, b, c], _, _, 1, _ => by kernel_rfl
  | [a, b, c], _, _, 2, _ => by kernel_rfl
  | [a, b, c], _, _, 3, _ => by kernel_rfl
  | [a, b, c, e], _, _, 0, _ => by kernel_rfl
  | [a, b, c, e], _, _, 1, _ => by kernel_rfl
  | [a, b, c, e], _, _, 2, _ => by kernel_rfl
  | [a, b, c, e], _, _, 3, _ => by kernel_rfl
  | _ :: _ :: _ :: _ :: _ :: _, _, h, _, _ => by simp at h
  | _, _, _, _ + 4, h => by omega
section
variable {l : List Nat}
theorem views_mem {d : Nat} {v : List Nat} (h : v ∈ viewsF l d) : (∃ r k, k < d ∧ r ∈ rowsN l k ∧ v = r ++ [46]) ∨ v ∈ rowsN l d := by
  unfold viewsF at h
  rcases List.mem_append.mp h with h | h
  · obtain ⟨k, hk, h⟩ := List.mem_flatMap.mp h
    obtain ⟨r, hr, rfl⟩ := List.mem_map.mp h
    exact .inl ⟨r, k, List.mem_range.mp hk, hr, rfl⟩
  · exact .inr h
theorem no46 (g : GoodL l) : 46 ∉ l := fun h => by have := g.az 46 h; omega
theorem last_row (g : GoodL l) {k : Nat} {r : List Nat} (h : r ∈ rowsN l k) : r.getLast? ≠ some 46 := fun e => by
  have := (rowsN_each l k r h).2 46 (List.mem_of_getLast? e)
  exact no46 g this
theorem over_row {k : Nat} {r : List Nat} (h : r ∈ rowsN l k) : overF l r = true := by
  unfold overF
  rw [List.all_eq_true]
  exact fun c hc => decide_eq_true ((rowsN_each l k r h).2 c hc)
theorem views_win (g : GoodL l) {d : Nat} {v : List Nat} (h : v ∈ viewsF l d) : isWin l d v = true := by
  unfold isWin
  rcases views_mem h with ⟨r, k, hk, hr, rfl⟩ | h
  · rw [if_pos (by simp), List.dropLast_concat, over_row hr, Bool.and_true, List.length_append, (rowsN_each l k r hr).1]
    exact decide_eq_true (by simp; omega)
  · rw [if_neg (last_row g h), over_row h, Bool.and_true]
    exact decide_eq_true (rowsN_each l d v h).1
theorem views_len {d : Nat} {v : List Nat} (h : v ∈ viewsF l d) : v.length ≤ d := by
  rcases views_mem h with ⟨r, k, hk, hr, rfl⟩ | h
  · rw [List.length_append, (rowsN_each l k r hr).1]
    simp
    omega
  · exact Nat.le_of_eq (rowsN_each l d v h).1
theorem views_sgs (g : GoodL l) {d : Nat} {v : List Nat} (h : v ∈ viewsF l d) : Sgs v := by
  rcases views_mem h with ⟨r, k, hk, hr, rfl⟩ | h
  · intro c hc
    rcases List.mem_append.mp hc with hc | hc
    · exact g.sgs c ((rowsN_each l k r hr).2 c hc)
    · rw [List.mem_singleton.mp hc]; decide
  · exact fun c hc => g.sgs c ((rowsN_each l d v h).2 c hc)
theorem rows_all : ∀ (k : Nat) (r : List Nat), r.length = k → (∀ c ∈ r, c ∈ l) → r ∈ rowsN l k
  | 0, r, h, _ => by rw [List.eq_nil_of_length_eq_zero h]; exact List.mem_singleton.mpr rfl
  | k + 1, r, h, hc => by
    have hn : r ≠ [] := fun e => by rw [e] at h; cases h
    have e := List.dropLast_concat_getLast hn
    unfold rowsN
    refine List.mem_flatMap.mpr ⟨r.dropLast, rows_all k _ (by rw [List.length_dropLast, h]; rfl) fun c hm => hc c ((List.dropLast_sublist r).subset hm), List.mem_map.mpr ⟨r.getLast hn, hc _ (List.getLast_mem hn), e⟩⟩
theorem rows_nodup (hl : l.Nodup) : ∀ k, (rowsN l k).Nodup
  | 0 => by simp [rowsN]
  | k + 1 => by
    unfold rowsN
    rw [List.Nodup, List.pairwise_flatMap]
    refine ⟨fun r _ => ?_, ?_⟩
    · rw [List.pairwise_map]
      exact hl.imp fun {a b} hab e => hab (by simpa using e)
    · exact (rows_nodup hl k).imp fun {a b} hab x hx y hy e => by
        obtain ⟨c, _, rfl⟩ := List.mem_map.mp hx
        obtain ⟨c', _, rfl⟩ := List.mem_map.mp hy
        have := List.append_inj' e rfl
        exact hab this.1
theorem good_nodup (g : GoodL l) : l.Nodup := g.asc.imp fun {a b} h e => by omega
theorem views_nodup (g : GoodL l) (d : Nat) : (viewsF l d).Nodup := by
  unfold viewsF
  rw [List.nodup_append]
  refine ⟨?_, rows_nodup (good_nodup g) d, fun a ha b hb e => ?_⟩
  · rw [List.Nodup, List.pairwise_flatMap]
    refine ⟨fun k _ => ?_, ?_⟩
    · rw [List.pairwise_map]
      exact (rows_nodup (good_nodup g) k).imp fun {a b} hab e => hab (List.append_inj' e rfl).1
    · exact List.nodup_range.imp fun {j k} hjk x hx y hy e => by
        obtain ⟨r, hr, rfl⟩ := List.mem_map.mp hx
        obtain ⟨r', hr', rfl⟩ := List.mem_map.mp hy
        have := (List.append_inj' e rfl).1
        apply hjk
        rw [← (rowsN_each l j r hr).1, ← (rowsN_each l k r' hr').1, this]
  · obtain ⟨k, _, hk⟩ := List.mem_flatMap.mp ha
    obtain ⟨r, _, rfl⟩ := List.mem_map.mp hk
    subst e
    exact last_row g hb (by simp)
theorem views_count (g : GoodL l) {d : Nat} (hd : d ≤ 3) : (viewsF l d).length = manyF l.length d := by
  rw [← win_views l g.pos g.few d hd]
  unfold winF
  rw [List.length_map, List.length_range]
/-! ### what is seen along a row -/
theorem seen_view {v : List Nat} (hv : ∀ c ∈ v, c ∈ l) (p d : Nat) : seenF v p d ∈ viewsF l d := by
  have hr : ∀ c ∈ v.drop p, c ∈ l := fun c hc => hv c (List.mem_of_mem_drop hc)
  unfold seenF viewsF
  by_cases h : d ≤ (v.drop p).length
  · rw [if_pos h]
    exact List.mem_append_right _ (rows_all d _ (by rw [List.length_take]; omega) fun c hc => hr c (List.mem_of_mem_take hc))
  · rw [if_neg h]
    exact List.mem_append_left _ (List.mem_flatMap.mpr ⟨(v.drop p).length, List.mem_range.mpr (by omega), List.mem_map.mpr ⟨_, rows_all _ _ rfl hr, rfl⟩⟩)
theorem seen_last (v : List Nat) {d : Nat} (h : 0 < d) : seenF v v.length d = [46] := by
  unfold seenF
  rw [List.drop_length, if_neg (by simp; omega)]
  rfl
theorem seen_next (g : GoodL l) {v : List Nat} (hv : ∀ c ∈ v, c ∈ l) {p : Nat} (hp : p < v.length) (d : Nat) : seenF v (p + 1) d ∈ follF l (seenF v p d) := by
  have ed : v.drop p = v[p] :: v.drop (p + 1) := List.drop_eq_getElem_cons hp
  have hr : ∀ c ∈ v.drop (p + 1), c ∈ l := fun c hc => hv c (List.mem_of_mem_drop hc)
  have hc : v[p] ∈ l := hv _ (List.getElem_mem hp)
  unfold seenF
  rw [ed]
  generalize hrr : v.drop (p + 1) = r at hr
  generalize hcc : v[p] = c at hc
  rw [List.length_cons]
  by_cases h : d ≤ r.length + 1
  · rw [if_pos h]
    cases d with
    | zero =>
      rw [if_pos (Nat.zero_le _)]
      show [] ∈ follF l []
      unfold follF
      rw [if_neg (by simp), if_pos (.inl rfl)]
      simp
    | succ d =>
      rw [List.take_succ_cons]
      have hl : (c :: r.take d).getLast? ≠ some 46 := fun e => by
        have := List.mem_of_getLast? e
        rcases List.mem_cons.mp this with e | e
        · exact no46 g (e ▸ hc)
        · exact no46 g (hr _ (List.mem_of_mem_take e))
      unfold follF
      rw [if_neg (fun e => hl (by rw [e]; rfl)), if_neg (fun e => e.elim (fun e => nomatch e) hl)]
      by_cases h2 : d + 1 ≤ r.length
      · rw [if_pos h2]
        refine List.mem_map.mpr ⟨r[d], List.mem_cons_of_mem _ (hr _ (List.getElem_mem _)), ?_⟩
        rw [List.drop_succ_cons, List.drop_zero, List.take_succ_eq_append_getElem]
      · rw [if_neg h2]
        refine List.mem_map.mpr ⟨46, List.mem_cons_self, ?_⟩
        rw [List.drop_succ_cons, List.drop_zero, List.take_of_length_le (by omega)]
  · rw [if_neg h, if_neg (by omega)]
    unfold follF
    rw [if_neg (by
      intro e
      have := congrArg List.length e
      simp at this), if_pos (.inr (by rw [List.getLast?_append]; rfl))]
    simp
end
end Dl
set_option autoImplicit false
set_option Elab.async false
set_option linter.all false
set_option maxRecDepth 100000
namespace Dl
open PySem PySem.Spec PyProof.Rows L2 LamX
set_option maxHeartbeats 800000
variable (w : World)
abbrev alpha : List Nat := cs "abcdefghijklmnopqrstuvwxyz"
theorem alpha_az : ∀ c ∈ alpha, 97 ≤ c ∧ c ≤ 122 := by decide +kernel
theorem alpha_len : alpha.length = 26 := by decide +kernel
theorem alpha_nodup : alpha.Nodup := by decide +kernel
abbrev sg1 (l : List Nat) : List D := l.map fun c => D.str (tx [c])
theorem sgs_one {c : Nat} (h : c < 1114112) : Sgs (tx [c]).cps.toList := fun x hx => by
  rw [show (tx [c]).cps.toList = [c] from rfl, List.mem_singleton] at hx
  rw [hx]
  exact h
theorem merge_signs (l : List Nat) : ((l.map fun c => tx [c]).mergeSort fun a b => decide (a.cps.toList ≤ b.cps.toList)) = (l.mergeSort fun a b => decide (a ≤ b)).map fun c => tx [c] := by
  rw [← List.map_mergeSort (r := fun a b => decide (a ≤ b)) (s := fun a b : Str => decide (a.cps.toList ≤ b.cps.toList)) (f := fun c => tx [c])]
  intro a _ b _
  show decide (a ≤ b) = decide ([a] ≤ [b])
  refine decide_eq_decide.mpr ⟨fun h => ?_, fun h => ?_⟩
  · intro q
    cases q with
    | rel q => omega
    | cons q => cases q
  · refine Nat.le_of_not_lt fun q => h (List.Lex.rel q)
theorem sort_good {l : List Nat} (nd : l.Nodup) (h1 : 1 ≤ l.length) (h4 : l.length ≤ 4) (az : ∀ c ∈ l, 97 ≤ c ∧ c ≤ 122) : GoodL (l.mergeSort fun a b => decide (a ≤ b)) := by
  have pm := List.mergeSort_perm l fun a b => decide (a ≤ b)
  have sd := List.pairwise_mergeSort (le := fun a b : Nat => decide (a ≤ b)) (by intro a b c h1 h2; simp at *; omega) (by intro a b; simp; omega) l
  have nd2 : (l.mergeSort fun a b => decide (a ≤ b)).Nodup := pm.nodup_iff.mpr nd
  refine ⟨by rw [List.length_mergeSort]; exact h1, by rw [List.length_mergeSort]; exact h4, fun c hc => az c (pm.mem_iff.mp hc), ?_⟩
  exact (sd.and nd2).imp fun {a b} h => by
    have := h.1
    have := h.2
    simp at *
    omega
theorem z_law_signs : ∀ rs Q, sem_law_signs rs Q → t_law_signs w (eD Q) (startR N_law_signs rs)
  | [.p], Q, q => by
    have q : ∀ l : Str, GoodL (cs l) → Q (.z (.str l)) := q
    refine ⟨Nat.zero_le _, by decide, by decide, fun k k0 k1 => ⟨⟨by omega, by omega⟩, ?_⟩⟩
    have go : ∀ (n : Nat) (j : Nat) (fs : List Nat) (x2 x3 x4 : Option R), fs.length + n ≤ 4 → 1 ≤ fs.length + n → fs.Nodup → (∀ c ∈ fs, c ∈ alpha) →
        forD (gdName 2) (dSeq (dSet 3 (dComp (.lst []) (dIter (dC (.str "abcdefghijklmnopqrstuvwxyz"))) (gdName 4) (dTest (d2 (fInB true) (dVar 4) (dVar 1))) (bApp (dVar 4)) (([("_law_sign", 4)] : List (Str × Nat)).map (·.2))))
          (dExpr (dMut "list" 1 fAppend (aCons (dCall sem_law_pick (aCons (dVar 0) (aCons (dVar 3) aNil))) aNil))))
          { nx := dRet (dRd "str" fJoin (dC (.str "")) (aCons (dCB (fSorted3 w) (aCons (dVar 1) aNil)) aNil)) (eD Q), rt := Q } ((List.range' j n).map fun (i : Nat) => D.int (0 + (i : Int))) [some .p, some (.o (.lst (sg1 fs))), x2, x3, x4] := by
      intro n
      induction n with
      | zero =>
        intro j fs x2 x3 x4 h4 h1 nd al
        refine ⟨rfl, ?_⟩
        have e : sg1 fs = (fs.map fun c => tx [c]).map D.str := by unfold sg1; rw [List.map_map]; rfl
        simp only [dSeq, dNext, dIfS, dExpr, dRet, dRetN, dSet, dAsg, dPar, dPar3, dParN, setL, gdName, gdNil, gdCons, gdTup, lenIs, dTest, dTru, truD, dAnd, dOr, dNot, dAndV, dOrV, dNotV, dIf, dVar, dC, d2, d1, dChain, dCall, dCallP, dCB, dTup, dLst, dSl, fSl, dRev, dRd, tyD, dMut, aNil, aCons, aStar, itemsD, oNone, oSome, fLt, fLe, fGt, fGe, fCmp, fAdd, fSub, fMul, fMod, fFdiv, fPow, fShl, fShr, fAnd, fOr, fII, fII0, fI, fNeg, fIs, fIx, fLen, fTuple, fList, fSum, fMax, fMin, fAny, fAll, fAbs, fInt, fDivmodW, fIsi, tyS, isK, isKs, tysD, fStarts, fEndsw, fAppend, fExtend, fPop, fPopAt, fReverse, fClear, viewR, viewL, frzR, frzL, argR, argL, stR, stL, outR, keyD, keysD, startR, D.py, D.pys, dPotIx, gdPot, dYes, dLenSet, List.map_cons, List.map_nil, List.length_cons, List.length_nil, List.replicate_succ, List.replicate_zero, List.cons_append, List.nil_append, List.append_nil, List.getElem?_cons_zero, List.getElem?_cons_succ, List.getElem?_nil, List.set_cons_zero, List.set_cons_succ, List.set_nil, Nat.reduceSub, Nat.reduceAdd, Option.map_some, Bool.false_eq_true, if_true, if_false, Bool.not_true, Bool.not_false, Bool.and_true, Bool.true_and, Bool.and_false, Bool.false_and, Dl.bne_false, Dl.bne_true, frzL_zs]
        rw [e]
        refine sorted_strs ?_
        rw [merge_signs]
        have g := sort_good nd (by omega) (by omega) fun c hc => alpha_az c (al c hc)
        have e2 : ((fs.mergeSort fun a b => decide (a ≤ b)).map fun c => tx [c]).map D.str = (fs.mergeSort fun a b => decide (a ≤ b)).map fun c => D.str (tx [c]) := by rw [List.map_map]; rfl
        rw [e2]
        simp only
        refine join_signs (by rw [List.length_mergeSort]; omega) ?_
        exact q (tx _) (by rw [cs_tx]; exact g)
      | succ n ih =>
        intro j fs x2 x3 x4 h4 h1 nd al
        show lcD [4] (gdName 4) (dTest (d2 (fInB true) (dVar 4) (dVar 1))) (bApp (dVar 4)) (alpha.map fun c => D.str (tx [c])) [some .p, some (.o (.lst (sg1 fs))), some (.z (.int (0 + (j : Int)))), x3, x4] (.lst []) _
        refine lc_gen [some .p, some (.o (.lst (sg1 fs))), some (.z (.int (0 + (j : Int)))), x3, none] (fun x => [some .p, some (.o (.lst (sg1 fs))), some (.z (.int (0 + (j : Int)))), x3, some (.z x)]) (fun c => D.str (tx [c])) (fun c => D.str (tx [c])) (fun c => !decide (c ∈ fs)) (fun _ => rfl) _ _ _ rfl (fun c _ K k => k) (fun c hc K k => ?_) (fun c hc hp K k => k _ (.inl rfl)) ?_ ?_
        · have e : sg1 fs = (fs.map fun c => tx [c]).map D.str := by unfold sg1; rw [List.map_map]; rfl
          simp only [dSeq, dNext, dIfS, dExpr, dRet, dRetN, dSet, dAsg, dPar, dPar3, dParN, setL, gdName, gdNil, gdCons, gdTup, lenIs, dTest, dTru, truD, dAnd, dOr, dNot, dAndV, dOrV, dNotV, dIf, dVar, dC, d2, d1, dChain, dCall, dCallP, dCB, dTup, dLst, dSl, fSl, dRev, dRd, tyD, dMut, aNil, aCons, aStar, itemsD, oNone, oSome, fLt, fLe, fGt, fGe, fCmp, fAdd, fSub, fMul, fMod, fFdiv, fPow, fShl, fShr, fAnd, fOr, fII, fII0, fI, fNeg, fIs, fIx, fLen, fTuple, fList, fSum, fMax, fMin, fAny, fAll, fAbs, fInt, fDivmodW, fIsi, tyS, isK, isKs, tysD, fStarts, fEndsw, fAppend, fExtend, fPop, fPopAt, fReverse, fClear, viewR, viewL, frzR, frzL, argR, argL, stR, stL, outR, keyD, keysD, startR, D.py, D.pys, dPotIx, gdPot, dYes, dLenSet, List.map_cons, List.map_nil, List.length_cons, List.length_nil, List.replicate_succ, List.replicate_zero, List.cons_append, List.nil_append, List.append_nil, List.getElem?_cons_zero, List.getElem?_cons_succ, List.getElem?_nil, List.set_cons_zero, List.set_cons_succ, List.set_nil, Nat.reduceSub, Nat.reduceAdd, Option.map_some, Bool.false_eq_true, if_true, if_false, Bool.not_true, Bool.not_false, Bool.and_true, Bool.true_and, Bool.and_false, Bool.false_and, Dl.bne_false, Dl.bne_true, frzL_zs]
          rw [e]
          refine fIn_strs (sgs_one (by have := alpha_az c hc; omega)) (fun y hy => ?_) ?_
          · obtain ⟨x, hx, rfl⟩ := List.mem_map.mp hy
            exact sgs_one (by have := alpha_az x (al x hx); omega)
          · rw [← e]
            have ee : decide (tx [c] ∈ fs.map fun c => tx [c]) = decide (c ∈ fs) := decide_eq_decide.mpr ⟨fun h => by
              obtain ⟨x, hx, e⟩ := List.mem_map.mp h
              have := tx_inj.mp e
              simp at this
              exact this ▸ hx, fun h => List.mem_map.mpr ⟨c, h, rfl⟩⟩
            show K _ (true != decide (tx [c] ∈ fs.map fun c => tx [c]))
            rw [ee, Dl.bne_true]
            exact k
        · rw [alpha_len]
          exact size_of (by decide)
        · have hne : 1 ≤ (alpha.filter fun c => !decide (c ∈ fs)).length := by
            rcases Nat.eq_zero_or_pos (alpha.filter fun c => !decide (c ∈ fs)).length with z | z
            · have : ∀ c ∈ alpha, c ∈ fs := fun c hc => by
                by_cases h : c ∈ fs
                · exact h
                · have : c ∈ alpha.filter fun c => !decide (c ∈ fs) := List.mem_filter.mpr ⟨hc, by simp [h]⟩
                  rw [List.eq_nil_of_length_eq_zero z] at this
                  cases this
              have := Lw.nodup_len alpha fs alpha_nodup this
              rw [alpha_len] at this
              omega
            · exact z
          refine ⟨ty_list, ?_⟩
          show _ ∧ _
          refine ⟨by rw [List.nil_append, List.length_map]; exact hne, ?_, fun d hd => ?_⟩
          · rw [List.nil_append, List.length_map]
            have := List.length_filter_le (fun c => !decide (c ∈ fs)) alpha
            rw [alpha_len] at this
            omega
          · rw [List.nil_append] at hd
            obtain ⟨c, hc, rfl⟩ := List.mem_map.mp hd
            obtain ⟨hc1, hc2⟩ := List.mem_filter.mp hc
            have hc2 : c ∉ fs := by simpa using hc2
            refine ⟨?_, ?_⟩
            · unfold sg1
              rw [List.length_map]
              refine Nat.lt_of_le_of_lt (show fs.length ≤ 4 by omega) ?_
              rw [sizeLine_eq]
              decide
            · have e : sg1 fs ++ [D.str (tx [c])] = sg1 (fs ++ [c]) := by unfold sg1; rw [List.map_append]; rfl
              rw [e]
              refine ih (j + 1) (fs ++ [c]) _ _ _ (by rw [List.length_append]; simp; omega) (by rw [List.length_append]; simp; omega) ?_ fun x hx => ?_
              · rw [List.nodup_append]
                exact ⟨nd, by simp, fun a ha b hb e => hc2 (by rw [List.mem_singleton.mp hb] at e; exact e ▸ ha)⟩
              · rcases List.mem_append.mp hx with hx | hx
                · exact al x hx
                · rw [List.mem_singleton.mp hx]; exact hc1
    have := go (1 + k).toNat 0 [] none none none (by rw [List.length_nil]; omega) (by rw [List.length_nil]; omega) List.nodup_nil (fun _ h => absurd h List.not_mem_nil)
    rw [← List.range_eq_range'] at this
    exact this
theorem paired_signs {l : List Nat} : ∀ {α : Type} {xs : List α} {ds : List D}, Paired (fun _ d => ∃ c ∈ l, d = D.str (tx [c])) xs ds → ∃ v : List Nat, ds = sg1 v ∧ (∀ c ∈ v, c ∈ l) ∧ v.length = xs.length
  | _, _, _, .nil => ⟨[], rfl, fun _ h => absurd h List.not_mem_nil, rfl⟩
  | _, _, _, .cons ⟨c, hc, e⟩ t => by
    obtain ⟨v, e2, h1, h2⟩ := paired_signs t
    refine ⟨c :: v, by rw [e, e2]; rfl, fun x hx => ?_, by rw [List.length_cons, List.length_cons, h2]⟩
    rcases List.mem_cons.mp hx with rfl | hx
    · exact hc
    · exact h1 x hx
/-- all of a list of bools that are all true -/
theorem all_true {α : Type} {xs : List α} {p : α → Bool} {Q : R → Prop} (h : ∀ x ∈ xs, p x = true) (q : Q (.z (.bl true))) : fAll [.lst (xs.map fun x => D.bl (p x))] Q := by
  have e : (xs.map fun x => D.bl (p x)) = (xs.map p).map D.bl := by rw [List.map_map]; rfl
  have e2 : (xs.map p).all id = true := by
    rw [List.all_map, List.all_eq_true]
    exact h
  show (match blsD (xs.map fun x => D.bl (p x)) with | some bs => Q (.z (.bl (bs.all id))) | none => False)
  rw [e, blsD_map]
  show Q (.z (.bl ((xs.map p).all id)))
  rw [e2]
  exact q
theorem ite_both {c : Prop} [Decidable c] {A B : Prop} (hB : B) (hA : c → B → A) : if c then A else B := by
  by_cases h : c
  · rw [if_pos h]; exact hA h hB
  · rw [if_neg h]; exact hB
theorem blsD_of {α : Type} {xs : List α} {p : α → Bool} : blsD (xs.map fun x => D.bl (p x)) = some (xs.map p) := by
  have e : (xs.map fun x => D.bl (p x)) = (xs.map p).map D.bl := by rw [List.map_map]; rfl
  rw [e, blsD_map]
theorem all_of {α : Type} {xs : List α} {p : α → Bool} (h : ∀ x ∈ xs, p x = true) : (xs.map p).all id = true := by
  rw [List.all_map, List.all_eq_true]
  exact h
theorem txs_strs (ws : List (List Nat)) : txs ws = (ws.map tx).map D.str := by unfold txs; rw [List.map_map]; rfl
theorem tx_mem {v : List Nat} {ws : List (List Nat)} : tx v ∈ ws.map tx ↔ v ∈ ws := ⟨fun h => by
  obtain ⟨x, hx, e⟩ := List.mem_map.mp h
  exact tx_inj.mp e ▸ hx, fun h => List.mem_map.mpr ⟨v, h, rfl⟩⟩
theorem foll_sgs {l v : List Nat} (g : GoodL l) (hv : Sgs v) : ∀ x ∈ follF l v, Sgs x := by
  intro x hx
  have hd : ∀ y ∈ v.drop 1, y < 1114112 := fun y hy => hv y (List.mem_of_mem_drop hy)
  unfold follF at hx
  split at hx
  · cases hx
  · split at hx
    · rw [List.mem_singleton.mp hx]; exact hd
    · obtain ⟨c, hc, rfl⟩ := List.mem_map.mp hx
      intro y hy
      rcases List.mem_append.mp hy with hy | hy
      · exact hd y hy
      · rw [List.mem_singleton.mp hy]
        rcases List.mem_cons.mp hc with rfl | hc
        · decide
        · exact g.sgs c hc
theorem seen_sgs {l v : List Nat} (g : GoodL l) (hv : ∀ c ∈ v, c ∈ l) (p d : Nat) : Sgs (seenF v p d) := views_sgs g (seen_view hv p d)
theorem seen_len {v : List Nat} (hv : v.length ≤ 10) (p d : Nat) : (seenF v p d).length ≤ 11 := by
  unfold seenF
  split
  · rw [List.length_take, List.length_drop]; omega
  · rw [List.length_append, List.length_drop]; simp; omega
theorem z_law_rows_right : ∀ rs Q, sem_law_rows_right rs Q → t_law_rows_right w (eD Q) (startR N_law_rows_right rs)
  | [.p, .z (.str l), .z (.int d)], Q, ⟨g, h0, h3, q⟩ => by
    obtain ⟨e, rfl⟩ : ∃ e : Nat, d = (e : Int) := ⟨d.toNat, by omega⟩
    have hl := len_cs l
    have g1 := g.pos
    have g2 := g.few
    refine ⟨rfl, by decide, by decide, fun k k0 k1 => ⟨⟨by omega, by omega⟩, ?_⟩⟩
    show lcD [5] _ dYes (bApp _) ((List.range k.toNat).map fun (i : Nat) => D.int (0 + (i : Int))) [some .p, some (.z (.str l)), some (.z (.int (e : Nat))), none, none, none, none, none, none] (.lst []) _
    refine lc_any [some .p, some (.z (.str l)), some (.z (.int (e : Nat))), none, none, none, none, none, none] (fun x => [some .p, some (.z (.str l)), some (.z (.int (e : Nat))), none, none, some (.z x), none, none, none]) (fun (i : Nat) => D.int (0 + (i : Int))) (fun _ d => ∃ c ∈ cs l, d = D.str (tx [c])) (fun _ => rfl) _ _ [] rfl (fun i _ K k => k) (fun i _ K k => ?_) ?_ fun xs hx => ?_
    · exact ⟨by omega, by omega, fun c hc => k _ _ (.inl rfl) ⟨c, hc, rfl⟩⟩
    · rw [List.length_range]
      exact size_of (by simp; omega)
    obtain ⟨v, rfl, hv, hvl⟩ := paired_signs hx
    rw [List.length_range] at hvl
    rw [List.nil_append]
    simp only [dSeq, dNext, dIfS, dExpr, dRet, dRetN, dSet, dAsg, dPar, dPar3, dParN, setL, gdName, gdNil, gdCons, gdTup, lenIs, dTest, dTru, truD, dAnd, dOr, dNot, dAndV, dOrV, dNotV, dIf, dVar, dC, d2, d1, dChain, dCall, dCallP, dCB, dTup, dLst, dSl, fSl, dRev, dRd, tyD, dMut, aNil, aCons, aStar, itemsD, oNone, oSome, fLt, fLe, fGt, fGe, fCmp, fAdd, fSub, fMul, fMod, fFdiv, fPow, fShl, fShr, fAnd, fOr, fII, fII0, fI, fNeg, fIs, fIx, fLen, fTuple, fList, fSum, fMax, fMin, fAny, fAll, fAbs, fInt, fDivmodW, fIsi, tyS, isK, isKs, tysD, fStarts, fEndsw, fAppend, fExtend, fPop, fPopAt, fReverse, fClear, viewR, viewL, frzR, frzL, argR, argL, stR, stL, outR, keyD, keysD, startR, D.py, D.pys, dPotIx, gdPot, dYes, dLenSet, List.map_cons, List.map_nil, List.length_cons, List.length_nil, List.replicate_succ, List.replicate_zero, List.cons_append, List.nil_append, List.append_nil, List.getElem?_cons_zero, List.getElem?_cons_succ, List.getElem?_nil, List.set_cons_zero, List.set_cons_succ, List.set_nil, Nat.reduceSub, Nat.reduceAdd, Option.map_some, Bool.false_eq_true, if_true, if_false, Bool.not_true, Bool.not_false, Bool.and_true, Bool.true_and, Bool.and_false, Bool.false_and, Dl.bne_false, Dl.bne_true, frzL_zs]
    refine join_signs (by omega) ?_
    -- what is seen
    have vl : (tx v).length = v.length := tx_len v
    refine ⟨⟨by omega, by omega⟩, ?_⟩
    have er : (((tx v).length : Nat) : Int) + 1 = ((v.length + 1 : Nat) : Int) := by rw [vl]; rfl
    show lcD [6] _ dYes (bApp _) (rangeD 0 ((((tx v).length : Nat) : Int) + 1).toNat) [some .p, some (.z (.str l)), some (.z (.int (e : Nat))), some (.z (.str (tx v))), none, none, none, none, none] (.lst []) _
    rw [er, Int.toNat_natCast]
    refine lc_map [some .p, some (.z (.str l)), some (.z (.int (e : Nat))), some (.z (.str (tx v))), none, none, none, none, none] (fun x => [some .p, some (.z (.str l)), some (.z (.int (e : Nat))), some (.z (.str (tx v))), none, none, some (.z x), none, none]) (fun (i : Nat) => D.int (0 + (i : Int))) (fun i => D.str (tx (seenF v i e))) (fun _ => rfl) _ _ rfl (fun i _ K k => k) (fun i _ K k => ?_) ?_ ?_
    · refine ⟨by omega, by omega, by omega, ?_⟩
      have := k (.z (.str (tx (seenF v i e)))) (.inl rfl)
      rw [cs_tx, show ((0 : Int) + (i : Int)).toNat = i by omega, Int.toNat_natCast]
      exact this
    · rw [List.length_range]
      exact size_of (by omega)
    -- all of them are windows
    generalize hS : (List.range (v.length + 1)).map (fun i => seenF v i e) = S
    have eS : (List.range (v.length + 1)).map (fun i => D.str (tx (seenF v i e))) = txs S := by rw [← hS]; unfold txs; rw [List.map_map]; rfl
    have hS1 : ∀ x ∈ S, ∃ i, i ≤ v.length ∧ x = seenF v i e := fun x hx => by
      rw [← hS] at hx
      obtain ⟨i, hi, rfl⟩ := List.mem_map.mp hx
      exact ⟨i, by have := List.mem_range.mp hi; omega, rfl⟩
    have hSl : S.length = v.length + 1 := by rw [← hS, List.length_map, List.length_range]
    rw [eS]
    have hwin := win_views (cs l) g1 g2 e (by omega)
    show lcD [7] _ dYes (bApp _) (S.map fun x => D.str (tx x)) [some .p, some (.z (.str l)), some (.z (.int (e : Nat))), some (.z (.str (tx v))), some (.z (.lst (txs S))), none, none, none, none] (.lst []) _
    refine lc_map [some .p, some (.z (.str l)), some (.z (.int (e : Nat))), some (.z (.str (tx v))), some (.z (.lst (txs S))), none, none, none, none] (fun x => [some .p, some (.z (.str l)), some (.z (.int (e : Nat))), some (.z (.str (tx v))), some (.z (.lst (txs S))), none, none, some (.z x), none]) (fun x => D.str (tx x)) (fun x => D.bl (decide (x ∈ viewsF (cs l) e))) (fun _ => rfl) _ _ rfl (fun i _ K k => k) (fun x hx K k => ?_) ?_ ?_
    · obtain ⟨i, hi, rfl⟩ := hS1 x hx
      refine ⟨g, by omega, by omega, ?_⟩
      rw [Int.toNat_natCast, hwin]
      show fInB false (.str (tx (seenF v i e))) (.lst (txs (viewsF (cs l) e))) _
      rw [txs_strs (viewsF (cs l) e)]
      refine fIn_strs (x := tx (seenF v i e)) (seen_sgs g hv i e) (fun y hy => ?_) ?_
      · obtain ⟨z, hz, rfl⟩ := List.mem_map.mp hy
        exact views_sgs g hz
      · rw [Dl.bne_false, decide_eq_decide.mpr tx_mem]
        exact k _ (.inl rfl)
    · exact size_of (by omega)
    have hin : ∀ x ∈ S, x ∈ viewsF (cs l) e := fun x hx => by
      obtain ⟨i, _, rfl⟩ := hS1 x hx
      exact seen_view hv i e
    have hsz : ∀ x ∈ S, x.length ≤ 11 := fun x hx => by
      obtain ⟨i, _, rfl⟩ := hS1 x hx
      exact seen_len (by omega) i e
    simp only [dSeq, dNext, dIfS, dExpr, dRet, dRetN, dSet, dAsg, dPar, dPar3, dParN, setL, gdName, gdNil, gdCons, gdTup, lenIs, dTest, dTru, truD, dAnd, dOr, dNot, dAndV, dOrV, dNotV, dIf, dVar, dC, d2, d1, dChain, dCall, dCallP, dCB, dTup, dLst, dSl, fSl, dRev, dRd, tyD, dMut, aNil, aCons, aStar, itemsD, oNone, oSome, fLt, fLe, fGt, fGe, fCmp, fAdd, fSub, fMul, fMod, fFdiv, fPow, fShl, fShr, fAnd, fOr, fII, fII0, fI, fNeg, fIs, fIx, fLen, fTuple, fList, fSum, fMax, fMin, fAny, fAll, fAbs, fInt, fDivmodW, fIsi, tyS, isK, isKs, tysD, fStarts, fEndsw, fAppend, fExtend, fPop, fPopAt, fReverse, fClear, viewR, viewL, frzR, frzL, argR, argL, stR, stL, outR, keyD, keysD, startR, D.py, D.pys, dPotIx, gdPot, dYes, dLenSet, List.map_cons, List.map_nil, List.length_cons, List.length_nil, List.replicate_succ, List.replicate_zero, List.cons_append, List.nil_append, List.append_nil, List.getElem?_cons_zero, List.getElem?_cons_succ, List.getElem?_nil, List.set_cons_zero, List.set_cons_succ, List.set_nil, Nat.reduceSub, Nat.reduceAdd, Option.map_some, Bool.false_eq_true, if_true, if_false, Bool.not_true, Bool.not_false, Bool.and_true, Bool.true_and, Bool.and_false, Bool.false_and, Dl.bne_false, Dl.bne_true, frzL_zs]
    have h1 : (S.map fun x => decide (x ∈ viewsF (cs l) e)).all id = true := all_of fun x hx => decide_eq_true (hin x hx)
    rw [blsD_of]
    have hw : wipeR [some R.p, some (.z (.str l)), some (.z (.int (e : Nat))), some (.z (.str (tx v))), some (.z (.lst (txs S))), none, none, none, none] [7] = [some R.p, some (.z (.str l)), some (.z (.int (e : Nat))), some (.z (.str (tx v))), some (.z (.lst (txs S))), none, none, none, none] := rfl
    rw [hw]
    simp only [h1, dSeq, dNext, dIfS, dExpr, dRet, dRetN, dSet, dAsg, dPar, dPar3, dParN, setL, gdName, gdNil, gdCons, gdTup, lenIs, dTest, dTru, truD, dAnd, dOr, dNot, dAndV, dOrV, dNotV, dIf, dVar, dC, d2, d1, dChain, dCall, dCallP, dCB, dTup, dLst, dSl, fSl, dRev, dRd, tyD, dMut, aNil, aCons, aStar, itemsD, oNone, oSome, fLt, fLe, fGt, fGe, fCmp, fAdd, fSub, fMul, fMod, fFdiv, fPow, fShl, fShr, fAnd, fOr, fII, fII0, fI, fNeg, fIs, fIx, fLen, fTuple, fList, fSum, fMax, fMin, fAny, fAll, fAbs, fInt, fDivmodW, fIsi, tyS, isK, isKs, tysD, fStarts, fEndsw, fAppend, fExtend, fPop, fPopAt, fReverse, fClear, viewR, viewL, frzR, frzL, argR, argL, stR, stL, outR, keyD, keysD, startR, D.py, D.pys, dPotIx, gdPot, dYes, dLenSet, List.map_cons, List.map_nil, List.length_cons, List.length_nil, List.replicate_succ, List.replicate_zero, List.cons_append, List.nil_append, List.append_nil, List.getElem?_cons_zero, List.getElem?_cons_succ, List.getElem?_nil, List.set_cons_zero, List.set_cons_succ, List.set_nil, Nat.reduceSub, Nat.reduceAdd, Option.map_some, Bool.false_eq_true, if_true, if_false, Bool.not_true, Bool.not_false, Bool.and_true, Bool.true_and, Bool.and_false, Bool.false_and, Dl.bne_false, Dl.bne_true, frzL_zs]
    have ed : Str.ofString "." = tx [46] := rfl
    refine ite_both ?_ fun he hB => ?_
    · show dZip _ _ _
      have ez : zipD (txs S) (cutA (txs S) (some 1) none) = (List.range v.length).map fun i => D.tup [.str (tx (seenF v i e)), .str (tx (seenF v (i + 1) e))] := by
        rw [show (some (1 : Int)) = some ((1 : Nat) : Int) from rfl, cutA_from]
        unfold zipD txs
        rw [← hS]
        apply List.ext_getElem
        · simp
        · intro i h1 h2
          simp
      show lcD [7, 8] (gdTup 2 (gdCons (gdName 7) (gdCons (gdName 8) gdNil))) dYes _ (zipD (txs S) (cutA (txs S) (some 1) none)) [some R.p, some (.z (.str l)), some (.z (.int (e : Nat))), some (.z (.str (tx v))), some (.z (.lst (txs S))), none, none, none, none] (.lst []) _
      rw [ez]
      refine lc_map [some R.p, some (.z (.str l)), some (.z (.int (e : Nat))), some (.z (.str (tx v))), some (.z (.lst (txs S))), none, none, none, none] (fun x => match x with
        | .tup [a, b] => [some R.p, some (.z (.str l)), some (.z (.int (e : Nat))), some (.z (.str (tx v))), some (.z (.lst (txs S))), none, none, some (.z a), some (.z b)]
        | _ => [some R.p, some (.z (.str l)), some (.z (.int (e : Nat))), some (.z (.str (tx v))), some (.z (.lst (txs S))), none, none, none, none]) (fun i => D.tup [.str (tx (seenF v i e)), .str (tx (seenF v (i + 1) e))]) (fun i => D.bl (decide (seenF v (i + 1) e ∈ follF (cs l) (seenF v i e)))) (fun d => ?_) _ _ rfl (fun i _ K k => k) (fun i hi K k => ?_) ?_ ?_
      · split <;> rfl
      · have hi := List.mem_range.mp hi
        have hm : seenF v i e ∈ viewsF (cs l) e := seen_view hv i e
        refine ⟨g, by omega, by omega, by have := seen_len (v := v) (by omega) i e; rw [tx_len]; omega, views_sgs g hm, views_win g hm, ?_⟩
        show fInB false (.str (tx (seenF v (i + 1) e))) (.lst (txs (follF (cs l) (seenF v i e)))) _
        rw [txs_strs]
        refine fIn_strs (x := tx (seenF v (i + 1) e)) (seen_sgs g hv (i + 1) e) (fun y hy => ?_) ?_
        · obtain ⟨z, hz, rfl⟩ := List.mem_map.mp hy
          exact foll_sgs g (views_sgs g hm) z hz
        · rw [Dl.bne_false, decide_eq_decide.mpr tx_mem]
          exact k _ (.inl rfl)
      · rw [List.length_range]
        exact size_of (by omega)
      · show (match blsD ((List.range v.length).map fun i => D.bl (decide (seenF v (i + 1) e ∈ follF (cs l) (seenF v i e)))) with
          | some bs => Q (.z (.bl (bs.all id)))
          | none => False)
        rw [blsD_of, ]
        show Q (.z (.bl (((List.range v.length).map fun i => decide (seenF v (i + 1) e ∈ follF (cs l) (seenF v i e))).all id)))
        rw [all_of fun i hi => decide_eq_true (seen_next g hv (List.mem_range.mp hi) e)]
        exact q
    · have he : 0 < e := by
        have := of_decide_eq_true he
        omega
      have el : atI (txs S) (-1) = some (.str (tx [46])) := by
        rw [show (-1 : Int) = -((1 : Nat) : Int) from rfl, atI_neg (by decide) (by unfold txs; rw [List.length_map]; omega)]
        unfold txs
        rw [List.length_map, hSl, Nat.add_sub_cancel, List.getElem?_map, ← hS, List.getElem?_map, List.getElem?_range (by omega)]
        show some (D.str (tx (seenF v v.length e))) = _
        rw [seen_last v he]
      have hm : [46] ∈ viewsF (cs l) e := by
        have := seen_view hv v.length e
        rw [seen_last v he] at this
        exact this
      have ef : follF (cs l) (cs (tx [46])) = [] := by
        rw [cs_tx]
        unfold follF
        rw [if_pos rfl]
      rw [el]
      refine ⟨g, by omega, by omega, by rw [tx_len]; decide, views_sgs g hm, views_win g hm, ?_⟩
      rw [ef]
      refine ⟨Nat.zero_le _, ?_⟩
      refine fNe_strs (xs := []) (ys := []) (fun _ h => absurd h List.not_mem_nil) (fun _ h => absurd h List.not_mem_nil) ?_
      rw [decide_eq_true (rfl : ([] : List Str) = [])]
      refine iteF ?_
      show fNe (.str (tx [46])) (.str (Str.ofString ".")) _
      rw [ed]
      refine fNe_str (views_sgs g hm) (views_sgs g hm) ?_
      rw [decide_eq_true (rfl : tx [46] = tx [46])]
      refine iteF ?_
      exact hB
end Dl
set_option autoImplicit false
set_option Elab.async false
set_option linter.all false
set_option maxRecDepth 100000
namespace Dl
open PySem PySem.Spec PyProof.Rows L2 LamX
set_option maxHeartbeats 800000
variable (w : World)
/-- a loop that keeps I -/
theorem forD_all {tg : TDG} {tb : TDS} {α : Type} (g : α → D) (I : Rho → Prop) {E : DE} (q : ∀ ρ, I ρ → E.nx ρ) : ∀ (xs : List α), (∀ x ∈ xs, ∀ ρ, I ρ → ∀ E' : DE, E'.rt = E.rt → (∀ ρ', I ρ' → E'.nx ρ') → (∀ ρ', I ρ' → E'.ct ρ') → tg (g x) ρ fun ρ1 => tb E' ρ1) → ∀ ρ, I ρ → forD tg tb E (xs.map g) ρ
  | [], _, ρ, i => q ρ i
  | x :: xs, h, ρ, i => h x List.mem_cons_self ρ i _ rfl (fun ρ' i' => forD_all g I q xs (fun y hy => h y (List.mem_cons_of_mem _ hy)) ρ' i') (fun ρ' i' => forD_all g I q xs (fun y hy => h y (List.mem_cons_of_mem _ hy)) ρ' i')
theorem keysD_txs : ∀ ws : List (List Nat), keysD (txs ws) = some (ws.map fun v => .inr (tx v))
  | [] => rfl
  | v :: ws => by
    show (match keyD (.str (tx v)), keysD (txs ws) with
      | some k, some ks => some (k :: ks)
      | _, _ => none) = _
    rw [keysD_txs ws]
    rfl
theorem keys_nodup {ws : List (List Nat)} (h : ws.Nodup) : (ws.map fun v => (.inr (tx v) : Key)).Nodup := by
  rw [List.Nodup, List.pairwise_map]
  exact h.imp fun {a b} hab e => hab (tx_inj.mp (Sum.inr.inj e))
theorem fNe_same (V : List (List Nat)) {Q : R → Prop} (h : ∀ v ∈ V, Sgs v) (q : Q (.z (.bl false))) : fNe (.lst (txs V)) (.lst (txs V)) Q := by
  rw [txs_strs]
  have hh : ∀ y ∈ V.map tx, Sgs y.cps.toList := fun y hy => by
    obtain ⟨z, hz, rfl⟩ := List.mem_map.mp hy
    exact h z hz
  refine fNe_strs hh hh ?_
  rw [decide_eq_true rfl]
  exact q
theorem fEq_same (V : List (List Nat)) {Q : R → Prop} (h : ∀ v ∈ V, Sgs v) (q : Q (.z (.bl true))) : fEq (.lst (txs V)) (.lst (txs V)) Q := by
  rw [txs_strs]
  have hh : ∀ y ∈ V.map tx, Sgs y.cps.toList := fun y hy => by
    obtain ⟨z, hz, rfl⟩ := List.mem_map.mp hy
    exact h z hz
  refine fEq_strs hh hh ?_
  rw [decide_eq_true rfl]
  exact q
theorem good_ab : GoodL (cs "ab") := ⟨by decide +kernel, by decide +kernel, by decide +kernel, by decide +kernel⟩
theorem win_ab : winF (cs "ab") 1 = [[46], [97], [98]] := by decide +kernel
theorem foll_ab : follF (cs "ab") (cs "b") = [[46], [97], [98]] := by decide +kernel
theorem lit_ab : [D.str (Str.ofString "."), D.str (Str.ofString "a"), D.str (Str.ofString "b")] = txs [[46], [97], [98]] := rfl
theorem sgs_ab : ∀ v ∈ [[46], [97], [98]], Sgs v := fun v hv => by
  rcases List.mem_cons.mp hv with rfl | hv
  · exact sgs_of (by decide)
  · rcases List.mem_cons.mp hv with rfl | hv
    · exact sgs_of (by decide)
    · rw [List.mem_singleton.mp hv]; exact sgs_of (by decide)
theorem z_law_right : ∀ rs Q, sem_law_right rs Q → t_law_right w (eD Q) (startR N_law_right rs)
  | [.p], Q, q => by
    have q : Q (.z (.bl true)) := q
    refine fun l g => ?_
    have g1 := g.pos
    have g2 := g.few
    have hl := len_cs l
    refine ⟨⟨by omega, by omega⟩, ?_⟩
    show forD _ _ _ ((List.range 4).map fun (i : Nat) => D.int (0 + (i : Int))) [some .p, some (.z (.str l)), none, none, none, none]
    refine forD_all _ (fun ρ => ∃ x2 x3 x4 x5, ρ = [some .p, some (.z (.str l)), x2, x3, x4, x5]) ?_ (List.range 4) ?_ _ ⟨_, _, _, _, rfl⟩
    · rintro ρ ⟨x2, x3, x4, x5, rfl⟩
      refine ⟨good_ab, by decide, by decide, ?_⟩
      rw [show (1 : Int).toNat = 1 from rfl, win_ab]
      refine ⟨by rw [sizeLine_eq]; decide, ?_⟩
      rw [lit_ab]
      refine fEq_same _ sgs_ab ?_
      refine ⟨good_ab, by decide, by decide, by decide +kernel, sgs_of (by decide +kernel), by decide +kernel, ?_⟩
      rw [foll_ab]
      refine ⟨by rw [sizeLine_eq]; decide, ?_⟩
      rw [lit_ab]
      refine fEq_same _ sgs_ab ?_
      exact q
    · rintro e he ρ ⟨x2, x3, x4, x5, rfl⟩ E' er en ec
      have he := List.mem_range.mp he
      rw [show (0 : Int) + (e : Int) = (e : Int) by omega]
      have hwin := win_views (cs l) g1 g2 e (by omega)
      show sem_law_views [.z (.str l), .z (.int (e : Nat))] _
      refine ⟨by omega, by omega, by omega, ?_⟩
      show sem_windows [.z (.str l), .z (.int (e : Nat))] _
      refine ⟨g, by omega, by omega, ?_⟩
      rw [Int.toNat_natCast, hwin]
      have hlen : (viewsF (cs l) e).length = manyF l.length e := by rw [views_count g (by omega), hl]
      have hvs : ∀ v ∈ viewsF (cs l) e, Sgs v := fun v hv => views_sgs g hv
      have hfew : (viewsF (cs l) e).length ≤ 1000 := by
        rw [hlen]
        have : l.length ≤ 4 := by omega
        have h1 : 1 ≤ l.length := by omega
        have : ∀ n, n ≤ 4 → ∀ e, e < 4 → manyF n e ≤ 1000 := by decide
        exact this _ (by omega) e he
      have hnd := views_nodup g e
      have hiw : ∀ v ∈ viewsF (cs l) e, isWin (cs l) e v = true := fun v hv => views_win g hv
      have hle : ∀ v ∈ viewsF (cs l) e, v.length ≤ e := fun v hv => views_len hv
      generalize viewsF (cs l) e = V at *
      simp only [dSeq, dNext, dIfS, dExpr, dRet, dRetN, dSet, dAsg, dPar, dPar3, dParN, setL, gdName, gdNil, gdCons, gdTup, lenIs, dTest, dTru, truD, dAnd, dOr, dNot, dAndV, dOrV, dNotV, dIf, dVar, dC, d2, d1, dChain, dCall, dCallP, dCB, dTup, dLst, dSl, fSl, dRev, dRd, tyD, dMut, aNil, aCons, aStar, itemsD, oNone, oSome, fLt, fLe, fGt, fGe, fCmp, fAdd, fSub, fMul, fMod, fFdiv, fPow, fShl, fShr, fAnd, fOr, fII, fII0, fI, fNeg, fIs, fIx, fLen, fTuple, fList, fSum, fMax, fMin, fAny, fAll, fAbs, fInt, fDivmodW, fIsi, tyS, isK, isKs, tysD, fStarts, fEndsw, fAppend, fExtend, fPop, fPopAt, fReverse, fClear, viewR, viewL, frzR, frzL, argR, argL, stR, stL, outR, keyD, keysD, startR, D.py, D.pys, dPotIx, gdPot, dYes, dLenSet, List.map_cons, List.map_nil, List.length_cons, List.length_nil, List.replicate_succ, List.replicate_zero, List.cons_append, List.nil_append, List.append_nil, List.getElem?_cons_zero, List.getElem?_cons_succ, List.getElem?_nil, List.set_cons_zero, List.set_cons_succ, List.set_nil, Nat.reduceSub, Nat.reduceAdd, Option.map_some, Bool.false_eq_true, if_true, if_false, Bool.not_true, Bool.not_false, Bool.and_true, Bool.true_and, Bool.and_false, Bool.false_and, Dl.bne_false, Dl.bne_true, frzL_zs]
      refine fNe_same V hvs ?_
      rw [keysD_txs]
      refine iteF ⟨by rw [List.length_map]; omega, ?_⟩
      rw [Lw.dcount_nodup (keys_nodup hnd), List.length_map, show (txs V).length = V.length from List.length_map ..]
      refine fNe_int ?_
      rw [decide_eq_true rfl]
      refine iteF ⟨by omega, by omega, by omega, by omega, ?_⟩
      rw [Int.toNat_natCast, Int.toNat_natCast, hlen]
      refine fNe_int ?_
      rw [decide_eq_true rfl]
      refine iteF ?_
      show forD _ _ _ (V.map fun v => D.str (tx v)) [some .p, some (.z (.str l)), some (.z (.int (e : Nat))), some (.z (.lst (txs V))), some (.o (.lst (txs V))), x5]
      refine forD_all _ (fun ρ => ∃ x4 x5, ρ = [some .p, some (.z (.str l)), some (.z (.int (e : Nat))), some (.z (.lst (txs V))), x4, x5]) ?_ V ?_ _ ⟨_, _, rfl⟩
      · rintro ρ ⟨x4, x5, rfl⟩
        refine ⟨g, by omega, by omega, ?_⟩
        rw [Int.toNat_natCast, hwin]
        refine ⟨ty_list, ?_⟩
        refine ⟨g, by omega, by omega, ?_⟩
        rw [Int.toNat_natCast, hwin]
        simp only [dSeq, dNext, dIfS, dExpr, dRet, dRetN, dSet, dAsg, dPar, dPar3, dParN, setL, gdName, gdNil, gdCons, gdTup, lenIs, dTest, dTru, truD, dAnd, dOr, dNot, dAndV, dOrV, dNotV, dIf, dVar, dC, d2, d1, dChain, dCall, dCallP, dCB, dTup, dLst, dSl, fSl, dRev, dRd, tyD, dMut, aNil, aCons, aStar, itemsD, oNone, oSome, fLt, fLe, fGt, fGe, fCmp, fAdd, fSub, fMul, fMod, fFdiv, fPow, fShl, fShr, fAnd, fOr, fII, fII0, fI, fNeg, fIs, fIx, fLen, fTuple, fList, fSum, fMax, fMin, fAny, fAll, fAbs, fInt, fDivmodW, fIsi, tyS, isK, isKs, tysD, fStarts, fEndsw, fAppend, fExtend, fPop, fPopAt, fReverse, fClear, viewR, viewL, frzR, frzL, argR, argL, stR, stL, outR, keyD, keysD, startR, D.py, D.pys, dPotIx, gdPot, dYes, dLenSet, List.map_cons, List.map_nil, List.length_cons, List.length_nil, List.replicate_succ, List.replicate_zero, List.cons_append, List.nil_append, List.append_nil, List.getElem?_cons_zero, List.getElem?_cons_succ, List.getElem?_nil, List.set_cons_zero, List.set_cons_succ, List.set_nil, Nat.reduceSub, Nat.reduceAdd, Option.map_some, Bool.false_eq_true, if_true, if_false, Bool.not_true, Bool.not_false, Bool.and_true, Bool.true_and, Bool.and_false, Bool.false_and, Dl.bne_false, Dl.bne_true, frzL_zs]
        refine fNe_same V hvs ?_
        refine ⟨g, by omega, by omega, ?_⟩
        exact en _ ⟨_, _, _, _, rfl⟩
      · rintro v hv ρ ⟨x4, x5, rfl⟩ E2 er2 en2 ec2
        have hf : ∀ y ∈ follF (cs l) v, Sgs y := foll_sgs g (hvs v hv)
        have hfl : (follF (cs l) v).length ≤ 5 := by
          unfold follF
          split
          · exact Nat.zero_le _
          · split
            · exact Nat.le_of_ble_eq_true rfl
            · rw [List.length_map, List.length_cons]; omega
        have hvl : (tx v).length ≤ 1000 := by
          rw [tx_len]
          have := hle v hv
          omega
        refine ⟨g, by omega, by omega, hvl, hvs v hv, hiw v hv, ?_⟩
        refine ⟨by omega, hvl, hvs v hv, ?_⟩
        refine fNe_same _ hf ?_
        refine ⟨ty_list, ?_, ?_⟩
        · rw [show (txs (follF (cs l) (cs (tx v)))).length = (follF (cs l) v).length from List.length_map .., sizeLine_eq]
          omega
        refine ⟨g, by omega, by omega, hvl, hvs v hv, hiw v hv, ?_⟩
        refine ⟨by omega, hvl, hvs v hv, ?_⟩
        refine fNe_same _ hf ?_
        exact en2 _ ⟨_, _, rfl⟩
theorem z_law : ∀ rs Q, sem_law rs Q → t_law w (eD Q) (startR N_law rs)
  | [.z (.scr ns)], Q, q => by
    have q : ns.length ≤ 63 ∧ Q (.z (.bl true)) := q
    obtain ⟨h, q⟩ := q
    simp only [t_law, dComp, dRange1, dSeq, dNext, dIfS, dExpr, dRet, dRetN, dSet, dAsg, dPar, dPar3, dParN, setL, gdName, gdNil, gdCons, gdTup, lenIs, dTest, dTru, truD, dAnd, dOr, dNot, dAndV, dOrV, dNotV, dIf, dVar, dC, d2, d1, dChain, dCall, dCallP, dCB, dTup, dLst, dSl, fSl, dRev, dRd, tyD, dMut, aNil, aCons, aStar, itemsD, oNone, oSome, fLt, fLe, fGt, fGe, fCmp, fAdd, fSub, fMul, fMod, fFdiv, fPow, fShl, fShr, fAnd, fOr, fII, fII0, fI, fNeg, fIs, fIx, fLen, fTuple, fList, fSum, fMax, fMin, fAny, fAll, fAbs, fInt, fDivmodW, fIsi, tyS, isK, isKs, tysD, fStarts, fEndsw, fAppend, fExtend, fPop, fPopAt, fReverse, fClear, viewR, viewL, frzR, frzL, argR, argL, stR, stL, outR, keyD, keysD, startR, D.py, D.pys, dPotIx, gdPot, dYes, dLenSet, List.map_cons, List.map_nil, List.length_cons, List.length_nil, List.replicate_succ, List.replicate_zero, List.cons_append, List.nil_append, List.append_nil, List.getElem?_cons_zero, List.getElem?_cons_succ, List.getElem?_nil, List.set_cons_zero, List.set_cons_succ, List.set_nil, Nat.reduceSub, Nat.reduceAdd, Option.map_some, Bool.false_eq_true, if_true, if_false, Bool.not_true, Bool.not_false, Bool.and_true, Bool.true_and, Bool.and_false, Bool.false_and, Dl.bne_false, Dl.bne_true, frzL_zs]
    generalize hm : (max 1 (min 6 (ns.length : Int))) = m
    refine ⟨⟨by omega, by omega⟩, ?_⟩
    unfold rangeD
    refine lc_map [some (.z (.scr ns)), none] (fun x => [some (.z (.scr ns)), some (.z x)]) (fun (i : Nat) => D.int (0 + (i : Int))) (fun _ => D.bl true) (fun _ => rfl) _ _ rfl (fun i _ K k => k) (fun i hi K k => ?_) ?_ ?_
    · have hi := List.mem_range.mp hi
      refine ⟨by omega, by omega, fun d hd => ?_⟩
      refine ⟨hd, ?_⟩
      exact ⟨nofun, k _ (.inl rfl)⟩
    · rw [List.length_range]
      exact size_of (by omega)
    · show (match blsD ((List.range m.toNat).map fun i => D.bl ((fun _ => true) i)) with
        | some bs => Q (R.z (D.bl (bs.all id)))
        | none => False)
      rw [blsD_of]
      show Q (.z (.bl (((List.range m.toNat).map fun _ => true).all id)))
      rw [all_of fun _ _ => rfl]
      exact q
theorem told (ns : List Int) (h : ns.length ≤ 63) : sem_law [.z (.scr ns)] fun r => r = .z (.bl true) := ⟨h, rfl⟩
end Dl
set_option Elab.async false
set_option linter.all false
set_option maxRecDepth 100000
set_option maxHeartbeats 4000000
/-! the end: a law whose promise wants that no repr is under way, with tables of code objects -/
namespace Lw
open PySem PySem.Spec PyProof.Rows L2 LamX
/-- the abstract heap at the law's entry: the tables, and the script unless the fragment tells of it -/
def entryH (lst : Option HO) (a : Addr) (tabs : List Addr) : Hp := fun b => if b ∈ tabs then some (.tbl #[]) else if b = a then lst else none
section
variable {lst : Option HO} {a : Addr} {tabs : List Addr}
theorem entry_cases {b : Addr} {u : HO} (h : entryH lst a tabs b = some u) : (b ∈ tabs ∧ u = .tbl #[]) ∨ (b = a ∧ lst = some u) := by
  unfold entryH at h
  by_cases h1 : b ∈ tabs
  · rw [if_pos h1] at h
    exact .inl ⟨h1, (Option.some.inj h).symm⟩
  · rw [if_neg h1] at h
    by_cases h2 : b = a
    · rw [if_pos h2] at h
      exact .inr ⟨h2, h⟩
    · rw [if_neg h2] at h
      cases h
theorem entry_tab {b : Addr} (h : b ∈ tabs) : entryH lst a tabs b = some (.tbl #[]) := if_pos h
theorem entry_scr (h : a ∉ tabs) : entryH lst a tabs a = lst := (if_neg h).trans (if_pos rfl)
end
abbrev scriptObj (vs : List Value) : Obj := { cls := .type "list", data := .seq vs.toArray }
section
variable {P : Program} {w : World} {K : PySem.W.Frag} {mg mb : Str → Option Value}
theorem law_run {k : Nat} {fa a : Addr} {cs : List (Addr × Addr)} {fd : FuncData} {x : Str} {sp : Sp} {s : Shared} {vs : List Value} {ns : List Int} (kin : K.In s.heap) (gl : s.heap.Ns mainGlobals mg) (bl : s.heap.Ns builtinsNs mb) (bb : ∀ y : Str, y ≠ "__name__" → mb y = bootBuiltins y)
    (nl : s.heap.NoLimit) (noGen : s.gens = #[]) (tb : ∀ p ∈ cs, s.heap.get? p.2 = some (PySem.W.tabObj #[])) (nk : ∀ p ∈ cs, K.lookup p.2 = none) (cd : ∀ p ∈ cs, PySem.W.CodeHd s.heap p.1 p.2)
    (bmain : ∃ (bm : Addr) (ob : Obj), mg "__builtins__" = some (.ref bm) ∧ bm ≠ builtinsNs ∧ s.heap.get? bm = some ob ∧ ob.cls = .type "module" ∧ ob.dict = some builtinsNs ∧ ob.data = .plain)
    (ha : s.heap.get? a = some (scriptObj vs)) (hi : IntsAre vs ns) (hl : ns.length ≤ sizeLine) (hr : Room k callerA)
    (F : ∀ base : Heap, K.In base → base.Ns mainGlobals mg → (∀ p ∈ cs, TabB base mg p.1 p.2) → FnG P w K mg base CX0 k fa fd [x] sp) (bind : ∀ (s' : Shared) (u : Value), BindsTo s' fd ⟨[u], []⟩ [(x, u)])
    (told : ∀ H : Hp, (∀ p ∈ cs, H p.2 = some (.tbl #[])) → SqL K H a (ns.map V.int) → sp [.ref a] H (fun v _ => v = .bl true) fun _ _ _ => False) :
    codeAny (model P w) callerA (.call (.ref fa) ⟨[.ref a], []⟩) (fun r s' => r = .ok (.ret (.bool true)) ∧ OldK s.heap s'.heap ∧ s'.os = s.os ∧ AllBare s'.gens) s := by
  have rel := vals_ints hi
  let tabs := cs.map (·.2)
  let lst : Option HO := if (K.lookup a).isNone = true then some (.frz (scriptObj vs) (.lst (ns.map V.int))) else none
  let H := entryH lst a tabs
  have isTab : ∀ {b : Addr}, b ∈ tabs → ∃ p ∈ cs, p.2 = b := fun hb => List.mem_map.mp hb
  have tabOf : ∀ {b : Addr}, b ∈ tabs → s.heap.get? b = some (PySem.W.tabObj #[]) := fun hb => by
    obtain ⟨p, hp, e⟩ := isTab hb
    rw [← e]
    exact tb p hp
  have aNo : a ∉ tabs := fun hm => by
    have z := ha.symm.trans (tabOf hm)
    have z2 : Data.seq vs.toArray _ = Data.fields #[] := congrArg Obj.data (Option.some.inj z)
    cases z2
  have cases_ : ∀ {b : Addr} {u : HO}, H b = some u → (b ∈ tabs ∧ u = .tbl #[]) ∨ (b = a ∧ (K.lookup a).isNone = true ∧ u = .frz (scriptObj vs) (.lst (ns.map V.int))) := fun {b u} e => by
    rcases entry_cases e with z | ⟨z1, z2⟩
    · exact .inl z
    · by_cases hn : (K.lookup a).isNone = true
      · have z3 : lst = some (.frz (scriptObj vs) (.lst (ns.map V.int))) := if_pos hn
        rw [z3] at z2
        exact .inr ⟨z1, hn, (Option.some.inj z2).symm⟩
      · have z3 : lst = none := if_neg hn
        rw [z3] at z2
        cases z2
  -- what is not tracked
  have seen : ∀ {b : Addr} {o : Obj}, s.heap.get? b = some o → o.data ≠ .fields #[] → (∀ xs n, o.data ≠ .seq xs n) → H b = none := fun {b o} e d1 d2 => by
    cases q : H b with
    | none => rfl
    | some u =>
      rcases cases_ q with ⟨z, _⟩ | ⟨z, _⟩
      · cases e.symm.trans (tabOf z)
        exact absurd rfl d1
      · rw [z] at e
        cases e.symm.trans ha
        exact absurd rfl (d2 _ _)
  have inK : ∀ {b : Addr} {o : Obj}, K.lookup b = some o → H b = none := fun {b o} e => by
    cases q : H b with
    | none => rfl
    | some u =>
      rcases cases_ q with ⟨z, _⟩ | ⟨z, z2, _⟩
      · obtain ⟨p, hp, ep⟩ := isTab z
        rw [← ep, nk p hp] at e
        cases e
      · rw [z] at e
        rw [e] at z2
        cases z2
  have nsOf : ∀ {b : Addr} {m : Str → Option Value}, s.heap.Ns b m → (hidT s.heap H).Ns b m := fun {b m} ⟨o, es, ep, e, d, r⟩ =>
    ⟨o, es, ep, hidT_get e (seen e (fun z => by rw [d] at z; cases z) fun _ _ z => by rw [d] at z; cases z), d, r⟩
  have kinB : K.In (hidT s.heap H) := fun b o e => hidT_get (kin b o e) (inK e)
  have md : L2.Mod K mg (hidT s.heap H) := ⟨kinB, nsOf gl, ⟨mb, nsOf bl, bb⟩, let ⟨mc, h1, h2⟩ := nl; ⟨mc, nsOf h1, h2⟩⟩
  have dictNe : ∀ {b c : Addr} {m : Str → Option Value} {o : Obj}, s.heap.Ns b m → s.heap.get? c = some o → (∀ es n, o.data ≠ .dict es n) → b ≠ c := fun {b c m o} ⟨o1, es, ep, e, d, _⟩ e2 hd q => by
    subst q
    cases e.symm.trans e2
    exact hd _ _ d
  have tbs : ∀ p ∈ cs, TabB (hidT s.heap H) mg p.1 p.2 := fun p hp => by
    obtain ⟨bm, ob, m1, m2, m3, m4, m5, m6⟩ := bmain
    have g1 : mainGlobals ≠ bm := dictNe gl m3 (fun _ _ z => by rw [m6] at z; cases z)
    have g2 : mainGlobals ≠ p.2 := dictNe gl (tb p hp) (fun _ _ z => by cases z)
    have g3 : bm ≠ p.2 := fun z => by
      rw [z] at m3
      cases m3.symm.trans (tb p hp)
      cases m6
    refine ⟨?_, ⟨bm, ob, m1, m2, g1.symm, g3, hidT_get m3 (seen m3 (fun z => by rw [m6] at z; cases z) fun _ _ z => by rw [m6] at z; cases z), m4, m5, m6⟩, g2⟩
    obtain ⟨o, us, file, tf, flags, tg, inF, text, tt, e1, e2, e3, e4, more⟩ := cd p hp
    have nb : H p.1 = none := seen e1 (fun z => by
      rw [e3] at z
      cases z
      simp at e4) fun _ _ z => by rw [e3] at z; cases z
    exact ⟨o, us, file, tf, flags, tg, inF, text, tt, hidT_get e1 nb, e2, e3, e4, more⟩
  have tabsH : ∀ p ∈ cs, H p.2 = some (.tbl #[]) := fun p hp => entry_tab (List.mem_map.mpr ⟨p, hp, rfl⟩)
  have okH : HOk P w H s.heap := fun b u e => by
    rcases cases_ e with ⟨z, rfl⟩ | ⟨z, _, rfl⟩
    · exact tabOf z
    · rw [z]
      exact ⟨ha, by rw [List.length_map]; exact hl, vs, _, rel, ha⟩
  have scr : SqL K H a (ns.map V.int) := by
    cases q : K.lookup a with
    | none =>
      refine .inl (.inr ⟨scriptObj vs, ?_⟩)
      have z3 : lst = some (.frz (scriptObj vs) (.lst (ns.map V.int))) := if_pos (by rw [q]; rfl)
      exact (entry_scr aNo).trans z3
    | some o =>
      cases (kin a o q).symm.trans ha
      refine .inr ⟨_, vs.toArray, _, q, rfl, rfl, rfl, ?_, by simpa using rel⟩
      rw [List.size_toArray, ← rel.length, List.length_map]
      exact hl
  have e0 : Env0 P w K mg (hidT s.heap H) callerA [] s H := ⟨rfl, md, fun b o e => of_hidT e, Nat.le_of_eq (hidT_size _ _), trivial, fun b hb => absurd (show b ∈ ([] : List Addr) from hb) List.not_mem_nil, okH, .of_eq noGen⟩
  refine codeAny_mono ((F _ kinB (nsOf gl) tbs).goes callerA [] s H [.ref a] [.ref a] _ _ rfl hr e0 (bind s (.ref a)) (.cons rfl .nil) (told H tabsH scr)) fun r s' out => ?_
  cases r with
  | error e => exact False.elim out
  | ok fl =>
    cases fl with
    | next => exact out.elim
    | brk => exact out.elim
    | cont => exact out.elim
    | ret u =>
      obtain ⟨v, H', os, bare, un, okH', ru, q⟩ := out
      cases (show v = .bl true from q)
      cases (show u = Value.bool true from ru)
      have kept : ∀ b o, b ∉ tabs → s.heap.get? b = some o → s'.heap.get? b = some o := fun b o nt e => by
        cases q : H b with
        | none => exact un.keep b o e q (fun z => absurd (show b ∈ ([] : List Addr) from z) List.not_mem_nil) List.not_mem_nil
        | some y =>
          rcases cases_ q with ⟨z, _⟩ | ⟨z, _, rfl⟩
          · exact absurd z nt
          · obtain ⟨e1, _⟩ := okH' b _ (un.frzs b _ _ q)
            rw [z] at e e1 ⊢
            cases e.symm.trans ha
            exact e1
      have grows : ∀ p ∈ cs, ∃ more : Array Value, s'.heap.get? p.2 = some { cls := .none, data := .fields more } := fun p hp => by
        obtain ⟨more, z⟩ := un.tbls p.2 #[] (tabsH p hp)
        exact ⟨_, okH' p.2 _ z⟩
      refine ⟨rfl, ⟨fun b o e => ?_, fun b o e => ?_⟩, os, bare⟩
      · by_cases nt : b ∈ tabs
        · obtain ⟨p, hp, ep⟩ := isTab nt
          obtain ⟨more, hm⟩ := grows p hp
          cases e.symm.trans (tabOf nt)
          rw [← ep]
          exact .inr (.inl ⟨((cd p hp).tab (tb p hp)).isCodeTable, rfl, #[], more, rfl, by rw [Array.empty_append]; exact hm⟩)
        · exact .inl (kept b o nt e)
      · by_cases nt : b ∈ tabs
        · obtain ⟨p, hp, ep⟩ := isTab nt
          obtain ⟨more, hm⟩ := grows p hp
          rw [← ep]
          exact ⟨_, hm⟩
        · exact ⟨o, kept b o nt e⟩
end
def FunAt (K : PySem.W.Frag) (x : Str) (st : Stmt) : Prop := ∃ (f : Addr) (fd : FuncData), L2.Fun K x x st f fd ∧ PySem.W.nsIn K mainGlobals x = some (some (.ref f))
theorem funAt {K : PySem.W.Frag} {x : Str} {st : Stmt} {f : Addr} {oc : Value} {od an : Option Addr} {osl : Array (Option Value)} {kV doc pm cdv ct : Value} (a : PySem.W.nsIn K mainGlobals x = some (some (.ref f)))
    (l : K.lookup f = some ⟨oc, od, .func (PySem.W.fnOf x x (defArgs st) (defBody st) (defScope st) .none kV doc pm an cdv ct), osl⟩) (c : PySem.W.codeIn K cdv x = true) (k : PySem.W.keepIn K (.ref f) = true) : FunAt K x st := ⟨f, _, fun_mk l c k, a⟩
theorem exStr {K : PySem.W.Frag} {x y : Str} {t : Tok} (h : PySem.W.nsIn K mainGlobals x = some (some (.str y t))) : ∃ t, PySem.W.nsIn K mainGlobals x = some (some (.str y t)) := ⟨t, h⟩
theorem exInt {K : PySem.W.Frag} {x : Str} {i : Int} {t : Tok} (h : PySem.W.nsIn K mainGlobals x = some (some (.int i t))) : ∃ t, PySem.W.nsIn K mainGlobals x = some (some (.int i t)) := ⟨t, h⟩
end Lw
namespace Dl
open PySem PySem.Spec PyProof.Rows L2 LamX
/-- at the law's entry nothing is a pot, and no table of code objects is told of -/
theorem told_d {K : PySem.W.Frag} {sem : Sem} {H : Hp} {a : Addr} {ns : List Int} (hz : ns.length ≤ sizeLine) (h : SqL K H a (ns.map V.int)) (q : sem [.z (.scr ns)] fun r => r = .z (.bl true)) : spD K ⟨none, []⟩ sem [.ref a] H (fun v _ => v = .bl true) fun _ _ _ => False := by
  have nomu : ∀ b, ¬ (⟨none, []⟩ : Fm).mu b := fun b hb => by
    rcases hb with hb | ⟨_, hb⟩
    · cases hb
    · cases hb
  refine ⟨H, [.z (.scr ns)], _, ⟨fun _ _ e => e, fun _ _ e => .inl e, fun b o e1 e2 => ?_, fun b hb => absurd hb (nomu b), ⟨(fun _ e => nomatch e), fun _ hp => absurd hp List.not_mem_nil⟩, fun b o e => ⟨o, e⟩⟩, .cons (.z (.scr h hz)) .nil, q, fun r v F' H' o e => ?_⟩
  · cases e1.symm.trans e2
  · subst e
    have := o.ok
    cases (show Den K F' (.bl true) v from this)
    rfl
theorem walk_d {l : PySem.W.OpenLaw} {q : Program} {loose : List Str} {XP : (Str → Option Value) → Heap → Prop} {d : DefRec} {K : Params → PySem.W.Frag} {as : List Addr} {e : ∀ P, as = (K P).map (·.1)} {k : Nat} {x : Str} {sem : Sem} {st : Stmt} (hn : l.most = some 63) (hdf : d.params.defaults = []) (hname : d.name = "law") (hr : Room k callerA)
    (bd : ∀ {K : PySem.W.Frag} {f : Addr} {fd : FuncData}, L2.Fun K "law" "law" st f fd → ∀ (s' : Shared) (u : Value), BindsTo s' fd ⟨[u], []⟩ [(x, u)])
    (told : ∀ ns : List Int, ns.length ≤ 63 → sem [.z (.scr ns)] fun r => r = .z (.bl true))
    (all : ∀ w : World, Lw.FunAt (K w.params) "law" st ∧ ∀ (mg : Str → Option Value) (base : Heap), (K w.params).In base → base.Ns mainGlobals mg → ∀ f fd, L2.Fun (K w.params) "law" "law" st f fd → ∀ fm, Lw.FnG l.prog w (K w.params) mg base CX0 k f fd [x] (spD (K w.params) fm sem)) : PySem.W.WalkO q loose XP (PySem.W.kHook K as e).says l.row.toRowW d [] (fun f vs => PySem.call f vs) := by
  refine Att.attach_callB hn hdf fun w s₀ s₁ mg mb fa o pm cd doc a vs ns G Y ho hd hcd hmg hobj hints hlen hbits hg => ?_
  have KX := PySem.W.kIn_of Y
  obtain ⟨⟨f67, fd67, F67, a67⟩, M⟩ := all w
  rw [hname] at hmg
  cases hmg.symm.trans (PySem.W.mg_of KX G.T.g a67)
  refine Lw.law_run (P := l.prog) (w := w) (K := K w.params) (k := k) (cs := []) (x := x) (sp := spD (K w.params) ⟨none, []⟩ sem) KX G.T.g G.T.b G.T.builtins G.T.nolimit hg (fun _ hp => absurd hp List.not_mem_nil) (fun _ hp => absurd hp List.not_mem_nil)
    (fun _ hp => absurd hp List.not_mem_nil) G.T.bmain hobj hints (Nat.le_trans hlen (by decide)) hr (fun base kinB glB tb => ?_) (bd F67) (fun H hH hS => told_d (Nat.le_trans hlen (by rw [sizeLine_eq]; decide)) hS (told ns hlen))
  exact M mg base kinB glB _ _ F67 ⟨none, []⟩
end Dl
set_option autoImplicit false
set_option Elab.async false
set_option linter.all false
set_option maxRecDepth 100000
set_option maxHeartbeats 4000000
namespace Dl
open PySem PySem.Spec PyProof.Rows L2 LamX
structure AllAt (K : PySem.W.Frag) : Prop where
  d_law_pot : Lw.FunAt K "_law_pot" s_law_pot
  d_law_many : Lw.FunAt K "_law_many" s_law_many
  d_law_draw : Lw.FunAt K "_law_draw" s_law_draw
  d_law_pick : Lw.FunAt K "_law_pick" s_law_pick
  d_law_seen : Lw.FunAt K "_law_seen" s_law_seen
  d_is_integer : Lw.FunAt K "is_integer" s_is_integer
  d_is_count : Lw.FunAt K "is_count" s_is_count
  d_check_count : Lw.FunAt K "check_count" s_check_count
  d_check_ahead : Lw.FunAt K "check_ahead" s_check_ahead
  d_is_over : Lw.FunAt K "is_over" s_is_over
  d_is_letters : Lw.FunAt K "is_letters" s_is_letters
  d_check_letters : Lw.FunAt K "check_letters" s_check_letters
  d_is_window : Lw.FunAt K "is_window" s_is_window
  d_check_window : Lw.FunAt K "check_window" s_check_window
  d_followers : Lw.FunAt K "followers" s_followers
  d_following : Lw.FunAt K "following" s_following
  d_numbered_row : Lw.FunAt K "numbered_row" s_numbered_row
  d_rows_up_to : Lw.FunAt K "rows_up_to" s_rows_up_to
  d_all_windows : Lw.FunAt K "all_windows" s_all_windows
  d_windows : Lw.FunAt K "windows" s_windows
  d_law_rows_right : Lw.FunAt K "_law_rows_right" s_law_rows_right
  d_law_signs : Lw.FunAt K "_law_signs" s_law_signs
  d_law_thens : Lw.FunAt K "_law_thens" s_law_thens
  d_law_views : Lw.FunAt K "_law_views" s_law_views
  d_law_right : Lw.FunAt K "_law_right" s_law_right
  d_law : Lw.FunAt K "law" s_law
  k_ALPHABET : ∃ t, PySem.W.nsIn K mainGlobals "ALPHABET" = some (some (.str "abcdefghijklmnopqrstuvwxyz" t))
  k_MOST_LETTERS : ∃ t, PySem.W.nsIn K mainGlobals "MOST_LETTERS" = some (some (.int 4 t))
  k_MOST_AHEAD : ∃ t, PySem.W.nsIn K mainGlobals "MOST_AHEAD" = some (some (.int 3 t))
  k_STOP : ∃ t, PySem.W.nsIn K mainGlobals "STOP" = some (some (.str "." t))
  n_abs : PySem.W.nsIn K mainGlobals "abs" = some none
  n_all : PySem.W.nsIn K mainGlobals "all" = some none
  n_bool : PySem.W.nsIn K mainGlobals "bool" = some none
  n_divmod : PySem.W.nsIn K mainGlobals "divmod" = some none
  n_int : PySem.W.nsIn K mainGlobals "int" = some none
  n_isinstance : PySem.W.nsIn K mainGlobals "isinstance" = some none
  n_len : PySem.W.nsIn K mainGlobals "len" = some none
  n_max : PySem.W.nsIn K mainGlobals "max" = some none
  n_min : PySem.W.nsIn K mainGlobals "min" = some none
  n_range : PySem.W.nsIn K mainGlobals "range" = some none
  n_set : PySem.W.nsIn K mainGlobals "set" = some none
  n_sorted : PySem.W.nsIn K mainGlobals "sorted" = some none
  n_str : PySem.W.nsIn K mainGlobals "str" = some none
  n_zip : PySem.W.nsIn K mainGlobals "zip" = some none
theorem ln_law_pot : ∀ rs Q, sem_law_pot rs Q → rs.length = (["_law_script", "_law_cell"] : List Str).length := fun rs Q h => by
  unfold sem_law_pot at h
  split at h <;> first | rfl | exact h.elim
theorem ln_law_many : ∀ rs Q, sem_law_many rs Q → rs.length = (["_law_many_here", "_law_far"] : List Str).length := fun rs Q h => by
  unfold sem_law_many at h
  split at h <;> first | rfl | exact h.elim
theorem ln_law_draw : ∀ rs Q, sem_law_draw rs Q → rs.length = (["_law_pot_here", "_law_many_here"] : List Str).length := fun rs Q h => by
  unfold sem_law_draw at h
  split at h <;> first | rfl | exact h.elim
theorem ln_law_pick : ∀ rs Q, sem_law_pick rs Q → rs.length = (["_law_pot_here", "_law_items"] : List Str).length := fun rs Q h => by
  unfold sem_law_pick at h
  split at h <;> first | rfl | exact h.elim
theorem ln_law_seen : ∀ rs Q, sem_law_seen rs Q → rs.length = (["_law_line", "_law_place", "_law_far"] : List Str).length := fun rs Q h => by
  unfold sem_law_seen at h
  split at h <;> first | rfl | exact h.elim
theorem ln_is_integer : ∀ rs Q, sem_is_integer rs Q → rs.length = (["value"] : List Str).length := fun rs Q h => by
  unfold sem_is_integer at h
  split at h <;> first | rfl | exact h.elim
theorem ln_is_count : ∀ rs Q, sem_is_count rs Q → rs.length = (["value"] : List Str).length := fun rs Q h => by
  unfold sem_is_count at h
  split at h <;> first | rfl | exact h.elim
theorem ln_check_count : ∀ rs Q, sem_check_count rs Q → rs.length = (["value"] : List Str).length := fun rs Q h => by
  unfold sem_check_count at h
  split at h <;> first | rfl | exact h.elim
theorem ln_check_ahead : ∀ rs Q, sem_check_ahead rs Q → rs.length = (["d"] : List Str).length := fun rs Q h => by
  unfold sem_check_ahead at h
  split at h <;> first | rfl | exact h.elim
theorem ln_is_over : ∀ rs Q, sem_is_over rs Q → rs.length = (["letters", "value"] : List Str).length := fun rs Q h => by
  unfold sem_is_over at h
  split at h <;> first | rfl | exact h.elim
theorem ln_is_letters : ∀ rs Q, sem_is_letters rs Q → rs.length = (["value"] : List Str).length := fun rs Q h => by
  unfold sem_is_letters at h
  split at h <;> first | rfl | exact h.elim
theorem ln_check_letters : ∀ rs Q, sem_check_letters rs Q → rs.length = (["letters"] : List Str).length := fun rs Q h => by
  unfold sem_check_letters at h
  split at h <;> first | rfl | exact h.elim
theorem ln_is_window : ∀ rs Q, sem_is_window rs Q → rs.length = (["letters", "d", "value"] : List Str).length := fun rs Q h => by
  unfold sem_is_window at h
  split at h <;> first | rfl | exact h.elim
theorem ln_check_window : ∀ rs Q, sem_check_window rs Q → rs.length = (["letters", "d", "window"] : List Str).length := fun rs Q h => by
  unfold sem_check_window at h
  split at h <;> first | rfl | exact h.elim
theorem ln_followers : ∀ rs Q, sem_followers rs Q → rs.length = (["letters", "window"] : List Str).length := fun rs Q h => by
  unfold sem_followers at h
  split at h <;> first | rfl | exact h.elim
theorem ln_following : ∀ rs Q, sem_following rs Q → rs.length = (["letters", "d", "window"] : List Str).length := fun rs Q h => by
  unfold sem_following at h
  split at h <;> first | rfl | exact h.elim
theorem ln_numbered_row : ∀ rs Q, sem_numbered_row rs Q → rs.length = (["letters", "number"] : List Str).length := fun rs Q h => by
  unfold sem_numbered_row at h
  split at h <;> first | rfl | exact h.elim
theorem ln_rows_up_to : ∀ rs Q, sem_rows_up_to rs Q → rs.length = (["letters", "most"] : List Str).length := fun rs Q h => by
  unfold sem_rows_up_to at h
  split at h <;> first | rfl | exact h.elim
theorem ln_all_windows : ∀ rs Q, sem_all_windows rs Q → rs.length = (["letters", "d"] : List Str).length := fun rs Q h => by
  unfold sem_all_windows at h
  split at h <;> first | rfl | exact h.elim
theorem ln_windows : ∀ rs Q, sem_windows rs Q → rs.length = (["letters", "d"] : List Str).length := fun rs Q h => by
  unfold sem_windows at h
  split at h <;> first | rfl | exact h.elim
theorem ln_law_rows_right : ∀ rs Q, sem_law_rows_right rs Q → rs.length = (["_law_pot_here", "_law_signs_here", "_law_far"] : List Str).length := fun rs Q h => by
  unfold sem_law_rows_right at h
  split at h <;> first | rfl | exact h.elim
theorem ln_law_signs : ∀ rs Q, sem_law_signs rs Q → rs.length = (["_law_pot_here"] : List Str).length := fun rs Q h => by
  unfold sem_law_signs at h
  split at h <;> first | rfl | exact h.elim
theorem ln_law_thens : ∀ rs Q, sem_law_thens rs Q → rs.length = (["_law_signs_here", "_law_view"] : List Str).length := fun rs Q h => by
  unfold sem_law_thens at h
  split at h <;> first | rfl | exact h.elim
theorem ln_law_views : ∀ rs Q, sem_law_views rs Q → rs.length = (["_law_signs_here", "_law_far"] : List Str).length := fun rs Q h => by
  unfold sem_law_views at h
  split at h <;> first | rfl | exact h.elim
theorem ln_law_right : ∀ rs Q, sem_law_right rs Q → rs.length = (["_law_pot_here"] : List Str).length := fun rs Q h => by
  unfold sem_law_right at h
  split at h <;> first | rfl | exact h.elim
theorem ln_law : ∀ rs Q, sem_law rs Q → rs.length = (["_law_script"] : List Str).length := fun rs Q h => by
  unfold sem_law at h
  try unfold semlaw at h
  split at h <;> first | rfl | exact h.elim
theorem top_d {P : Program} {w : World} {K : PySem.W.Frag} {mg : Str → Option Value} {h base : Heap} (X : K.In h) (G : h.Ns mainGlobals mg) (A : AllAt K) (f : Addr) (fd : FuncData) (F : L2.Fun K "law" "law" s_law f fd) (fm : Fm) : Lw.FnG P w K mg base CX0 8 f fd ["_law_script"] (spD K fm sem_law) := by
  have B : Bi mg := ⟨PySem.W.mg_none_of X G A.n_abs, PySem.W.mg_none_of X G A.n_all, PySem.W.mg_none_of X G A.n_bool, PySem.W.mg_none_of X G A.n_divmod, PySem.W.mg_none_of X G A.n_int, PySem.W.mg_none_of X G A.n_isinstance, PySem.W.mg_none_of X G A.n_len, PySem.W.mg_none_of X G A.n_max, PySem.W.mg_none_of X G A.n_min, PySem.W.mg_none_of X G A.n_range, PySem.W.mg_none_of X G A.n_set, PySem.W.mg_none_of X G A.n_sorted, PySem.W.mg_none_of X G A.n_str, PySem.W.mg_none_of X G A.n_zip⟩
  have c_ALPHABET : ∃ t, mg "ALPHABET" = some (.str "abcdefghijklmnopqrstuvwxyz" t) := by
    obtain ⟨t, ht⟩ := A.k_ALPHABET
    exact ⟨t, PySem.W.mg_of X G ht⟩
  have c_MOST_LETTERS : ∃ t, mg "MOST_LETTERS" = some (.int 4 t) := by
    obtain ⟨t, ht⟩ := A.k_MOST_LETTERS
    exact ⟨t, PySem.W.mg_of X G ht⟩
  have c_MOST_AHEAD : ∃ t, mg "MOST_AHEAD" = some (.int 3 t) := by
    obtain ⟨t, ht⟩ := A.k_MOST_AHEAD
    exact ⟨t, PySem.W.mg_of X G ht⟩
  have c_STOP : ∃ t, mg "STOP" = some (.str "." t) := by
    obtain ⟨t, ht⟩ := A.k_STOP
    exact ⟨t, PySem.W.mg_of X G ht⟩
  obtain ⟨f_law_pot, fd_law_pot, F_law_pot, a_law_pot⟩ := A.d_law_pot
  have D__law_pot : DefD P w K mg base 1 "_law_pot" ["_law_script", "_law_cell"] sem_law_pot := ⟨f_law_pot, fd_law_pot, ok_d F_law_pot sc_law_pot ln_law_pot (fun fm cdv A outer s H E hr => ⟨_, p_law_pot hr B , fun rs Q h => z_law_pot w rs Q h⟩), PySem.W.mg_of X G a_law_pot, F_law_pot.kp, F_law_pot.binds (ps := ["_law_script", "_law_cell"]) fun _ _ _ _ _ _ us hl => match us, hl with | [_, _], _ => rfl⟩
  obtain ⟨f_law_many, fd_law_many, F_law_many, a_law_many⟩ := A.d_law_many
  have D__law_many : DefD P w K mg base 1 "_law_many" ["_law_many_here", "_law_far"] sem_law_many := ⟨f_law_many, fd_law_many, ok_d F_law_many sc_law_many ln_law_many (fun fm cdv A outer s H E hr => ⟨_, p_law_many hr B , fun rs Q h => z_law_many w rs Q h⟩), PySem.W.mg_of X G a_law_many, F_law_many.kp, F_law_many.binds (ps := ["_law_many_here", "_law_far"]) fun _ _ _ _ _ _ us hl => match us, hl with | [_, _], _ => rfl⟩
  obtain ⟨f_law_draw, fd_law_draw, F_law_draw, a_law_draw⟩ := A.d_law_draw
  have D__law_draw : DefD P w K mg base 1 "_law_draw" ["_law_pot_here", "_law_many_here"] sem_law_draw := ⟨f_law_draw, fd_law_draw, ok_d F_law_draw sc_law_draw ln_law_draw (fun fm cdv A outer s H E hr => ⟨_, p_law_draw hr B , fun rs Q h => z_law_draw w rs Q h⟩), PySem.W.mg_of X G a_law_draw, F_law_draw.kp, F_law_draw.binds (ps := ["_law_pot_here", "_law_many_here"]) fun _ _ _ _ _ _ us hl => match us, hl with | [_, _], _ => rfl⟩
  obtain ⟨f_law_pick, fd_law_pick, F_law_pick, a_law_pick⟩ := A.d_law_pick
  have D__law_pick : DefD P w K mg base 2 "_law_pick" ["_law_pot_here", "_law_items"] sem_law_pick := ⟨f_law_pick, fd_law_pick, ok_d F_law_pick sc_law_pick ln_law_pick (fun fm cdv A outer s H E hr => ⟨_, p_law_pick hr B D__law_draw, fun rs Q h => z_law_pick w rs Q h⟩), PySem.W.mg_of X G a_law_pick, F_law_pick.kp, F_law_pick.binds (ps := ["_law_pot_here", "_law_items"]) fun _ _ _ _ _ _ us hl => match us, hl with | [_, _], _ => rfl⟩
  obtain ⟨f_law_seen, fd_law_seen, F_law_seen, a_law_seen⟩ := A.d_law_seen
  have D__law_seen : DefD P w K mg base 1 "_law_seen" ["_law_line", "_law_place", "_law_far"] sem_law_seen := ⟨f_law_seen, fd_law_seen, ok_d F_law_seen sc_law_seen ln_law_seen (fun fm cdv A outer s H E hr => ⟨_, p_law_seen hr B , fun rs Q h => z_law_seen w rs Q h⟩), PySem.W.mg_of X G a_law_seen, F_law_seen.kp, F_law_seen.binds (ps := ["_law_line", "_law_place", "_law_far"]) fun _ _ _ _ _ _ us hl => match us, hl with | [_, _, _], _ => rfl⟩
  obtain ⟨f_is_integer, fd_is_integer, F_is_integer, a_is_integer⟩ := A.d_is_integer
  have D_is_integer : DefD P w K mg base 1 "is_integer" ["value"] sem_is_integer := ⟨f_is_integer, fd_is_integer, ok_d F_is_integer sc_is_integer ln_is_integer (fun fm cdv A outer s H E hr => ⟨_, p_is_integer hr B , fun rs Q h => z_is_integer w rs Q h⟩), PySem.W.mg_of X G a_is_integer, F_is_integer.kp, F_is_integer.binds (ps := ["value"]) fun _ _ _ _ _ _ us hl => match us, hl with | [_], _ => rfl⟩
  obtain ⟨f_is_count, fd_is_count, F_is_count, a_is_count⟩ := A.d_is_count
  have D_is_count : DefD P w K mg base 2 "is_count" ["value"] sem_is_count := ⟨f_is_count, fd_is_count, ok_d F_is_count sc_is_count ln_is_count (fun fm cdv A outer s H E hr => ⟨_, p_is_count hr B D_is_integer, fun rs Q h => z_is_count w rs Q h⟩), PySem.W.mg_of X G a_is_count, F_is_count.kp, F_is_count.binds (ps := ["value"]) fun _ _ _ _ _ _ us hl => match us, hl with | [_], _ => rfl⟩
  obtain ⟨f_check_count, fd_check_count, F_check_count, a_check_count⟩ := A.d_check_count
  have D_check_count : DefD P w K mg base 3 "check_count" ["value"] sem_check_count := ⟨f_check_count, fd_check_count, ok_d F_check_count sc_check_count ln_check_count (fun fm cdv A outer s H E hr => ⟨_, p_check_count hr B D_is_count, fun rs Q h => z_check_count w rs Q h⟩), PySem.W.mg_of X G a_check_count, F_check_count.kp, F_check_count.binds (ps := ["value"]) fun _ _ _ _ _ _ us hl => match us, hl with | [_], _ => rfl⟩
  obtain ⟨f_check_ahead, fd_check_ahead, F_check_ahead, a_check_ahead⟩ := A.d_check_ahead
  have D_check_ahead : DefD P w K mg base 4 "check_ahead" ["d"] sem_check_ahead := ⟨f_check_ahead, fd_check_ahead, ok_d F_check_ahead sc_check_ahead ln_check_ahead (fun fm cdv A outer s H E hr => ⟨_, p_check_ahead hr B D_check_count c_MOST_AHEAD, fun rs Q h => z_check_ahead w rs Q h⟩), PySem.W.mg_of X G a_check_ahead, F_check_ahead.kp, F_check_ahead.binds (ps := ["d"]) fun _ _ _ _ _ _ us hl => match us, hl with | [_], _ => rfl⟩
  obtain ⟨f_is_over, fd_is_over, F_is_over, a_is_over⟩ := A.d_is_over
  have D_is_over : DefD P w K mg base 1 "is_over" ["letters", "value"] sem_is_over := ⟨f_is_over, fd_is_over, ok_d F_is_over sc_is_over ln_is_over (fun fm cdv A outer s H E hr => ⟨_, p_is_over hr B , fun rs Q h => z_is_over w rs Q h⟩), PySem.W.mg_of X G a_is_over, F_is_over.kp, F_is_over.binds (ps := ["letters", "value"]) fun _ _ _ _ _ _ us hl => match us, hl with | [_, _], _ => rfl⟩
  obtain ⟨f_is_letters, fd_is_letters, F_is_letters, a_is_letters⟩ := A.d_is_letters
  have D_is_letters : DefD P w K mg base 2 "is_letters" ["value"] sem_is_letters := ⟨f_is_letters, fd_is_letters, ok_d F_is_letters sc_is_letters ln_is_letters (fun fm cdv A outer s H E hr => ⟨_, p_is_letters hr B D_is_over c_ALPHABET c_MOST_LETTERS, fun rs Q h => z_is_letters w rs Q h⟩), PySem.W.mg_of X G a_is_letters, F_is_letters.kp, F_is_letters.binds (ps := ["value"]) fun _ _ _ _ _ _ us hl => match us, hl with | [_], _ => rfl⟩
  obtain ⟨f_check_letters, fd_check_letters, F_check_letters, a_check_letters⟩ := A.d_check_letters
  have D_check_letters : DefD P w K mg base 3 "check_letters" ["letters"] sem_check_letters := ⟨f_check_letters, fd_check_letters, ok_d F_check_letters sc_check_letters ln_check_letters (fun fm cdv A outer s H E hr => ⟨_, p_check_letters hr B D_is_letters, fun rs Q h => z_check_letters w rs Q h⟩), PySem.W.mg_of X G a_check_letters, F_check_letters.kp, F_check_letters.binds (ps := ["letters"]) fun _ _ _ _ _ _ us hl => match us, hl with | [_], _ => rfl⟩
  obtain ⟨f_is_window, fd_is_window, F_is_window, a_is_window⟩ := A.d_is_window
  have D_is_window : DefD P w K mg base 2 "is_window" ["letters", "d", "value"] sem_is_window := ⟨f_is_window, fd_is_window, ok_d F_is_window sc_is_window ln_is_window (fun fm cdv A outer s H E hr => ⟨_, p_is_window hr B D_is_over c_STOP, fun rs Q h => z_is_window w rs Q h⟩), PySem.W.mg_of X G a_is_window, F_is_window.kp, F_is_window.binds (ps := ["letters", "d", "value"]) fun _ _ _ _ _ _ us hl => match us, hl with | [_, _, _], _ => rfl⟩
  obtain ⟨f_check_window, fd_check_window, F_check_window, a_check_window⟩ := A.d_check_window
  have D_check_window : DefD P w K mg base 3 "check_window" ["letters", "d", "window"] sem_check_window := ⟨f_check_window, fd_check_window, ok_d F_check_window sc_check_window ln_check_window (fun fm cdv A outer s H E hr => ⟨_, p_check_window hr B D_is_window, fun rs Q h => z_check_window w rs Q h⟩), PySem.W.mg_of X G a_check_window, F_check_window.kp, F_check_window.binds (ps := ["letters", "d", "window"]) fun _ _ _ _ _ _ us hl => match us, hl with | [_, _, _], _ => rfl⟩
  obtain ⟨f_followers, fd_followers, F_followers, a_followers⟩ := A.d_followers
  have D_followers : DefD P w K mg base 1 "followers" ["letters", "window"] sem_followers := ⟨f_followers, fd_followers, ok_d F_followers sc_followers ln_followers (fun fm cdv A outer s H E hr => ⟨_, p_followers hr B c_STOP, fun rs Q h => z_followers w rs Q h⟩), PySem.W.mg_of X G a_followers, F_followers.kp, F_followers.binds (ps := ["letters", "window"]) fun _ _ _ _ _ _ us hl => match us, hl with | [_, _], _ => rfl⟩
  obtain ⟨f_following, fd_following, F_following, a_following⟩ := A.d_following
  have D_following : DefD P w K mg base 5 "following" ["letters", "d", "window"] sem_following := ⟨f_following, fd_following, ok_d F_following sc_following ln_following (fun fm cdv A outer s H E hr => ⟨_, p_following hr B D_check_ahead D_check_letters D_check_window D_followers, fun rs Q h => z_following w rs Q h⟩), PySem.W.mg_of X G a_following, F_following.kp, F_following.binds (ps := ["letters", "d", "window"]) fun _ _ _ _ _ _ us hl => match us, hl with | [_, _, _], _ => rfl⟩
  obtain ⟨f_numbered_row, fd_numbered_row, F_numbered_row, a_numbered_row⟩ := A.d_numbered_row
  have D_numbered_row : DefD P w K mg base 1 "numbered_row" ["letters", "number"] sem_numbered_row := ⟨f_numbered_row, fd_numbered_row, ok_d F_numbered_row sc_numbered_row ln_numbered_row (fun fm cdv A outer s H E hr => ⟨_, p_numbered_row hr B , fun rs Q h => z_numbered_row w rs Q h⟩), PySem.W.mg_of X G a_numbered_row, F_numbered_row.kp, F_numbered_row.binds (ps := ["letters", "number"]) fun _ _ _ _ _ _ us hl => match us, hl with | [_, _], _ => rfl⟩
  obtain ⟨f_rows_up_to, fd_rows_up_to, F_rows_up_to, a_rows_up_to⟩ := A.d_rows_up_to
  have D_rows_up_to : DefD P w K mg base 1 "rows_up_to" ["letters", "most"] sem_rows_up_to := ⟨f_rows_up_to, fd_rows_up_to, ok_d F_rows_up_to sc_rows_up_to ln_rows_up_to (fun fm cdv A outer s H E hr => ⟨_, p_rows_up_to hr B , fun rs Q h => z_rows_up_to w rs Q h⟩), PySem.W.mg_of X G a_rows_up_to, F_rows_up_to.kp, F_rows_up_to.binds (ps := ["letters", "most"]) fun _ _ _ _ _ _ us hl => match us, hl with | [_, _], _ => rfl⟩
  obtain ⟨f_all_windows, fd_all_windows, F_all_windows, a_all_windows⟩ := A.d_all_windows
  have D_all_windows : DefD P w K mg base 2 "all_windows" ["letters", "d"] sem_all_windows := ⟨f_all_windows, fd_all_windows, ok_d F_all_windows sc_all_windows ln_all_windows (fun fm cdv A outer s H E hr => ⟨_, p_all_windows hr B D_numbered_row D_rows_up_to c_STOP, fun rs Q h => z_all_windows w rs Q h⟩), PySem.W.mg_of X G a_all_windows, F_all_windows.kp, F_all_windows.binds (ps := ["letters", "d"]) fun _ _ _ _ _ _ us hl => match us, hl with | [_, _], _ => rfl⟩
  obtain ⟨f_windows, fd_windows, F_windows, a_windows⟩ := A.d_windows
  have D_windows : DefD P w K mg base 5 "windows" ["letters", "d"] sem_windows := ⟨f_windows, fd_windows, ok_d F_windows sc_windows ln_windows (fun fm cdv A outer s H E hr => ⟨_, p_windows hr B D_all_windows D_check_ahead D_check_letters, fun rs Q h => z_windows w rs Q h⟩), PySem.W.mg_of X G a_windows, F_windows.kp, F_windows.binds (ps := ["letters", "d"]) fun _ _ _ _ _ _ us hl => match us, hl with | [_, _], _ => rfl⟩
  obtain ⟨f_law_rows_right, fd_law_rows_right, F_law_rows_right, a_law_rows_right⟩ := A.d_law_rows_right
  have D__law_rows_right : DefD P w K mg base 6 "_law_rows_right" ["_law_pot_here", "_law_signs_here", "_law_far"] sem_law_rows_right := ⟨f_law_rows_right, fd_law_rows_right, ok_d F_law_rows_right sc_law_rows_right ln_law_rows_right (fun fm cdv A outer s H E hr => ⟨_, p_law_rows_right hr B D__law_draw D__law_pick D__law_seen D_following D_windows, fun rs Q h => z_law_rows_right w rs Q h⟩), PySem.W.mg_of X G a_law_rows_right, F_law_rows_right.kp, F_law_rows_right.binds (ps := ["_law_pot_here", "_law_signs_here", "_law_far"]) fun _ _ _ _ _ _ us hl => match us, hl with | [_, _, _], _ => rfl⟩
  obtain ⟨f_law_signs, fd_law_signs, F_law_signs, a_law_signs⟩ := A.d_law_signs
  have D__law_signs : DefD P w K mg base 3 "_law_signs" ["_law_pot_here"] sem_law_signs := ⟨f_law_signs, fd_law_signs, ok_d F_law_signs sc_law_signs ln_law_signs (fun fm cdv A outer s H E hr => ⟨_, p_law_signs hr B D__law_draw D__law_pick, fun rs Q h => z_law_signs w rs Q h⟩), PySem.W.mg_of X G a_law_signs, F_law_signs.kp, F_law_signs.binds (ps := ["_law_pot_here"]) fun _ _ _ _ _ _ us hl => match us, hl with | [_], _ => rfl⟩
  obtain ⟨f_law_thens, fd_law_thens, F_law_thens, a_law_thens⟩ := A.d_law_thens
  have D__law_thens : DefD P w K mg base 1 "_law_thens" ["_law_signs_here", "_law_view"] sem_law_thens := ⟨f_law_thens, fd_law_thens, ok_d F_law_thens sc_law_thens ln_law_thens (fun fm cdv A outer s H E hr => ⟨_, p_law_thens hr B , fun rs Q h => z_law_thens w rs Q h⟩), PySem.W.mg_of X G a_law_thens, F_law_thens.kp, F_law_thens.binds (ps := ["_law_signs_here", "_law_view"]) fun _ _ _ _ _ _ us hl => match us, hl with | [_, _], _ => rfl⟩
  obtain ⟨f_law_views, fd_law_views, F_law_views, a_law_views⟩ := A.d_law_views
  have D__law_views : DefD P w K mg base 1 "_law_views" ["_law_signs_here", "_law_far"] sem_law_views := ⟨f_law_views, fd_law_views, ok_d F_law_views sc_law_views ln_law_views (fun fm cdv A outer s H E hr => ⟨_, p_law_views hr B , fun rs Q h => z_law_views w rs Q h⟩), PySem.W.mg_of X G a_law_views, F_law_views.kp, F_law_views.binds (ps := ["_law_signs_here", "_law_far"]) fun _ _ _ _ _ _ us hl => match us, hl with | [_, _], _ => rfl⟩
  obtain ⟨f_law_right, fd_law_right, F_law_right, a_law_right⟩ := A.d_law_right
  have D__law_right : DefD P w K mg base 7 "_law_right" ["_law_pot_here"] sem_law_right := ⟨f_law_right, fd_law_right, ok_d F_law_right sc_law_right ln_law_right (fun fm cdv A outer s H E hr => ⟨_, p_law_right hr B D__law_many D__law_rows_right D__law_signs D__law_thens D__law_views D_following D_windows, fun rs Q h => z_law_right w rs Q h⟩), PySem.W.mg_of X G a_law_right, F_law_right.kp, F_law_right.binds (ps := ["_law_pot_here"]) fun _ _ _ _ _ _ us hl => match us, hl with | [_], _ => rfl⟩
  exact ok_g F sc_law ln_law (fun fm cdv A outer s H E gd hr => ⟨_, p_law hr B D__law_pot D__law_right, fun rs Q h => z_law w rs Q h⟩) fm
theorem law_bd {K : PySem.W.Frag} {f : Addr} {fd : FuncData} (F : L2.Fun K "law" "law" s_law f fd) (s' : Shared) (u : Value) : BindsTo s' fd ⟨[u], []⟩ [("_law_script", u)] := by
  obtain ⟨oc, od, kV, doc', pm', an, cdv, ct, osl, rfl, _⟩ := F.ex
  exact .of_eq rfl
theorem both {P : Program} {w : World} {K : PySem.W.Frag} (A : AllAt K) : Lw.FunAt K "law" s_law ∧ ∀ (mg : Str → Option Value) (base : Heap), K.In base → base.Ns mainGlobals mg → ∀ f fd, L2.Fun K "law" "law" s_law f fd → ∀ fm, Lw.FnG P w K mg base CX0 8 f fd ["_law_script"] (spD K fm sem_law) := ⟨A.d_law, fun _ _ X G f fd F fm => top_d X G A f fd F fm⟩
end Dl
set_option Elab.async false
set_option linter.all false
set_option maxRecDepth 100000
open PySem PySem.W PyProof.Rows
set_option maxHeartbeats 0 in
theorem PySem.Challenge.cw_fewheld_k61_windows_in_order_holds : PySem.Challenge.rw_fewheld_k61_windows_in_order.Holds := by
  w_on; o_law; k_head; (case hw => w_witness2)
  k_fill
  refine Dl.walk_d (k := 8) (st := Dl.s_law) (sem := Dl.sem_law) rfl rfl rfl ⟨rfl, by decide, by decide⟩ (fun F => Dl.law_bd F) Dl.told (fun w => ?_)
  refine Dl.both ?A
  case A =>
    refine' Dl.AllAt.mk ?d_law_pot ?d_law_many ?d_law_draw ?d_law_pick ?d_law_seen ?d_is_integer ?d_is_count ?d_check_count ?d_check_ahead ?d_is_over ?d_is_letters ?d_check_letters ?d_is_window ?d_check_window ?d_followers ?d_following ?d_numbered_row ?d_rows_up_to ?d_all_windows ?d_windows ?d_law_rows_right ?d_law_signs ?d_law_thens ?d_law_views ?d_law_right ?d_law ?k_ALPHABET ?k_MOST_LETTERS ?k_MOST_AHEAD ?k_STOP ?n_abs ?n_all ?n_bool ?n_divmod ?n_int ?n_isinstance ?n_len ?n_max ?n_min ?n_range ?n_set ?n_sorted ?n_str ?n_zip
    (case d_law_pot => (refine' Lw.funAt ?a ?l ?c ?k; (case a => k_is); (case l => k_is); (case c => k_is); (case k => k_is)))
    (case d_law_many => (refine' Lw.funAt ?a ?l ?c ?k; (case a => k_is); (case l => k_is); (case c => k_is); (case k => k_is)))
    (case d_law_draw => (refine' Lw.funAt ?a ?l ?c ?k; (case a => k_is); (case l => k_is); (case c => k_is); (case k => k_is)))
    (case d_law_pick => (refine' Lw.funAt ?a ?l ?c ?k; (case a => k_is); (case l => k_is); (case c => k_is); (case k => k_is)))
    (case d_law_seen => (refine' Lw.funAt ?a ?l ?c ?k; (case a => k_is); (case l => k_is); (case c => k_is); (case k => k_is)))
    (case d_is_integer => (refine' Lw.funAt ?a ?l ?c ?k; (case a => k_is); (case l => k_is); (case c => k_is); (case k => k_is)))
    (case d_is_count => (refine' Lw.funAt ?a ?l ?c ?k; (case a => k_is); (case l => k_is); (case c => k_is); (case k => k_is)))
    (case d_check_count => (refine' Lw.funAt ?a ?l ?c ?k; (case a => k_is); (case l => k_is); (case c => k_is); (case k => k_is)))
    (case d_check_ahead => (refine' Lw.funAt ?a ?l ?c ?k; (case a => k_is); (case l => k_is); (case c => k_is); (case k => k_is)))
    (case d_is_over => (refine' Lw.funAt ?a ?l ?c ?k; (case a => k_is); (case l => k_is); (case c => k_is); (case k => k_is)))
    (case d_is_letters => (refine' Lw.funAt ?a ?l ?c ?k; (case a => k_is); (case l => k_is); (case c => k_is); (case k => k_is)))
    (case d_check_letters => (refine' Lw.funAt ?a ?l ?c ?k; (case a => k_is); (case l => k_is); (case c => k_is); (case k => k_is)))
    (case d_is_window => (refine' Lw.funAt ?a ?l ?c ?k; (case a => k_is); (case l => k_is); (case c => k_is); (case k => k_is)))
    (case d_check_window => (refine' Lw.funAt ?a ?l ?c ?k; (case a => k_is); (case l => k_is); (case c => k_is); (case k => k_is)))
    (case d_followers => (refine' Lw.funAt ?a ?l ?c ?k; (case a => k_is); (case l => k_is); (case c => k_is); (case k => k_is)))
    (case d_following => (refine' Lw.funAt ?a ?l ?c ?k; (case a => k_is); (case l => k_is); (case c => k_is); (case k => k_is)))
    (case d_numbered_row => (refine' Lw.funAt ?a ?l ?c ?k; (case a => k_is); (case l => k_is); (case c => k_is); (case k => k_is)))
    (case d_rows_up_to => (refine' Lw.funAt ?a ?l ?c ?k; (case a => k_is); (case l => k_is); (case c => k_is); (case k => k_is)))
    (case d_all_windows => (refine' Lw.funAt ?a ?l ?c ?k; (case a => k_is); (case l => k_is); (case c => k_is); (case k => k_is)))
    (case d_windows => (refine' Lw.funAt ?a ?l ?c ?k; (case a => k_is); (case l => k_is); (case c => k_is); (case k => k_is)))
    (case d_law_rows_right => (refine' Lw.funAt ?a ?l ?c ?k; (case a => k_is); (case l => k_is); (case c => k_is); (case k => k_is)))
    (case d_law_signs => (refine' Lw.funAt ?a ?l ?c ?k; (case a => k_is); (case l => k_is); (case c => k_is); (case k => k_is)))
    (case d_law_thens => (refine' Lw.funAt ?a ?l ?c ?k; (case a => k_is); (case l => k_is); (case c => k_is); (case k => k_is)))
    (case d_law_views => (refine' Lw.funAt ?a ?l ?c ?k; (case a => k_is); (case l => k_is); (case c => k_is); (case k => k_is)))
    (case d_law_right => (refine' Lw.funAt ?a ?l ?c ?k; (case a => k_is); (case l => k_is); (case c => k_is); (case k => k_is)))
    (case d_law => (refine' Lw.funAt ?a ?l ?c ?k; (case a => k_is); (case l => k_is); (case c => k_is); (case k => k_is)))
    (case k_ALPHABET => (refine' Lw.exStr ?h; (case h => k_is)))
    (case k_MOST_LETTERS => (refine' Lw.exInt ?h; (case h => k_is)))
    (case k_MOST_AHEAD => (refine' Lw.exInt ?h; (case h => k_is)))
    (case k_STOP => (refine' Lw.exStr ?h; (case h => k_is)))
    (case n_abs => k_is)
    (case n_all => k_is)
    (case n_bool => k_is)
    (case n_divmod => k_is)
    (case n_int => k_is)
    (case n_isinstance => k_is)
    (case n_len => k_is)
    (case n_max => k_is)
    (case n_min => k_is)
    (case n_range => k_is)
    (case n_set => k_is)
    (case n_sorted => k_is)
    (case n_str => k_is)
    (case n_zip => k_is)
