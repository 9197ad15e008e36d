import PyProof.Rows.All
import Wide.All
import OpenK.AllK
import Wide.FinOn
import HandS.WordsList
import HandS.Comp
import HandS.Wide
import HandS.WideBits
import PySem.Challenge.RW_fewheld_k17_whole_books_turned_and_cut
import HandS.Evl
import HandS.Text
import HandS.Conv
import PyProof.ListStr
import HandS.Walk
import HandS.IsInst
import HandS.Iter
import KE.GoesEnum
import HandS.ExcInit
import KE.KExcInit
import HandS.WordsExc
import HandS.Call
import HandS.Lambda
import PyProof.ReprRoads
import PyProof.EnumMake
import KE.GoesMore
import PyProof.Draws
import HandS.Dict
import HandS.DictSub
import HandS.Words
import HandS.List
import KE.SortData
import HandS.SortInts
import HandS.DictComp
import HandS.Property
import HandS.ClsMeth
import HandS.Defaults
import HandS.MakeKwOnly
import HandS.OwnEq
import HandS.More
import KE.KFmtOwn
import HandS.FStr
import PyProof.CallFns
import PyProof.ReprLen
import PyProof.StrLawsRepr
import HandS.Deep
import HandS.SetBool
import HandS.Strs
import HandS.SetFor
import KE.KOpsOwn
import HandS.Star
import HandS.Style
import HandS.Small
import PyProof.CollectStr
import HandS.EndTab
import KE.KNest
set_option Elab.async false
set_option linter.all false
set_option maxRecDepth 100000
set_option maxHeartbeats 4000000
namespace Lw
open PySem PySem.Spec PyProof.Rows L2
def topS (i : Nat) : Stmt := PySem.Challenge.pw_fewheld_k17_whole_books_turned_and_cut.main.body.getD i (.Pass ⟨0, 0, 0, 0⟩)
abbrev sPot : Stmt := topS 49
abbrev sDraw : Stmt := topS 50
/-- everything that was tracked stands, but the pot -/
def But (p : Addr) (H H' : Hp) : Prop := ∀ b o, b ≠ p → H b = some o → H' b = some o
theorem But.refl (p : Addr) (H : Hp) : But p H H := fun _ _ _ h => h
theorem But.trans {p : Addr} {H H1 H2 : Hp} (a : But p H H1) (b : But p H1 H2) : But p H H2 := fun c o n h => b c o n (a c o n h)
theorem But.of {p : Addr} {H H' : Hp} (a : Same H H') : But p H H' := fun c o _ h => a c o h
theorem But.set {p : Addr} {H H' : Hp} {o : HO} (a : But p H H') : But p H (upd H' p o) := fun c u n h => by
  rw [upd_ne n]; exact a c u n h
theorem But.new {p q : Addr} {H H' : Hp} {o : HO} (a : But p H H') (hq : H' q = none) : But p H (upd H' q o) := fun c u n h => by
  rw [upd_ne (ne_of_none (a c u n h) hq)]; exact a c u n h
/-- the pot at p: what is left of its digits, and the mixed number -/
def Pot (H : Hp) (p : Addr) : Prop := ∃ a b : Int, H p = some (.lst [.int a, .int b]) ∧ 0 ≤ a ∧ 0 ≤ b ∧ b < 2147483648
theorem Pot.mk {H : Hp} {p : Addr} {a b : Int} (ha : 0 ≤ a) (hb : 0 ≤ b) (hb2 : b < 2147483648) : Pot (upd H p (.lst [.int a, .int b])) p := ⟨a, b, upd_same, ha, hb, hb2⟩
theorem at0 {a b : V} : atI [a, b] 0 = some a := rfl
theorem at1 {a b : V} : atI [a, b] 1 = some b := rfl
/-- the built-ins that the law's helpers name, none of which the module hides -/
structure Bl (mg : Str → Option Value) : Prop where
  divmod : mg "divmod" = none
  int : mg "int" = none
  len : mg "len" = none
  abs : mg "abs" = none
  max : mg "max" = none
  min : mg "min" = none
  list : mg "list" = none
  range : mg "range" = none
  sorted : mg "sorted" = none
  all : mg "all" = none
  isinstance : mg "isinstance" = none
  str : mg "str" = none
  bool : mg "bool" = none
  zip : mg "zip" = none
  repr : mg "repr" = none
theorem divp_small {i j : Int} (hj : 0 < j) (h : j.natAbs < 2 ^ 128) : CDivP i j := by
  refine ⟨hj, ?_⟩
  have e : j.natAbs.log2 < 128 := (Nat.log2_lt (by omega)).mpr h
  unfold Builtin.divisionGoesByPylong
  show (decide ((if j == 0 then 0 else j.natAbs.log2 / 30 + 1) > 300) && _) = false
  have z : ¬ ((if j == 0 then 0 else j.natAbs.log2 / 30 + 1) > 300) := by
    split <;> omega
  rw [decide_eq_false z, Bool.false_and]
section
variable {P : Program} {w : World} {K : PySem.W.Frag} {mg : Str → Option Value} {base : Heap}
def spDraw : Sp := fun vs H Q _ => ∃ (p : Addr) (n : Int), vs = [.ref p, .int n] ∧ Pot H p ∧ 0 < n ∧ n.natAbs < 2 ^ 128 ∧
  ∀ (d : Int) (H' : Hp), 0 ≤ d → d < n → But p H H' → Pot H' p → Q (.int d) H'
theorem scDraw : FnScope ["_law_pot_here", "_law_span", "_law_digit"] ["_law_pot_here", "_law_span"] (defScope sDraw) := ⟨rfl, rfl, rfl, by decide +kernel, rfl, by decide +kernel, by decide +kernel⟩
theorem ok_draw {f : Addr} {fd : FuncData} {k : Nat} (F : Fun K "_law_draw" "_law_draw" sDraw f fd) (B : Bl mg) : FnOk P w K mg base CX0 (k + 1) f fd ["_law_pot_here", "_law_span"] spDraw := by
  refine F.ok scDraw (fun vs H Q E h => ?_) (fun cdv A outer s H vs Q E hr h => ?_)
  · obtain ⟨p, n, rfl, _⟩ := h
    rfl
  · obtain ⟨p, n, rfl, ⟨a, b, hp, ha, hb, hb2⟩, hn, hn2, k⟩ := h
    refine ⟨_, pss_cons (ps_if (pt_cmpR op_gt (pe_ix ix_list (pv 0) pe_int (fun _ _ => rfl)) pe_int (nomark _))
        (pss_cons (ps_asg (pe_callB call_divmodW (by rfl) B.divmod (by decide +kernel) (pa_cons (pe_ix ix_list (pv 0) pe_int (fun _ _ => rfl)) (pa_cons (pv 1) pa_nil)))
            (pg_tup (by rfl) (pgs_cons (pg_sub (pv 0) pe_int set_list) (pgs_cons (pg_name (i := 2) scDraw.nd rfl (.inl rfl)) pgs_nil))))
          (pss_one (ps_ret (pv 2)))) pss_nil)
      (pss_cons (ps_asg (pe_op op_mod (pe_callTy call_int1 (by rfl) B.int (by decide +kernel) (pa_cons (pe_op op_add (pe_op op_mul (pe_ix ix_list (pv 0) pe_int (fun _ _ => rfl)) pe_int) pe_int) pa_nil)) pe_int)
          (pg_sub (pv 0) pe_int set_list))
      (pss_one (ps_ret (pe_op op_mod (pe_callTy call_int1 (by rfl) B.int (by decide +kernel) (pa_cons (pe_op op_fdiv (pe_op op_mod
          (pe_callTy call_int1 (by rfl) B.int (by decide +kernel) (pa_cons (pe_op op_mulW (pe_ix ix_list (pv 0) pe_int (fun _ _ => rfl)) (pe_ix ix_list (pv 0) pe_int (fun _ _ => rfl))) pa_nil)) pe_int) pe_int) pa_nil)) (pv 1))))), ?_⟩
    refine ⟨_, rfl, p, _, _, _, rfl, rfl, .inl (.inl hp), at0, _, _, rfl, rfl, _, rfl, ?_⟩
    refine ite2 (fun c => ?_) (fun c => ?_)
    · have c := of_decide_eq_true c
      refine ⟨_, rfl, p, _, _, _, rfl, rfl, .inl (.inl hp), at0, _, rfl, _, _, rfl, divp_small hn hn2, fun t nt => ?_⟩
      have npt : p ≠ t := ne_of_none hp nt
      refine ⟨t, _, rfl, .inl (.inl upd_same), rfl, _, _, rfl, _, rfl, p, _, _, 0, rfl, rfl, (by rw [upd_ne npt]; exact hp), rfl, ?_⟩
      refine ⟨_, _, rfl, rfl, ?_⟩
      refine ⟨_, rfl, ?_⟩
      exact k _ _ (Int.emod_nonneg a (by omega)) (Int.emod_lt_of_pos a hn) ((But.new (But.refl p H) nt).set) (Pot.mk (Int.ediv_nonneg ha (by omega)) hb hb2)
    · have e1 : 0 ≤ (b * 48271 + 12161) % 2147483587 := Int.emod_nonneg _ (by decide)
      have e2 : (b * 48271 + 12161) % 2147483587 < 2147483587 := Int.emod_lt_of_pos _ (by decide)
      refine ⟨_, rfl, p, _, _, _, rfl, rfl, .inl (.inl hp), at1, _, _, rfl, rfl, .inl ⟨by omega, by omega⟩, _, _, rfl, rfl, .inl ⟨_, rfl, ?_⟩⟩
      refine ⟨_, _, rfl, rfl, (by show (0 : Int) < 2147483587; decide), ?_⟩
      refine ⟨_, rfl, p, _, _, 1, rfl, rfl, hp, rfl, ?_⟩
      refine ⟨_, rfl, p, _, _, _, rfl, rfl, .inl (.inl upd_same), at1, _, rfl, p, _, _, _, rfl, rfl, .inl (.inl upd_same), at1, _, _, rfl, rfl, ?_, .inl ⟨_, rfl, ?_⟩⟩
      · exact wide_mul (a := 64) (b := 64) (by omega) (by omega) (by decide) (by decide) (by decide)
      refine ⟨_, _, rfl, rfl, (by show (0 : Int) < 2147483549; decide), _, _, rfl, rfl, ⟨by decide, by decide⟩, .inl ⟨_, rfl, _, rfl, _, _, rfl, rfl, hn, ?_⟩⟩
      exact k _ _ (Int.emod_nonneg _ (by omega)) (Int.emod_lt_of_pos _ hn) (But.refl p H).set (Pot.mk ha e1 (by omega))
end
end Lw
set_option Elab.async false
set_option linter.all false
set_option maxRecDepth 100000
set_option maxHeartbeats 4000000
namespace Lw
open PySem PySem.Spec PyProof.Rows L2
abbrev sPick : Stmt := topS 51
theorem SqL.but {K : PySem.W.Frag} {p a : Addr} {xs : List V} {H H' : Hp} (b : But p H H') (n : a ≠ p) (h : SqL K H a xs) : SqL K H' a xs := by
  rcases h with (h | ⟨o, h⟩) | h
  · exact .inl (.inl (b _ _ n h))
  · exact .inl (.inr ⟨o, b _ _ n h⟩)
  · exact .inr h
theorem atI_mem {α : Type} {xs : List α} {d : Int} (h0 : 0 ≤ d) (h1 : d < (xs.length : Int)) : ∃ v, atI xs d = some v ∧ v ∈ xs := by
  have hl : d.toNat < xs.length := by omega
  refine ⟨xs[d.toNat], ?_, List.getElem_mem hl⟩
  unfold atI ixN
  rw [if_pos h0, if_pos h1, Option.bind_some, List.getElem?_eq_getElem hl]
section
variable {P : Program} {w : World} {K : PySem.W.Frag} {mg : Str → Option Value} {base : Heap}
/-- the script's cell, or the number that stands for it -/
def spPot (K : PySem.W.Frag) : Sp := fun vs H Q _ => ∃ (a : Addr) (ns : List Int) (k : Int), vs = [.ref a, .int k] ∧ SqL K H a (ns.map V.int) ∧ ns.length ≤ 63 ∧ 0 ≤ k ∧ k ≤ 10 ∧
  ∀ (p : Addr) (H' : Hp), H p = none → Same H H' → Pot H' p → Q (.ref p) H'
theorem scPot : FnScope ["_law_script", "_law_k", "_law_cell", "_law_mixed_here"] ["_law_script", "_law_k"] (defScope sPot) := ⟨rfl, rfl, rfl, by decide +kernel, rfl, by decide +kernel, by decide +kernel⟩
theorem ok_pot {f : Addr} {fd : FuncData} {k : Nat} (F : Fun K "_law_pot" "_law_pot" sPot f fd) (B : Bl mg) : FnOk P w K mg base CX0 (k + 1) f fd ["_law_script", "_law_k"] (spPot K) := by
  refine F.ok scPot (fun vs H Q E h => ?_) (fun cdv A outer s H vs Q E hr h => ?_)
  · obtain ⟨a, ns, k, rfl, _⟩ := h
    rfl
  · obtain ⟨a, ns, k, rfl, hS, hlen, hk0, hk1, q⟩ := h
    refine ⟨_, pss_cons (ps_set (i := 2) scPot.nd rfl (.inl rfl) (pe_op op_add (pe_op op_mul pe_int (pv 1)) pe_int))
      (Evl.pss_cut (ps_if (pt_cmpR op_lt (pv 1) (pe_callB call_len_seq (by rfl) B.len PySem.boot_len (pa_cons (pv 0) pa_nil)) (nomark _))
          (pss_one (ps_set (i := 2) scPot.nd rfl (.inl rfl) (pe_callB call_abs (by rfl) B.abs (by decide +kernel) (pa_cons (pe_ix ix_list (pv 0) (pv 1) (fun _ _ => rfl)) pa_nil)))) pss_nil)
      (pss_cons (ps_set (i := 3) scPot.nd rfl (.inl rfl) (pe_op op_mul
          (pe_callTy call_int1 (by rfl) B.int (by decide +kernel) (pa_cons (pe_op op_add (pe_op op_mod (pe_callTy call_int1 (by rfl) B.int (by decide +kernel) (pa_cons (pv 2) pa_nil)) pe_int) pe_int) pa_nil))
          (pe_op op_pow (pe_op op_add (pe_op op_mul pe_int (pv 1)) pe_int) pe_int)))
      (pss_one (ps_ret (pe_lst (pa_cons (pe_callB (call_max2 rfl) (by rfl) B.max (by decide +kernel) (pa_cons pe_int (pa_cons (pe_op op_sub (pv 2) (pe_op op_pow pe_int pe_int)) pa_nil)))
        (pa_cons (pe_op op_add (pe_op op_mod (pe_callTy call_int1 (by rfl) B.int (by decide +kernel) (pa_cons (pv 3) pa_nil)) pe_int) pe_int) pa_nil))))))), ?_⟩
    refine ⟨_, rfl, _, _, rfl, rfl, .inl ⟨by omega, by omega⟩, _, _, rfl, rfl, ?_⟩
    refine ⟨fun σ' H' => H' = H ∧ ∃ c : Int, σ' = [some (V.ref a), some (V.int k), some (V.int c), none], ?_, ?_⟩
    · refine ⟨_, rfl, _, rfl, a, _, rfl, .inl hS, _, _, rfl, rfl, _, rfl, ?_⟩
      refine ite2 (fun c => ?_) (fun c => ⟨rfl, _, rfl⟩)
      have c := of_decide_eq_true c
      obtain ⟨v, hv, hm⟩ := atI_mem (xs := ns.map V.int) hk0 c
      obtain ⟨z, _, rfl⟩ := List.mem_map.mp hm
      exact ⟨_, rfl, _, rfl, a, _, _, _, rfl, rfl, hS, hv, _, rfl, rfl, _, rfl⟩
    · rintro σ' H' ⟨rfl, c, rfl⟩
      have e1 : 0 ≤ c % 2147483549 := Int.emod_nonneg _ (by decide)
      have e2 : c % 2147483549 < 2147483549 := Int.emod_lt_of_pos _ (by decide)
      refine ⟨_, rfl, .inl ⟨_, rfl, _, _, rfl, rfl, (by show (0 : Int) < 2147483549; decide), _, _, rfl, rfl, .inl ⟨_, rfl, ?_⟩⟩⟩
      refine ⟨_, rfl, _, _, rfl, rfl, .inl ⟨by omega, by omega⟩, _, _, rfl, rfl, _, _, rfl, rfl, ⟨by decide, by decide, by omega⟩, _, _, rfl, rfl, .inl ⟨by omega, by omega⟩, ?_⟩
      refine ⟨_, rfl, _, _, rfl, rfl, ⟨by decide, by decide, by decide⟩, _, _, rfl, rfl, _, _, rfl, ?_⟩
      refine ⟨_, rfl, .inl ⟨_, rfl, _, _, rfl, rfl, (by show (0 : Int) < 2147483477; decide), _, _, rfl, rfl, ?_⟩⟩
      refine ⟨by show 2 ≤ sizeLine; decide, fun p hp => ?_⟩
      have f1 : ∀ z : Int, 0 ≤ z % 2147483477 ∧ z % 2147483477 < 2147483477 := fun z => ⟨Int.emod_nonneg _ (by decide), Int.emod_lt_of_pos _ (by decide)⟩
      exact q p _ hp (fun b o e => by rw [upd_ne (ne_of_none e hp)]; exact e) (Pot.mk (by split <;> omega) (by have := f1; omega) (by have := f1; omega))
end
end Lw
set_option Elab.async false
set_option linter.all false
set_option maxRecDepth 100000
set_option maxHeartbeats 4000000
namespace Lw
open PySem PySem.Spec PyProof.Rows L2
/-- the signs of a text, each a text of one sign -/
def sgn (c : Nat) : Str := ⟨#[c]⟩
def sgs (x : Str) : List V := x.cps.toList.map fun c => V.str (sgn c)
theorem sgs_len (x : Str) : (sgs x).length = x.length := by
  unfold sgs
  rw [List.length_map]
  simp [Str.length]
section
variable {X : Cx}
theorem call_listS (hc : X.calm = true) : CallR X (.type "list") (fun xs H Q => ∃ z, xs = [.str z] ∧ z.length ≤ sizeLine ∧ ∀ l, H l = none → Q (.ref l) (upd H l (.lst (sgs z)))) := by
  intro pins s σ H xs us Q I r h
  obtain ⟨z, rfl, hz, q⟩ := h
  obtain ⟨u, rfl, t, rfl⟩ := vals1 r
  refine call_list_str (I.ok.hd hc) z t (fun h' tk acc c kp e it => ?_) hz
  have sz : acc.toList.length = z.cps.toList.length := by
    have := it.1
    simpa using this
  have rv : Vals (sgs z) acc.toList := by
    have g := vals_of_get acc.toList (fun j => (sgs z).getD j V.non) (fun j u hu => by
      have hu' : acc[j]? = some u := by rw [← Array.getElem?_toList]; exact hu
      obtain ⟨cc, t2, hc2, rfl⟩ := it.2 j u hu'
      have e2 : (sgs z).getD j V.non = V.str (sgn cc) := by
        unfold sgs
        rw [List.getD_eq_getElem?_getD, List.getElem?_map]
        have : z.cps.toList[j]? = some cc := by rw [Array.getElem?_toList]; exact hc2
        rw [this]
        rfl
      rw [e2]
      exact ⟨t2, rfl⟩)
    have e3 : (List.range acc.toList.length).map (fun j => (sgs z).getD j V.non) = sgs z := by
      apply List.ext_getElem?
      intro j
      rw [List.getElem?_map]
      have ln : (sgs z).length = acc.toList.length := by
        unfold sgs
        rw [List.length_map, sz]
      by_cases hj : j < acc.toList.length
      · rw [List.getElem?_range hj]
        have hj2 : j < (sgs z).length := by omega
        rw [Option.map_some, List.getD_eq_getElem?_getD, List.getElem?_eq_getElem hj2]
        rfl
      · rw [List.getElem?_eq_none (by rw [List.length_range]; omega), List.getElem?_eq_none (by omega)]
        rfl
    rw [e3] at g
    exact g
  refine ⟨.ref s.heap.objs.size, _, I.laid (t' := tk) kp (Nat.le_refl _) (show ObjOk X.prog X.w _ h' _ (.lst (sgs z)) from ⟨by rw [sgs_len]; exact hz, acc.toList, c, rv, ?_⟩), rfl, q _ (I.hok.fresh (Nat.le_refl _))⟩
  rw [e]
end
end Lw
set_option Elab.async false
set_option linter.all false
set_option maxRecDepth 100000
set_option maxHeartbeats 4000000
namespace Lw
open PySem PySem.Spec PyProof.Rows L2
abbrev sMixed : Stmt := topS 52
abbrev sSigns : Stmt := topS 53
section
variable {P : Program} {w : World} {K : PySem.W.Frag} {mg : Str → Option Value} {base : Heap}
/-- one of the items, any -/
def spPick (K : PySem.W.Frag) : Sp := fun vs H Q _ => ∃ (p l : Addr) (xs : List V), vs = [.ref p, .ref l] ∧ Pot H p ∧ l ≠ p ∧ SqL K H l xs ∧ 0 < xs.length ∧ xs.length ≤ 100000 ∧
  ∀ (v : V) (H' : Hp), v ∈ xs → But p H H' → Pot H' p → Q v H'
/-- one sign of a text, any -/
def spPickS : Sp := fun vs H Q _ => ∃ (p : Addr) (z : Str), vs = [.ref p, .str z] ∧ Pot H p ∧ 0 < z.length ∧ z.length ≤ 100000 ∧
  ∀ (c : Nat) (H' : Hp), c ∈ z.cps.toList → But p H H' → Pot H' p → Q (.str (sgn c)) H'
theorem scPick : FnScope ["_law_pot_here", "_law_lot"] ["_law_pot_here", "_law_lot"] (defScope sPick) := ⟨rfl, rfl, rfl, by decide +kernel, rfl, by decide +kernel, by decide +kernel⟩
/-- what the law's helpers need of a def of the module that they call -/
structure Def (P : Program) (w : World) (K : PySem.W.Frag) (mg : Str → Option Value) (base : Heap) (k : Nat) (x : Str) (ps : List Str) (sp : Sp) : Prop where
  ex : ∃ (f : Addr) (fd : FuncData), FnOk P w K mg base CX0 k f fd ps sp ∧ mg x = some (.ref f) ∧ PySem.W.keepIn K (.ref f) = true ∧ Binds K fd ps []
theorem ok_pick {f : Addr} {fd : FuncData} (F : Fun K "_law_pick" "_law_pick" sPick f fd) (B : Bl mg) (D : Def P w K mg base 1 "_law_draw" ["_law_pot_here", "_law_span"] spDraw) : FnOk P w K mg base CX0 2 f fd ["_law_pot_here", "_law_lot"] (spPick K) := by
  obtain ⟨fD, fdD, GD, gD, kD, bD⟩ := D.ex
  refine F.ok scPick (fun vs H Q E h => ?_) (fun cdv A outer s H vs Q E hr h => ?_)
  · obtain ⟨p, l, xs, rfl, _⟩ := h
    rfl
  · obtain ⟨p, l, xs, rfl, hp, hn, hS, h0, h1, q⟩ := h
    refine ⟨_, pss_one (ps_ret (pe_ix ix_list (pv 1) (pe_call GD hr rfl gD kD bD .nil pass0 (pa_cons (pv 0) (pa_cons (pe_callB call_len_seq (by rfl) B.len PySem.boot_len (pa_cons (pv 1) pa_nil)) pa_nil))) (fun _ _ => rfl))), ?_⟩
    refine ⟨_, rfl, _, rfl, _, rfl, l, _, rfl, .inl hS, p, _, rfl, hp, by omega, by omega, fun d H' d0 d1 b hp' => ?_⟩
    obtain ⟨v, hv, hm⟩ := atI_mem (xs := xs) d0 d1
    exact ⟨l, _, _, _, rfl, rfl, SqL.but b hn hS, hv, q v H' hm b hp'⟩
theorem ok_pickS {f : Addr} {fd : FuncData} (F : Fun K "_law_pick" "_law_pick" sPick f fd) (B : Bl mg) (D : Def P w K mg base 1 "_law_draw" ["_law_pot_here", "_law_span"] spDraw) : FnOk P w K mg base CX0 2 f fd ["_law_pot_here", "_law_lot"] spPickS := by
  obtain ⟨fD, fdD, GD, gD, kD, bD⟩ := D.ex
  refine F.ok scPick (fun vs H Q E h => ?_) (fun cdv A outer s H vs Q E hr h => ?_)
  · obtain ⟨p, z, rfl, _⟩ := h
    rfl
  · obtain ⟨p, z, rfl, hp, h0, h1, q⟩ := h
    refine ⟨_, pss_one (ps_ret (pe_ix ix_str (pv 1) (pe_call GD hr rfl gD kD bD .nil pass0 (pa_cons (pv 0) (pa_cons (pe_callB call_len_str (by rfl) B.len PySem.boot_len (pa_cons (pv 1) pa_nil)) pa_nil))) (fun _ _ => rfl))), ?_⟩
    have hz : z.length ≤ sizeLine := Evl.sz_of h1
    refine ⟨_, rfl, _, rfl, _, rfl, z, rfl, hz, p, _, rfl, hp, by omega, by omega, fun d H' d0 d1 b hp' => ?_⟩
    have el : z.cps.toList.length = z.length := by simp [Str.length]
    obtain ⟨c, hc, hm⟩ := atI_mem (xs := z.cps.toList) d0 (by omega)
    exact ⟨z, _, c, rfl, rfl, hz, hc, q c H' hm b hp'⟩
end
end Lw
set_option Elab.async false
set_option linter.all false
set_option maxRecDepth 100000
set_option maxHeartbeats 4000000
namespace Lw
open PySem PySem.Spec PyProof.Rows L2
section
variable {P : Program} {w : World} {K : PySem.W.Frag} {mg : Str → Option Value} {base : Heap}
/-- len of a list or tuple, by name -/
def rLenQ (K : PySem.W.Frag) : List V → Hp → VK → Prop := fun xs H Q => ∃ p ys, xs = [.ref p] ∧ (SqL K H p ys ∨ SqT K H p ys) ∧ Q (.int ys.length) H
/-- what may be walked as a lot: a list or tuple that is read, or a text -/
def Lot (K : PySem.W.Frag) (H : Hp) (v : V) (xs : List V) : Prop := (∃ z, v = .str z ∧ xs = sgs z) ∨ (∃ a, v = .ref a ∧ (SqL K H a xs ∨ SqT K H a xs))
def spMixed (K : PySem.W.Frag) : Sp := fun vs H Q _ => ∃ (p : Addr) (v : V) (xs : List V), vs = [.ref p, v] ∧ Pot H p ∧ v ≠ .ref p ∧ Lot K H v xs ∧ xs.length ≤ 99999 ∧
  ∀ (l : Addr) (out : List V) (H' : Hp), H l = none → l ≠ p → But p H H' → Pot H' p → H' l = some (.lst out) → out.Perm xs → Q (.ref l) H'
theorem scMixed : FnScope ["_law_pot_here", "_law_lot", "_law_pack", "_law_turn"] ["_law_pot_here", "_law_lot"] (defScope sMixed) := ⟨rfl, rfl, rfl, by decide +kernel, rfl, by decide +kernel, by decide +kernel⟩
theorem seqIndex_nat {d : Int} {n : Nat} (h0 : 0 ≤ d) (h1 : d < (n : Int)) : seqIndex? d n = some d.toNat := by
  unfold seqIndex?
  show (if (decide (0 ≤ (if d < 0 then d + n else d)) && decide ((if d < 0 then d + n else d) < n)) = true then _ else _) = _
  rw [if_neg (show ¬ d < 0 by omega), if_pos (by simp; omega)]
theorem Pot.ne {H : Hp} {p l : Addr} (hp : Pot H p) (hl : H l = none) : p ≠ l := by
  obtain ⟨a, b, e, _⟩ := hp
  exact ne_of_none e hl
/-- between two turns: what is out, what is left of the pack -/
def MixInv (p l D : Addr) (H : Hp) (xs : List V) (i : Nat) (H' : Hp) : Prop := ∃ out rst : List V, H' D = some (.lst out) ∧ H' l = some (.lst rst) ∧ out.length = i ∧ (out ++ rst).Perm xs ∧ But p H H' ∧ Pot H' p
theorem small_lt {n : Nat} (h : n < 100000) : n < sizeLine := Evl.sz_lt h
theorem perm_erase : ∀ {l : List V} {i : Nat} (h : i < l.length), ([l[i]] ++ l.eraseIdx i).Perm l
  | a :: l, 0, _ => by simp
  | a :: l, i + 1, h => by
    have h' : i < l.length := by simpa using h
    have ih := perm_erase h'
    simp only [List.getElem_cons_succ, List.eraseIdx_cons_succ, List.cons_append, List.nil_append] at ih ⊢
    exact (List.Perm.swap _ _ _).trans (List.Perm.cons a ih)
theorem mix_end {out rst xs : List V} (ho : out.length = xs.length) (hp : (out ++ rst).Perm xs) : out.Perm xs := by
  have e := hp.length_eq
  rw [List.length_append] at e
  have z : rst = [] := List.eq_nil_of_length_eq_zero (by omega)
  rw [z, List.append_nil] at hp
  exact hp
theorem lenV_of {a : Addr} {xs : List V} {H H' : Hp} (sm : Same H H') (h : SqL K H a xs ∨ SqT K H a xs) : LenV K (.ref a) H' xs.length := by
  rcases h with h | h
  · exact .inl ⟨xs, sm.seq h, rfl⟩
  · refine .inr ⟨xs, ?_, rfl⟩
    rcases h with (h | ⟨o, h⟩) | h
    · exact .inl (.inl (sm _ _ h))
    · exact .inl (.inr ⟨o, sm _ _ h⟩)
    · exact .inr h
theorem mix_turn {p l D : Addr} {H H1 : Hp} {xs : List V} {i : Nat} {v1 v3 : Option V} {x : V} (nDp : D ≠ p) (nlp : l ≠ p) (nlD : l ≠ D) (hlen : xs.length ≤ 99999) (hi : i < xs.length) (hl0 : H l = none) (hD0 : H D = none) (hI : MixInv p l D H xs i H1) :
    gName 3 x (wipe [some (V.ref p), v1, some (V.ref l), v3] [3]) H1 fun σ2 H2 => wipe σ2 [3] = wipe [some (V.ref p), v1, some (V.ref l), v3] [3] ∧ tYes σ2 H2 fun b H3 =>
      if b = true then (tBM K "list" rPopAt (tVar 2) (tCons (tCall spDraw [] E0 (tCons (tVar 0) (tCons (tCB (rLenQ K) (tCons (tVar 2) tNil)) tNil))) tNil)) σ2 H3 fun y H4 => ∃ acc, H4 D = some (.lst acc) ∧ acc.length < sizeLine ∧ MixInv p l D H xs (i + 1) (upd H4 D (.lst (acc ++ [y]))) else MixInv p l D H xs (i + 1) H3 := by
  obtain ⟨out, rst, hD, hl, ho, hperm, hb, hpot⟩ := hI
  have hlr : rst.length = xs.length - i := by
    have := hperm.length_eq
    rw [List.length_append] at this
    omega
  refine ⟨rfl, _, rfl, .inl ⟨rfl, _, .inl (.inl hl)⟩, _, rfl, _, rfl, l, rst, rfl, .inl (.inl (.inl hl)), p, _, rfl, hpot, by omega, by omega, fun d H2 d0 d1 b2 hp2 => ?_⟩
  have hlt : d.toNat < rst.length := by omega
  refine ⟨l, rst, d, d.toNat, rst[d.toNat], rfl, rfl, b2 _ _ nlp hl, by omega, by omega, seqIndex_nat d0 d1, List.getElem?_eq_getElem hlt, ?_⟩
  refine ⟨out, by rw [upd_ne nlD.symm]; exact b2 _ _ nDp hD, small_lt (by omega), ?_⟩
  refine ⟨out ++ [rst[d.toNat]], rst.eraseIdx d.toNat, upd_same, by rw [upd_ne nlD, upd_same], by simp [ho], ?_, ?_, ?_⟩
  · refine List.Perm.trans ?_ hperm
    rw [List.append_assoc]
    exact List.Perm.append_left out (perm_erase hlt)
  · intro b o nb e
    rw [upd_ne (ne_of_none e hD0), upd_ne (ne_of_none e hl0)]
    exact b2 _ _ nb (hb _ _ nb e)
  · obtain ⟨a, b, e, r⟩ := hp2
    exact ⟨a, b, by rw [upd_ne nDp.symm, upd_ne nlp.symm]; exact e, r⟩
theorem ok_mixed {f : Addr} {fd : FuncData} (F : Fun K "_law_mixed" "_law_mixed" sMixed f fd) (B : Bl mg) (D : Def P w K mg base 1 "_law_draw" ["_law_pot_here", "_law_span"] spDraw) : FnOk P w K mg base CX0 2 f fd ["_law_pot_here", "_law_lot"] (spMixed K) := by
  obtain ⟨fD, fdD, GD, gD, kD, bD⟩ := D.ex
  refine F.ok scMixed (fun vs H Q E h => ?_) (fun cdv A outer s H vs Q E hr h => ?_)
  · obtain ⟨p, v, xs, rfl, _⟩ := h
    rfl
  · obtain ⟨p, v, xs, rfl, hp, hn, hL, hlen, q⟩ := h
    refine ⟨_, pss_cons (ps_set (i := 2) scMixed.nd rfl (.inr rfl) (pe_callTy (call_list_of.or (call_listS rfl)) (by rfl) B.list (by decide +kernel) (pa_cons (pv 1) pa_nil)))
      (pss_one (ps_ret (pe_lc (own := [("_law_turn", 3)]) (g := gName 3) (tt := tYes) (te := tBM K "list" rPopAt (tVar 2) (tCons (tCall spDraw [] E0 (tCons (tVar 0) (tCons (tCB (rLenQ K) (tCons (tVar 2) tNil)) tNil))) tNil)) (by rfl) scMixed.nd (pi_range1 (by rfl) B.range (pa_cons (pe_callB call_len (by rfl) B.len PySem.boot_len (pa_cons (pv 1) pa_nil)) pa_nil))
        (blkOk_by (own := [("_law_turn", 3)]) (N := ["_law_pot_here", "_law_lot", "_law_pack", "_law_turn"]) (sc := defScope sMixed) (by decide +kernel)) (fun _ _ _ _ _ => pg_name (i := 3) scMixed.nd rfl (Or.inl rfl)) (fun _ _ _ _ _ => pts_nil)
        (fun _ _ _ _ _ => by exact (pe_bm PySem.F.plainAttrs_list PySem.F.slot_list_pop PySem.F.type_list_pop mt_popAt (pv 2)
          (by exact (pa_cons (pe_call GD hr (by rfl) gD kD bD .nil pass0 (pa_cons (pv 0) (pa_cons (pe_callB call_len_seq (by rfl) B.len PySem.boot_len (pa_cons (pv 2) pa_nil)) pa_nil))) pa_nil))))))), ?_⟩
    have start : ∀ (l D : Addr), H l = none → (upd H l (.lst xs)) D = none → D ≠ p ∧ l ≠ p ∧ l ≠ D ∧ H D = none ∧ MixInv p l D H xs 0 (upd (upd H l (.lst xs)) D (.lst [])) := by
      intro l D hl hD
      have hlD : l ≠ D := fun e => by rw [← e, upd_same] at hD; cases hD
      have hD' : H D = none := by rw [upd_ne hlD.symm] at hD; exact hD
      have npl := Pot.ne hp hl
      have npD := Pot.ne hp hD'
      refine ⟨npD.symm, npl.symm, hlD, hD', [], xs, upd_same, by rw [upd_ne hlD, upd_same], rfl, by simp, ((But.refl p H).new hl).new hD, ?_⟩
      obtain ⟨a, b, e, r⟩ := hp
      exact ⟨a, b, by rw [upd_ne npD, upd_ne npl]; exact e, r⟩
    rcases hL with ⟨z, rfl, rfl⟩ | ⟨a, rfl, hq⟩
    · refine ⟨_, rfl, .inr ⟨z, rfl, Evl.sz_of (by rw [sgs_len] at hlen; omega), fun l hl => ?_⟩⟩
      refine ⟨_, rfl, _, (sgs z).length, rfl, ⟨Evl.sz_of (by rw [sgs_len] at hlen; omega), sgs_len z⟩, _, rfl, by omega, by omega, fun D hD => ?_⟩
      obtain ⟨nDp, nlp, nlD, hD0, st⟩ := start l D hl hD
      refine lc_range (lo := 0) (n := (sgs z).length) (MixInv p l D H (sgs z)) st (fun i H1 hi hI => ?_) (fun H1 hI => ?_)
      · exact mix_turn nDp nlp nlD hlen hi hl hD0 hI
      · obtain ⟨out, rst, hD1, hl1, ho, hperm, hb, hpot⟩ := hI
        exact q D out H1 hD0 nDp hb hpot hD1 (mix_end ho hperm)
    · refine ⟨_, rfl, .inl ⟨a, xs, rfl, hq, fun l hl => ?_⟩⟩
      have sm : Same H (upd H l (.lst xs)) := fun b o e => by rw [upd_ne (ne_of_none e hl)]; exact e
      refine ⟨_, rfl, _, xs.length, rfl, lenV_of (sm := sm) hq, _, rfl, by omega, by omega, fun D hD => ?_⟩
      obtain ⟨nDp, nlp, nlD, hD0, st⟩ := start l D hl hD
      refine lc_range (lo := 0) (n := xs.length) (MixInv p l D H xs) st (fun i H1 hi hI => ?_) (fun H1 hI => ?_)
      · exact mix_turn nDp nlp nlD hlen hi hl hD0 hI
      · obtain ⟨out, rst, hD1, hl1, ho, hperm, hb, hpot⟩ := hI
        exact q D out H1 hD0 nDp hb hpot hD1 (mix_end ho hperm)
end
end Lw
set_option Elab.async false
set_option linter.all false
set_option maxRecDepth 100000
set_option maxHeartbeats 4000000
namespace Lw
open PySem PySem.Spec PyProof.Rows L2
/-- the letters that the law draws -/
def LETS : List Str := ["a", "b", "k", "z", "ab", "ak", "az", "bk", "bz", "kz", "abk", "abz", "akz", "bkz", "abkz"]
def four : List Str := ["a", "b", "k", "z"]
def lists4 : List (List Str) := [[]] ++ four.map (fun x => [x]) ++ four.flatMap (fun x => four.map fun y => [x, y]) ++ four.flatMap (fun x => four.flatMap fun y => four.map fun z => [x, y, z]) ++ four.flatMap (fun x => four.flatMap fun y => four.flatMap fun z => four.map fun u => [x, y, z, u])
theorem in_lists4 {ys : List Str} (h : ∀ y ∈ ys, y ∈ four) (hl : ys.length ≤ 4) : ys ∈ lists4 := by
  unfold lists4
  match ys, hl with
  | [], _ => simp
  | [x], _ => 
    have := h x (by simp)
    simp [this]
  | [x, y], _ =>
    have h1 := h x (by simp)
    have h2 := h y (by simp)
    simp only [List.mem_append, List.mem_flatMap, List.mem_map]
    exact .inl (.inl (.inr ⟨x, h1, y, h2, rfl⟩))
  | [x, y, z], _ =>
    have h1 := h x (by simp)
    have h2 := h y (by simp)
    have h3 := h z (by simp)
    simp only [List.mem_append, List.mem_flatMap, List.mem_map]
    exact .inl (.inr ⟨x, h1, y, h2, z, h3, rfl⟩)
  | [x, y, z, u], _ =>
    have h1 := h x (by simp)
    have h2 := h y (by simp)
    have h3 := h z (by simp)
    have h4 := h u (by simp)
    simp only [List.mem_append, List.mem_flatMap, List.mem_map]
    exact .inr ⟨x, h1, y, h2, z, h3, u, h4, rfl⟩
theorem lists4_ok : ∀ ys ∈ lists4, ys ≠ [] → ys.Nodup → sortedS ys = true → Txt.join "" ys ∈ LETS := by decide +kernel
def unS : V → Str
  | .str z => z
  | _ => ""
theorem un_all : ∀ {l : List V}, (∀ x ∈ l, V.str (unS x) = x) → l = (l.map unS).map V.str
  | [], _ => rfl
  | a :: r, h => by
    rw [List.map_cons, List.map_cons, h a (by simp), ← un_all fun x hx => h x (by simp [hx])]
theorem un_map : ∀ zs : List Str, (zs.map V.str).map unS = zs
  | [] => rfl
  | a :: r => by
    rw [List.map_cons, List.map_cons, un_map r]
    rfl
theorem perm_strs {out : List V} {zs : List Str} (h : out.Perm (zs.map V.str)) : ∃ ws : List Str, out = ws.map V.str ∧ ws.Perm zs := by
  refine ⟨out.map unS, un_all fun x hx => ?_, ?_⟩
  · obtain ⟨z, _, rfl⟩ := List.mem_map.mp (h.mem_iff.mp hx)
    rfl
  · have := h.map unS
    rw [un_map] at this
    exact this
section
variable {P : Program} {w : World} {K : PySem.W.Frag} {mg : Str → Option Value} {base : Heap}
def spSigns : Sp := fun vs H Q _ => ∃ (p : Addr) (n : Int), vs = [.ref p, .int n] ∧ Pot H p ∧ 0 < n ∧ n ≤ 4 ∧
  ∀ (z : Str) (H' : Hp), z ∈ LETS → But p H H' → Pot H' p → Q (.str z) H'
theorem scSigns : FnScope ["_law_pot_here", "_law_few"] ["_law_pot_here", "_law_few"] (defScope sSigns) := ⟨rfl, rfl, rfl, by decide +kernel, rfl, by decide +kernel, by decide +kernel⟩
theorem ok_signs {f : Addr} {fd : FuncData} (F : Fun K "_law_signs" "_law_signs" sSigns f fd) (B : Bl mg) (D : Def P w K mg base 1 "_law_draw" ["_law_pot_here", "_law_span"] spDraw) (M : Def P w K mg base 2 "_law_mixed" ["_law_pot_here", "_law_lot"] (spMixed K)) :
    FnOk P w K mg base CX0 3 f fd ["_law_pot_here", "_law_few"] spSigns := by
  obtain ⟨fD, fdD, GD, gD, kD, bD⟩ := D.ex
  obtain ⟨fM, fdM, GM, gM, kM, bM⟩ := M.ex
  refine F.ok scSigns (fun vs H Q E h => ?_) (fun cdv A outer s H vs Q E hr h => ?_)
  · obtain ⟨p, n, rfl, _⟩ := h
    rfl
  · obtain ⟨p, n, rfl, hp, h0, h1, q⟩ := h
    refine ⟨_, pss_one (ps_ret (pe_join pe_str (pe_callB cr_sortedS (by rfl) B.sorted (by decide +kernel) (by exact (pa_cons (pe_slice sl_list (pe_call GM hr rfl gM kM bM .nil pass0 (pa_cons (pv 0) (pa_cons pe_str pa_nil)))
      po_none (po_some (pe_op op_add pe_int (pe_call GD (hr.mono (by decide)) rfl gD kD bD .nil pass0 (pa_cons (pv 0) (pa_cons (pv 1) pa_nil)))))) pa_nil))))), ?_⟩
    refine ⟨⟨_, rfl⟩, _, rfl, p, .str "abkz", _, rfl, hp, (fun e => nomatch e), .inl ⟨_, rfl, rfl⟩, by decide +kernel, fun l out H1 hl hlp b1 hp1 hl1 pm => ?_⟩
    refine ⟨_, rfl, _, rfl, p, n, rfl, hp1, h0, by omega, fun d H2 d0 d1 b2 hp2 => ?_⟩
    have e4 : sgs "abkz" = four.map V.str := by decide +kernel
    rw [e4] at pm
    obtain ⟨ws, rfl, pw⟩ := perm_strs pm
    refine ⟨_, _, rfl, rfl, _, rfl, l, _, rfl, .inl (.inl (b2 _ _ hlp hl1)), fun c hc => ?_⟩
    have ec : cutV (ws.map V.str) none (some (1 + d)) = (ws.take (1 + d).toNat).map V.str := by
      unfold cutV
      rw [show HT.sIx (ws.map V.str).length 0 none = 0 from rfl]
      have hx : HT.sIx (ws.map V.str).length (ws.map V.str).length (some (1 + d)) = min (1 + d).toNat (ws.map V.str).length := by
        show (if 1 + d < 0 then _ else min (1 + d).toNat (ws.map V.str).length) = _
        rw [if_neg (by omega)]
      rw [hx, List.drop_zero, Nat.sub_zero, List.map_take]
      exact List.take_eq_take_min.symm
    rw [ec]
    have hw4 : ws.length = 4 := pw.length_eq
    have hlt : (ws.take (1 + d).toNat).length = (1 + d).toNat := by
      rw [List.length_take]
      omega
    refine ⟨c, _, rfl, .inl (.inl upd_same), by omega, fun ys y hy1 hy2 hy3 => ?_⟩
    have hm : ∀ x ∈ ys, x ∈ four := fun x hx => pw.mem_iff.mp (List.mem_of_mem_take (hy1.mem_iff.mp hx))
    have hl4 : ys.length = (1 + d).toNat := by rw [hy1.length_eq, hlt]
    have hin := lists4_ok ys (in_lists4 hm (by omega)) (fun e => by rw [e] at hl4; simp at hl4; omega) (hy1.nodup_iff.mpr (List.Sublist.nodup (List.take_sublist _ _) (pw.nodup_iff.mpr (by decide +kernel)))) hy2
    refine ⟨_, y, ys, rfl, rfl, .inl (.inl (.inl upd_same)), ?_, ?_⟩
    · have hs : ∀ zs : List Str, (∀ x ∈ zs, x ∈ four) → (zs.map (·.length)).sum = zs.length := by
        intro zs hz
        induction zs with
        | nil => rfl
        | cons x r ih =>
          have e1 : x.length = 1 := (by decide +kernel : ∀ x ∈ four, x.length = 1) x (hz x (by simp))
          rw [List.map_cons, List.sum_cons, ih (fun u hu => hz u (by simp [hu])), e1, List.length_cons]
          omega
      rw [hs ys hm]
      show ys.length + ys.length * (Str.ofString "").length ≤ _
      have : (Str.ofString "").length = 0 := by decide
      rw [this]
      omega
    · refine q _ _ hin ((((b1.trans b2).new hc)).new hy3) ?_
      obtain ⟨a, b, e, r⟩ := hp2
      have np1 : p ≠ c := ne_of_none e hc
      have e' : (upd H2 c (.lst ((ws.take (1 + d).toNat).map V.str))) p = some (.lst [.int a, .int b]) := by rw [upd_ne np1]; exact e
      exact ⟨a, b, by rw [upd_ne (ne_of_none e' hy3)]; exact e', r⟩
end
end Lw
set_option Elab.async false
set_option linter.all false
set_option maxRecDepth 100000
set_option maxHeartbeats 4000000
namespace Lw
open PySem PySem.Spec PyProof.Rows L2
theorem Same.new' {H H1 : Hp} {q : Addr} {o : HO} (a : Same H H1) (hq : H1 q = none) : Same H (upd H1 q o) := fun c u h => by
  rw [upd_ne (ne_of_none (a c u h) hq)]; exact a c u h
/-- a change at a place that H doesn't know -/
theorem Same.mut' {H H1 : Hp} {q : Addr} {o : HO} (a : Same H H1) (hq : H q = none) : Same H (upd H1 q o) := fun c u h => by
  rw [upd_ne (ne_of_none h hq)]; exact a c u h
/-- the first n of f -/
def firsts (f : Nat → V) (n : Nat) : List V := (List.range n).map f
theorem firsts_succ (f : Nat → V) (n : Nat) : firsts f (n + 1) = firsts f n ++ [f n] := by
  unfold firsts
  rw [List.range_succ, List.map_append]
  rfl
theorem firsts_len (f : Nat → V) (n : Nat) : (firsts f n).length = n := by
  unfold firsts
  rw [List.length_map, List.length_range]
/-- a comprehension whose turns change nothing that is tracked: the i-th element is f i -/
theorem lc_map {J : It} {n : Nat} {G : Hp → Prop} {Y : Nat → Hp → V → Hp → Prop} (w : Walk J n G Y) (f : Nat → V) {g : TG} {tt : TT} {te : TE} {vs : List Nat} {σ : L2.St} {H1 : Hp} {D : Addr} {Qd : Hp → Prop} (hD : H1 D = none) (hn : n < 100000)
    (hG : ∀ H', Same H1 H' → G H')
    (hs : ∀ i x Ha Hb (C : V → Hp → Prop) (Z : Hp → Prop), i < n → Same H1 Ha → Y i Ha x Hb → (∀ Hc, Same Ha Hc → C (f i) Hc) → g x (wipe σ vs) Hb fun σ2 H2 => wipe σ2 vs = wipe σ vs ∧ tt σ2 H2 fun b H3 => if b = true then te σ2 H3 C else Z H3)
    (hd : ∀ H', Same H1 H' → H' D = some (.lst (firsts f n)) → Qd H') :
    ∃ W : Nat → Nat → Hp → Prop, (∃ m, W 0 m (upd H1 D (.lst []))) ∧ ∀ i m H, W i m H →
      (J.stop i H ∧ Qd H) ∨ (J.go i H ∧ ∃ Nx : Hp → Prop, (∀ H', Nx H' → ∃ m', m' < m ∧ W (i + 1) m' H') ∧ ∀ x H', J.yld i H x H' → g x (wipe σ vs) H' fun σ2 H2 => wipe σ2 vs = wipe σ vs ∧ tt σ2 H2 fun b H3 =>
        if b = true then te σ2 H3 fun y H4 => ∃ acc, H4 D = some (.lst acc) ∧ acc.length < sizeLine ∧ Nx (upd H4 D (.lst (acc ++ [y]))) else Nx H3) := by
  refine lc_it w (fun i H' => Same H1 H' ∧ H' D = some (.lst (firsts f i))) ⟨Same.new' (Same.refl H1) hD, upd_same⟩ (fun i H' _ h => hG H' h.1) (fun i x Ha Hb hi hp y => ?_) (fun H' h => hd H' h.1 h.2)
  refine hs i x Ha Hb _ _ hi hp.1 y fun Hc sc => ?_
  refine ⟨firsts f i, sc _ _ hp.2, ?_, ?_, ?_⟩
  · rw [firsts_len]
    exact Nat.lt_of_lt_of_le (show i < 100000 by omega) (by decide)
  · exact Same.mut' (hp.1.trans sc) hD
  · rw [upd_same, firsts_succ]
/-- the kinds of values that the law hands to the program: a value of a built-in type -/
def Kind (K : PySem.W.Frag) (H : Hp) (v : V) : Prop := ∃ n : String, TyX K H v (.type n) ∧ n ∈ ["NoneType", "bool", "int", "str", "list", "tuple", "dict"]
/-- the kinds told by the value -/
theorem Kind.same {K : PySem.W.Frag} {H H' : Hp} {v : V} (sm : Same H H') (h : Kind K H v) : Kind K H' v := by
  obtain ⟨n, h, hn⟩ := h
  refine ⟨n, ?_, hn⟩
  cases h with
  | base b =>
    cases b with
    | non => exact .base .non
    | bl y => exact .base (.bl y)
    | int i => exact .base (.int i)
    | str y => exact .base (.str y)
    | flt y => exact .base (.flt y)
    | lst ea => exact .base (.lst (sm _ _ ea))
    | frz ea => exact .base (.frz (sm _ _ ea))
    | tup ea => exact .base (.tup (sm _ _ ea))
    | dK ea => exact .base (.dK (sm _ _ ea))
    | dT ea => exact .base (.dT (sm _ _ ea))
  | byt b => exact .byt b
  | set e => exact .set (sm _ _ e)
  | kList e c => exact .kList e c
  | kTuple e c => exact .kTuple e c
  | kDict e c => exact .kDict e c
  | fTuple e => exact .fTuple (sm _ _ e)
  | fDict e => exact .fDict (sm _ _ e)
/-- a text; a number or a bool; a bool -/
def isStrV : V → Bool
  | .str _ => true
  | _ => false
def isIntV : V → Bool
  | .int _ => true
  | .bl _ => true
  | _ => false
def isBlV : V → Bool
  | .bl _ => true
  | _ => false
theorem Kind.isStr {K : PySem.W.Frag} {H : Hp} {v : V} (h : Kind K H v) : ∃ t : Value, TyX K H v t ∧ PySem.W.kitOne K t (.type "str") = some (isStrV v) := by
  obtain ⟨n, h, hn⟩ := h
  refine ⟨_, h, ?_⟩
  cases h with
  | base b => cases b <;> first
      | (show PySem.W.kitOne K _ _ = some false; exact kit_ty (by decide +kernel))
      | (show PySem.W.kitOne K _ _ = some true; exact kit_ty (by decide +kernel))
      | (exact absurd hn (by decide))
      | simp at hn
  | byt b => exact absurd hn (by decide)
  | set e => exact absurd hn (by decide)
  | kList e c => (show PySem.W.kitOne K _ _ = some false; exact kit_ty (by decide +kernel))
  | kTuple e c => (show PySem.W.kitOne K _ _ = some false; exact kit_ty (by decide +kernel))
  | kDict e c => (show PySem.W.kitOne K _ _ = some false; exact kit_ty (by decide +kernel))
  | fTuple e => (show PySem.W.kitOne K _ _ = some false; exact kit_ty (by decide +kernel))
  | fDict e => (show PySem.W.kitOne K _ _ = some false; exact kit_ty (by decide +kernel))
theorem Kind.isInt {K : PySem.W.Frag} {H : Hp} {v : V} (h : Kind K H v) : ∃ t : Value, TyX K H v t ∧ PySem.W.kitOne K t (.type "int") = some (isIntV v) := by
  obtain ⟨n, h, hn⟩ := h
  refine ⟨_, h, ?_⟩
  cases h with
  | base b => cases b <;> first
      | (show PySem.W.kitOne K _ _ = some false; exact kit_ty (by decide +kernel))
      | (show PySem.W.kitOne K _ _ = some true; exact kit_ty (by decide +kernel))
      | (exact absurd hn (by decide))
      | simp at hn
  | byt b => exact absurd hn (by decide)
  | set e => exact absurd hn (by decide)
  | kList e c => (show PySem.W.kitOne K _ _ = some false; exact kit_ty (by decide +kernel))
  | kTuple e c => (show PySem.W.kitOne K _ _ = some false; exact kit_ty (by decide +kernel))
  | kDict e c => (show PySem.W.kitOne K _ _ = some false; exact kit_ty (by decide +kernel))
  | fTuple e => (show PySem.W.kitOne K _ _ = some false; exact kit_ty (by decide +kernel))
  | fDict e => (show PySem.W.kitOne K _ _ = some false; exact kit_ty (by decide +kernel))
theorem Kind.isBool {K : PySem.W.Frag} {H : Hp} {v : V} (h : Kind K H v) : ∃ t : Value, TyX K H v t ∧ PySem.W.kitOne K t (.type "bool") = some (isBlV v) := by
  obtain ⟨n, h, hn⟩ := h
  refine ⟨_, h, ?_⟩
  cases h with
  | base b => cases b <;> first
      | (show PySem.W.kitOne K _ _ = some false; exact kit_ty (by decide +kernel))
      | (show PySem.W.kitOne K _ _ = some true; exact kit_ty (by decide +kernel))
      | (exact absurd hn (by decide))
      | simp at hn
  | byt b => exact absurd hn (by decide)
  | set e => exact absurd hn (by decide)
  | kList e c => (show PySem.W.kitOne K _ _ = some false; exact kit_ty (by decide +kernel))
  | kTuple e c => (show PySem.W.kitOne K _ _ = some false; exact kit_ty (by decide +kernel))
  | kDict e c => (show PySem.W.kitOne K _ _ = some false; exact kit_ty (by decide +kernel))
  | fTuple e => (show PySem.W.kitOne K _ _ = some false; exact kit_ty (by decide +kernel))
  | fDict e => (show PySem.W.kitOne K _ _ = some false; exact kit_ty (by decide +kernel))
end Lw
set_option Elab.async false
set_option linter.all false
set_option maxRecDepth 100000
set_option maxHeartbeats 4000000
namespace Lw
open PySem PySem.Spec PyProof.Rows L2
/-- zip of two texts: at each turn a new pair of signs -/
def Itzs (x y : Str) : It :=
  ⟨fun i _ => i < min x.cps.size y.cps.size,
   fun i H v H' => ∃ T c d, v = .ref T ∧ H T = none ∧ H' = upd H T (.tup [.str (sgn c), .str (sgn d)]) ∧ x.cps[i]? = some c ∧ y.cps[i]? = some d,
   fun i _ => i = min x.cps.size y.cps.size⟩
theorem turn_zipS {P : Program} {w : World} {K : PySem.W.Frag} {elts : List Expr} {kk : Nat} {tpos : Pos} {x y : Str} {tx ty : Tok} {z TI TO i1 i2 : Addr} (D : ZipSep2 z TI TO i1 i2 [i1] [i2]) :
    Turn P w K (.Tuple elts kk tpos) (Itzs x y) [z, TI, TO, i1, i2] z (fun i h => IsZip h z TI TO .none ∧ IsTupOf2 h TI (.ref i1) (.ref i2) ∧ (∃ a b, IsTupOf2 h TO a b) ∧ h.IsStrIter i1 (strIterType x) x tx i ∧ h.IsStrIter i2 (strIterType y) y ty i) where
  mem := by simp
  obj := fun i h st c hc => by
    obtain ⟨hz, hTI, ⟨a, b, hTO⟩, ⟨o1, e1, _, d1⟩, ⟨o2, e2, _, d2⟩⟩ := st
    have e' : c = z ∨ c = TI ∨ c = TO ∨ c = i1 ∨ c = i2 := by simpa using hc
    rcases e' with q | q | q | q | q
    · rw [q]; exact ⟨_, hz, fun v q => nomatch q⟩
    · rw [q]; exact ⟨_, hTI, fun v q => nomatch q⟩
    · rw [q]; exact ⟨_, hTO, fun v q => nomatch q⟩
    · rw [q]; exact ⟨o1, e1, fun v q => by rw [d1] at q; cases q⟩
    · rw [q]; exact ⟨o2, e2, fun v q => by rw [d2] at q; cases q⟩
  keep := fun i h h' st k => by
    obtain ⟨hz, hTI, ⟨a, b, hTO⟩, ⟨o1, e1, r1⟩, ⟨o2, e2, r2⟩⟩ := st
    exact ⟨k z (by simp) _ hz, k TI (by simp) _ hTI, ⟨a, b, k TO (by simp) _ hTO⟩, ⟨o1, k i1 (by simp) _ e1, r1⟩, ⟨o2, k i2 (by simp) _ e2, r2⟩⟩
  item := by
    intro X hP hw hK hc i pins s σ H E I hf st hg
    subst hP hw hK
    obtain ⟨hz, hTI, ⟨x0, y0, hTO⟩, h1, h2⟩ := st
    have hg' : i < min x.cps.size y.cps.size := hg
    have hzl : z < s.heap.objs.size := Heap.lt_size hz
    refine wpAny_pyNext_zipD2_item D (.text (A := X.A.in1) (I.ok.hd hc) i1 x tx) (.text (A := X.A.in1) (I.ok.hd hc) i2 y ty) hz hTI hTO h1 h2 (by omega) (by omega) fun u u2 h' tk pu pu2 z' TO' h1' h2' hT hsz hk => ?_
    obtain ⟨c, t1, hc1, rfl⟩ := pu
    obtain ⟨d, t2, hc2, rfl⟩ := pu2
    refine ⟨_, rfl, wpAny_letOwnedTupleGo_zip (s := { s with heap := h', toks := tk }) z' fun h'' z'' sb => ?_⟩
    have hT2 : h''.get? s.heap.objs.size = some { cls := .type "tuple", data := .seq #[.str ⟨#[c]⟩ t1, .str ⟨#[d]⟩ t2] } := (sb.2 _ (Nat.ne_of_gt hzl)).trans hT
    have new : ObjOk X.prog X.w (upd H s.heap.objs.size (.tup [.str (sgn c), .str (sgn d)])) h'' s.heap.objs.size (.tup [.str (sgn c), .str (sgn d)]) :=
      ⟨by show 2 ≤ sizeLine; decide, [.str ⟨#[c]⟩ t1, .str ⟨#[d]⟩ t2], .cons ⟨t1, rfl⟩ (.cons ⟨t2, rfl⟩ .nil), ⟨_, hT2, rfl, _, rfl⟩⟩
    have I1 : Inv X pins σ (upd H s.heap.objs.size (.tup [.str (sgn c), .str (sgn d)])) { s with heap := h'', toks := tk } :=
      I.turnedNew (t' := tk) (ch := [z, TI, TO, i1, i2]) (fun c o hb q => (sb.2 c (fun q' => hb (by simp [q']))).trans (hk c o (fun q' => hb (by simp [q'])) (fun q' => hb (by simp [q'])) (fun q' => hb (by simp [q'])) (fun q' => hb (by simp [q'])) q)) hf (Nat.le_refl _) new
    refine ⟨.ref s.heap.objs.size, _, I1, rfl, ⟨_, c, d, rfl, I.hok.fresh (Nat.le_refl _), rfl, hc1, hc2⟩, ⟨z'', ?_, ⟨.str ⟨#[c]⟩ t1, .str ⟨#[d]⟩ t2, ?_⟩, ?_, ?_⟩, fun c hcm => ?_⟩
    · exact (sb.2 _ D.TIz).trans (hk _ _ D.TIz D.TITO D.TIi1 D.TIi2 hTI)
    · exact (sb.2 _ D.TOz).trans TO'
    · obtain ⟨o, e, r⟩ := h1'
      exact ⟨o, (sb.2 _ (fun q => D.zf1 (by rw [← q]; exact D.mem1))).trans e, r⟩
    · obtain ⟨o, e, r⟩ := h2'
      exact ⟨o, (sb.2 _ (fun q => D.zf2 (by rw [← q]; exact D.mem2))).trans e, r⟩
    · have hlt : c < s.heap.objs.size := by
        have e' : c = z ∨ c = TI ∨ c = TO ∨ c = i1 ∨ c = i2 := by simpa using hcm
        rcases e' with q | q | q | q | q
        · rw [q]; exact hzl
        · rw [q]; exact Heap.lt_size hTI
        · rw [q]; exact Heap.lt_size hTO
        · rw [q]; obtain ⟨_, e1, _⟩ := h1; exact Heap.lt_size e1
        · rw [q]; obtain ⟨_, e2, _⟩ := h2; exact Heap.lt_size e2
      rw [upd_ne (Nat.ne_of_lt hlt)]
      exact (hf c hcm).1
  done := by
    intro X hP hw hK hc i pins s σ H E I hf st hg
    subst hP hw hK
    obtain ⟨hz, hTI, ⟨x0, y0, hTO⟩, h1, h2⟩ := st
    have hg' : i = min x.cps.size y.cps.size := hg
    exact wpAny_pyNext_zipD2_end D (.text (A := X.A.in1) (I.ok.hd hc) i1 x tx) (.text (A := X.A.in1) (I.ok.hd hc) i2 y ty) hz hTI hTO h1 h2 (by omega) (by omega) (by omega) fun h' tk hk => ⟨rfl, I.turnedL (t' := tk) (ch := [z, TI, TO, i1, i2]) (fun c o hb q =>
      hk c o (fun q' => hb (by simp [q'])) (fun q' => hb (by simp [q'])) (fun q' => hb (by simp [q'])) (fun q' => hb (by simp [q'])) q) hf⟩
  self := fun A i s Q E st h => wpAny_pyIter_zip st.1 h
def iZipS (ta : TA) : TI := fun σ H R => ta σ H fun vs H1 => ∃ x y, vs = [.str x, .str y] ∧ R (Itzs x y) H1
theorem pi_zipS {X : Cx} {e e2 : Expr} {ta : TA} {p pos tpos : Pos} {elts : List Expr} {kk : Nat} (hg : Gl X "zip") (hm : X.mg "zip" = none) (ha : PA X [e, e2] ta)
    (hs : starEach [e, e2] X.env = (false, eval e X.env) :: starEach [e2] X.env := by rfl) (hpl : (backTo pos (starEach [e2] X.env)).any (·.1) = false := by rfl) :
    PI X (.Tuple elts kk tpos) (.Call (.Name "zip" p) [e, e2] [] pos) (iZipS ta) := by
  refine ⟨fun pins s σ H R I h => ?_⟩
  refine Call_ (ld_blt I hg hm PyProof.Rows.boot_zip (PyProof.Rows.callWith_type1 (thn (ha.run pos pins s σ H _ I h) fun us s1 ⟨vs, H1, I1, r1, q1⟩ => ?_) hs hpl))
  obtain ⟨x, y, ex, q⟩ := q1
  subst ex
  obtain ⟨u1, u2, rfl, ⟨t1, rfl⟩, ⟨t2, rfl⟩⟩ := vals2 r1
  refine zip_begins2 (begins_text x t1) (begins_text y t2) trivial trivial fun h' hz hTI hTO h1 h2 hsz hk => wpAny_pyIter_zip hz ?_
  have I2 : Inv X pins σ H1 { s1 with heap := h' } := I1.kept (t' := s1.toks) hk
  refine ⟨s1.heap.objs.size + 4, [s1.heap.objs.size + 4, s1.heap.objs.size + 2, s1.heap.objs.size + 3, s1.heap.objs.size, s1.heap.objs.size + 1], _, _, H1, rfl, I2,
    turn_zipS (zip_sep2 (N := s1.heap.objs.size) (fp1 := []) (fp2 := []) (by simp) (by simp)), ⟨hz, hTI, ⟨_, _, hTO⟩, ⟨_, h1, rfl, rfl⟩, ⟨_, h2, rfl, rfl⟩⟩, fun c hcm => ?_, q⟩
  have e' : c = s1.heap.objs.size + 4 ∨ c = s1.heap.objs.size + 2 ∨ c = s1.heap.objs.size + 3 ∨ c = s1.heap.objs.size ∨ c = s1.heap.objs.size + 1 := by simpa using hcm
  have hle : s1.heap.objs.size ≤ c := by
    rcases e' with z | z | z | z | z
    · rw [z]; exact Nat.le_add_right _ _
    · rw [z]; exact Nat.le_add_right _ _
    · rw [z]; exact Nat.le_add_right _ _
    · rw [z]; exact Nat.le_refl _
    · rw [z]; exact Nat.le_add_right _ _
  exact I1.fpOk hle (I1.hok.fresh hle)
theorem walk_zipS {x y : Str} : Walk (Itzs x y) (min x.cps.size y.cps.size) (fun _ => True)
    (fun i H v H' => ∃ T c d, v = .ref T ∧ H T = none ∧ H' = upd H T (.tup [.str (sgn c), .str (sgn d)]) ∧ x.cps[i]? = some c ∧ y.cps[i]? = some d) :=
  ⟨fun _ _ hi _ => hi, fun _ _ => rfl, fun _ _ _ _ _ _ y => y⟩
end Lw
set_option Elab.async false
set_option linter.all false
set_option maxRecDepth 100000
set_option maxHeartbeats 4000000
namespace Lw
open PySem PySem.Spec PyProof.Rows L2
abbrev sIsInt : Stmt := topS 16
abbrev sIsOver : Stmt := topS 22
abbrev sIsLet : Stmt := topS 21
/-- a whole number and no bool -/
def isNumV : V → Bool
  | .int _ => true
  | _ => false
/-- a text that has only these letters -/
def overV (L : Str) : V → Bool
  | .str z => z.cps.toList.all fun c => decide (c ∈ L.cps.toList)
  | _ => false
def alphabet : Str := "abcdefghijklmnopqrstuvwxyz"
def risesV (z : Str) : Bool := (List.range (z.length - 1)).all fun i => decide ([z.cps.toList.getD i 0] < [z.cps.toList.getD (i + 1) 0])
/-- what is_letters answers -/
def lettersV : V → Bool
  | .str z => decide (1 ≤ z.length) && decide (z.length ≤ 4) && overV alphabet (.str z) && risesV z
  | _ => false
/-- no text is too long -/
def ShortV (v : V) : Prop := ∀ z, v = .str z → z.length < 100000
section
variable {P : Program} {w : World} {K : PySem.W.Frag} {mg : Str → Option Value} {base : Heap}
def spIsInt (K : PySem.W.Frag) : Sp := fun vs H Q _ => ∃ v, vs = [v] ∧ Kind K H v ∧ Q (.bl (isNumV v)) H
theorem scIsInt : FnScope ["value"] ["value"] (defScope sIsInt) := ⟨rfl, rfl, rfl, by decide +kernel, rfl, by decide +kernel, by decide +kernel⟩
theorem ok_isint {f : Addr} {fd : FuncData} (F : Fun K "is_integer" "is_integer" sIsInt f fd) (B : Bl mg) : FnOk P w K mg base CX0 1 f fd ["value"] (spIsInt K) := by
  refine F.ok scIsInt (fun vs H Q E h => ?_) (fun cdv A outer s H vs Q E hr h => ?_)
  · obtain ⟨v, rfl, _⟩ := h
    rfl
  · obtain ⟨v, rfl, kd, q⟩ := h
    refine ⟨_, pss_one (ps_ret (pe_and (pe_callB call_isi (by rfl) B.isinstance (by decide +kernel) (pa_cons (pv 0) (pa_cons (pe_bltn (v := .ty "int") (by rfl) B.int (by decide +kernel) rfl) pa_nil)))
      (pe_one (pe_not (pe_callB call_isi (by rfl) B.isinstance (by decide +kernel) (pa_cons (pv 0) (pa_cons (pe_bltn (v := .ty "bool") (by rfl) B.bool (by decide +kernel) rfl) pa_nil))))))), ?_⟩
    obtain ⟨t, ht, e1⟩ := kd.isInt
    obtain ⟨t2, ht2, e2⟩ := kd.isBool
    refine ⟨_, rfl, _, _, _, _, _, rfl, .ty "int", ht, e1, _, rfl, ?_⟩
    cases hv : isIntV v with
    | false =>
      refine iteF ?_
      have : isNumV v = false := by cases v <;> first | rfl | cases hv
      rw [this] at q
      exact q
    | true =>
      refine iteT ⟨_, rfl, _, _, _, _, _, rfl, .ty "bool", ht2, e2, _, rfl, ?_⟩
      have : isNumV v = !isBlV v := by cases v <;> first | rfl | cases hv
      rw [this] at q
      exact q
def spOver (K : PySem.W.Frag) : Sp := fun vs H Q _ => ∃ (L : Str) (v : V), vs = [.str L, v] ∧ Kind K H v ∧ ShortV v ∧ ∀ H', Same H H' → Q (.bl (overV L v)) H'
theorem scIsOver : FnScope ["letters", "value", "letter"] ["letters", "value"] (defScope sIsOver) := ⟨rfl, rfl, rfl, by decide +kernel, rfl, by decide +kernel, by decide +kernel⟩
theorem all_firsts (z : Str) (p : Nat → Bool) : (firsts (fun i => V.bl (p (z.cps.toList.getD i 0))) z.cps.size) = ((z.cps.toList.map p)).map V.bl := by
  unfold firsts
  apply List.ext_getElem?
  intro i
  simp only [List.getElem?_map]
  by_cases hi : i < z.cps.size
  · rw [List.getElem?_range hi]
    have h2 : i < z.cps.toList.length := by simpa using hi
    rw [Option.map_some, List.getD_eq_getElem?_getD, List.getElem?_eq_getElem h2]
    rfl
  · rw [List.getElem?_eq_none (by rw [List.length_range]; omega), List.getElem?_eq_none (by simp; omega)]
    rfl
theorem ok_over {f : Addr} {fd : FuncData} (F : Fun K "is_over" "is_over" sIsOver f fd) (B : Bl mg) : FnOk P w K mg base CX0 1 f fd ["letters", "value"] (spOver K) := by
  refine F.ok scIsOver (fun vs H Q E h => ?_) (fun cdv A outer s H vs Q E hr h => ?_)
  · obtain ⟨L, v, rfl, _⟩ := h
    rfl
  · obtain ⟨L, v, rfl, kd, sh, q⟩ := h
    refine ⟨_, pss_one (ps_ret (pe_and (pe_callB call_isi (by rfl) B.isinstance (by decide +kernel) (pa_cons (pv 1) (pa_cons (pe_bltn (v := .ty "str") (by rfl) B.str (by decide +kernel) rfl) pa_nil)))
      (pe_one (pe_callB (cr_all rfl) (by rfl) B.all (by decide +kernel) (by exact (pa_cons (pe_lc (own := [("letter", 2)]) (g := gName 2) (tt := tYes) (by rfl) scIsOver.nd (pi_str (pv 1))
        (blkOk_by (own := [("letter", 2)]) (N := ["letters", "value", "letter"]) (sc := defScope sIsOver) (by decide +kernel)) (fun _ _ _ _ _ => pg_name (i := 2) scIsOver.nd rfl (Or.inl rfl)) (fun _ _ _ _ _ => pts_nil)
        (fun _ _ _ _ _ => by exact (pe_cmpR op_in_sign (pv 2) (pv 0) (by rfl)))) pa_nil)))))), ?_⟩
    obtain ⟨t, ht, e1⟩ := kd.isStr
    refine ⟨_, rfl, _, _, _, _, _, rfl, .ty "str", ht, e1, _, rfl, ?_⟩
    cases v with
    | str z =>
      refine iteT ⟨_, rfl, z, rfl, fun D hD => ?_⟩
      have hz := sh z rfl
      have hz' : z.cps.size < 100000 := hz
      refine lc_map walk_str (fun i => V.bl (decide (z.cps.toList.getD i 0 ∈ L.cps.toList))) hD hz' (fun _ _ => trivial) (fun i x Ha Hb C Z hi sm y k => ?_) (fun H' sm hD' => ?_)
      · obtain ⟨rfl, c, hc, rfl⟩ := y
        refine ⟨rfl, _, rfl, _, rfl, c, L, rfl, rfl, ?_⟩
        have ec : z.cps.toList.getD i 0 = c := by
          rw [List.getD_eq_getElem?_getD, Array.getElem?_toList, hc]
          rfl
        have := k Hb (Same.refl Hb)
        rw [ec] at this
        exact this
      · rw [all_firsts z (fun c => decide (c ∈ L.cps.toList))] at hD'
        refine ⟨D, _, rfl, .inl (.inl hD'), ?_⟩
        have e : (z.cps.toList.map (fun c => decide (c ∈ L.cps.toList))).all id = overV L (.str z) := by
          rw [List.all_map]
          rfl
        rw [e]
        exact q H' sm
    | _ => exact q H (Same.refl H)
end
end Lw
set_option Elab.async false
set_option linter.all false
set_option maxRecDepth 100000
set_option maxHeartbeats 4000000
namespace Lw
open PySem PySem.Spec PyProof.Rows L2 Builtin Builtin.ObjectAttr
/-- an exception class of the program over any built-in one: what the written part says of it -/
structure OxC (K : PySem.W.Frag) (C : Addr) (bmB : List Value) (newId : String) : Prop where
  q : PySem.W.excInitIn K C bmB newId = true
  ov : PySem.W.excOver K C bmB = true
  hd : PySem.W.hasDictIn K C = true
  sa : PySem.W.findIn K (.ref C) "__setattr__" = some (some (.builtin "object.__setattr__"))
  exC : PySem.W.subIn K (.ref C) (.type "BaseException") = some true
  tyC : PySem.W.typeIn K (.ref C) = some (.type "type")
  kC : PySem.W.keepIn K (.ref C) = true
section
variable {prog : Program} {w : World} {A : Around} {R : Result → Shared → Prop} {hp : Heap} {g : Array GenState} {d : Drawn} {t : Nat} {os : OsState} {K : PySem.W.Frag} {B : String} {bmB : List Value}
theorem store_first {name : Str} {tk : Tok} {v : Value} {x C : Addr} {fv : Array Value} (SF : StoreFacts B bmB "object.__setattr__" "object") (KX : K.In hp) (hx : hp.get? x = some { cls := .ref C, data := .fields fv })
    (ov : PySem.W.excOver K C bmB = true) (hd : PySem.W.hasDictIn K C = true) (hno : PySem.W.findIn K (.ref C) name = some none)
    (hq : ∀ h' tk' dx, (∀ b o, b ≠ x → hp.get? b = some o → h'.get? b = some o) → hp.objs.size ≤ dx → dx ≠ x → h'.get? x = some { cls := .ref C, dict := some dx, data := .fields fv } →
      h'.Ns1 dx (fun y => if y = name then some v else none) → R (.ok (.ret .none)) ⟨h', g, d, tk', os⟩) :
    codeAny (model prog w) A (.call (.builtin "object.__setattr__") ⟨[.ref x, .str name tk, v], []⟩) R ⟨hp, g, d, t, os⟩ := by
  have I : PySem.W.InstAt hp x { cls := .ref C, data := .fields fv } C none := ⟨hx, rfl, rfl, trivial⟩
  have ht : PySem.W.takerIn K C name = some none := by unfold PySem.W.takerIn; rw [hno]; rfl
  have nx : x ≠ hp.objs.size := Nat.ne_of_lt (Heap.lt_size hx)
  refine PySem.W.osa_openX (s := ⟨hp, g, d, t, os⟩) SF KX I ov ht fun b => ?_
  obtain ⟨cd, hcd, hh⟩ := PySem.W.any_some hd
  have looks : PySem.W.Looks (model prog w) hp (classData C) cd := PySem.W.looks_clsIn KX hcd
  obtain ⟨nm, bs, mro, ns, qn, hdd, sn, sb, ab, col, del⟩ := cd
  have hh' : hdd = true := hh
  subst hh'
  show wpAny _ _ (storeInOwnDict (.ref x) (.ref C) (.str name tk) name v b) _ _ _
  unfold storeInOwnDict ownDictForStores
  repeat (first
    | with_reducible refine PySem.HandSPX.store_in_new ?_ ?_
    | with_reducible refine wpAny_loadPart_at hx ?_
    | with_reducible refine looks.at ?_
    | wp_step)
  · have e1 : ((hp.push { cls := Value.type "dict", data := Data.dict #[] }).update x fun o => { cls := o.cls, dict := some hp.objs.size, data := o.data, slots := o.slots }).get? hp.objs.size = some { cls := .type "dict", data := .dict #[] } :=
      (Heap.get?_update_ne _ _ _ _ nx.symm).trans (Heap.get?_push_at rfl rfl)
    exact ⟨_, #[], _, e1, rfl, fun e he => absurd he (by simp), fun _ => rfl⟩
  · intro h' tk' hn' hs
    have e2 : (hp.push { cls := .type "dict", data := .dict #[] }).get? x = some { cls := .ref C, data := .fields fv } := Heap.get?_push_of_some _ hx
    have old : ∀ b o, b ≠ x → hp.get? b = some o → h'.get? b = some o := fun b o hb ho => by
      refine (hs.2 b (Nat.ne_of_lt (Heap.lt_size ho))).trans ?_
      exact (Heap.get?_update_ne _ _ _ _ hb).trans (Heap.get?_push_of_some _ ho)
    exact hq h' tk' hp.objs.size old (Nat.le_refl _) nx.symm ((hs.2 x nx).trans (Heap.get?_update_self _ e2 rfl)) hn'
theorem store_next {name : Str} {tk : Tok} {v : Value} {x C dx : Addr} {fv : Array Value} {m0 : Str → Option Value} {nl : List Str} (SF : StoreFacts B bmB "object.__setattr__" "object") (KX : K.In hp)
    (hx : hp.get? x = some { cls := .ref C, dict := some dx, data := .fields fv }) (hns : hp.Ns1 dx m0) (hw : Within m0 nl) (hz : nl.length ≤ 1000)
    (ov : PySem.W.excOver K C bmB = true) (hd : PySem.W.hasDictIn K C = true) (hno : PySem.W.findIn K (.ref C) name = some none)
    (hq : ∀ h' tk', (∀ b o, b ≠ dx → hp.get? b = some o → h'.get? b = some o) → h'.Ns1 dx (fun y => if y = name then some v else m0 y) → R (.ok (.ret .none)) ⟨h', g, d, tk', os⟩) :
    codeAny (model prog w) A (.call (.builtin "object.__setattr__") ⟨[.ref x, .str name tk, v], []⟩) R ⟨hp, g, d, t, os⟩ := by
  obtain ⟨oD, esD, epD, hoD, hdD, _⟩ := hns.count hw
  have I : PySem.W.InstAt hp x { cls := .ref C, dict := some dx, data := .fields fv } C (some oD) := ⟨hx, rfl, rfl, hoD⟩
  have ht : PySem.W.takerIn K C name = some none := by unfold PySem.W.takerIn; rw [hno]; rfl
  refine PySem.W.osa_openX (s := ⟨hp, g, d, t, os⟩) SF KX I ov ht fun b => ?_
  obtain ⟨cd, hcd, hh⟩ := PySem.W.any_some hd
  have looks : PySem.W.Looks (model prog w) hp (classData C) cd := PySem.W.looks_clsIn KX hcd
  obtain ⟨nm, bs, mro, ns, qn, hdd, sn, sb, ab, col, del⟩ := cd
  have hh' : hdd = true := hh
  subst hh'
  show wpAny _ _ (storeInOwnDict (.ref x) (.ref C) (.str name tk) name v b) _ _ _
  unfold storeInOwnDict ownDictForStores
  repeat (first
    | with_reducible refine PySem.OEX.store_in_old hns hw hz ?_
    | with_reducible refine wpAny_loadPart_at hx ?_
    | with_reducible refine looks.at ?_
    | wp_step)
  intro h' tk' hn' hs
  exact hq h' tk' (fun b o hb ho => (hs.2 b hb).trans ho) hn'
end
/-! ### over the abstract heap -/
section
variable {X : Cx} {pins : List (Addr × Obj)} {σ : L2.St} {H : Hp} {s : Shared} {a C dx : Addr} {f : Str} {y : V} {u : Value} {fs : List (Str × V)} {Q : Unit → Shared → Prop} {E : Value → Shared → Prop} {A : Around} {B newId initId : String} {bmB : List Value}
theorem set_first (SF : StoreFacts B bmB "object.__setattr__" "object") (T : OxC X.K C bmB newId) (I : Inv X pins σ H s) (e : H a = some (exo a C none)) (hno : PySem.W.findIn X.K (.ref C) f = some none) (ry : RelV y u)
    (h : ∀ dx s', H dx = none → dx ≠ a → Inv X pins σ (upd (upd H dx (exd dx [(f, y)])) a (exo a C (some dx))) s' → Q () s') : wpAny (model X.prog X.w) A (setAttr (.ref a) f u) Q E s := by
  obtain ⟨t1, ho⟩ := exo_at I.hok e
  obtain ⟨hp, g, d, t, os⟩ := s
  refine PySem.W.set_plain I.kIn (ox := { cls := .ref C, dict := none, data := .fields #[.ref t1, .none, .none, .none, .bool false, .none] }) (od := none) ⟨ho, rfl, rfl, trivial⟩ T.sa ?_
  refine store_first SF I.kIn ho T.ov T.hd hno fun h' tk' dx k dn dne hx hn => ?_
  have hnd : H dx = none := I.hok.fresh dn
  have far : ∀ {b : Addr} {o : Obj}, hp.get? b = some o → b ≠ dx := fun {b o} q => Nat.ne_of_lt (Nat.lt_of_lt_of_le (Heap.lt_size q) dn)
  have na : ∀ {b : Addr}, H b = none → b ≠ a := fun {b} n z => by
    rw [z, e] at n
    cases n
  have U : Un X.fs [] H (upd (upd H dx (exd dx [(f, y)])) a (exo a C (some dx))) hp h' := by
    refine ⟨fun b o q n _ _ => k b o (na n) q, fun b o q n _ _ => ⟨o.slots, k b o (na n) q⟩, fun b o q n _ => ?_, fun b o q _ => ?_, fun b xs q => ?_, fun b o v q => ?_, fun b ps q => ⟨#[], ?_⟩⟩
    · rw [upd_ne (na n), upd_ne (far q)]; exact n
    · by_cases hb : b = a
      · exact ⟨_, by rw [hb]; exact hx⟩
      · exact ⟨o, k b o hb q⟩
    · rw [upd_ne (at_ne e q exo_tup), upd_ne (ne_of_none q hnd)]; exact q
    · rw [upd_ne (at_ne e q exo_frz), upd_ne (ne_of_none q hnd)]; exact q
    · rw [upd_ne (at_ne e q exo_tbl), upd_ne (ne_of_none q hnd), q]; simp
  refine h dx _ hnd dne (I.un (t' := tk') U fun b o q => ?_)
  by_cases hb : b = a
  · subst hb
    rw [upd_same] at q
    cases q
    exact exo_ok hx
  · rw [upd_ne hb] at q
    by_cases hd : b = dx
    · subst hd
      rw [upd_same] at q
      cases q
      exact exd_ok hn (relO_put (fs := []) ry fun g => True.intro)
    · rw [upd_ne hd] at q
      refine (I.hok b o q).stay (fun c v hc z => k c v ?_ z) (fun c hc => ?_) (fun c xs hc => ?_)
      · rcases hc with hc | hc
        · rw [hc]; exact hb
        · exact at_ne e hc exo_own
      · rw [upd_ne (at_ne e hc exo_own), upd_ne (ne_of_none hc hnd)]; exact hc
      · rw [upd_ne (at_ne e hc exo_tup), upd_ne (ne_of_none hc hnd)]; exact hc
theorem set_next (SF : StoreFacts B bmB "object.__setattr__" "object") (T : OxC X.K C bmB newId) (I : Inv X pins σ H s) (e : H a = some (exo a C (some dx))) (ed : H dx = some (exd dx fs)) (hl : fs.length ≤ 900) (hno : PySem.W.findIn X.K (.ref C) f = some none) (ry : RelV y u)
    (h : ∀ s', Inv X pins σ (upd H dx (exd dx ((f, y) :: fs))) s' → Q () s') : wpAny (model X.prog X.w) A (setAttr (.ref a) f u) Q E s := by
  obtain ⟨t1, ho⟩ := exo_at I.hok e
  obtain ⟨mA, hns, rel⟩ := exd_at I.hok ed
  have hw := within_of rel
  obtain ⟨hp, g, d, t, os⟩ := s
  obtain ⟨oD, _, _, hoD, _, _⟩ := hns.count hw
  refine PySem.W.set_plain I.kIn (ox := { cls := .ref C, dict := some dx, data := .fields #[.ref t1, .none, .none, .none, .bool false, .none] }) (od := some oD) ⟨ho, rfl, rfl, hoD⟩ T.sa ?_
  refine store_next SF I.kIn ho hns hw (by rw [List.length_map]; omega) T.ov T.hd hno fun h' tk' k hn => ?_
  have there : ∃ o, h'.get? dx = some o := by
    obtain ⟨o, _, _, e', _⟩ := hn
    exact ⟨o, e'⟩
  exact h _ (I.write (t' := tk') (x := dx) (e := dx) (o := exd dx ((f, y) :: fs)) (by rw [ed]; exact True.intro) (.inl rfl) k there (exd_ok hn (relO_put ry rel)))
/-- self.f = e in the __init__ of such a class -/
def tSetX (C : Addr) (f : Str) (to te : TE) : TS := fun D σ H => te σ H fun y H1 => to σ H1 fun x H2 => ∃ a : Addr, x = .ref a ∧
  ((H2 a = some (exo a C none) ∧ ∀ dx, H2 dx = none → dx ≠ a → D.nx σ (upd (upd H2 dx (exd dx [(f, y)])) a (exo a C (some dx)))) ∨
    ∃ (dx : Addr) (fs : List (Str × V)), H2 a = some (exo a C (some dx)) ∧ H2 dx = some (exd dx fs) ∧ fs.length ≤ 900 ∧ D.nx σ (upd H2 dx (exd dx ((f, y) :: fs))))
theorem ps_setX {o e : Expr} {to te : TE} {p' pos : Pos} (SF : StoreFacts B bmB "object.__setattr__" "object") (T : OxC X.K C bmB newId) (hno : PySem.W.findIn X.K (.ref C) f = some none) (ho : PE X o to) (he : PE X e te)
    (hs : swapsWith e (some (.Attribute o f p')) pos.line X.env = pure false := by rfl) : PS X (.Assign [.Attribute o f p'] e pos) (tSetX C f to te) := by
  refine ⟨fun pins s σ H D I h => ?_⟩
  refine plainObj_wpAny_Assign_Attribute (thn (he.run pins s σ H _ I h) fun v s1 ⟨y, H1, I1, r1, q1⟩ => thn (ho.run pins s1 σ H1 _ I1 q1) fun u s2 ⟨x, H2, I2, r2, a, ex, q⟩ => ?_) hs
  subst ex
  obtain rfl : u = Value.ref a := r2
  rcases q with ⟨ea, q⟩ | ⟨dx, fs, ea, ed, hl, q⟩
  · exact set_first SF T I2 ea hno r1 fun dx s' n ne J => ⟨σ, _, J, q dx n ne⟩
  · exact set_next SF T I2 ea ed hl hno r1 fun s' J => ⟨σ, _, J, q⟩
/-- C(e, ..) by its own __init__ that keeps sp -/
theorem pmk_x {CX : CXT} {x : Str} {fI : Addr} {k : Nat} {fd : FuncData} {ps : List Str} {sp : Sp} {e : Expr} {es : List Expr} {ta : TA} {p pos : Pos} (FB : ExcBaseFacts B newId initId bmB) (T : OxC X.K C bmB newId) (iC : PySem.W.findIn X.K (.ref C) "__init__" = some (some (.ref fI))) (tI : PySem.W.typeIn X.K (.ref fI) = some (.type "function"))
    (F1 : FnOk X.prog X.w X.K X.mg X.base CX k fI fd ps sp) (hr : Room (k + 1) X.A) (hb : Binds X.K fd ps []) (hx : Passes CX X (fun _ _ _ => False)) (hg : Gl X x) (hm : X.mg x = some (.ref C)) (ha : PA X (e :: es) ta)
    (hdb : (x == ("__debug__" : Str)) = false := by decide) (he : starEach (e :: es) X.env = (false, eval e X.env) :: starEach es X.env := by rfl) (hpl : (backTo pos (starEach es X.env)).any (·.1) = false := by rfl) :
    PMk X (.Call (.Name x p) (e :: es) [] pos) (tMkO C sp [] ta) := by
  intro pins s σ H Q I h
  refine wpAny_Call_Name_kw (ld_glob I hg hm ?_ hdb)
  refine PySem.W.callWith_K (h₀ := X.base) I.ok.mod.kin T.kC (thn (ha.run pos pins s σ H _ I h) fun us s1 ⟨vs, H1, I1, r1, hz, q1⟩ => ⟨I1.kIn, ?_⟩) he hpl
  show wpAny _ _ (call (.ref C) us) _ _ _
  obtain ⟨nm, N, qn, bs, bm, hdct, sn, sub, ab, col, dd, k0, k1, k2, k3, k5, hC, hT⟩ := PySem.W.excInit_of I1.kIn T.q
  obtain ⟨hp, g, dr, tk, os⟩ := s1
  have hsz : hp.objs.size ≤ hp.objs.size + 1 := Nat.le_succ _
  have hn : H1 (hp.objs.size + 1) = none := I1.hok.fresh hsz
  have hq := q1 (hp.objs.size + 1) hn
  have kk : ∀ b o, hp.get? b = some o → ((hp.push (PySem.W.kdv_tup us)).push (PySem.HandSPX.excO C hp.objs.size)).get? b = some o := fun b o e => Heap.get?_push_of_some _ (Heap.get?_push_of_some _ e)
  have hget : ((hp.push (PySem.W.kdv_tup us)).push (PySem.HandSPX.excO C hp.objs.size)).get? (hp.objs.size + 1) = some (PySem.HandSPX.excO C hp.objs.size) := by heap_get
  have I2 : Inv X pins σ (upd H1 (hp.objs.size + 1) (exo (hp.objs.size + 1) C none)) ⟨(hp.push (PySem.W.kdv_tup us)).push (PySem.HandSPX.excO C hp.objs.size), g, dr, tk, os⟩ :=
    I1.laid (t' := tk) kk hsz (exo_ok hget)
  rw [List.append_nil] at hq
  have r2 : Vals (V.ref (hp.objs.size + 1) :: vs) (Value.ref (hp.objs.size + 1) :: us) := .cons rfl r1
  have hl : (Value.ref (hp.objs.size + 1) :: us ++ []).length = ps.length := by
    have e := r2.length
    rw [F1.len _ _ _ _ hq] at e
    rw [List.append_nil]
    exact e.symm
  have hbt := hb ⟨(hp.push (PySem.W.kdv_tup us)).push (PySem.HandSPX.excO C hp.objs.size), g, dr, tk, os⟩ (Value.ref (hp.objs.size + 1) :: us) I2.kIn hl
  rw [List.append_nil] at hbt
  have hus : us.length ≤ sizeLine := by
    rw [← Paired.length r1, sizeLine_eq]
    omega
  refine wpAny_call (PySem.HandSPX.call_own FB hT hC (PySem.W.looks_findIn I1.kIn iC) (fun self => PySem.W.bind_fn I1.kIn self tI) hus (codeAny_mono
    (F1.run _ X.stack _ _ ⟨Value.ref (hp.objs.size + 1) :: us, []⟩ (Value.ref (hp.objs.size + 1) :: us) _ _ (fun _ _ _ => False) (hr.make C us []) (I2.env0.make C us []) hbt r2 hq) fun r s' hq' => ?_))
  cases r with
  | error er => exact hx pins σ _ _ er s' I2 hq'
  | ok fl =>
    cases fl with
    | next => exact False.elim hq'
    | brk => exact False.elim hq'
    | cont => exact False.elim hq'
    | ret u =>
      obtain ⟨v, H2, os2, bare2, un2, hok2, rv, ev, d, fs, ea, ed, hd1, q2⟩ := hq'
      subst ev
      obtain ⟨h2, g2, d2, t2, os'⟩ := s'
      exact ⟨rv, mk_end (raises_own T.exC T.tyC) I1 hsz kk un2 hok2 os2 bare2 ea ed hd1 q2⟩
end
end Lw
set_option Elab.async false
set_option linter.all false
set_option maxRecDepth 100000
set_option maxHeartbeats 4000000
/-! repr of a list of plain values: the guards of the surroundings are carried along. -/
namespace Lw
open PySem PySem.Spec PyProof.Rows L2
/-! ### a def whose promise wants that no repr is under way -/
/-- as FnOk, where no repr is under way -/
structure FnG (P : Program) (w : World) (K : PySem.W.Frag) (mg : Str → Option Value) (base : Heap) (CX : CXT) (k : Nat) (f : Addr) (fd : FuncData) (ps : List Str) (sp : Sp) : Prop where
  size : ∀ vs H Q E, sp vs H Q E → vs.length = ps.length
  goes : ∀ (A : Around) (outer : List Env) (s : Shared) (H : Hp) (us : List Value) (vs : List V) (Q : VK) (E : XK), A.guards = some [] → Room k A → Env0 P w K mg base A outer s H → BindsTo s fd ⟨us, []⟩ (ps.zip us) → Vals vs us → sp vs H Q E →
    codeAny (model P w) A (.call (.ref f) ⟨us, []⟩) (CR CX outer P w H s Q E) s
section
variable {P : Program} {w : World} {K : PySem.W.Frag} {mg : Str → Option Value} {base : Heap}
theorem guards_in {A : Around} (h : A.guards = some []) (env : Env) : (A.deeper env).guards = some [] := h
theorem fng_of {CX : CXT} {x qual : Str} {st : Stmt} {f : Addr} {fd : FuncData} {N ps : List Str} {k : Nat} {sp : Sp} (F : L2.Fun K x qual st f fd) (S : FnScope N ps (defScope st)) (size : ∀ vs H Q E, sp vs H Q E → vs.length = ps.length)
    (hb : ∀ (cdv : Value) (A : Around) (outer : List Env) (s : Shared) (H : Hp) (vs : List V) (Q : VK) (E : XK), A.guards = some [] → Room k (A.deeper (envOfC qual (defScope st) s.heap.objs.size f cdv)) → sp vs H Q E →
      ∃ t, PSs (cxOf CX P w K mg base N qual (defScope st) f cdv A outer s H E) (defBody st) t ∧ t { nx := fun _ H' => Q .non H', rt := Q } (start N vs) H) : FnG P w K mg base CX (k + 1) f fd ps sp := by
  obtain ⟨oc, od, kV, doc, pm, an, cdv, ct, osl, rfl, lk, hcd⟩ := F.ex
  exact ⟨size, fun A outer s H us vs Q E g hr e0 bt r h => LamX.run_ofS lk hcd S hr e0 bt r (size _ _ _ _ h) fun hr' => hb cdv A outer s H vs Q E g hr' h⟩
/-- the same of a def that lets no exception out -/
theorem fng_of0 {x qual : Str} {st : Stmt} {f : Addr} {fd : FuncData} {N ps : List Str} {k : Nat} {sp : Sp} (F : L2.Fun K x qual st f fd) (S : FnScope N ps (defScope st)) (size : ∀ vs H Q E, sp vs H Q E → vs.length = ps.length)
    (hb : ∀ (cdv : Value) (A : Around) (outer : List Env) (s : Shared) (H : Hp) (vs : List V) (Q : VK) (E : XK), A.guards = some [] → Room k (A.deeper (envOfC qual (defScope st) s.heap.objs.size f cdv)) → sp vs H Q E →
      ∃ t, PSs (cxOf CX0 P w K mg base N qual (defScope st) f cdv A outer s H E).nox (defBody st) t ∧ t { nx := fun _ H' => Q .non H', rt := Q } (start N vs) H) : FnG P w K mg base CX0 (k + 1) f fd ps sp := by
  refine fng_of F S size fun cdv A outer s H vs Q E g hr h => ?_
  obtain ⟨t, h1, h2⟩ := hb cdv A outer s H vs Q E g hr h
  exact ⟨t, h1.nox, h2⟩
end
section
variable {X : Cx} {CX : CXT} {k : Nat} {f : Addr} {fd : FuncData} {ps : List Str} {sp : Sp} {E : XK} {x : Str} {p pos : Pos} {e : Expr} {es : List Expr} {t : TA}
theorem pe_callG (gd : X.A.guards = some []) (F : FnG X.prog X.w X.K X.mg X.base CX k f fd ps sp) (hr : Room k X.A) (hg : Gl X x) (hm : X.mg x = some (.ref f)) (hk : PySem.W.keepIn X.K (.ref f) = true) (hb : Binds X.K fd ps []) (hx : Passes CX X E)
    (ha : PA X (e :: es) t) (hdb : (x == ("__debug__" : Str)) = false := by decide) (he : starEach (e :: es) X.env = (false, eval e X.env) :: starEach es X.env := by rfl) (hpl : (backTo pos (starEach es X.env)).any (·.1) = false := by rfl) :
    PE X (.Call (.Name x p) (e :: es) [] pos) (tCall sp [] E t) := by
  constructor
  intro pins s σ H Q I h
  refine wpAny_Call_Name_kw (ld_glob I hg hm (PySem.W.callWith_K (h₀ := X.base) I.ok.mod.kin hk ?_ he hpl) hdb)
  refine thn (ha.run pos pins s σ H _ I h) ?_
  rintro us s1 ⟨vs, H1, I1, r, q⟩
  refine ⟨I1.kIn, ?_⟩
  rw [List.append_nil] at q
  have hl : us.length = ps.length := r.length.symm.trans (F.size _ _ _ _ q)
  have bt : BindsTo s1 fd ⟨us, []⟩ (ps.zip us) := by
    have z := hb s1 us I1.kIn (by rw [List.append_nil]; exact hl)
    rw [List.append_nil] at z
    exact z
  refine wpAny_call (codeAny_mono (F.goes X.A X.stack s1 H1 us vs Q E gd hr I1.env0 bt r q) ?_)
  intro o s' ho
  cases o with
  | error ex => exact hx pins σ H1 s1 ex s' I1 ho
  | ok fl =>
    cases fl with
    | ret u => exact I1.after ho
    | next => exact ho.elim
    | brk => exact ho.elim
    | cont => exact ho.elim
end
/-! ### what a list of plain values shows -/
/-- a value without parts -/
inductive Flat : V → PyData → Prop where
  | non : Flat .non .none
  | bl (b : Bool) : Flat (.bl b) (.bool b)
  | int (i : Int) : Flat (.int i) (.int i)
  | str (z : Str) : Flat (.str z) (.str z)
/-- a value without parts, a list or tuple of such, an empty dict; none of its lists is at p -/
inductive Item (p : Addr) (H : Hp) : V → PyData → Prop where
  | flat {v : V} {d : PyData} (h : Flat v d) : Item p H v d
  | lst {a : Addr} {xs : List V} {ds : List PyData} (e : H a = some (.lst xs)) (n : a ≠ p) (h : Paired Flat xs ds) : Item p H (.ref a) (.list ds)
  | tup {a : Addr} {xs : List V} {ds : List PyData} (e : H a = some (.tup xs)) (n : a ≠ p) (h : Paired Flat xs ds) : Item p H (.ref a) (.tuple ds)
  | dict {a : Addr} (e : H a = some (.dK [])) (n : a ≠ p) : Item p H (.ref a) (.dict [])
theorem Item.but {p : Addr} {H H' : Hp} {v : V} {d : PyData} (b : But p H H') (h : Item p H v d) : Item p H' v d := by
  cases h with
  | flat h => exact .flat h
  | lst e n h => exact .lst (b _ _ n e) n h
  | tup e n h => exact .tup (b _ _ n e) n h
  | dict e n => exact .dict (b _ _ n e) n
theorem Flat.reads {h : Heap} {v : V} {d : PyData} {u : Value} (f : Flat v d) (r : RelV v u) : Reads h u d [] := by
  cases f with
  | non => cases (show u = Value.none from r); exact .none
  | bl b => cases (show u = Value.bool b from r); exact .bool b
  | int i => obtain ⟨t, q⟩ := (show ∃ t, u = Value.int i t from r); cases q; exact .int i t
  | str z => obtain ⟨t, q⟩ := (show ∃ t, u = Value.str z t from r); cases q; exact .str z t
theorem Flat.plain {v : V} {d : PyData} (f : Flat v d) : d.hasDict = false := by
  cases f <;> rfl
theorem flats {h : Heap} : ∀ {xs : List V} {ds : List PyData} {us : List Value}, Paired Flat xs ds → Vals xs us → ReadsAll h us ds [] ∧ PyData.hasDictAll ds = false
  | [], _, _, .nil, .nil => ⟨.nil, rfl⟩
  | _ :: _, _, _, .cons f fs, .cons r rs => by
    obtain ⟨h1, h2⟩ := flats fs rs
    refine ⟨.cons (f.reads r) h1, ?_⟩
    simp only [PyData.hasDictAll, f.plain, h2, Bool.or_self]
section
variable {X : Cx} {pins : List (Addr × Obj)} {σ : L2.St} {H : Hp} {s : Shared}
/-- no list -/
def noL : PyData → Bool
  | .list _ => false
  | _ => true
theorem Item.reads {p : Addr} {v : V} {d : PyData} {u : Value} (I : Inv X pins σ H s) (it : Item p H v d) (r : RelV v u) : ∃ as, Reads s.heap u d as ∧ (noL d = true → sysModules ∉ as) := by
  cases it with
  | flat f => exact ⟨[], f.reads r, fun _ hm => absurd hm List.not_mem_nil⟩
  | @lst a xs ds e n f =>
    cases (show u = Value.ref a from r)
    obtain ⟨_, its, k, rv, ho⟩ : xs.length ≤ sizeLine ∧ ∃ (its : List Value) (n : Nat), Vals xs its ∧ s.heap.get? a = some { cls := .type "list", data := .seq its.toArray n } := I.hok a _ e
    obtain ⟨h1, h2⟩ := flats f rv
    exact ⟨[a], .list ho rfl rfl h1, fun hd => (by cases hd)⟩
  | @tup a xs ds e n f =>
    cases (show u = Value.ref a from r)
    obtain ⟨_, its, rv, o, ho, hc, k, hd⟩ : xs.length ≤ sizeLine ∧ ∃ its : List Value, Vals xs its ∧ IsTup s.heap a its.toArray := I.hok a _ e
    obtain ⟨h1, h2⟩ := flats f rv
    exact ⟨[], .tuple ho hc hd (by exact h1), fun _ hm => absurd hm List.not_mem_nil⟩
  | @dict a e n =>
    cases (show u = Value.ref a from r)
    obtain ⟨_, ns, vs, rel, o, es, ep, ho, hx, hd, _, hp, _⟩ : ([] : List (Key × V)).length ≤ sizeLine ∧ (a == sysModules) = false ∧ ∃ vs, KV ([] : List (Key × V)) vs ∧ s.heap.DictOf (mixKind X.prog X.w) a vs := I.hok a _ e
    cases rel
    have en : es.toList = [] := by
      cases hq : es.toList with
      | nil => rfl
      | cons y ys => rw [hq] at hp; cases hp
    refine ⟨[a] ++ [], .dict (as := []) (bs := []) (kvs := []) ho hx.1 hd (by rw [en]; exact .nil) (by rw [en]; exact .nil), fun _ hm => ?_⟩
    have hm' : sysModules = a := by simpa using hm
    rw [hm'] at ns
    simp at ns
theorem items {p : Addr} (I : Inv X pins σ H s) : ∀ {vs : List V} {ds : List PyData} {us : List Value}, Paired (Item p H) vs ds → Vals vs us → ∃ as, ReadsAll s.heap us ds as ∧ (ds.all noL = true → sysModules ∉ as)
  | [], _, _, .nil, .nil => ⟨[], .nil, fun _ hm => absurd hm List.not_mem_nil⟩
  | _ :: _, _, _, .cons f fs, .cons r rs => by
    obtain ⟨a1, h1, n1⟩ := f.reads I r
    obtain ⟨a2, h2, n2⟩ := items I fs rs
    refine ⟨a1 ++ a2, .cons h1 h2, fun hh hm => ?_⟩
    rw [List.all_cons, Bool.and_eq_true] at hh
    rcases List.mem_append.mp hm with z | z
    · exact n1 hh.1 z
    · exact n2 hh.2 z
/-- what such a row must keep -/
def rowOk (ds : List PyData) : Bool := PyData.showableAll ds && decide (PyData.depthAll ds ≤ 3) && decide ((PyData.shown (.list ds)).length ≤ 1000000) && (!PyData.hasDictAll ds || ds.all noL)
/-- repr of a list of such values, where no repr is under way -/
theorem call_repr_row {k : Nat} (gd : X.A.guards = some []) (hr : Room k X.A) : CallR X (.builtin "repr") (fun xs H Q => ∃ (p a : Addr) (vs : List V) (ds : List PyData), xs = [.ref a] ∧ H a = some (.lst vs) ∧ Paired (Item p H) vs ds ∧
    rowOk ds = true ∧ Q (.str (PyData.shown (.list ds))) H) := by
  intro pins s σ H xs us Q I r h
  obtain ⟨p, a, vs, ds, rfl, ha, it, hk, q⟩ := h
  obtain ⟨u, rfl, ru⟩ := vals1 r
  cases (show u = Value.ref a from ru)
  unfold rowOk at hk
  simp only [Bool.and_eq_true, Bool.or_eq_true, Bool.not_eq_true', decide_eq_true_eq] at hk
  obtain ⟨⟨⟨hs, hd⟩, hl⟩, hn⟩ := hk
  obtain ⟨_, its, j, rv, ho⟩ : vs.length ≤ sizeLine ∧ ∃ (its : List Value) (n : Nat), Vals vs its ∧ s.heap.get? a = some { cls := .type "list", data := .seq its.toArray n } := I.hok a _ ha
  obtain ⟨as, ra, na⟩ := items I it rv
  have hz : (PyData.shown (.list ds)).length ≤ sizeLine := Nat.le_trans hl (by decide)
  have hz' : (listText (PyData.shownAll ds)).length ≤ sizeLine := by simpa only [PyData.shown] using hz
  obtain ⟨bs, hb, hK⟩ := ReprAllK.of_readsAll (prog := X.prog) (w := X.w) ra hs (fun hx => hn.elim (fun z => absurd (hx.symm.trans z) (by decide)) na) (fun t ht => Nat.le_trans (listText_mem_le ht) hz')
  have rl : Reads s.heap (.ref a) (.list ds) (a :: as) := .list ho rfl rfl ra
  have hna : a ∉ bs := not_mem_of_deeper rl (by simp only [PyData.depth]; omega) hb
  have hu := hr.units
  have fin : ∀ h' t tk, (∀ b o, s.heap.get? b = some o → h'.get? b = some o) → EP X pins σ Q (.str (PyData.shown (.list ds)) t) { s with heap := h', toks := tk } := fun h' t tk kp => ⟨.str _, H, I.kept (t' := tk) kp, ⟨t, rfl⟩, q⟩
  have ty : s.TypeIs (.ref a) "list" := ⟨_, ho, rfl⟩
  refine call_repr_slot (by omega) ty F.slot_list_repr.toG ?_
  simp only [PyData.shown] at fin
  cases its with
  | nil =>
    cases ra
    simp only [PyData.shownAll, listText_nil] at fin
    exact call_list_repr_empty ty ho rfl ⟨_, _, rfl, fin _ _ _ fun _ _ e => e⟩
  | cons x l =>
    exact call_list_reprK ho rfl rfl hna (by simpa using hK.length_eq) (fun i y e => hK.item i y (by simpa using e)) (A := X.A.in1) gd (fun b _ => Clear.nil b) (by show X.A.units + 1 + _ < cLine; omega) (fun _ _ e => e) (fun h' t tk kp => ⟨_, _, rfl, fin h' t tk kp⟩) hz'
end
end Lw
set_option Elab.async false
set_option linter.all false
set_option maxRecDepth 100000
set_option maxHeartbeats 4000000
/-! errors of the module: what the checks promise (no place of a row is named here) -/
namespace Lw
open PySem PySem.Spec PyProof.Rows L2
abbrev veB : List Value := [.type "ValueError", .type "Exception", .type "BaseException", .type "object"]
abbrev aeB : List Value := [.type "ArithmeticError", .type "Exception", .type "BaseException", .type "object"]
section
variable {P : Program} {w : World} {K : PySem.W.Frag} {mg : Str → Option Value} {base : Heap}
/-- __init__(self, v) of such an exception keeps v as f -/
def spEx1 (C : Addr) (f : Str) : Sp := fun vs H Q _ => ∃ (a : Addr) (v : V), vs = [.ref a, v] ∧ H a = some (exo a C none) ∧ ∀ dx, H dx = none → dx ≠ a → Q .non (upd (upd H dx (exd dx [(f, v)])) a (exo a C (some dx)))
def spEx2 (C : Addr) (f g : Str) : Sp := fun vs H Q _ => ∃ (a : Addr) (v y : V), vs = [.ref a, v, y] ∧ H a = some (exo a C none) ∧ ∀ dx, H dx = none → dx ≠ a → Q .non (upd (upd (upd H dx (exd dx [(f, v)])) a (exo a C (some dx))) dx (exd dx [(g, y), (f, v)]))
/-- an exception class of the module: its name, its own __init__, what that keeps -/
structure Xc (P : Program) (w : World) (K : PySem.W.Frag) (mg : Str → Option Value) (base : Heap) (x : Str) (C : Addr) (bmB : List Value) (newId : String) (ps : List Str) (sp : Sp) : Prop where
  T : OxC K C bmB newId
  gC : mg x = some (.ref C)
  ex : ∃ (fI : Addr) (fd : FuncData), PySem.W.findIn K (.ref C) "__init__" = some (some (.ref fI)) ∧ PySem.W.typeIn K (.ref fI) = some (.type "function") ∧ FnOk P w K mg base CX0 1 fI fd ps sp ∧ Binds K fd ps []
theorem Same.ext {H : Hp} {a dx : Addr} {f : Str} {v : V} {C : Addr} {fs : List (Str × V)} (ha : H a = none) (hdx : (upd H a (exo a C none)) dx = none) (hne : dx ≠ a) :
    Same H (upd (del (upd (upd (upd H a (exo a C none)) dx (exd dx [(f, v)])) a (exo a C (some dx))) a) dx (.xd fs)) := fun b o e => by
  have h1 : b ≠ a := fun q => by rw [q, ha] at e; cases e
  have hd : H dx = none := by rw [upd_ne hne] at hdx; exact hdx
  have h2 : b ≠ dx := fun q => by rw [q, hd] at e; cases e
  rw [upd_ne h2, del_ne h1, upd_ne h1, upd_ne h2, upd_ne h1]
  exact e
/-- X(v): the way out with a new error that keeps v -/
theorem mk1 {C : Addr} {f : Str} {v : V} {H1 : Hp} {Q : XK} (hq : ∀ d H', H1 d = none → Same H1 H' → H' d = some (.xd [(f, v)]) → Q (.ref C) (some d) H') :
    [v].length ≤ 1000 ∧ ∀ a, H1 a = none → spEx1 C f (.ref a :: ([v] ++ [])) (upd H1 a (exo a C none))
      (fun u H2 => u = .non ∧ ∃ (d : Addr) (fs : List (Str × V)), H2 a = some (exo a C (some d)) ∧ H2 d = some (exd d fs) ∧ H1 d = none ∧ Q (.ref C) (some d) (upd (del H2 a) d (.xd fs))) (fun _ _ _ => False) := by
  refine ⟨by show 1 ≤ 1000; decide, fun a ha => ⟨a, v, rfl, upd_same, fun dx hdx hne => ⟨rfl, dx, [(f, v)], upd_same, ?_, ?_, ?_⟩⟩⟩
  · rw [upd_ne hne, upd_same]
  · rw [upd_ne hne] at hdx; exact hdx
  · exact hq dx _ (by rw [upd_ne hne] at hdx; exact hdx) (Same.ext ha hdx hne) upd_same
theorem mk2 {C : Addr} {f g : Str} {v y : V} {H1 : Hp} {Q : XK} (hq : ∀ d H', H1 d = none → Same H1 H' → H' d = some (.xd [(g, y), (f, v)]) → Q (.ref C) (some d) H') :
    [v, y].length ≤ 1000 ∧ ∀ a, H1 a = none → spEx2 C f g (.ref a :: ([v, y] ++ [])) (upd H1 a (exo a C none))
      (fun u H2 => u = .non ∧ ∃ (d : Addr) (fs : List (Str × V)), H2 a = some (exo a C (some d)) ∧ H2 d = some (exd d fs) ∧ H1 d = none ∧ Q (.ref C) (some d) (upd (del H2 a) d (.xd fs))) (fun _ _ _ => False) := by
  refine ⟨by show 2 ≤ 1000; decide, fun a ha => ⟨a, v, y, rfl, upd_same, fun dx hdx hne => ⟨rfl, dx, [(g, y), (f, v)], ?_, upd_same, ?_, ?_⟩⟩⟩
  · rw [upd_ne hne.symm, upd_same]
  · rw [upd_ne hne] at hdx; exact hdx
  · refine hq dx _ (by rw [upd_ne hne] at hdx; exact hdx) (fun b o e => ?_) upd_same
    have := Same.ext (f := f) (v := v) (fs := [(g, y), (f, v)]) ha hdx hne b o e
    have h1 : b ≠ a := fun q => by rw [q, ha] at e; cases e
    have hd : H1 dx = none := by rw [upd_ne hne] at hdx; exact hdx
    have h2 : b ≠ dx := fun q => by rw [q, hd] at e; cases e
    rw [upd_ne h2, del_ne h1, upd_ne h2]
    rw [upd_ne h2, del_ne h1] at this
    exact this
/-- as Def, for a def that may raise -/
structure DefX (P : Program) (w : World) (K : PySem.W.Frag) (mg : Str → Option Value) (base : Heap) (k : Nat) (x : Str) (ps : List Str) (sp : Sp) : Prop where
  ex : ∃ (f : Addr) (fd : FuncData), FnOk P w K mg base (L2.CX P w) k f fd ps sp ∧ mg x = some (.ref f) ∧ PySem.W.keepIn K (.ref f) = true ∧ Binds K fd ps []
end
/-- the way out by an error of the class C that keeps v; by the limit of letters -/
def Err (E : XK) (H : Hp) (C : Addr) (v : V) : Prop := ∀ d H', H d = none → Same H H' → H' d = some (.xd [("value", v)]) → E (.ref C) (some d) H'
def ErrM (E : XK) (H : Hp) (C : Addr) : Prop := ∀ d H', H d = none → Same H H' → H' d = some (.xd [("limit", .int 200), ("what", .str "letters")]) → E (.ref C) (some d) H'
theorem Err.on {E : XK} {H H1 : Hp} {C : Addr} {v : V} (h : Err E H C v) (s : Same H H1) : Err E H1 C v := fun d H' hd sm hx => h d H' (s.free hd) (s.trans sm) hx
theorem ErrM.on {E : XK} {H H1 : Hp} {C : Addr} (h : ErrM E H C) (s : Same H H1) : ErrM E H1 C := fun d H' hd sm hx => h d H' (s.free hd) (s.trans sm) hx
theorem absB {a : Bool} {p : Prop} (h : a = false) (h' : a = true) : p := by rw [h] at h'; cases h'
theorem absB' {a : Bool} {p : Prop} (h : a = true) (h' : a = false) : p := by rw [h] at h'; cases h'
theorem kind_str {K : PySem.W.Frag} {H : Hp} (z : Str) : Kind K H (.str z) := ⟨"str", .base (.str z), by decide⟩
theorem kind_int {K : PySem.W.Frag} {H : Hp} (i : Int) : Kind K H (.int i) := ⟨"int", .base (.int i), by decide⟩
section
variable {H : Hp} {v : V} {z : PyData} {p : Addr}
theorem Item.kind {K : PySem.W.Frag} (it : Item p H v z) : Kind K H v := by
  cases it with
  | flat f => cases f with
    | non => exact ⟨"NoneType", .base .non, by decide⟩
    | bl b => exact ⟨"bool", .base (.bl b), by decide⟩
    | int i => exact ⟨"int", .base (.int i), by decide⟩
    | str s => exact ⟨"str", .base (.str s), by decide⟩
  | lst e n f => exact ⟨"list", .base (.lst e), by decide⟩
  | tup e n f => exact ⟨"tuple", .base (.tup e), by decide⟩
  | dict e n => exact ⟨"dict", .base (.dK e), by decide⟩
end
end Lw
set_option Elab.async false
set_option linter.all false
set_option maxRecDepth 100000
set_option maxHeartbeats 4000000
/-! states.py: what is a state, a letter, a step -/
namespace Lw
open PySem PySem.Spec PyProof.Rows L2
abbrev sIsList : Stmt := topS 17
abbrev sIsState : Stmt := topS 26
abbrev sIsLetter : Stmt := topS 27
abbrev sIsStep : Stmt := topS 28
/-- a value by its data: so deep; none of its lists is at p -/
def Dat (p : Addr) (H : Hp) : Nat → V → PyData → Prop
  | 0, v, z => Flat v z
  | n + 1, v, z => Flat v z ∨ (∃ (a : Addr) (xs : List V) (zs : List PyData), v = .ref a ∧ z = .list zs ∧ H a = some (.lst xs) ∧ a ≠ p ∧ Paired (Dat p H n) xs zs) ∨
      (∃ (a : Addr) (xs : List V) (zs : List PyData), v = .ref a ∧ z = .tuple zs ∧ H a = some (.tup xs) ∧ a ≠ p ∧ Paired (Dat p H n) xs zs) ∨
      (∃ (a : Addr) (kvs : List (Key × V)), v = .ref a ∧ z = .dict [] ∧ H a = some (.dK kvs) ∧ a ≠ p)
theorem Flat.kind {K : PySem.W.Frag} {H : Hp} {v : V} {z : PyData} (f : Flat v z) : Kind K H v := by
  cases f with
  | non => exact ⟨"NoneType", .base .non, by decide⟩
  | bl b => exact ⟨"bool", .base (.bl b), by decide⟩
  | int i => exact ⟨"int", .base (.int i), by decide⟩
  | str s => exact ⟨"str", .base (.str s), by decide⟩
theorem Dat.kind {K : PySem.W.Frag} {p : Addr} {H : Hp} {n : Nat} {v : V} {z : PyData} (d : Dat p H n v z) : Kind K H v := by
  cases n with
  | zero => exact Flat.kind d
  | succ n =>
    rcases d with f | ⟨a, xs, zs, rfl, rfl, e, _⟩ | ⟨a, xs, zs, rfl, rfl, e, _⟩ | ⟨a, kvs, rfl, rfl, e, _⟩
    · exact f.kind
    · exact ⟨"list", .base (.lst e), by decide⟩
    · exact ⟨"tuple", .base (.tup e), by decide⟩
    · exact ⟨"dict", .base (.dK e), by decide⟩
theorem Paired.imp2 {α β : Type} {R S : α → β → Prop} (h : ∀ x y, R x y → S x y) : ∀ {xs : List α} {ys : List β}, Paired R xs ys → Paired S xs ys
  | _, _, .nil => .nil
  | _, _, .cons r t => .cons (h _ _ r) (Paired.imp2 h t)
theorem Dat.but {p : Addr} {H H' : Hp} (b : But p H H') : ∀ (n : Nat) {v : V} {z : PyData}, Dat p H n v z → Dat p H' n v z
  | 0, _, _, d => d
  | n + 1, _, _, d => by
    rcases d with f | ⟨a, xs, zs, rfl, rfl, e, np, q⟩ | ⟨a, xs, zs, rfl, rfl, e, np, q⟩ | ⟨a, kvs, rfl, rfl, e, np⟩
    · exact .inl f
    · exact .inr (.inl ⟨a, xs, zs, rfl, rfl, b _ _ np e, np, Paired.imp2 (fun _ _ => Dat.but b n) q⟩)
    · exact .inr (.inr (.inl ⟨a, xs, zs, rfl, rfl, b _ _ np e, np, Paired.imp2 (fun _ _ => Dat.but b n) q⟩))
    · exact .inr (.inr (.inr ⟨a, kvs, rfl, rfl, b _ _ np e, np⟩))
def stateP (n : Int) : PyData → Bool
  | .int i => decide (0 ≤ i) && decide (i < n)
  | _ => false
def letterP (L : Str) : PyData → Bool
  | .str s => decide (s.length = 1) && s.cps.toList.all fun c => decide (c ∈ L.cps.toList)
  | _ => false
def stepP (L : Str) (n : Int) : PyData → Bool
  | .tuple [a, b, c] => stateP n a && letterP L b && stateP n c
  | _ => false
theorem Dat.num {p : Addr} {H : Hp} {k : Nat} {v : V} {z : PyData} (d : Dat p H k v z) (n : Int) : (∃ i, v = .int i ∧ z = .int i) ∨ (isNumV v = false ∧ stateP n z = false) := by
  have flat : ∀ {v z}, Flat v z → (∃ i, v = .int i ∧ z = .int i) ∨ (isNumV v = false ∧ stateP n z = false) := fun {v z} f => by
    cases f with
    | int i => exact .inl ⟨i, rfl, rfl⟩
    | non => exact .inr ⟨rfl, rfl⟩
    | bl b => exact .inr ⟨rfl, rfl⟩
    | str s => exact .inr ⟨rfl, rfl⟩
  cases k with
  | zero => exact flat d
  | succ k =>
    rcases d with f | ⟨a, xs, zs, rfl, rfl, _⟩ | ⟨a, xs, zs, rfl, rfl, _⟩ | ⟨a, kvs, rfl, rfl, _⟩
    · exact flat f
    · exact .inr ⟨rfl, rfl⟩
    · exact .inr ⟨rfl, rfl⟩
    · exact .inr ⟨rfl, rfl⟩
theorem Dat.text {p : Addr} {H : Hp} {k : Nat} {v : V} {z : PyData} (d : Dat p H k v z) : (∃ s, v = .str s ∧ z = .str s) ∨ (isStrV v = false ∧ ∀ L, letterP L z = false) := by
  have flat : ∀ {v z}, Flat v z → (∃ s, v = .str s ∧ z = .str s) ∨ (isStrV v = false ∧ ∀ L, letterP L z = false) := fun {v z} f => by
    cases f with
    | str s => exact .inl ⟨s, rfl, rfl⟩
    | non => exact .inr ⟨rfl, fun _ => rfl⟩
    | bl b => exact .inr ⟨rfl, fun _ => rfl⟩
    | int s => exact .inr ⟨rfl, fun _ => rfl⟩
  cases k with
  | zero => exact flat d
  | succ k =>
    rcases d with f | ⟨a, xs, zs, rfl, rfl, _⟩ | ⟨a, xs, zs, rfl, rfl, _⟩ | ⟨a, kvs, rfl, rfl, _⟩
    · exact flat f
    · exact .inr ⟨rfl, fun _ => rfl⟩
    · exact .inr ⟨rfl, fun _ => rfl⟩
    · exact .inr ⟨rfl, fun _ => rfl⟩
theorem one_sign {s : Str} (h : s.length = 1) : ∃ c, s = sgn c := by
  obtain ⟨⟨l⟩⟩ := s
  have h' : l.length = 1 := h
  match l, h' with
  | [c], _ => exact ⟨c, rfl⟩
section
variable {P : Program} {w : World} {K : PySem.W.Frag} {mg : Str → Option Value} {base : Heap}
def spIsState : Sp := fun vs H Q _ => ∃ (n : Int) (v : V) (p : Addr) (k : Nat) (z : PyData), vs = [.int n, v] ∧ Dat p H k v z ∧ Q (.bl (stateP n z)) H
theorem scIsState : FnScope ["size", "value"] ["size", "value"] (defScope sIsState) := ⟨rfl, rfl, rfl, by decide +kernel, rfl, by decide +kernel, by decide +kernel⟩
theorem ok_isstate {f : Addr} {fd : FuncData} (F : Fun K "is_state" "is_state" sIsState f fd) (D : Def P w K mg base 1 "is_integer" ["value"] (spIsInt K)) : FnOk P w K mg base CX0 2 f fd ["size", "value"] spIsState := by
  obtain ⟨fD, fdD, GD, gD, kD, bD⟩ := D.ex
  refine F.ok scIsState (fun vs H Q E h => ?_) (fun cdv A outer s H vs Q E hr h => ?_)
  · obtain ⟨n, v, p, k, z, rfl, _⟩ := h
    rfl
  · obtain ⟨n, v, p, k, z, rfl, d, q⟩ := h
    refine ⟨_, pss_one (ps_ret (pe_and (pe_call GD hr rfl gD kD bD .nil pass0 (by exact (pa_cons (pv 1) pa_nil))) (pe_one (pe_chain op_le op_lt pe_int (pv 1) (pv 0))))), ?_⟩
    refine ⟨_, rfl, v, rfl, d.kind, isNumV v, rfl, ?_⟩
    rcases d.num n with ⟨i, rfl, rfl⟩ | ⟨e1, e2⟩
    · refine iteT ⟨_, rfl, _, _, rfl, rfl, _, rfl, ?_⟩
      by_cases h0 : (0 : Int) ≤ i
      · refine ite2 (fun _ => ?_) (fun c => absurd (decide_eq_true h0) c)
        refine ⟨_, rfl, _, _, rfl, rfl, ?_⟩
        have e : stateP n (.int i) = decide (i < n) := by
          show (decide (0 ≤ i) && decide (i < n)) = _
          rw [decide_eq_true h0, Bool.true_and]
        rw [e] at q
        exact q
      · refine ite2 (fun c => absurd (of_decide_eq_true c) h0) (fun _ => ?_)
        have e : stateP n (.int i) = false := by
          show (decide (0 ≤ i) && decide (i < n)) = _
          rw [decide_eq_false h0, Bool.false_and]
        rw [e] at q
        exact q
    · rw [e1]
      rw [e2] at q
      exact iteF q
def spIsLetter : Sp := fun vs H Q _ => ∃ (L : Str) (v : V) (p : Addr) (k : Nat) (z : PyData), vs = [.str L, v] ∧ Dat p H k v z ∧ ShortV v ∧ Q (.bl (letterP L z)) H
theorem scIsLetter : FnScope ["letters", "value"] ["letters", "value"] (defScope sIsLetter) := ⟨rfl, rfl, rfl, by decide +kernel, rfl, by decide +kernel, by decide +kernel⟩
theorem ok_isletter {f : Addr} {fd : FuncData} (F : Fun K "is_letter" "is_letter" sIsLetter f fd) (B : Bl mg) : FnOk P w K mg base CX0 1 f fd ["letters", "value"] spIsLetter := by
  refine F.ok scIsLetter (fun vs H Q E h => ?_) (fun cdv A outer s H vs Q E hr h => ?_)
  · obtain ⟨L, v, p, k, z, rfl, _⟩ := h
    rfl
  · obtain ⟨L, v, p, k, z, rfl, d, sh, q⟩ := h
    refine ⟨_, pss_one (ps_ret (pe_and (pe_callB call_isi (by rfl) B.isinstance (by decide +kernel) (by exact (pa_cons (pv 1) (pa_cons (pe_bltn (v := .ty "str") (by rfl) B.str (by decide +kernel) rfl) pa_nil))))
      (pe_and (pe_cmpR op_eq (pe_callB call_len_str (by rfl) B.len PySem.boot_len (by exact (pa_cons (pv 1) pa_nil))) pe_int (nomark _)) (pe_one (pe_cmpR op_in_sign (pv 1) (pv 0) (by rfl)))))), ?_⟩
    obtain ⟨t, ht, e1⟩ := d.kind.isStr
    refine ⟨_, rfl, _, _, _, _, _, rfl, .ty "str", ht, e1, _, rfl, ?_⟩
    rcases d.text with ⟨s1, rfl, rfl⟩ | ⟨e2, e3⟩
    · have hz : s1.length ≤ sizeLine := Evl.sz_of (by have := sh s1 rfl; omega)
      refine iteT ⟨_, rfl, s1, rfl, hz, rfl, _, rfl, ?_⟩
      by_cases h1 : s1.length = 1
      · obtain ⟨c, rfl⟩ := one_sign h1
        refine ite2 (fun _ => ?_) (fun n => absurd (decide_eq_true (show V.int ((sgn c).length : Nat) = V.int 1 from rfl)) n)
        refine ⟨_, rfl, _, rfl, c, L, rfl, rfl, ?_⟩
        have e : letterP L (.str (sgn c)) = decide (c ∈ L.cps.toList) := by
          show (decide ((sgn c).length = 1) && [c].all fun x => decide (x ∈ L.cps.toList)) = _
          rw [decide_eq_true h1, Bool.true_and]
          simp
        rw [e] at q
        exact q
      · have ne : ¬ (decide (V.int (s1.length : Nat) = V.int 1) = true) := fun c => h1 (by
          have := of_decide_eq_true c
          injection this with h
          omega)
        refine ite2 (fun c => absurd c ne) (fun _ => ?_)
        have e : letterP L (.str s1) = false := by
          show (decide (s1.length = 1) && _) = _
          rw [decide_eq_false h1, Bool.false_and]
        rw [e] at q
        exact q
    · rw [e2]
      rw [e3] at q
      exact iteF q
end
end Lw
set_option Elab.async false
set_option linter.all false
set_option maxRecDepth 100000
set_option maxHeartbeats 4000000
namespace Lw
open PySem PySem.Spec PyProof.Rows L2
def tupP : PyData → Bool
  | .tuple _ => true
  | _ => false
def seqP : PyData → Bool
  | .tuple _ => true
  | .list _ => true
  | _ => false
def shortF : PyData → Bool
  | .str s => decide (s.length < 100000)
  | _ => true
/-- its own texts, and those of its parts, are short -/
def short1 : PyData → Bool
  | .list zs => zs.all shortF
  | .tuple zs => zs.all shortF
  | z => shortF z
theorem Flat.tyx {K : PySem.W.Frag} {H : Hp} {v : V} {z : PyData} (f : Flat v z) : ∃ n : String, TyX K H v (.type n) ∧ n ∈ ["NoneType", "bool", "int", "str"] := by
  cases f with
  | non => exact ⟨"NoneType", .base .non, by decide⟩
  | bl b => exact ⟨"bool", .base (.bl b), by decide⟩
  | int i => exact ⟨"int", .base (.int i), by decide⟩
  | str s => exact ⟨"str", .base (.str s), by decide⟩
theorem Dat.isTup {K : PySem.W.Frag} {p : Addr} {H : Hp} {k : Nat} {v : V} {z : PyData} (d : Dat p H k v z) : ∃ t : Value, TyX K H v t ∧ PySem.W.kitOne K t (.type "tuple") = some (tupP z) := by
  have flat : ∀ {v z}, Flat v z → ∃ t : Value, TyX K H v t ∧ PySem.W.kitOne K t (.type "tuple") = some (tupP z) := fun {v z} f => by
    cases f with
    | non => exact ⟨_, .base .non, (show PySem.W.kitOne K _ _ = some false from kit_ty (by decide +kernel))⟩
    | bl b => exact ⟨_, .base (.bl b), (show PySem.W.kitOne K _ _ = some false from kit_ty (by decide +kernel))⟩
    | int i => exact ⟨_, .base (.int i), (show PySem.W.kitOne K _ _ = some false from kit_ty (by decide +kernel))⟩
    | str s => exact ⟨_, .base (.str s), (show PySem.W.kitOne K _ _ = some false from kit_ty (by decide +kernel))⟩
  cases k with
  | zero => exact flat d
  | succ k =>
    rcases d with f | ⟨a, xs, zs, rfl, rfl, e, _⟩ | ⟨a, xs, zs, rfl, rfl, e, _⟩ | ⟨a, kvs, rfl, rfl, e, _⟩
    · exact flat f
    · exact ⟨_, .base (.lst e), (show PySem.W.kitOne K _ _ = some false from kit_ty (by decide +kernel))⟩
    · exact ⟨_, .base (.tup e), (show PySem.W.kitOne K _ _ = some true from kit_ty (by decide +kernel))⟩
    · exact ⟨_, .base (.dK e), (show PySem.W.kitOne K _ _ = some false from kit_ty (by decide +kernel))⟩
theorem Dat.shortV {p : Addr} {H : Hp} {k : Nat} {v : V} {z : PyData} (d : Dat p H k v z) (h : shortF z = true) : ShortV v := by
  rcases d.text with ⟨s, rfl, rfl⟩ | ⟨e, _⟩
  · exact fun y q => by
      cases q
      exact of_decide_eq_true h
  · exact fun y q => by
      subst q
      cases e
/-- a tuple's parts -/
theorem Dat.tup {p : Addr} {H : Hp} {k : Nat} {v : V} {zs : List PyData} (d : Dat p H k v (.tuple zs)) : ∃ (j : Nat) (a : Addr) (xs : List V), v = .ref a ∧ H a = some (.tup xs) ∧ Paired (Dat p H j) xs zs := by
  cases k with
  | zero => cases d
  | succ k =>
    rcases d with f | ⟨a, xs, zs', _, e, _⟩ | ⟨a, xs, zs', rfl, e0, e, np, q⟩ | ⟨a, kvs, _, e, _⟩
    · cases f
    · cases e
    · cases e0
      exact ⟨k, a, xs, rfl, e, q⟩
    · cases e
theorem tupP_of {z : PyData} (h : tupP z = true) : ∃ zs, z = .tuple zs := by
  cases z with
  | tuple zs => exact ⟨zs, rfl⟩
  | _ => cases h
theorem stepP_not {L : Str} {n : Int} {z : PyData} (h : tupP z = false) : stepP L n z = false := by
  cases z with
  | tuple zs => cases h
  | _ => rfl
theorem stepP_len {L : Str} {n : Int} : ∀ {zs : List PyData}, zs.length ≠ 3 → stepP L n (.tuple zs) = false
  | [], _ => rfl
  | [_], _ => rfl
  | [_, _], _ => rfl
  | [_, _, _], h => absurd rfl h
  | _ :: _ :: _ :: _ :: _, _ => rfl
theorem Paired.len {α β : Type} {R : α → β → Prop} : ∀ {xs : List α} {ys : List β}, Paired R xs ys → xs.length = ys.length
  | _, _, .nil => rfl
  | _, _, .cons _ t => by rw [List.length_cons, List.length_cons, Paired.len t]
section
variable {P : Program} {w : World} {K : PySem.W.Frag} {mg : Str → Option Value} {base : Heap}
def spIsStep : Sp := fun vs H Q _ => ∃ (L : Str) (n : Int) (v : V) (p : Addr) (k : Nat) (z : PyData), vs = [.str L, .int n, v] ∧ Dat p H k v z ∧ short1 z = true ∧ Q (.bl (stepP L n z)) H
theorem scIsStep : FnScope ["letters", "size", "value", "before", "letter", "behind"] ["letters", "size", "value"] (defScope sIsStep) := ⟨rfl, rfl, rfl, by decide +kernel, rfl, by decide +kernel, by decide +kernel⟩
theorem ok_isstep {f : Addr} {fd : FuncData} (F : Fun K "is_step" "is_step" sIsStep f fd) (B : Bl mg) (tn : mg "tuple" = none) (D1 : Def P w K mg base 2 "is_state" ["size", "value"] spIsState) (D2 : Def P w K mg base 1 "is_letter" ["letters", "value"] spIsLetter) :
    FnOk P w K mg base CX0 3 f fd ["letters", "size", "value"] spIsStep := by
  obtain ⟨f1, fd1, G1, g1, k1, b1⟩ := D1.ex
  obtain ⟨f2, fd2, G2, g2, k2, b2⟩ := D2.ex
  refine F.ok scIsStep (fun vs H Q E h => ?_) (fun cdv A outer s H vs Q E hr h => ?_)
  · obtain ⟨L, n, v, p, k, z, rfl, _⟩ := h
    rfl
  · obtain ⟨L, n, v, p, k, z, rfl, d, sh, q⟩ := h
    refine ⟨_, pss_cons (ps_if (PW.pt (pw_or (pt_not (pt_val (pe_callB call_isi (by rfl) B.isinstance (by decide +kernel) (by exact (pa_cons (pv 2) (pa_cons (pe_bltn (v := .ty "tuple") (by rfl) tn (by decide +kernel) rfl) pa_nil))))))
        (pw_or1 (pt_cmpR op_ne (pe_callB call_len_seq (by rfl) B.len PySem.boot_len (by exact (pa_cons (pv 2) pa_nil))) pe_int (nomark _))))) (pss_one (ps_ret pe_bl)) pss_nil)
      (pss_cons (ps_asg (pv 2) (pg_tup (by rfl) (pgs_cons (pg_name (i := 3) scIsStep.nd rfl (.inl rfl)) (pgs_cons (pg_name (i := 4) scIsStep.nd rfl (.inl rfl)) (pgs_cons (pg_name (i := 5) scIsStep.nd rfl (.inl rfl)) pgs_nil)))))
      (pss_one (ps_ret (pe_and (pe_call G1 hr rfl g1 k1 b1 .nil pass0 (by exact (pa_cons (pv 1) (pa_cons (pv 3) pa_nil))))
        (pe_and (pe_call G2 (hr.mono (by decide)) rfl g2 k2 b2 .nil pass0 (by exact (pa_cons (pv 0) (pa_cons (pv 4) pa_nil)))) (pe_one (pe_call G1 hr rfl g1 k1 b1 .nil pass0 (by exact (pa_cons (pv 1) (pa_cons (pv 5) pa_nil)))))))))), ?_⟩
    obtain ⟨t, ht, e1⟩ := d.isTup
    refine ⟨_, rfl, _, _, _, _, _, rfl, .ty "tuple", ht, e1, _, rfl, ?_⟩
    cases ep : tupP z with
    | false =>
      rw [stepP_not ep] at q
      exact iteT (iteT q)
    | true =>
      obtain ⟨zs, rfl⟩ := tupP_of ep
      obtain ⟨j, a, xs, rfl, e, hx⟩ := d.tup
      refine iteF ⟨_, rfl, a, xs, rfl, .inr (.inl (.inl e)), rfl, _, rfl, ?_⟩
      have el := Paired.len hx
      by_cases h3 : xs.length = 3
      · refine ite2 (fun c => ?_) (fun _ => ?_)
        · rw [h3] at c
          cases c
        match xs, zs, h3, hx with
        | [x1, x2, x3], [y1, y2, y3], _, .cons r1 (.cons r2 (.cons r3 .nil)) =>
          refine ⟨_, rfl, a, _, rfl, .inl (.inl e), rfl, _, _, rfl, _, _, rfl, _, _, rfl, rfl, ?_⟩
          have q' : Q (.bl (stateP n y1 && letterP L y2 && stateP n y3)) H := q
          have s2 : shortF y2 = true := by
            have sh' : ([y1, y2, y3].all shortF) = true := sh
            simp only [List.all_cons, List.all_nil, Bool.and_true, Bool.and_eq_true] at sh'
            exact sh'.2.1
          refine ⟨_, rfl, _, rfl, n, x1, p, j, y1, rfl, r1, _, rfl, ?_⟩
          cases w1 : stateP n y1 with
          | false =>
            rw [w1] at q'
            exact iteF q'
          | true =>
            refine iteT ⟨_, rfl, _, rfl, L, x2, p, j, y2, rfl, r2, r2.shortV s2, _, rfl, ?_⟩
            cases w2 : letterP L y2 with
            | false =>
              rw [w1, w2] at q'
              exact iteF q'
            | true =>
              rw [w1, w2] at q'
              exact iteT ⟨_, rfl, _, rfl, n, x3, p, j, y3, rfl, r3, q'⟩
      · refine ite2 (fun _ => ?_) (fun c => absurd ?_ c)
        · rw [stepP_len (by omega)] at q
          exact q
        · have : decide (V.int (xs.length : Nat) = V.int 3) = false := decide_eq_false (fun hh => h3 (by injection hh with h'; omega))
          show (!decide (V.int (xs.length : Nat) = V.int 3)) = true
          rw [this]
          rfl
end
end Lw
set_option Elab.async false
set_option linter.all false
set_option maxRecDepth 100000
set_option maxHeartbeats 4000000
/-! states.py: check_step -/
namespace Lw
open PySem PySem.Spec PyProof.Rows L2
abbrev sChkStep : Stmt := topS 35
section
variable {P : Program} {w : World} {K : PySem.W.Frag} {mg : Str → Option Value} {base : Heap}
def spChkStep (C : Addr) : Sp := fun vs H Q E => ∃ (L : Str) (n : Int) (v : V) (p : Addr) (k : Nat) (z : PyData), vs = [.str L, .int n, v] ∧ Dat p H k v z ∧ short1 z = true ∧
  (stepP L n z = true → Q .non H) ∧ (stepP L n z = false → Err E H C v)
theorem scChkStep : FnScope ["letters", "size", "step"] ["letters", "size", "step"] (defScope sChkStep) := ⟨rfl, rfl, rfl, by decide +kernel, rfl, by decide +kernel, by decide +kernel⟩
theorem ok_chkstep {f C : Addr} {fd : FuncData} (F : Fun K "check_step" "check_step" sChkStep f fd) (XL : Xc P w K mg base "InvalidStep" C veB "ValueError.__new__" ["self", "value"] (spEx1 C "value"))
    (D : Def P w K mg base 3 "is_step" ["letters", "size", "value"] spIsStep) : FnOk P w K mg base (L2.CX P w) 4 f fd ["letters", "size", "step"] (spChkStep C) := by
  obtain ⟨fD, fdD, GD, gD, kD, bD⟩ := D.ex
  obtain ⟨fI, fdI, iC, tI, F1, bI⟩ := XL.ex
  refine F.okX scChkStep (fun vs H Q E h => ?_) (fun cdv A outer s H vs Q E hr h => ?_)
  · obtain ⟨L, n, v, p, k, z, rfl, _⟩ := h
    rfl
  · obtain ⟨L, n, v, p, k, z, rfl, d, sh, q1, q2⟩ := h
    refine ⟨_, pss_one (ps_if (pt_not (pt_val (pe_call GD hr rfl gD kD bD .nil pass0 (by exact (pa_cons (pv 0) (pa_cons (pv 1) (pa_cons (pv 2) pa_nil)))))))
      (pss_one (ps_raise rfl (takes_of rfl rfl rfl rfl) (pmk_x PySem.F.excBase_ValueError XL.T iC tI F1 (hr.mono (by decide)) bI pass0 rfl XL.gC (pa_cons (pv 2) pa_nil)))) pss_nil), ?_⟩
    refine ⟨_, rfl, _, rfl, _, rfl, L, n, v, p, k, z, rfl, d, sh, _, rfl, ?_⟩
    cases e : stepP L n z with
    | true => exact iteF (q1 e)
    | false => exact iteT ⟨_, rfl, mk1 fun d H' hd sm hx => q2 e d H' hd sm hx⟩
end
end Lw
set_option Elab.async false
set_option linter.all false
set_option maxRecDepth 100000
set_option maxHeartbeats 4000000
namespace Lw
open PySem PySem.Spec PyProof.Rows L2
/-- the constants of the module rows -/
structure Cs (mg : Str → Option Value) : Prop where
  alpha : ∃ t, mg "ALPHABET" = some (.str alphabet t)
  most : ∃ t, mg "MOST_LETTERS" = some (.int 4 t)
theorem cut_one (z : Str) (h : 1 ≤ z.length) : cutS z (some 1) none = ⟨(z.cps.toList.drop 1).toArray⟩ := by
  unfold cutS
  have e1 : HT.sIx z.length 0 (some 1) = 1 := by
    have := HT.sIx_nat z.length 0 1
    rw [show (some ((1 : Nat) : Int)) = (some 1 : Option Int) from rfl] at this
    rw [this]
    omega
  rw [e1, HT.sIx_none]
  have e2 : (z.cps.toList.drop 1).length = z.length - 1 := by
    rw [List.length_drop, Array.length_toList]
    rfl
  rw [← e2, List.take_length]
section
variable {P : Program} {w : World} {K : PySem.W.Frag} {mg : Str → Option Value} {base : Heap}
def spIsLet (K : PySem.W.Frag) : Sp := fun vs H Q _ => ∃ (v : V), vs = [v] ∧ Kind K H v ∧ ShortV v ∧ ∀ H', Same H H' → Q (.bl (lettersV v)) H'
theorem scIsLet : FnScope ["value", "one", "other"] ["value"] (defScope sIsLet) := ⟨rfl, rfl, rfl, by decide +kernel, rfl, by decide +kernel, by decide +kernel⟩
theorem ok_islet {f : Addr} {fd : FuncData} (F : Fun K "is_letters" "is_letters" sIsLet f fd) (B : Bl mg) (T : Cs mg) (O : Def P w K mg base 1 "is_over" ["letters", "value"] (spOver K)) : FnOk P w K mg base CX0 2 f fd ["value"] (spIsLet K) := by
  obtain ⟨fO, fdO, GO, gO, kO, bO⟩ := O.ex
  obtain ⟨ta, hA⟩ := T.alpha
  obtain ⟨tm, hM⟩ := T.most
  refine F.ok scIsLet (fun vs H Q E h => ?_) (fun cdv A outer s H vs Q E hr h => ?_)
  · obtain ⟨v, rfl, _⟩ := h
    rfl
  · obtain ⟨v, rfl, kd, sh, q⟩ := h
    refine ⟨_, pss_cons (ps_if (PW.pt (pw_or (pt_not (pt_val (pe_callB call_isi (by rfl) B.isinstance (by decide +kernel) (by exact (pa_cons (pv 0) (pa_cons (pe_bltn (v := .ty "str") (by rfl) B.str (by decide +kernel) rfl) pa_nil))))))
        (pw_or1 (pt_not (pt_chain op_le op_le pe_int (pe_callB call_len_str (by rfl) B.len PySem.boot_len (by exact (pa_cons (pv 0) pa_nil))) (pe_glob (v := .int 4) (by rfl) hM ⟨_, rfl⟩)))))) (pss_one (ps_ret pe_bl)) pss_nil)
      (pss_cons (ps_if (pt_not (pt_val (pe_call GO hr rfl gO kO bO .nil pass0 (by exact (pa_cons (pe_glob (v := .str alphabet) (by rfl) hA ⟨_, rfl⟩) (pa_cons (pv 0) pa_nil)))))) (pss_one (ps_ret pe_bl)) pss_nil)
      (pss_one (ps_ret (pe_callB (cr_all rfl) (by rfl) B.all (by decide +kernel) (by exact (pa_cons (pe_lc (own := [("one", 1), ("other", 2)]) (g := gTup K 2 (gCons (gName 1) (gCons (gName 2) gNil))) (tt := tYes) (by rfl) scIsLet.nd
        (pi_zipS (by rfl) B.zip (pa_cons (pv 0) (pa_cons (pe_slice sl_str (pv 0) (po_some pe_int) po_none) pa_nil)))
        (blkOk_by (own := [("one", 1), ("other", 2)]) (N := ["value", "one", "other"]) (sc := defScope sIsLet) (by decide +kernel)) (fun _ _ _ _ _ => by exact (pg_tup (by rfl) (pgs_cons (pg_name (i := 1) scIsLet.nd rfl (Or.inl rfl)) (pgs_cons (pg_name (i := 2) scIsLet.nd rfl (Or.inl rfl)) pgs_nil)))) (fun _ _ _ _ _ => pts_nil)
        (fun _ _ _ _ _ => by exact (pe_cmpR op_lt_str (pv 1) (pv 2) (nomark _)))) pa_nil)))))), ?_⟩
    obtain ⟨t, ht, e1⟩ := kd.isStr
    refine ⟨_, rfl, _, _, _, _, _, rfl, .ty "str", ht, e1, _, rfl, ?_⟩
    cases v with
    | str z =>
      have hz := sh z rfl
      have hz' : z.length ≤ sizeLine := Evl.sz_of (by omega)
      refine iteF ?_
      refine ⟨_, rfl, z, rfl, hz', _, _, rfl, rfl, _, rfl, ?_⟩
      refine ite2 (fun h1 => ?_) (fun h1 => ?_)
      · have h1 := of_decide_eq_true h1
        refine ⟨_, _, rfl, rfl, _, rfl, ?_⟩
        by_cases h4 : z.length ≤ 4
        · have d4 : decide ((z.length : Int) ≤ 4) = true := decide_eq_true (by omega)
          rw [d4]
          refine iteF ?_
          refine ⟨_, rfl, alphabet, .str z, rfl, kd, sh, fun H1 s1 => ⟨_, rfl, ?_⟩⟩
          cases ho : overV alphabet (.str z) with
          | false =>
            refine iteT ?_
            have e : lettersV (.str z) = false := by
              show (decide (1 ≤ z.length) && decide (z.length ≤ 4) && overV alphabet (.str z) && risesV z) = false
              rw [ho, Bool.and_false, Bool.false_and]
            rw [e] at q
            exact q H1 s1
          | true =>
            refine iteF ?_
            refine ⟨_, rfl, _, rfl, _, rfl, z, rfl, hz', z, _, rfl, fun D hD => ?_⟩
            have e1 : cutS z (some 1) none = ⟨(z.cps.toList.drop 1).toArray⟩ := cut_one z (by omega)
            rw [e1]
            have es : min z.cps.size (⟨(z.cps.toList.drop 1).toArray⟩ : Str).cps.size = z.length - 1 := by
              have e5 : ((z.cps.toList.drop 1).toArray).size = z.cps.size - 1 := by
                rw [List.size_toArray]
                simp
              show min z.cps.size ((z.cps.toList.drop 1).toArray).size = z.cps.size - 1
              omega
            have wz := walk_zipS (x := z) (y := ⟨(z.cps.toList.drop 1).toArray⟩)
            rw [es] at wz
            refine lc_map wz (fun i => V.bl (decide ([z.cps.toList.getD i 0] < [z.cps.toList.getD (i + 1) 0]))) hD (by omega) (fun _ _ => trivial) (fun i x Ha Hb C Z hi sm y k => ?_) (fun H' sm hD' => ?_)
            · obtain ⟨T, c, d, rfl, hT, rfl, hc, hd⟩ := y
              refine ⟨T, _, rfl, .inl (.inl upd_same), rfl, _, _, rfl, _, _, rfl, rfl, ?_⟩
              refine ⟨rfl, _, rfl, _, rfl, _, _, rfl, rfl, ?_⟩
              have ec : z.cps.toList.getD i 0 = c := by
                rw [List.getD_eq_getElem?_getD, Array.getElem?_toList, hc]
                rfl
              have ed : z.cps.toList.getD (i + 1) 0 = d := by
                have hd' : (z.cps.toList.drop 1)[i]? = some d := by
                  rw [← List.getElem?_toArray]
                  exact hd
                rw [List.getElem?_drop] at hd'
                rw [List.getD_eq_getElem?_getD, Nat.add_comm, hd']
                rfl
              have := k (upd Ha T (.tup [.str (sgn c), .str (sgn d)])) (Same.new' (Same.refl Ha) hT)
              rw [ec, ed] at this
              exact this
            · have e2 : firsts (fun i => V.bl (decide ([z.cps.toList.getD i 0] < [z.cps.toList.getD (i + 1) 0]))) (z.length - 1) = ((List.range (z.length - 1)).map fun i => decide ([z.cps.toList.getD i 0] < [z.cps.toList.getD (i + 1) 0])).map V.bl := by
                unfold firsts
                rw [List.map_map]
                rfl
              rw [e2] at hD'
              refine ⟨D, _, rfl, .inl (.inl hD'), ?_⟩
              have e3 : (((List.range (z.length - 1)).map fun i => decide ([z.cps.toList.getD i 0] < [z.cps.toList.getD (i + 1) 0]))).all id = lettersV (.str z) := by
                show _ = (decide (1 ≤ z.length) && decide (z.length ≤ 4) && overV alphabet (.str z) && risesV z)
                rw [ho, decide_eq_true (show 1 ≤ z.length by omega), decide_eq_true h4, List.all_map]
                rfl
              rw [e3]
              exact q H' (s1.trans sm)
        · have d4 : decide ((z.length : Int) ≤ 4) = false := decide_eq_false (by omega)
          rw [d4]
          refine iteT ?_
          have e : lettersV (.str z) = false := by
            show (decide (1 ≤ z.length) && decide (z.length ≤ 4) && overV alphabet (.str z) && risesV z) = false
            rw [decide_eq_false h4, Bool.and_false, Bool.false_and, Bool.false_and]
          rw [e] at q
          exact q H (Same.refl H)
      · refine ⟨_, rfl, ?_⟩
        refine iteT ?_
        have e : lettersV (.str z) = false := by
          show (decide (1 ≤ z.length) && decide (z.length ≤ 4) && overV alphabet (.str z) && risesV z) = false
          rw [decide_eq_false (fun hh => h1 (decide_eq_true (by omega))), Bool.false_and, Bool.false_and, Bool.false_and]
        rw [e] at q
        exact q H (Same.refl H)
    | _ => exact iteT (iteT (q H (Same.refl H)))
end
end Lw
set_option Elab.async false
set_option linter.all false
set_option maxRecDepth 100000
set_option maxHeartbeats 4000000
/-! a comprehension with a condition; states.py: ascending -/
namespace Lw
open PySem PySem.Spec PyProof.Rows L2
/-- those of the first n of f that are picked -/
def picks (f : Nat → V) (p : Nat → Bool) (n : Nat) : List V := ((List.range n).filter p).map f
theorem picks_succ (f : Nat → V) (p : Nat → Bool) (n : Nat) : picks f p (n + 1) = if p n = true then picks f p n ++ [f n] else picks f p n := by
  unfold picks
  rw [List.range_succ, List.filter_append, List.map_append]
  cases e : p n with
  | true => simp [e]
  | false => simp [e]
theorem picks_len (f : Nat → V) (p : Nat → Bool) (n : Nat) : (picks f p n).length ≤ n := by
  unfold picks
  rw [List.length_map]
  exact Nat.le_trans (List.length_filter_le _ _) (by rw [List.length_range]; exact Nat.le_refl _)
/-- a comprehension with a condition whose turns change nothing that is tracked -/
theorem lc_pick {J : It} {n : Nat} {G : Hp → Prop} {Y : Nat → Hp → V → Hp → Prop} (w : Walk J n G Y) (f : Nat → V) (p : Nat → Bool) {g : TG} {tt : TT} {te : TE} {vs : List Nat} {σ : L2.St} {H1 : Hp} {D : Addr} {Qd : Hp → Prop} (hD : H1 D = none) (hn : n < 100000)
    (hG : ∀ H', Same H1 H' → G H')
    (hs : ∀ i x Ha Hb (C : V → Hp → Prop) (Z : Hp → Prop), i < n → Same H1 Ha → Y i Ha x Hb → (∀ Hc, p i = true → Same Ha Hc → C (f i) Hc) → (∀ Hc, p i = false → Same Ha Hc → Z Hc) →
      g x (wipe σ vs) Hb fun σ2 H2 => wipe σ2 vs = wipe σ vs ∧ tt σ2 H2 fun b H3 => if b = true then te σ2 H3 C else Z H3)
    (hd : ∀ H', Same H1 H' → H' D = some (.lst (picks f p n)) → Qd H') :
    ∃ W : Nat → Nat → Hp → Prop, (∃ m, W 0 m (upd H1 D (.lst []))) ∧ ∀ i m H, W i m H →
      (J.stop i H ∧ Qd H) ∨ (J.go i H ∧ ∃ Nx : Hp → Prop, (∀ H', Nx H' → ∃ m', m' < m ∧ W (i + 1) m' H') ∧ ∀ x H', J.yld i H x H' → g x (wipe σ vs) H' fun σ2 H2 => wipe σ2 vs = wipe σ vs ∧ tt σ2 H2 fun b H3 =>
        if b = true then te σ2 H3 fun y H4 => ∃ acc, H4 D = some (.lst acc) ∧ acc.length < sizeLine ∧ Nx (upd H4 D (.lst (acc ++ [y]))) else Nx H3) := by
  refine lc_it w (fun i H' => Same H1 H' ∧ H' D = some (.lst (picks f p i))) ⟨Same.new' (Same.refl H1) hD, upd_same⟩ (fun i H' _ h => hG H' h.1) (fun i x Ha Hb hi hp y => ?_) (fun H' h => hd H' h.1 h.2)
  refine hs i x Ha Hb _ _ hi hp.1 y (fun Hc ep sc => ?_) (fun Hc ep sc => ?_)
  · refine ⟨picks f p i, sc _ _ hp.2, ?_, ?_, ?_⟩
    · exact Nat.lt_of_le_of_lt (picks_len f p i) (Nat.lt_of_lt_of_le (show i < 100000 by omega) (by decide))
    · exact Same.mut' (hp.1.trans sc) hD
    · rw [upd_same, picks_succ, ep]
      rfl
  · refine ⟨hp.1.trans sc, ?_⟩
    rw [picks_succ, ep]
    exact sc _ _ hp.2
abbrev sAsc : Stmt := topS 29
/-- the states below n that are among the values -/
def ascV (n : Int) (xs : List V) : List V := picks (fun i => V.int (0 + (i : Int))) (fun i => inV (.int (0 + (i : Int))) xs) n.toNat
section
variable {P : Program} {w : World} {K : PySem.W.Frag} {mg : Str → Option Value} {base : Heap}
def spAsc (K : PySem.W.Frag) : Sp := fun vs H Q _ => ∃ (n : Int) (p : Addr) (xs : List V), vs = [.int n, .ref p] ∧ -(2 ^ 62) ≤ n ∧ n < 100000 ∧ (H p = some (.lst xs) ∨ H p = some (.tup xs)) ∧ xs.all flatV = true ∧
  ∀ l H', Same H H' → H l = none → H' l = some (.tup (ascV n xs)) → Q (.ref l) H'
theorem scAsc : FnScope ["size", "some", "state"] ["size", "some"] (defScope sAsc) := ⟨rfl, rfl, rfl, by decide +kernel, rfl, by decide +kernel, by decide +kernel⟩
theorem ok_asc {f : Addr} {fd : FuncData} (F : Fun K "ascending" "ascending" sAsc f fd) (B : Bl mg) (tn : mg "tuple" = none) (rn : mg "range" = none) : FnOk P w K mg base CX0 1 f fd ["size", "some"] (spAsc K) := by
  refine F.ok scAsc (fun vs H Q E h => ?_) (fun cdv A outer s H vs Q E hr h => ?_)
  · obtain ⟨n, p, xs, rfl, _⟩ := h
    rfl
  · obtain ⟨n, p, xs, rfl, n1, n2, hp, fx, q⟩ := h
    refine ⟨_, pss_one (ps_ret (pe_callTy call_tuple_of (by rfl) tn (by decide +kernel) (by exact (pa_cons (pe_lc (own := [("state", 2)]) (g := gName 2) (tt := tTest (tOp (rIn K false) (tVar 2) (tVar 1))) (by rfl) scAsc.nd
        (pi_range1 (by rfl) rn (pa_cons (pv 0) pa_nil))
        (blkOk_by (own := [("state", 2)]) (N := ["size", "some", "state"]) (sc := defScope sAsc) (by decide +kernel)) (fun _ _ _ _ _ => by exact (pg_name (i := 2) scAsc.nd rfl (Or.inl rfl))) (fun _ _ _ _ _ => by exact (pts_one (pt_cmpR op_in_seq (pv 2) (pv 1) (by rfl))))
        (fun _ _ _ _ _ => by exact (pv 2))) pa_nil)))), ?_⟩
    refine ⟨_, rfl, n, rfl, n1, by omega, fun D hD => ?_⟩
    refine lc_pick walk_range (fun i => V.int (0 + (i : Int))) (fun i => inV (.int (0 + (i : Int))) xs) hD (by omega) (fun _ _ => trivial) (fun i x Ha Hb C Z hi sm y k1 k2 => ?_) (fun H' sm hD' => ?_)
    · obtain ⟨rfl, rfl⟩ := y
      refine ⟨rfl, _, rfl, _, rfl, p, xs, rfl, ?_, rfl, fx, _, rfl, ?_⟩
      · rcases hp with hp | hp
        · exact .inl (.inl (.inl (sm _ _ hp)))
        · exact .inr (.inl (.inl (sm _ _ hp)))
      · cases e : inV (.int (0 + (i : Int))) xs with
        | true => exact iteT ⟨_, rfl, k1 _ e (Same.refl _)⟩
        | false => exact iteF (k2 _ e (Same.refl _))
    · exact ⟨D, _, rfl, .inl ⟨.inl (.inl hD'), fun l hl => q l _ (Same.new' sm hl) (sm.free hl) upd_same⟩⟩
end
end Lw
set_option Elab.async false
set_option linter.all false
set_option maxRecDepth 100000
set_option maxHeartbeats 4000000
/-! enumerate of a tuple -/
namespace PySem.Et
open PySem PySem.Spec PyProof.Rows
abbrev walker (t : Addr) : Obj := { cls := .type "tuple_iterator", data := .fields #[.ref t, .int 0 0] }
abbrev teller (it : Addr) : Obj := { cls := .type "enumerate", data := .fields #[.none, .bool false, .ref it, rawInt 0, .none, .none] }
theorem made (t : Addr) (items : Array Value) (n : Nat) (dct : Option Addr) (sl : Array (Option Value)) :
    Meets (Builtin.«enumerate.__new__» ⟨[.type "enumerate", .ref t], []⟩) (fun _ R s => s.heap.get? t = some { cls := .type "tuple", dict := dct, data := .seq items n, slots := sl } ∧
      R (.ok (.ret (.ref (s.heap.push (walker t)).objs.size))) { s with heap := (s.heap.push (walker t)).push (teller s.heap.objs.size) }) :=
  .of_wp fun prog w A R s h => by
    obtain ⟨hp, g, d, tk, os⟩ := s
    obtain ⟨hl, h⟩ := h
    have hsub := sub_enumerate
    have isT : Heap.IsTuple (Shared.heap ⟨hp, g, d, tk, os⟩) t items := ⟨_, hl, rfl, n, rfl⟩
    wp_walk using wpAny_loadPart' hl
    refine wpAny_stack_any fun st => wpAny_pure ?_
    split
    · rename_i c _ _ _ _ _
      cases (c == Value.type "enumerate")
      · wp_walk using wpAny_loadPart' hl, wpAny_pyIter_tuple isT
        exact ⟨_, rfl, h⟩
      · wp_walk using wpAny_loadPart' hl, wpAny_pyIter_tuple isT
        exact ⟨_, rfl, h⟩
    · wp_walk using wpAny_loadPart' hl, wpAny_pyIter_tuple isT
      exact ⟨_, rfl, h⟩
end PySem.Et
namespace PySem.Et
open PySem PySem.Spec PyProof.Rows
section
variable {prog : Program} {w : World} {A : Around} {E : Value → Shared → Prop} {s : Shared}
theorem call_made {t : Addr} {items : Array Value} {Q : Value → Shared → Prop} (ht : s.heap.IsTuple t items)
    (h : ∀ h', IsEnum h' (s.heap.objs.size + 1) s.heap.objs.size 0 .none → h'.IsTupleIter s.heap.objs.size t 0 → (∀ b o, s.heap.get? b = some o → h'.get? b = some o) → Q (.ref (s.heap.objs.size + 1)) { s with heap := h' }) :
    wpAny (model prog w) A (call (.type "enumerate") [.ref t]) Q E s := by
  obtain ⟨⟨c, dct, dt, sl⟩, hl, hc, n, hd⟩ := ht
  obtain rfl : c = .type "tuple" := hc
  obtain rfl : dt = .seq items n := hd
  refine callType_new F.called_enumerate (by decide) (F.typeCall_enumerate_1 _) (F.newCall_enumerate_1 _) (fun obj => F.args_object_init_2 obj _) F.entry_enumerate_new (made t items n dct sl) ⟨hl, ?_⟩
  have one : (s.heap.push (walker t)).objs.size = s.heap.objs.size + 1 := Heap.size_push ..
  show _ ∧ _
  rw [one]
  have en : IsEnum ((s.heap.push (walker t)).push (teller s.heap.objs.size)) (s.heap.objs.size + 1) s.heap.objs.size 0 .none := by
    have := Heap.get?_push_size (s.heap.push (walker t)) (o := teller s.heap.objs.size) rfl
    rw [one] at this
    exact this
  exact ⟨⟨_, en, rfl⟩, h _ en ⟨_, Heap.get?_push_of_some _ (Heap.get?_push_size _ rfl), rfl, rfl⟩ fun b o x => Heap.get?_push_of_some _ (Heap.get?_push_of_some _ x)⟩
end
end PySem.Et
namespace Lw
open PySem PySem.Spec PyProof.Rows L2
/-- the tuple at a, each item in a new pair with its place -/
def IteT (K : PySem.W.Frag) (a : Addr) (xs : List V) : It where
  go := fun i H => SqT K H a xs ∧ i < xs.length
  yld := fun i H v H' => ∃ T x, v = .ref T ∧ H T = none ∧ H' = upd H T (.tup [.int (i : Nat), x]) ∧ xs[i]? = some x
  stop := fun i H => SqT K H a xs ∧ xs.length ≤ i
theorem turn_enumT {P : Program} {w : World} {K : PySem.W.Frag} {elts : List Expr} {kk : Nat} {tpos : Pos} (a e it : Addr) (xs : List V) (nai : a ≠ it) (nea : e ≠ a) :
    Turn P w K (.Tuple elts kk tpos) (IteT K a xs) [e, it] e (fun i h => (∃ old, IsEnum h e it ((i : Nat) : Int) old) ∧ h.IsTupleIter it a i ∧ e ≠ it ∧ i ≤ xs.length) where
  mem := List.mem_cons_self
  obj := fun i h st b hb => by
    obtain ⟨⟨old, he⟩, ⟨o, ho, hc, hd⟩, _⟩ := st
    rcases List.mem_cons.mp hb with z | z
    · rw [z]
      exact ⟨_, he, fun v q => nomatch q⟩
    · rw [List.mem_singleton.mp z]
      exact ⟨o, ho, fun v q => by rw [hd] at q; cases q⟩
  keep := fun i h h' st k => by
    obtain ⟨⟨old, he⟩, hi, hne, hle⟩ := st
    exact ⟨⟨old, k e List.mem_cons_self _ he⟩, hi.at fun o q => k it (List.mem_cons_of_mem _ (List.mem_singleton.mpr rfl)) o q, hne, hle⟩
  item := by
    intro X hP hw hK hc i pins s σ H E I hf st hg
    subst hP hw hK
    obtain ⟨⟨old, he⟩, hit, hne, _⟩ := st
    obtain ⟨hq, hlt⟩ := hg
    obtain ⟨its, rv, p, hz⟩ := I.tuple hq
    have hl := rv.length
    have tp : s.heap.IsTuple a its.toArray := p
    have D := Draws.tuple (prog := X.prog) (w := X.w) (A := X.A.in1) (I.ok.hd hc) it a nai its.toArray
    have elt : e < s.heap.objs.size := Heap.lt_size he
    have ilt : it < s.heap.objs.size := by
      obtain ⟨_, q, _⟩ := hit
      exact Heap.lt_size q
    refine wpAny_pyNext_enum_itemD D he ⟨hit, tp⟩ (by simp; omega) hne (by simp; exact ⟨hne, nea⟩) fun u h' tk hu ho hst hT hsz hk => ?_
    have hu' : its[i]? = some u := by simpa using hu
    obtain ⟨x, hx, rx⟩ : ∃ x, xs[i]? = some x ∧ RelV x u := by
      have hx : xs[i]? = some xs[i] := List.getElem?_eq_getElem hlt
      obtain ⟨u2, h2, r2⟩ := rv.get hx
      rw [hu'] at h2
      cases h2
      exact ⟨_, hx, r2⟩
    refine ⟨_, rfl, wpAny_letOwnedTupleGo_enum (s := { s with heap := h', toks := tk + 1 }) ho fun h2 he2 sb => ?_⟩
    have hT2 : h2.get? s.heap.objs.size = some { cls := .type "tuple", data := .seq #[.int i tk, u] } := (sb.2 _ (Nat.ne_of_gt elt)).trans hT
    have new : ObjOk X.prog X.w (upd H s.heap.objs.size (.tup [.int (i : Nat), x])) h2 s.heap.objs.size (.tup [.int (i : Nat), x]) :=
      ⟨by show 2 ≤ sizeLine; decide, [.int i tk, u], .cons ⟨_, rfl⟩ (.cons rx .nil), ⟨_, hT2, rfl, _, rfl⟩⟩
    have I1 : Inv X pins σ (upd H s.heap.objs.size (.tup [.int (i : Nat), x])) { s with heap := h2, toks := tk + 1 } :=
      I.turnedNew (ch := [e, it]) (fun b ob hb q => (sb.2 b (fun z => hb (by simp [z]))).trans (hk b ob (fun z => hb (by simp [z])) (fun z => hb (by simp [z])) q)) hf (Nat.le_refl _) new
    refine ⟨.ref s.heap.objs.size, _, I1, rfl, ⟨_, x, rfl, I.hok.fresh (Nat.le_refl _), rfl, hx⟩, ⟨⟨u, ?_⟩, hst.1.at fun o q => (sb.2 it (Ne.symm hne)).trans q, hne, by omega⟩, fun b hb => ?_⟩
    · have e1 : ((i + 1 : Nat) : Int) = (i : Int) + 1 := by omega
      rw [e1]
      exact he2
    · have lt : b < s.heap.objs.size := by
        rcases List.mem_cons.mp hb with z | z
        · rw [z]; exact elt
        · rw [List.mem_singleton.mp z]; exact ilt
      rw [upd_ne (Nat.ne_of_lt lt)]
      exact (hf b hb).1
  done := by
    intro X hP hw hK hc i pins s σ H E I hf st hg
    subst hP hw hK
    obtain ⟨⟨old, he⟩, hit, hne, hle⟩ := st
    obtain ⟨hq, hge⟩ := hg
    obtain ⟨its, rv, p, hz⟩ := I.tuple hq
    have hl := rv.length
    have tp : s.heap.IsTuple a its.toArray := p
    have D := Draws.tuple (prog := X.prog) (w := X.w) (A := X.A.in1) (I.ok.hd hc) it a nai its.toArray
    obtain ⟨f0, f1, f2, f3, f4, f5⟩ := hf it (List.mem_cons_of_mem _ (List.mem_singleton.mpr rfl))
    have ei : i = its.toArray.size := by simp; omega
    exact wpAny_pyNext_enum_endD D he ⟨by rw [← ei]; exact hit, tp⟩ fun h' eb => ⟨rfl, I.turned (t' := s.toks) (fun b o hb q => eb b o hb q) f0 f1 f3 f4 f5⟩
  self := fun A i s Q E st h => by
    obtain ⟨⟨_, he⟩, _⟩ := st
    exact wpAny_pyIter_enum he h
def iEnumT (K : PySem.W.Frag) (ta : TA) : TI := fun σ H R => ta σ H fun vs H1 => ∃ a xs, vs = [.ref a] ∧ SqT K H1 a xs ∧ R (IteT K a xs) H1
theorem pi_enumT {X : Cx} {e : Expr} {ta : TA} {p pos tpos : Pos} {elts : List Expr} {kk : Nat} (hg : Gl X "enumerate") (hm : X.mg "enumerate" = none) (ha : PA X [e] ta) (one : starEach [e] X.env = [(false, eval e X.env)] := by rfl) :
    PI X (.Tuple elts kk tpos) (.Call (.Name "enumerate" p) [e] [] pos) (iEnumT X.K ta) := by
  constructor
  intro pins s σ H R I h
  refine Call_ (ld_blt I hg hm boot_enumerate (PyProof.Rows.callWith_type1 (thn (ha.run pos pins s σ H _ I h) ?_) one rfl))
  rintro us s1 ⟨vs, H1, I1, r1, a, xs, rfl, hq, q⟩
  obtain ⟨u, rfl, ru⟩ := vals1 r1
  cases (show u = Value.ref a from ru)
  obtain ⟨its, rv, p', hz⟩ := I1.tuple hq
  have tp : s1.heap.IsTuple a its.toArray := p'
  have alt : a < s1.heap.objs.size := by
    obtain ⟨_, e, _⟩ := tp
    exact Heap.lt_size e
  refine PySem.Et.call_made tp fun h' he hit hk => wpAny_pyIter_enum he ?_
  have I2 : Inv X pins σ H1 { s1 with heap := h' } := I1.kept (t' := s1.toks) hk
  refine ⟨s1.heap.objs.size + 1, [s1.heap.objs.size + 1, s1.heap.objs.size], _, _, H1, rfl, I2, turn_enumT a (s1.heap.objs.size + 1) s1.heap.objs.size xs (Nat.ne_of_lt alt) (Nat.ne_of_gt (Nat.lt_succ_of_lt alt)), ⟨⟨.none, he⟩, hit, Nat.succ_ne_self _, Nat.zero_le _⟩, fun b hb => ?_, q⟩
  have le : s1.heap.objs.size ≤ b := by
    rcases List.mem_cons.mp hb with z | z
    · rw [z]; exact Nat.le_add_right _ _
    · rw [List.mem_singleton.mp z]; exact Nat.le_refl _
  exact I1.fpOk le (I1.hok.fresh le)
end Lw
set_option Elab.async false
set_option linter.all false
set_option maxRecDepth 100000
set_option maxHeartbeats 4000000
/-! states.py: first_wrong -/
namespace Lw
open PySem PySem.Spec PyProof.Rows L2
theorem pi_or {X : Cx} {tg it : Expr} {w1 w2 : TI} (a : PI X tg it w1) (b : PI X tg it w2) : PI X tg it (fun σ H R => w1 σ H R ∨ w2 σ H R) :=
  ⟨fun pins s σ H R I h => h.elim (fun h => a.run pins s σ H R I h) (fun h => b.run pins s σ H R I h)⟩
theorem pe_or2 {X : Cx} {e : Expr} {w1 w2 : TE} (a : PE X e w1) (b : PE X e w2) : PE X e (fun σ H R => w1 σ H R ∨ w2 σ H R) :=
  ⟨fun pins s σ H R I h => h.elim (fun h => a.run pins s σ H R I h) (fun h => b.run pins s σ H R I h)⟩
/-- a kind of dicts: by integers and texts, or by tuples of them -/
structure DKind (κ : Type) [DecidableEq κ] where
  ho : List (κ × V) → HO
  KR : Hp → V → κ → Prop
  mono : ∀ H H' v k, Same H H' → KR H v k → KR H' v k
  get : ∀ H a kvs y k, H a = some (ho kvs) → KR H y k → DGet H a y (valV kvs k)
  put : ∀ H a kvs y k v, H a = some (ho kvs) → KR H y k → kvs.length < sizeLine → DPut H a y v (upd H a (ho (putK kvs k v)))
  new : ∀ σ H Q, (∀ p, H p = none → Q (.ref p) (upd H p (ho []))) → tDNewK σ H Q ∨ tDNewT σ H Q
def dkK : DKind Key where
  ho := .dK
  KR := fun _ v k => v = kV k
  mono := fun _ _ _ _ _ h => h
  get := fun H a kvs y k h e => by subst e; exact DGet.k h
  put := fun H a kvs y k v h e z => by subst e; exact DPut.k h z
  new := fun _ _ _ h => .inl h
def dkT : DKind (List Key) where
  ho := .dT
  KR := fun H v k => ∃ b, v = .ref b ∧ H b = some (.tup (k.map kV))
  mono := fun _ _ _ _ s ⟨b, e, h⟩ => ⟨b, e, s _ _ h⟩
  get := fun H a kvs y k h e => by obtain ⟨b, rfl, e⟩ := e; exact DGet.t h e
  put := fun H a kvs y k v h e z => by obtain ⟨b, rfl, e⟩ := e; exact DPut.t h e z
  new := fun _ _ _ h => .inr h
theorem walk_enumT {K : PySem.W.Frag} {a : Addr} {xs : List V} : Walk (IteT K a xs) xs.length (fun H => SqT K H a xs) (YPair (fun i => some (.int (i : Nat))) (fun i => xs[i]?)) := by
  refine ⟨fun i _ hi q => ⟨q, hi⟩, fun _ q => ⟨q, Nat.le_refl _⟩, fun i H v H' _ q y => ?_⟩
  obtain ⟨T, x, h1, h2, h3, h4⟩ := y
  exact ⟨T, .int (i : Nat), x, h1, h2, h3, rfl, h4⟩
/-- enumerate over a list or a tuple -/
theorem or_enum {K : PySem.W.Frag} {i : Nat} {σ : L2.St} {H : Hp} {p : Addr} {xs : List V} {R : It → Hp → Prop} (hs : σ[i]? = some (some (.ref p))) (hp : H p = some (.lst xs) ∨ H p = some (.tup xs))
    (h : ∀ J G, Walk J xs.length G (YPair (fun i => some (.int (i : Nat))) (fun i => xs[i]?)) → (∀ H', (∀ o, H p = some o → H' p = some o) → G H') → R J H) :
    iEnum K (tCons (tVar i) tNil) σ H R ∨ iEnumT K (tCons (tVar i) tNil) σ H R := by
  rcases hp with hp | hp
  · exact .inl ⟨_, hs, p, xs, rfl, .inl (.inl hp), h _ _ (walk_enum (K := K) (a := p)) fun H' s => .inl (.inl (s _ hp))⟩
  · exact .inr ⟨_, hs, p, xs, rfl, .inl (.inl hp), h _ _ (walk_enumT (K := K) (a := p)) fun H' s => .inl (.inl (s _ hp))⟩
theorem putK_le {κ : Type} [DecidableEq κ] (c : List (κ × V)) (k : κ) (x : V) : (putK c k x).length ≤ c.length + 1 := by
  unfold putK
  split
  · rw [List.length_map]; omega
  · rw [List.length_append]; exact Nat.le_refl _
/-- not right, or there already -/
def badAt {κ : Type} [DecidableEq κ] (bs : Nat → Bool) (ks : Nat → κ) (i : Nat) : Bool := !bs i || (List.range i).any fun j => decide (ks j = ks i)
def posV : Option Nat → V
  | none => .non
  | some i => .int (i : Nat)
theorem find_some {p : Nat → Bool} {n i : Nat} (hi : i < n) (h : p i = true) (hj : ∀ j < i, p j = false) : (List.range n).find? p = some i := by
  rw [List.find?_range_eq_some]
  exact ⟨h, List.mem_range.mpr hi, fun j hji => by rw [hj j hji]; rfl⟩
theorem find_none {p : Nat → Bool} {n : Nat} (hj : ∀ j < n, p j = false) : (List.range n).find? p = none := by
  rw [List.find?_eq_none]
  intro j hm
  rw [hj j (List.mem_range.mp hm)]
  simp
abbrev sFirst : Stmt := topS 30
section
variable {P : Program} {w : World} {K : PySem.W.Frag} {mg : Str → Option Value} {base : Heap}
def spFirst : Sp := fun vs H Q _ => ∃ (κ : Type) (_ : DecidableEq κ) (D : DKind κ) (p r : Addr) (xs : List V) (bs : Nat → Bool) (ks : Nat → κ), vs = [.ref p, .ref r] ∧ (H p = some (.lst xs) ∨ H p = some (.tup xs)) ∧
  H r = some (.lst (firsts (fun i => .bl (bs i)) xs.length)) ∧ xs.length < 100000 ∧ (∀ i x, xs[i]? = some x → bs i = true → D.KR H x (ks i)) ∧
  ∀ H', Same H H' → Q (posV ((List.range xs.length).find? (badAt bs ks))) H'
theorem scFirst : FnScope ["values", "rights", "seen", "position", "value"] ["values", "rights"] (defScope sFirst) := ⟨rfl, rfl, rfl, by decide +kernel, rfl, by decide +kernel, by decide +kernel⟩
theorem ok_first {f : Addr} {fd : FuncData} (F : Fun K "first_wrong" "first_wrong" sFirst f fd) (en : mg "enumerate" = none) : FnOk P w K mg base CX0 1 f fd ["values", "rights"] spFirst := by
  refine F.ok scFirst (fun vs H Q E h => ?_) (fun cdv A outer s H vs Q E hr h => ?_)
  · obtain ⟨κ, _, D, p, r, xs, bs, ks, rfl, _⟩ := h
    rfl
  · obtain ⟨κ, dec, D, p, r, xs, bs, ks, rfl, hp, hb, hn, hk, q⟩ := h
    have hu := hu_of hr
    refine ⟨_, pss_cons (ps_set (i := 2) scFirst.nd rfl (.inl rfl) (pe_or2 pe_dnewK pe_dnewT))
      (pss_cons (ps_for PassesOwn.never rfl (pi_or (pi_enum (by rfl) en (by exact (pa_cons (pv 0) pa_nil))) (pi_enumT (by rfl) en (by exact (pa_cons (pv 0) pa_nil))))
        (pg_tup (by rfl) (pgs_cons (pg_name (i := 3) scFirst.nd rfl (.inl rfl)) (pgs_cons (pg_name (i := 4) scFirst.nd rfl (.inl rfl)) pgs_nil)))
        (pss_cons (ps_if (PW.pt (pw_or (pt_not (pt_val (pe_ix ix_list (pv 1) (pv 3) (fun _ _ => rfl)))) (pw_or1 (pt_cmp (pc_din hu (pv 4) (pv 2)))))) (pss_one (ps_ret (pv 3))) pss_nil)
          (pss_one (ps_dput hu (pv 2) (pv 4) pe_bl rfl))))
      (pss_one (ps_ret pe_non))), ?_⟩
    refine D.new _ _ _ fun s hs => ?_
    have nps : p ≠ s := by
      rcases hp with hp | hp
      · exact ne_of_none hp hs
      · exact ne_of_none hp hs
    have hp1 : ∀ o, upd H s (D.ho []) p = some o → H p = some o := fun o e => by rw [upd_ne nps] at e; exact e
    refine or_enum (i := 0) rfl (by rw [upd_ne nps]; exact hp) fun J G w hG => ?_
    refine for_it w (fun i σ H' => ∃ kvs u3 u4, σ = [some (V.ref p), some (V.ref r), some (V.ref s), u3, u4] ∧ Same H H' ∧ H' s = some (D.ho kvs) ∧ kvs.length ≤ i ∧ (∀ k, (valV kvs k).isSome = true ↔ ∃ j, j < i ∧ ks j = k) ∧ ∀ j, j < i → badAt bs ks j = false)
      ⟨[], none, none, rfl, Same.new' (Same.refl H) hs, upd_same, Nat.le_refl _, fun k => ⟨fun c => (by cases c), fun ⟨j, c, _⟩ => absurd c (Nat.not_lt_zero _)⟩, fun j c => absurd c (Nat.not_lt_zero _)⟩
      (fun i σ H' hi y => ?_) (fun i x σ Ha Hb hi y z => ?_) (fun σ H' y => ?_)
    · obtain ⟨kvs, u3, u4, _, sm, _⟩ := y
      exact hG H' fun o e => sm _ _ (hp1 o e)
    · obtain ⟨kvs, u3, u4, rfl, sm, hs', hl, hv, hj⟩ := y
      obtain ⟨T, x1, x2, rfl, hT, rfl, e1, hx⟩ := z
      cases e1
      refine ⟨T, _, rfl, .inl (.inl upd_same), rfl, _, _, rfl, _, _, rfl, rfl, ?_⟩
      have sT : Same Ha (upd Ha T (.tup [.int (i : Nat), x2])) := Same.new' (Same.refl Ha) hT
      have s2 := sm.trans sT
      have hb' : (firsts (fun i => V.bl (bs i)) xs.length)[i]? = some (V.bl (bs i)) := by
        unfold firsts
        rw [List.getElem?_map, List.getElem?_range hi]
        rfl
      refine ⟨_, rfl, _, rfl, r, _, _, _, rfl, rfl, .inl (.inl (s2 _ _ hb)), atI_nat hb', _, rfl, ?_⟩
      cases eb : bs i with
      | false =>
        refine iteT (iteT ⟨_, rfl, ?_⟩)
        have bad : badAt bs ks i = true := by
          unfold badAt
          rw [eb]
          rfl
        have := q _ s2
        rw [find_some hi bad hj] at this
        exact this
      | true =>
        have kr := D.mono _ _ _ _ s2 (hk i x2 hx eb)
        have hs2 := sT _ _ hs'
        refine iteF ⟨_, rfl, _, rfl, s, _, rfl, D.get _ _ _ _ _ hs2 kr, _, rfl, ?_⟩
        cases ev : (valV kvs (ks i)).isSome with
        | true =>
          refine iteT ⟨_, rfl, ?_⟩
          obtain ⟨j, h1, h2⟩ := (hv _).mp ev
          have bad : badAt bs ks i = true := by
            unfold badAt
            rw [List.any_eq_true.mpr ⟨j, List.mem_range.mpr h1, decide_eq_true h2⟩, Bool.or_true]
          have := q _ s2
          rw [find_some hi bad hj] at this
          exact this
        | false =>
          refine iteF ⟨_, rfl, _, rfl, s, _, rfl, D.put _ _ _ _ _ _ hs2 kr (Nat.lt_of_le_of_lt hl (Nat.lt_of_lt_of_le (show i < 100000 by omega) (by decide))), ?_⟩
          refine ⟨_, _, _, rfl, Same.mut' s2 hs, upd_same, Nat.le_trans (putK_le _ _ _) (by omega), fun k => ?_, fun j hj' => ?_⟩
          · rw [valV_put]
            by_cases ek : k = ks i
            · rw [if_pos ek]
              exact ⟨fun _ => ⟨i, Nat.lt_succ_self i, ek.symm⟩, fun _ => rfl⟩
            · rw [if_neg ek, hv]
              exact ⟨fun ⟨j, h1, h2⟩ => ⟨j, Nat.lt_succ_of_lt h1, h2⟩, fun ⟨j, h1, h2⟩ => ⟨j, by
                rcases Nat.lt_or_eq_of_le (Nat.le_of_lt_succ h1) with h | h
                · exact h
                · subst h; exact absurd h2.symm ek, h2⟩⟩
          · rcases Nat.lt_or_eq_of_le (Nat.le_of_lt_succ hj') with h | h
            · exact hj j h
            · subst h
              unfold badAt
              rw [eb]
              show (false || _) = false
              rw [Bool.false_or, List.any_eq_false]
              intro m hm c
              have := (hv (ks j)).mpr ⟨m, List.mem_range.mp hm, of_decide_eq_true c⟩
              rw [ev] at this
              cases this
    · obtain ⟨kvs, u3, u4, rfl, sm, _, _, _, hj⟩ := y
      have := q _ sm
      rw [find_none hj] at this
      exact this
end
end Lw
set_option Elab.async false
set_option linter.all false
set_option maxRecDepth 100000
set_option maxHeartbeats 4000000
/-! states.py: wrong_state_at -/
namespace Lw
open PySem PySem.Spec PyProof.Rows L2
theorem paired_get {α β : Type} {R : α → β → Prop} : ∀ {xs : List α} {ys : List β} {i : Nat} {x : α}, Paired R xs ys → xs[i]? = some x → ∃ y, ys[i]? = some y ∧ R x y
  | _, _, _, _, .nil, e => by simp at e
  | _, _, 0, _, .cons r _, e => by simp at e; subst e; exact ⟨_, rfl, r⟩
  | _, _, i + 1, x, .cons _ t, e => by
    obtain ⟨u, h1, h2⟩ := paired_get (i := i) (x := x) t (by simpa using e)
    exact ⟨u, by simpa using h1, h2⟩
theorem Dat.same {p : Addr} {H H' : Hp} (s : Same H H') (n : Nat) {v : V} {z : PyData} (d : Dat p H n v z) : Dat p H' n v z := Dat.but (fun b o _ e => s b o e) n d
/-- a for over a list or a tuple -/
theorem or_seq {K : PySem.W.Frag} {i : Nat} {σ : L2.St} {H : Hp} {p : Addr} {xs : List V} {R : It → Hp → Prop} (hs : σ[i]? = some (some (.ref p))) (hp : H p = some (.lst xs) ∨ H p = some (.tup xs))
    (h : ∀ J G, Walk J xs.length G (YAt xs) → (∀ H', (∀ o, H p = some o → H' p = some o) → G H') → R J H) :
    iList K (tVar i) σ H R ∨ iTup K (tVar i) σ H R := by
  rcases hp with hp | hp
  · exact .inl ⟨_, hs, p, rfl, ⟨xs, .inl (.inl hp)⟩, h _ _ (walk_list (K := K) (a := p)) fun H' s => .inl (.inl (s _ hp))⟩
  · exact .inr ⟨_, hs, p, rfl, ⟨xs, .inl (.inl hp)⟩, h _ _ (walk_tup (K := K) (a := p)) fun H' s => .inl (.inl (s _ hp))⟩
def keyOf : PyData → Key
  | .int i => .inl i
  | _ => .inl 0
/-- the place of the first that is no state or stands there already -/
def wrongSt (n : Int) (zs : List PyData) : Option Nat := (List.range zs.length).find? (badAt (fun i => stateP n (zs.getD i .none)) (fun i => keyOf (zs.getD i .none)))
theorem stateP_int {n : Int} {z : PyData} (h : stateP n z = true) : ∃ i, z = .int i ∧ 0 ≤ i ∧ i < n := by
  cases z with
  | int i =>
    have h' : (decide (0 ≤ i) && decide (i < n)) = true := h
    rw [Bool.and_eq_true] at h'
    exact ⟨i, rfl, of_decide_eq_true h'.1, of_decide_eq_true h'.2⟩
  | _ => cases h
abbrev sWrongSt : Stmt := topS 31
section
variable {P : Program} {w : World} {K : PySem.W.Frag} {mg : Str → Option Value} {base : Heap}
def spWrongSt : Sp := fun vs H Q _ => ∃ (n : Int) (p : Addr) (xs : List V) (pp : Addr) (k : Nat) (zs : List PyData), vs = [.int n, .ref p] ∧ (H p = some (.lst xs) ∨ H p = some (.tup xs)) ∧ Paired (Dat pp H k) xs zs ∧ xs.length < 100000 ∧
  ∀ H', Same H H' → Q (posV (wrongSt n zs)) H'
theorem scWrongSt : FnScope ["size", "values", "value"] ["size", "values"] (defScope sWrongSt) := ⟨rfl, rfl, rfl, by decide +kernel, rfl, by decide +kernel, by decide +kernel⟩
theorem ok_wrongst {f : Addr} {fd : FuncData} (F : Fun K "wrong_state_at" "wrong_state_at" sWrongSt f fd) (D1 : Def P w K mg base 2 "is_state" ["size", "value"] spIsState) (D2 : Def P w K mg base 1 "first_wrong" ["values", "rights"] spFirst) :
    FnOk P w K mg base CX0 3 f fd ["size", "values"] spWrongSt := by
  obtain ⟨f1, fd1, G1, g1, k1, b1⟩ := D1.ex
  obtain ⟨f2, fd2, G2, g2, k2, b2⟩ := D2.ex
  refine F.ok scWrongSt (fun vs H Q E h => ?_) (fun cdv A outer s H vs Q E hr h => ?_)
  · obtain ⟨n, p, xs, pp, k, zs, rfl, _⟩ := h
    rfl
  · obtain ⟨n, p, xs, pp, k, zs, rfl, hp, hx, hn, q⟩ := h
    refine ⟨_, pss_one (ps_ret (pe_call G2 (hr.mono (by decide)) rfl g2 k2 b2 .nil pass0 (by exact (pa_cons (pv 1) (pa_cons
      (pe_lc (own := [("value", 2)]) (g := gName 2) (tt := tYes) (te := tCall spIsState [] E0 (tCons (tVar 0) (tCons (tVar 2) tNil))) (by rfl) scWrongSt.nd (pi_or (pi_list (pv 1)) (pi_tup (pv 1)))
        (blkOk_by (own := [("value", 2)]) (N := ["size", "values", "value"]) (sc := defScope sWrongSt) (by decide +kernel)) (fun _ _ _ _ _ => by exact (pg_name (i := 2) scWrongSt.nd rfl (Or.inl rfl))) (fun _ _ _ _ _ => pts_nil)
        (fun _ _ _ _ _ => by exact (pe_call G1 hr (by rfl) g1 k1 b1 .nil pass0 (pa_cons (pv 0) (pa_cons (pv 2) pa_nil))))) pa_nil))))), ?_⟩
    refine ⟨_, rfl, ?_⟩
    refine or_seq (i := 1) rfl hp fun J G w hG => ?_
    intro D hD
    have el := Paired.len hx
    refine lc_map w (fun i => .bl (stateP n (zs.getD i .none))) hD hn (fun H' s => hG H' fun o e => s _ _ e) (fun i x Ha Hb C Z hi sm y k' => ?_) (fun H' sm hD' => ?_)
    · obtain ⟨rfl, ex⟩ := y
      obtain ⟨z, ez, dz⟩ := paired_get hx ex
      have eg : zs.getD i .none = z := by
        rw [List.getD_eq_getElem?_getD, ez]
        rfl
      refine ⟨rfl, _, rfl, _, rfl, n, x, pp, k, z, rfl, Dat.same sm k dz, ?_⟩
      have := k' Hb (Same.refl Hb)
      rw [eg] at this
      exact this
    · refine ⟨Key, inferInstance, dkK, p, D, xs, (fun i => stateP n (zs.getD i .none)), (fun i => keyOf (zs.getD i .none)), rfl, ?_, hD', hn, fun i x ex eb => ?_, fun H2 s2 => ?_⟩
      · exact hp.imp (fun e => sm _ _ e) (fun e => sm _ _ e)
      · obtain ⟨z, ez, dz⟩ := paired_get hx ex
        have eg : zs.getD i .none = z := by
          rw [List.getD_eq_getElem?_getD, ez]
          rfl
        have eb' : stateP n z = true := by
          rw [← eg]
          exact eb
        obtain ⟨j, rfl, _⟩ := stateP_int eb'
        show x = kV (keyOf (zs.getD i .none))
        rw [eg]
        rcases dz.num n with ⟨j', e1, e2⟩ | ⟨_, e2⟩
        · cases e2
          exact e1
        · rw [eb'] at e2
          cases e2
      · have := q H2 (sm.trans s2)
        unfold wrongSt at this
        rw [← el] at this
        exact this
end
end Lw
set_option Elab.async false
set_option linter.all false
set_option maxRecDepth 100000
set_option maxHeartbeats 4000000
/-! values.py: is_list; states.py: check_set, check_states -/
namespace Lw
open PySem PySem.Spec PyProof.Rows L2
theorem kit_lt {K : PySem.W.Frag} {n : String} {b1 b2 : Bool} (h1 : kitB n "list" = some b1) (h2 : kitB n "tuple" = some b2) : PySem.W.kitAny K (.type n) [.type "list", .type "tuple"] = some (b1 || b2) :=
  kitAny_cons (kit_ty h1) (fun e => by
    subst e
    exact kitAny_cons (kit_ty h2) (fun e => by subst e; exact kitAny_nil) (fun e => by subst e; rfl)) (fun e => by subst e; rfl)
theorem Dat.isSeq {K : PySem.W.Frag} {p : Addr} {H : Hp} {k : Nat} {v : V} {z : PyData} (d : Dat p H k v z) : ∃ t : Value, TyX K H v t ∧ PySem.W.kitAny K t [.type "list", .type "tuple"] = some (seqP z) := by
  have flat : ∀ {v z}, Flat v z → ∃ t : Value, TyX K H v t ∧ PySem.W.kitAny K t [.type "list", .type "tuple"] = some (seqP z) := fun {v z} f => by
    cases f with
    | non => exact ⟨_, .base .non, (kit_lt (n := "NoneType") (b1 := false) (b2 := false) (by decide +kernel) (by decide +kernel) : _ = some false)⟩
    | bl b => exact ⟨_, .base (.bl b), (kit_lt (n := "bool") (b1 := false) (b2 := false) (by decide +kernel) (by decide +kernel) : _ = some false)⟩
    | int i => exact ⟨_, .base (.int i), (kit_lt (n := "int") (b1 := false) (b2 := false) (by decide +kernel) (by decide +kernel) : _ = some false)⟩
    | str s => exact ⟨_, .base (.str s), (kit_lt (n := "str") (b1 := false) (b2 := false) (by decide +kernel) (by decide +kernel) : _ = some false)⟩
  cases k with
  | zero => exact flat d
  | succ k =>
    rcases d with f | ⟨a, xs, zs, rfl, rfl, e, _⟩ | ⟨a, xs, zs, rfl, rfl, e, _⟩ | ⟨a, kvs, rfl, rfl, e, _⟩
    · exact flat f
    · exact ⟨_, .base (.lst e), (kit_lt (n := "list") (b1 := true) (b2 := false) (by decide +kernel) (by decide +kernel) : _ = some true)⟩
    · exact ⟨_, .base (.tup e), (kit_lt (n := "tuple") (b1 := false) (b2 := true) (by decide +kernel) (by decide +kernel) : _ = some true)⟩
    · exact ⟨_, .base (.dK e), (kit_lt (n := "dict") (b1 := false) (b2 := false) (by decide +kernel) (by decide +kernel) : _ = some false)⟩
section
variable {P : Program} {w : World} {K : PySem.W.Frag} {mg : Str → Option Value} {base : Heap}
def spIsList : Sp := fun vs H Q _ => ∃ (v : V) (p : Addr) (k : Nat) (z : PyData), vs = [v] ∧ Dat p H k v z ∧ ∀ H', Same H H' → Q (.bl (seqP z)) H'
theorem scIsList : FnScope ["value"] ["value"] (defScope sIsList) := ⟨rfl, rfl, rfl, by decide +kernel, rfl, by decide +kernel, by decide +kernel⟩
theorem ok_islist {f : Addr} {fd : FuncData} (F : Fun K "is_list" "is_list" sIsList f fd) (B : Bl mg) (tn : mg "tuple" = none) : FnOk P w K mg base CX0 1 f fd ["value"] spIsList := by
  refine F.ok scIsList (fun vs H Q E h => ?_) (fun cdv A outer s H vs Q E hr h => ?_)
  · obtain ⟨v, p, k, z, rfl, _⟩ := h
    rfl
  · obtain ⟨v, p, k, z, rfl, d, q⟩ := h
    refine ⟨_, pss_one (ps_ret (pe_callB call_isiT (by rfl) B.isinstance (by decide +kernel) (by exact (pa_cons (pv 0) (pa_cons (pe_tup (pa_cons (pe_bltn (v := .ty "list") (by rfl) B.list (by decide +kernel) rfl) (pa_cons (pe_bltn (v := .ty "tuple") (by rfl) tn (by decide +kernel) rfl) pa_nil))) pa_nil))))), ?_⟩
    refine ⟨_, rfl, ?_⟩
    refine ⟨by show 2 ≤ sizeLine; decide, fun T hT => ?_⟩
    have sT : Same H (upd H T (.tup [.ty "list", .ty "tuple"])) := Same.new' (Same.refl H) hT
    obtain ⟨t, ht, e⟩ := (Dat.same sT k d).isSeq (K := K)
    exact ⟨v, T, _, t, _, _, rfl, upd_same, .cons (.ty _) (.cons (.ty _) .nil), ht, e, q _ sT⟩
def partsOf : PyData → List PyData
  | .list zs => zs
  | .tuple zs => zs
  | _ => []
def setP (n : Int) (z : PyData) : Bool := seqP z && (wrongSt n (partsOf z)).isNone
theorem Dat.seq {p : Addr} {H : Hp} {k : Nat} {v : V} {z : PyData} (d : Dat p H k v z) (h : seqP z = true) : ∃ (j : Nat) (a : Addr) (xs : List V), v = .ref a ∧ (H a = some (.lst xs) ∨ H a = some (.tup xs)) ∧ Paired (Dat p H j) xs (partsOf z) := by
  have flat : ∀ {v z}, Flat v z → seqP z = true → False := fun {v z} f h => by
    cases f <;> cases h
  cases k with
  | zero => exact (flat d h).elim
  | succ k =>
    rcases d with f | ⟨a, xs, zs, rfl, rfl, e, _, q⟩ | ⟨a, xs, zs, rfl, rfl, e, _, q⟩ | ⟨a, kvs, rfl, rfl, e, _⟩
    · exact (flat f h).elim
    · exact ⟨k, a, xs, rfl, .inl e, q⟩
    · exact ⟨k, a, xs, rfl, .inr e, q⟩
    · cases h
abbrev sIsSet : Stmt := topS 32
abbrev sChkSet : Stmt := topS 33
def spIsSet : Sp := fun vs H Q _ => ∃ (n : Int) (v : V) (p : Addr) (k : Nat) (z : PyData), vs = [.int n, v] ∧ Dat p H k v z ∧ (partsOf z).length < 100000 ∧ ∀ H', Same H H' → Q (.bl (setP n z)) H'
theorem scIsSet : FnScope ["size", "value"] ["size", "value"] (defScope sIsSet) := ⟨rfl, rfl, rfl, by decide +kernel, rfl, by decide +kernel, by decide +kernel⟩
theorem ok_isset {f : Addr} {fd : FuncData} (F : Fun K "is_set" "is_set" sIsSet f fd)
    (D1 : Def P w K mg base 1 "is_list" ["value"] spIsList) (D2 : Def P w K mg base 3 "wrong_state_at" ["size", "values"] spWrongSt) : FnOk P w K mg base CX0 4 f fd ["size", "value"] spIsSet := by
  obtain ⟨f1, fd1, G1, g1, k1, b1⟩ := D1.ex
  obtain ⟨f2, fd2, G2, g2, k2, b2⟩ := D2.ex
  refine F.ok scIsSet (fun vs H Q E h => ?_) (fun cdv A outer s H vs Q E hr h => ?_)
  · obtain ⟨n, v, p, k, z, rfl, _⟩ := h
    rfl
  · obtain ⟨n, v, p, k, z, rfl, d, hz, q⟩ := h
    refine ⟨_, pss_one (ps_ret (pe_and (pe_call G1 (hr.mono (by decide)) rfl g1 k1 b1 .nil pass0 (by exact (pa_cons (pv 1) pa_nil)))
        (pe_one (pe_cmp (pc_isN (pe_call G2 hr rfl g2 k2 b2 .nil pass0 (by exact (pa_cons (pv 0) (pa_cons (pv 1) pa_nil))))))))), ?_⟩
    refine ⟨_, rfl, v, p, k, z, rfl, d, fun H1 s1 => ⟨_, rfl, ?_⟩⟩
    cases e : seqP z with
    | false =>
      have e2 : setP n z = false := by unfold setP; rw [e]; rfl
      rw [e2] at q
      exact iteF (q _ s1)
    | true =>
      obtain ⟨j, a, xs, rfl, ha, hx⟩ := d.seq e
      have hx1 : Paired (Dat p H1 j) xs (partsOf z) := Paired.imp2 (fun _ _ d => Dat.same s1 j d) hx
      refine iteT ⟨_, rfl, _, rfl, n, a, xs, p, j, partsOf z, rfl, ha.imp (fun e => s1 _ _ e) (fun e => s1 _ _ e), hx1, by rw [Paired.len hx]; exact hz, fun H2 s2 => ?_⟩
      have s3 := s1.trans s2
      have e2 : setP n z = (wrongSt n (partsOf z)).isNone := by unfold setP; rw [e]; rfl
      rw [e2] at q
      cases ew : wrongSt n (partsOf z) with
      | none =>
        rw [ew] at q
        exact q H2 s3
      | some i =>
        rw [ew] at q
        exact q H2 s3
def spChkSet (C : Addr) : Sp := fun vs H Q E => ∃ (n : Int) (v : V) (p : Addr) (k : Nat) (z : PyData), vs = [.int n, v] ∧ Dat p H k v z ∧ (partsOf z).length < 100000 ∧
  (setP n z = true → ∀ H', Same H H' → Q .non H') ∧ (setP n z = false → Err E H C v)
theorem scChkSet : FnScope ["size", "some"] ["size", "some"] (defScope sChkSet) := ⟨rfl, rfl, rfl, by decide +kernel, rfl, by decide +kernel, by decide +kernel⟩
theorem ok_chkset {f C : Addr} {fd : FuncData} (F : Fun K "check_set" "check_set" sChkSet f fd) (XL : Xc P w K mg base "InvalidSet" C veB "ValueError.__new__" ["self", "value"] (spEx1 C "value"))
    (D : Def P w K mg base 4 "is_set" ["size", "value"] spIsSet) : FnOk P w K mg base (L2.CX P w) 5 f fd ["size", "some"] (spChkSet C) := by
  obtain ⟨f1, fd1, G1, g1, k1, b1⟩ := D.ex
  obtain ⟨fI, fdI, iC, tI, F1, bI⟩ := XL.ex
  refine F.okX scChkSet (fun vs H Q E h => ?_) (fun cdv A outer s H vs Q E hr h => ?_)
  · obtain ⟨n, v, p, k, z, rfl, _⟩ := h
    rfl
  · obtain ⟨n, v, p, k, z, rfl, d, hz, q1, q2⟩ := h
    refine ⟨_, pss_one (ps_if (pt_not (pt_val (pe_call G1 hr rfl g1 k1 b1 .nil pass0 (by exact (pa_cons (pv 0) (pa_cons (pv 1) pa_nil))))))
      (pss_one (ps_raise rfl (takes_of rfl rfl rfl rfl) (pmk_x PySem.F.excBase_ValueError XL.T iC tI F1 (hr.mono (by decide)) bI pass0 rfl XL.gC (pa_cons (pv 1) pa_nil)))) pss_nil), ?_⟩
    refine ⟨_, rfl, _, rfl, n, v, p, k, z, rfl, d, hz, fun H1 s1 => ⟨_, rfl, ?_⟩⟩
    cases e : setP n z with
    | true => exact iteF (q1 e H1 s1)
    | false => exact iteT ⟨_, rfl, mk1 fun d' H' hd sm hx => q2 e d' H' (s1.free hd) (s1.trans sm) hx⟩
end
end Lw
set_option Elab.async false
set_option linter.all false
set_option maxRecDepth 100000
set_option maxHeartbeats 4000000
/-! states.py: check_states, check_steps -/
namespace Lw
open PySem PySem.Spec PyProof.Rows L2
/-- the way out by an error of the class C that keeps v as its f -/
def ErrF (E : XK) (H : Hp) (C : Addr) (f : Str) (v : V) : Prop := ∀ d H', H d = none → Same H H' → H' d = some (.xd [(f, v)]) → E (.ref C) (some d) H'
abbrev sChkStates : Stmt := topS 34
abbrev sChkSteps : Stmt := topS 36
def keysOf : PyData → List Key
  | .tuple [.int a, .str l, .int b] => [.inl a, .inr l, .inl b]
  | _ => []
/-- the place of the first that is no step or stands there already -/
def wrongStep (L : Str) (n : Int) (zs : List PyData) : Option Nat := (List.range zs.length).find? (badAt (fun i => stepP L n (zs.getD i .none)) (fun i => keysOf (zs.getD i .none)))
theorem letterP_str {L : Str} {z : PyData} (h : letterP L z = true) : ∃ s, z = .str s := by
  cases z with
  | str s => exact ⟨s, rfl⟩
  | _ => cases h
theorem stepP_tup {L : Str} {n : Int} {z : PyData} (h : stepP L n z = true) : ∃ (a b : Int) (l : Str), z = .tuple [.int a, .str l, .int b] := by
  match z, h with
  | .tuple [x, y, u], h =>
    have h' : (stateP n x && letterP L y && stateP n u) = true := h
    rw [Bool.and_eq_true, Bool.and_eq_true] at h'
    obtain ⟨⟨h1, h2⟩, h3⟩ := h'
    obtain ⟨a, rfl, _⟩ := stateP_int h1
    obtain ⟨b, rfl, _⟩ := stateP_int h3
    obtain ⟨l, rfl⟩ := letterP_str h2
    exact ⟨a, b, l, rfl⟩
theorem Dat.int {p : Addr} {H : Hp} {k : Nat} {v : V} {i : Int} (d : Dat p H k v (.int i)) : v = .int i := by
  cases k with
  | zero => cases d; rfl
  | succ k =>
    rcases d with f | ⟨a, xs, zs, rfl, e, _⟩ | ⟨a, xs, zs, rfl, e, _⟩ | ⟨a, kvs, rfl, e, _⟩
    · cases f; rfl
    · cases e
    · cases e
    · cases e
theorem Dat.str {p : Addr} {H : Hp} {k : Nat} {v : V} {s : Str} (d : Dat p H k v (.str s)) : v = .str s := by
  cases k with
  | zero => cases d; rfl
  | succ k =>
    rcases d with f | ⟨a, xs, zs, rfl, e, _⟩ | ⟨a, xs, zs, rfl, e, _⟩ | ⟨a, kvs, rfl, e, _⟩
    · cases f; rfl
    · cases e
    · cases e
    · cases e
theorem Dat.step {p : Addr} {H : Hp} {k : Nat} {v : V} {L : Str} {n : Int} {z : PyData} (d : Dat p H k v z) (h : stepP L n z = true) : dkT.KR H v (keysOf z) := by
  obtain ⟨a, b, l, rfl⟩ := stepP_tup h
  obtain ⟨j, q, xs, rfl, e, hx⟩ := d.tup
  match xs, hx with
  | [x1, x2, x3], .cons r1 (.cons r2 (.cons r3 .nil)) =>
    have e1 := r1.int
    have e2 := r2.str
    have e3 := r3.int
    subst e1 e2 e3
    exact ⟨q, rfl, e⟩
theorem getD_of {zs : List PyData} {i : Nat} {z : PyData} (e : zs[i]? = some z) : zs.getD i .none = z := by
  rw [List.getD_eq_getElem?_getD, e]
  rfl
section
variable {P : Program} {w : World} {K : PySem.W.Frag} {mg : Str → Option Value} {base : Heap}
def spChkStates (C : Addr) : Sp := fun vs H Q E => ∃ (n : Int) (v : V) (p : Addr) (k : Nat) (z : PyData), vs = [.int n, v] ∧ Dat p H k v z ∧ (partsOf z).length < 100000 ∧
  (seqP z = false → ErrF E H C "position" .non) ∧ (seqP z = true → wrongSt n (partsOf z) = none → ∀ H', Same H H' → Q .non H') ∧ (∀ i, seqP z = true → wrongSt n (partsOf z) = some i → ErrF E H C "position" (.int (i : Nat)))
theorem scChkStates : FnScope ["size", "values", "position"] ["size", "values"] (defScope sChkStates) := ⟨rfl, rfl, rfl, by decide +kernel, rfl, by decide +kernel, by decide +kernel⟩
theorem ok_chkstates {f C : Addr} {fd : FuncData} (F : Fun K "check_states" "check_states" sChkStates f fd) (XL : Xc P w K mg base "InvalidStates" C veB "ValueError.__new__" ["self", "position"] (spEx1 C "position"))
    (D1 : Def P w K mg base 1 "is_list" ["value"] spIsList) (D2 : Def P w K mg base 3 "wrong_state_at" ["size", "values"] spWrongSt) : FnOk P w K mg base (L2.CX P w) 4 f fd ["size", "values"] (spChkStates C) := by
  obtain ⟨f1, fd1, G1, g1, k1, b1⟩ := D1.ex
  obtain ⟨f2, fd2, G2, g2, k2, b2⟩ := D2.ex
  obtain ⟨fI, fdI, iC, tI, F1, bI⟩ := XL.ex
  refine F.okX scChkStates (fun vs H Q E h => ?_) (fun cdv A outer s H vs Q E hr h => ?_)
  · obtain ⟨n, v, p, k, z, rfl, _⟩ := h
    rfl
  · obtain ⟨n, v, p, k, z, rfl, d, hz, q1, q2, q3⟩ := h
    refine ⟨_, pss_cons (ps_if (pt_not (pt_val (pe_call G1 (hr.mono (by decide)) rfl g1 k1 b1 .nil pass0 (by exact (pa_cons (pv 1) pa_nil)))))
        (pss_one (ps_raise rfl (takes_of rfl rfl rfl rfl) (pmk_x PySem.F.excBase_ValueError XL.T iC tI F1 (hr.mono (by decide)) bI pass0 rfl XL.gC (pa_cons pe_non pa_nil)))) pss_nil)
      (pss_cons (ps_set (i := 2) scChkStates.nd rfl (.inl rfl) (pe_call G2 hr rfl g2 k2 b2 .nil pass0 (by exact (pa_cons (pv 0) (pa_cons (pv 1) pa_nil)))))
      (pss_one (ps_if (pt_cmp (pc_notN (pv 2)))
        (pss_one (ps_raise rfl (takes_of rfl rfl rfl rfl) (pmk_x PySem.F.excBase_ValueError XL.T iC tI F1 (hr.mono (by decide)) bI pass0 rfl XL.gC (pa_cons (pv 2) pa_nil)))) pss_nil))), ?_⟩
    refine ⟨_, rfl, v, p, k, z, rfl, d, fun H1 s1 => ⟨_, rfl, ?_⟩⟩
    cases e : seqP z with
    | false => exact iteT (mk1 fun d' H' hd sm hx => q1 e d' H' (s1.free hd) (s1.trans sm) hx)
    | true =>
      obtain ⟨j, a, xs, rfl, ha, hx⟩ := d.seq e
      have hx1 : Paired (Dat p H1 j) xs (partsOf z) := Paired.imp2 (fun _ _ d => Dat.same s1 j d) hx
      refine iteF ⟨_, rfl, _, rfl, n, a, xs, p, j, partsOf z, rfl, ha.imp (fun e => s1 _ _ e) (fun e => s1 _ _ e), hx1, by rw [Paired.len hx]; exact hz, fun H2 s2 => ?_⟩
      refine ⟨_, rfl, _, rfl, ?_⟩
      have s3 := s1.trans s2
      cases ew : wrongSt n (partsOf z) with
      | none => exact iteF (q2 e ew H2 s3)
      | some i => exact iteT ⟨_, rfl, mk1 fun d' H' hd sm hx => q3 i e ew d' H' (s3.free hd) (s3.trans sm) hx⟩
def spChkSteps (C : Addr) : Sp := fun vs H Q E => ∃ (L : Str) (n : Int) (v : V) (p : Addr) (k : Nat) (z : PyData), vs = [.str L, .int n, v] ∧ Dat p H k v z ∧ (partsOf z).length < 100000 ∧ (∀ y ∈ partsOf z, short1 y = true) ∧
  (seqP z = false → ErrF E H C "position" .non) ∧ (seqP z = true → wrongStep L n (partsOf z) = none → ∀ H', Same H H' → Q .non H') ∧ (∀ i, seqP z = true → wrongStep L n (partsOf z) = some i → ErrF E H C "position" (.int (i : Nat)))
theorem scChkSteps : FnScope ["letters", "size", "values", "position", "value"] ["letters", "size", "values"] (defScope sChkSteps) := ⟨rfl, rfl, rfl, by decide +kernel, rfl, by decide +kernel, by decide +kernel⟩
theorem ok_chksteps {f C : Addr} {fd : FuncData} (F : Fun K "check_steps" "check_steps" sChkSteps f fd) (XL : Xc P w K mg base "InvalidSteps" C veB "ValueError.__new__" ["self", "position"] (spEx1 C "position"))
    (D1 : Def P w K mg base 1 "is_list" ["value"] spIsList) (D2 : Def P w K mg base 1 "first_wrong" ["values", "rights"] spFirst) (D3 : Def P w K mg base 3 "is_step" ["letters", "size", "value"] spIsStep) : FnOk P w K mg base (L2.CX P w) 4 f fd ["letters", "size", "values"] (spChkSteps C) := by
  obtain ⟨f1, fd1, G1, g1, k1, b1⟩ := D1.ex
  obtain ⟨f2, fd2, G2, g2, k2, b2⟩ := D2.ex
  obtain ⟨f3, fd3, G3, g3, k3, b3⟩ := D3.ex
  obtain ⟨fI, fdI, iC, tI, F1, bI⟩ := XL.ex
  refine F.okX scChkSteps (fun vs H Q E h => ?_) (fun cdv A outer s H vs Q E hr h => ?_)
  · obtain ⟨L, n, v, p, k, z, rfl, _⟩ := h
    rfl
  · obtain ⟨L, n, v, p, k, z, rfl, d, hz, hsh, q1, q2, q3⟩ := h
    refine ⟨_, pss_cons (ps_if (pt_not (pt_val (pe_call G1 (hr.mono (by decide)) rfl g1 k1 b1 .nil pass0 (by exact (pa_cons (pv 2) pa_nil)))))
        (pss_one (ps_raise rfl (takes_of rfl rfl rfl rfl) (pmk_x PySem.F.excBase_ValueError XL.T iC tI F1 (hr.mono (by decide)) bI pass0 rfl XL.gC (pa_cons pe_non pa_nil)))) pss_nil)
      (pss_cons (ps_set (i := 3) scChkSteps.nd rfl (.inl rfl) (pe_call G2 (hr.mono (by decide)) rfl g2 k2 b2 .nil pass0 (by exact (pa_cons (pv 2) (pa_cons
        (pe_lc (own := [("value", 4)]) (g := gName 4) (tt := tYes) (te := tCall spIsStep [] E0 (tCons (tVar 0) (tCons (tVar 1) (tCons (tVar 4) tNil)))) (by rfl) scChkSteps.nd (pi_or (pi_list (pv 2)) (pi_tup (pv 2)))
          (blkOk_by (own := [("value", 4)]) (N := ["letters", "size", "values", "position", "value"]) (sc := defScope sChkSteps) (by decide +kernel)) (fun _ _ _ _ _ => by exact (pg_name (i := 4) scChkSteps.nd rfl (Or.inl rfl))) (fun _ _ _ _ _ => pts_nil)
          (fun _ _ _ _ _ => by exact (pe_call G3 hr (by rfl) g3 k3 b3 .nil pass0 (pa_cons (pv 0) (pa_cons (pv 1) (pa_cons (pv 4) pa_nil)))))) pa_nil)))))
      (pss_one (ps_if (pt_cmp (pc_notN (pv 3)))
        (pss_one (ps_raise rfl (takes_of rfl rfl rfl rfl) (pmk_x PySem.F.excBase_ValueError XL.T iC tI F1 (hr.mono (by decide)) bI pass0 rfl XL.gC (pa_cons (pv 3) pa_nil)))) pss_nil))), ?_⟩
    refine ⟨_, rfl, v, p, k, z, rfl, d, fun H1 s1 => ⟨_, rfl, ?_⟩⟩
    cases e : seqP z with
    | false => exact iteT (mk1 fun d' H' hd sm hx => q1 e d' H' (s1.free hd) (s1.trans sm) hx)
    | true =>
      obtain ⟨j, a, xs, rfl, ha, hx0⟩ := d.seq e
      have hx : Paired (Dat p H1 j) xs (partsOf z) := Paired.imp2 (fun _ _ d => Dat.same s1 j d) hx0
      have ha1 : H1 a = some (.lst xs) ∨ H1 a = some (.tup xs) := ha.imp (fun e => s1 _ _ e) (fun e => s1 _ _ e)
      have el := Paired.len hx
      have hn : xs.length < 100000 := by rw [el]; exact hz
      refine iteF ⟨_, rfl, ?_⟩
      refine or_seq (i := 2) rfl ha1 fun J G w hG => ?_
      intro D hD
      refine lc_map w (fun i => .bl (stepP L n ((partsOf z).getD i .none))) hD hn (fun H' s => hG H' fun o e => s _ _ e) (fun i x Ha Hb C Z hi sm y k' => ?_) (fun H' sm hD' => ?_)
      · obtain ⟨rfl, ex⟩ := y
        obtain ⟨y, ez, dz⟩ := paired_get hx ex
        have eg := getD_of ez
        refine ⟨rfl, _, rfl, _, rfl, _, rfl, L, n, x, p, j, y, rfl, Dat.same sm j dz, hsh y (List.mem_of_getElem? ez), ?_⟩
        have := k' Hb (Same.refl Hb)
        rw [eg] at this
        exact this
      · refine ⟨List Key, inferInstance, dkT, a, D, xs, (fun i => stepP L n ((partsOf z).getD i .none)), (fun i => keysOf ((partsOf z).getD i .none)), rfl, ha1.imp (fun e => sm _ _ e) (fun e => sm _ _ e), hD', hn, fun i x ex eb => ?_, fun H2 s2 => ?_⟩
        · obtain ⟨y, ez, dz⟩ := paired_get hx ex
          have eg := getD_of ez
          have eb : stepP L n ((partsOf z).getD i .none) = true := eb
          show dkT.KR H' x (keysOf ((partsOf z).getD i .none))
          rw [eg]
          exact (Dat.same sm j dz).step (L := L) (n := n) (by rw [← eg]; exact eb)
        · have s3 := s1.trans (sm.trans s2)
          have e0 : (List.range xs.length).find? (badAt (fun i => stepP L n ((partsOf z).getD i .none)) (fun i => keysOf ((partsOf z).getD i .none))) = wrongStep L n (partsOf z) := by
            unfold wrongStep
            rw [el]
          rw [e0]
          refine ⟨_, rfl, _, rfl, ?_⟩
          cases ew : wrongStep L n (partsOf z) with
          | none => exact iteF (q2 e ew H2 s3)
          | some i => exact iteT ⟨_, rfl, mk1 fun d' H' hd sm hx => q3 i e ew d' H' (s3.free hd) (s3.trans sm) hx⟩
end
end Lw
set_option Elab.async false
set_option linter.all false
set_option maxRecDepth 100000
set_option maxHeartbeats 4000000
/-! values by their data: from Dat to what is compared and shown -/
namespace Lw
open PySem PySem.Spec PyProof.Rows L2
section
variable {K : PySem.W.Frag} {H : Hp} {p : Addr}
theorem Flat.dp {v : V} {z : PyData} (f : Flat v z) : Dp K H v z := by
  cases f with
  | non => exact .non
  | bl b => exact .bl b
  | int i => exact .int i
  | str s => exact .str s
theorem dpAll {R : V → PyData → Prop} (h : ∀ v z, R v z → z.hasDict = false → Dp K H v z) : ∀ {vs : List V} {zs : List PyData}, Paired R vs zs → PyData.hasDictAll zs = false → DpAll K H vs zs
  | _, _, .nil, _ => .nil
  | _, _, .cons r t, e => by
    simp only [PyData.hasDictAll, Bool.or_eq_false_iff] at e
    exact .cons (h _ _ r e.1) (dpAll h t e.2)
theorem Dat.dp : ∀ (k : Nat) {v : V} {z : PyData}, Dat p H k v z → z.hasDict = false → Dp K H v z
  | 0, _, _, d, _ => Flat.dp d
  | k + 1, _, _, d, e => by
    rcases d with f | ⟨a, xs, zs, rfl, rfl, ha, _, q⟩ | ⟨a, xs, zs, rfl, rfl, ha, _, q⟩ | ⟨a, kvs, rfl, rfl, _, _⟩
    · exact f.dp
    · exact .lst (.inl (.inl ha)) (dpAll (fun v z d e => Dat.dp k d e) q (by simpa only [PyData.hasDict] using e))
    · exact .tup (.inl (.inl ha)) (dpAll (fun v z d e => Dat.dp k d e) q (by simpa only [PyData.hasDict] using e))
    · simp [PyData.hasDict] at e
theorem Paired.map2 {α β γ δ : Type} {R : α → β → Prop} {S : γ → δ → Prop} {f : α → γ} {g : β → δ} (h : ∀ x y, R x y → S (f x) (g y)) : ∀ {xs : List α} {ys : List β}, Paired R xs ys → Paired S (xs.map f) (ys.map g)
  | _, _, .nil => .nil
  | _, _, .cons r t => .cons (h _ _ r) (Paired.map2 h t)
/-- a value without parts, as data -/
def pd : V → PyData
  | .bl b => .bool b
  | .int i => .int i
  | .str s => .str s
  | _ => .none
def plainV : V → Bool
  | .non => true
  | .bl _ => true
  | .int _ => true
  | .str _ => true
  | _ => false
theorem flat_pd {v : V} (h : plainV v = true) : Flat v (pd v) := by
  cases v with
  | non => exact .non
  | bl b => exact .bl b
  | int i => exact .int i
  | str s => exact .str s
  | _ => cases h
theorem flats_pd : ∀ {vs : List V}, vs.all plainV = true → Paired Flat vs (vs.map pd)
  | [], _ => .nil
  | v :: r, h => by
    rw [List.all_cons, Bool.and_eq_true] at h
    exact .cons (flat_pd h.1) (flats_pd h.2)
theorem noDict_pd : ∀ {vs : List V}, PyData.hasDictAll (vs.map pd) = false
  | [] => rfl
  | v :: r => by
    simp only [List.map_cons, PyData.hasDictAll, noDict_pd (vs := r), Bool.or_false]
    cases v <;> rfl
/-- a tuple of values without parts -/
theorem dp_tup {a : Addr} {vs : List V} (ha : SqT K H a vs) (h : vs.all plainV = true) : Dp K H (.ref a) (.tuple (vs.map pd)) := .tup ha (dpAll (fun v z f _ => Flat.dp f) (flats_pd h) noDict_pd)
theorem dp_lst {a : Addr} {vs : List V} (ha : SqL K H a vs) (h : vs.all plainV = true) : Dp K H (.ref a) (.list (vs.map pd)) := .lst ha (dpAll (fun v z f _ => Flat.dp f) (flats_pd h) noDict_pd)
end
end Lw
set_option Elab.async false
set_option linter.all false
set_option maxRecDepth 100000
set_option maxHeartbeats 4000000
/-! sorted of a list of data, of any length -/
namespace Lw
open PySem PySem.Spec PyProof.Rows L2
section
variable {X : Cx} {pins : List (Addr × Obj)} {σ : L2.St} {H : Hp} {s : Shared}
theorem each_rel {R : Value → V × PyData → Prop} (hR : ∀ u b, RelV b.1 u → R u b) : ∀ {bs : List (V × PyData)} {us : List Value}, Vals (bs.map (·.1)) us → PySem.W.EachIs R us bs
  | [], _, r => by cases r; exact .nil
  | b :: bs, _, r => by
    cases r with
    | cons r1 r2 => exact .cons (hR _ _ r1) (each_rel hR r2)
theorem each_vals : ∀ {bs : List (V × PyData)} {us : List Value}, PySem.W.EachIs (fun u b => RelV b.1 u) us bs → Vals (bs.map (·.1)) us
  | _, _, .nil => .nil
  | _, _, .cons r1 r2 => .cons r1 (each_vals r2)
theorem each_reads (I : Inv X pins σ H s) : ∀ {bs : List (V × PyData)} {us : List Value}, Vals (bs.map (·.1)) us → (∀ b ∈ bs, Dp X.K H b.1 b.2) → PySem.W.EachIs (fun u b => ∃ as, Reads s.heap u b.2 as) us bs
  | [], _, r, _ => by cases r; exact .nil
  | b :: bs, _, r, h => by
    cases r with
    | cons r1 r2 => exact .cons (Dp.reads I b.2 b.1 _ (h b List.mem_cons_self) r1) (each_reads I r2 fun c hc => h c (List.mem_cons_of_mem _ hc))
/-- sorted(xs): bs the items with their data -/
def rSortV (K : PySem.W.Frag) : List V → Hp → VK → Prop := fun vs H Q => ∃ (a : Addr) (bs : List (V × PyData)), vs = [V.ref a] ∧ SqL K H a (bs.map (·.1)) ∧ (∀ b ∈ bs, Dp K H b.1 b.2) ∧ PySem.W.AllAlike (bs.map (fun b => b.2)) ∧ PySem.W.Sortable (bs.map (fun b => b.2)) ∧
  (∀ b ∈ bs, b.2.depth ≤ 20) ∧ ∀ p, H p = none → Q (.ref p) (upd H p (.lst ((bs.mergeSort (PySem.W.dataLe false (fun b : V × PyData => b.2))).map (·.1))))
theorem cr_sortV {k : Nat} (hr : Room k X.A) : CallR X (.builtin "sorted") (rSortV X.K) := by
  intro pins s σ H vs us Q I r h
  obtain ⟨a, bs, rfl, hs, hd, al, so, dp, q⟩ := h
  obtain ⟨its, rv, hl, hz⟩ := I.list hs
  have hu := hr.units
  rw [Vals.ref1 r]
  refine PySem.W.sorted_data (β := V × PyData) (R := fun u b => RelV b.1 u) (enc := fun b => b.2) hl.isList (each_rel (fun _ _ z => z) rv) (each_reads I rv hd) al so (by rw [List.length_map] at hz; exact hz) (fun b hb => by have := dp b hb; omega) fun out h1 h2 => ?_
  obtain ⟨ep, he'⟩ := PyProof.Rows.sortedAll_at s.heap its out.toArray
  have rv2 := each_vals h2
  have hlen : ((bs.mergeSort (PySem.W.dataLe false (fun b : V × PyData => b.2))).map (·.1)).length ≤ sizeLine := by
    rw [List.length_map, List.length_mergeSort]
    rw [List.length_map] at hz
    exact hz
  exact ⟨.ref _, upd H (s.heap.objs.size + 1) (.lst ((bs.mergeSort (PySem.W.dataLe false (fun b : V × PyData => b.2))).map (·.1))), I.laid (t' := s.toks) (fun _ _ => PyProof.Rows.sortedAll_old) (Nat.le_succ _) ⟨hlen, out, ep, rv2, he'⟩, rfl, q _ (I.hok.fresh (Nat.le_succ _))⟩
end
end Lw
set_option Elab.async false
set_option linter.all false
set_option maxRecDepth 100000
set_option maxHeartbeats 4000000
/-! the checks, asked of what is right: nothing is raised -/
namespace Lw
open PySem PySem.Spec PyProof.Rows L2
/-- a statement that is not reached -/
theorem ps_never {X : Cx} {st : Stmt} : PS X st (fun _ _ _ => False) := ⟨fun _ _ _ _ _ _ h => h.elim⟩
abbrev sChkLet : Stmt := topS 23
section
variable {P : Program} {w : World} {K : PySem.W.Frag} {mg : Str → Option Value} {base : Heap}
def spChkLetR : Sp := fun vs H Q _ => ∃ L : Str, vs = [.str L] ∧ lettersV (.str L) = true ∧ L.length < 100000 ∧ ∀ H', Same H H' → Q .non H'
theorem scChkLet : FnScope ["letters"] ["letters"] (defScope sChkLet) := ⟨rfl, rfl, rfl, by decide +kernel, rfl, by decide +kernel, by decide +kernel⟩
theorem ok_chkletR {f : Addr} {fd : FuncData} (F : Fun K "check_letters" "check_letters" sChkLet f fd) (D : Def P w K mg base 2 "is_letters" ["value"] (spIsLet K)) : FnOk P w K mg base CX0 3 f fd ["letters"] spChkLetR := by
  obtain ⟨fD, fdD, GD, gD, kD, bD⟩ := D.ex
  refine F.ok scChkLet (fun vs H Q E h => ?_) (fun cdv A outer s H vs Q E hr h => ?_)
  · obtain ⟨v, rfl, _⟩ := h
    rfl
  · obtain ⟨L, rfl, hl, hz, q⟩ := h
    refine ⟨_, pss_one (ps_if (pt_not (pt_val (pe_call GD hr rfl gD kD bD .nil pass0 (by exact (pa_cons (pv 0) pa_nil))))) (pss_one ps_never) pss_nil), ?_⟩
    refine ⟨_, rfl, .str L, rfl, kind_str L, (fun z e => by cases e; exact hz), fun H1 s1 => ⟨_, rfl, ?_⟩⟩
    rw [hl]
    exact iteF (q H1 s1)
def spChkStatesR : Sp := fun vs H Q _ => ∃ (n : Int) (v : V) (p : Addr) (k : Nat) (z : PyData), vs = [.int n, v] ∧ Dat p H k v z ∧ (partsOf z).length < 100000 ∧ seqP z = true ∧ wrongSt n (partsOf z) = none ∧ ∀ H', Same H H' → Q .non H'
theorem ok_chkstatesR {f : Addr} {fd : FuncData} (F : Fun K "check_states" "check_states" sChkStates f fd)
    (D1 : Def P w K mg base 1 "is_list" ["value"] spIsList) (D2 : Def P w K mg base 3 "wrong_state_at" ["size", "values"] spWrongSt) : FnOk P w K mg base CX0 4 f fd ["size", "values"] spChkStatesR := by
  obtain ⟨f1, fd1, G1, g1, k1, b1⟩ := D1.ex
  obtain ⟨f2, fd2, G2, g2, k2, b2⟩ := D2.ex
  refine F.ok scChkStates (fun vs H Q E h => ?_) (fun cdv A outer s H vs Q E hr h => ?_)
  · obtain ⟨n, v, p, k, z, rfl, _⟩ := h
    rfl
  · obtain ⟨n, v, p, k, z, rfl, d, hz, e, ew, q⟩ := h
    refine ⟨_, pss_cons (ps_if (pt_not (pt_val (pe_call G1 (hr.mono (by decide)) rfl g1 k1 b1 .nil pass0 (by exact (pa_cons (pv 1) pa_nil))))) (pss_one ps_never) pss_nil)
      (pss_cons (ps_set (i := 2) scChkStates.nd rfl (.inl rfl) (pe_call G2 hr rfl g2 k2 b2 .nil pass0 (by exact (pa_cons (pv 0) (pa_cons (pv 1) pa_nil)))))
      (pss_one (ps_if (pt_cmp (pc_notN (pv 2))) (pss_one ps_never) pss_nil))), ?_⟩
    refine ⟨_, rfl, v, p, k, z, rfl, d, fun H1 s1 => ⟨_, rfl, ?_⟩⟩
    rw [e]
    obtain ⟨j, a, xs, rfl, ha, hx⟩ := d.seq e
    have hx1 : Paired (Dat p H1 j) xs (partsOf z) := Paired.imp2 (fun _ _ d => Dat.same s1 j d) hx
    refine iteF ⟨_, rfl, _, rfl, n, a, xs, p, j, partsOf z, rfl, ha.imp (fun e => s1 _ _ e) (fun e => s1 _ _ e), hx1, by rw [Paired.len hx]; exact hz, fun H2 s2 => ?_⟩
    refine ⟨_, rfl, _, rfl, ?_⟩
    rw [ew]
    exact iteF (q H2 (s1.trans s2))
def spChkStepsR : Sp := fun vs H Q _ => ∃ (L : Str) (n : Int) (v : V) (p : Addr) (k : Nat) (z : PyData), vs = [.str L, .int n, v] ∧ Dat p H k v z ∧ (partsOf z).length < 100000 ∧ (∀ y ∈ partsOf z, short1 y = true) ∧ seqP z = true ∧
  wrongStep L n (partsOf z) = none ∧ ∀ H', Same H H' → Q .non H'
theorem ok_chkstepsR {f : Addr} {fd : FuncData} (F : Fun K "check_steps" "check_steps" sChkSteps f fd)
    (D1 : Def P w K mg base 1 "is_list" ["value"] spIsList) (D2 : Def P w K mg base 1 "first_wrong" ["values", "rights"] spFirst) (D3 : Def P w K mg base 3 "is_step" ["letters", "size", "value"] spIsStep) :
    FnOk P w K mg base CX0 4 f fd ["letters", "size", "values"] spChkStepsR := by
  obtain ⟨f1, fd1, G1, g1, k1, b1⟩ := D1.ex
  obtain ⟨f2, fd2, G2, g2, k2, b2⟩ := D2.ex
  obtain ⟨f3, fd3, G3, g3, k3, b3⟩ := D3.ex
  refine F.ok scChkSteps (fun vs H Q E h => ?_) (fun cdv A outer s H vs Q E hr h => ?_)
  · obtain ⟨L, n, v, p, k, z, rfl, _⟩ := h
    rfl
  · obtain ⟨L, n, v, p, k, z, rfl, d, hz, hsh, e, ew, q⟩ := h
    refine ⟨_, pss_cons (ps_if (pt_not (pt_val (pe_call G1 (hr.mono (by decide)) rfl g1 k1 b1 .nil pass0 (by exact (pa_cons (pv 2) pa_nil))))) (pss_one ps_never) pss_nil)
      (pss_cons (ps_set (i := 3) scChkSteps.nd rfl (.inl rfl) (pe_call G2 (hr.mono (by decide)) rfl g2 k2 b2 .nil pass0 (by exact (pa_cons (pv 2) (pa_cons
        (pe_lc (own := [("value", 4)]) (g := gName 4) (tt := tYes) (te := tCall spIsStep [] E0 (tCons (tVar 0) (tCons (tVar 1) (tCons (tVar 4) tNil)))) (by rfl) scChkSteps.nd (pi_or (pi_list (pv 2)) (pi_tup (pv 2)))
          (blkOk_by (own := [("value", 4)]) (N := ["letters", "size", "values", "position", "value"]) (sc := defScope sChkSteps) (by decide +kernel)) (fun _ _ _ _ _ => by exact (pg_name (i := 4) scChkSteps.nd rfl (Or.inl rfl))) (fun _ _ _ _ _ => pts_nil)
          (fun _ _ _ _ _ => by exact (pe_call G3 hr (by rfl) g3 k3 b3 .nil pass0 (pa_cons (pv 0) (pa_cons (pv 1) (pa_cons (pv 4) pa_nil)))))) pa_nil)))))
      (pss_one (ps_if (pt_cmp (pc_notN (pv 3))) (pss_one ps_never) pss_nil))), ?_⟩
    refine ⟨_, rfl, v, p, k, z, rfl, d, fun H1 s1 => ⟨_, rfl, ?_⟩⟩
    rw [e]
    obtain ⟨j, a, xs, rfl, ha, hx0⟩ := d.seq e
    have hx : Paired (Dat p H1 j) xs (partsOf z) := Paired.imp2 (fun _ _ d => Dat.same s1 j d) hx0
    have ha1 : H1 a = some (.lst xs) ∨ H1 a = some (.tup xs) := ha.imp (fun e => s1 _ _ e) (fun e => s1 _ _ e)
    have el := Paired.len hx
    have hn : xs.length < 100000 := by rw [el]; exact hz
    refine iteF ⟨_, rfl, ?_⟩
    refine or_seq (i := 2) rfl ha1 fun J G w hG => ?_
    intro D hD
    refine lc_map w (fun i => .bl (stepP L n ((partsOf z).getD i .none))) hD hn (fun H' s => hG H' fun o e => s _ _ e) (fun i x Ha Hb C Z hi sm y k' => ?_) (fun H' sm hD' => ?_)
    · obtain ⟨rfl, ex⟩ := y
      obtain ⟨y, ez, dz⟩ := paired_get hx ex
      have eg := getD_of ez
      refine ⟨rfl, _, rfl, _, rfl, _, rfl, L, n, x, p, j, y, rfl, Dat.same sm j dz, hsh y (List.mem_of_getElem? ez), ?_⟩
      have := k' Hb (Same.refl Hb)
      rw [eg] at this
      exact this
    · refine ⟨List Key, inferInstance, dkT, a, D, xs, (fun i => stepP L n ((partsOf z).getD i .none)), (fun i => keysOf ((partsOf z).getD i .none)), rfl, ha1.imp (fun e => sm _ _ e) (fun e => sm _ _ e), hD', hn, fun i x ex eb => ?_, fun H2 s2 => ?_⟩
      · obtain ⟨y, ez, dz⟩ := paired_get hx ex
        have eg := getD_of ez
        have eb : stepP L n ((partsOf z).getD i .none) = true := eb
        show dkT.KR H' x (keysOf ((partsOf z).getD i .none))
        rw [eg]
        exact (Dat.same sm j dz).step (L := L) (n := n) (by rw [← eg]; exact eb)
      · have s3 := s1.trans (sm.trans s2)
        have e0 : (List.range xs.length).find? (badAt (fun i => stepP L n ((partsOf z).getD i .none)) (fun i => keysOf ((partsOf z).getD i .none))) = wrongStep L n (partsOf z) := by
          unfold wrongStep
          rw [el]
        rw [e0]
        refine ⟨_, rfl, _, rfl, ?_⟩
        rw [ew]
        exact iteF (q H2 s3)
end
end Lw
set_option Elab.async false
set_option linter.all false
set_option maxRecDepth 100000
set_option maxHeartbeats 4000000
/-! comprehensions of lists, sets and dicts with any number of fors: a clause at a time -/
namespace Lw
open PySem PySem.Spec PyProof.Rows L2
/-- what a turn of the clause at place k does once its tests have passed: the next clause's loop, or the store -/
def inBody (emit : Sem Unit) (nxt : Option Comprehension) (e : Expr) (k : Nat) (acc : Value) (env : Env) : Sem Unit :=
  match nxt with
  | some g' => do
    let x ← eval g'.iter env
    standAt g'.iter.pos
    let x ← if g'.is_async != 0 then foldedIterable g'.iter x else foldedSetIterable g'.iter env x
    let _ ← runOwn (.compStart e (k + 1) (← holding [x] (if g'.is_async != 0 then asyncIter x else pyIter x)) acc env) env
  | none => emit
/-- the clauses of a comprehension and its store -/
def CSplit (e : Expr) (acc : Value) (env : Env) (gs : List Comprehension) (emit : Sem Unit) : Prop :=
  (∃ elt sc p, e = .ListComp elt gs sc p ∧ emit = (do let _ ← call (.builtin "list.append") [acc, ← eval elt env])) ∨
  (∃ elt sc p, e = .SetComp elt gs sc p ∧ emit = (do let v ← eval elt env; standAt elt.pos; let _ ← call (.builtin "set.add") [acc, v])) ∨
  (∃ kx vx sc p D, e = .DictComp kx vx gs sc p ∧ acc = .ref D ∧ emit = (do
    let kv ← eval kx env
    let vv ← holding [kv] (eval vx env)
    standAt { kx.pos with endLine := vx.pos.endLine, endCol := vx.pos.endCol }
    holding [kv, vv] (dictSet D kv vv)))
theorem CSplit.cl {e : Expr} {acc : Value} {env : Env} {gs : List Comprehension} {emit : Sem Unit} (h : CSplit e acc env gs emit) : clausesOf e = gs := by
  rcases h with ⟨_, _, _, rfl, _⟩ | ⟨_, _, _, rfl, _⟩ | ⟨_, _, _, _, _, rfl, _, _⟩ <;> rfl
section
variable {prog : Program} {w : World} {A : Around} {R : Result → Shared → Prop} {s : Shared}
/-- one turn of a clause's loop, told by its body -/
theorem turn_by {e : Expr} {acc it : Value} {env : Env} {gs : List Comprehension} {emit : Sem Unit} {k : Nat} {tg iter : Expr} {ifs : List Expr} (hs : CSplit e acc env gs emit) (hk : gs[k]? = some ⟨tg, iter, ifs, 0⟩) {Q : Fin → Shared → Prop} {E : Value → Shared → Prop}
    (h : wpAny (model prog w) A (pyNext it) (fun r s1 => match r with
      | none => Q (.done .next) s1
      | some v => wpAny (model prog w) A (letOwnedTupleGo tg it v) (fun _ s2 =>
          wpAny (model prog w) A (assign tg env v) (fun _ s3 =>
            wpAny (model prog w) A (forIn ifs true fun c r => if r = true then do let ok ← isTrue c env (eval c env); pure (ForInStep.yield ok) else pure (ForInStep.yield r)) (fun ok s4 =>
              if ok = true then wpAny (model prog w) A (inBody emit gs[k + 1]? e k acc env) (fun _ s5 => Q (.again (.compLoop e k it acc env)) s5) E s4
              else Q (.again (.compLoop e k it acc env)) s4) E s3) E s2) E s1) E s) :
    wpAny (model prog w) A (compTurn e k it acc env) Q E s := by
  have put : ∀ (emit0 : Sem Unit) (nx : Option Comprehension), emit0 = emit → nx = gs[k + 1]? →
      wpAny (model prog w) A (do
        standAt iter.pos
        match ← pyNext it with
        | none => pure (.done .next)
        | some v =>
          letOwnedTupleGo tg it v
          assign tg env v
          let mut ok := true
          for c in ifs do
            if ok then ok ← isTrue c env (eval c env)
          if ok then
            match nx with
            | some g' =>
              let x ← eval g'.iter env
              standAt g'.iter.pos
              let x ← if g'.is_async != 0 then foldedIterable g'.iter x else foldedSetIterable g'.iter env x
              let _ ← runOwn (.compStart e (k + 1) (← holding [x] (if g'.is_async != 0 then asyncIter x else pyIter x)) acc env) env
            | none => emit0
          again (.compLoop e k it acc env)) Q E s := by
    intro emit0 nx0 e0 n0
    subst e0 n0
    refine wpAny_bind (wpAny_standAt (wpAny_bind (wpAny_mono h (fun r s1 h1 => ?_) fun _ _ z => z)))
    cases r with
    | none => exact wpAny_pure h1
    | some v =>
      refine wpAny_bind (wpAny_mono h1 (fun _ s2 h2 => wpAny_bind (wpAny_mono h2 (fun _ s3 h3 => wpAny_bind (wpAny_mono h3 (fun ok s4 h4 => ?_) fun _ _ z => z)) fun _ _ z => z)) fun _ _ z => z)
      cases ok with
      | false => exact wpAny_pure h4
      | true =>
        have h4 : wpAny (model prog w) A (inBody emit0 gs[k + 1]? e k acc env) (fun _ s5 => Q (.again (.compLoop e k it acc env)) s5) E s4 := h4
        generalize gs[k + 1]? = nx at h4 ⊢
        cases nx with
        | none => exact wpAny_bind (wpAny_mono h4 (fun _ s5 h5 => wpAny_pure h5) fun _ _ z => z)
        | some g' =>
          have h4 := wpAny_bind (M := model prog w) (f := fun (_ : Unit) => (again (.compLoop e k it acc env) : Sem Fin)) (wpAny_mono h4 (fun _ s5 h5 => wpAny_pure h5) fun _ _ z => z)
          cases hg : (g'.is_async != 0) <;> (simp only [inBody, hg, Bool.false_eq_true, if_false, if_true, bind_assoc] at h4 ⊢; exact h4)
  rcases hs with ⟨elt, sc, p, rfl, rfl⟩ | ⟨elt, sc, p, rfl, rfl⟩ | ⟨kx, vx, sc, p, D, rfl, rfl, rfl⟩
  · have := put _ _ rfl rfl
    unfold compTurn
    simp only [hk]
    exact this
  · have := put _ _ rfl rfl
    unfold compTurn
    simp only [hk]
    exact this
  · have := put _ _ rfl rfl
    unfold compTurn
    simp only [hk]
    exact this
end
end Lw
set_option Elab.async false
set_option linter.all false
set_option maxRecDepth 100000
set_option maxHeartbeats 4000000
namespace Lw
open PySem PySem.Spec PyProof.Rows L2
/-- what a turn does within a block, the slots ws forgotten behind it -/
structure BD (X : Cx) (B : Sem Unit) (ws : List Nat) (t : L2.St → Hp → (Hp → Prop) → Prop) : Prop where
  run : ∀ (pins : List (Addr × Obj)) (s : Shared) (σ : L2.St) (H : Hp) (Q : Hp → Prop), Inv X pins σ H s → t σ H Q →
    wpAny (model X.prog X.w) X.A B (fun _ s' => ∃ H', Inv X pins (wipe σ ws) H' s' ∧ Q H') (fun _ _ => False) s
/-- a clause's turns: W by the turn and a measure; behind the last one Q -/
def ClW (J : It) (g : TG) (tt : TT) (tb : L2.St → Hp → (Hp → Prop) → Prop) (vs : List Nat) (σ : L2.St) (H : Hp) (Q : Hp → Prop) : Prop :=
  ∃ W : Nat → Nat → Hp → Prop, (∃ m, W 0 m H) ∧ ∀ i m H1, W i m H1 → (J.stop i H1 ∧ Q H1) ∨
    (J.go i H1 ∧ ∃ Nx : Hp → Prop, (∀ H2, Nx H2 → ∃ m', m' < m ∧ W (i + 1) m' H2) ∧ ∀ x H2, J.yld i H1 x H2 →
      g x (wipe σ vs) H2 fun σ2 H3 => wipe σ2 vs = wipe σ vs ∧ tt σ2 H3 fun b H4 => if b = true then tb σ2 H4 Nx else Nx H4)
section
variable {X : Cx} {e : Expr} {acc : Value} {gs : List Comprehension} {emit : Sem Unit} {k : Nat} {tg iter : Expr} {ifs : List Expr} {g : TG} {tt : TT} {tb : L2.St → Hp → (Hp → Prop) → Prop} {ws vs : List Nat}
theorem wipe_sub {σ2 τ : L2.St} {us zs : List Nat} (h : ∀ i ∈ us, i ∈ zs) (e : wipe σ2 zs = wipe τ zs) : (wipe τ zs).length = (wipe σ2 us).length ∧ ∀ (j : Nat) v, (wipe τ zs)[j]? = some (some v) → (wipe σ2 us)[j]? = some (some v) := by
  refine ⟨by rw [← e, wipe_length, wipe_length], fun j v hj => ?_⟩
  rw [← e] at hj
  obtain ⟨h1, h2⟩ := wipe_some hj
  rw [wipe_out fun z => h2 (h j z)]
  exact h1
theorem den_loop {prog : Program} {w : World} {A : Around} {it : Value} {env env' : Env} (hs : CSplit e acc env' gs emit) : A.under (.compLoop e k it acc env) = A ∧
    (model prog w).den (.compLoop e k it acc env) = (compTurn e k it acc env).onRaise (fun x => do noteFrame x env; theTreesLotGoes x) := by
  rcases hs with ⟨_, _, _, rfl, _⟩ | ⟨_, _, _, rfl, _⟩ | ⟨_, _, _, _, _, rfl, _, _⟩ <;> exact ⟨rfl, rfl⟩
theorem den_start {prog : Program} {w : World} {A : Around} {it : Value} {env env' : Env} (hs : CSplit e acc env' gs emit) : A.under (.compStart e k it acc env) = A ∧
    (model prog w).den (.compStart e k it acc env) = (compStart e k it acc env).onRaise (fun x => do noteFrame x env; standAt theWindowsPlace) := by
  rcases hs with ⟨_, _, _, rfl, _⟩ | ⟨_, _, _, rfl, _⟩ | ⟨_, _, _, _, _, rfl, _, _⟩ <;> exact ⟨rfl, rfl⟩
theorem loop_cl (hc : X.calm = true) (hxe : X.xe = fun _ _ => False) (hs : CSplit e acc X.env gs emit) (hk : gs[k]? = some ⟨tg, iter, ifs, 0⟩) {J : It} {fp : List Addr} {it : Addr} {tn : Nat → Heap → Prop}
    (T : Turn X.prog X.w X.K tg J fp it tn) (pg : PG X tg g) (pt : PTs X ifs tt) (bd : BD X (inBody emit gs[k + 1]? e k acc X.env) ws tb) (hws : ∀ i ∈ ws, i ∈ vs)
    {pins : List (Addr × Obj)} {σ : L2.St} {H : Hp} {s : Shared} {Q : Hp → Prop} (I : Inv X pins (wipe σ vs) H s) (st : tn 0 s.heap) (hf : ∀ b ∈ fp, FpOk X pins H b) (hW : ClW J g tt tb vs σ H Q) :
    codeAny (model X.prog X.w) X.A (.compLoop e k (.ref it) acc X.env) (fun r s' => match r with
      | .ok _ => ∃ H', Inv X pins (wipe σ vs) H' s' ∧ Q H'
      | .error _ => False) s := by
  obtain ⟨W, ⟨m0, w0⟩, turn⟩ := hW
  have fpo : ∀ {H' : Hp}, (∀ b ∈ fp, H' b = none) → ∀ b ∈ fp, FpOk X pins H' b := fun hn b hb => ⟨hn b hb, (hf b hb).2⟩
  refine codeAny_loop rfl (fun n s' => ∃ i H', Inv X pins (wipe σ vs) H' s' ∧ tn i s'.heap ∧ (∀ b ∈ fp, H' b = none) ∧ W i n H') (fun n s1 hI => ?_) m0 ⟨0, H, I, st, fun b hb => (hf b hb).1, w0⟩
  obtain ⟨i, H1, I1, st1, n1, w1⟩ := hI
  rw [(den_loop (prog := X.prog) (w := X.w) (A := X.A) (k := k) (it := .ref it) (env := X.env) hs).1, (den_loop (prog := X.prog) (w := X.w) (A := X.A) (k := k) (it := .ref it) (env := X.env) hs).2]
  refine wpAny_noted (turn_by hs hk ?_)
  rcases turn i n H1 w1 with ⟨stop, q⟩ | ⟨go, Nx, hNx, step⟩
  · refine thnF (T.done X rfl rfl rfl hc i pins s1 _ H1 (fun _ _ => False) I1 (fpo n1) st1 stop) fun r s2 ⟨hr, I2⟩ => ?_
    subst hr
    exact ⟨H1, I2, q⟩
  · refine thnF (T.item X rfl rfl rfl hc i pins s1 _ H1 (fun _ _ => False) I1 (fpo n1) st1 go) fun r s2 ⟨u, hr, h2⟩ => ?_
    subst hr
    refine thnF h2 fun _ s3 ⟨x, H3, I3, r3, y3, st3, n3⟩ => ?_
    have a3 := pg.run _ s3 _ H3 x u _ (I3.pinned (fpo n3) (T.obj _ _ st3)) r3 (step x H3 y3)
    rw [hxe] at a3
    refine thnF a3 fun _ s4 ⟨σ4, H4, I4, hw4, q4⟩ => ?_
    have a4 := pt.run _ s4 σ4 H4 _ I4 q4
    rw [hxe] at a4
    refine thnF a4 fun b s5 ⟨H5, I5, q5⟩ => ?_
    have fin : ∀ {us : List Nat} {s' : Shared} {H' : Hp}, (∀ i ∈ us, i ∈ vs) → Inv X (pins ++ pinsAt fp s3.heap) (wipe σ4 us) H' s' → Nx H' →
        ∃ m, m < n ∧ ∃ i H', Inv X pins (wipe σ vs) H' s' ∧ tn i s'.heap ∧ (∀ b ∈ fp, H' b = none) ∧ W i m H' := fun {us s' H'} hu I' nx => by
      obtain ⟨m', hm, w'⟩ := hNx H' nx
      obtain ⟨wl, wk⟩ := wipe_sub hu hw4
      have pin' : ∀ b ∈ fp, ∀ o, s3.heap.get? b = some o → s'.heap.get? b = some o ∧ H' b = none := fun b hb o eo =>
        let z := I'.pin (b, o) (List.mem_append_right _ (List.mem_append_right _ (mem_pinsAt hb eo)))
        ⟨z.1, z.2.1⟩
      refine ⟨m', hm, i + 1, H', (I'.unpinned (pins := pins)).weak wl wk, T.keep _ _ _ st3 fun b hb o eo => (pin' b hb o eo).1, fun b hb => ?_, w'⟩
      obtain ⟨o, eo, _⟩ := T.obj _ _ st3 b hb
      exact (pin' b hb o eo).2
    cases b with
    | false =>
      simp only [Bool.false_eq_true, if_false] at q5 ⊢
      exact ⟨trivial, fin (us := []) (fun i hi => absurd hi List.not_mem_nil) I5 q5⟩
    | true =>
      simp only [if_true] at q5 ⊢
      exact thnF (bd.run _ s5 σ4 H5 Nx I5 q5) fun _ s6 ⟨H6, I6, nx⟩ => ⟨trivial, fin hws I6 nx⟩
/-- the start of a clause's loop -/
theorem start_cl {prog : Program} {w : World} {A : Around} {R : Result → Shared → Prop} {s : Shared} {it : Value} {env env' : Env} (hs : CSplit e acc env' gs emit) (hk : gs[k]? = some ⟨tg, iter, ifs, 0⟩) (h0 : codeAny (model prog w) A (.compLoop e k it acc env) R s)
    (h : wpAny (model prog w) A (pyIter it) (fun it' s' => codeAny (model prog w) A (.compLoop e k it' acc env) R s') (notedBy (model prog w) A env fun x s' => R (.error x) s') s) :
    codeAny (model prog w) A (.compStart e k it acc env) R s := by
  refine codeAny_of_tree ?_
  rw [(den_start (prog := prog) (w := w) (A := A) (k := k) (it := it) (env := env) hs).1, (den_start (prog := prog) (w := w) (A := A) (k := k) (it := it) (env := env) hs).2]
  refine wpAny_notedAt ?_
  unfold compStart
  rw [hs.cl, hk]
  show wpAny _ _ (ask >>= _) _ _ s
  refine wpAny_bind (wpAny_askSetting (wpAny_ite ?_))
  split
  · first
      | exact wpAny_bind (wpAny_pure (wpAny_pure ⟨rfl, h0⟩))
      | exact wpAny_pure ⟨rfl, h0⟩
  · refine wpAny_bind (wpAny_rule ?_)
    first
      | exact wpAny_bind (wpAny_standAt (wpAny_bind (wpAny_mono h (fun it' s' h' => wpAny_pure ⟨rfl, h'⟩) fun _ _ x => x)))
      | (show wpAny _ _ (standAt iter.pos >>= _) _ _ s; exact wpAny_bind (wpAny_standAt (wpAny_bind (wpAny_mono h (fun it' s' h' => wpAny_pure ⟨rfl, h'⟩) fun _ _ x => x))))
/-- the reading of a further clause -/
def tCl (wi : TI) (g : TG) (tt : TT) (tb : L2.St → Hp → (Hp → Prop) → Prop) (vs : List Nat) : L2.St → Hp → (Hp → Prop) → Prop := fun σ H Q => wi σ H fun J H1 => ClW J g tt tb vs σ H1 Q
theorem bd_cl (hc : X.calm = true) (hxe : X.xe = fun _ _ => False) (hs : CSplit e acc X.env gs emit) (hk : gs[k + 1]? = some ⟨tg, iter, ifs, 0⟩) {wi : TI} (pi : PI X tg iter wi) (pg : PG X tg g) (pt : PTs X ifs tt)
    (bd : BD X (inBody emit gs[k + 1 + 1]? e (k + 1) acc X.env) ws tb) (hws : ∀ i ∈ ws, i ∈ vs) (hfs : ∀ x, foldedSetIterable iter X.env x = pure x) :
    BD X (inBody emit gs[k + 1]? e k acc X.env) vs (tCl wi g tt tb vs) := by
  refine ⟨fun pins s σ H Q I h => ?_⟩
  rw [hk]
  have a1 := pi.run pins s σ H _ I h
  rw [hxe] at a1
  show wpAny _ _ (eval iter X.env >>= _) _ _ s
  refine wpAny_bind (thnF a1 fun x s1 h1 => wpAny_bind (wpAny_standAt (wpAny_bind ?_)))
  show wpAny _ _ (foldedSetIterable iter X.env x) _ _ s1
  refine wpAny_of_eq (hfs x) (wpAny_bind (wpAny_holding (thnF h1 fun itv s2 h2 => ?_)))
  obtain ⟨it, fp, tn, J, H2, rfl, I2, T, st2, f2, hW⟩ := h2
  have lp := loop_cl hc hxe hs hk T pg pt bd hws (I2.weak (wipe_length _ _) (fun j v e => (wipe_some e).1)) st2 f2 hW
  refine wpAny_bind (wpAny_runOwn ?_)
  rw [Around.mark_none]
  refine codeAny_mono (start_cl hs hk lp (T.self X.A 0 _ _ _ st2 lp)) fun r s' hr => ?_
  cases r with
  | ok f => exact wpAny_pure hr
  | error x => exact hr.elim
/-- the stores -/
theorem bd_list {elt : Expr} {D : Addr} {te : TE} (hxe : X.xe = fun _ _ => False) (he : PE X elt te) :
    BD X (do let _ ← call (.builtin "list.append") [.ref D, ← eval elt X.env]) [] (fun σ H Q => te σ H fun y H1 => ∃ ys, H1 D = some (.lst ys) ∧ ys.length < sizeLine ∧ Q (upd H1 D (.lst (ys ++ [y])))) := by
  refine ⟨fun pins s σ H Q I h => ?_⟩
  have a1 := he.run pins s σ H _ I h
  rw [hxe] at a1
  refine wpAny_bind (thnF a1 fun v s1 ⟨y, H1, I1, r1, ys, hD, hz, q⟩ => wpAny_bind ?_)
  exact app_ok I1 hD hz r1 fun s2 I2 => wpAny_pure ⟨_, I2, q⟩
theorem d_put2 {pins : List (Addr × Obj)} {σ : L2.St} {H H' : Hp} {s : Shared} {D : Addr} {y v : V} {u r : Value} {Q : Unit → Shared → Prop} {E : Value → Shared → Prop} (hu : X.A.units + 1 < cLine) (I : Inv X pins σ H s) (gp : DPut H D y v H') (ry : RelV y u) (rv : RelV v r)
    (h : ∀ s', Inv X pins σ H' s' → Q () s') : wpAny (model X.prog X.w) X.A (dictSet D u r) Q E s := by
  rcases gp with ⟨kvs, ky, e1, rfl, l1, rfl⟩ | ⟨kvs, ky, b, e1, rfl, eb, l1, rfl⟩
  · exact d_dictSet I e1 l1 ry rv h
  · obtain rfl : u = Value.ref b := ry
    obtain ⟨z, hd, xs, rel, dd⟩ := dt_of I.hok e1
    refine wpAny_dictSet_heap (hsz := by rw [← Paired.length rel]; exact z) (show X.A.units < cLine by omega) (key_of I.hok eb) dd fun h' dd' sb => h _ ?_
    obtain ⟨q, es, ep, hq, h2, h3, h4, _, h5⟩ := dd'
    refine d_write I (by rw [e1]; exact True.intro) sb ⟨q, hq⟩ ⟨by have := length_putK kvs ky v; omega, hd, _, (rel.put ky eb rv).keeps fun c ys ec => ?_, q, es, ep, hq, h2, h3, h4, h5⟩
    rw [upd_ne (ne_of ec e1 (fun z => nomatch z))]
    exact ec
theorem bd_dict {kx vx : Expr} {D : Addr} {tk tv : TE} (hu : X.A.units + 1 < cLine) (hxe : X.xe = fun _ _ => False) (hk : PE X kx tk) (he : PE X vx tv) :
    BD X (do
      let kv ← eval kx X.env
      let vv ← holding [kv] (eval vx X.env)
      standAt { kx.pos with endLine := vx.pos.endLine, endCol := vx.pos.endCol }
      holding [kv, vv] (dictSet D kv vv)) [] (fun σ H Q => tk σ H fun y H1 => tv σ H1 fun z H2 => ∃ H3, DPut H2 D y z H3 ∧ Q H3) := by
  refine ⟨fun pins s σ H Q I h => ?_⟩
  have a1 := hk.run pins s σ H _ I h
  rw [hxe] at a1
  refine wpAny_bind (thnF a1 fun v s1 ⟨y, H1, I1, r1, q1⟩ => wpAny_bind (wpAny_holding ?_))
  have a2 := he.run pins s1 σ H1 _ I1 q1
  rw [hxe] at a2
  refine thnF a2 fun z s2 ⟨y2, H2, I2, r2, H3, gp, q⟩ => wpAny_bind (wpAny_standAt (wpAny_holding ?_))
  exact d_put2 hu I2 gp r1 r2 fun s3 I3 => ⟨_, I3, q⟩
end
end Lw
set_option Elab.async false
set_option linter.all false
set_option maxRecDepth 100000
set_option maxHeartbeats 4000000
namespace Lw
open PySem PySem.Spec PyProof.Rows L2
/-- the reading of a comprehension: D the new object, at first o0; tb what a turn of the first clause does -/
def tCo (o0 : HO) (wi : TI) (g : TG) (tt : TT) (tb : Addr → L2.St → Hp → (Hp → Prop) → Prop) (vs : List Nat) : TE := fun σ H Q =>
  wi σ H fun J H1 => ∀ D, H1 D = none → ClW J g tt (tb D) vs σ (upd H1 D o0) fun H2 => Q (.ref D) H2
/-- a block's context -/
abbrev blkX (X : Cx) (scope : Scope) (s : Shared) (H : Hp) (C : Addr) (cl : List (Str × Addr)) (fp : List Addr) : Cx := X.blk s H scope (compEnvC scope cl C X.env) fp
section
variable {X : Cx}
theorem co_core {e : Expr} {gs : List Comprehension} {tg iter : Expr} {ifs : List Expr} {scope : Scope} {own : List (Str × Nat)} {o0 : HO} {ob : Obj} {newAcc : Sem Value} {emit : Addr → Env → Sem Unit} {wi : TI} {g : TG} {tt : TT}
    {tb : Addr → L2.St → Hp → (Hp → Prop) → Prop} {ws : List Nat} {pins : List (Addr × Obj)} {s : Shared} {σ : L2.St} {H : Hp} {Q : VK} {pos' : Pos} {use : Option (Value → Sem Unit)} {Qf : Value → Shared → Prop}
    (hc : X.calm = true) (hN : X.N.Nodup) (I : Inv X pins σ H s) (hsp : ∀ D env, CSplit e (.ref D) env gs (emit D env)) (hk : gs[0]? = some ⟨tg, iter, ifs, 0⟩)
    (hnew : ∀ (E : Value → Shared → Prop) (Q1 : Value → Shared → Prop) (s1 : Shared), Q1 (.ref s1.heap.objs.size) { s1 with heap := s1.heap.push ob } → wpAny (model X.prog X.w) X.A newAcc Q1 E s1)
    (hob : ∀ (H1 : Hp) (h : Heap), sysModules < h.objs.size → ObjOk X.prog X.w H1 (h.push ob) h.objs.size o0) (hfz : ob.isFreed = false)
    (hi : PI X tg iter wi) (ok : BlkOk X.N X.env.scope scope own) (hws : ∀ i ∈ ws, i ∈ own.map (·.2))
    (hg : ∀ s H C cl fp, PG (blkX X scope s H C cl fp) tg g) (ht : ∀ s H C cl fp, PTs (blkX X scope s H C cl fp) ifs tt)
    (hb : ∀ s H C cl fp D, BD (blkX X scope s H C cl fp) (inBody (emit D (blkX X scope s H C cl fp).env) gs[1]? e 0 (.ref D) (blkX X scope s H C cl fp).env) ws (tb D))
    (hfs : ∀ x, foldedSetIterable iter X.env x = pure x) (h : tCo o0 wi g tt tb (own.map (·.2)) σ H Q)
    (hRR : ∀ D C s' m H', Inv X pins σ H' s' → Q (.ref D) H' → s'.heap.Ns C m → FpOk X pins H' C → compPost (model X.prog X.w) X.A X.xe use Qf (.ref D) C (.ok .next) s') :
    wpAny (model X.prog X.w) X.A (comprehension e scope X.env pos' newAcc false (eval iter X.env) use) Qf X.xe s := by
  have hfree : ∀ y ∈ scope.names, y.2 = .free → ∃ c, X.env.cells.lookup y.1 = some c := fun y hy ey => (ok.free y hy ey).elim (fun z => I.ok.has _ (.inl z)) fun z => I.ok.has _ (.inr z)
  obtain ⟨rest, egs⟩ : ∃ rest, gs = ⟨tg, iter, ifs, 0⟩ :: rest := by
    cases gs with
    | nil => cases hk
    | cons c r =>
      have : c = ⟨tg, iter, ifs, 0⟩ := Option.some.inj hk
      exact ⟨r, by rw [this]⟩
  refine wpAny_comprehension_free (use := use) ((hsp 0 X.env).cl.trans egs) hfs (closure_ok hfree) ok.kind (fun y hy ey => by rw [ok.uniq y hy, ey])
    (thn (hi.run pins s σ H _ I h) fun xv s1 hx => thn hx fun itv s2 h2 => ?_)
  obtain ⟨it, fp, tn, J, H2, rfl, I2, T, st2, f2, q⟩ := h2
  refine hnew _ _ _ (newEnv_comp ?_)
  have hDn : H2 s2.heap.objs.size = none := I2.hok.fresh (Nat.le_refl _)
  have cw := q _ hDn
  generalize hD : s2.heap.objs.size = D at cw hDn
  have keep1 : ∀ b o, s2.heap.get? b = some o → (s2.heap.push ob).get? b = some o := fun b o z => Heap.get?_push_of_some _ z
  have I3 : Inv X pins σ (upd H2 D o0) { s2 with heap := s2.heap.push ob } := by
    refine I2.laid (t' := s2.toks) keep1 (Nat.le_of_eq hD) ?_
    rw [← hD]
    exact hob _ s2.heap I2.big
  generalize hs3 : ({ s2 with heap := s2.heap.push ob } : Shared) = s3 at I3
  have h3 : s3.heap = s2.heap.push ob := by rw [← hs3]
  have f3 : ∀ b ∈ fp, FpOk X pins (upd H2 D o0) b ∧ b < s3.heap.objs.size := fun b hb => by
    obtain ⟨o, z, _⟩ := T.obj _ _ st2 b hb
    have lt := Heap.lt_size z
    refine ⟨⟨?_, (f2 b hb).2⟩, by rw [h3, Heap.size_push]; exact Nat.lt_succ_of_lt lt⟩
    rw [upd_ne (by rw [← hD]; exact Nat.ne_of_lt lt)]
    exact (f2 b hb).1
  have I4 := block_start I3 ok hN f3
  have nfp : ∀ b ∈ fp, (upd H2 D o0) b = none := fun b hb => (f3 b hb).1.1
  generalize hcl : cellsFrom (s3.heap.objs.size + 1) scope.names (cloFrom X.env.cells scope.names []) = cl at I4
  have pg := hg s3 (upd H2 D o0) s3.heap.objs.size cl fp
  have pt := ht s3 (upd H2 D o0) s3.heap.objs.size cl fp
  have pb := hb s3 (upd H2 D o0) s3.heap.objs.size cl fp D
  have fB : ∀ b ∈ fp, FpOk (blkX X scope s3 (upd H2 D o0) s3.heap.objs.size cl fp) [] (upd H2 D o0) b := fun b hb =>
    ⟨nfp b hb, (I4.ok.exf b hb).1, I4.ok.exfs b hb, .inl hb, fun x c z => (I4.ok.exf b hb).2 x c z, fun p hp => absurd (show p ∈ ([] : List (Addr × Obj)) ++ [] from hp) (by simp)⟩
  have st4 : tn 0 (pushCells (s3.heap.push { cls := .type "dict", data := .dict #[] }) scope.names) := T.keep _ _ _ st2 fun b _ o z => pushCells_keeps _ _ _ _ (Heap.get?_push_of_some _ (by rw [h3]; exact keep1 _ _ z))
  have lp := loop_cl (X := blkX X scope s3 (upd H2 D o0) s3.heap.objs.size cl fp) (e := e) (k := 0) (pins := []) (σ := σ) hc rfl (hsp D _) hk T pg pt pb hws I4 st4 fB cw
  have lp2 : codeAny (model X.prog X.w) X.A (.compLoop e 0 (.ref it) (.ref D) (compEnvC scope cl s3.heap.objs.size X.env)) (compPost (model X.prog X.w) X.A X.xe use Qf (.ref D) s3.heap.objs.size) { s3 with heap := pushCells (s3.heap.push { cls := .type "dict", data := .dict #[] }) scope.names } := by
    have fin : ∀ H5 s5, Inv (blkX X scope s3 (upd H2 D o0) s3.heap.objs.size cl fp) [] (wipe σ (own.map (·.2))) H5 s5 → Q (.ref D) H5 → compPost (model X.prog X.w) X.A X.xe use Qf (.ref D) s3.heap.objs.size (.ok .next) s5 := fun H5 s5 I5 qq => by
      have I7 : Inv X pins σ H5 s5 := I3.call' (ch := fp) I5.os I5.base I5.hok I5.bare fun b hb => ⟨(f3 b hb).1.2.2.2.1, (f3 b hb).1.2.1, (f3 b hb).1.2.2.2.2.1, (f3 b hb).1.2.2.2.2.2⟩
      have nC : H5 s3.heap.objs.size = none := I5.free
      obtain ⟨m, hn, _⟩ := I5.loc
      exact hRR D s3.heap.objs.size s5 m H5 I7 qq hn (I3.fpOk (Nat.le_refl _) nC)
    refine codeAny_mono lp fun r s5 hr => ?_
    cases r with
    | error x => exact hr.elim
    | ok f =>
      obtain ⟨H5, I5, qq⟩ := hr
      have ef : compPost (model X.prog X.w) X.A X.xe use Qf (.ref D) s3.heap.objs.size (.ok f) s5 = compPost (model X.prog X.w) X.A X.xe use Qf (.ref D) s3.heap.objs.size (.ok .next) s5 := by cases use <;> rfl
      rw [ef]
      exact fin H5 s5 I5 qq
  subst hs3 hD hcl
  exact start_cl (env' := X.env) (hsp _ X.env) hk lp2 (T.self X.A 0 _ _ _ st4 lp2)
/-- a list comprehension -/
theorem new_list {E : Value → Shared → Prop} {Q1 : Value → Shared → Prop} {s1 : Shared} (h : Q1 (.ref s1.heap.objs.size) { s1 with heap := s1.heap.push { cls := .type "list", data := .seq ([] : List Value).toArray } }) :
    wpAny (model X.prog X.w) X.A (newList []) Q1 E s1 := wpAny_newObj_type h (by show 0 ≤ sizeLine; decide)
theorem new_dict {E : Value → Shared → Prop} {Q1 : Value → Shared → Prop} {s1 : Shared} (h : Q1 (.ref s1.heap.objs.size) { s1 with heap := s1.heap.push { cls := .type "dict", data := .dict #[] } }) :
    wpAny (model X.prog X.w) X.A newDict Q1 E s1 := wpAny_newObj_type h
/-- a new dict, for keys of either sort -/
def EmptyD (o0 : HO) : Prop := o0 = .dK [] ∨ o0 = .dT []
theorem EmptyD.ok {o0 : HO} (z : EmptyD o0) (H1 : Hp) (h : Heap) (b : sysModules < h.objs.size) : ObjOk X.prog X.w H1 (h.push { cls := .type "dict", data := .dict #[] }) h.objs.size o0 := by
  rcases z with rfl | rfl
  · exact dk_empty h b
  · exact dt_empty h b
/-- the turns of a list's last clause; of a dict's -/
def tApp (te : TE) (D : Addr) : L2.St → Hp → (Hp → Prop) → Prop := fun σ H Q => te σ H fun y H1 => ∃ ys, H1 D = some (.lst ys) ∧ ys.length < sizeLine ∧ Q (upd H1 D (.lst (ys ++ [y])))
def tPut (tk tv : TE) (D : Addr) : L2.St → Hp → (Hp → Prop) → Prop := fun σ H Q => tk σ H fun y H1 => tv σ H1 fun z H2 => ∃ H3, DPut H2 D y z H3 ∧ Q H3
section
variable {kx vx elt tg iter : Expr} {ifs : List Expr} {rest : List Comprehension} {scope : Scope} {own : List (Str × Nat)} {pos : Pos} {wi : TI} {g : TG} {tt : TT} {tb : Addr → L2.St → Hp → (Hp → Prop) → Prop} {ws : List Nat}
theorem pe_coD {o0 : HO} (z : EmptyD o0) (hc : X.calm = true) (hN : X.N.Nodup) (hi : PI X tg iter wi) (ok : BlkOk X.N X.env.scope scope own) (hws : ∀ i ∈ ws, i ∈ own.map (·.2))
    (hg : ∀ s H C cl fp, PG (blkX X scope s H C cl fp) tg g) (ht : ∀ s H C cl fp, PTs (blkX X scope s H C cl fp) ifs tt)
    (hb : ∀ s H C cl fp D, BD (blkX X scope s H C cl fp) (inBody (do
      let kv ← eval kx (blkX X scope s H C cl fp).env
      let vv ← holding [kv] (eval vx (blkX X scope s H C cl fp).env)
      standAt { kx.pos with endLine := vx.pos.endLine, endCol := vx.pos.endCol }
      holding [kv, vv] (dictSet D kv vv)) (⟨tg, iter, ifs, 0⟩ :: rest)[1]? (.DictComp kx vx (⟨tg, iter, ifs, 0⟩ :: rest) scope pos) 0 (.ref D) (blkX X scope s H C cl fp).env) ws (tb D))
    (hfs : ∀ x, foldedSetIterable iter X.env x = pure x := by intro _; rfl) : PE X (.DictComp kx vx (⟨tg, iter, ifs, 0⟩ :: rest) scope pos) (tCo o0 wi g tt tb (own.map (·.2))) := by
  refine ⟨fun pins s σ H Q I h => ?_⟩
  rw [arm_eval_DictComp]
  refine co_core (emit := fun D env => do
      let kv ← eval kx env
      let vv ← holding [kv] (eval vx env)
      standAt { kx.pos with endLine := vx.pos.endLine, endCol := vx.pos.endCol }
      holding [kv, vv] (dictSet D kv vv)) hc hN I (fun D env => .inr (.inr ⟨kx, vx, scope, pos, D, rfl, rfl, rfl⟩)) rfl (fun E Q1 s1 h1 => new_dict h1) z.ok rfl hi ok hws hg ht hb hfs h fun D C s' m H' I' q hn f => ⟨m, hn, fun h'' sb => ?_⟩
  obtain ⟨f0, f1, f2, f3, f4, f5⟩ := f
  exact ⟨.ref D, H', I'.turned (t' := s'.toks) (fun b o hb z => (sb.2 b hb).trans z) f0 f1 f3 f4 f5, rfl, q⟩
theorem pe_coL (hc : X.calm = true) (hN : X.N.Nodup) (hi : PI X tg iter wi) (ok : BlkOk X.N X.env.scope scope own) (hws : ∀ i ∈ ws, i ∈ own.map (·.2))
    (hg : ∀ s H C cl fp, PG (blkX X scope s H C cl fp) tg g) (ht : ∀ s H C cl fp, PTs (blkX X scope s H C cl fp) ifs tt)
    (hb : ∀ s H C cl fp D, BD (blkX X scope s H C cl fp) (inBody (do let _ ← call (.builtin "list.append") [.ref D, ← eval elt (blkX X scope s H C cl fp).env]) (⟨tg, iter, ifs, 0⟩ :: rest)[1]? (.ListComp elt (⟨tg, iter, ifs, 0⟩ :: rest) scope pos) 0 (.ref D) (blkX X scope s H C cl fp).env) ws (tb D))
    (hfs : ∀ x, foldedSetIterable iter X.env x = pure x := by intro _; rfl) : PE X (.ListComp elt (⟨tg, iter, ifs, 0⟩ :: rest) scope pos) (tCo (.lst []) wi g tt tb (own.map (·.2))) := by
  refine ⟨fun pins s σ H Q I h => ?_⟩
  rw [eval_ListComp]
  refine co_core (o0 := .lst []) (emit := fun D env => do let _ ← call (.builtin "list.append") [.ref D, ← eval elt env]) hc hN I (fun D env => .inl ⟨elt, scope, pos, rfl, rfl⟩) rfl (fun E Q1 s1 h1 => new_list h1)
    (fun H1 h b => ⟨Nat.zero_le _, [], 0, .nil, Heap.get?_push_size _ rfl⟩) rfl hi ok hws hg ht hb hfs h fun D C s' m H' I' q hn f => ⟨m, hn, fun h'' sb => ?_⟩
  obtain ⟨f0, f1, f2, f3, f4, f5⟩ := f
  exact ⟨.ref D, H', I'.turned (t' := s'.toks) (fun b o hb z => (sb.2 b hb).trans z) f0 f1 f3 f4 f5, rfl, q⟩
end
end
end Lw
set_option Elab.async false
set_option linter.all false
set_option maxRecDepth 100000
set_option maxHeartbeats 4000000
/-! books.py: leads_of -/
namespace Lw
open PySem PySem.Spec PyProof.Rows L2
/-- a clause over a walk, by an invariant -/
theorem clw_it {J : It} {n : Nat} {G : Hp → Prop} {Y : Nat → Hp → V → Hp → Prop} (w : Walk J n G Y) {g : TG} {tt : TT} {tb : L2.St → Hp → (Hp → Prop) → Prop} {vs : List Nat} {σ : L2.St} {H : Hp} {Q : Hp → Prop} (Pv : Nat → Hp → Prop) (h0 : Pv 0 H)
    (hG : ∀ i H', i ≤ n → Pv i H' → G H')
    (hs : ∀ i x Ha Hb, i < n → Pv i Ha → Y i Ha x Hb → g x (wipe σ vs) Hb fun σ2 H2 => wipe σ2 vs = wipe σ vs ∧ tt σ2 H2 fun b H3 => if b = true then tb σ2 H3 (Pv (i + 1)) else Pv (i + 1) H3)
    (hd : ∀ H', Pv n H' → Q H') : ClW J g tt tb vs σ H Q := by
  refine ⟨fun i m H' => m = n - i ∧ i ≤ n ∧ Pv i H', ⟨n, by simp, Nat.zero_le _, h0⟩, ?_⟩
  rintro i m H' ⟨rfl, hi, p⟩
  by_cases hlt : i < n
  · exact .inr ⟨w.goes i H' hlt (hG i H' hi p), Pv (i + 1), fun H2 p2 => ⟨n - (i + 1), by omega, rfl, hlt, p2⟩, fun x H2 y => hs i x _ _ hlt p (w.yields i H' x H2 hlt (hG i H' hi p) y)⟩
  · have e : i = n := by omega
    subst e
    exact .inl ⟨w.stops H' (hG i H' hi p), hd H' p⟩
abbrev sLeads : Stmt := topS 41
def bodyRet : List Stmt → Expr
  | [.Return (some e) _] => e
  | _ :: r => bodyRet r
  | [] => .Name "" ⟨0, 0, 0, 0⟩
def compSc : Expr → Scope
  | .DictComp _ _ _ sc _ => sc
  | .ListComp _ _ sc _ => sc
  | .SetComp _ _ sc _ => sc
  | _ => defScope sLeads
def scLc : Scope := compSc (bodyRet (defBody sLeads))
abbrev NLeads : List Str := ["letters", "size", "steps", "given", "step", "before", "letter", "behind"]
theorem scLeads : FnScope NLeads ["letters", "size", "steps"] (defScope sLeads) := ⟨rfl, rfl, rfl, by decide +kernel, rfl, by decide +kernel, by decide +kernel⟩
section
variable {P : Program} {w : World} {K : PySem.W.Frag} {mg : Str → Option Value} {base : Heap}
/-- whether the key is among these -/
def memK (k : List Key) (ks : List (List Key)) : Bool := ks.any fun x => decide (x = k)
/-- an empty tuple that has always been there: a parameter that is not told -/
def Zt (K : PySem.W.Frag) (t : Addr) : Prop := ∃ (o : Obj) (n : Nat), K.lookup t = some o ∧ o.cls = .type "tuple" ∧ o.data = .seq #[] n
theorem Zt.sq {K : PySem.W.Frag} {t : Addr} (z : Zt K t) {H : Hp} : SqT K H t [] := by
  obtain ⟨o, n, h1, h2, h3⟩ := z
  exact .inr ⟨o, #[], n, h1, h2, h3, Nat.zero_le _, .nil⟩
theorem or_seqG {K : PySem.W.Frag} {i : Nat} {σ : L2.St} {H : Hp} {p : Addr} {xs : List V} {R : It → Hp → Prop} (hs : σ[i]? = some (some (.ref p))) (hp : (H p = some (.lst xs) ∨ H p = some (.tup xs)) ∨ (xs = [] ∧ Zt K p))
    (h : ∀ J G, Walk J xs.length G (YAt xs) → (∀ H', (∀ o, H p = some o → H' p = some o) → G H') → R J H) :
    iList K (tVar i) σ H R ∨ iTup K (tVar i) σ H R := by
  rcases hp with hp | ⟨rfl, z⟩
  · exact or_seq hs hp h
  · exact .inr ⟨_, hs, p, rfl, ⟨[], z.sq⟩, h _ _ (walk_tup (K := K) (a := p)) fun H' _ => z.sq⟩
/-- what is told of a step's parts: the keys of the right ones -/
def stepKeys (zs : List PyData) : List (List Key) := zs.map keysOf
/-- the states to which a step leads -/
def behinds (n : Int) (zs : List PyData) (b : Int) (c : Str) : List V := picks (fun i => V.int (0 + (i : Int))) (fun i => memK [.inl b, .inr c, .inl (0 + (i : Int))] (stepKeys zs)) n.toNat
/-- the keys of the table -/
def ways (L : Str) (n : Int) : List (Int × Str) := (List.range n.toNat).flatMap fun (b : Nat) => L.cps.toList.map fun c => ((0 + (b : Int) : Int), sgn c)
/-- tuple of a list or a tuple -/
def rTupOf (K : PySem.W.Frag) : List V → Hp → VK → Prop := fun xs H Q => ∃ p ys, xs = [.ref p] ∧ ((SqL K H p ys ∧ ∀ l, H l = none → Q (.ref l) (upd H l (.tup ys))) ∨ (SqT K H p ys ∧ Q (.ref p) H))
/-- what stands at a key -/
def LeadP (H : Hp) (n : Int) (zs : List PyData) (p : List Key × V) (q : Int × Str) : Prop := p.1 = [.inl q.1, .inr q.2] ∧ ∃ t, p.2 = .ref t ∧ H t = some (.tup (behinds n zs q.1 q.2))
theorem LeadP.keep {H H' : Hp} {n : Int} {zs : List PyData} {p : List Key × V} {q : Int × Str} {l : Addr} {kvs : List (List Key × V)} (h : ∀ b o, H b = some o → b ≠ l → H' b = some o) (hl : H l = some (.dT kvs)) (x : LeadP H n zs p q) : LeadP H' n zs p q := by
  obtain ⟨e, t, et, ht⟩ := x
  exact ⟨e, t, et, h _ _ ht (ne_of ht hl (fun z => nomatch z))⟩
theorem ways_len (L : Str) (n : Int) : (ways L n).length = n.toNat * L.length := by
  unfold ways
  generalize n.toNat = m
  induction m with
  | zero => simp
  | succ m ih =>
    rw [List.range_succ, List.flatMap_append, List.length_append, ih]
    simp [Nat.succ_mul, Str.length]
theorem ways_succ (L : Str) (i : Nat) : ways L ((i + 1 : Nat) : Int) = ways L (i : Nat) ++ L.cps.toList.map fun c => ((0 + (i : Int) : Int), sgn c) := by
  unfold ways
  rw [Int.toNat_natCast, Int.toNat_natCast, List.range_succ, List.flatMap_append]
  simp
theorem valV_mem {κ : Type} [DecidableEq κ] : ∀ {kvs : List (κ × V)} {k : κ} {v : V}, valV kvs k = some v → (k, v) ∈ kvs := by
  intro kvs k v h
  unfold valV at h
  obtain ⟨p, hp, rfl⟩ := Option.map_eq_some_iff.mp h
  have h1 := List.mem_of_find?_eq_some hp
  have h2 : p.1 = k := of_decide_eq_true (List.find?_some (p := fun kv : κ × V => decide (kv.1 = k)) hp)
  rw [← h2]
  exact h1
theorem paired_mem {α β : Type} {R : α → β → Prop} {x : α} : ∀ {xs : List α} {ys : List β}, Paired R xs ys → x ∈ xs → ∃ y, y ∈ ys ∧ R x y
  | _, _, .nil, h => absurd h List.not_mem_nil
  | _, _, .cons r t, h => by
    rcases List.mem_cons.mp h with e | h
    · subst e
      exact ⟨_, List.mem_cons_self, r⟩
    · obtain ⟨y, h1, h2⟩ := paired_mem t h
      exact ⟨y, List.mem_cons_of_mem _ h1, h2⟩
theorem paired_snoc {α β : Type} {R : α → β → Prop} {x : α} {y : β} : ∀ {xs : List α} {ys : List β}, Paired R xs ys → R x y → Paired R (xs ++ [x]) (ys ++ [y])
  | _, _, .nil, h => .cons h .nil
  | _, _, .cons r t, h => .cons r (paired_snoc t h)
theorem sgn_inj {a b : Nat} (h : sgn a = sgn b) : a = b := by
  unfold sgn at h
  injection h with h
  have := congrArg (fun x => x.toList) h
  simpa using this
theorem ways_new {L : Str} {i j c : Nat} (nd : L.cps.toList.Nodup) (hj : j < L.cps.size) (hc : L.cps[j]? = some c) : ((0 + (i : Int) : Int), sgn c) ∉ ways L (i : Nat) ++ (L.cps.toList.take j).map fun c => ((0 + (i : Int) : Int), sgn c) := by
  intro h
  rcases List.mem_append.mp h with h | h
  · unfold ways at h
    obtain ⟨b, hb, h⟩ := List.mem_flatMap.mp h
    obtain ⟨d, _, e⟩ := List.mem_map.mp h
    have h1 := congrArg Prod.fst e
    have h2 := List.mem_range.mp hb
    simp at h1 h2
    omega
  · obtain ⟨d, hd, e⟩ := List.mem_map.mp h
    have h1 := sgn_inj (congrArg Prod.snd e)
    subst h1
    obtain ⟨m, hm, e2⟩ := List.getElem_of_mem hd
    rw [List.length_take] at hm
    rw [List.getElem_take] at e2
    have hj' : j < L.cps.toList.length := by simpa using hj
    have e3 : L.cps.toList[j] = d := by
      have h2 : L.cps.toList[j]? = some d := by rw [Array.getElem?_toList]; exact hc
      rw [List.getElem?_eq_getElem hj'] at h2
      exact Option.some.inj h2
    rw [List.nodup_iff_pairwise_ne] at nd
    have h4 : m < j := by omega
    exact (List.pairwise_iff_getElem.mp nd m j (by omega) hj' h4) (e2.trans e3.symm)
/-- the table at l -/
def LeadsAt (H : Hp) (l : Addr) (L : Str) (n : Int) (zs : List PyData) : Prop := ∃ kvs : List (List Key × V), H l = some (.dT kvs) ∧
  Paired (LeadP H n zs) kvs (ways L n)
def spLeads (K : PySem.W.Frag) : Sp := fun vs H Q _ => ∃ (L : Str) (n : Int) (a : Addr) (xs : List V) (p : Addr) (k : Nat) (zs : List PyData), vs = [.str L, .int n, .ref a] ∧ 0 ≤ n ∧ n ≤ 7 ∧ L.length ≤ 26 ∧ L.cps.toList.Nodup ∧ ((H a = some (.lst xs) ∨ H a = some (.tup xs)) ∨ (xs = [] ∧ Zt K a)) ∧
  Paired (Dat p H k) xs zs ∧ zs.length < 100000 ∧ (∀ z ∈ zs, stepP L n z = true) ∧ ∀ l H', H l = none → Same H H' → LeadsAt H' l L n zs → Q (.ref l) H'
theorem ok_leads {f : Addr} {fd : FuncData} (F : Fun K "leads_of" "leads_of" sLeads f fd) (tn : mg "tuple" = none) (rn : mg "range" = none) : FnOk P w K mg base CX0 1 f fd ["letters", "size", "steps"] (spLeads K) := by
  refine F.ok scLeads (fun vs H Q E h => ?_) (fun cdv A outer s H vs Q E hr h => ?_)
  · obtain ⟨L, n, a, xs, p, k, zs, rfl, _⟩ := h
    rfl
  · obtain ⟨L, n, a, xs, p, k, zs, rfl, n0, n7, hL, nd, ha, hx, hz, hst, q⟩ := h
    refine ⟨_, pss_cons (ps_set (i := 3) scLeads.nd rfl (.inr rfl) (pe_coD (o0 := .dT []) (own := [("step", 4)]) (g := gName 4) (tt := tYes) (tb := tPut (tVar 4) (tC (.bl true))) (ws := []) (.inr rfl) (by rfl) scLeads.nd (pi_or (pi_list (pv 2)) (pi_tup (pv 2)))
        (blkOk_by (own := [("step", 4)]) (N := NLeads) (sc := defScope sLeads) (by decide +kernel)) (fun i hi => absurd hi List.not_mem_nil) (fun _ _ _ _ _ => by exact (pg_name (i := 4) scLeads.nd rfl (Or.inl rfl))) (fun _ _ _ _ _ => pts_nil)
        (fun _ _ _ _ _ D => by exact (bd_dict (D := D) (hu_of hr) rfl (pv 4) pe_bl))))
      (pss_one (ps_ret (pe_coD (o0 := .dT []) (own := [("before", 5), ("letter", 6)]) (g := gName 5) (tt := tYes)
        (tb := fun D => tCl (iStr (tVar 0)) (gName 6) tYes (tPut (tTup (tCons (tVar 5) (tCons (tVar 6) tNil))) (tCB (rTupOf K) (tCons (tLc (iRng1 (tCons (tVar 1) tNil)) (gName 7) (tTest (tDIn (tTup (tCons (tVar 5) (tCons (tVar 6) (tCons (tVar 7) tNil)))) (tVar 3))) (tVar 7) [7]) tNil)) D) [6]) (ws := [6])
        (.inr rfl) (by rfl) scLeads.nd (pi_range1 (by rfl) rn (pa_cons (pv 1) pa_nil))
        (blkOk_by (own := [("before", 5), ("letter", 6)]) (N := NLeads) (sc := defScope sLeads) (by decide +kernel)) (fun i hi => by simp at hi; simp [hi]) (fun _ _ _ _ _ => by exact (pg_name (i := 5) scLeads.nd rfl (Or.inr rfl))) (fun _ _ _ _ _ => pts_nil)
        (fun _ _ _ _ _ D => by
          exact (bd_cl (vs := [6]) (ws := []) rfl rfl (.inr (.inr ⟨_, _, _, _, D, rfl, rfl, rfl⟩)) rfl (pi_str (pv 0)) (pg_name (i := 6) scLeads.nd rfl (Or.inr rfl)) pts_nil
            (bd_dict (D := D) (hu_of hr) rfl (pe_tup (pa_cons (pv 5) (pa_cons (pv 6) pa_nil)))
              (pe_callTy call_tuple_of (by rfl) tn (by decide +kernel) (pa_cons (pe_lc (own := [("behind", 7)]) (g := gName 7) (tt := tTest (tDIn (tTup (tCons (tVar 5) (tCons (tVar 6) (tCons (tVar 7) tNil)))) (tVar 3))) (te := tVar 7) (by rfl) scLeads.nd (pi_range1 (by rfl) rn (pa_cons (pv 1) pa_nil))
                (blkOk_by (own := [("behind", 7)]) (N := NLeads) (sc := relS scLc (defScope sLeads)) (by decide +kernel)) (fun _ _ _ _ _ => by exact (pg_name (i := 7) scLeads.nd rfl (Or.inl rfl)))
                (fun _ _ _ _ _ => by exact (pts_one (pt_cmp (pc_din (hu_of hr) (pe_tup (pa_cons (pv 5) (pa_cons (pv 6) (pa_cons (pv 7) pa_nil)))) (pv 3))))) (fun _ _ _ _ _ => by exact (pv 7))) pa_nil)))
            (fun i hi => absurd hi List.not_mem_nil) (fun _ => rfl)))))), ?_⟩
    refine or_seqG (i := 2) rfl ha fun J G w hG => fun D hD => ?_
    have naD : ∀ o, H a = some o → (upd H D (.dT [])) a = some o := fun o e => by rw [upd_ne (ne_of_none e hD)]; exact e
    have el := Paired.len hx
    refine clw_it w (fun i H' => Same H H' ∧ ∃ kvs : List (List Key × V), H' D = some (.dT kvs) ∧ kvs.length ≤ i ∧ ∀ k, (valV kvs k).isSome = memK k ((stepKeys zs).take i))
      ⟨Same.new' (Same.refl H) hD, [], upd_same, Nat.le_refl _, fun k => rfl⟩ (fun i H' hi h => hG H' fun o e => h.1 _ _ e) (fun i x Ha Hb hi hp y => ?_) (fun H1 h1 => ?_)
    · obtain ⟨rfl, ex⟩ := y
      obtain ⟨sm, kvs, hk, hl, hv⟩ := hp
      obtain ⟨z, ez, dz⟩ := paired_get hx ex
      have kr := (Dat.same sm k dz).step (L := L) (n := n) (hst z (List.mem_of_getElem? ez))
      refine ⟨rfl, _, rfl, _, dkT.put _ _ _ _ _ _ hk kr (Nat.lt_of_le_of_lt hl (Nat.lt_of_lt_of_le (show i < 100000 by omega) (by decide))), Same.mut' sm hD, _, upd_same, Nat.le_trans (putK_le _ _ _) (by omega), fun k' => ?_⟩
      have hi' : i < (stepKeys zs).length := by unfold stepKeys; rw [List.length_map]; omega
      have e1 : (stepKeys zs).take (i + 1) = (stepKeys zs).take i ++ [keysOf z] := by
        rw [List.take_succ_eq_append_getElem hi']
        have : (stepKeys zs)[i] = keysOf z := by
          have h2 : (stepKeys zs)[i]? = some (keysOf z) := by unfold stepKeys; rw [List.getElem?_map, ez]; rfl
          rw [List.getElem?_eq_getElem hi'] at h2
          exact Option.some.inj h2
        rw [this]
      rw [e1, valV_put]
      unfold memK
      rw [List.any_append]
      by_cases ek : k' = keysOf z
      · rw [if_pos ek]
        simp [ek]
      · rw [if_neg ek]
        have := hv k'
        unfold memK at this
        rw [this]
        simp [Ne.symm ek]
    · obtain ⟨s1, kg, hG1, _, hv⟩ := h1
      have hv : ∀ k, (valV kg k).isSome = memK k (stepKeys zs) := fun k => by
        rw [hv k, List.take_of_length_le (by unfold stepKeys; rw [List.length_map]; omega)]
      refine ⟨_, rfl, n, rfl, by omega, by omega, fun l hl => ?_⟩
      have hn : n.toNat ≤ 7 := by omega
      have lD : l ≠ D := fun e => by rw [e, hG1] at hl; cases hl
      refine clw_it walk_range (fun i H' => Same H1 H' ∧ ∃ kvs : List (List Key × V), H' l = some (.dT kvs) ∧ Paired (LeadP H' n zs) kvs (ways L (i : Nat))) ⟨Same.new' (Same.refl H1) hl, [], upd_same, .nil⟩ (fun _ _ _ _ => trivial) (fun i x Ha Hb hi hp y => ?_) (fun H2 h2 => ?_)
      · obtain ⟨rfl, rfl⟩ := y
        obtain ⟨sm, kvs, hkv, pr⟩ := hp
        refine ⟨rfl, _, rfl, L, rfl, ?_⟩
        refine clw_it walk_str (fun j H' => Same H1 H' ∧ ∃ kvs : List (List Key × V), H' l = some (.dT kvs) ∧ Paired (LeadP H' n zs) kvs (ways L (i : Nat) ++ (L.cps.toList.take j).map fun c => ((0 + (i : Int) : Int), sgn c))) ⟨sm, kvs, hkv, by simpa using pr⟩ (fun _ _ _ _ => trivial)
          (fun j x Ha Hb hj hp y => ?_) (fun H3 h3 => ?_)
        · obtain ⟨rfl, c, hc, rfl⟩ := y
          obtain ⟨sm, kvs, hkv, pr⟩ := hp
          refine ⟨rfl, _, rfl, _, rfl, by show 2 ≤ sizeLine; decide, fun T hT => ?_⟩
          have lT : l ≠ T := ne_of_none hkv hT
          refine ⟨_, rfl, n, rfl, by omega, by omega, fun D2 hD2 => ?_⟩
          have sT : Same Hb (upd Hb T (.tup [.int (0 + (i : Int)), .str (sgn c)])) := Same.new' (Same.refl Hb) hT
          refine lc_pick walk_range (fun i => V.int (0 + (i : Int))) (fun q => memK [.inl (0 + (i : Int)), .inr (sgn c), .inl (0 + (q : Int))] (stepKeys zs)) hD2 (by omega) (fun _ _ => trivial) (fun q x Hc Hd C Z hq sc y k1 k2 => ?_) (fun H4 s4 hD4 => ?_)
          · obtain ⟨rfl, rfl⟩ := y
            refine ⟨rfl, _, rfl, _, rfl, _, rfl, by show 3 ≤ sizeLine; decide, fun T2 hT2 => ?_⟩
            have sT2 : Same Hd (upd Hd T2 (.tup [.int (0 + (i : Int)), .str (sgn c), .int (0 + (q : Int))])) := Same.new' (Same.refl Hd) hT2
            have hG2 : (upd Hd T2 (.tup [.int (0 + (i : Int)), .str (sgn c), .int (0 + (q : Int))])) D = some (.dT kg) := sT2 _ _ (sc _ _ (sT _ _ (sm _ _ hG1)))
            refine ⟨_, rfl, D, _, rfl, DGet.t (k := [.inl (0 + (i : Int)), .inr (sgn c), .inl (0 + (q : Int))]) hG2 upd_same, _, rfl, ?_⟩
            rw [hv]
            cases e : memK [.inl (0 + (i : Int)), .inr (sgn c), .inl (0 + (q : Int))] (stepKeys zs) with
            | true => exact iteT ⟨_, rfl, k1 _ e sT2⟩
            | false => exact iteF (k2 _ e sT2)
          · refine ⟨D2, _, rfl, .inl ⟨.inl (.inl hD4), fun t ht => ?_⟩⟩
            have s5 : Same Hb (upd H4 t (.tup (picks (fun i => V.int (0 + (i : Int))) (fun q => memK [.inl (0 + (i : Int)), .inr (sgn c), .inl (0 + (q : Int))] (stepKeys zs)) n.toNat))) := (sT.trans s4).trans (Same.new' (Same.refl H4) ht)
            have hT5 := Same.new' (Same.refl H4) ht (o := .tup (picks (fun i => V.int (0 + (i : Int))) (fun q => memK [.inl (0 + (i : Int)), .inr (sgn c), .inl (0 + (q : Int))] (stepKeys zs)) n.toNat)) _ _ (s4 _ _ upd_same)
            have hlen : kvs.length ≤ 7 * 26 + 26 := by
              rw [Paired.len pr, List.length_append, ways_len]
              have : ((L.cps.toList.take j).map fun c => ((0 + (i : Int) : Int), sgn c)).length ≤ 26 := by
                rw [List.length_map, List.length_take]
                have : L.cps.toList.length ≤ 26 := by simpa [Str.length] using hL
                omega
              have h7 : ((i : Nat) : Int).toNat * L.length ≤ 7 * 26 := Nat.mul_le_mul (by omega) hL
              omega
            refine ⟨_, DPut.t (k := [.inl (0 + (i : Int)), .inr (sgn c)]) (s5 _ _ hkv) hT5 (Nat.lt_of_le_of_lt hlen (by decide)), Same.mut' (sm.trans s5) hl, _, upd_same, ?_⟩
            have new : valV kvs [.inl (0 + (i : Int)), .inr (sgn c)] = none := by
              cases ev : valV kvs [.inl (0 + (i : Int)), .inr (sgn c)] with
              | none => rfl
              | some v =>
                exfalso
                have hm := valV_mem ev
                obtain ⟨q, hq, e1, _⟩ := paired_mem pr hm
                refine ways_new (i := i) nd hj hc ?_
                have : q = ((0 + (i : Int) : Int), sgn c) := by
                  obtain ⟨q1, q2⟩ := q
                  injection e1 with z1 z2
                  injection z2 with z2 _
                  cases z1; cases z2; rfl
                rw [← this]
                exact hq
            rw [putK_new _ new]
            have e2 : L.cps.toList.take (j + 1) = L.cps.toList.take j ++ [c] := by
              have hj' : j < L.cps.toList.length := by simpa using hj
              rw [List.take_succ_eq_append_getElem hj']
              have : L.cps.toList[j] = c := by
                have h2 : L.cps.toList[j]? = some c := by rw [Array.getElem?_toList]; exact hc
                rw [List.getElem?_eq_getElem hj'] at h2
                exact Option.some.inj h2
              rw [this]
            rw [e2, List.map_append, ← List.append_assoc]
            have hkeep : ∀ b o, Hb b = some o → b ≠ l → (upd (upd H4 t (.tup (picks (fun i => V.int (0 + (i : Int))) (fun q => memK [.inl (0 + (i : Int)), .inr (sgn c), .inl (0 + (q : Int))] (stepKeys zs)) n.toNat))) l (.dT (kvs ++ [([.inl (0 + (i : Int)), .inr (sgn c)], .ref t)]))) b = some o := fun b o e nb => by
              rw [upd_ne nb]
              exact s5 _ _ e
            refine paired_snoc (Paired.imp2 (fun p q hpq => LeadP.keep hkeep hkv hpq) pr) ⟨rfl, t, rfl, ?_⟩
            rw [upd_ne (fun e => by
              have h3 := s5 _ _ hkv
              rw [← e, upd_same] at h3
              cases h3)]
            exact upd_same
        · obtain ⟨s3, kvs3, hk3, pr3⟩ := h3
          refine ⟨s3, kvs3, hk3, ?_⟩
          rw [ways_succ]
          rw [List.take_of_length_le (by simp)] at pr3
          exact pr3
      · obtain ⟨s2, kvs2, hk2, pr2⟩ := h2
        refine q l H2 (s1.free hl) (s1.trans s2) ⟨kvs2, hk2, ?_⟩
        have : ((n.toNat : Nat) : Int) = n := Int.toNat_of_nonneg n0
        rw [this] at pr2
        exact pr2
end
end Lw
set_option Elab.async false
set_option linter.all false
set_option maxRecDepth 100000
set_option maxHeartbeats 4000000
/-! books.py: steps_of -/
namespace Lw
open PySem PySem.Spec PyProof.Rows L2
abbrev sStepsOf : Stmt := topS 42
abbrev NStepsOf : List Str := ["leads", "before", "letter", "behind"]
theorem scStepsOf : FnScope NStepsOf ["leads"] (defScope sStepsOf) := ⟨rfl, rfl, rfl, by decide +kernel, rfl, by decide +kernel, by decide +kernel⟩
/-- the tuples ds, each at its place -/
def TupAt (H : Hp) (v : V) (d : List V) : Prop := ∃ t, v = .ref t ∧ H t = some (.tup d)
theorem TupAt.keep {H H' : Hp} {v : V} {d : List V} {l : Addr} {xs : List V} (h : ∀ b o, H b = some o → b ≠ l → H' b = some o) (hl : H l = some (.lst xs)) (x : TupAt H v d) : TupAt H' v d := by
  obtain ⟨t, et, ht⟩ := x
  exact ⟨t, et, h _ _ ht (ne_of ht hl (fun z => nomatch z))⟩
theorem TupAt.same {H H' : Hp} {v : V} {d : List V} (h : Same H H') (x : TupAt H v d) : TupAt H' v d := by
  obtain ⟨t, et, ht⟩ := x
  exact ⟨t, et, h _ _ ht⟩
/-- the steps in order -/
def trip (n : Int) (zs : List PyData) (qs : List (Int × Str)) : List (List V) := qs.flatMap fun q => (behinds n zs q.1 q.2).map fun x => [.int q.1, .str q.2, x]
theorem trip_snoc (n : Int) (zs : List PyData) (qs : List (Int × Str)) (q : Int × Str) : trip n zs (qs ++ [q]) = trip n zs qs ++ (behinds n zs q.1 q.2).map fun x => [.int q.1, .str q.2, x] := by
  unfold trip
  rw [List.flatMap_append]
  simp
theorem behinds_len {n : Int} {zs : List PyData} {b : Int} {c : Str} (hn : n ≤ 7) : (behinds n zs b c).length ≤ 7 := by
  have := picks_len (fun i => V.int (0 + (i : Int))) (fun i => memK [.inl b, .inr c, .inl (0 + (i : Int))] (stepKeys zs)) n.toNat
  unfold behinds
  omega
theorem trip_len {n : Int} {zs : List PyData} (hn : n ≤ 7) : ∀ qs : List (Int × Str), (trip n zs qs).length ≤ 7 * qs.length
  | [] => by simp [trip]
  | q :: qs => by
    have h1 := trip_len (zs := zs) hn qs
    have h2 := behinds_len (zs := zs) (b := q.1) (c := q.2) hn
    unfold trip at h1 ⊢
    rw [List.flatMap_cons, List.length_append, List.length_map, List.length_cons]
    omega
theorem take_snoc {α : Type} {l : List α} {i : Nat} {x : α} (h : l[i]? = some x) : l.take (i + 1) = l.take i ++ [x] := by
  have hi : i < l.length := by
    rcases Nat.lt_or_ge i l.length with z | z
    · exact z
    · rw [List.getElem?_eq_none z] at h; cases h
  rw [List.take_succ_eq_append_getElem hi]
  rw [List.getElem?_eq_getElem hi] at h
  rw [Option.some.inj h]
theorem valV_at {κ : Type} [DecidableEq κ] {v : V} {k : κ} : ∀ {kvs : List (κ × V)} {i : Nat}, (kvs.map (·.1)).Nodup → kvs[i]? = some (k, v) → valV kvs k = some v
  | [], _, _, h => by simp at h
  | p :: r, 0, _, h => by
    simp at h
    subst h
    exact valV_pos rfl
  | p :: r, i + 1, nd, h => by
    have h : r[i]? = some (k, v) := by simpa using h
    rw [List.map_cons, List.nodup_cons] at nd
    rw [valV_neg (fun e => nd.1 (by
      rw [e]
      exact List.mem_map.mpr ⟨(k, v), List.mem_of_getElem? h, rfl⟩))]
    exact valV_at nd.2 h
theorem ways_keys {H : Hp} {n : Int} {zs : List PyData} : ∀ {kvs : List (List Key × V)} {qs : List (Int × Str)}, Paired (LeadP H n zs) kvs qs → kvs.map (·.1) = qs.map fun q => [.inl q.1, .inr q.2]
  | _, _, .nil => rfl
  | _, _, .cons r t => by rw [List.map_cons, List.map_cons, ways_keys t, r.1]
theorem ways_nodup {L : Str} {n : Int} (nd : L.cps.toList.Nodup) : ((ways L n).map fun q => ([.inl q.1, .inr q.2] : List Key)).Nodup := by
  unfold ways
  generalize n.toNat = m
  induction m with
  | zero => simp
  | succ m ih =>
    rw [List.range_succ, List.flatMap_append, List.map_append, List.nodup_append]
    refine ⟨ih, ?_, fun a ha b hb e => ?_⟩
    · simp only [List.flatMap_cons, List.flatMap_nil, List.append_nil, List.map_map]
      rw [List.nodup_iff_pairwise_ne, List.pairwise_map]
      refine List.Pairwise.imp (fun {a b} hne e => hne ?_) (List.nodup_iff_pairwise_ne.mp nd)
      simp only [Function.comp] at e
      injection e with _ e
      injection e with e _
      exact sgn_inj (Sum.inr.inj e)
    · subst e
      simp only [List.mem_map, List.mem_flatMap, List.mem_range, List.flatMap_cons, List.flatMap_nil, List.append_nil] at ha hb
      obtain ⟨q1, ⟨x, hx, y, hy, rfl⟩, rfl⟩ := ha
      obtain ⟨q2, ⟨z, hz, rfl⟩, e2⟩ := hb
      injection e2 with e2 _
      have := Sum.inl.inj e2
      simp at this
      omega
section
variable {P : Program} {w : World} {K : PySem.W.Frag} {mg : Str → Option Value} {base : Heap}
def spStepsOf : Sp := fun vs H Q _ => ∃ (d : Addr) (L : Str) (n : Int) (zs : List PyData), vs = [.ref d] ∧ 0 ≤ n ∧ n ≤ 7 ∧ L.length ≤ 26 ∧ L.cps.toList.Nodup ∧ LeadsAt H d L n zs ∧
  ∀ l H' us, H l = none → Same H H' → H' l = some (.lst us) → Paired (TupAt H') us (trip n zs (ways L n)) → Q (.ref l) H'
theorem ok_stepsof {f : Addr} {fd : FuncData} (F : Fun K "steps_of" "steps_of" sStepsOf f fd) : FnOk P w K mg base CX0 1 f fd ["leads"] spStepsOf := by
  refine F.ok scStepsOf (fun vs H Q E h => ?_) (fun cdv A outer s H vs Q E hr h => ?_)
  · obtain ⟨d, L, n, zs, rfl, _⟩ := h
    rfl
  · obtain ⟨d, L, n, zs, rfl, n0, n7, hL, ndL, ⟨kvs, hd, pr⟩, q⟩ := h
    refine ⟨_, pss_one (ps_ret (pe_lock (pe_coL (own := [("before", 1), ("letter", 2), ("behind", 3)]) (g := gTup K 2 (gCons (gName 1) (gCons (gName 2) gNil))) (tt := tYes)
        (tb := fun D => tCl (iTup K (tDGet (tVar 0) (tTup (tCons (tVar 1) (tCons (tVar 2) tNil))))) (gName 3) tYes (tApp (tTup (tCons (tVar 1) (tCons (tVar 2) (tCons (tVar 3) tNil)))) D) [3]) (ws := [3])
        (by rfl) scStepsOf.nd (pi_keys (pv 0)) (blkOk_by (own := [("before", 1), ("letter", 2), ("behind", 3)]) (N := NStepsOf) (sc := defScope sStepsOf) (by decide +kernel)) (fun i hi => by simp at hi; simp [hi])
        (fun _ _ _ _ _ => by exact (pg_tup (by rfl) (pgs_cons (pg_name (i := 1) scStepsOf.nd rfl (Or.inl rfl)) (pgs_cons (pg_name (i := 2) scStepsOf.nd rfl (Or.inl rfl)) pgs_nil)))) (fun _ _ _ _ _ => pts_nil)
        (fun _ _ _ _ _ D => by
          exact (bd_cl (vs := [3]) (ws := []) rfl rfl (.inl ⟨_, _, _, rfl, rfl⟩) rfl (pi_tup (pe_dget (hu_of hr) (pv 0) (pe_tup (pa_cons (pv 1) (pa_cons (pv 2) pa_nil))) (fun _ _ => rfl))) (pg_name (i := 3) scStepsOf.nd rfl (Or.inl rfl)) pts_nil
            (bd_list (D := D) rfl (pe_tup (pa_cons (pv 1) (pa_cons (pv 2) (pa_cons (pv 3) pa_nil))))) (fun i hi => absurd hi List.not_mem_nil) (fun _ => rfl)))))), ?_⟩
    refine ⟨d, _, hd, trivial, fun od => ?_⟩
    generalize hHL : upd H d (.frz od (.dT kvs)) = HL
    have hdL : HL d = some (.frz od (.dT kvs)) := by rw [← hHL]; exact upd_same
    have keepL : ∀ b o, H b = some o → b ≠ d → HL b = some o := fun b o e nb => by rw [← hHL, upd_ne nb]; exact e
    have prL : Paired (LeadP HL n zs) kvs (ways L n) := Paired.imp2 (fun p q hpq => LeadP.keep keepL hd hpq) pr
    refine ⟨_, rfl, d, od, rfl, .inr ⟨kvs, hdL, fun D hD => ?_⟩⟩
    have nD : d ≠ D := ne_of_none hdL hD
    have el := Paired.len prL
    refine clw_it walk_keysT (fun i H' => Same HL H' ∧ ∃ us, H' D = some (.lst us) ∧ Paired (TupAt H') us (trip n zs ((ways L n).take i))) ⟨Same.new' (Same.refl HL) hD, [], upd_same, .nil⟩
      (fun i H' _ h => h.1 _ _ hdL) (fun i x Ha Hb hi hp y => ?_) (fun H2 h2 => ?_)
    · obtain ⟨rfl, k, v, qa, hk, rfl, hqa⟩ := y
      obtain ⟨sm, us, hus, pu⟩ := hp
      obtain ⟨⟨b, c⟩, hbc, ek, t, et, ht⟩ := paired_get prL hk
      have ek : k = [.inl b, .inr c] := ek
      have et : v = .ref t := et
      subst ek et
      refine ⟨qa, [.int b, .str c], rfl, .inl (.inl hqa), rfl, _, _, rfl, _, _, rfl, rfl, rfl, ?_⟩
      refine ⟨_, rfl, _, rfl, _, rfl, by show 2 ≤ sizeLine; decide, fun T hT => ?_⟩
      have sT : Same Hb (upd Hb T (.tup [.int b, .str c])) := Same.new' (Same.refl Hb) hT
      refine ⟨d, .ref t, rfl, .inr ⟨kvs, [.inl b, .inr c], T, .inr ⟨od, sT _ _ (sm _ _ hdL)⟩, rfl, upd_same, ?_⟩, t, rfl, ⟨_, .inl (.inl (sT _ _ (sm _ _ ht)))⟩, ?_⟩
      · exact (valV_at (by rw [ways_keys prL]; exact ways_nodup ndL) hk).symm
      have hti : (ways L n).take (i + 1) = (ways L n).take i ++ [(b, c)] := take_snoc hbc
      refine clw_it walk_tup (fun j H' => Same HL H' ∧ ∃ us, H' D = some (.lst us) ∧ Paired (TupAt H') us (trip n zs ((ways L n).take i) ++ ((behinds n zs b c).take j).map fun x => [.int b, .str c, x]))
        ⟨sm.trans sT, us, sT _ _ hus, by simpa using Paired.imp2 (fun _ _ z => TupAt.same sT z) pu⟩ (fun j H' _ h => .inl (.inl (h.1 _ _ ht))) (fun j x Hc Hd hj hp y => ?_) (fun H3 h3 => ?_)
      · obtain ⟨rfl, hx⟩ := y
        obtain ⟨sc, us2, hus2, pu2⟩ := hp
        refine ⟨rfl, _, rfl, _, rfl, _, rfl, by show 3 ≤ sizeLine; decide, fun T2 hT2 => ?_⟩
        have sT2 : Same Hd (upd Hd T2 (.tup [.int b, .str c, x])) := Same.new' (Same.refl Hd) hT2
        have nT2 : D ≠ T2 := ne_of_none hus2 hT2
        have hlen : us2.length ≤ 7 * (7 * 26) + 7 := by
          rw [Paired.len pu2, List.length_append, List.length_map, List.length_take]
          have h1 := trip_len (zs := zs) n7 ((ways L n).take i)
          have h2 := behinds_len (zs := zs) (b := b) (c := c) n7
          have h3 : ((ways L n).take i).length ≤ 7 * 26 := by
            rw [List.length_take, ways_len]
            exact Nat.le_trans (Nat.min_le_right _ _) (Nat.mul_le_mul (by omega) hL)
          omega
        refine ⟨us2, sT2 _ _ hus2, Nat.lt_of_le_of_lt hlen (by decide), Same.mut' (sc.trans sT2) hD, _, upd_same, ?_⟩
        rw [take_snoc hx, List.map_append, ← List.append_assoc]
        refine paired_snoc (Paired.imp2 (fun v dd z => TupAt.keep (fun b o e nb => by rw [upd_ne nb]; exact sT2 _ _ e) hus2 z) pu2) ⟨T2, rfl, ?_⟩
        rw [upd_ne nT2.symm]
        exact upd_same
      · obtain ⟨s3, us3, hus3, pu3⟩ := h3
        refine ⟨s3, us3, hus3, ?_⟩
        rw [hti, trip_snoc]
        rw [List.take_of_length_le (Nat.le_refl _)] at pu3
        exact pu3
    · obtain ⟨s2, us, hus, pu⟩ := h2
      refine ⟨s2 _ _ hdL, q D (upd H2 d (.dT kvs)) us ?_ (fun b o e => ?_) ?_ ?_⟩
      · rw [← hHL, upd_ne nD.symm] at hD
        exact hD
      · by_cases eb : b = d
        · subst eb
          rw [upd_same]
          rw [hd] at e
          exact e
        · rw [upd_ne eb]
          exact s2 _ _ (keepL _ _ e eb)
      · rw [upd_ne nD.symm]
        exact hus
      · rw [List.take_of_length_le (by rw [← el]; exact Nat.le_refl _)] at pu
        refine Paired.imp2 (fun v dd z => ?_) pu
        obtain ⟨t, et, ht⟩ := z
        refine ⟨t, et, ?_⟩
        rw [upd_ne (fun e => by
          rw [e, s2 _ _ hdL] at ht
          cases ht)]
        exact ht
end
end Lw
set_option Elab.async false
set_option linter.all false
set_option maxRecDepth 100000
set_option maxHeartbeats 4000000
/-! books.py: Book.__init__, of what is right -/
namespace Lw
open PySem PySem.Spec PyProof.Rows L2
abbrev cBook : Stmt := topS 38
abbrev sBInit : Stmt := inClass cBook 1
abbrev FSelf : List Str := ["_letters", "_size", "_starts", "_ends", "_leads", "_steps"]
/-- facts of the class Book -/
structure BkT (K : PySem.W.Frag) (mg : Str → Option Value) (C : Addr) : Prop where
  gC : mg "Book" = some (.ref C)
  cl : Cls K C
  na : ∀ f ∈ FSelf, NoAttr K C f
  cr : ClX.CRead K C (.type "type")
  most : ∃ u, ClX.CVal K C (.type "type") "MOST_STATES" (.int 7) u
/-- the fields of a book -/
def bkF (L : Str) (n : Int) (st en ld sd : Addr) : List (Str × V) := [("_letters", .str L), ("_size", .int n), ("_starts", .ref st), ("_ends", .ref en), ("_leads", .ref ld), ("_steps", .ref sd)]
/-- the book at a, its steps at sd -/
def BookOf (H : Hp) (C a sd : Addr) (L : Str) (n : Int) (S E : List V) (zs : List PyData) : Prop := ∃ dx st en ld us, H a = some (.ins C dx (bkF L n st en ld sd)) ∧ H st = some (.tup S) ∧ H en = some (.tup E) ∧ LeadsAt H ld L n zs ∧
  H sd = some (.lst us) ∧ Paired (TupAt H) us (trip n zs (ways L n))
/-- the book at a -/
def BookAt (H : Hp) (C a : Addr) (L : Str) (n : Int) (S E : List V) (zs : List PyData) : Prop := ∃ dx st en ld sd us, H a = some (.ins C dx (bkF L n st en ld sd)) ∧ H st = some (.tup S) ∧ H en = some (.tup E) ∧ LeadsAt H ld L n zs ∧
  H sd = some (.lst us) ∧ Paired (TupAt H) us (trip n zs (ways L n))
theorem BookOf.at_ {H : Hp} {C a sd : Addr} {L : Str} {n : Int} {S E : List V} {zs : List PyData} (b : BookOf H C a sd L n S E zs) : BookAt H C a L n S E zs := by
  obtain ⟨dx, st, en, ld, us, r⟩ := b
  exact ⟨dx, st, en, ld, sd, us, r⟩
theorem BookAt.same {H H' : Hp} {C a : Addr} {L : Str} {n : Int} {S E : List V} {zs : List PyData} (s : Same H H') (b : BookAt H C a L n S E zs) : BookAt H' C a L n S E zs := by
  obtain ⟨dx, st, en, ld, sd, us, h1, h2, h3, ⟨kvs, h4, h5⟩, h6, h7⟩ := b
  refine ⟨dx, st, en, ld, sd, us, s _ _ h1, s _ _ h2, s _ _ h3, ⟨kvs, s _ _ h4, Paired.imp2 (fun p q x => ?_) h5⟩, s _ _ h6, Paired.imp2 (fun _ _ x => TupAt.same s x) h7⟩
  obtain ⟨e, t, et, ht⟩ := x
  exact ⟨e, t, et, s _ _ ht⟩
/-- what is told of states: a list or a tuple; of steps -/
def StsTold (p : Addr) (H : Hp) (n : Int) (v : V) (xs : List V) : Prop := ∃ (a : Addr) (k : Nat) (zs : List PyData), v = .ref a ∧ (H a = some (.lst xs) ∨ H a = some (.tup xs)) ∧ a ≠ p ∧ Paired (Dat p H k) xs zs ∧ zs.length < 100000 ∧ wrongSt n zs = none ∧ xs.all flatV = true
def StpTold (p : Addr) (H : Hp) (L : Str) (n : Int) (v : V) (zs : List PyData) : Prop := ∃ (a : Addr) (k : Nat) (xs : List V), v = .ref a ∧ (H a = some (.lst xs) ∨ H a = some (.tup xs)) ∧ a ≠ p ∧ Paired (Dat p H k) xs zs ∧ zs.length < 100000 ∧ (∀ y ∈ zs, short1 y = true) ∧ wrongStep L n zs = none
theorem Dat.seqOf {p a : Addr} {H : Hp} {k : Nat} {xs : List V} {zs : List PyData} (ha : H a = some (.lst xs) ∨ H a = some (.tup xs)) (np : a ≠ p) (h : Paired (Dat p H k) xs zs) : ∃ z, Dat p H (k + 1) (.ref a) z ∧ partsOf z = zs ∧ seqP z = true := by
  rcases ha with ha | ha
  · exact ⟨.list zs, .inr (.inl ⟨a, xs, zs, rfl, rfl, ha, np, h⟩), rfl, rfl⟩
  · exact ⟨.tuple zs, .inr (.inr (.inl ⟨a, xs, zs, rfl, rfl, ha, np, h⟩)), rfl, rfl⟩
theorem StsTold.same {p : Addr} {H H' : Hp} {n : Int} {v : V} {xs : List V} (s : Same H H') (h : StsTold p H n v xs) : StsTold p H' n v xs := by
  obtain ⟨a, k, zs, rfl, ha, np, hx, r⟩ := h
  exact ⟨a, k, zs, rfl, ha.imp (fun e => s _ _ e) (fun e => s _ _ e), np, Paired.imp2 (fun _ _ d => Dat.same s k d) hx, r⟩
theorem StpTold.same {p : Addr} {H H' : Hp} {L : Str} {n : Int} {v : V} {zs : List PyData} (s : Same H H') (h : StpTold p H L n v zs) : StpTold p H' L n v zs := by
  obtain ⟨a, k, xs, rfl, ha, np, hx, r⟩ := h
  exact ⟨a, k, xs, rfl, ha.imp (fun e => s _ _ e) (fun e => s _ _ e), np, Paired.imp2 (fun _ _ d => Dat.same s k d) hx, r⟩
theorem lettersV_len {L : Str} (h : lettersV (.str L) = true) : 1 ≤ L.length ∧ L.length ≤ 4 := by
  have h' : (decide (1 ≤ L.length) && decide (L.length ≤ 4) && overV alphabet (.str L) && risesV L) = true := h
  simp only [Bool.and_eq_true, decide_eq_true_eq] at h'
  exact h'.1.1
theorem lt_one {x y : Nat} (h : [x] < [y]) : x < y := by
  cases h with
  | rel h => exact h
  | cons h => cases h
theorem lettersV_nodup {L : Str} (h : lettersV (.str L) = true) : L.cps.toList.Nodup := by
  have h' : (decide (1 ≤ L.length) && decide (L.length ≤ 4) && overV alphabet (.str L) && risesV L) = true := h
  simp only [Bool.and_eq_true, decide_eq_true_eq] at h'
  obtain ⟨⟨⟨h1, h4⟩, _⟩, hr⟩ := h'
  obtain ⟨⟨l⟩⟩ := L
  have h1 : 1 ≤ l.length := h1
  have h4 : l.length ≤ 4 := h4
  show l.Nodup
  unfold risesV at hr
  rw [List.all_eq_true] at hr
  have g : ∀ i, i + 1 < l.length → l.getD i 0 < l.getD (i + 1) 0 := fun i hi => by
    have := of_decide_eq_true (hr i (List.mem_range.mpr (by show i < l.length - 1; omega)))
    have this : [l.getD i 0] < [l.getD (i + 1) 0] := this
    exact lt_one this
  match l, h1, h4, g with
  | [x], _, _, _ => simp
  | [x, y], _, _, g =>
    have := g 0 (by simp)
    simp at this ⊢
    omega
  | [x, y, z], _, _, g =>
    have e0 := g 0 (by simp)
    have e1 := g 1 (by simp)
    simp at e0 e1 ⊢
    omega
  | [x, y, z, u], _, _, g =>
    have e0 := g 0 (by simp)
    have e1 := g 1 (by simp)
    have e2 := g 2 (by simp)
    simp at e0 e1 e2 ⊢
    omega
theorem wrongStep_none {L : Str} {n : Int} {zs : List PyData} (h : wrongStep L n zs = none) : ∀ z ∈ zs, stepP L n z = true := by
  intro z hz
  obtain ⟨i, hi, e⟩ := List.getElem_of_mem hz
  unfold wrongStep at h
  rw [List.find?_eq_none] at h
  have := h i (List.mem_range.mpr hi)
  unfold badAt at this
  simp only [Bool.or_eq_true, not_or, Bool.not_eq_true'] at this
  have h2 := this.1
  have eg : zs.getD i .none = z := getD_of (by rw [List.getElem?_eq_getElem hi, e])
  simp only [eg] at h2
  cases hs : stepP L n z with
  | true => rfl
  | false => rw [hs] at h2; exact absurd rfl h2
theorem sgs_map (L : Str) : sgs L = (L.cps.toList.map sgn).map V.str := by
  unfold sgs
  rw [List.map_map]
  rfl
theorem signs_sum (L : Str) (h : L.length ≤ 4) : ((L.cps.toList.map sgn).map (·.length)).sum + (L.cps.toList.map sgn).length * (Str.ofString "").length ≤ 16777216 := by
  have e : (Str.ofString "").length = 0 := by decide
  rw [e, Nat.mul_zero, Nat.add_zero, List.map_map]
  have : ∀ l : List Nat, (l.map ((·.length) ∘ sgn)).sum = l.length := fun l => by
    induction l with
    | nil => rfl
    | cons x r ih => rw [List.map_cons, List.sum_cons, ih, List.length_cons]; show 1 + r.length = _; omega
  rw [this]
  have : L.cps.toList.length ≤ 4 := by simpa [Str.length] using h
  omega
theorem join_signs {L : Str} (h : L.length ≤ 4) : Txt.join "" (L.cps.toList.map sgn) = L := by
  obtain ⟨⟨l⟩⟩ := L
  have h : l.length ≤ 4 := h
  match l, h with
  | [], _ => rfl
  | [x], _ => rfl
  | [x, y], _ => rfl
  | [x, y, z], _ => rfl
  | [x, y, z, u], _ => rfl
theorem Dat.offIns {p a C dx : Addr} {H : Hp} {fs : List (Str × V)} (ha : H a = some (.ins C dx fs)) : ∀ (k : Nat) {v : V} {z : PyData}, Dat p H k v z → Dat a H k v z
  | 0, _, _, d => d
  | k + 1, _, _, d => by
    rcases d with f | ⟨b, xs, zs, rfl, rfl, e, _, q⟩ | ⟨b, xs, zs, rfl, rfl, e, _, q⟩ | ⟨b, kvs, rfl, rfl, e, _⟩
    · exact .inl f
    · exact .inr (.inl ⟨b, xs, zs, rfl, rfl, e, ne_of e ha (fun z => nomatch z), Paired.imp2 (fun _ _ => Dat.offIns ha k) q⟩)
    · exact .inr (.inr (.inl ⟨b, xs, zs, rfl, rfl, e, ne_of e ha (fun z => nomatch z), Paired.imp2 (fun _ _ => Dat.offIns ha k) q⟩))
    · exact .inr (.inr (.inr ⟨b, kvs, rfl, rfl, e, ne_of e ha (fun z => nomatch z)⟩))
theorem TupAt.but {H H' : Hp} {v : V} {d : List V} {a C dx : Addr} {fs : List (Str × V)} (ha : H a = some (.ins C dx fs)) (b : But a H H') (x : TupAt H v d) : TupAt H' v d := by
  obtain ⟨t, et, ht⟩ := x
  exact ⟨t, et, b _ _ (ne_of ht ha (fun z => nomatch z)) ht⟩
theorem LeadsAt.but {H H' : Hp} {l : Addr} {L : Str} {n : Int} {zs : List PyData} {a C dx : Addr} {fs : List (Str × V)} (ha : H a = some (.ins C dx fs)) (b : But a H H') (x : LeadsAt H l L n zs) : LeadsAt H' l L n zs := by
  obtain ⟨kvs, h4, h5⟩ := x
  refine ⟨kvs, b _ _ (ne_of h4 ha (fun z => nomatch z)) h4, Paired.imp2 (fun p q x => ?_) h5⟩
  obtain ⟨e, t, et, ht⟩ := x
  exact ⟨e, t, et, b _ _ (ne_of ht ha (fun z => nomatch z)) ht⟩
theorem LeadsAt.same {H H' : Hp} {l : Addr} {L : Str} {n : Int} {zs : List PyData} (s : Same H H') (x : LeadsAt H l L n zs) : LeadsAt H' l L n zs := by
  obtain ⟨kvs, h4, h5⟩ := x
  refine ⟨kvs, s _ _ h4, Paired.imp2 (fun p q x => ?_) h5⟩
  obtain ⟨e, t, et, ht⟩ := x
  exact ⟨e, t, et, s _ _ ht⟩
section
variable {P : Program} {w : World} {K : PySem.W.Frag} {mg : Str → Option Value} {base : Heap}
/-- a def with defaults, by its body: nothing is let out -/
theorem fund_ok {x qual : Str} {params : Arguments} {body : List Stmt} {scope : Scope} {dvs : List V} {f : Addr} {fd : FuncData} {N ps : List Str} {k : Nat} {sp : Sp} (F : FunD K x qual params body scope dvs [] f fd) (S : FnScope N ps scope) (size : ∀ vs H Q E, sp vs H Q E → vs.length = ps.length)
    (go : ∀ (c : Value) (A : Around) (outer : List Env) (s : Shared) (H : Hp) (vs : List V) (Q : VK) (E : XK), Room k (A.deeper (envOfC qual scope s.heap.objs.size f c)) → sp vs H Q E → ∃ t, PSs (cxOf CX0 P w K mg base N qual scope f c A outer s H E).nox body t ∧ t { nx := fun _ H' => Q .non H', rt := Q } (L2.start N vs) H) : FnOk P w K mg base CX0 (k + 1) f fd ps sp := by
  obtain ⟨oc, od, dV, kV, doc, pm, an, c, ct, osl, rfl, lk, hc, _⟩ := F.ex
  exact fn_of lk hc S size fun A outer s H vs Q E hr h => by
    obtain ⟨t, ht, q⟩ := go c A outer s H vs Q E hr h
    exact ⟨t, ht.nox, q⟩
/-- what is built has these parts -/
def spBInit (C : Addr) : Sp := fun vs H Q _ => ∃ (a dx p : Addr) (L : Str) (n : Int) (v1 v2 v3 : V) (xs ys : List V) (zs : List PyData), vs = [.ref a, .str L, .int n, v1, v2, v3] ∧ H a = some (.ins C dx []) ∧ lettersV (.str L) = true ∧ 1 ≤ n ∧ n ≤ 7 ∧
  StsTold p H n v1 xs ∧ StsTold p H n v2 ys ∧ StpTold p H L n v3 zs ∧ ∀ H' sd, (∀ b o, H b = some o → b ≠ a → H' b = some o) → H sd = none → BookOf H' C a sd L n (ascV n xs) (ascV n ys) zs → Q .non H'
theorem scBInit : FnScope ["self", "letters", "size", "starts", "ends", "steps"] ["self", "letters", "size", "starts", "ends", "steps"] (defScope sBInit) := ⟨rfl, rfl, rfl, by decide +kernel, rfl, by decide +kernel, by decide +kernel⟩
theorem ok_binit {f C : Addr} {fd : FuncData} {dvs : List V} (F : FunD K "__init__" "Book.__init__" (defArgs sBInit) (defBody sBInit) (defScope sBInit) dvs [] f fd) (B : Bl mg) (T : BkT K mg C) (D1 : Def P w K mg base 3 "check_letters" ["letters"] spChkLetR) (D2 : Def P w K mg base 1 "is_integer" ["value"] (spIsInt K))
    (D3 : Def P w K mg base 4 "check_states" ["size", "values"] spChkStatesR) (D4 : Def P w K mg base 4 "check_steps" ["letters", "size", "values"] spChkStepsR) (D5 : Def P w K mg base 1 "ascending" ["size", "some"] (spAsc K))
    (D6 : Def P w K mg base 1 "leads_of" ["letters", "size", "steps"] (spLeads K)) (D7 : Def P w K mg base 1 "steps_of" ["leads"] spStepsOf) : FnOk P w K mg base CX0 5 f fd ["self", "letters", "size", "starts", "ends", "steps"] (spBInit C) := by
  obtain ⟨f1, fd1, G1, g1, k1, b1⟩ := D1.ex
  obtain ⟨f2, fd2, G2, g2, k2, b2⟩ := D2.ex
  obtain ⟨f3, fd3, G3, g3, k3, b3⟩ := D3.ex
  obtain ⟨f4, fd4, G4, g4, k4, b4⟩ := D4.ex
  obtain ⟨f5, fd5, G5, g5, k5, b5⟩ := D5.ex
  obtain ⟨f6, fd6, G6, g6, k6, b6⟩ := D6.ex
  obtain ⟨f7, fd7, G7, g7, k7, b7⟩ := D7.ex
  refine fund_ok F scBInit (fun vs H Q E h => ?_) (fun cdv A outer s H vs Q E hr h => ?_)
  · obtain ⟨a, dx, p, L, n, v1, v2, v3, xs, ys, zs, rfl, _⟩ := h
    rfl
  · obtain ⟨a, dx, p, L, n, v1, v2, v3, xs, ys, zs, rfl, ha, hL, n1, n7, t1, t2, t3, q⟩ := h
    refine ⟨_, pss_cons (ps_expr (pe_call G1 (hr.mono (by decide)) rfl g1 k1 b1 .nil pass0 (by exact (pa_cons (pv 1) pa_nil))))
      (pss_cons (ps_if (PW.pt (pw_or (pt_not (pt_val (pe_call G2 (hr.mono (by decide)) rfl g2 k2 b2 .nil pass0 (by exact (pa_cons (pv 2) pa_nil)))))
        (pw_or1 (pt_not (pt_chain op_le op_le pe_int (pv 2) (ClX.pe_cval (pe_glob (v := .ref C) (by rfl) T.gC rfl)))))))
        (pss_one ps_never) pss_nil)
      (pss_cons (ps_expr (pe_call G3 hr rfl g3 k3 b3 .nil pass0 (by exact (pa_cons (pv 2) (pa_cons (pv 3) pa_nil)))))
      (pss_cons (ps_expr (pe_call G3 hr rfl g3 k3 b3 .nil pass0 (by exact (pa_cons (pv 2) (pa_cons (pv 4) pa_nil)))))
      (pss_cons (ps_expr (pe_call G4 hr rfl g4 k4 b4 .nil pass0 (by exact (pa_cons (pv 1) (pa_cons (pv 2) (pa_cons (pv 5) pa_nil))))))
      (pss_cons (ps_fld (pv 0) (pe_join pe_str (pe_callTy (call_listS rfl) (by rfl) B.list (by decide +kernel) (by exact (pa_cons (pv 1) pa_nil)))) rfl)
      (pss_cons (ps_fld (pv 0) (pe_callTy call_int1 (by rfl) B.int (by decide +kernel) (by exact (pa_cons (pv 2) pa_nil))) rfl)
      (pss_cons (ps_fld (pv 0) (pe_call G5 (hr.mono (by decide)) rfl g5 k5 b5 .nil pass0 (by exact (pa_cons (pe_fld (pv 0) rfl) (pa_cons (pv 3) pa_nil)))) rfl)
      (pss_cons (ps_fld (pv 0) (pe_call G5 (hr.mono (by decide)) rfl g5 k5 b5 .nil pass0 (by exact (pa_cons (pe_fld (pv 0) rfl) (pa_cons (pv 4) pa_nil)))) rfl)
      (pss_cons (ps_fld (pv 0) (pe_call G6 (hr.mono (by decide)) rfl g6 k6 b6 .nil pass0 (by exact (pa_cons (pe_fld (pv 0) rfl) (pa_cons (pe_fld (pv 0) rfl) (pa_cons (pv 5) pa_nil))))) rfl)
      (pss_one (ps_fld (pv 0) (pe_call G7 (hr.mono (by decide)) rfl g7 k7 b7 .nil pass0 (by exact (pa_cons (pe_fld (pv 0) rfl) pa_nil))) rfl))))))))))), ?_⟩
    have hL4 : 1 ≤ L.length ∧ L.length ≤ 4 := lettersV_len hL
    refine ⟨_, rfl, L, rfl, hL, by omega, fun H1 s1 => ?_⟩
    refine ⟨_, rfl, .int n, rfl, kind_int n, _, rfl, iteF ?_⟩
    refine ⟨_, rfl, _, _, rfl, rfl, _, rfl, ?_⟩
    refine ite2 (fun _ => ?_) (fun c => absurd (decide_eq_true n1) c)
    refine ⟨C, _, .int 7, T.most.choose, rfl, T.cr, T.most.choose_spec, n, 7, rfl, rfl, _, rfl, ?_⟩
    rw [decide_eq_true n7]
    refine iteF ?_
    obtain ⟨a1, j1, ws1, rfl, ha1, np1, hx1, hz1, hw1, hf1⟩ := id t1
    obtain ⟨a2, j2, ws2, rfl, ha2, np2, hx2, hz2, hw2, hf2⟩ := id t2
    obtain ⟨a3, j3, us3, rfl, ha3, np3, hx3, hz3, hs3, hw3⟩ := id t3
    obtain ⟨z1, dz1, ez1, sz1⟩ := Dat.seqOf ha1 np1 hx1
    obtain ⟨z2, dz2, ez2, sz2⟩ := Dat.seqOf ha2 np2 hx2
    obtain ⟨z3, dz3, ez3, sz3⟩ := Dat.seqOf ha3 np3 hx3
    refine ⟨_, rfl, _, rfl, n, _, p, _, z1, rfl, Dat.same s1 _ dz1, by rw [ez1]; exact hz1, sz1, by rw [ez1]; exact hw1, fun H2 s2 => ?_⟩
    refine ⟨_, rfl, _, rfl, n, _, p, _, z2, rfl, Dat.same (s1.trans s2) _ dz2, by rw [ez2]; exact hz2, sz2, by rw [ez2]; exact hw2, fun H3 s3 => ?_⟩
    have s13 := (s1.trans s2).trans s3
    refine ⟨_, rfl, _, rfl, _, rfl, L, n, _, p, _, z3, rfl, Dat.same s13 _ dz3, by rw [ez3]; exact hz3, by rw [ez3]; exact hs3, sz3, by rw [ez3]; exact hw3, fun H4 s4 => ?_⟩
    have s14 := s13.trans s4
    -- letters
    have na1 : a1 ≠ a := by
      rcases ha1 with e | e
      · exact ne_of e ha (fun z => nomatch z)
      · exact ne_of e ha (fun z => nomatch z)
    have na2 : a2 ≠ a := by
      rcases ha2 with e | e
      · exact ne_of e ha (fun z => nomatch z)
      · exact ne_of e ha (fun z => nomatch z)
    have na3 : a3 ≠ a := by
      rcases ha3 with e | e
      · exact ne_of e ha (fun z => nomatch z)
      · exact ne_of e ha (fun z => nomatch z)
    have b4 : But a H H4 := But.of s14
    have ha4 : H4 a = some (.ins C dx []) := s14 _ _ ha
    refine ⟨⟨_, rfl⟩, _, rfl, L, rfl, Evl.sz_of (by omega), fun l hl => ?_⟩
    refine ⟨_, l, L.cps.toList.map sgn, rfl, rfl, .inl (by rw [← sgs_map]; exact .inl (.inl upd_same)), signs_sum L (by omega), ?_⟩
    rw [join_signs (by omega)]
    refine ⟨_, rfl, a, C, dx, [], rfl, by rw [upd_ne (ne_of_none ha4 hl)]; exact ha4, T.cl, T.na _ (by decide +kernel), by show 0 < 1000; decide, ?_⟩
    have b5 : But a H (upd (upd H4 l (.lst (sgs L))) a (.ins C dx (putF "_letters" (.str L) []))) := (b4.new hl).set
    have ha5 : (upd (upd H4 l (.lst (sgs L))) a (.ins C dx (putF "_letters" (.str L) []))) a = some (.ins C dx [("_letters", .str L)]) := upd_same
    generalize (upd (upd H4 l (.lst (sgs L))) a (.ins C dx (putF "_letters" (.str L) []))) = H5 at b5 ha5 ⊢
    -- size
    refine ⟨_, rfl, .inl ⟨n, rfl, ?_⟩⟩
    refine ⟨_, rfl, a, C, dx, _, rfl, ha5, T.cl, T.na _ (by decide +kernel), by show 1 < 1000; decide, ?_⟩
    have b6 : But a H (upd H5 a (.ins C dx (putF "_size" (.int n) [("_letters", .str L)]))) := b5.set
    have ha6 : (upd H5 a (.ins C dx (putF "_size" (.int n) [("_letters", .str L)]))) a = some (.ins C dx [("_letters", .str L), ("_size", .int n)]) := by rw [upd_same]; rfl
    generalize (upd H5 a (.ins C dx (putF "_size" (.int n) [("_letters", .str L)]))) = H6 at b6 ha6 ⊢
    -- starts
    refine ⟨_, rfl, a, C, dx, _, _, rfl, ha6, T.cl, T.na _ (by decide +kernel), rfl, _, rfl, n, a1, xs, rfl, by omega, by omega, ha1.imp (fun e => b6 _ _ na1 e) (fun e => b6 _ _ na1 e), hf1, fun st H7 s7 hst hst' => ?_⟩
    have ha7 := s7 _ _ ha6
    refine ⟨_, rfl, a, C, dx, _, rfl, ha7, T.cl, T.na _ (by decide +kernel), by show 2 < 1000; decide, ?_⟩
    have nst : st ≠ a := ne_of hst' ha7 (fun z => nomatch z)
    have b8 : But a H (upd H7 a (.ins C dx (putF "_starts" (.ref st) [("_letters", .str L), ("_size", .int n)]))) := (b6.trans (But.of s7)).set
    have hst8 : (upd H7 a (.ins C dx (putF "_starts" (.ref st) [("_letters", .str L), ("_size", .int n)]))) st = some (.tup (ascV n xs)) := by rw [upd_ne nst]; exact hst'
    have ha8 : (upd H7 a (.ins C dx (putF "_starts" (.ref st) [("_letters", .str L), ("_size", .int n)]))) a = some (.ins C dx [("_letters", .str L), ("_size", .int n), ("_starts", .ref st)]) := by rw [upd_same]; rfl
    generalize (upd H7 a (.ins C dx (putF "_starts" (.ref st) [("_letters", .str L), ("_size", .int n)]))) = H8 at b8 hst8 ha8 ⊢
    -- ends
    refine ⟨_, rfl, a, C, dx, _, _, rfl, ha8, T.cl, T.na _ (by decide +kernel), rfl, _, rfl, n, a2, ys, rfl, by omega, by omega, ha2.imp (fun e => b8 _ _ na2 e) (fun e => b8 _ _ na2 e), hf2, fun en H9 s9 hen hen' => ?_⟩
    have ha9 := s9 _ _ ha8
    refine ⟨_, rfl, a, C, dx, _, rfl, ha9, T.cl, T.na _ (by decide +kernel), by show 3 < 1000; decide, ?_⟩
    have nen : en ≠ a := ne_of hen' ha9 (fun z => nomatch z)
    have b10 : But a H (upd H9 a (.ins C dx (putF "_ends" (.ref en) [("_letters", .str L), ("_size", .int n), ("_starts", .ref st)]))) := (b8.trans (But.of s9)).set
    have hst10 : (upd H9 a (.ins C dx (putF "_ends" (.ref en) [("_letters", .str L), ("_size", .int n), ("_starts", .ref st)]))) st = some (.tup (ascV n xs)) := by rw [upd_ne nst]; exact s9 _ _ hst8
    have hen10 : (upd H9 a (.ins C dx (putF "_ends" (.ref en) [("_letters", .str L), ("_size", .int n), ("_starts", .ref st)]))) en = some (.tup (ascV n ys)) := by rw [upd_ne nen]; exact hen'
    have ha10 : (upd H9 a (.ins C dx (putF "_ends" (.ref en) [("_letters", .str L), ("_size", .int n), ("_starts", .ref st)]))) a = some (.ins C dx [("_letters", .str L), ("_size", .int n), ("_starts", .ref st), ("_ends", .ref en)]) := by rw [upd_same]; rfl
    generalize (upd H9 a (.ins C dx (putF "_ends" (.ref en) [("_letters", .str L), ("_size", .int n), ("_starts", .ref st)]))) = H10 at b10 hst10 hen10 ha10 ⊢
    -- leads
    have hx10 : Paired (Dat a H10 j3) us3 zs := Paired.imp2 (fun _ _ d => Dat.but b10 j3 (Dat.offIns ha j3 d)) hx3
    refine ⟨_, rfl, a, C, dx, _, _, rfl, ha10, T.cl, T.na _ (by decide +kernel), rfl, _, rfl, a, C, dx, _, _, rfl, ha10, T.cl, T.na _ (by decide +kernel), rfl, _, rfl,
      L, n, a3, us3, a, j3, zs, rfl, by omega, n7, by omega, lettersV_nodup hL, .inl (ha3.imp (fun e => b10 _ _ na3 e) (fun e => b10 _ _ na3 e)), hx10, hz3, wrongStep_none hw3, fun ld H11 hld s11 hld' => ?_⟩
    have ha11 := s11 _ _ ha10
    refine ⟨_, rfl, a, C, dx, _, rfl, ha11, T.cl, T.na _ (by decide +kernel), by show 4 < 1000; decide, ?_⟩
    have b12 : But a H (upd H11 a (.ins C dx (putF "_leads" (.ref ld) [("_letters", .str L), ("_size", .int n), ("_starts", .ref st), ("_ends", .ref en)]))) := (b10.trans (But.of s11)).set
    have c12 : But a H11 (upd H11 a (.ins C dx (putF "_leads" (.ref ld) [("_letters", .str L), ("_size", .int n), ("_starts", .ref st), ("_ends", .ref en)]))) := (But.refl a H11).set
    have ha12 : (upd H11 a (.ins C dx (putF "_leads" (.ref ld) [("_letters", .str L), ("_size", .int n), ("_starts", .ref st), ("_ends", .ref en)]))) a = some (.ins C dx [("_letters", .str L), ("_size", .int n), ("_starts", .ref st), ("_ends", .ref en), ("_leads", .ref ld)]) := by rw [upd_same]; rfl
    generalize (upd H11 a (.ins C dx (putF "_leads" (.ref ld) [("_letters", .str L), ("_size", .int n), ("_starts", .ref st), ("_ends", .ref en)]))) = H12 at b12 c12 ha12 ⊢
    have l12 := LeadsAt.but ha11 c12 hld'
    -- steps
    refine ⟨_, rfl, a, C, dx, _, _, rfl, ha12, T.cl, T.na _ (by decide +kernel), rfl, ld, L, n, zs, rfl, by omega, n7, by omega, lettersV_nodup hL, l12, fun sd H13 us hsd s13' hsd' pu => ?_⟩
    have ha13 := s13' _ _ ha12
    refine ⟨_, rfl, a, C, dx, _, rfl, ha13, T.cl, T.na _ (by decide +kernel), by show 5 < 1000; decide, ?_⟩
    have nsd : sd ≠ a := ne_of hsd' ha13 (fun z => nomatch z)
    have c14 : But a H13 (upd H13 a (.ins C dx (putF "_steps" (.ref sd) [("_letters", .str L), ("_size", .int n), ("_starts", .ref st), ("_ends", .ref en), ("_leads", .ref ld)]))) := (But.refl a H13).set
    have fsd : H sd = none := by
      cases e : H sd with
      | none => rfl
      | some o => rw [b12 _ _ nsd e] at hsd; cases hsd
    refine q _ sd (fun b o e nb => c14 _ _ nb (s13' _ _ (b12 _ _ nb e))) fsd ⟨dx, st, en, ld, us, by rw [upd_same]; rfl, ?_, ?_, LeadsAt.but ha13 c14 (LeadsAt.same s13' l12), c14 _ _ nsd hsd', Paired.imp2 (fun _ _ x => TupAt.but ha13 c14 x) pu⟩
    · exact c14 _ _ nst (s13' _ _ (c12 _ _ nst (s11 _ _ hst10)))
    · exact c14 _ _ nen (s13' _ _ (c12 _ _ nen (s11 _ _ hen10)))
end
end Lw
set_option Elab.async false
set_option linter.all false
set_option maxRecDepth 100000
set_option maxHeartbeats 4000000
/-! the law's model of a book: its numbers, and where it stands -/
namespace Lw
open PySem PySem.Spec PyProof.Rows L2
/-- a step: state, the sign's code, state -/
abbrev Tr := Int × Nat × Int
def trLt (x y : Tr) : Prop := x.1 < y.1 ∨ (x.1 = y.1 ∧ (x.2.1 < y.2.1 ∨ (x.2.1 = y.2.1 ∧ x.2.2 < y.2.2)))
instance (x y : Tr) : Decidable (trLt x y) := by unfold trLt; infer_instance
def trV (x : Tr) : List V := [.int x.1, .str (sgn x.2.1), .int x.2.2]
def trP (x : Tr) : PyData := .tuple [.int x.1, .str (sgn x.2.1), .int x.2.2]
theorem stepD_trV (x : Tr) : (.tuple ((trV x).map pd) : PyData) = trP x := rfl
theorem trLt_irrefl (x : Tr) : ¬ trLt x x := by unfold trLt; omega
theorem trLt_trans {x y z : Tr} (a : trLt x y) (b : trLt y z) : trLt x z := by unfold trLt at *; omega
theorem trLt_tri (x y : Tr) : trLt x y ∨ x = y ∨ trLt y x := by
  obtain ⟨a, b, c⟩ := x
  obtain ⟨d, e, f⟩ := y
  unfold trLt
  simp only [Prod.mk.injEq]
  omega
theorem trV_inj {x y : Tr} (h : trV x = trV y) : x = y := by
  obtain ⟨a, b, c⟩ := x
  obtain ⟨d, e, f⟩ := y
  unfold trV at h
  simp only [List.cons.injEq, V.int.injEq, V.str.injEq, and_true] at h
  obtain ⟨h1, h2, h3⟩ := h
  rw [h1, sgn_inj h2, h3]
theorem alike_tr (x y : Tr) : PySem.W.alike (trP x) (trP y) = true := by simp [trP, PySem.W.alike, PySem.W.alikeAll]
theorem dataLt_sgn (c d : Nat) : PySem.W.dataLt (.str (sgn c)) (.str (sgn d)) = decide (c < d) := by
  rw [PySem.W.dataLt_str]
  have : ((sgn c).cps.toList < (sgn d).cps.toList) ↔ c < d := by
    show [c] < [d] ↔ c < d
    exact ⟨lt_one, fun h => List.Lex.rel h⟩
  exact decide_eq_decide.mpr this
theorem dataLt_tr (x y : Tr) : PySem.W.dataLt (trP x) (trP y) = decide (trLt x y) := by
  obtain ⟨a, b, c⟩ := x
  obtain ⟨d, e, f⟩ := y
  unfold trP
  rw [PySem.W.dataLt_tuple, PySem.W.dataLt_cons (by simp [PySem.W.alike]), PySem.W.dataLt_cons (by simp [PySem.W.alike]), PySem.W.dataLt_cons (by simp [PySem.W.alike]), PySem.W.dataLt_int, PySem.W.dataLt_int, dataLt_sgn]
  have e0 : PyProof.Rows.lexLt PyProof.Rows.itemOrd (PySem.W.keyToksAll []) (PySem.W.keyToksAll []) = false := PyProof.Rows.lex_irrefl _
  rw [e0]
  have es : PyData.eqv (.str (sgn b)) (.str (sgn e)) = decide (b = e) := by
    simp only [PyData.eqv]
    by_cases h : b = e
    · subst h; simp
    · have : sgn b ≠ sgn e := fun q => h (sgn_inj q)
      simp [this, h]
  rw [es]
  simp only [PyData.eqv, beq_iff_eq, decide_eq_true_eq, trLt]
  by_cases h1 : a = d <;> by_cases h2 : b = e <;> by_cases h3 : c = f <;> simp [h1, h2, h3]
/-- a model: letters, size, starts, ends, steps -/
structure Md where
  L : Str
  n : Int
  S : List Int
  E : List Int
  T : List Tr
structure Md.Good (M : Md) : Prop where
  l : lettersV (.str M.L) = true
  n1 : 1 ≤ M.n
  n7 : M.n ≤ 7
  s : M.S.Pairwise (· < ·)
  sr : ∀ x ∈ M.S, 0 ≤ x ∧ x < M.n
  e : M.E.Pairwise (· < ·)
  er : ∀ x ∈ M.E, 0 ≤ x ∧ x < M.n
  t : M.T.Pairwise trLt
  tr : ∀ x ∈ M.T, (0 ≤ x.1 ∧ x.1 < M.n) ∧ x.2.1 ∈ M.L.cps.toList ∧ 0 ≤ x.2.2 ∧ x.2.2 < M.n
/-- the fields of a model's dict -/
def mdF (L : Str) (n : Int) (b e l : Addr) : List (Key × V) := [(.inr "signs", .str L), (.inr "size", .int n), (.inr "begins", .ref b), (.inr "finals", .ref e), (.inr "links", .ref l)]
/-- steps, each a tuple of its own -/
abbrev TrsAt (H : Hp) (us : List V) (T : List Tr) : Prop := Paired (TupAt H) us (T.map trV)
/-- the model at m; none of its lists is the pot at p -/
def MdAt (p : Addr) (H : Hp) (m : Addr) (M : Md) : Prop := ∃ b e l us, H m = some (.dK (mdF M.L M.n b e l)) ∧ H b = some (.lst (M.S.map V.int)) ∧ H e = some (.lst (M.E.map V.int)) ∧ H l = some (.lst us) ∧ TrsAt H us M.T ∧ b ≠ p ∧ e ≠ p ∧ l ≠ p
theorem Pot.notTup {H : Hp} {p t : Addr} {xs : List V} (hp : Pot H p) (ht : H t = some (.tup xs)) : t ≠ p := by
  obtain ⟨a, b, e, _⟩ := hp
  exact ne_of ht e (fun z => nomatch z)
theorem TupAt.butp {p : Addr} {H H' : Hp} (hp : Pot H p) (b : But p H H') {v : V} {d : List V} (x : TupAt H v d) : TupAt H' v d := by
  obtain ⟨t, et, ht⟩ := x
  exact ⟨t, et, b _ _ (hp.notTup ht) ht⟩
theorem TrsAt.butp {p : Addr} {H H' : Hp} (hp : Pot H p) (b : But p H H') {us : List V} {ds : List (List V)} (x : Paired (TupAt H) us ds) : Paired (TupAt H') us ds := Paired.imp2 (fun _ _ z => TupAt.butp hp b z) x
theorem MdAt.but {p m : Addr} {H H' : Hp} {M : Md} (hp : Pot H p) (b : But p H H') (x : MdAt p H m M) : MdAt p H' m M := by
  obtain ⟨bb, e, l, us, h1, h2, h3, h4, h5, n1, n2, n3⟩ := x
  have nm : m ≠ p := by
    obtain ⟨a, c, ep, _⟩ := hp
    exact ne_of h1 ep (fun z => nomatch z)
  exact ⟨bb, e, l, us, b _ _ nm h1, b _ _ n1 h2, b _ _ n2 h3, b _ _ n3 h4, TrsAt.butp hp b h5, n1, n2, n3⟩
theorem letters_rise {L : Str} (h : lettersV (.str L) = true) : L.cps.toList.Pairwise (· < ·) := by
  have h' : (decide (1 ≤ L.length) && decide (L.length ≤ 4) && overV alphabet (.str L) && risesV L) = true := h
  simp only [Bool.and_eq_true, decide_eq_true_eq] at h'
  obtain ⟨⟨⟨h1, h4⟩, _⟩, hr⟩ := h'
  obtain ⟨⟨l⟩⟩ := L
  have h1 : 1 ≤ l.length := h1
  have h4 : l.length ≤ 4 := h4
  show l.Pairwise (· < ·)
  unfold risesV at hr
  rw [List.all_eq_true] at hr
  have g : ∀ i, i + 1 < l.length → l.getD i 0 < l.getD (i + 1) 0 := fun i hi => lt_one (of_decide_eq_true (hr i (List.mem_range.mpr (by show i < l.length - 1; omega))))
  match l, h1, h4, g with
  | [x], _, _, _ => simp
  | [x, y], _, _, g =>
    have := g 0 (by simp)
    simp at this ⊢
    omega
  | [x, y, z], _, _, g =>
    have e0 := g 0 (by simp)
    have e1 := g 1 (by simp)
    simp at e0 e1 ⊢
    omega
  | [x, y, z, u], _, _, g =>
    have e0 := g 0 (by simp)
    have e1 := g 1 (by simp)
    have e2 := g 2 (by simp)
    simp at e0 e1 e2 ⊢
    omega
theorem LETS_ok : ∀ z ∈ LETS, lettersV (.str z) = true := by decide +kernel
end Lw
set_option Elab.async false
set_option linter.all false
set_option maxRecDepth 100000
set_option maxHeartbeats 4000000
/-! _law_model -/
namespace Lw
open PySem PySem.Spec PyProof.Rows L2
abbrev sModel : Stmt := topS 54
abbrev NModel : List Str := ["_law_pot_here", "_law_signs_here", "_law_much", "_law_broad", "_law_thin", "_law_links", "_law_begins", "_law_finals", "_law_state", "_law_sign", "_law_goals", "_law_goal"]
theorem scModel : FnScope NModel ["_law_pot_here", "_law_signs_here", "_law_much"] (defScope sModel) := ⟨rfl, rfl, rfl, by decide +kernel, rfl, by decide +kernel, by decide +kernel⟩
/-- some of the first so many numbers, ascending -/
def Some (n : Nat) (xs : List Int) : Prop := xs.Pairwise (· < ·) ∧ ∀ x ∈ xs, 0 ≤ x ∧ x < (n : Int)
theorem Some.nil : Some 0 [] := ⟨.nil, fun _ h => absurd h List.not_mem_nil⟩
theorem Some.up {n : Nat} {xs : List Int} (h : Some n xs) : Some (n + 1) xs := ⟨h.1, fun x hx => by have := h.2 x hx; omega⟩
theorem Some.add {n : Nat} {xs : List Int} (h : Some n xs) : Some (n + 1) (xs ++ [(n : Int)]) := by
  refine ⟨List.pairwise_append.mpr ⟨h.1, by simp, fun a ha b hb => ?_⟩, fun x hx => ?_⟩
  · have := (h.2 a ha).2
    simp at hb
    omega
  · rcases List.mem_append.mp hx with z | z
    · have := h.2 x z; omega
    · simp at z; omega
theorem Some.len {n : Nat} {xs : List Int} (h : Some n xs) : xs.length ≤ n := by
  have key : ∀ (n : Nat) (xs : List Int), xs.Pairwise (· < ·) → (∀ x ∈ xs, 0 ≤ x ∧ x < (n : Int)) → xs.length ≤ n := by
    intro n
    induction n with
    | zero =>
      intro xs _ h
      cases xs with
      | nil => simp
      | cons x r => have := h x List.mem_cons_self; omega
    | succ n ih =>
      intro xs hp h
      rcases List.eq_nil_or_concat xs with e | ⟨ys, y, e⟩
      · subst e; simp
      · subst e
        rw [List.concat_eq_append] at hp h ⊢
        have h1 := List.pairwise_append.mp hp
        have := ih ys h1.1 (fun x hx => by
          have a := h x (List.mem_append_left _ hx)
          have b := h1.2.2 x hx y (by simp)
          have c := h y (by simp)
          omega)
        rw [List.length_append]
        simp
        omega
  exact key n xs h.1 h.2
/-- between two turns of a drawn comprehension -/
def DrawnI (p D : Addr) (H1 : Hp) (i : Nat) (H' : Hp) : Prop := But p H1 H' ∧ Pot H' p ∧ ∃ xs : List Int, H' D = some (.lst (xs.map V.int)) ∧ Some i xs
theorem DrawnI.start {p D : Addr} {H1 : Hp} (hp : Pot H1 p) (hD : H1 D = none) : DrawnI p D H1 0 (upd H1 D (.lst [])) := by
  refine ⟨(But.refl p H1).new hD, ?_, [], upd_same, Some.nil⟩
  obtain ⟨a, b, e, r⟩ := hp
  exact ⟨a, b, by rw [upd_ne (ne_of_none e hD)]; exact e, r⟩
theorem DrawnI.no {p D : Addr} {H1 Ha Hb : Hp} {i : Nat} (np : D ≠ p) (h : DrawnI p D H1 i Ha) (b : But p Ha Hb) (hp : Pot Hb p) : DrawnI p D H1 (i + 1) Hb := by
  obtain ⟨b1, _, xs, hx, hs⟩ := h
  exact ⟨b1.trans b, hp, xs, b _ _ np hx, hs.up⟩
theorem DrawnI.yes {p D : Addr} {H1 Ha Hb : Hp} {i : Nat} (hD : H1 D = none) (np : D ≠ p) (hi : i < 100000) (h : DrawnI p D H1 i Ha) (b : But p Ha Hb) (hp : Pot Hb p) :
    ∃ acc, Hb D = some (.lst acc) ∧ acc.length < sizeLine ∧ DrawnI p D H1 (i + 1) (upd Hb D (.lst (acc ++ [.int (0 + (i : Int))]))) := by
  obtain ⟨b1, _, xs, hx, hs⟩ := h
  refine ⟨xs.map V.int, b _ _ np hx, ?_, fun c o nc e => ?_, ?_, xs ++ [(i : Int)], ?_, hs.add⟩
  · rw [List.length_map]
    exact Nat.lt_of_le_of_lt hs.len (Nat.lt_of_lt_of_le hi (by decide))
  · rw [upd_ne (ne_of_none e hD)]
    exact b _ _ nc (b1 _ _ nc e)
  · obtain ⟨x, y, e, r⟩ := hp
    exact ⟨x, y, by rw [upd_ne np.symm]; exact e, r⟩
  · rw [upd_same, List.map_append, Int.zero_add]
    rfl
/-- the steps so far -/
def StpI (L : Str) (n : Int) (N : Nat) (ok : Tr → Prop) (T : List Tr) : Prop := T.Pairwise trLt ∧ T.length ≤ N ∧ ∀ x ∈ T, ((0 ≤ x.1 ∧ x.1 < n) ∧ x.2.1 ∈ L.cps.toList ∧ 0 ≤ x.2.2 ∧ x.2.2 < n) ∧ ok x
theorem StpI.add {L : Str} {n : Int} {N i j c : Nat} {T : List Tr} {gs : List Int} (hL : L.cps.toList.Pairwise (· < ·)) (hj : L.cps[j]? = some c) (hi : (i : Int) < n)
    (h : StpI L n N (fun x => x.1 < (i : Int) ∨ (x.1 = (i : Int) ∧ x.2.1 ∈ L.cps.toList.take j)) T) (hg : Some n.toNat gs) :
    StpI L n (N + 7) (fun x => x.1 < (i : Int) ∨ (x.1 = (i : Int) ∧ x.2.1 ∈ L.cps.toList.take (j + 1))) (T ++ gs.map fun g => ((i : Int), c, g)) ∨ 7 < n := by
  by_cases h7 : 7 < n
  · exact .inr h7
  refine .inl ?_
  obtain ⟨h1, h2, h3⟩ := h
  have hc : L.cps.toList[j]? = some c := by rw [Array.getElem?_toList]; exact hj
  have hjl : j < L.cps.toList.length := by
    rcases Nat.lt_or_ge j L.cps.toList.length with z | z
    · exact z
    · rw [List.getElem?_eq_none z] at hc; cases hc
  have e1 : L.cps.toList.take (j + 1) = L.cps.toList.take j ++ [c] := take_snoc hc
  have lt : ∀ d ∈ L.cps.toList.take j, d < c := fun d hd => by
    obtain ⟨m, hm, e⟩ := List.getElem_of_mem hd
    rw [List.length_take] at hm
    rw [List.getElem_take] at e
    have := List.pairwise_iff_getElem.mp hL m j (by omega) hjl (by omega)
    rw [List.getElem?_eq_getElem hjl] at hc
    rw [e, Option.some.inj hc] at this
    exact this
  refine ⟨List.pairwise_append.mpr ⟨h1, ?_, fun a ha b hb => ?_⟩, ?_, fun x hx => ?_⟩
  · rw [List.pairwise_map]
    exact hg.1.imp fun {a b} hab => .inr ⟨rfl, .inr ⟨rfl, hab⟩⟩
  · obtain ⟨g, _, rfl⟩ := List.mem_map.mp hb
    rcases (h3 a ha).2 with z | ⟨z1, z2⟩
    · exact .inl z
    · exact .inr ⟨z1, .inl (lt _ z2)⟩
  · rw [List.length_append, List.length_map]
    have := hg.len
    omega
  · rcases List.mem_append.mp hx with z | z
    · refine ⟨(h3 x z).1, ?_⟩
      rcases (h3 x z).2 with y | ⟨y1, y2⟩
      · exact .inl y
      · exact .inr ⟨y1, by rw [e1]; exact List.mem_append_left _ y2⟩
    · obtain ⟨g, hgm, rfl⟩ := List.mem_map.mp z
      have := hg.2 g hgm
      exact ⟨⟨⟨by show (0 : Int) ≤ (i : Int); omega, hi⟩, List.mem_of_getElem? hc, this.1, by show g < n; omega⟩, .inr ⟨rfl, by rw [e1]; simp⟩⟩
theorem paired_app {α β : Type} {R : α → β → Prop} : ∀ {xs xs' : List α} {ys ys' : List β}, Paired R xs ys → Paired R xs' ys' → Paired R (xs ++ xs') (ys ++ ys')
  | _, _, _, _, .nil, h => h
  | _, _, _, _, .cons r t, h => .cons r (paired_app t h)
theorem zip_dp {K : PySem.W.Frag} {H : Hp} : ∀ {us : List V} {T : List Tr}, Paired (TupAt H) us (T.map trV) → ∀ b ∈ us.zip (T.map trP), Dp K H b.1 b.2
  | [], T, _, b, hb => by simp at hb
  | u :: us, [], h, b, hb => by cases h
  | u :: us, x :: T, h, b, hb => by
    rw [List.map_cons] at h
    cases h with
    | cons h1 h2 =>
      rw [List.map_cons, List.zip_cons_cons] at hb
      rcases List.mem_cons.mp hb with e | e
      · subst e
        obtain ⟨t, rfl, ht⟩ := h1
        have := dp_tup (K := K) (a := t) (vs := trV x) (.inl (.inl ht)) rfl
        exact this
      · exact zip_dp h2 b e
theorem sort_same {us : List V} {T : List Tr} (hl : us.length = T.length) (hT : T.Pairwise trLt) :
    (((us.zip (T.map trP)).mergeSort (PySem.W.dataLe false (fun b : V × PyData => b.2))).map (fun b => b.1)) = us := by
  have pw : (us.zip (T.map trP)).Pairwise (fun a b => PySem.W.dataLe false (fun b : V × PyData => b.2) a b = true) := by
    rw [List.pairwise_iff_getElem]
    intro i j hi hj hij
    rw [List.getElem_zip, List.getElem_zip, PySem.W.dataLe_eq]
    show (!PySem.W.dataLt ((T.map trP)[j]'_) ((T.map trP)[i]'_)) = true
    rw [List.length_zip, List.length_map] at hi hj
    rw [List.getElem_map, List.getElem_map, dataLt_tr]
    have := List.pairwise_iff_getElem.mp hT i j (by omega) (by omega) hij
    have n : ¬ trLt (T[j]'(by omega)) (T[i]'(by omega)) := fun c => trLt_irrefl _ (trLt_trans this c)
    simp [n]
  rw [List.mergeSort_of_pairwise pw]
  show (us.zip (T.map trP)).map Prod.fst = us
  rw [List.map_fst_zip]
  rw [List.length_map]
  omega
section
variable {P : Program} {w : World} {K : PySem.W.Frag} {mg : Str → Option Value} {base : Heap}
def spModel : Sp := fun vs H Q _ => ∃ (p : Addr) (L : Str) (mu : Int), vs = [.ref p, .str L, .int mu] ∧ Pot H p ∧ lettersV (.str L) = true ∧ 1 ≤ mu ∧ mu ≤ 7 ∧
  ∀ (m : Addr) (M : Md) (H' : Hp), But p H H' → Pot H' p → H m = none → MdAt p H' m M → M.Good → M.L = L → M.n ≤ mu → Q (.ref m) H'
theorem ok_model {f : Addr} {fd : FuncData} (F : Fun K "_law_model" "_law_model" sModel f fd) (B : Bl mg) (D : Def P w K mg base 1 "_law_draw" ["_law_pot_here", "_law_span"] spDraw) : FnOk P w K mg base CX0 2 f fd ["_law_pot_here", "_law_signs_here", "_law_much"] spModel := by
  obtain ⟨fD, fdD, GD, gD, kD, bD⟩ := D.ex
  refine F.ok scModel (fun vs H Q E h => ?_) (fun cdv A outer s H vs Q E hr h => ?_)
  · obtain ⟨p, L, mu, rfl, _⟩ := h
    rfl
  · obtain ⟨p, L, mu, rfl, hp, hL, m1, m7, q⟩ := h
    refine ⟨_, pss_cons (ps_asg (pe_tup (pa_cons (pe_op op_add pe_int (pe_call GD hr rfl gD kD bD .nil pass0 (pa_cons (pv 0) (pa_cons (pv 2) pa_nil)))) (pa_cons (pe_op op_add pe_int (pe_call GD hr rfl gD kD bD .nil pass0 (pa_cons (pv 0) (pa_cons pe_int pa_nil)))) (pa_cons (pe_lst pa_nil) pa_nil))))
        (pg_tup (by rfl) (pgs_cons (pg_name (i := 3) scModel.nd rfl (.inl rfl)) (pgs_cons (pg_name (i := 4) scModel.nd rfl (.inr rfl)) (pgs_cons (pg_name (i := 5) scModel.nd rfl (.inl rfl)) pgs_nil)))))
      (pss_cons (ps_setLc (i := 6) (own := [("_law_state", 8)]) (g := gName 8) (tt := tTest (tOp rEq (tCall spDraw [] E0 (tCons (tVar 0) (tCons (tC (.int 2)) tNil))) (tC (.int 0)))) (te := tVar 8) rfl scModel.nd rfl rfl (sw_true rfl rfl rfl (by decide +kernel)) (pi_range1 (by rfl) B.range (pa_cons (pv 3) pa_nil))
          (blkOk_by (own := [("_law_state", 8)]) (N := NModel) (sc := defScope sModel) (by decide +kernel)) (fun _ _ _ _ _ => by exact (pg_name (i := 8) scModel.nd rfl (Or.inl rfl)))
          (fun _ _ _ _ _ => by exact (pts_one (pt_cmpR op_eq (pe_call GD hr (by rfl) gD kD bD .nil pass0 (pa_cons (pv 0) (pa_cons pe_int pa_nil))) pe_int (nomark _)))) (fun _ _ _ _ _ => by exact (pv 8)))
      (pss_cons (ps_setLc (i := 7) (own := [("_law_state", 8)]) (g := gName 8) (tt := tTest (tOp rEq (tCall spDraw [] E0 (tCons (tVar 0) (tCons (tC (.int 2)) tNil))) (tC (.int 0)))) (te := tVar 8) rfl scModel.nd rfl rfl (sw_true rfl rfl rfl (by decide +kernel)) (pi_range1 (by rfl) B.range (pa_cons (pv 3) pa_nil))
          (blkOk_by (own := [("_law_state", 8)]) (N := NModel) (sc := defScope sModel) (by decide +kernel)) (fun _ _ _ _ _ => by exact (pg_name (i := 8) scModel.nd rfl (Or.inl rfl)))
          (fun _ _ _ _ _ => by exact (pts_one (pt_cmpR op_eq (pe_call GD hr (by rfl) gD kD bD .nil pass0 (pa_cons (pv 0) (pa_cons pe_int pa_nil))) pe_int (nomark _)))) (fun _ _ _ _ _ => by exact (pv 8)))
      (pss_cons (ps_for PassesOwn.never rfl (pi_range1 (by rfl) B.range (pa_cons (pv 3) pa_nil)) (pg_name (i := 8) scModel.nd rfl (.inr rfl))
        (pss_one (ps_for PassesOwn.never rfl (pi_str (pv 1)) (pg_name (i := 9) scModel.nd rfl (.inr rfl))
          (pss_cons (ps_setLc (i := 10) (own := [("_law_goal", 11)]) (g := gName 11) (tt := tTest (tOp rEq (tCall spDraw [] E0 (tCons (tVar 0) (tCons (tOp (rI0 fun i j => V.int (i + j)) (tVar 4) (tC (.int 1))) tNil))) (tC (.int 0)))) (te := tVar 11) rfl scModel.nd rfl rfl (sw_true rfl rfl rfl (by decide +kernel)) (pi_range1 (by rfl) B.range (pa_cons (pv 3) pa_nil))
              (blkOk_by (own := [("_law_goal", 11)]) (N := NModel) (sc := defScope sModel) (by decide +kernel)) (fun _ _ _ _ _ => by exact (pg_name (i := 11) scModel.nd rfl (Or.inl rfl)))
              (fun _ _ _ _ _ => by exact (pts_one (pt_cmpR op_eq (pe_call GD hr (by rfl) gD kD bD .nil pass0 (pa_cons (pv 0) (pa_cons (pe_op op_add (pv 4) pe_int) pa_nil))) pe_int (nomark _)))) (fun _ _ _ _ _ => by exact (pv 11)))
          (pss_one (ps_set (i := 5) scModel.nd rfl (.inl rfl) (pe_op op_cat (pv 5) (pe_lc (own := [("_law_goal", 11)]) (g := gName 11) (tt := tYes) (te := tTup (tCons (tVar 8) (tCons (tVar 9) (tCons (tVar 11) tNil)))) (by rfl) scModel.nd (pi_list (pv 10))
              (blkOk_by (own := [("_law_goal", 11)]) (N := NModel) (sc := defScope sModel) (by decide +kernel)) (fun _ _ _ _ _ => by exact (pg_name (i := 11) scModel.nd rfl (Or.inl rfl))) (fun _ _ _ _ _ => pts_nil)
              (fun _ _ _ _ _ => by exact (pe_tup (pa_cons (pv 8) (pa_cons (pv 9) (pa_cons (pv 11) pa_nil)))))))))))))
      (pss_one (ps_ret (pe_disp (pps_cons pe_str (pv 1) (pps_cons pe_str (pv 3) (pps_cons pe_str (pv 6) (pps_cons pe_str (pv 7) (pps_cons pe_str (pe_callB (cr_sortV hr) (by rfl) B.sorted (by decide +kernel) (pa_cons (pv 5) pa_nil)) pps_nil))))) rfl rfl (by simp) (by decide))))))), ?_⟩
    refine ⟨_, rfl, _, rfl, p, mu, rfl, hp, by omega, by omega, fun d1 H1 d10 d11 b1 hp1 => ⟨_, _, rfl, rfl, ?_⟩⟩
    refine ⟨_, rfl, p, 5, rfl, hp1, by omega, by omega, fun d2 H2 d20 d21 b2 hp2 => ⟨_, _, rfl, rfl, ?_⟩⟩
    refine ⟨by decide, fun l0 hl0 => ?_⟩
    refine ⟨by show 3 ≤ sizeLine; decide, fun T0 hT0 => ?_⟩
    refine ⟨T0, _, rfl, .inl (.inl upd_same), rfl, _, _, rfl, _, _, rfl, _, _, rfl, rfl, ?_⟩
    have potNew : ∀ {Ha : Hp} {q : Addr} {o : HO}, Pot Ha p → Ha q = none → Pot (upd Ha q o) p := fun {Ha q o} hp hq => by
      obtain ⟨x, y, e, r⟩ := hp
      exact ⟨x, y, by rw [upd_ne (ne_of_none e hq)]; exact e, r⟩
    have hp3 : Pot (upd (upd H2 l0 (.lst [])) T0 (.tup [.int (1 + d1), .int (1 + d2), .ref l0])) p := potNew (potNew hp2 hl0) hT0
    have nl0 : l0 ≠ p := (Pot.ne hp2 hl0).symm
    have b3 : But p H (upd (upd H2 l0 (.lst [])) T0 (.tup [.int (1 + d1), .int (1 + d2), .ref l0])) := (((b1.trans b2).new hl0).new hT0)
    have hl3 : (upd (upd H2 l0 (.lst [])) T0 (.tup [.int (1 + d1), .int (1 + d2), .ref l0])) l0 = some (.lst []) := by
      rw [upd_ne (fun e => by rw [e] at hT0; rw [upd_same] at hT0; cases hT0), upd_same]
    generalize (upd (upd H2 l0 (.lst [])) T0 (.tup [.int (1 + d1), .int (1 + d2), .ref l0])) = H3 at hp3 b3 hl3 ⊢
    have hn : (1 + d1).toNat ≤ 7 := by omega
    -- begins
    refine ⟨_, rfl, 1 + d1, rfl, by omega, by omega, fun D1 hD1 => ?_⟩
    have nD1 : D1 ≠ p := (Pot.ne hp3 hD1).symm
    refine lc_it walk_range (DrawnI p D1 H3) (DrawnI.start hp3 hD1) (fun _ _ _ _ => trivial) (fun i x Ha Hb hi hI y => ?_) (fun H4 h4 => ?_)
    · obtain ⟨rfl, rfl⟩ := y
      refine ⟨rfl, _, rfl, p, 2, rfl, hI.2.1, by omega, by omega, fun dd Hc _ _ bc hpc => ⟨rfl, _, rfl, ?_⟩⟩
      refine ite2 (fun _ => ?_) (fun _ => ?_)
      · exact ⟨_, rfl, DrawnI.yes hD1 nD1 (by omega) hI bc hpc⟩
      · exact DrawnI.no nD1 hI bc hpc
    obtain ⟨b4, hp4, S, hS, sS⟩ := h4
    -- finals
    refine ⟨_, rfl, 1 + d1, rfl, by omega, by omega, fun D2 hD2 => ?_⟩
    have nD2 : D2 ≠ p := (Pot.ne hp4 hD2).symm
    refine lc_it walk_range (DrawnI p D2 H4) (DrawnI.start hp4 hD2) (fun _ _ _ _ => trivial) (fun i x Ha Hb hi hI y => ?_) (fun H5 h5 => ?_)
    · obtain ⟨rfl, rfl⟩ := y
      refine ⟨rfl, _, rfl, p, 2, rfl, hI.2.1, by omega, by omega, fun dd Hc _ _ bc hpc => ⟨rfl, _, rfl, ?_⟩⟩
      refine ite2 (fun _ => ?_) (fun _ => ?_)
      · exact ⟨_, rfl, DrawnI.yes hD2 nD2 (by omega) hI bc hpc⟩
      · exact DrawnI.no nD2 hI bc hpc
    obtain ⟨b5, hp5, Ee, hE, sE⟩ := h5
    have hS5 : H5 D1 = some (.lst (S.map V.int)) := b5 _ _ nD1 hS
    have b05 : But p H H5 := (b3.trans b4).trans b5
    have hl5 : H5 l0 = some (.lst []) := b5 _ _ nl0 (b4 _ _ nl0 hl3)
    have hLs := letters_rise hL
    have hL4 := (lettersV_len hL).2
    -- steps
    refine ⟨_, rfl, 1 + d1, rfl, by omega, by omega, ?_⟩
    refine for_it walk_range (fun i σ H' => ∃ (lk : Addr) (us : List V) (T : List Tr) (u8 u9 u10 u11 : Option V), σ = [some (.ref p), some (.str L), some (.int mu), some (.int (1 + d1)), some (.int (1 + d2)), some (.ref lk), some (.ref D1), some (.ref D2), u8, u9, u10, u11] ∧
        But p H5 H' ∧ Pot H' p ∧ H' lk = some (.lst us) ∧ lk ≠ p ∧ TrsAt H' us T ∧ StpI L (1 + d1) (28 * i) (fun x => x.1 < (i : Int)) T)
      ⟨l0, [], [], _, _, _, _, rfl, But.refl p H5, hp5, hl5, nl0, .nil, .nil, Nat.zero_le _, fun x hx => absurd hx List.not_mem_nil⟩ (fun _ _ _ _ _ => trivial) (fun i x σ Ha Hb hi hI y => ?_) (fun σ H6 h6 => ?_)
    · obtain ⟨rfl, rfl⟩ := y
      obtain ⟨lk, us, T, u8, u9, u10, u11, rfl, ba, hpa, hlk, nlk, tr, st⟩ := hI
      refine ⟨_, rfl, L, rfl, ?_⟩
      refine for_it walk_str (fun j σ H' => ∃ (lk : Addr) (us : List V) (T : List Tr) (u9 u10 u11 : Option V), σ = [some (.ref p), some (.str L), some (.int mu), some (.int (1 + d1)), some (.int (1 + d2)), some (.ref lk), some (.ref D1), some (.ref D2), some (.int (0 + (i : Int))), u9, u10, u11] ∧
          But p H5 H' ∧ Pot H' p ∧ H' lk = some (.lst us) ∧ lk ≠ p ∧ TrsAt H' us T ∧ StpI L (1 + d1) (28 * i + 7 * j) (fun x => x.1 < (i : Int) ∨ (x.1 = (i : Int) ∧ x.2.1 ∈ L.cps.toList.take j)) T)
        ⟨lk, us, T, _, _, _, rfl, ba, hpa, hlk, nlk, tr, st.1, st.2.1, fun x hx => ⟨(st.2.2 x hx).1, .inl (st.2.2 x hx).2⟩⟩ (fun _ _ _ _ _ => trivial) (fun j x σ Hc Hd hj hI y => ?_) (fun σ H6 h6 => ?_)
      · obtain ⟨rfl, c, hc, rfl⟩ := y
        obtain ⟨lk, us, T, u9, u10, u11, rfl, bb, hpb, hlk, nlk, tr, st⟩ := hI
        -- goals
        refine ⟨_, rfl, 1 + d1, rfl, by omega, by omega, fun D3 hD3 => ?_⟩
        have nD3 : D3 ≠ p := (Pot.ne hpb hD3).symm
        refine lc_it walk_range (DrawnI p D3 Hd) (DrawnI.start hpb hD3) (fun _ _ _ _ => trivial) (fun q x Ha Hb hq hI y => ?_) (fun H7 h7 => ?_)
        · obtain ⟨rfl, rfl⟩ := y
          refine ⟨rfl, _, rfl, _, rfl, _, _, rfl, rfl, p, 1 + d2 + 1, rfl, hI.2.1, by omega, by omega, fun dd Hc _ _ bc hpc => ⟨rfl, _, rfl, ?_⟩⟩
          refine ite2 (fun _ => ?_) (fun _ => ?_)
          · exact ⟨_, rfl, DrawnI.yes hD3 nD3 (by omega) hI bc hpc⟩
          · exact DrawnI.no nD3 hI bc hpc
        obtain ⟨b7, hp7, gs, hgs, sgs'⟩ := h7
        have hlk7 : H7 lk = some (.lst us) := b7 _ _ nlk hlk
        have tr7 : TrsAt H7 us T := TrsAt.butp hpb b7 tr
        -- their steps
        refine ⟨_, rfl, _, rfl, D3, rfl, ⟨_, .inl (.inl hgs)⟩, fun D4 hD4 => ?_⟩
        have nD4 : D4 ≠ p := (Pot.ne hp7 hD4).symm
        have hgl : gs.length ≤ 7 := by have := sgs'.len; omega
        refine lc_it (walk_list (xs := gs.map V.int)) (fun q H' => Same H7 H' ∧ ∃ ws, H' D4 = some (.lst ws) ∧ Paired (TupAt H') ws ((gs.take q).map fun g => trV ((i : Int), c, g))) ⟨Same.new' (Same.refl H7) hD4, [], upd_same, .nil⟩
          (fun q H' _ h => .inl (.inl (h.1 _ _ hgs))) (fun q x He Hf hq hI y => ?_) (fun H8 h8 => ?_)
        · obtain ⟨rfl, hx⟩ := y
          obtain ⟨se, ws, hws, pw⟩ := hI
          rw [List.getElem?_map] at hx
          obtain ⟨g, hg, rfl⟩ := Option.map_eq_some_iff.mp hx
          refine ⟨rfl, _, rfl, _, rfl, _, rfl, by show 3 ≤ sizeLine; decide, fun T9 hT9 => ?_⟩
          have s9 : Same Hf (upd Hf T9 (.tup [.int (0 + (i : Int)), .str (sgn c), .int g])) := Same.new' (Same.refl Hf) hT9
          have nT9 : D4 ≠ T9 := ne_of_none hws hT9
          refine ⟨ws, s9 _ _ hws, ?_, Same.mut' (se.trans s9) hD4, _, upd_same, ?_⟩
          · rw [Paired.len pw, List.length_map, List.length_take]
            exact Nat.lt_of_le_of_lt (Nat.min_le_right _ _) (Nat.lt_of_le_of_lt hgl (by decide))
          · rw [take_snoc hg, List.map_append]
            refine paired_snoc (Paired.imp2 (fun v dd z => TupAt.keep (fun b o e nb => by rw [upd_ne nb]; exact s9 _ _ e) hws z) pw) ⟨T9, rfl, ?_⟩
            rw [upd_ne nT9.symm, upd_same, Int.zero_add]
            rfl
        obtain ⟨s8, ws, hws, pw⟩ := h8
        rw [List.length_map, List.take_of_length_le (Nat.le_refl _)] at pw
        have wl : ws.length ≤ 7 := by rw [Paired.len pw, List.length_map]; exact hgl
        have ul : us.length ≤ 28 * i + 7 * j := by rw [Paired.len tr, List.length_map]; exact st.2.1
        have hi7 : i < 7 := by omega
        have hj4 : j < 4 := by
          have : L.cps.size ≤ 4 := hL4
          omega
        refine ⟨lk, D4, us, ws, rfl, rfl, s8 _ _ hlk7, hws, Nat.le_trans (show us.length + ws.length ≤ 1000 by omega) (by decide), fun l9 hl9 => ?_⟩
        have s9 : Same H8 (upd H8 l9 (.lst (us ++ ws))) := Same.new' (Same.refl H8) hl9
        have b9 : But p H5 (upd H8 l9 (.lst (us ++ ws))) := (bb.trans b7).trans ((But.of s8).trans (But.of s9))
        have hp8 : Pot H8 p := by
          obtain ⟨x, y, e, r⟩ := hp7
          exact ⟨x, y, s8 _ _ e, r⟩
        have nl9 : l9 ≠ p := (Pot.ne hp8 hl9).symm
        refine ⟨l9, us ++ ws, T ++ gs.map (fun g => ((i : Int), c, g)), _, _, _, rfl, b9, potNew hp8 hl9, upd_same, nl9, ?_, ?_⟩
        · show Paired (TupAt _) (us ++ ws) _
          rw [List.map_append, List.map_map]
          refine paired_app (Paired.imp2 (fun _ _ z => TupAt.same (s8.trans s9) z) tr7) (Paired.imp2 (fun _ _ z => TupAt.same s9 z) pw)
        · rcases StpI.add (n := 1 + d1) hLs hc (by omega) st (by exact sgs') with z | z
          · have e : 28 * i + 7 * j + 7 = 28 * i + 7 * (j + 1) := by omega
            rw [e] at z
            exact z
          · omega
      · obtain ⟨lk, us, T, u9, u10, u11, rfl, bb, hpb, hlk, nlk, tr, st⟩ := h6
        refine ⟨lk, us, T, _, _, _, _, rfl, bb, hpb, hlk, nlk, tr, st.1, ?_, fun x hx => ⟨(st.2.2 x hx).1, ?_⟩⟩
        · have h1 := st.2.1
          have : L.cps.size ≤ 4 := hL4
          omega
        · rcases (st.2.2 x hx).2 with z | ⟨z, _⟩
          · have : x.1 < (i : Int) := z
            show x.1 < ((i + 1 : Nat) : Int)
            omega
          · show x.1 < ((i + 1 : Nat) : Int)
            omega
    · obtain ⟨lk, us, T, u8, u9, u10, u11, rfl, b6, hp6, hlk, nlk, tr, st⟩ := h6
      intro m hm
      have nm : m ≠ p := (Pot.ne hp6 hm).symm
      have s7 : Same H6 (upd H6 m (.dK [])) := Same.new' (Same.refl H6) hm
      have ul : us.length = T.length := by rw [Paired.len tr, List.length_map]
      refine ⟨_, rfl, _, rfl, _, rfl, _, rfl, _, rfl, lk, us.zip (T.map trP), rfl, ?_, ?_, ?_, ?_, ?_, fun l9 hl9 => ?_⟩
      · rw [show (us.zip (T.map trP)).map (fun b => b.1) = us from by
          show (us.zip (T.map trP)).map Prod.fst = us
          rw [List.map_fst_zip]
          rw [List.length_map]; omega]
        exact .inl (.inl (s7 _ _ hlk))
      · intro b hb
        exact zip_dp (TrsAt.butp hp6 (But.of s7) tr) b hb
      · intro x hx y hy
        obtain ⟨b, hb, rfl⟩ := List.mem_map.mp hx
        obtain ⟨c, hc, rfl⟩ := List.mem_map.mp hy
        obtain ⟨t1, _, e1⟩ := List.mem_map.mp (List.of_mem_zip hb).2
        obtain ⟨t2, _, e2⟩ := List.mem_map.mp (List.of_mem_zip hc).2
        rw [← e1, ← e2]
        exact alike_tr t1 t2
      · refine .inl fun x hx => ?_
        obtain ⟨b, hb, rfl⟩ := List.mem_map.mp hx
        obtain ⟨t1, _, e1⟩ := List.mem_map.mp (List.of_mem_zip hb).2
        rw [← e1]
        exact ⟨_, _, rfl⟩
      · intro b hb
        obtain ⟨t1, _, e1⟩ := List.mem_map.mp (List.of_mem_zip hb).2
        rw [← e1]
        simp [trP, PyData.depth, PyData.depthAll]
      · rw [sort_same ul st.1]
        have nml : m ≠ l9 := ne_of_none (upd_same (H := H6) (a := m) (o := HO.dK [])) hl9
        have s8 : Same H6 (upd (upd H6 m (.dK [])) l9 (.lst us)) := s7.trans (Same.new' (Same.refl _) hl9)
        refine ⟨by rw [upd_ne nml, upd_same], mdF L (1 + d1) D1 D2 l9, rfl, by show 5 ≤ 15; decide, ?_⟩
        have e9 : mergeK [] (mdF L (1 + d1) D1 D2 l9) = mdF L (1 + d1) D1 D2 l9 := rfl
        rw [e9]
        have nl9 : l9 ≠ p := fun e => by
          obtain ⟨x, y, ep, _⟩ := hp6
          rw [e] at hl9
          rw [s7 _ _ ep] at hl9
          cases hl9
        have s9 : Same H6 (upd (upd (upd H6 m (.dK [])) l9 (.lst us)) m (.dK (mdF L (1 + d1) D1 D2 l9))) := Same.mut' s8 hm
        have n6 : H m = none := by
          cases e : H m with
          | none => rfl
          | some o =>
            have := b6 _ _ nm (b05 _ _ nm e)
            rw [hm] at this
            cases this
        refine q m ⟨L, 1 + d1, S, Ee, T⟩ _ (b05.trans (b6.trans (But.of s9))) ?_ n6 ⟨D1, D2, l9, us, upd_same, s9 _ _ (b6 _ _ nD1 hS5), s9 _ _ (b6 _ _ nD2 hE), by rw [upd_ne nml.symm, upd_same], TrsAt.butp hp6 (But.of s9) tr, nD1, nD2, nl9⟩ ?_ rfl (by show 1 + d1 ≤ mu; omega)
        · obtain ⟨x, y, ep, r⟩ := hp6
          exact ⟨x, y, s9 _ _ ep, r⟩
        · refine ⟨hL, by show 1 ≤ 1 + d1; omega, by show 1 + d1 ≤ 7; omega, sS.1, fun x hx => ?_, sE.1, fun x hx => ?_, st.1, fun x hx => (st.2.2 x hx).1⟩
          · have := sS.2 x hx
            show 0 ≤ x ∧ x < 1 + d1
            omega
          · have := sE.2 x hx
            show 0 ≤ x ∧ x < 1 + d1
            omega
end
end Lw
set_option Elab.async false
set_option linter.all false
set_option maxRecDepth 100000
set_option maxHeartbeats 4000000
/-! what a book has that is made of a model's parts, in whatever sequence they are told -/
namespace Lw
open PySem PySem.Spec PyProof.Rows L2
theorem inV_ints {x : Int} : ∀ xs : List Int, inV (.int x) (xs.map V.int) = decide (x ∈ xs)
  | [] => rfl
  | y :: r => by
    have ih := inV_ints (x := x) r
    unfold inV at ih ⊢
    rw [List.map_cons, List.any_cons, ih]
    have : eqV (.int y) (.int x) = decide (y = x) := rfl
    rw [this]
    by_cases h : y = x
    · subst h; simp
    · have h' : ¬ x = y := fun e => h e.symm
      simp [h, h']
theorem asc_perm {n : Int} {S xs : List Int} (hs : S.Pairwise (· < ·)) (hr : ∀ x ∈ S, 0 ≤ x ∧ x < n) (hp : xs.Perm S) : ascV n (xs.map V.int) = S.map V.int := by
  have e : ((List.range n.toNat).filter fun (i : Nat) => decide ((i : Int) ∈ S)).map (fun (i : Nat) => (i : Int)) = S := by
    refine List.Perm.eq_of_pairwise (le := (· < ·)) (fun a b _ _ h1 h2 => absurd (Int.lt_trans h1 h2) (Int.lt_irrefl _)) ?_ hs ?_
    · rw [List.pairwise_map]
      exact (List.pairwise_lt_range.filter _).imp fun {a b} h => by show ((a : Nat) : Int) < (b : Nat); omega
    · refine (List.perm_ext_iff_of_nodup ?_ (hs.imp fun {a b} h => Int.ne_of_lt h)).mpr fun a => ?_
      · rw [List.nodup_iff_pairwise_ne, List.pairwise_map]
        exact (List.pairwise_lt_range.filter _).imp fun {a b} h => by show ((a : Nat) : Int) ≠ (b : Nat); omega
      · simp only [List.mem_map, List.mem_filter, List.mem_range, decide_eq_true_eq]
        constructor
        · rintro ⟨i, ⟨_, h⟩, rfl⟩
          exact h
        · intro h
          have := hr a h
          exact ⟨a.toNat, ⟨by omega, by rw [Int.toNat_of_nonneg this.1]; exact h⟩, Int.toNat_of_nonneg this.1⟩
  unfold ascV picks
  conv => rhs; rw [← e]
  rw [List.map_map]
  have ef : (List.range n.toNat).filter (fun (i : Nat) => inV (.int (0 + (i : Int))) (xs.map V.int)) = (List.range n.toNat).filter fun (i : Nat) => decide ((i : Int) ∈ S) := by
    congr 1
    funext i
    rw [inV_ints, Int.zero_add]
    exact decide_eq_decide.mpr hp.mem_iff
  rw [ef]
  apply List.map_congr_left
  intro i _
  show V.int (0 + (i : Int)) = V.int (i : Int)
  rw [Int.zero_add]
theorem good_at {α : Type} {zs : List PyData} {κ : Type} [DecidableEq κ] {ok : PyData → Bool} {ky : PyData → κ} (h1 : ∀ z ∈ zs, ok z = true) (h2 : (zs.map ky).Nodup) : (List.range zs.length).find? (badAt (fun i => ok (zs.getD i .none)) (fun i => ky (zs.getD i .none))) = none := by
  refine find_none fun j hj => ?_
  have ej : zs.getD j .none = zs[j] := getD_of (List.getElem?_eq_getElem hj)
  show (!ok (zs.getD j .none) || (List.range j).any fun m => decide (ky (zs.getD m .none) = ky (zs.getD j .none))) = false
  rw [ej, h1 _ (List.getElem_mem hj)]
  show (false || _) = false
  rw [Bool.false_or, List.any_eq_false]
  intro m hm c
  have hm := List.mem_range.mp hm
  have em : zs.getD m .none = zs[m] := getD_of (List.getElem?_eq_getElem (by omega))
  rw [em] at c
  have c := of_decide_eq_true c
  rw [List.nodup_iff_pairwise_ne, List.pairwise_map] at h2
  exact (List.pairwise_iff_getElem.mp h2 m j (by omega) hj hm) c
theorem wrongSt_ok {n : Int} {xs : List Int} (h1 : ∀ x ∈ xs, 0 ≤ x ∧ x < n) (h2 : xs.Nodup) : wrongSt n (xs.map PyData.int) = none := by
  unfold wrongSt
  refine good_at (α := Unit) (fun z hz => ?_) ?_
  · obtain ⟨x, hx, rfl⟩ := List.mem_map.mp hz
    have := h1 x hx
    show (decide (0 ≤ x) && decide (x < n)) = true
    rw [decide_eq_true this.1, decide_eq_true this.2]
    rfl
  · rw [List.map_map, List.nodup_iff_pairwise_ne, List.pairwise_map]
    refine (List.nodup_iff_pairwise_ne.mp h2).imp fun {a b} h e => h ?_
    have e : (Sum.inl a : Key) = Sum.inl b := e
    exact Sum.inl.inj e
theorem trKeys_inj {x y : Tr} (h : keysOf (trP x) = keysOf (trP y)) : x = y := by
  obtain ⟨a, b, c⟩ := x
  obtain ⟨d, e, f⟩ := y
  have h : ([.inl a, .inr (sgn b), .inl c] : List Key) = [.inl d, .inr (sgn e), .inl f] := h
  injection h with h1 h
  injection h with h2 h
  injection h with h3 _
  rw [Sum.inl.inj h1, sgn_inj (Sum.inr.inj h2), Sum.inl.inj h3]
theorem trOk {L : Str} {n : Int} {x : Tr} (h : (0 ≤ x.1 ∧ x.1 < n) ∧ x.2.1 ∈ L.cps.toList ∧ 0 ≤ x.2.2 ∧ x.2.2 < n) : stepP L n (trP x) = true := by
  obtain ⟨⟨h1, h2⟩, h3, h4, h5⟩ := h
  show ((decide (0 ≤ x.1) && decide (x.1 < n)) && (decide ((sgn x.2.1).length = 1) && [x.2.1].all fun c => decide (c ∈ L.cps.toList)) && (decide (0 ≤ x.2.2) && decide (x.2.2 < n))) = true
  rw [decide_eq_true h1, decide_eq_true h2, decide_eq_true h4, decide_eq_true h5, decide_eq_true (show (sgn x.2.1).length = 1 from rfl), List.all_cons, decide_eq_true h3]
  rfl
theorem wrongStep_ok {L : Str} {n : Int} {ys : List Tr} (h1 : ∀ x ∈ ys, (0 ≤ x.1 ∧ x.1 < n) ∧ x.2.1 ∈ L.cps.toList ∧ 0 ≤ x.2.2 ∧ x.2.2 < n) (h2 : ys.Nodup) : wrongStep L n (ys.map trP) = none := by
  unfold wrongStep
  refine good_at (α := Unit) (fun z hz => ?_) ?_
  · obtain ⟨x, hx, rfl⟩ := List.mem_map.mp hz
    exact trOk (h1 x hx)
  · rw [List.map_map, List.nodup_iff_pairwise_ne, List.pairwise_map]
    exact (List.nodup_iff_pairwise_ne.mp h2).imp fun {a b} h e => h (trKeys_inj e)
theorem memK_tr {ys : List Tr} {x : Tr} : memK [.inl x.1, .inr (sgn x.2.1), .inl x.2.2] (stepKeys (ys.map trP)) = decide (x ∈ ys) := by
  unfold memK stepKeys
  rw [List.map_map, List.any_map]
  by_cases h : x ∈ ys
  · rw [decide_eq_true h, List.any_eq_true]
    exact ⟨x, h, decide_eq_true rfl⟩
  · rw [decide_eq_false h, List.any_eq_false]
    intro y hy c
    have c : keysOf (trP y) = keysOf (trP x) := of_decide_eq_true c
    exact h (trKeys_inj c ▸ hy)
/-- all steps in order -/
def trAll (L : Str) (n : Int) (T : List Tr) : List Tr := (List.range n.toNat).flatMap fun (b : Nat) => L.cps.toList.flatMap fun c => ((List.range n.toNat).filter fun (i : Nat) => decide ((((b : Int), c, (i : Int)) : Tr) ∈ T)).map fun (i : Nat) => (((b : Int), c, (i : Int)) : Tr)
theorem trAll_eq {L : Str} {n : Int} {T : List Tr} (hL : L.cps.toList.Pairwise (· < ·)) (hs : T.Pairwise trLt) (hr : ∀ x ∈ T, (0 ≤ x.1 ∧ x.1 < n) ∧ x.2.1 ∈ L.cps.toList ∧ 0 ≤ x.2.2 ∧ x.2.2 < n) : trAll L n T = T := by
  have pw : (trAll L n T).Pairwise trLt := by
    unfold trAll
    rw [List.pairwise_flatMap]
    refine ⟨fun b _ => ?_, List.pairwise_lt_range.imp fun {b b'} hb x hx y hy => ?_⟩
    · rw [List.pairwise_flatMap]
      refine ⟨fun c _ => ?_, hL.imp fun {c c'} hc x hx y hy => ?_⟩
      · rw [List.pairwise_map]
        exact (List.pairwise_lt_range.filter _).imp fun {i j} h => .inr ⟨rfl, .inr ⟨rfl, by show ((i : Nat) : Int) < (j : Nat); omega⟩⟩
      · obtain ⟨i, _, rfl⟩ := List.mem_map.mp hx
        obtain ⟨j, _, rfl⟩ := List.mem_map.mp hy
        exact .inr ⟨rfl, .inl hc⟩
    · obtain ⟨c, _, hx⟩ := List.mem_flatMap.mp hx
      obtain ⟨i, _, rfl⟩ := List.mem_map.mp hx
      obtain ⟨c', _, hy⟩ := List.mem_flatMap.mp hy
      obtain ⟨j, _, rfl⟩ := List.mem_map.mp hy
      exact .inl (by show ((b : Nat) : Int) < (b' : Nat); omega)
  have nd : ∀ {l : List Tr}, l.Pairwise trLt → l.Nodup := fun h => h.imp fun {a b} hab e => by subst e; exact trLt_irrefl _ hab
  refine List.Perm.eq_of_pairwise (le := trLt) (fun a b _ _ h1 h2 => absurd (trLt_trans h1 h2) (trLt_irrefl _)) pw hs ((List.perm_ext_iff_of_nodup (nd pw) (nd hs)).mpr fun x => ?_)
  unfold trAll
  simp only [List.mem_flatMap, List.mem_map, List.mem_filter, List.mem_range, decide_eq_true_eq]
  constructor
  · rintro ⟨b, _, c, _, i, ⟨_, h⟩, rfl⟩
    exact h
  · intro h
    obtain ⟨⟨h1, h2⟩, h3, h4, h5⟩ := hr x h
    obtain ⟨b, c, i⟩ := x
    simp only at h1 h2 h3 h4 h5
    refine ⟨b.toNat, by omega, c, h3, i.toNat, ⟨by omega, ?_⟩, ?_⟩
    · rw [Int.toNat_of_nonneg h1, Int.toNat_of_nonneg h4]; exact h
    · rw [Int.toNat_of_nonneg h1, Int.toNat_of_nonneg h4]
theorem trip_all {L : Str} {n : Int} {ys : List Tr} : trip n (ys.map trP) (ways L n) = (trAll L n ys).map trV := by
  unfold trip ways trAll
  rw [List.flatMap_assoc, List.map_flatMap]
  congr 1
  funext b
  rw [List.flatMap_map, List.map_flatMap]
  congr 1
  funext c
  show (behinds n (ys.map trP) (0 + (b : Int)) (sgn c)).map _ = _
  unfold behinds picks
  rw [List.map_map, List.map_map]
  have ef : (List.range n.toNat).filter (fun (i : Nat) => memK [.inl (0 + (b : Int)), .inr (sgn c), .inl (0 + (i : Int))] (stepKeys (ys.map trP))) = (List.range n.toNat).filter fun (i : Nat) => decide ((((b : Int), c, (i : Int)) : Tr) ∈ ys) := by
    congr 1
    funext i
    rw [Int.zero_add, Int.zero_add]
    exact memK_tr (x := ((b : Int), c, (i : Int)))
  rw [ef]
  apply List.map_congr_left
  intro i _
  show [V.int (0 + (b : Int)), V.str (sgn c), V.int (0 + (i : Int))] = trV ((b : Int), c, (i : Int))
  rw [Int.zero_add, Int.zero_add]
  rfl
theorem trAll_perm {L : Str} {n : Int} {ys T : List Tr} (hp : ys.Perm T) : trAll L n ys = trAll L n T := by
  unfold trAll
  congr 1
  funext b
  congr 1
  funext c
  congr 1
  congr 1
  funext i
  exact decide_eq_decide.mpr hp.mem_iff
theorem trip_eq {M : Md} (g : M.Good) {ys : List Tr} (hp : ys.Perm M.T) : trip M.n (ys.map trP) (ways M.L M.n) = M.T.map trV := by
  rw [trip_all, trAll_perm hp, trAll_eq (letters_rise g.l) g.t g.tr]
/-- the book at a, its steps at sd, is that of the model -/
def BookM (H : Hp) (C a sd : Addr) (M : Md) : Prop := ∃ zs, BookOf H C a sd M.L M.n (M.S.map V.int) (M.E.map V.int) zs ∧ trip M.n zs (ways M.L M.n) = M.T.map trV
theorem BookM.at_ {H : Hp} {C a sd : Addr} {M : Md} (b : BookM H C a sd M) : ∃ zs, BookAt H C a M.L M.n (M.S.map V.int) (M.E.map V.int) zs ∧ trip M.n zs (ways M.L M.n) = M.T.map trV := by
  obtain ⟨zs, h, e⟩ := b
  exact ⟨zs, h.at_, e⟩
/-- a list that is not the book's own may change -/
theorem BookM.butL {x : Addr} {xs : List V} {H H' : Hp} {C a sd : Addr} {M : Md} (hx : H x = some (.lst xs)) (nsd : sd ≠ x) (b : But x H H') (h : BookM H C a sd M) : BookM H' C a sd M := by
  obtain ⟨zs, ⟨dx, st, en, ld, us, h1, h2, h3, ⟨kvs, h4, h5⟩, h6, h7⟩, e⟩ := h
  refine ⟨zs, ⟨dx, st, en, ld, us, b _ _ (ne_of h1 hx (fun z => nomatch z)) h1, b _ _ (ne_of h2 hx (fun z => nomatch z)) h2, b _ _ (ne_of h3 hx (fun z => nomatch z)) h3, ⟨kvs, b _ _ (ne_of h4 hx (fun z => nomatch z)) h4, Paired.imp2 (fun p q x => ?_) h5⟩, b _ _ nsd h6, Paired.imp2 (fun _ _ x => ?_) h7⟩, e⟩
  · obtain ⟨e, t, et, ht⟩ := x
    exact ⟨e, t, et, b _ _ (ne_of ht hx (fun z => nomatch z)) ht⟩
  · obtain ⟨t, et, ht⟩ := x
    exact ⟨t, et, b _ _ (ne_of ht hx (fun z => nomatch z)) ht⟩
theorem BookM.notPot {p : Addr} {H : Hp} {C a sd : Addr} {M : Md} (hp : Pot H p) (h : BookM H C a sd M) : sd ≠ p := by
  obtain ⟨zs, ⟨dx, st, en, ld, us, h1, h2, h3, _, h6, h7⟩, e⟩ := h
  obtain ⟨x, y, ep, _⟩ := hp
  intro q
  rw [q, ep] at h6
  have h6 : [V.int x, V.int y] = us := by injection (Option.some.inj h6)
  rw [← h6] at h7
  generalize trip M.n zs (ways M.L M.n) = ds at h7
  cases h7 with
  | cons z _ =>
    obtain ⟨t, et, _⟩ := z
    cases et
theorem BookM.but {p : Addr} {H H' : Hp} {C a sd : Addr} {M : Md} (hp : Pot H p) (b : But p H H') (h : BookM H C a sd M) : BookM H' C a sd M := by
  have n := h.notPot hp
  obtain ⟨x, y, ep, _⟩ := hp
  exact h.butL ep n b
theorem BookM.same {H H' : Hp} {C a sd : Addr} {M : Md} (s : Same H H') (h : BookM H C a sd M) : BookM H' C a sd M := by
  obtain ⟨zs, ⟨dx, st, en, ld, us, h1, h2, h3, h4, h6, h7⟩, e⟩ := h
  exact ⟨zs, ⟨dx, st, en, ld, us, s _ _ h1, s _ _ h2, s _ _ h3, LeadsAt.same s h4, s _ _ h6, Paired.imp2 (fun _ _ x => TupAt.same s x) h7⟩, e⟩
theorem paired_refl {α : Type} : ∀ xs : List α, Paired Eq xs xs
  | [] => .nil
  | _ :: r => .cons rfl (paired_refl r)
theorem Paired.unmap {α β γ δ : Type} {R : α → β → Prop} {S : α → γ → Prop} {f : δ → β} {g : δ → γ} (h : ∀ x d, R x (f d) → S x (g d)) : ∀ {xs : List α} {ds : List δ}, Paired R xs (ds.map f) → Paired S xs (ds.map g)
  | [], [], _ => .nil
  | _ :: _, d :: ds, .cons r t => .cons (h _ _ r) (Paired.unmap h t)
  | _ :: _, [], e => by cases e
  | [], _ :: _, e => by cases e
theorem perm_map {α β : Type} {f : α → β} {xs ys : List β} (h : xs.Perm ys) : ∀ {S : List α}, ys = S.map f → ∃ zs : List α, zs.Perm S ∧ xs = zs.map f := by
  induction h with
  | nil =>
    intro S e
    have : S = [] := by cases S with | nil => rfl | cons _ _ => cases e
    subst this
    exact ⟨[], .nil, rfl⟩
  | cons x _ ih =>
    intro S e
    cases S with
    | nil => cases e
    | cons s S =>
      injection e with e1 e2
      obtain ⟨zs, h1, h2⟩ := ih e2
      exact ⟨s :: zs, h1.cons s, by rw [h2, e1]; rfl⟩
  | swap x y l =>
    intro S e
    match S, e with
    | s :: t :: S, e =>
      injection e with e1 e2
      injection e2 with e2 e3
      exact ⟨t :: s :: S, .swap _ _ _, by rw [e1, e2, e3]; rfl⟩
  | trans _ _ ih1 ih2 =>
    intro S e
    obtain ⟨zs, h1, h2⟩ := ih2 e
    obtain ⟨ws, h3, h4⟩ := ih1 h2
    exact ⟨ws, h3.trans h1, h4⟩
theorem perm_paired {α β γ : Type} {R : α → β → Prop} {f : γ → β} {xs ys : List α} (h : xs.Perm ys) : ∀ {S : List γ}, Paired R ys (S.map f) → ∃ zs : List γ, zs.Perm S ∧ Paired R xs (zs.map f) := by
  induction h with
  | nil =>
    intro S e
    cases S with
    | nil => exact ⟨[], .nil, .nil⟩
    | cons _ _ => cases e
  | cons x _ ih =>
    intro S e
    cases S with
    | nil => cases e
    | cons s S =>
      cases e with
      | cons r t =>
        obtain ⟨zs, h1, h2⟩ := ih t
        exact ⟨s :: zs, h1.cons s, .cons r h2⟩
  | swap x y l =>
    intro S e
    match S, e with
    | s :: t :: S, .cons r1 (.cons r2 r3) => exact ⟨t :: s :: S, .swap _ _ _, .cons r2 (.cons r1 r3)⟩
  | trans _ _ ih1 ih2 =>
    intro S e
    obtain ⟨zs, h1, h2⟩ := ih2 e
    obtain ⟨ws, h3, h4⟩ := ih1 h2
    exact ⟨ws, h3.trans h1, h4⟩
theorem Md.Good.tlen {M : Md} (g : M.Good) : M.T.length ≤ 196 := by
  have h1 := congrArg List.length (trip_eq g (List.Perm.refl M.T))
  rw [List.length_map] at h1
  have h2 := trip_len (zs := M.T.map trP) g.n7 (ways M.L M.n)
  rw [h1, ways_len] at h2
  have h3 := (lettersV_len g.l).2
  have h4 : M.n.toNat * M.L.length ≤ 7 * 4 := Nat.mul_le_mul (by have := g.n7; omega) h3
  omega
theorem ints_len {n : Int} {S : List Int} (hs : S.Pairwise (· < ·)) (hr : ∀ x ∈ S, 0 ≤ x ∧ x < n) (h7 : n ≤ 7) : S.length ≤ 7 := by
  have := Some.len (n := n.toNat) (xs := S) ⟨hs, fun x hx => by have := hr x hx; omega⟩
  omega
theorem short_tr (x : Tr) : short1 (trP x) = true := rfl
/-- what is told of a model's states, in whatever sequence -/
theorem told_sts {p a : Addr} {H : Hp} {n : Int} {S : List Int} {out : List V} (ha : H a = some (.lst out) ∨ H a = some (.tup out)) (np : a ≠ p) (hs : S.Pairwise (· < ·)) (hr : ∀ x ∈ S, 0 ≤ x ∧ x < n) (h7 : n ≤ 7) (hp : out.Perm (S.map V.int)) :
    StsTold p H n (.ref a) out ∧ ascV n out = S.map V.int := by
  obtain ⟨ys, h1, rfl⟩ := perm_map hp rfl
  refine ⟨⟨a, 0, ys.map PyData.int, rfl, ha, np, Paired.map2 (R := Eq) (fun x y e => by subst e; exact Flat.int x) (paired_refl ys), ?_, wrongSt_ok (fun x hx => hr x (h1.mem_iff.mp hx)) (h1.nodup_iff.mpr (hs.imp fun {a b} h => Int.ne_of_lt h)), ?_⟩, asc_perm hs hr h1⟩
  · rw [List.length_map, h1.length_eq]
    have := ints_len hs hr h7
    omega
  · rw [List.all_map, List.all_eq_true]
    intro x _
    rfl
theorem tup_dat {p : Addr} {H : Hp} (hp : Pot H p) {v : V} {x : Tr} (h : TupAt H v (trV x)) : Dat p H 1 v (trP x) := by
  obtain ⟨t, rfl, ht⟩ := h
  exact .inr (.inr (.inl ⟨t, _, _, rfl, rfl, ht, hp.notTup ht, .cons (Flat.int _) (.cons (Flat.str _) (.cons (Flat.int _) .nil))⟩))
theorem told_stp {p a : Addr} {H : Hp} {M : Md} (g : M.Good) (hpot : Pot H p) {us out : List V} (ha : H a = some (.lst out) ∨ H a = some (.tup out)) (np : a ≠ p) (hu : TrsAt H us M.T) (hp : out.Perm us) :
    ∃ zs, StpTold p H M.L M.n (.ref a) zs ∧ trip M.n zs (ways M.L M.n) = M.T.map trV := by
  obtain ⟨ys, h1, h2⟩ := perm_paired hp hu
  have e : Paired (Dat p H 1) out (ys.map trP) := Paired.unmap (fun v x h => tup_dat hpot h) h2
  refine ⟨ys.map trP, ⟨a, 1, out, rfl, ha, np, e, ?_, ?_, wrongStep_ok (fun x hx => g.tr x (h1.mem_iff.mp hx)) (h1.nodup_iff.mpr (g.t.imp fun {a b} hab e => by subst e; exact trLt_irrefl _ hab))⟩, trip_eq g h1⟩
  · rw [List.length_map, h1.length_eq]
    have := g.tlen
    omega
  · intro y hy
    obtain ⟨x, _, rfl⟩ := List.mem_map.mp hy
    exact short_tr x
end Lw
set_option Elab.async false
set_option linter.all false
set_option maxRecDepth 100000
set_option maxHeartbeats 4000000
/-! the law's books: _law_book, _law_parts, _law_told_book -/
namespace Lw
open PySem PySem.Spec PyProof.Rows L2
abbrev sBook : Stmt := topS 55
theorem md_signs {H : Hp} {m b e l : Addr} {L : Str} {n : Int} (h : H m = some (.dK (mdF L n b e l))) : DGet H m (.str "signs") (some (.str L)) := DGet.k (k := .inr "signs") h
theorem md_size {H : Hp} {m b e l : Addr} {L : Str} {n : Int} (h : H m = some (.dK (mdF L n b e l))) : DGet H m (.str "size") (some (.int n)) := DGet.k (k := .inr "size") h
theorem md_begins {H : Hp} {m b e l : Addr} {L : Str} {n : Int} (h : H m = some (.dK (mdF L n b e l))) : DGet H m (.str "begins") (some (.ref b)) := DGet.k (k := .inr "begins") h
theorem md_finals {H : Hp} {m b e l : Addr} {L : Str} {n : Int} (h : H m = some (.dK (mdF L n b e l))) : DGet H m (.str "finals") (some (.ref e)) := DGet.k (k := .inr "finals") h
theorem md_links {H : Hp} {m b e l : Addr} {L : Str} {n : Int} (h : H m = some (.dK (mdF L n b e l))) : DGet H m (.str "links") (some (.ref l)) := DGet.k (k := .inr "links") h
/-- keywords' values at their places -/
def rb5 {α : Type} : List α → List α → List α
  | [s], [a, b, c, d, e] => [s, e, d, c, b, a]
  | xs, _ => xs
def rb2 {α : Type} : List α → List α → List α
  | [s, l, n, st], [a, b] => [s, l, n, st, b, a]
  | xs, _ => xs
abbrev psB : List Str := ["self", "letters", "size", "starts", "ends", "steps"]
structure BkMk (P : Program) (w : World) (K : PySem.W.Frag) (mg : Str → Option Value) (base : Heap) (C : Addr) : Prop where
  gC : mg "Book" = some (.ref C)
  ex : ∃ (f : Addr) (fd : FuncData), FnOk P w K mg base CX0 5 f fd psB (spBInit C) ∧ Mk K C f ∧ Binds K fd psB [] ∧ KBn K fd psB 1 ["steps", "ends", "starts", "size", "letters"] rb5 rb5 ∧ KBn K fd psB 4 ["steps", "ends"] rb2 rb2
theorem sing_ne {p a : Addr} (h : a ≠ p) : V.ref a ≠ .ref p := fun e => h (V.ref.inj e)
/-- a book is made of a model's parts, told in whatever sequence -/
theorem make_book {C p x dx a1 a2 a3 : Addr} {H1 : Hp} {M : Md} {o1 o2 o3 us : List V} {Q : VK} {E : XK} (g : M.Good) (hp : Pot H1 p) (hx : H1 x = none) (hdx : H1 dx = none) (ne : dx ≠ x)
    (h1 : H1 a1 = some (.lst o1) ∨ H1 a1 = some (.tup o1)) (n1 : a1 ≠ p) (p1 : o1.Perm (M.S.map V.int)) (h2 : H1 a2 = some (.lst o2) ∨ H1 a2 = some (.tup o2)) (n2 : a2 ≠ p) (p2 : o2.Perm (M.E.map V.int))
    (h3 : H1 a3 = some (.lst o3) ∨ H1 a3 = some (.tup o3)) (n3 : a3 ≠ p) (hu : TrsAt H1 us M.T) (p3 : o3.Perm us) (q : ∀ H' sd, Same H1 H' → H1 sd = none → BookM H' C x sd M → Q (.ref x) H') :
    spBInit C [.ref x, .str M.L, .int M.n, .ref a1, .ref a2, .ref a3] (upd (upd H1 dx (.own x)) x (.ins C dx [])) (fun v H2 => v = .non ∧ Q (.ref x) H2) E := by
  have s2 : Same H1 (upd (upd H1 dx (.own x)) x (.ins C dx [])) := fun b o e => by
    rw [upd_ne (ne_of_none e hx), upd_ne (ne_of_none e hdx)]
    exact e
  obtain ⟨t1, e1⟩ := told_sts h1 n1 g.s g.sr g.n7 p1
  obtain ⟨t2, e2⟩ := told_sts h2 n2 g.e g.er g.n7 p2
  obtain ⟨zs, t3, e3⟩ := told_stp g hp h3 n3 hu p3
  refine ⟨x, dx, p, M.L, M.n, _, _, _, o1, o2, zs, rfl, upd_same, g.l, g.n1, g.n7, t1.same s2, t2.same s2, t3.same s2, fun H' sd fr fsd bk => ⟨rfl, q H' sd (fun b o e => fr _ _ (s2 _ _ e) (ne_of_none e hx)) ?_ ⟨zs, ?_, e3⟩⟩⟩
  · cases e : H1 sd with
    | none => rfl
    | some o => rw [s2 _ _ e] at fsd; cases fsd
  · rw [e1, e2] at bk
    exact bk
section
variable {P : Program} {w : World} {K : PySem.W.Frag} {mg : Str → Option Value} {base : Heap}
abbrev NBook : List Str := ["_law_pot_here", "_law_model_here", "_law_begins", "_law_finals", "_law_links"]
theorem scBook : FnScope NBook ["_law_pot_here", "_law_model_here"] (defScope sBook) := ⟨rfl, rfl, rfl, by decide +kernel, rfl, by decide +kernel, by decide +kernel⟩
def spBook (C : Addr) : Sp := fun vs H Q _ => ∃ (p m : Addr) (M : Md), vs = [.ref p, .ref m] ∧ Pot H p ∧ MdAt p H m M ∧ M.Good ∧ ∀ a sd H', But p H H' → Pot H' p → H a = none → H sd = none → BookM H' C a sd M → Q (.ref a) H'
theorem But.fresh {p a : Addr} {H H' : Hp} (hp : Pot H p) (b : But p H H') (hp' : Pot H' p) (h : H' a = none) : H a = none := by
  cases e : H a with
  | none => rfl
  | some o =>
    have n : a ≠ p := fun q => by
      obtain ⟨x, y, ep, _⟩ := hp'
      rw [q, ep] at h
      cases h
    rw [b _ _ n e] at h
    cases h
theorem len_small {n : Nat} (h : n ≤ 1000) : n ≤ 99999 := by omega
theorem ok_book {f C : Addr} {fd : FuncData} (F : Fun K "_law_book" "_law_book" sBook f fd) (tn : mg "tuple" = none) (Bk : BkMk P w K mg base C) (Mx : Def P w K mg base 2 "_law_mixed" ["_law_pot_here", "_law_lot"] (spMixed K)) :
    FnOk P w K mg base CX0 7 f fd ["_law_pot_here", "_law_model_here"] (spBook C) := by
  obtain ⟨fM, fdM, GM, gM, kM, bM⟩ := Mx.ex
  obtain ⟨fB, fdB, GB, mk, bB, _, _⟩ := Bk.ex
  refine F.ok scBook (fun vs H Q E h => ?_) (fun cdv A outer s H vs Q E hr h => ?_)
  · obtain ⟨p, m, M, rfl, _⟩ := h
    rfl
  · obtain ⟨p, m, M, rfl, hp, hm, g, q⟩ := h
    have hu := hu_of hr
    refine ⟨_, pss_cons (ps_par rfl scBook.nd (i := 2) (j := 3) rfl rfl (by decide) rfl rfl (pa_cons (pe_call GM (hr.mono (by decide)) rfl gM kM bM .nil pass0 (pa_cons (pv 0) (pa_cons (pe_dget hu (pv 1) pe_str (fun _ _ => rfl)) pa_nil))) (pa_cons (pe_call GM (hr.mono (by decide)) rfl gM kM bM .nil pass0 (pa_cons (pv 0) (pa_cons (pe_dget hu (pv 1) pe_str (fun _ _ => rfl)) pa_nil))) pa_nil)) (by rfl))
      (pss_cons (ps_set (i := 4) scBook.nd rfl (.inl rfl) (pe_call GM (hr.mono (by decide)) rfl gM kM bM .nil pass0 (pa_cons (pv 0) (pa_cons (pe_dget hu (pv 1) pe_str (fun _ _ => rfl)) pa_nil))))
      (pss_one (ps_ret (pe_make mk GB hr rfl Bk.gC bB .nil pass0 (pa_cons (pe_dget hu (pv 1) pe_str (fun _ _ => rfl)) (pa_cons (pe_dget hu (pv 1) pe_str (fun _ _ => rfl)) (pa_cons (pv 2) (pa_cons (pe_callTy call_tuple_of (by rfl) tn (by decide +kernel) (pa_cons (pv 3) pa_nil)) (pa_cons (pv 4) pa_nil))))))))), ?_⟩
    obtain ⟨b, e, l, us, h1, h2, h3, h4, h5, n1, n2, n3⟩ := id hm
    have nm : m ≠ p := by
      obtain ⟨a, c, ep, _⟩ := hp
      exact ne_of h1 ep (fun z => nomatch z)
    have lS := ints_len g.s g.sr g.n7
    have lE := ints_len g.e g.er g.n7
    have lT : us.length ≤ 196 := by
      have := Paired.len h5
      rw [List.length_map] at this
      rw [this]
      exact g.tlen
    -- begins
    refine ⟨_, rfl, _, rfl, m, _, rfl, md_begins h1, p, _, _, rfl, hp, sing_ne n1, .inr ⟨b, rfl, .inl (.inl (.inl h2))⟩, by rw [List.length_map]; omega, fun l1 o1 H1 f1 w1 b1 hp1 g1 r1 => ?_⟩
    -- finals
    refine ⟨_, rfl, _, rfl, m, _, rfl, md_finals (b1 _ _ nm h1), p, _, _, rfl, hp1, sing_ne n2, .inr ⟨e, rfl, .inl (.inl (.inl (b1 _ _ n2 h3)))⟩, by rw [List.length_map]; omega, fun l2 o2 H2 f2 w2 b2 hp2 g2 r2 => ?_⟩
    have g12 : H2 l1 = some (.lst o1) := b2 _ _ w1 g1
    refine ⟨_, _, rfl, ?_⟩
    have b3 : But p H H2 := b1.trans b2
    -- links
    refine ⟨_, rfl, _, rfl, m, _, rfl, md_links (b3 _ _ nm h1), p, _, _, rfl, hp2, sing_ne n3, .inr ⟨l, rfl, .inl (.inl (.inl (b3 _ _ n3 h4)))⟩, by omega, fun l3 o3 H4 f3 w3 b4 hp4 g3 r3 => ?_⟩
    have b04 : But p H H4 := b3.trans b4
    have h14 := b04 _ _ nm h1
    refine ⟨_, rfl, m, _, rfl, md_signs h14, _, rfl, m, _, rfl, md_size h14, _, rfl, _, rfl, l2, o2, rfl, .inl ⟨.inl (.inl (b4 _ _ w2 g2)), fun t ht => ?_⟩⟩
    refine ⟨_, rfl, fun x dx hx hdx nd => ?_⟩
    have s5 : Same H4 (upd H4 t (.tup o2)) := Same.new' (Same.refl H4) ht
    have hp5 : Pot (upd H4 t (.tup o2)) p := by
      obtain ⟨x, y, ep, r⟩ := hp4
      exact ⟨x, y, s5 _ _ ep, r⟩
    have b05 : But p H (upd H4 t (.tup o2)) := b04.trans (But.of s5)
    refine make_book (us := us) g hp5 hx hdx nd (.inl (s5 _ _ (b4 _ _ w1 g12))) w1 r1 (.inr upd_same) (Pot.ne hp4 ht).symm r2 (.inl (s5 _ _ g3)) w3 (TrsAt.butp hp b05 h5) r3 (fun H' sd s6 hsd bk => ?_)
    refine q x sd H' (b05.trans (But.of s6)) ?_ (But.fresh hp b05 hp5 hx) (But.fresh hp b05 hp5 hsd) bk
    obtain ⟨x, y, ep, r⟩ := hp5
    exact ⟨x, y, s6 _ _ ep, r⟩
end
end Lw
set_option Elab.async false
set_option linter.all false
set_option maxRecDepth 100000
set_option maxHeartbeats 4000000
/-! operators on instances of a class of the module, by its own methods: ==, !=, len, repr, in, a call -/
namespace Lw
open PySem PySem.Spec PyProof.Rows L2
section
variable {X : Cx} {CX : CXT} {k : Nat} {f C : Addr} {fd : FuncData} {ps : List Str} {sp : Sp} {E : XK} {pins : List (Addr × Obj)} {σ : L2.St} {H : Hp} {s : Shared}
/-- a def is called from below the running body -/
theorem own_call {A : Around} {us : List Value} {vs : List V} {Q : VK} {E' : Value → Shared → Prop} (F : FnOk X.prog X.w X.K X.mg X.base CX k f fd ps sp) (hb : Binds X.K fd ps []) (hx : Passes CX X.nox E) (sb : L2.Sub X k A) (I : Inv X pins σ H s) (r : Vals vs us) (h : sp vs H Q E) :
    wpAny (model X.prog X.w) A (call (.ref f) us) (EP X pins σ Q) E' s := by
  have e0 : Env0 X.prog X.w X.K X.mg X.base A X.stack s H := by
    have e := I.env0
    exact ⟨by rw [sb.fr]; exact e.frames, e.mod, e.bs, e.bsz, e.funs, e.frf, e.hok, e.bare⟩
  have hl := F.len _ _ _ _ h
  refine wpAny_call (codeAny_mono (F.run A X.stack s H ⟨us, []⟩ us vs Q E sb.room e0 (by
    have := hb s us I.kIn (by rw [List.append_nil, ← r.length]; exact hl)
    rw [List.append_nil] at this
    exact this) r h) fun o s' ho => ?_)
  cases o with
  | error e => exact (hx pins σ H s e s' (I.wish _) ho).elim
  | ok fl =>
    cases fl with
    | ret u => exact I.after ho
    | next => exact ho.elim
    | brk => exact ho.elim
    | cont => exact ho.elim
theorem sub_here (hr : Room k X.A) : L2.Sub X k X.A := ⟨hr, rfl⟩
/-- the class's own method of the name -/
structure OwnM (K : PySem.W.Frag) (C : Addr) (m : Str) (f : Addr) (fd : FuncData) (ps : List Str) : Prop where
  at_ : PySem.W.findIn K (.ref C) m = some (some (.ref f))
  fn : PySem.W.isFn K (.ref f) = true
  b : Binds K fd ps []
/-- an instance of the class -/
def IsIns (H : Hp) (C : Addr) (v : V) : Prop := ∃ a dx fs, v = .ref a ∧ H a = some (.ins C dx fs)
theorem IsIns.at_ {v : V} {u : Value} (I : Inv X pins σ H s) (h : IsIns H C v) (r : RelV v u) : ∃ a ox od, u = .ref a ∧ PySem.W.InstAt s.heap a ox C (some od) := by
  obtain ⟨a, dx, fs, rfl, ha⟩ := h
  obtain ⟨mA, O, _⟩ := ins_get I.hok ha
  obtain ⟨od, J, _⟩ := O.look
  exact ⟨a, _, od, r, J⟩
/-- x == y -/
def rEqI (K : PySem.W.Frag) (C : Addr) (sp : Sp) (E : XK) : R2 := fun x y H Q => IsIns H C x ∧ (IsIns H C y ∨ ∃ t, TyX K H y t ∧ PySem.W.notFirst K C t = true) ∧ sp [x, y] H (fun v H' => (∃ b, v = .bl b) ∧ Q v H') E
theorem looks_of {y : V} {u : Value} (I : Inv X pins σ H s) (ry : RelV y u) (h : IsIns H C y ∨ ∃ t, TyX X.K H y t ∧ PySem.W.notFirst X.K C t = true) : ∃ t, PySem.W.Looks (model X.prog X.w) s.heap (typeOf u) t ∧ PySem.W.notFirst X.K C t = true := by
  rcases h with h | ⟨t, ht, hn⟩
  · obtain ⟨a, ox, od, rfl, J⟩ := h.at_ I ry
    exact ⟨.ref C, J.type, by simp [PySem.W.notFirst]⟩
  · obtain ⟨P, kx, hp, _⟩ := kit_of I ry ht
    exact ⟨t, kx.ty _ _ I.kIn hp, hn⟩
theorem op_eqI (F : FnOk X.prog X.w X.K X.mg X.base CX k f fd ps sp) (M : OwnM X.K C "__eq__" f fd ps) (hx : Passes CX X.nox E) (hr : Room k X.A) : OpR X (compareOp .Eq) (rEqI X.K C sp E) := by
  intro pins s σ H x y v u Q I rx ry hq
  obtain ⟨hi, hy, hsp⟩ := hq
  obtain ⟨t, lk, hn⟩ := looks_of I ry hy
  obtain ⟨a, ox, od, rfl, J⟩ := hi.at_ I rx
  obtain ⟨m, hF⟩ := I.fr
  show wpAny (model X.prog X.w) X.A (richCompare .Eq (.ref a) u) (EP X pins σ Q) X.xe s
  refine PySem.W.cmp_K (op := .Eq) (tb := t) hr.units0 hF I.ok.mod.kin J lk hn M.at_ M.fn ?_
  refine wpAny_mono (own_call F M.b hx (sub_here hr) I (.cons rx (.cons ry .nil)) hsp) (fun r s' z => ?_) fun _ _ z => z
  obtain ⟨z, H', I', rz, ⟨b, rfl⟩, q⟩ := z
  cases rz
  exact ⟨.bl b, H', I', rfl, q⟩
theorem ne_bound {M : Model} {A : Around} {E' : Value → Shared → Prop} {K : PySem.W.Frag} {a C : Addr} {ox : Obj} {od : Option Obj} {us : List Value} {Q : Option Value → Shared → Prop} (hK : K.In s.heap) (J : PySem.W.InstAt s.heap a ox C od)
    (hn : PySem.W.findIn K (.ref C) "__ne__" = some (some (.builtin "object.__ne__"))) (h : wpAny M A (call (.builtin "object.__ne__") (.ref a :: us)) (fun v => Q (some v)) E' s) : wpAny M A (callSpecialIfBound? (.ref a) "__ne__" us) Q E' s := by
  have go : wpAny M A (call (.builtin "object.__ne__") ([.ref a] ++ us) >>= fun v => pure (some v)) Q E' s := wpAny_bind (wpAny_mono h (fun _ _ z => wpAny_pure z) fun _ _ z => z)
  simp only [callSpecialIfBound?, bindSpecialIfBound?]
  refine wpAny_holding (wpAny_bind (wpAny_bind (wpAny_bind (J.type.here ((PySem.W.looks_findIn hK hn).here (wpAny_bind (wpAny_askSetting (wpAny_ite ?_))))))))
  split
  · exact wpAny_bind (wpAny_of_eq (PySem.F.cmp_object.ne.bind _) (wpAny_pure go))
  · exact wpAny_tryCatch (wpAny_bind (wpAny_of_eq (PySem.F.cmp_object.ne.bind _) (wpAny_pure go)))
/-- x != y, by == -/
theorem op_neI (F : FnOk X.prog X.w X.K X.mg X.base CX k f fd ps sp) (M : OwnM X.K C "__eq__" f fd ps) (hne : PySem.W.findIn X.K (.ref C) "__ne__" = some (some (.builtin "object.__ne__"))) (hm : PySem.W.mroIn X.K C (.type "object") = some true) (hx : Passes CX X.nox E) (hr : Room (k + 1) X.A) :
    OpR X (compareOp .NotEq) (fun x y H Q => IsIns H C x ∧ (IsIns H C y ∨ ∃ t, TyX X.K H y t ∧ PySem.W.notFirst X.K C t = true) ∧ sp [x, y] H (fun v H' => ∃ b, v = .bl b ∧ Q (.bl (!b)) H') E) := by
  intro pins s σ H x y v u Q I rx ry hq
  obtain ⟨hi, hy, hsp⟩ := hq
  obtain ⟨t, lk, hn⟩ := looks_of I ry hy
  obtain ⟨a, ox, od, rfl, J⟩ := hi.at_ I rx
  obtain ⟨m, hF⟩ := I.fr
  have X1 := I.kIn
  show wpAny (model X.prog X.w) X.A (richCompare .NotEq (.ref a) u) (EP X pins σ Q) X.xe s
  have hc : wpAny (model X.prog X.w) X.A.in1 (call (.ref f) [.ref a, u]) (fun v s' => ∃ b, v = .bool b ∧ EP X pins σ Q (.bool (!b)) s') X.xe s := by
    refine wpAny_mono (own_call F M.b hx ((sub_here hr).in1) I (.cons rx (.cons ry .nil)) hsp) (fun r s' z => ?_) fun _ _ z => z
    obtain ⟨z, H', I', rz, b, rfl, q⟩ := z
    cases rz
    exact ⟨b, rfl, .bl (!b), H', I', rfl, q⟩
  have inner : wpAny (model X.prog X.w) X.A.in1 (Builtin.«object.__ne__» ⟨[.ref a, u], []⟩) (fun fin s' => ∃ b, fin = .done (.ret (.bool b)) ∧ EP X pins σ Q (.bool b) s') X.xe s := by
    unfold Builtin.«object.__ne__»
    refine wpAny_bind (m := slotArgs "__ne__" 1 _) (wpAny_pure ?_)
    refine wpAny_bind (m := cRoomFor _ _) (wpAny_cRoomFor hr.in1.units0 ?_)
    refine wpAny_bind (m := callSpecialIfBound? (.ref a) (Str.ofString "__eq__") [u]) (PySem.W.ifBound_K X1 J M.at_ M.fn (wpAny_mono hc (fun v s' hv => ?_) fun _ _ z => z))
    obtain ⟨b, rfl, q⟩ := hv
    refine wpAny_bind (m := truthy (.bool b)) (wpAny_truthy_bool ?_)
    exact wpAny_pure ⟨!b, rfl, q⟩
  have one : wpAny (model X.prog X.w) X.A (tryCompare (.ref a) "__ne__" u) (fun r s' => ∃ v, r = some v ∧ EP X pins σ Q v s') X.xe s := by
    unfold tryCompare
    refine wpAny_bind (ne_bound X1 J hne (wpAny_call (codeAny_call_builtin PySem.F.cmp_object.ne.plain PySem.F.cmpEntry_ne (PySem.W.check_slot PySem.F.cmpKind_ne PySem.F.cmpSplit_ne (J.type.andThen (PySem.W.looks_mroIn X1 hm)) (PySem.F.cmpArgs_ne _ _) (wpAny_mono inner (fun fin s' hv => ?_) fun _ _ z => z)))))
    obtain ⟨b, rfl, q⟩ := hv
    first | exact ⟨_, rfl, wpAny_pure ⟨_, rfl, q⟩⟩ | exact wpAny_pure ⟨_, rfl, q⟩ | exact ⟨_, rfl, q⟩
  unfold richCompare
  simp only [oneThing_ref]
  refine wpAny_holding (wpAny_bind (wpAny_cRoomFor hr.units0 (wpAny_bind (J.type.here (wpAny_bind (lk.here ?_))))))
  have last : ∀ {rf : Bool}, rf = false → wpAny (model X.prog X.w) X.A (do
      if rf then
        if let some v ← tryCompare u (cmpInfo .NotEq).2.2 (.ref a) then rule "compare.subclass-reflected-first"; return v
      if let some v ← tryCompare (.ref a) (cmpInfo .NotEq).2.1 u then return v
      if !rf then
        if let some v ← tryCompare u (cmpInfo .NotEq).2.2 (.ref a) then return v
      rule "compare.ne-identity"; return .bool (!(← isSame (.ref a) u))) (EP X pins σ Q) X.xe s := by
    rintro rf rfl
    simp only [Bool.false_eq_true, if_false]
    refine wpAny_bind (wpAny_mono one (fun r s' z => ?_) fun _ _ z => z)
    obtain ⟨v, rfl, q⟩ := z
    exact wpAny_pure q
  split
  · rename_i q
    have e : PySem.W.subIn X.K t (.ref C) = some false := by
      rcases Bool.or_eq_true_iff.mp hn with e | e
      · rw [beq_iff_eq.mp e] at q; simp at q
      · exact beq_iff_eq.mp e
    exact wpAny_bind ((PySem.W.looks_subIn X1 e).here (last rfl))
  · exact wpAny_bind (wpAny_pure (last rfl))
/-- len(x) -/
theorem call_lenI (F : FnOk X.prog X.w X.K X.mg X.base CX k f fd ps sp) (M : OwnM X.K C "__len__" f fd ps) (hx : Passes CX X.nox E) (hr : Room (k + 1) X.A) :
    CallR X (.builtin "len") (fun xs H Q => ∃ x, xs = [x] ∧ IsIns H C x ∧ sp [x] H (fun v H' => ∃ n : Nat, v = .int n ∧ n < 2 ^ 62 ∧ Q (.int n) H') E) := by
  intro pins s σ H xs us Q I r h
  obtain ⟨x, rfl, hi, hsp⟩ := h
  obtain ⟨u, rfl, ru⟩ := vals1 r
  obtain ⟨a, ox, od, rfl, J⟩ := hi.at_ I ru
  obtain ⟨m, hF⟩ := I.fr
  refine PySem.W.len_K hF I.ok.mod.kin J M.at_ M.fn (wpAny_mono (own_call F M.b hx ((sub_here hr).in1) I (.cons ru .nil) hsp) (fun r s' z => ?_) fun _ _ z => z)
  obtain ⟨z, H', I', rz, n, rfl, hn, q⟩ := z
  obtain ⟨t, rfl⟩ := rz
  exact ⟨⟨by omega, by omega⟩, .int n, H', I'.tok _, ⟨_, rfl⟩, q⟩
/-- repr(x) -/
theorem call_reprI (F : FnOk X.prog X.w X.K X.mg X.base CX k f fd ps sp) (M : OwnM X.K C "__repr__" f fd ps) (hx : Passes CX X.nox E) (hr : Room (k + 1) X.A) :
    CallR X (.builtin "repr") (fun xs H Q => ∃ x, xs = [x] ∧ IsIns H C x ∧ sp [x] H (fun v H' => ∃ z, v = .str z ∧ Q (.str z) H') E) := by
  intro pins s σ H xs us Q I r h
  obtain ⟨x, rfl, hi, hsp⟩ := h
  obtain ⟨u, rfl, ru⟩ := vals1 r
  obtain ⟨a, ox, od, rfl, J⟩ := hi.at_ I ru
  obtain ⟨m, hF⟩ := I.fr
  refine PySem.W.repr_K hr.in1.units0 hF I.ok.mod.kin J M.at_ M.fn (wpAny_mono (own_call F M.b hx ((sub_here hr).in1) I (.cons ru .nil) hsp) (fun r s' z => ?_) fun _ _ z => z)
  obtain ⟨z, H', I', rz, y, rfl, q⟩ := z
  obtain ⟨t, rfl⟩ := rz
  exact ⟨.str y, H', I', ⟨_, rfl⟩, q⟩
/-- y in x -/
theorem op_inI (F : FnOk X.prog X.w X.K X.mg X.base CX k f fd ps sp) (M : OwnM X.K C "__contains__" f fd ps) (hx : Passes CX X.nox E) (hr : Room k X.A) :
    OpR X (compareOp .In) (fun y x H Q => IsIns H C x ∧ sp [x, y] H (fun v H' => ∃ b, v = .bl b ∧ Q (.bl b) H') E) := by
  intro pins s σ H y x u v Q I ry rx hq
  obtain ⟨hi, hsp⟩ := hq
  obtain ⟨a, ox, od, rfl, J⟩ := hi.at_ I rx
  obtain ⟨m, hF⟩ := I.fr
  refine PySem.W.in_K hF I.ok.mod.kin J M.at_ M.fn (wpAny_mono (own_call F M.b hx (sub_here hr) I (.cons rx (.cons ry .nil)) hsp) (fun r s' z => ?_) fun _ _ z => z)
  obtain ⟨z, H', I', rz, b, rfl, q⟩ := z
  cases rz
  exact wpAny_truthy_bool ⟨.bl b, H', I', rfl, q⟩
end
end Lw
set_option Elab.async false
set_option linter.all false
set_option maxRecDepth 100000
set_option maxHeartbeats 4000000
/-! books.py: Book: what is told of a book; == -/
namespace Lw
open PySem PySem.Spec PyProof.Rows L2
abbrev sBLetters : Stmt := inClass cBook 2
abbrev sBSize : Stmt := inClass cBook 3
abbrev sBStarts : Stmt := inClass cBook 4
abbrev sBEnds : Stmt := inClass cBook 5
abbrev sBSteps : Stmt := inClass cBook 6
abbrev sBLen : Stmt := inClass cBook 7
abbrev sBEq : Stmt := inClass cBook 10
/-- the steps as data -/
def stepD (d : List V) : PyData := .tuple (d.map pd)
section
variable {P : Program} {w : World} {K : PySem.W.Frag} {mg : Str → Option Value} {base : Heap}
theorem scBSteps : FnScope ["self"] ["self"] (defScope sBSteps) := ⟨rfl, rfl, rfl, by decide +kernel, rfl, by decide +kernel, by decide +kernel⟩
def spBSteps (C : Addr) : Sp := fun vs H Q _ => ∃ (a : Addr) (L : Str) (n : Int) (S E : List V) (zs : List PyData), vs = [.ref a] ∧ BookAt H C a L n S E zs ∧
  ∀ l H' us, H l = none → Same H H' → H' l = some (.lst us) → Paired (TupAt H') us (trip n zs (ways L n)) → Q (.ref l) H'
theorem ok_bsteps {f C : Addr} {fd : FuncData} (F : Fun K "steps" "Book.steps" sBSteps f fd) (B : Bl mg) (T : BkT K mg C) : FnOk P w K mg base CX0 1 f fd ["self"] (spBSteps C) := by
  refine F.ok scBSteps (fun vs H Q E h => ?_) (fun cdv A outer s H vs Q E hr h => ?_)
  · obtain ⟨a, L, n, S, Ee, zs, rfl, _⟩ := h
    rfl
  · obtain ⟨a, L, n, S, Ee, zs, rfl, ⟨dx, st, en, ld, sd, us, h1, h2, h3, h4, h6, h7⟩, q⟩ := h
    refine ⟨_, pss_one (ps_ret (pe_callTy call_list_of (by rfl) B.list (by decide +kernel) (by exact (pa_cons (pe_fld (pv 0) rfl) pa_nil)))), ?_⟩
    refine ⟨_, rfl, a, C, dx, _, _, rfl, h1, T.cl, T.na _ (by decide +kernel), rfl, sd, us, rfl, .inl (.inl (.inl h6)), fun l hl => ?_⟩
    have s1 : Same H (upd H l (.lst us)) := Same.new' (Same.refl H) hl
    exact q l _ us hl s1 upd_same (Paired.imp2 (fun _ _ x => TupAt.same s1 x) h7)
theorem scBLen : FnScope ["self"] ["self"] (defScope sBLen) := ⟨rfl, rfl, rfl, by decide +kernel, rfl, by decide +kernel, by decide +kernel⟩
def spBLen (C : Addr) : Sp := fun vs H Q _ => ∃ (a : Addr) (L : Str) (n : Int) (S E : List V) (zs : List PyData), vs = [.ref a] ∧ BookAt H C a L n S E zs ∧ Q (.int ((trip n zs (ways L n)).length : Nat)) H
theorem ok_blen {f C : Addr} {fd : FuncData} (F : Fun K "__len__" "Book.__len__" sBLen f fd) (B : Bl mg) (T : BkT K mg C) : FnOk P w K mg base CX0 1 f fd ["self"] (spBLen C) := by
  refine F.ok scBLen (fun vs H Q E h => ?_) (fun cdv A outer s H vs Q E hr h => ?_)
  · obtain ⟨a, L, n, S, Ee, zs, rfl, _⟩ := h
    rfl
  · obtain ⟨a, L, n, S, Ee, zs, rfl, ⟨dx, st, en, ld, sd, us, h1, h2, h3, h4, h6, h7⟩, q⟩ := h
    refine ⟨_, pss_one (ps_ret (pe_callB call_len_seq (by rfl) B.len PySem.boot_len (by exact (pa_cons (pe_fld (pv 0) rfl) pa_nil)))), ?_⟩
    refine ⟨_, rfl, a, C, dx, _, _, rfl, h1, T.cl, T.na _ (by decide +kernel), rfl, sd, us, rfl, .inl (.inl (.inl h6)), ?_⟩
    rw [Paired.len h7]
    exact q
/-- two books, asked whether they are equal; or one and something else -/
structure BkE (K : PySem.W.Frag) (C : Addr) : Prop where
  ha : PySem.W.findIn K (.ref C) "__class__" = some (some (.builtin "object.__class__"))
  hn : PySem.W.specialIn K (.builtin "object.__class__") "__get__" = some (some (.builtin "getset_descriptor.__get__"))
  htk : PySem.W.takesIn K (.builtin "object.__class__") = some true
  hm : PySem.W.mroIn K C (.type "object") = some true
  kit : PySem.W.kitOne K (.ref C) (.ref C) = some true
/-- what a book has, as data -/
def bkD (L : Str) (n : Int) (S E : List V) (zs : List PyData) : List PyData := [.str L, .int n, .tuple (S.map pd), .tuple (E.map pd), .list ((trip n zs (ways L n)).map stepD)]
theorem scBEq : FnScope ["self", "other"] ["self", "other"] (defScope sBEq) := ⟨rfl, rfl, rfl, by decide +kernel, rfl, by decide +kernel, by decide +kernel⟩
def spBEq (K : PySem.W.Frag) (C : Addr) : Sp := fun vs H Q _ => ∃ (a : Addr) (v : V) (L : Str) (n : Int) (S E : List V) (zs : List PyData), vs = [.ref a, v] ∧ BookAt H C a L n S E zs ∧
  ((∃ (b : Addr) (L' : Str) (n' : Int) (S' E' : List V) (zs' : List PyData), v = .ref b ∧ BookAt H C b L' n' S' E' zs' ∧ S.all plainV = true ∧ E.all plainV = true ∧ S'.all plainV = true ∧ E'.all plainV = true ∧ n ≤ 7 ∧ n' ≤ 7 ∧
      (bkD L n S E zs).all SeqAt.shaped = true ∧ (bkD L' n' S' E' zs').all SeqAt.shaped = true ∧ Q (.bl (PyData.eqvAll (bkD L n S E zs) (bkD L' n' S' E' zs'))) H) ∨
    (∃ t, TyX K H v t ∧ PySem.W.kitOne K t (.ref C) = some false ∧ Q (.bl false) H))
theorem behinds_plain {n : Int} {zs : List PyData} {b : Int} {c : Str} : (behinds n zs b c).all plainV = true := by
  unfold behinds picks
  rw [List.all_map, List.all_eq_true]
  intro x _
  rfl
theorem trip_plain {n : Int} {zs : List PyData} : ∀ qs : List (Int × Str), ∀ d ∈ trip n zs qs, d.all plainV = true := by
  intro qs d hd
  unfold trip at hd
  obtain ⟨q, _, hd⟩ := List.mem_flatMap.mp hd
  obtain ⟨x, hx, rfl⟩ := List.mem_map.mp hd
  have := List.all_eq_true.mp (behinds_plain (n := n) (zs := zs) (b := q.1) (c := q.2)) x hx
  show (true && (true && (plainV x && true))) = true
  rw [this]
  rfl
theorem tups_dp {H : Hp} : ∀ {us : List V} {ds : List (List V)}, Paired (TupAt H) us ds → (∀ d ∈ ds, d.all plainV = true) → DpAll K H us (ds.map stepD)
  | _, _, .nil, _ => .nil
  | _, _, .cons ⟨t, e, ht⟩ r, h => by
    subst e
    exact .cons (dp_tup (.inl (.inl ht)) (h _ List.mem_cons_self)) (tups_dp r fun d hd => h d (List.mem_cons_of_mem _ hd))
theorem ok_beq {f C : Addr} {fd : FuncData} (F : Fun K "__eq__" "Book.__eq__" sBEq f fd) (B : Bl mg) (T : BkT K mg C) (Te : BkE K C) : FnOk P w K mg base CX0 1 f fd ["self", "other"] (spBEq K C) := by
  refine F.ok scBEq (fun vs H Q E h => ?_) (fun cdv A outer s H vs Q E hr h => ?_)
  · obtain ⟨a, v, L, n, S, Ee, zs, rfl, _⟩ := h
    rfl
  · obtain ⟨a, v, L, n, S, Ee, zs, rfl, ⟨dx, st, en, ld, sd, us, h1, h2, h3, h4, h6, h7⟩, hq⟩ := h
    have hu : (A.deeper (envOfC "Book.__eq__" (defScope sBEq) s.heap.objs.size f cdv)).units + 64 < cLine := by
      have := hr.units
      omega
    refine ⟨_, pss_one (ps_ret (pe_and (pe_callB call_isi (by rfl) B.isinstance (by decide +kernel) (by exact (pa_cons (pv 1) (pa_cons (pe_glob (v := .ref C) (by rfl) T.gC rfl) pa_nil))))
      (pe_and (pe_cmpR (op_eqD hu) (pe_fld (pv 0) rfl) (pe_fld (pv 1) rfl) (nomark _))
      (pe_and (pe_cmpR (op_eqD hu) (pe_fld (pv 0) rfl) (pe_fld (pv 1) rfl) (nomark _))
      (pe_and (pe_cmpR (op_eqD hu) (pe_fld (pv 0) rfl) (pe_fld (pv 1) rfl) (nomark _))
      (pe_and (pe_cmpR (op_eqD hu) (pe_fld (pv 0) rfl) (pe_fld (pv 1) rfl) (nomark _))
      (pe_one (pe_cmpR (op_eqD hu) (pe_fld (pv 0) rfl) (pe_fld (pv 1) rfl) (nomark _))))))))), ?_⟩
    rcases hq with ⟨b, L', n', S', E', zs', rfl, ⟨dx', st', en', ld', sd', us', g1, g2, g3, g4, g6, g7⟩, pS, pE, pS', pE', n7, n7', sh, sh', q⟩ | ⟨t, ht, hk, q⟩
    · refine ⟨_, rfl, .ref b, .ref C, .ref C, .ref C, true, rfl, .own C, .base (.ins g1 T.cl Te.ha Te.hn Te.htk Te.hm), Te.kit, _, rfl, iteT ?_⟩
      simp only [bkD, List.all_cons, List.all_nil, Bool.and_true, Bool.and_eq_true] at sh sh'
      obtain ⟨w1, w2, w3, w4, w5⟩ := sh
      obtain ⟨x1, x2, x3, x4, x5⟩ := sh'
      have fl : ∀ g, g ∈ FSelf → NoAttr K C g := T.na
      simp only [bkD, PyData.eqvAll, Bool.and_true] at q
      refine ⟨_, rfl, a, C, dx, _, _, rfl, h1, T.cl, T.na _ (by decide +kernel), rfl, _, rfl, b, C, dx', _, _, rfl, g1, T.cl, T.na _ (by decide +kernel), rfl, _, _, .str L, .str L', w1, x1, _, rfl, ?_⟩
      cases e1 : PyData.eqv (.str L) (.str L') with
      | false => rw [e1, Bool.false_and] at q; exact iteF q
      | true =>
        rw [e1, Bool.true_and] at q
        refine iteT ⟨_, rfl, a, C, dx, _, _, rfl, h1, T.cl, T.na _ (by decide +kernel), rfl, _, rfl, b, C, dx', _, _, rfl, g1, T.cl, T.na _ (by decide +kernel), rfl, _, _, .int n, .int n', w2, x2, _, rfl, ?_⟩
        cases e2 : PyData.eqv (.int n) (.int n') with
        | false => rw [e2, Bool.false_and] at q; exact iteF q
        | true =>
          rw [e2, Bool.true_and] at q
          refine iteT ⟨_, rfl, a, C, dx, _, _, rfl, h1, T.cl, T.na _ (by decide +kernel), rfl, _, rfl, b, C, dx', _, _, rfl, g1, T.cl, T.na _ (by decide +kernel), rfl, _, _, dp_tup (.inl (.inl h2)) pS, dp_tup (.inl (.inl g2)) pS', w3, x3, _, rfl, ?_⟩
          cases e3 : PyData.eqv (.tuple (S.map pd)) (.tuple (S'.map pd)) with
          | false => rw [e3, Bool.false_and] at q; exact iteF q
          | true =>
            rw [e3, Bool.true_and] at q
            refine iteT ⟨_, rfl, a, C, dx, _, _, rfl, h1, T.cl, T.na _ (by decide +kernel), rfl, _, rfl, b, C, dx', _, _, rfl, g1, T.cl, T.na _ (by decide +kernel), rfl, _, _, dp_tup (.inl (.inl h3)) pE, dp_tup (.inl (.inl g3)) pE', w4, x4, _, rfl, ?_⟩
            cases e4 : PyData.eqv (.tuple (Ee.map pd)) (.tuple (E'.map pd)) with
            | false => rw [e4, Bool.false_and] at q; exact iteF q
            | true =>
              rw [e4, Bool.true_and] at q
              exact iteT ⟨_, rfl, a, C, dx, _, _, rfl, h1, T.cl, T.na _ (by decide +kernel), rfl, _, rfl, b, C, dx', _, _, rfl, g1, T.cl, T.na _ (by decide +kernel), rfl, _, _, .lst (.inl (.inl h6)) (tups_dp h7 (trip_plain _)), .lst (.inl (.inl g6)) (tups_dp g7 (trip_plain _)), w5, x5, q⟩
    · exact ⟨_, rfl, v, .ref C, t, .ref C, false, rfl, .own C, ht, hk, _, rfl, iteF q⟩
end
end Lw
set_option Elab.async false
set_option linter.all false
set_option maxRecDepth 100000
set_option maxHeartbeats 4000000
/-! repr of data at any depth, and data in an f-string, where no repr is under way -/
namespace Lw
open PySem PySem.Spec PyProof.Rows L2
/-- what may be shown -/
def showOk (z : PyData) : Bool := z.showable && !z.hasDict && decide (z.depth ≤ 20) && decide (z.shown.length ≤ 1000000)
section
variable {X : Cx} {pins : List (Addr × Obj)} {σ : L2.St} {H : Hp} {s : Shared} {k : Nat}
theorem repr_lot {A : Around} {E' : Value → Shared → Prop} {a : Addr} {z : PyData} {Q : VK} (gd : A.guards = some []) (hu : A.units + 40 < cLine) (I : Inv X pins σ H s) (hd : Dp X.K H (.ref a) z) (hk : showOk z = true) (q : Q (.str z.shown) H) :
    ∃ T, (T = "list" ∨ T = "tuple") ∧ s.TypeIs (.ref a) T ∧ wpAny (model X.prog X.w) A (call (.builtin (T ++ ".__repr__")) [.ref a]) (fun r s' => ∃ x t, r = .str x t ∧ EP X pins σ Q r s') E' s := by
  unfold showOk at hk
  simp only [Bool.and_eq_true, Bool.not_eq_true', decide_eq_true_eq] at hk
  obtain ⟨⟨⟨hs, hn⟩, hdp⟩, hl⟩ := hk
  have hz : z.shown.length ≤ sizeLine := Nat.le_trans hl (by decide)
  have fin : ∀ h' t tk, (∀ b o, s.heap.get? b = some o → h'.get? b = some o) → ∃ x u, Value.str z.shown t = .str x u ∧ EP X pins σ Q (.str z.shown t) { s with heap := h', toks := tk } := fun h' t tk kp => ⟨_, _, rfl, .str _, H, I.kept (t' := tk) kp, ⟨t, rfl⟩, q⟩
  cases hd with
  | @lst a xs ds hq hall =>
    obtain ⟨its, rv, ⟨o, n, ho, hc, _, hdat⟩, _⟩ := I.list hq
    obtain ⟨as, ra⟩ := Dp.readsAll I ds _ its hall rv
    have rl : Reads s.heap (.ref a) (.list ds) (a :: as) := Reads.list ho hc hdat ra
    have hz' : (listText (PyData.shownAll ds)).length ≤ sizeLine := by simpa only [PyData.shown] using hz
    have hn' : PyData.hasDictAll ds = false := by simpa only [PyData.hasDict] using hn
    obtain ⟨bs, hb, hK⟩ := ReprAllK.of_readsAll (prog := X.prog) (w := X.w) ra (by simpa only [PyData.showable] using hs) (fun hx => absurd (hx.symm.trans hn') (by decide)) (fun t ht => Nat.le_trans (listText_mem_le ht) hz')
    have hna : a ∉ bs := not_mem_of_deeper rl (by simp only [PyData.depth]; omega) hb
    simp only [PyData.depth] at hdp
    refine ⟨"list", .inl rfl, ⟨o, ho, hc⟩, ?_⟩
    simp only [PyData.shown] at fin
    show wpAny _ _ (call (.builtin "list.__repr__") [.ref a]) _ _ _
    cases its with
    | nil =>
      cases ra
      simp only [PyData.shownAll, listText_nil] at fin
      exact call_list_repr_empty ⟨o, ho, hc⟩ ho hdat (fin _ _ _ fun _ _ e => e)
    | cons x l =>
      exact call_list_reprK ho hc hdat hna (by simpa using hK.length_eq) (fun i y e => hK.item i y (by simpa using e)) (A := A) gd (fun b _ => Clear.nil b) (by omega) (fun _ _ e => e) (fun h' t tk kp => fin h' t tk kp) hz'
  | @tup a xs ds hq hall =>
    obtain ⟨its, rv, ⟨o, ho, hc, n, hdat⟩, _⟩ := I.tuple hq
    obtain ⟨as, ra⟩ := Dp.readsAll I ds _ its hall rv
    have rl : Reads s.heap (.ref a) (.tuple ds) as := Reads.tuple ho hc hdat ra
    have hz' : (tupleText (PyData.shownAll ds)).length ≤ sizeLine := by simpa only [PyData.shown] using hz
    have hn' : PyData.hasDictAll ds = false := by simpa only [PyData.hasDict] using hn
    obtain ⟨bs, hb, hK⟩ := ReprAllK.of_readsAll (prog := X.prog) (w := X.w) ra (by simpa only [PyData.showable] using hs) (fun hx => absurd (hx.symm.trans hn') (by decide)) (fun t ht => Nat.le_trans (tupleText_mem_le ht) hz')
    have hna : a ∉ bs := not_mem_of_deeper rl (by simp only [PyData.depth]; omega) hb
    simp only [PyData.depth] at hdp
    refine ⟨"tuple", .inr rfl, ⟨o, ho, hc⟩, ?_⟩
    simp only [PyData.shown] at fin
    show wpAny _ _ (call (.builtin "tuple.__repr__") [.ref a]) _ _ _
    exact call_tuple_reprK ho hc hdat hna hK (A := A) gd (fun b _ => Clear.nil b) (by omega) (fun _ _ e => e) (fun h' t tk kp => fin h' t tk kp) hz'
/-- repr(x) of data -/
theorem call_reprD (gd : X.A.guards = some []) (hr : Room k X.A) : CallR X (.builtin "repr") (fun xs H Q => ∃ v z, xs = [v] ∧ Dp X.K H v z ∧ showOk z = true ∧ Q (.str z.shown) H) := by
  intro pins s σ H xs us Q I r h
  obtain ⟨v, z, rfl, hd, hk, q⟩ := h
  obtain ⟨u, rfl, ru⟩ := vals1 r
  have hu := hr.units
  have hk0 := hk
  unfold showOk at hk
  simp only [Bool.and_eq_true, Bool.not_eq_true', decide_eq_true_eq] at hk
  obtain ⟨⟨⟨hs, hn⟩, hdp⟩, hl⟩ := hk
  have hz : z.shown.length ≤ sizeLine := Nat.le_trans hl (by decide)
  have fin : ∀ t tk, EP X pins σ Q (.str z.shown t) { s with toks := tk } := fun t tk => ⟨.str _, H, I.tok _, ⟨t, rfl⟩, q⟩
  have lot : ∀ a, v = .ref a → wpAny (model X.prog X.w) X.A (call (.builtin "repr") [u]) (EP X pins σ Q) X.xe s := fun a e => by
    subst e
    cases ru
    obtain ⟨T, hT, ty, hw⟩ := repr_lot (A := X.A.in1) (E' := X.xe) gd (by show X.A.units + 1 + 40 < cLine; omega) I hd hk0 q
    rcases hT with rfl | rfl
    · exact call_repr_slot (by omega) ty F.slot_list_repr.toG (wpAny_mono hw (fun r s' hq => by
        obtain ⟨x, t, rfl, hq⟩ := hq
        exact ⟨x, t, rfl, hq⟩) fun _ _ e => e)
    · exact call_repr_slot (by omega) ty F.slot_tuple_repr (wpAny_mono hw (fun r s' hq => by
        obtain ⟨x, t, rfl, hq⟩ := hq
        exact ⟨x, t, rfl, hq⟩) fun _ _ e => e)
  cases hd with
  | non => cases ru; exact PySem.P.repr_of_none (fin _ _)
  | bl b => cases ru; exact PySem.P.repr_of_bool (fin _ _)
  | int i =>
    obtain ⟨t, rfl⟩ := ru
    exact PySem.P.repr_of_int (by simpa only [PyData.showable, decide_eq_true_eq] using hs) (fin _ _)
  | str x =>
    obtain ⟨t, rfl⟩ := ru
    exact PySem.P.repr_of_str (fin _ _) hz
  | lst hq hall => exact lot _ rfl
  | tup hq hall => exact lot _ rfl
/-- {x}, x a list or a tuple of data -/
def tFmtD (K : PySem.W.Frag) (te : TE) : TE := fun σ H Q => te σ H fun x H1 => ∃ a z, x = .ref a ∧ Dp K H1 x z ∧ showOk z = true ∧ Q (.str z.shown) H1
theorem pe_fmtD {e : Expr} {te : TE} {pos : Pos} (gd : X.A.guards = some []) (hr : Room k X.A) (he : PE X e te) : PE X (.FormattedValue e (-1) none pos) (tFmtD X.K te) := by
  refine ⟨fun pins s σ H Q I h => ?_⟩
  refine wpAny_FormattedValue_plain (thn (he.run pins s σ H _ I h) fun v s1 hv => ?_)
  obtain ⟨x, H1, I1, r1, a, z, rfl, hd, hk, q⟩ := hv
  cases r1
  have hu := hr.units
  obtain ⟨T, hT, ty, hw⟩ := repr_lot (A := X.A.in1.in1) (E' := X.xe) gd (by show X.A.units + 1 + 1 + 40 < cLine; omega) (I1.tok (s1.toks + 1)) hd hk q
  rcases hT with rfl | rfl
  · exact wpAny_formatField_slot (fun _ _ => nofun) (by omega) ty F.slot_list_format F.slot_list_str F.slot_list_repr.toG hw
  · exact wpAny_formatField_slot (fun _ _ => nofun) (by omega) ty F.slot_tuple_format F.slot_tuple_str F.slot_tuple_repr hw
end
end Lw
set_option Elab.async false
set_option linter.all false
set_option maxRecDepth 100000
set_option maxHeartbeats 4000000
/-! books.py: Book.__repr__; repr of an instance -/
namespace Lw
open PySem PySem.Spec PyProof.Rows L2
abbrev sBRepr : Stmt := inClass cBook 11
section
variable {X : Cx} {CX : CXT} {k : Nat} {f C : Addr} {fd : FuncData} {ps : List Str} {sp : Sp} {E : XK} {pins : List (Addr × Obj)} {σ : L2.St} {H : Hp} {s : Shared}
theorem own_callG {A : Around} {us : List Value} {vs : List V} {Q : VK} {E' : Value → Shared → Prop} (gd : A.guards = some []) (F : FnG X.prog X.w X.K X.mg X.base CX k f fd ps sp) (hb : Binds X.K fd ps []) (hx : Passes CX X.nox E) (sb : L2.Sub X k A) (I : Inv X pins σ H s) (r : Vals vs us) (h : sp vs H Q E) :
    wpAny (model X.prog X.w) A (call (.ref f) us) (EP X pins σ Q) E' s := by
  have e0 : Env0 X.prog X.w X.K X.mg X.base A X.stack s H := by
    have e := I.env0
    exact ⟨by rw [sb.fr]; exact e.frames, e.mod, e.bs, e.bsz, e.funs, e.frf, e.hok, e.bare⟩
  have hl := F.size _ _ _ _ h
  refine wpAny_call (codeAny_mono (F.goes A X.stack s H us vs Q E gd sb.room e0 (by
    have := hb s us I.kIn (by rw [List.append_nil, ← r.length]; exact hl)
    rw [List.append_nil] at this
    exact this) r h) fun o s' ho => ?_)
  cases o with
  | error e => exact (hx pins σ H s e s' (I.wish _) ho).elim
  | ok fl =>
    cases fl with
    | ret u => exact I.after ho
    | next => exact ho.elim
    | brk => exact ho.elim
    | cont => exact ho.elim
/-- repr(x), where no repr is under way -/
theorem call_reprG (gd : X.A.guards = some []) (F : FnG X.prog X.w X.K X.mg X.base CX k f fd ps sp) (M : OwnM X.K C "__repr__" f fd ps) (hx : Passes CX X.nox E) (hr : Room (k + 1) X.A) :
    CallR X (.builtin "repr") (fun xs H Q => ∃ x, xs = [x] ∧ IsIns H C x ∧ sp [x] H (fun v H' => ∃ z, v = .str z ∧ Q (.str z) H') E) := by
  intro pins s σ H xs us Q I r h
  obtain ⟨x, rfl, hi, hsp⟩ := h
  obtain ⟨u, rfl, ru⟩ := vals1 r
  obtain ⟨a, ox, od, rfl, J⟩ := hi.at_ I ru
  obtain ⟨m, hF⟩ := I.fr
  refine PySem.W.repr_K hr.in1.units0 hF I.ok.mod.kin J M.at_ M.fn (wpAny_mono (own_callG (A := X.A.in1) gd F M.b hx ((sub_here hr).in1) I (.cons ru .nil) hsp) (fun r s' z => ?_) fun _ _ z => z)
  obtain ⟨z, H', I', rz, y, rfl, q⟩ := z
  obtain ⟨t, rfl⟩ := rz
  exact ⟨.str y, H', I', ⟨_, rfl⟩, q⟩
end
/-- what a book shows -/
def bkShown (L : Str) (n : Int) (S E : List V) (zs : List PyData) : Str :=
  "Book(" ++ reprText L ++ ", " ++ toString n ++ ", " ++ (PyData.tuple (S.map pd)).shown ++ ", " ++ (PyData.tuple (E.map pd)).shown ++ ", " ++ (PyData.list ((trip n zs (ways L n)).map stepD)).shown ++ ")"
section
variable {P : Program} {w : World} {K : PySem.W.Frag} {mg : Str → Option Value} {base : Heap}
theorem scBRepr : FnScope ["self"] ["self"] (defScope sBRepr) := ⟨rfl, rfl, rfl, by decide +kernel, rfl, by decide +kernel, by decide +kernel⟩
def spBRepr (C : Addr) : Sp := fun vs H Q _ => ∃ (a : Addr) (L : Str) (n : Int) (S E : List V) (zs : List PyData), vs = [.ref a] ∧ BookAt H C a L n S E zs ∧ S.all plainV = true ∧ E.all plainV = true ∧ 0 ≤ n ∧ n ≤ 7 ∧
  (bkD L n S E zs).all showOk = true ∧ (bkShown L n S E zs).length ≤ 1000000 ∧ Q (.str (bkShown L n S E zs)) H
theorem strLen (x y : Str) : (x ++ y).length = x.length + y.length := strLen_append x y
theorem empty_app (x : Str) : Str.empty ++ x = x := by
  obtain ⟨⟨l⟩⟩ := x
  show (⟨#[] ++ ⟨l⟩⟩ : Str) = _
  simp
theorem ok_brepr {f C : Addr} {fd : FuncData} (F : Fun K "__repr__" "Book.__repr__" sBRepr f fd) (T : BkT K mg C) : FnG P w K mg base CX0 1 f fd ["self"] (spBRepr C) := by
  refine fng_of0 F scBRepr (fun vs H Q E h => ?_) (fun cdv A outer s H vs Q E gd hr h => ?_)
  · obtain ⟨a, L, n, S, Ee, zs, rfl, _⟩ := h
    rfl
  · obtain ⟨a, L, n, S, Ee, zs, rfl, ⟨dx, st, en, ld, sd, us, h1, h2, h3, h4, h6, h7⟩, pS, pE, n0, n7, hk, hz, q⟩ := h
    refine ⟨_, pss_one (ps_ret (pe_joined (.cons pe_str (.cons (pe_fmtR (pe_fld (pv 0) rfl)) (.cons pe_str (.cons (pe_fmt (pe_fld (pv 0) rfl)) (.cons pe_str (.cons (pe_fmtD gd hr (pe_fld (pv 0) rfl)) (.cons pe_str (.cons (pe_fmtD gd hr (pe_fld (pv 0) rfl)) (.cons pe_str
      (.cons (pe_fmtD gd hr (pe_fld (pv 0) rfl)) (.cons pe_str .nil))))))))))))), ?_⟩
    simp only [bkD, List.all_cons, List.all_nil, Bool.and_true, Bool.and_eq_true] at hk
    obtain ⟨k1, k2, k3, k4, k5⟩ := hk
    have e0 := hz
    simp only [bkShown, strLen] at hz
    have sl : sizeLine ≥ 1000000 := by decide
    have kL : (reprText L).length ≤ sizeLine := by omega
    have kn : n.natAbs.log2 < 1920 := Nat.lt_of_le_of_lt (Nat.log2_le_self _) (by omega)
    refine ⟨_, rfl, ?_, ?_⟩
    · rw [empty_app]; decide +kernel
    refine ⟨_, rfl, a, C, dx, _, _, rfl, h1, T.cl, T.na _ (by decide +kernel), rfl, .inl ⟨L, rfl, kL, _, rfl, ?_, ?_⟩⟩
    · simp only [empty_app, strLen]; omega
    refine ⟨_, rfl, ?_, ?_⟩
    · simp only [empty_app, strLen]; omega
    refine ⟨_, rfl, a, C, dx, _, _, rfl, h1, T.cl, T.na _ (by decide +kernel), rfl, .inr ⟨n, rfl, kn, _, rfl, ?_, ?_⟩⟩
    · simp only [empty_app, strLen]; omega
    refine ⟨_, rfl, ?_, ?_⟩
    · simp only [empty_app, strLen]; omega
    refine ⟨_, rfl, a, C, dx, _, _, rfl, h1, T.cl, T.na _ (by decide +kernel), rfl, st, _, rfl, dp_tup (.inl (.inl h2)) pS, k3, _, rfl, ?_, ?_⟩
    · simp only [empty_app, strLen]; omega
    refine ⟨_, rfl, ?_, ?_⟩
    · simp only [empty_app, strLen]; omega
    refine ⟨_, rfl, a, C, dx, _, _, rfl, h1, T.cl, T.na _ (by decide +kernel), rfl, en, _, rfl, dp_tup (.inl (.inl h3)) pE, k4, _, rfl, ?_, ?_⟩
    · simp only [empty_app, strLen]; omega
    refine ⟨_, rfl, ?_, ?_⟩
    · simp only [empty_app, strLen]; omega
    refine ⟨_, rfl, a, C, dx, _, _, rfl, h1, T.cl, T.na _ (by decide +kernel), rfl, sd, _, rfl, .lst (.inl (.inl h6)) (tups_dp h7 (trip_plain _)), k5, _, rfl, ?_, ?_⟩
    · simp only [empty_app, strLen]; omega
    refine ⟨_, rfl, ?_, ?_⟩
    · simp only [empty_app, strLen]; omega
    show Q (.str _) H
    rw [empty_app]
    exact q
end
end Lw
set_option Elab.async false
set_option linter.all false
set_option maxRecDepth 100000
set_option maxHeartbeats 4000000
/-! how long a model's parts are when shown -/
namespace Lw
open PySem PySem.Spec PyProof.Rows L2
/-- may be shown, in so many signs, so deep -/
structure Sh (n d : Nat) (z : PyData) : Prop where
  s : z.showable = true
  h : z.hasDict = false
  d : z.depth ≤ d
  n : z.shown.length ≤ n
theorem Sh.ok {n d : Nat} {z : PyData} (h : Sh n d z) (hn : n ≤ 1000000) (hd : d ≤ 20) : showOk z = true := by
  unfold showOk
  rw [h.s, h.h, decide_eq_true (Nat.le_trans h.d hd), decide_eq_true (Nat.le_trans h.n hn)]
  rfl
theorem Sh.all {n d : Nat} : ∀ {zs : List PyData}, (∀ z ∈ zs, Sh n d z) → PyData.showableAll zs = true ∧ PyData.hasDictAll zs = false ∧ PyData.depthAll zs ≤ d ∧ ((PyData.shownAll zs).map (·.length)).sum ≤ zs.length * n ∧ (PyData.shownAll zs).length = zs.length
  | [], _ => ⟨rfl, rfl, Nat.zero_le _, by simp [PyData.shownAll], rfl⟩
  | z :: r, h => by
    obtain ⟨h1, h2, h3, h4, h5⟩ := Sh.all (fun z hz => h z (List.mem_cons_of_mem _ hz)) (zs := r)
    have hz := h z List.mem_cons_self
    refine ⟨?_, ?_, ?_, ?_, ?_⟩
    · simp [PyData.showableAll, hz.s, h1]
    · simp [PyData.hasDictAll, hz.h, h2]
    · have := hz.d
      simp only [PyData.depthAll]
      omega
    · have := hz.n
      simp only [PyData.shownAll, List.map_cons, List.sum_cons, List.length_cons, Nat.succ_mul]
      omega
    · simp [PyData.shownAll, h5]
theorem Sh.list {n d k : Nat} {zs : List PyData} (h : ∀ z ∈ zs, Sh n d z) (hk : zs.length ≤ k) : Sh (k * (n + 2) + 3) (d + 1) (.list zs) := by
  obtain ⟨h1, h2, h3, h4, h5⟩ := Sh.all h
  refine ⟨by simpa only [PyData.showable] using h1, by simpa only [PyData.hasDict] using h2, by simp only [PyData.depth]; omega, ?_⟩
  simp only [PyData.shown]
  have a := listText_len_le (PyData.shownAll zs)
  have b : zs.length * (n + 2) ≤ k * (n + 2) := Nat.mul_le_mul_right _ hk
  rw [Nat.mul_add] at b
  omega
theorem Sh.tuple {n d k : Nat} {zs : List PyData} (h : ∀ z ∈ zs, Sh n d z) (hk : zs.length ≤ k) : Sh (k * (n + 2) + 3) (d + 1) (.tuple zs) := by
  obtain ⟨h1, h2, h3, h4, h5⟩ := Sh.all h
  refine ⟨by simpa only [PyData.showable] using h1, by simpa only [PyData.hasDict] using h2, by simp only [PyData.depth]; omega, ?_⟩
  simp only [PyData.shown]
  have a := tupleText_len_le (PyData.shownAll zs)
  have b : zs.length * (n + 2) ≤ k * (n + 2) := Nat.mul_le_mul_right _ hk
  rw [Nat.mul_add] at b
  omega
theorem small_ints : ∀ k : Fin 16, (PyData.int (k : Nat)).showable = true ∧ (PyData.shown (.int (k : Nat))).length ≤ 10 := by decide +kernel
theorem Sh.int {i : Int} (h0 : 0 ≤ i) (h1 : i < 16) : Sh 10 1 (.int i) := by
  obtain ⟨k, rfl⟩ := Int.eq_ofNat_of_zero_le h0
  have := small_ints ⟨k, by omega⟩
  exact ⟨this.1, rfl, by simp [PyData.depth], this.2⟩
theorem small_signs : ∀ c ∈ alphabet.cps.toList, (reprText (sgn c)).length ≤ 10 := by decide +kernel
theorem lettersV_in {L : Str} (h : lettersV (.str L) = true) : ∀ c ∈ L.cps.toList, c ∈ alphabet.cps.toList := by
  have h' : (decide (1 ≤ L.length) && decide (L.length ≤ 4) && overV alphabet (.str L) && risesV L) = true := h
  simp only [Bool.and_eq_true] at h'
  have ho : (L.cps.toList.all fun c => decide (c ∈ alphabet.cps.toList)) = true := h'.1.2
  intro c hc
  exact of_decide_eq_true (List.all_eq_true.mp ho c hc)
theorem Sh.sgn {L : Str} {c : Nat} (h : lettersV (.str L) = true) (hc : c ∈ L.cps.toList) : Sh 10 1 (.str (sgn c)) := ⟨rfl, rfl, by simp [PyData.depth], small_signs c (lettersV_in h c hc)⟩
theorem sh_tr {M : Md} (g : M.Good) {x : Tr} (hx : x ∈ M.T) : Sh 39 2 (trP x) := by
  obtain ⟨⟨h1, h2⟩, h3, h4, h5⟩ := g.tr x hx
  have := g.n7
  refine Sh.tuple (n := 10) (d := 1) (k := 3) (fun z hz => ?_) (by simp)
  simp only [List.mem_cons, List.not_mem_nil, or_false] at hz
  rcases hz with rfl | rfl | rfl
  · exact Sh.int h1 (by omega)
  · exact Sh.sgn g.l h3
  · exact Sh.int h4 (by omega)
theorem sh_links {M : Md} (g : M.Good) : Sh 8039 3 (.list (M.T.map trP)) := by
  refine Sh.list (n := 39) (d := 2) (k := 196) (fun z hz => ?_) (by rw [List.length_map]; exact g.tlen)
  obtain ⟨x, hx, rfl⟩ := List.mem_map.mp hz
  exact sh_tr g hx
theorem sh_states {n : Int} {S : List Int} (hs : S.Pairwise (· < ·)) (hr : ∀ x ∈ S, 0 ≤ x ∧ x < n) (h7 : n ≤ 7) : Sh 87 2 (.tuple ((S.map V.int).map pd)) := by
  refine Sh.tuple (n := 10) (d := 1) (k := 7) (fun z hz => ?_) (by rw [List.length_map, List.length_map]; exact ints_len hs hr h7)
  rw [List.map_map] at hz
  obtain ⟨x, hx, rfl⟩ := List.mem_map.mp hz
  have := hr x hx
  exact Sh.int this.1 (by omega)
theorem links_eq {M : Md} : (M.T.map trV).map stepD = M.T.map trP := by
  rw [List.map_map]
  rfl
theorem alpha_small : ∀ c ∈ alphabet.cps.toList, c < 16 ^ 8 := by decide +kernel
theorem sh_letters {L : Str} (h : lettersV (.str L) = true) : Sh 42 1 (.str L) := by
  refine ⟨rfl, rfl, by simp [PyData.depth], ?_⟩
  have a := PySem.StrLaws.reprText_len L (fun c hc => alpha_small c (lettersV_in h c hc))
  have b := (lettersV_len h).2
  show (reprText L).length ≤ 42
  omega
/-- what a model shows -/
def mdShown (M : Md) : Str := "Book(" ++ reprText M.L ++ ", " ++ (PyData.int M.n).shown ++ ", " ++ (PyData.tuple ((M.S.map V.int).map pd)).shown ++ ", " ++ (PyData.tuple ((M.E.map V.int).map pd)).shown ++ ", " ++ (PyData.list (M.T.map trP)).shown ++ ")"
theorem mdShown_eq {M : Md} {zs : List PyData} (e : trip M.n zs (ways M.L M.n) = M.T.map trV) : bkShown M.L M.n (M.S.map V.int) (M.E.map V.int) zs = mdShown M := by
  unfold bkShown mdShown
  rw [e, links_eq]
  simp only [PyData.shown]
end Lw
set_option Elab.async false
set_option linter.all false
set_option maxRecDepth 100000
set_option maxHeartbeats 4000000
/-! a model's parts, as data -/
namespace Lw
open PySem PySem.Spec PyProof.Rows L2
section
variable {K : PySem.W.Frag}
/-- a model's parts, as data, in the heap -/
theorem dp_states {H : Hp} {a : Addr} {S : List Int} (ha : H a = some (.tup (S.map V.int))) : Dp K H (.ref a) (.tuple ((S.map V.int).map pd)) := dp_tup (.inl (.inl ha)) (by
  rw [List.all_map, List.all_eq_true]
  intro x _
  rfl)
theorem tr_plain (x : Tr) : (trV x).all plainV = true := rfl
theorem dp_links {H : Hp} {l : Addr} {us : List V} {T : List Tr} (hl : H l = some (.lst us)) (hu : TrsAt H us T) : Dp K H (.ref l) (.list (T.map trP)) := by
  have := tups_dp (K := K) hu (fun d hd => by
    obtain ⟨x, _, rfl⟩ := List.mem_map.mp hd
    exact tr_plain x)
  rw [List.map_map] at this
  exact .lst (.inl (.inl hl)) this
end
end Lw
set_option Elab.async false
set_option linter.all false
set_option maxRecDepth 100000
set_option maxHeartbeats 4000000
/-! what is asked of a book; _law_tells -/
namespace Lw
open PySem PySem.Spec PyProof.Rows L2
structure GetB (P : Program) (w : World) (K : PySem.W.Frag) (mg : Str → Option Value) (base : Heap) (C : Addr) (m f : Str) : Prop where
  ex : ∃ (p g : Addr) (fd : FuncData), PropOf K C m p g ∧ FnOk P w K mg base CX0 1 g fd ["self"] (getSp C f) ∧ Binds K fd ["self"] []
/-- what the law needs of the class Book -/
structure BkUse (P : Program) (w : World) (K : PySem.W.Frag) (mg : Str → Option Value) (base : Heap) (C : Addr) : Prop where
  T : BkT K mg C
  gl : GetB P w K mg base C "letters" "_letters"
  gs : GetB P w K mg base C "size" "_size"
  gb : GetB P w K mg base C "starts" "_starts"
  ge : GetB P w K mg base C "ends" "_ends"
  st : ∃ (g : Addr) (fd : FuncData), Meth K C "steps" g ∧ FnOk P w K mg base CX0 1 g fd ["self"] (spBSteps C) ∧ Binds K fd ["self"] []
  ln : ∃ (g : Addr) (fd : FuncData), OwnM K C "__len__" g fd ["self"] ∧ FnOk P w K mg base CX0 1 g fd ["self"] (spBLen C)
  rp : ∃ (g : Addr) (fd : FuncData), OwnM K C "__repr__" g fd ["self"] ∧ FnG P w K mg base CX0 1 g fd ["self"] (spBRepr C)
structure DefQ (P : Program) (w : World) (K : PySem.W.Frag) (mg : Str → Option Value) (base : Heap) (k : Nat) (x : Str) (ps : List Str) (sp : Sp) : Prop where
  ex : ∃ (f : Addr) (fd : FuncData), FnG P w K mg base CX0 k f fd ps sp ∧ mg x = some (.ref f) ∧ PySem.W.keepIn K (.ref f) = true ∧ Binds K fd ps []
/-- a book's parts may be shown -/
theorem bk_ok {M : Md} (g : M.Good) {zs : List PyData} (e : trip M.n zs (ways M.L M.n) = M.T.map trV) : (bkD M.L M.n (M.S.map V.int) (M.E.map V.int) zs).all showOk = true := by
  unfold bkD
  rw [e, links_eq]
  simp only [List.all_cons, List.all_nil, Bool.and_true]
  rw [(sh_letters g.l).ok (by decide) (by decide), (Sh.int (i := M.n) (by have := g.n1; omega) (by have := g.n7; omega)).ok (by decide) (by decide), (sh_states g.s g.sr g.n7).ok (by decide) (by decide), (sh_states g.e g.er g.n7).ok (by decide) (by decide), (sh_links g).ok (by decide) (by decide)]
  rfl
theorem plain_ints {S : List Int} : (S.map V.int).all plainV = true := by
  rw [List.all_map, List.all_eq_true]
  intro x _
  rfl
theorem mdShown_len {M : Md} (g : M.Good) : (mdShown M).length ≤ 10000 := by
  unfold mdShown
  simp only [strLen]
  have a := (sh_letters g.l).n
  have a : (reprText M.L).length ≤ 42 := a
  have b := (Sh.int (i := M.n) (by have := g.n1; omega) (by have := g.n7; omega)).n
  have c := (sh_states g.s g.sr g.n7).n
  have d := (sh_states g.e g.er g.n7).n
  have e := (sh_links g).n
  have : ("Book(" : Str).length = 5 := rfl
  have : (", " : Str).length = 2 := rfl
  have : (")" : Str).length = 1 := rfl
  omega
theorem MdAt.same {p m : Addr} {H H' : Hp} {M : Md} (s : Same H H') (x : MdAt p H m M) : MdAt p H' m M := by
  obtain ⟨bb, e, l, us, h1, h2, h3, h4, h5, n1, n2, n3⟩ := x
  exact ⟨bb, e, l, us, s _ _ h1, s _ _ h2, s _ _ h3, s _ _ h4, Paired.imp2 (fun _ _ z => TupAt.same s z) h5, n1, n2, n3⟩
/-- all that a model tells, as data -/
def mdD (M : Md) : List PyData := [.str M.L, .int M.n, .tuple ((M.S.map V.int).map pd), .tuple ((M.E.map V.int).map pd), .list (M.T.map trP)]
theorem mdD_ok {M : Md} (g : M.Good) : showOk (.list (mdD M)) = true := by
  refine (Sh.list (n := 8039) (d := 3) (k := 5) (fun z hz => ?_) (by show 5 ≤ 5; decide)).ok (by decide) (by decide)
  have up : ∀ {n d : Nat} {z : PyData}, Sh n d z → n ≤ 8039 → d ≤ 3 → Sh 8039 3 z := fun h a b => ⟨h.s, h.h, Nat.le_trans h.d b, Nat.le_trans h.n a⟩
  simp only [mdD, List.mem_cons, List.not_mem_nil, or_false] at hz
  rcases hz with rfl | rfl | rfl | rfl | rfl
  · exact up (sh_letters g.l) (by decide) (by decide)
  · exact up (Sh.int (by have := g.n1; omega) (by have := g.n7; omega)) (by decide) (by decide)
  · exact up (sh_states g.s g.sr g.n7) (by decide) (by decide)
  · exact up (sh_states g.e g.er g.n7) (by decide) (by decide)
  · exact sh_links g
end Lw
set_option Elab.async false
set_option linter.all false
set_option maxRecDepth 100000
set_option maxHeartbeats 4000000
/-! a model with one thing otherwise: what it is -/
namespace Lw
open PySem PySem.Spec PyProof.Rows L2
theorem dataLt_int' (x y : Int) : PySem.W.dataLt (.int x) (.int y) = decide (x < y) := PySem.W.dataLt_int x y
theorem sort_gen {α : Type} {d : α → PyData} {lt : α → α → Prop} [DecidableRel lt] [DecidableEq α] (hlt : ∀ x y, PySem.W.dataLt (d x) (d y) = decide (lt x y)) (tri : ∀ x y, lt x y ∨ x = y ∨ lt y x) (tr : ∀ {x y z}, lt x y → lt y z → lt x z) (ir : ∀ x, ¬ lt x x) {c : List (V × α)} (nd : (c.map (·.2)).Nodup) :
    ∃ c' : List (V × α), c'.Perm c ∧ (c.map fun b => (b.1, d b.2)).mergeSort (PySem.W.dataLe false (fun b : V × PyData => b.2)) = c'.map (fun b => (b.1, d b.2)) ∧ (c'.map (·.2)).Pairwise lt := by
  let le : V × α → V × α → Bool := fun a b => !decide (lt b.2 a.2)
  refine ⟨c.mergeSort le, List.mergeSort_perm c le, ?_, ?_⟩
  · symm
    refine List.map_mergeSort (fun a _ b _ => ?_)
    rw [PySem.W.dataLe_eq]
    show (!decide (lt b.2 a.2)) = !PySem.W.dataLt (d b.2) (d a.2)
    rw [hlt]
  · have pw : (c.mergeSort le).Pairwise (fun a b => le a b = true) := by
      refine List.pairwise_mergeSort (fun a b c h1 h2 => ?_) (fun a b => ?_) c
      · simp only [le, Bool.not_eq_true', decide_eq_false_iff_not] at h1 h2 ⊢
        intro h
        rcases tri a.2 b.2 with e | e | e
        · exact h2 (tr h e)
        · rw [← e] at h2; exact h2 h
        · exact h1 e
      · simp only [le, Bool.or_eq_true, Bool.not_eq_true', decide_eq_false_iff_not]
        rcases tri a.2 b.2 with e | e | e
        · exact .inl fun h => ir _ (tr e h)
        · exact .inl fun h => by rw [e] at h; exact ir _ h
        · exact .inr fun h => ir _ (tr e h)
    have nd2 : ((c.mergeSort le).map (·.2)).Nodup := ((List.mergeSort_perm c le).map _).nodup_iff.mpr nd
    rw [List.nodup_iff_pairwise_ne] at nd2
    rw [List.pairwise_map] at nd2 ⊢
    refine (List.pairwise_and_iff.mpr ⟨pw, nd2⟩).imp fun {a b} h => ?_
    have h1 := h.1
    simp only [le, Bool.not_eq_true', decide_eq_false_iff_not] at h1
    rcases tri a.2 b.2 with e | e | e
    · exact e
    · exact absurd e h.2
    · exact absurd e h1
/-- sorted(xs + [x]) of numbers -/
theorem sort_ints {S : List Int} {x : Int} (hs : S.Pairwise (· < ·)) (hx : x ∉ S) : ∃ S' : List Int, S'.Perm (S ++ [x]) ∧ S'.Pairwise (· < ·) ∧
    (((S ++ [x]).map fun i => (V.int i, PyData.int i)).mergeSort (PySem.W.dataLe false (fun b : V × PyData => b.2))).map (·.1) = S'.map V.int := by
  have nd : (((S ++ [x]).map fun i => (V.int i, i)).map (·.2)).Nodup := by
    rw [List.map_map, show ((fun x => x.2) ∘ fun i => (V.int i, i)) = (id : Int → Int) from rfl, List.map_id, List.nodup_append]
    refine ⟨hs.imp fun {a b} h => Int.ne_of_lt h, by simp, fun a ha b hb e => ?_⟩
    simp at hb
    rw [e, hb] at ha
    exact hx ha
  obtain ⟨c', h1, h2, h3⟩ := sort_gen (d := PyData.int) (lt := fun a b : Int => a < b) dataLt_int' (fun x y => by omega) (fun h1 h2 => Int.lt_trans h1 h2) (fun x => Int.lt_irrefl x) nd
  obtain ⟨S', h4, rfl⟩ := perm_map (f := fun i : Int => (V.int i, i)) h1 rfl
  refine ⟨S', h4, ?_, ?_⟩
  · rw [List.map_map, show ((fun x : V × Int => x.2) ∘ fun i => (V.int i, i)) = (id : Int → Int) from rfl, List.map_id] at h3
    exact h3
  · rw [List.map_map] at h2
    show List.map (·.1) (((S ++ [x]).map ((fun b : V × Int => (b.1, PyData.int b.2)) ∘ fun i => (V.int i, i))).mergeSort _) = _
    rw [h2, List.map_map, List.map_map]
    rfl
theorem sort_trs {us : List V} {T : List Tr} {t : V} {x : Tr} (hl : us.length = T.length) (hs : T.Pairwise trLt) (hx : x ∉ T) {R : V → List V → Prop} (hu : Paired R us (T.map trV)) (ht : R t (trV x)) : ∃ (us' : List V) (T' : List Tr), T'.Perm (T ++ [x]) ∧ T'.Pairwise trLt ∧ Paired R us' (T'.map trV) ∧
    (((us ++ [t]).zip ((T ++ [x]).map trP)).mergeSort (PySem.W.dataLe false (fun b : V × PyData => b.2))).map (fun b => b.1) = us' := by
  have ez : (us ++ [t]).zip ((T ++ [x]).map trP) = ((us ++ [t]).zip (T ++ [x])).map fun b => (b.1, trP b.2) := by
    rw [List.zip_map_right]
    rfl
  have e2 : ((us ++ [t]).zip (T ++ [x])).map (·.2) = T ++ [x] := List.map_snd_zip (by simp [hl])
  have nd : (((us ++ [t]).zip (T ++ [x])).map (·.2)).Nodup := by
    rw [e2, List.nodup_append]
    refine ⟨hs.imp fun {a b} h e => by subst e; exact trLt_irrefl _ h, by simp, fun a ha b hb e => ?_⟩
    simp at hb
    rw [e, hb] at ha
    exact hx ha
  obtain ⟨c', h1, h2, h3⟩ := sort_gen (d := trP) (lt := trLt) dataLt_tr trLt_tri (fun h1 h2 => trLt_trans h1 h2) trLt_irrefl nd
  have pr : ∀ b ∈ (us ++ [t]).zip (T ++ [x]), R b.1 (trV b.2) := by
    have p2 : Paired R (us ++ [t]) ((T ++ [x]).map trV) := by
      rw [List.map_append]
      exact paired_snoc hu ht
    generalize us ++ [t] = vs at p2
    generalize T ++ [x] = ys at p2
    clear nd h1 h2 h3 ez e2
    induction vs generalizing ys with
    | nil => intro b hb; simp at hb
    | cons v vs ih =>
      cases ys with
      | nil => cases p2
      | cons y ys =>
        cases p2 with
        | cons r1 r2 =>
          intro b hb
          rw [List.zip_cons_cons] at hb
          rcases List.mem_cons.mp hb with e | e
          · subst e; exact r1
          · exact ih ys r2 b e
  refine ⟨c'.map (·.1), c'.map (·.2), ?_, h3, ?_, ?_⟩
  · have := h1.map (·.2)
    rw [e2] at this
    exact this
  · have pc : ∀ b ∈ c', R b.1 (trV b.2) := fun b hb => pr b (h1.mem_iff.mp hb)
    clear h1 h2 h3
    induction c' with
    | nil => exact .nil
    | cons b r ih => exact .cons (pc b List.mem_cons_self) (ih fun b hb => pc b (List.mem_cons_of_mem _ hb))
  · rw [ez, h2, List.map_map]
    rfl
end Lw
set_option Elab.async false
set_option linter.all false
set_option maxRecDepth 100000
set_option maxHeartbeats 4000000
/-! models compared; what is picked of them -/
namespace Lw
open PySem PySem.Spec PyProof.Rows L2
/-- may be compared -/
structure Cm (d : Nat) (z : PyData) : Prop where
  c : z.canLay0 = true
  d : z.depth ≤ d
theorem Cm.sh {d : Nat} {z : PyData} (h : Cm d z) (hd : d ≤ 64) : SeqAt.shaped z = true := by
  unfold SeqAt.shaped
  rw [h.c, decide_eq_true (Nat.le_trans h.d hd)]
  rfl
theorem Cm.up {d e : Nat} {z : PyData} (h : Cm d z) (hd : d ≤ e) : Cm e z := ⟨h.c, Nat.le_trans h.d hd⟩
theorem Cm.all {d : Nat} : ∀ {zs : List PyData}, (∀ z ∈ zs, Cm d z) → PyData.canLayAll0 zs = true ∧ PyData.depthAll zs ≤ d
  | [], _ => ⟨rfl, Nat.zero_le _⟩
  | z :: r, h => by
    obtain ⟨h1, h2⟩ := Cm.all (fun z hz => h z (List.mem_cons_of_mem _ hz)) (zs := r)
    have hz := h z List.mem_cons_self
    refine ⟨by simp [PyData.canLayAll0, hz.c, h1], ?_⟩
    have := hz.d
    simp only [PyData.depthAll]
    omega
theorem Cm.list {d : Nat} {zs : List PyData} (h : ∀ z ∈ zs, Cm d z) : Cm (d + 1) (.list zs) := by
  obtain ⟨h1, h2⟩ := Cm.all h
  exact ⟨by simpa only [PyData.canLay0] using h1, by simp only [PyData.depth]; omega⟩
theorem Cm.tuple {d : Nat} {zs : List PyData} (h : ∀ z ∈ zs, Cm d z) : Cm (d + 1) (.tuple zs) := by
  obtain ⟨h1, h2⟩ := Cm.all h
  exact ⟨by simpa only [PyData.canLay0] using h1, by simp only [PyData.depth]; omega⟩
theorem Cm.int (i : Int) : Cm 1 (.int i) := ⟨by simp [PyData.canLay0], by simp [PyData.depth]⟩
theorem alpha_ok : ∀ c ∈ alphabet.cps.toList, c < 0x110000 := by decide +kernel
theorem Cm.letters {L : Str} (h : lettersV (.str L) = true) : Cm 1 (.str L) := by
  refine ⟨?_, by simp [PyData.depth]⟩
  simp only [PyData.canLay0, PyData.strOk]
  rw [Array.all_eq_true']
  intro c hc
  exact decide_eq_true (alpha_ok c (lettersV_in h c (Array.mem_toList_iff.mpr hc)))
theorem Cm.sgn {L : Str} {c : Nat} (h : lettersV (.str L) = true) (hc : c ∈ L.cps.toList) : Cm 1 (.str (Lw.sgn c)) := by
  refine ⟨?_, by simp [PyData.depth]⟩
  have := alpha_ok c (lettersV_in h c hc)
  simp [PyData.canLay0, PyData.strOk, Lw.sgn, this]
theorem cm_trOk {L : Str} {n : Int} {x : Tr} (h : lettersV (.str L) = true) (hx : x.2.1 ∈ L.cps.toList) : Cm 2 (trP x) := by
  refine Cm.tuple fun z hz => ?_
  simp only [List.mem_cons, List.not_mem_nil, or_false] at hz
  rcases hz with rfl | rfl | rfl
  · exact Cm.int _
  · exact Cm.sgn h hx
  · exact Cm.int _
theorem cm_links {M : Md} (g : M.Good) : Cm 3 (.list (M.T.map trP)) := by
  refine Cm.list fun z hz => ?_
  obtain ⟨x, hx, rfl⟩ := List.mem_map.mp hz
  exact cm_trOk (n := M.n) g.l (g.tr x hx).2.1
theorem cm_ints {S : List Int} : Cm 2 (.list (S.map PyData.int)) := Cm.list fun z hz => by
  obtain ⟨x, _, rfl⟩ := List.mem_map.mp hz
  exact Cm.int _
theorem cm_states {S : List Int} : Cm 2 (.tuple ((S.map V.int).map pd)) := Cm.tuple fun z hz => by
  rw [List.map_map] at hz
  obtain ⟨x, _, rfl⟩ := List.mem_map.mp hz
  exact Cm.int _
theorem bk_shaped {M : Md} (g : M.Good) {zs : List PyData} (e : trip M.n zs (ways M.L M.n) = M.T.map trV) : (bkD M.L M.n (M.S.map V.int) (M.E.map V.int) zs).all SeqAt.shaped = true := by
  unfold bkD
  rw [e, links_eq]
  simp only [List.all_cons, List.all_nil, Bool.and_true]
  rw [(Cm.letters g.l).sh (by decide), (Cm.int _).sh (by decide), cm_states.sh (by decide), cm_states.sh (by decide), (cm_links g).sh (by decide)]
  rfl
theorem eqv_int (x y : Int) : PyData.eqv (.int x) (.int y) = decide (x = y) := by
  simp only [PyData.eqv]
  by_cases h : x = y
  · subst h; simp
  · simp [h]
theorem eqv_tr (x y : Tr) : PyData.eqv (trP x) (trP y) = decide (x = y) := by
  obtain ⟨a, b, c⟩ := x
  obtain ⟨d, e, f⟩ := y
  have es : PyData.eqv (.str (sgn b)) (.str (sgn e)) = decide (b = e) := by
    simp only [PyData.eqv]
    by_cases h : b = e
    · subst h; simp
    · have : sgn b ≠ sgn e := fun q => h (sgn_inj q)
      simp [this, h]
  simp only [trP, PyData.eqv, PyData.eqvAll, Bool.and_true]
  simp only [PyData.eqv] at es
  rw [es]
  by_cases h1 : a = d <;> by_cases h2 : b = e <;> by_cases h3 : c = f <;> simp [h1, h2, h3]
theorem eqvAll_map {α : Type} [DecidableEq α] {d : α → PyData} (h : ∀ x y, PyData.eqv (d x) (d y) = decide (x = y)) : ∀ xs ys : List α, PyData.eqvAll (xs.map d) (ys.map d) = decide (xs = ys)
  | [], [] => rfl
  | [], _ :: _ => rfl
  | _ :: _, [] => rfl
  | x :: xs, y :: ys => by
    have ih := eqvAll_map h xs ys
    simp only [List.map_cons, PyData.eqvAll]
    rw [ih, h]
    by_cases h1 : x = y <;> by_cases h2 : xs = ys <;> simp [h1, h2]
instance : DecidableEq Md := fun a b => by
  obtain ⟨a1, a2, a3, a4, a5⟩ := a
  obtain ⟨b1, b2, b3, b4, b5⟩ := b
  rw [Md.mk.injEq]
  infer_instance
theorem ints_pd (S : List Int) : (S.map V.int).map pd = S.map PyData.int := by
  rw [List.map_map]
  rfl
theorem eqv_md (M M' : Md) : PyData.eqvAll (mdD M) (mdD M') = decide (M = M') := by
  have h1 := eqvAll_map eqv_int M.S M'.S
  have h2 := eqvAll_map eqv_int M.E M'.E
  have h3 := eqvAll_map eqv_tr M.T M'.T
  unfold mdD
  rw [ints_pd, ints_pd, ints_pd, ints_pd]
  simp only [PyData.eqvAll, PyData.eqv, Bool.and_true]
  rw [h1, h2, h3]
  obtain ⟨a1, a2, a3, a4, a5⟩ := M
  obtain ⟨b1, b2, b3, b4, b5⟩ := M'
  simp only [Md.mk.injEq]
  by_cases e1 : a1 = b1 <;> by_cases e2 : a2 = b2 <;> by_cases e3 : a3 = b3 <;> by_cases e4 : a4 = b4 <;> by_cases e5 : a5 = b5 <;> simp [e1, e2, e3, e4, e5]
theorem eqv_bk {M M' : Md} {zs zs' : List PyData} (e : trip M.n zs (ways M.L M.n) = M.T.map trV) (e' : trip M'.n zs' (ways M'.L M'.n) = M'.T.map trV) :
    PyData.eqvAll (bkD M.L M.n (M.S.map V.int) (M.E.map V.int) zs) (bkD M'.L M'.n (M'.S.map V.int) (M'.E.map V.int) zs') = decide (M = M') := by
  unfold bkD
  rw [e, e', links_eq, links_eq]
  exact eqv_md M M'
theorem any_ints (S : List Int) (x : Int) : ((S.map PyData.int).any fun z => PyData.eqv z (.int x)) = decide (x ∈ S) := by
  rw [List.any_map]
  induction S with
  | nil => rfl
  | cons y r ih =>
    rw [List.any_cons, ih]
    show (PyData.eqv (.int y) (.int x) || _) = _
    rw [eqv_int]
    by_cases h : y = x
    · subst h; simp
    · have h' : ¬ x = y := fun e => h e.symm
      simp [h, h']
theorem any_trs (T : List Tr) (x : Tr) : ((T.map trP).any fun z => PyData.eqv z (trP x)) = decide (x ∈ T) := by
  rw [List.any_map]
  induction T with
  | nil => rfl
  | cons y r ih =>
    rw [List.any_cons, ih]
    show (PyData.eqv (trP y) (trP x) || _) = _
    rw [eqv_tr]
    by_cases h : y = x
    · subst h; simp
    · have h' : ¬ x = y := fun e => h e.symm
      simp [h, h']
theorem range_filter {α : Type} (p : α → Bool) (d : α) : ∀ xs : List α, ((List.range xs.length).filter fun i => p (xs.getD i d)).map (fun i => xs.getD i d) = xs.filter p
  | [] => rfl
  | x :: r => by
    have ih := range_filter p d r
    rw [List.length_cons, List.range_succ_eq_map, List.filter_cons, List.filter_cons]
    have e : ((List.range r.length).map Nat.succ).filter (fun i => p ((x :: r).getD i d)) = ((List.range r.length).filter fun i => p (r.getD i d)).map Nat.succ := by
      rw [List.filter_map]
      rfl
    have e0 : (x :: r).getD 0 d = x := rfl
    rw [e0, e]
    cases p x with
    | true =>
      rw [if_pos rfl, if_pos rfl, List.map_cons, e0, List.map_map]
      exact congrArg (x :: ·) ih
    | false =>
      rw [if_neg (by simp), if_neg (by simp), List.map_map]
      exact ih
theorem picks_filter {α : Type} (f : α → V) (p : α → Bool) (d : α) (xs : List α) : picks (fun i => f (xs.getD i d)) (fun i => p (xs.getD i d)) xs.length = (xs.filter p).map f := by
  rw [← range_filter p d xs, List.map_map]
  rfl
/-- the picked steps keep their tuples -/
theorem filt_pair {R : V → List V → Prop} {q : Tr → Bool} : ∀ {us : List V} {T : List Tr}, Paired R us (T.map trV) → Paired R (((us.zip T).filter fun b => q b.2).map (·.1)) ((T.filter q).map trV)
  | [], [], _ => .nil
  | [], _ :: _, h => by cases h
  | _ :: _, [], h => by cases h
  | u :: us, x :: T, h => by
    cases h with
    | cons r t =>
      have ih := filt_pair (q := q) t
      rw [List.zip_cons_cons, List.filter_cons, List.filter_cons]
      cases hq : q x with
      | true => exact .cons r ih
      | false => exact ih
end Lw
set_option Elab.async false
set_option linter.all false
set_option maxRecDepth 100000
set_option maxHeartbeats 4000000
/-! _law_other -/
namespace Lw
open PySem PySem.Spec PyProof.Rows L2
theorem getD_at {α : Type} {l : List α} {i : Nat} {x d : α} (h : l[i]? = some x) : l.getD i d = x := by rw [List.getD_eq_getElem?_getD, h]; rfl
theorem zip_at {R : V → List V → Prop} : ∀ {us : List V} {T : List Tr}, Paired R us (T.map trV) → ∀ {i : Nat} {v : V}, us[i]? = some v → ∃ t, T[i]? = some t ∧ (us.zip T)[i]? = some (v, t) ∧ R v (trV t)
  | [], _, _, i, v, e => by simp at e
  | _ :: _, [], h, _, _, _ => by cases h
  | u :: us, x :: T, h, i, v, e => by
    cases h with
    | cons r t =>
      cases i with
      | zero =>
        have e : some u = some v := e
        cases e
        exact ⟨x, rfl, rfl, r⟩
      | succ i => exact zip_at t (i := i) e
theorem tr_cm {L : Str} {x : Tr} (h : lettersV (.str L) = true) (hx : x.2.1 ∈ L.cps.toList) : SeqAt.shaped (trP x) = true := (cm_trOk (n := 0) h hx).sh (by decide)
end Lw
set_option Elab.async false
set_option linter.all false
set_option maxRecDepth 100000
set_option maxHeartbeats 4000000
/-! what comes of states by a letter, by a row: numbers -/
namespace Lw
open PySem PySem.Spec PyProof.Rows L2
def nxt (T : List Tr) (G : List Int) (c : Nat) : List Int := ((List.range 7).map fun i : Nat => (i : Int)).filter fun k => T.any fun x => decide (x.2.1 = c) && decide (x.1 ∈ G) && decide (x.2.2 = k)
theorem nxt_pw {T : List Tr} {G : List Int} {c : Nat} : (nxt T G c).Pairwise (· < ·) := by
  unfold nxt
  refine List.Pairwise.filter _ ?_
  rw [List.pairwise_map]
  exact List.pairwise_lt_range.imp fun {a b} h => by show ((a : Nat) : Int) < (b : Nat); omega
theorem mem_nxt {M : Md} (g : M.Good) {G : List Int} {c : Nat} {k : Int} : k ∈ nxt M.T G c ↔ ∃ x ∈ M.T, x.2.1 = c ∧ x.1 ∈ G ∧ x.2.2 = k := by
  unfold nxt
  simp only [List.mem_filter, List.mem_map, List.mem_range, List.any_eq_true, Bool.and_eq_true, decide_eq_true_eq]
  constructor
  · rintro ⟨_, x, hx, ⟨h1, h2⟩, h3⟩
    exact ⟨x, hx, h1, h2, h3⟩
  · rintro ⟨x, hx, h1, h2, h3⟩
    have := (g.tr x hx).2.2
    have h7 := g.n7
    exact ⟨⟨k.toNat, by omega, by omega⟩, x, hx, ⟨h1, h2⟩, h3⟩
theorem nxt_r {M : Md} (g : M.Good) {G : List Int} {c : Nat} : ∀ k ∈ nxt M.T G c, 0 ≤ k ∧ k < M.n := fun k hk => by
  obtain ⟨x, hx, _, _, rfl⟩ := (mem_nxt g).mp hk
  exact (g.tr x hx).2.2
theorem asc_uniq {xs ys : List Int} (hx : xs.Pairwise (· < ·)) (hy : ys.Pairwise (· < ·)) (h : ∀ k, k ∈ xs ↔ k ∈ ys) : xs = ys := by
  have nd : ∀ {l : List Int}, l.Pairwise (· < ·) → l.Nodup := fun hl => hl.imp fun {a b} q => Int.ne_of_lt q
  exact List.Perm.eq_of_pairwise (le := (· < ·)) (fun a b _ _ h1 h2 => absurd (Int.lt_trans h1 h2) (Int.lt_irrefl _)) hx hy ((List.perm_ext_iff_of_nodup (nd hx) (nd hy)).mpr h)
def come (T : List Tr) (G : List Int) (cs : List Nat) : List Int := cs.foldl (nxt T) G
theorem come_snoc {T : List Tr} {G : List Int} {cs : List Nat} {i c : Nat} (h : cs[i]? = some c) : come T G (cs.take (i + 1)) = nxt T (come T G (cs.take i)) c := by
  unfold come
  rw [take_snoc h, List.foldl_append]
  rfl
/-- a set of states of a model -/
structure SetOf (M : Md) (G : List Int) : Prop where
  pw : G.Pairwise (· < ·)
  r : ∀ x ∈ G, 0 ≤ x ∧ x < M.n
theorem SetOf.len {M : Md} {G : List Int} (h : SetOf M G) (g : M.Good) : G.length ≤ 7 := ints_len h.pw h.r g.n7
theorem come_set {M : Md} (g : M.Good) : ∀ {cs : List Nat} {G : List Int}, SetOf M G → SetOf M (come M.T G cs)
  | [], _, h => h
  | c :: cs, G, h => come_set g (cs := cs) (G := nxt M.T G c) ⟨nxt_pw, nxt_r g⟩
/-- a step leads from one state to another exactly if it is one of the model's -/
theorem behinds_mem {M : Md} {zs : List PyData} (e : trip M.n zs (ways M.L M.n) = M.T.map trV) {b : Int} {c : Nat} (hb : 0 ≤ b ∧ b < M.n) (hc : c ∈ M.L.cps.toList) {k : Int} : V.int k ∈ behinds M.n zs b (sgn c) ↔ ((b, c, k) : Tr) ∈ M.T := by
  have w : (b, sgn c) ∈ ways M.L M.n := by
    unfold ways
    refine List.mem_flatMap.mpr ⟨b.toNat, List.mem_range.mpr (by omega), List.mem_map.mpr ⟨c, hc, ?_⟩⟩
    rw [Int.toNat_of_nonneg hb.1, Int.zero_add]
  constructor
  · intro h
    have : [V.int b, V.str (sgn c), V.int k] ∈ trip M.n zs (ways M.L M.n) := by
      unfold trip
      exact List.mem_flatMap.mpr ⟨(b, sgn c), w, List.mem_map.mpr ⟨_, h, rfl⟩⟩
    rw [e] at this
    obtain ⟨x, hx, ex⟩ := List.mem_map.mp this
    have : x = (b, c, k) := trV_inj (ex.trans rfl)
    rw [← this]
    exact hx
  · intro h
    have : trV (b, c, k) ∈ trip M.n zs (ways M.L M.n) := by
      rw [e]
      exact List.mem_map.mpr ⟨_, h, rfl⟩
    unfold trip at this
    obtain ⟨q, hq, h2⟩ := List.mem_flatMap.mp this
    obtain ⟨x, hx, ex⟩ := List.mem_map.mp h2
    have ex : [V.int q.1, .str q.2, x] = [V.int b, .str (sgn c), .int k] := ex
    simp only [List.cons.injEq, V.int.injEq, V.str.injEq, and_true] at ex
    obtain ⟨e1, e2, e3⟩ := ex
    rw [e3, e1, e2] at hx
    exact hx
theorem behinds_int {n : Int} {zs : List PyData} {b : Int} {c : Str} {v : V} (h : v ∈ behinds n zs b c) : ∃ k : Int, v = .int k := by
  unfold behinds picks at h
  obtain ⟨i, _, rfl⟩ := List.mem_map.mp h
  exact ⟨_, rfl⟩
end Lw
set_option Elab.async false
set_option linter.all false
set_option maxRecDepth 100000
set_option maxHeartbeats 4000000
/-! comprehensions whose new object is told by its place: sets of ints, with any number of fors -/
namespace Lw
open PySem PySem.Spec PyProof.Rows L2
/-- the reading of a comprehension: D the new object, at first o0; tb what a turn of the first clause does -/
def tCoA (o0 : Addr → HO) (wi : TI) (g : TG) (tt : TT) (tb : Addr → L2.St → Hp → (Hp → Prop) → Prop) (vs : List Nat) : TE := fun σ H Q =>
  wi σ H fun J H1 => ∀ D, H1 D = none → ClW J g tt (tb D) vs σ (upd H1 D (o0 D)) fun H2 => Q (.ref D) H2
section
variable {X : Cx}
theorem co_coreA {e : Expr} {gs : List Comprehension} {tg iter : Expr} {ifs : List Expr} {scope : Scope} {own : List (Str × Nat)} {o0 : Addr → HO} {ob : Obj} {newAcc : Sem Value} {emit : Addr → Env → Sem Unit} {wi : TI} {g : TG} {tt : TT}
    {tb : Addr → L2.St → Hp → (Hp → Prop) → Prop} {ws : List Nat} {pins : List (Addr × Obj)} {s : Shared} {σ : L2.St} {H : Hp} {Q : VK} {pos' : Pos} {use : Option (Value → Sem Unit)} {Qf : Value → Shared → Prop}
    (hc : X.calm = true) (hN : X.N.Nodup) (I : Inv X pins σ H s) (hsp : ∀ D env, CSplit e (.ref D) env gs (emit D env)) (hk : gs[0]? = some ⟨tg, iter, ifs, 0⟩)
    (hnew : ∀ (E : Value → Shared → Prop) (Q1 : Value → Shared → Prop) (s1 : Shared), Q1 (.ref s1.heap.objs.size) { s1 with heap := s1.heap.push ob } → wpAny (model X.prog X.w) X.A newAcc Q1 E s1)
    (hob : ∀ (H1 : Hp) (h : Heap), sysModules < h.objs.size → ObjOk X.prog X.w H1 (h.push ob) h.objs.size (o0 h.objs.size)) (hfz : ob.isFreed = false)
    (hi : PI X tg iter wi) (ok : BlkOk X.N X.env.scope scope own) (hws : ∀ i ∈ ws, i ∈ own.map (·.2))
    (hg : ∀ s H C cl fp, PG (blkX X scope s H C cl fp) tg g) (ht : ∀ s H C cl fp, PTs (blkX X scope s H C cl fp) ifs tt)
    (hb : ∀ s H C cl fp D, BD (blkX X scope s H C cl fp) (inBody (emit D (blkX X scope s H C cl fp).env) gs[1]? e 0 (.ref D) (blkX X scope s H C cl fp).env) ws (tb D))
    (hfs : ∀ x, foldedSetIterable iter X.env x = pure x) (h : tCoA o0 wi g tt tb (own.map (·.2)) σ H Q)
    (hRR : ∀ D C s' m H', Inv X pins σ H' s' → Q (.ref D) H' → s'.heap.Ns C m → FpOk X pins H' C → compPost (model X.prog X.w) X.A X.xe use Qf (.ref D) C (.ok .next) s') :
    wpAny (model X.prog X.w) X.A (comprehension e scope X.env pos' newAcc false (eval iter X.env) use) Qf X.xe s := by
  have hfree : ∀ y ∈ scope.names, y.2 = .free → ∃ c, X.env.cells.lookup y.1 = some c := fun y hy ey => (ok.free y hy ey).elim (fun z => I.ok.has _ (.inl z)) fun z => I.ok.has _ (.inr z)
  obtain ⟨rest, egs⟩ : ∃ rest, gs = ⟨tg, iter, ifs, 0⟩ :: rest := by
    cases gs with
    | nil => cases hk
    | cons c r =>
      have : c = ⟨tg, iter, ifs, 0⟩ := Option.some.inj hk
      exact ⟨r, by rw [this]⟩
  refine wpAny_comprehension_free (use := use) ((hsp 0 X.env).cl.trans egs) hfs (closure_ok hfree) ok.kind (fun y hy ey => by rw [ok.uniq y hy, ey])
    (thn (hi.run pins s σ H _ I h) fun xv s1 hx => thn hx fun itv s2 h2 => ?_)
  obtain ⟨it, fp, tn, J, H2, rfl, I2, T, st2, f2, q⟩ := h2
  refine hnew _ _ _ (newEnv_comp ?_)
  have hDn : H2 s2.heap.objs.size = none := I2.hok.fresh (Nat.le_refl _)
  have cw := q _ hDn
  generalize hD : s2.heap.objs.size = D at cw hDn
  have keep1 : ∀ b o, s2.heap.get? b = some o → (s2.heap.push ob).get? b = some o := fun b o z => Heap.get?_push_of_some _ z
  have I3 : Inv X pins σ (upd H2 D (o0 D)) { s2 with heap := s2.heap.push ob } := by
    refine I2.laid (t' := s2.toks) keep1 (Nat.le_of_eq hD) ?_
    rw [← hD]
    exact hob _ s2.heap I2.big
  generalize hs3 : ({ s2 with heap := s2.heap.push ob } : Shared) = s3 at I3
  have h3 : s3.heap = s2.heap.push ob := by rw [← hs3]
  have f3 : ∀ b ∈ fp, FpOk X pins (upd H2 D (o0 D)) b ∧ b < s3.heap.objs.size := fun b hb => by
    obtain ⟨o, z, _⟩ := T.obj _ _ st2 b hb
    have lt := Heap.lt_size z
    refine ⟨⟨?_, (f2 b hb).2⟩, by rw [h3, Heap.size_push]; exact Nat.lt_succ_of_lt lt⟩
    rw [upd_ne (by rw [← hD]; exact Nat.ne_of_lt lt)]
    exact (f2 b hb).1
  have I4 := block_start I3 ok hN f3
  have nfp : ∀ b ∈ fp, (upd H2 D (o0 D)) b = none := fun b hb => (f3 b hb).1.1
  generalize hcl : cellsFrom (s3.heap.objs.size + 1) scope.names (cloFrom X.env.cells scope.names []) = cl at I4
  have pg := hg s3 (upd H2 D (o0 D)) s3.heap.objs.size cl fp
  have pt := ht s3 (upd H2 D (o0 D)) s3.heap.objs.size cl fp
  have pb := hb s3 (upd H2 D (o0 D)) s3.heap.objs.size cl fp D
  have fB : ∀ b ∈ fp, FpOk (blkX X scope s3 (upd H2 D (o0 D)) s3.heap.objs.size cl fp) [] (upd H2 D (o0 D)) b := fun b hb =>
    ⟨nfp b hb, (I4.ok.exf b hb).1, I4.ok.exfs b hb, .inl hb, fun x c z => (I4.ok.exf b hb).2 x c z, fun p hp => absurd (show p ∈ ([] : List (Addr × Obj)) ++ [] from hp) (by simp)⟩
  have st4 : tn 0 (pushCells (s3.heap.push { cls := .type "dict", data := .dict #[] }) scope.names) := T.keep _ _ _ st2 fun b _ o z => pushCells_keeps _ _ _ _ (Heap.get?_push_of_some _ (by rw [h3]; exact keep1 _ _ z))
  have lp := loop_cl (X := blkX X scope s3 (upd H2 D (o0 D)) s3.heap.objs.size cl fp) (e := e) (k := 0) (pins := []) (σ := σ) hc rfl (hsp D _) hk T pg pt pb hws I4 st4 fB cw
  have lp2 : codeAny (model X.prog X.w) X.A (.compLoop e 0 (.ref it) (.ref D) (compEnvC scope cl s3.heap.objs.size X.env)) (compPost (model X.prog X.w) X.A X.xe use Qf (.ref D) s3.heap.objs.size) { s3 with heap := pushCells (s3.heap.push { cls := .type "dict", data := .dict #[] }) scope.names } := by
    have fin : ∀ H5 s5, Inv (blkX X scope s3 (upd H2 D (o0 D)) s3.heap.objs.size cl fp) [] (wipe σ (own.map (·.2))) H5 s5 → Q (.ref D) H5 → compPost (model X.prog X.w) X.A X.xe use Qf (.ref D) s3.heap.objs.size (.ok .next) s5 := fun H5 s5 I5 qq => by
      have I7 : Inv X pins σ H5 s5 := I3.call' (ch := fp) I5.os I5.base I5.hok I5.bare fun b hb => ⟨(f3 b hb).1.2.2.2.1, (f3 b hb).1.2.1, (f3 b hb).1.2.2.2.2.1, (f3 b hb).1.2.2.2.2.2⟩
      have nC : H5 s3.heap.objs.size = none := I5.free
      obtain ⟨m, hn, _⟩ := I5.loc
      exact hRR D s3.heap.objs.size s5 m H5 I7 qq hn (I3.fpOk (Nat.le_refl _) nC)
    refine codeAny_mono lp fun r s5 hr => ?_
    cases r with
    | error x => exact hr.elim
    | ok f =>
      obtain ⟨H5, I5, qq⟩ := hr
      have ef : compPost (model X.prog X.w) X.A X.xe use Qf (.ref D) s3.heap.objs.size (.ok f) s5 = compPost (model X.prog X.w) X.A X.xe use Qf (.ref D) s3.heap.objs.size (.ok .next) s5 := by cases use <;> rfl
      rw [ef]
      exact fin H5 s5 I5 qq
  subst hs3 hD hcl
  exact start_cl (env' := X.env) (hsp _ X.env) hk lp2 (T.self X.A 0 _ _ _ st4 lp2)
/-- the store of a set's last clause -/
def tAddC (w : World) (te : TE) (D : Addr) : L2.St → Hp → (Hp → Prop) → Prop := fun σ H Q => te σ H fun y H1 => ∃ (k : Int) (S : Int → Bool) (n : Nat), y = .int k ∧ H1 D = some (SetO w D S n) ∧ n + 1 < scanBound ∧
  Q (upd H1 D (SetO w D (fun j => S j || decide (j = k)) (if S k = true then n else n + 1)))
theorem bd_set {elt : Expr} {D : Addr} {te : TE} (hxe : X.xe = fun _ _ => False) (he : PE X elt te) :
    BD X (do let v ← eval elt X.env; standAt elt.pos; let _ ← call (.builtin "set.add") [.ref D, v]) [] (tAddC X.w te D) := by
  refine ⟨fun pins s σ H Q I h => ?_⟩
  have a1 := he.run pins s σ H _ I h
  rw [hxe] at a1
  refine wpAny_bind (thnF a1 fun v s1 ⟨y, H1, I1, r1, k, S, n, ey, hD, hz, q⟩ => wpAny_bind (wpAny_standAt (wpAny_bind ?_)))
  subst ey
  have a2 := mt_sadd pins s1 σ H1 (.ref D) [.int k] (.ref D) [v] (fun _ H' => Q H') I1 rfl (.cons r1 .nil) ⟨D, k, S, n, rfl, rfl, hD, hz, q⟩
  rw [hxe] at a2
  refine thnF a2 fun _ s2 ⟨_, H2, I2, _, q2⟩ => ?_
  exact wpAny_pure ⟨H2, I2, q2⟩
section
variable {elt tg iter : Expr} {ifs : List Expr} {rest : List Comprehension} {scope : Scope} {own : List (Str × Nat)} {pos : Pos} {wi : TI} {g : TG} {tt : TT} {tb : Addr → L2.St → Hp → (Hp → Prop) → Prop} {ws : List Nat}
theorem pe_coS (hc : X.calm = true) (hN : X.N.Nodup) (hi : PI X tg iter wi) (ok : BlkOk X.N X.env.scope scope own) (hws : ∀ i ∈ ws, i ∈ own.map (·.2))
    (hg : ∀ s H C cl fp, PG (blkX X scope s H C cl fp) tg g) (ht : ∀ s H C cl fp, PTs (blkX X scope s H C cl fp) ifs tt)
    (hb : ∀ s H C cl fp D, BD (blkX X scope s H C cl fp) (inBody (do let v ← eval elt (blkX X scope s H C cl fp).env; standAt elt.pos; let _ ← call (.builtin "set.add") [.ref D, v]) (⟨tg, iter, ifs, 0⟩ :: rest)[1]? (.SetComp elt (⟨tg, iter, ifs, 0⟩ :: rest) scope pos) 0 (.ref D) (blkX X scope s H C cl fp).env) ws (tb D))
    (hfs : ∀ x, foldedSetIterable iter X.env x = pure x := by intro _; rfl) : PE X (.SetComp elt (⟨tg, iter, ifs, 0⟩ :: rest) scope pos) (tCoA (fun D => SetO X.w D (fun _ => false) 0) wi g tt tb (own.map (·.2))) := by
  refine ⟨fun pins s σ H Q I h => ?_⟩
  rw [PpSet.eval_SetComp]
  refine co_coreA (o0 := fun D => SetO X.w D (fun _ => false) 0) (emit := fun D env => do let v ← eval elt env; standAt elt.pos; let _ ← call (.builtin "set.add") [.ref D, v]) hc hN I (fun D env => .inr (.inl ⟨elt, scope, pos, rfl, rfl⟩)) rfl (fun E Q1 s1 h1 => PpSet.newSet_ok h1)
    (fun H1 h b => setO_new (setR_fresh X.w)) rfl hi ok hws hg ht hb hfs h fun D C s' m H' I' q hn f => ⟨m, hn, fun h'' sb => ?_⟩
  obtain ⟨f0, f1, f2, f3, f4, f5⟩ := f
  exact ⟨.ref D, H', I'.turned (t' := s'.toks) (fun b o hb z => (sb.2 b hb).trans z) f0 f1 f3 f4 f5, rfl, q⟩
end
end
end Lw
set_option Elab.async false
set_option linter.all false
set_option maxRecDepth 100000
set_option maxHeartbeats 4000000
/-! set(xs) of a list of ints, whose members may then be sorted -/
namespace Lw
open PySem PySem.Spec PyProof.Rows L2
theorem nodup_len {α : Type} [DecidableEq α] : ∀ (l D : List α), l.Nodup → (∀ x ∈ l, x ∈ D) → l.length ≤ D.length
  | [], _, _, _ => Nat.zero_le _
  | x :: r, D, nd, h => by
    rw [List.nodup_cons] at nd
    have hx := h x List.mem_cons_self
    have := nodup_len r (D.erase x) nd.2 fun y hy => (List.mem_erase_of_ne (fun e => nd.1 (by rw [← e]; exact hy))).mpr (h y (List.mem_cons_of_mem _ hy))
    rw [List.length_erase_of_mem hx] at this
    have : 0 < D.length := List.length_pos_of_mem hx
    rw [List.length_cons]
    omega
/-- a set whose members are among these has no more members -/
theorem SetR.few {w : World} {h : Heap} {a : Addr} {S : Int → Bool} {n : Nat} (R : SetR w h a S n) {D : List Int} (hD : ∀ k, S k = true → k ∈ D) : n ≤ D.length := by
  obtain ⟨o, es, ep, t, ho, hx, hd, g, nd, hm, hb, hf, hn, hr, hl⟩ := R
  have := nodup_len _ D nd fun k hk => hD k ((hm k).mpr hk)
  rw [List.length_map, Array.length_toList, hn] at this
  exact this
/-- the new set, empty -/
abbrev set0 (w : World) : Obj := { cls := .type "set", dict := none, data := .set #[] 0 (.fresh 0 0 (!w.params.followText "set-order")) }
section
variable {P : Program} {w : World} {A : Around} {E : Value → Shared → Prop} {s : Shared}
theorem set_of_list {l : Addr} {its : Array Value} {ns : List Int} {Q : Value → Shared → Prop} (calm : A.handled = none) (hl : s.heap.IsList l its) (hi : IntsAre its.toList ns) (hb : ns.length + 1 < scanBound)
    (h : ∀ (h' : Heap) (tk c : Nat), SetR w h' s.heap.objs.size (fun j => decide (j ∈ ns)) c → (∀ b o, s.heap.get? b = some o → h'.get? b = some o) → Q (.ref s.heap.objs.size) { s with heap := h', toks := tk }) :
    wpAny (model P w) A (call (.type "set") [.ref l]) Q E s := by
  have sz : its.size = ns.length := by
    have := IntsAre.length hi
    rw [Array.length_toList] at this
    exact this
  have cs := PySem.F.called_set
  obtain ⟨mc, mt, hmr⟩ := cs.mro
  have m1 := cs.made
  have m2 := cs.sub
  refine wpAny_call (codeAny_of_tree ?_)
  show wpAny _ _ (callAny (Value.type "set") _) _ _ _
  refine wpAny_pure ⟨Code.quiet_builtin _ (by decide +kernel), codeAny_builtin PySem.F.entry_type_call ?_⟩
  rw [Around.under_plain (weight_type_call_type "set" [Value.ref l] []) rfl]
  have m3 := cs.notType
  have m4 := cs.canCreate
  have m5 := PySem.F.typeCall_set_1 (Value.ref l)
  repeat (any_goals (first | wp_step | assumption))
  refine codeAny_mono (code_set_led1 (Value.ref l) (E := E) (Q₁ := fun y s1 => y = Value.ref s.heap.objs.size ∧ s1 = { s with heap := s.heap.push (set0 w) }) ⟨rfl, rfl⟩) (fun r s1 hr => ?_)
  cases r with
  | error e => exact hr
  | ok fl =>
  cases fl with
  | next => exact hr.elim
  | brk => exact hr.elim
  | cont => exact hr.elim
  | ret y =>
  obtain ⟨rfl, rfl⟩ := hr
  have at_ : (s.heap.push (set0 w)).get? s.heap.objs.size = some (set0 w) := Heap.get?_push_size _ rfl
  have ty : Shared.TypeIs { s with heap := s.heap.push (set0 w) } (.ref s.heap.objs.size) "set" := ⟨_, at_, rfl⟩
  have m6 := cs.init.lookup
  have m7 := cs.init.bind (Value.ref s.heap.objs.size)
  repeat (any_goals (first | wp_step | assumption))
  let Back : Value → Shared → Prop := fun r s2 => r = Value.none ∧ ∃ h' tk c, s2 = { s with heap := h', toks := tk } ∧ SetR w h' s.heap.objs.size (fun j => decide (j ∈ ns)) c ∧ ∀ b o, s.heap.get? b = some o → h'.get? b = some o
  refine codeAny_mono (codeAny_call_builtin (R := wants Back E) cs.init.plain PySem.F.entry_set_init (check_set_init_1 ty ?_)) (fun r2 s2 hr2 => ?_)
  · obtain ⟨⟨oc, od, da, os⟩, ho, hc, nl, hd⟩ := hl
    simp only at hc hd
    subst hc hd
    have ho2 := Heap.get?_push_of_some (set0 w) ho
    have q1 := PySem.F.sub_list_set
    have q2 := PySem.F.sub_list_frozenset
    have q3 : (Value.type "list" == Value.type "dict") = false := by decide
    have lst : (s.heap.push (set0 w)).IsList l its := ⟨_, ho2, rfl, nl, rfl⟩
    unfold Builtin.«set.__init__» noKeywords
    unfold Builtin.Frozenset.updateFrom
    generalize eP : pyIter = PI
    wp_walk
    subst eP
    refine wpAny_pyIter_list lst (wpAny_bind (wpAny_runValue ?_))
    have lt := Heap.lt_size ho
    have sz1 : (s.heap.push (set0 w)).objs.size = s.heap.objs.size + 1 := Heap.size_push ..
    have calm3 : A.in1.in1.in1.handled = none := by
      simp only [Around.in1]
      exact calm
    have nI : l ≠ (s.heap.push (set0 w)).objs.size := by rw [sz1]; exact Nat.ne_of_lt (Nat.lt_succ_of_lt lt)
    have out : s.heap.objs.size ∉ [(s.heap.push (set0 w)).objs.size, l] := by
      intro z
      rw [sz1] at z
      rcases List.mem_cons.mp z with z | z
      · exact absurd z (Nat.ne_of_lt (Nat.lt_succ_self _))
      · exact absurd (List.mem_singleton.mp z) (Nat.ne_of_gt lt)
    have vals : ∀ (i : Nat) (v : Value), its[i]? = some v → ∃ k t, ns[i]? = some k ∧ v = .int k t := fun i v hv => by
      have hi2 : i < ns.length := by
        rw [← sz]
        exact (Array.getElem?_eq_some_iff.mp hv).1
      obtain ⟨t, e⟩ := IntsAre.int_at hi i v (by rw [Array.getElem?_toList]; exact hv)
      exact ⟨ns[i], t, List.getElem?_eq_getElem hi2, by rw [e, List.getD_eq_getElem?_getD, List.getElem?_eq_getElem hi2]; rfl⟩
    refine set_update_ints ((Walks.list calm3 _ l nI its).toS) s.heap.objs.size out ns sz hb vals its.size 0 _ (by omega) (Nat.zero_le _) ⟨⟨_, Heap.get?_push_size _ rfl, rfl, rfl⟩, lst.push _⟩ ⟨0, Nat.le_refl 0, setR_new_at (Heap.get?_push_of_some _ at_)⟩ ?_
    intro s3 c hm _ hS
    obtain ⟨h3, g3, d3, t3, o3⟩ := s3
    cases (hm.gens : g3 = s.gens)
    cases (hm.drawn : d3 = s.drawn)
    cases (hm.os : o3 = s.os)
    show wpAny _ _ _ _ _ _
    refine wpAny_pure ?_
    show wpAny _ _ (ret Value.none) _ _ _
    refine wpAny_pure ⟨rfl, h3, t3, c, rfl, hS, fun b o eb => ?_⟩
    have lb := Heap.lt_size eb
    refine hm.heap b o (fun z => ?_) (Heap.get?_push_of_some _ (Heap.get?_push_of_some _ eb))
    rw [sz1] at z
    rcases List.mem_cons.mp z with z | z
    · exact absurd z (Nat.ne_of_lt lb)
    · exact absurd (List.mem_singleton.mp z) (Nat.ne_of_lt (Nat.lt_succ_of_lt lb))
  · cases r2 with
    | error e => exact hr2
    | ok f2 =>
    cases f2 with
    | next => exact hr2.elim
    | brk => exact hr2.elim
    | cont => exact hr2.elim
    | ret u =>
      obtain ⟨rfl, h', tk, c, rfl, hS, hk⟩ := hr2
      repeat (any_goals (first | wp_step | assumption))
      exact h _ _ _ hS hk
end
section
variable {X : Cx}
/-- set(xs), xs a list of ints; D: whatever has all of them -/
def rSetL (w : World) (K : PySem.W.Frag) : List V → Hp → VK → Prop := fun xs H Q => ∃ (l : Addr) (ns : List Int), xs = [.ref l] ∧ SqL K H l (ns.map V.int) ∧ ns.length < 1000 ∧
  ∀ p c, H p = none → (∀ D : List Int, (∀ k ∈ ns, k ∈ D) → c ≤ D.length) → Q (.ref p) (upd H p (SetO w p (fun j => decide (j ∈ ns)) c))
theorem cr_setL (hc : X.calm = true) : CallR X (.type "set") (rSetL X.w X.K) := by
  intro pins s σ H xs us Q I r h
  obtain ⟨l, ns, rfl, hl, hn, q⟩ := h
  obtain ⟨its, rv, pl, _⟩ := I.list hl
  rw [Vals.ref1 r]
  refine set_of_list (I.ok.hd hc) pl.isList (ns := ns) (by simpa using rv.ints) (by unfold scanBound; omega) fun h' tk c hS hk => ?_
  refine ⟨.ref s.heap.objs.size, upd H s.heap.objs.size (SetO X.w s.heap.objs.size (fun j => decide (j ∈ ns)) c), I.laid hk (Nat.le_refl _) (setO_new hS), rfl, q _ c (I.hok.fresh (Nat.le_refl _)) fun D hD => ?_⟩
  exact SetR.few hS fun k hk => hD k (of_decide_eq_true hk)
end
end Lw
set_option Elab.async false
set_option linter.all false
set_option maxRecDepth 100000
set_option maxHeartbeats 4000000
/-! books.py: Book._onward -/
namespace Lw
open PySem PySem.Spec PyProof.Rows L2
abbrev sOnw : Stmt := inClass cBook 32
abbrev NOnw : List Str := ["self", "states", "letter", "state", "behind"]
theorem scOnw : FnScope NOnw ["self", "states", "letter"] (defScope sOnw) := ⟨rfl, rfl, rfl, by decide +kernel, rfl, by decide +kernel, by decide +kernel⟩
/-- the members so far -/
def memI (xs : List Int) : Int → Bool := fun j => decide (j ∈ xs)
theorem memI_nil : memI [] = fun _ => false := by
  funext j
  unfold memI
  simp
theorem memI_snoc (xs : List Int) (k : Int) : memI (xs ++ [k]) = fun j => memI xs j || decide (j = k) := by
  funext j
  unfold memI
  by_cases h1 : j ∈ xs <;> by_cases h2 : j = k <;> simp [h1, h2]
theorem paired_at2 {α β : Type} {R : α → β → Prop} {y : β} : ∀ {xs : List α} {ys : List β} {i : Nat}, Paired R xs ys → ys[i]? = some y → ∃ x, xs[i]? = some x ∧ R x y
  | _, _, _, .nil, h => by simp at h
  | _, _, 0, .cons (a := x) r _, h => by
    simp at h
    subst h
    exact ⟨x, rfl, r⟩
  | _, _, i + 1, .cons _ t, h => by
    obtain ⟨x, h1, h2⟩ := paired_at2 (i := i) t (by simpa using h)
    exact ⟨x, by simpa using h1, h2⟩
theorem lead_get {H : Hp} {ld : Addr} {L : Str} {n : Int} {zs : List PyData} (nd : L.cps.toList.Nodup) (h : LeadsAt H ld L n zs) {b : Int} {c : Nat} (hb : 0 ≤ b ∧ b < n) (hc : c ∈ L.cps.toList) :
    ∃ (kvs : List (List Key × V)) (t : Addr), H ld = some (.dT kvs) ∧ valV kvs [.inl b, .inr (sgn c)] = some (.ref t) ∧ H t = some (.tup (behinds n zs b (sgn c))) := by
  obtain ⟨kvs, h1, h2⟩ := h
  have w : (b, sgn c) ∈ ways L n := by
    unfold ways
    refine List.mem_flatMap.mpr ⟨b.toNat, List.mem_range.mpr (by omega), List.mem_map.mpr ⟨c, hc, ?_⟩⟩
    rw [Int.toNat_of_nonneg hb.1, Int.zero_add]
  obtain ⟨i, hi⟩ := List.getElem?_of_mem w
  obtain ⟨⟨k, v⟩, h3, h4, t, h5, h6⟩ := paired_at2 h2 hi
  have h4 : k = [.inl b, .inr (sgn c)] := h4
  have h5 : v = .ref t := h5
  subst h4 h5
  exact ⟨kvs, t, h1, valV_at (by rw [ways_keys h2]; exact ways_nodup nd) h3, h6⟩
section
variable {P : Program} {w : World} {K : PySem.W.Frag} {mg : Str → Option Value} {base : Heap}
def spOnw (C : Addr) : Sp := fun vs H Q _ => ∃ (a sd t : Addr) (M : Md) (G : List Int) (c : Nat), vs = [.ref a, .ref t, .str (sgn c)] ∧ BookM H C a sd M ∧ M.Good ∧ H t = some (.tup (G.map V.int)) ∧ SetOf M G ∧ c ∈ M.L.cps.toList ∧
  ∀ l H', Same H H' → H l = none → H' l = some (.tup ((nxt M.T G c).map V.int)) → Q (.ref l) H'
theorem ok_onw {f C : Addr} {fd : FuncData} (F : Fun K "_onward" "Book._onward" sOnw f fd) (B : Bl mg) (tn : mg "tuple" = none) (T : BkT K mg C) : FnOk P w K mg base CX0 1 f fd ["self", "states", "letter"] (spOnw C) := by
  refine F.ok scOnw (fun vs H Q E h => ?_) (fun cdv A outer s H vs Q E hr h => ?_)
  · obtain ⟨a, sd, t, M, G, c, rfl, _⟩ := h
    rfl
  · obtain ⟨a, sd, t, M, G, c, rfl, hb, g, ht, hG, hc, q⟩ := h
    refine ⟨_, pss_one (ps_ret (pe_callTy call_tuple_of (by rfl) tn (by decide +kernel) (by exact (pa_cons (pe_callB (cr_sortedSet rfl) (by rfl) B.sorted (by decide +kernel) (by exact (pa_cons
        (pe_coS (own := [("state", 3), ("behind", 4)]) (g := gName 3) (tt := tYes)
          (tb := fun D => tCl (iTup K (tDGet (tFld K (tVar 0) "_leads") (tTup (tCons (tVar 3) (tCons (tVar 2) tNil))))) (gName 4) tYes (tAddC w (tVar 4) D) [4]) (ws := [4])
          (by rfl) scOnw.nd (pi_tup (pv 1)) (blkOk_by (own := [("state", 3), ("behind", 4)]) (N := NOnw) (sc := defScope sOnw) (by decide +kernel)) (fun i hi => by simp at hi; simp [hi])
          (fun _ _ _ _ _ => by exact (pg_name (i := 3) scOnw.nd rfl (Or.inl rfl))) (fun _ _ _ _ _ => pts_nil)
          (fun _ _ _ _ _ D => by
            exact (bd_cl (vs := [4]) (ws := []) rfl rfl (.inr (.inl ⟨_, _, _, rfl, rfl⟩)) rfl (pi_tup (pe_dget (hu_of hr) (pe_fld (pv 0) rfl) (pe_tup (pa_cons (pv 3) (pa_cons (pv 2) pa_nil))) (fun _ _ => rfl))) (pg_name (i := 4) scOnw.nd rfl (Or.inl rfl)) pts_nil
              (bd_set (D := D) rfl (pv 4)) (fun i hi => absurd hi List.not_mem_nil) (fun _ => rfl)))) pa_nil))) pa_nil)))), ?_⟩
    obtain ⟨zs, ⟨dx, st, en, ld, us0, k1, k2, k3, k4, k6, k7⟩, et⟩ := id hb
    have n7 := g.n7
    have gl := hG.len g
    have ndL := lettersV_nodup g.l
    refine ⟨_, rfl, t, rfl, ⟨_, .inl (.inl ht)⟩, fun D hD => ?_⟩
    refine clw_it walk_tup (fun i H' => Same H H' ∧ ∃ (us : List Int) (n : Nat), H' D = some (SetO w D (memI us) n) ∧ n ≤ 7 * i ∧ ∀ k, k ∈ us ↔ ∃ p ∈ G.take i, ((p, c, k) : Tr) ∈ M.T)
      ⟨Same.new' (Same.refl H) hD, [], 0, by rw [memI_nil]; exact upd_same, Nat.zero_le _, fun k => by simp⟩ (fun i H' _ h => .inl (.inl (h.1 _ _ ht))) (fun i x Ha Hb hi hp y => ?_) (fun H2 h2 => ?_)
    · obtain ⟨rfl, hx⟩ := y
      obtain ⟨sm, us, n, hu, hn, hm⟩ := hp
      rw [List.getElem?_map] at hx
      obtain ⟨p, hpG, rfl⟩ := Option.map_eq_some_iff.mp hx
      have hpr := hG.r p (List.mem_of_getElem? hpG)
      obtain ⟨kvs, t', l1, l2, l3⟩ := lead_get ndL k4 hpr hc
      refine ⟨rfl, _, rfl, a, C, dx, _, _, rfl, sm _ _ k1, T.cl, T.na _ (by decide +kernel), rfl, _, rfl, _, rfl, by show 2 ≤ sizeLine; decide, fun T2 hT2 => ?_⟩
      have sT : Same Hb (upd Hb T2 (.tup [.int p, .str (sgn c)])) := Same.new' (Same.refl Hb) hT2
      have sH := sm.trans sT
      refine ⟨ld, .ref t', rfl, .inr ⟨kvs, [.inl p, .inr (sgn c)], T2, .inl (sH _ _ l1), rfl, upd_same, l2.symm⟩, t', rfl, ⟨_, .inl (.inl (sH _ _ l3))⟩, ?_⟩
      have bl := behinds_len (zs := zs) (b := p) (c := sgn c) n7
      refine clw_it walk_tup (fun j H' => Same H H' ∧ ∃ (us : List Int) (n : Nat), H' D = some (SetO w D (memI us) n) ∧ n ≤ 7 * i + j ∧ ∀ k, k ∈ us ↔ (∃ p ∈ G.take i, ((p, c, k) : Tr) ∈ M.T) ∨ V.int k ∈ (behinds M.n zs p (sgn c)).take j)
        ⟨sH, us, n, sT _ _ hu, hn, fun k => by rw [hm]; simp⟩ (fun j H' _ h => .inl (.inl (h.1 _ _ l3))) (fun j x Hc Hd hj hq y => ?_) (fun H3 h3 => ?_)
      · obtain ⟨rfl, hx⟩ := y
        obtain ⟨sc, us2, n2, hu2, hn2, hm2⟩ := hq
        obtain ⟨k, rfl⟩ := behinds_int (List.mem_of_getElem? hx)
        refine ⟨rfl, _, rfl, k, _, n2, rfl, hu2, ?_, Same.mut' sc hD, us2 ++ [k], (if memI us2 k = true then n2 else n2 + 1), ?_, ?_, fun k' => ?_⟩
        · rw [List.length_map] at hi; unfold scanBound; omega
        · rw [memI_snoc]
          exact upd_same
        · split <;> omega
        · rw [List.mem_append, hm2, take_snoc hx, List.mem_append, List.mem_singleton, List.mem_singleton, V.int.injEq, or_assoc]
      · obtain ⟨s3, us3, n3, hu3, hn3, hm3⟩ := h3
        refine ⟨s3, us3, n3, hu3, by omega, fun k => ?_⟩
        rw [hm3, List.take_of_length_le (Nat.le_refl _), behinds_mem et hpr hc, take_snoc hpG]
        constructor
        · rintro (⟨p', h1, h2⟩ | h)
          · exact ⟨p', List.mem_append_left _ h1, h2⟩
          · exact ⟨p, List.mem_append_right _ List.mem_cons_self, h⟩
        · rintro ⟨p', h1, h2⟩
          rcases List.mem_append.mp h1 with h1 | h1
          · exact .inl ⟨p', h1, h2⟩
          · rw [List.mem_singleton.mp h1] at h2
            exact .inr h2
    · obtain ⟨s2, us, n, hu, hn, hm⟩ := h2
      rw [List.length_map] at hn
      rw [List.length_map, List.take_of_length_le (Nat.le_refl _)] at hm
      refine ⟨D, memI us, n, rfl, hu, by omega, fun ns p pw mem _ hp => ?_⟩
      have e : ns = nxt M.T G c := asc_uniq pw nxt_pw fun k => by
        rw [mem, mem_nxt g]
        unfold memI
        rw [decide_eq_true_iff, hm]
        constructor
        · rintro ⟨p, h1, h2⟩
          exact ⟨_, h2, rfl, h1, rfl⟩
        · rintro ⟨⟨x1, x2, x3⟩, h1, rfl, h3, rfl⟩
          exact ⟨x1, h3, h1⟩
      rw [e]
      refine ⟨p, _, rfl, .inl ⟨.inl (.inl upd_same), fun l hl => q l _ (Same.new' (Same.new' s2 hp) hl) ?_ upd_same⟩⟩
      exact (Same.new' s2 hp).free hl
end
end Lw
set_option Elab.async false
set_option linter.all false
set_option maxRecDepth 100000
set_option maxHeartbeats 4000000
/-! books.py: Book._behind, _reads, __contains__, __call__ -/
namespace Lw
open PySem PySem.Spec PyProof.Rows L2
abbrev sChkRow : Stmt := topS 24
abbrev sBeh : Stmt := inClass cBook 33
abbrev sRds : Stmt := inClass cBook 34
abbrev sCon : Stmt := inClass cBook 8
abbrev sCal : Stmt := inClass cBook 9
theorem scBeh : FnScope ["self", "states", "row", "behind", "letter"] ["self", "states", "row"] (defScope sBeh) := ⟨rfl, rfl, rfl, by decide +kernel, rfl, by decide +kernel, by decide +kernel⟩
theorem scRds : FnScope ["self", "states", "row", "state"] ["self", "states", "row"] (defScope sRds) := ⟨rfl, rfl, rfl, by decide +kernel, rfl, by decide +kernel, by decide +kernel⟩
theorem scCon : FnScope ["self", "x"] ["self", "x"] (defScope sCon) := ⟨rfl, rfl, rfl, by decide +kernel, rfl, by decide +kernel, by decide +kernel⟩
theorem scCal : FnScope ["self", "row"] ["self", "row"] (defScope sCal) := ⟨rfl, rfl, rfl, by decide +kernel, rfl, by decide +kernel, by decide +kernel⟩
theorem scChkRow : FnScope ["letters", "row"] ["letters", "row"] (defScope sChkRow) := ⟨rfl, rfl, rfl, by decide +kernel, rfl, by decide +kernel, by decide +kernel⟩
/-- a method and what it keeps -/
structure MetD (P : Program) (w : World) (K : PySem.W.Frag) (mg : Str → Option Value) (base : Heap) (C : Addr) (k : Nat) (m : Str) (ps : List Str) (sp : Sp) : Prop where
  ex : ∃ (g : Addr) (fd : FuncData), Meth K C m g ∧ FnOk P w K mg base CX0 k g fd ps sp ∧ Binds K fd ps []
theorem firsts_map {α : Type} (F : α → V) (d : α) (xs : List α) : firsts (fun i => F (xs.getD i d)) xs.length = xs.map F := by
  unfold firsts
  apply List.ext_getElem?
  intro i
  rw [List.getElem?_map, List.getElem?_map]
  by_cases hi : i < xs.length
  · rw [List.getElem?_range hi, List.getElem?_eq_getElem hi, Option.map_some, Option.map_some, List.getD_eq_getElem?_getD, List.getElem?_eq_getElem hi]
    rfl
  · rw [List.getElem?_eq_none (by rw [List.length_range]; omega), List.getElem?_eq_none (by omega)]
    rfl
/-- whether one of these is an end -/
def ends (M : Md) (G : List Int) : Bool := (G.map fun x => decide (x ∈ M.E)).any id
/-- a row over the letters -/
def RowOf (M : Md) (z : Str) : Prop := (∀ c ∈ z.cps.toList, c ∈ M.L.cps.toList) ∧ z.length < 100000
theorem RowOf.over {M : Md} {z : Str} (h : RowOf M z) : overV M.L (.str z) = true := by
  show z.cps.toList.all (fun c => decide (c ∈ M.L.cps.toList)) = true
  rw [List.all_eq_true]
  exact fun c hc => decide_eq_true (h.1 c hc)
theorem kind_str' {K : PySem.W.Frag} {H : Hp} (z : Str) : Kind K H (.str z) := kind_str z
section
variable {P : Program} {w : World} {K : PySem.W.Frag} {mg : Str → Option Value} {base : Heap}
def spChkRowR : Sp := fun vs H Q _ => ∃ (L z : Str), vs = [.str L, .str z] ∧ overV L (.str z) = true ∧ z.length < 100000 ∧ ∀ H', Same H H' → Q .non H'
theorem ok_chkrowR {f : Addr} {fd : FuncData} (F : Fun K "check_row" "check_row" sChkRow f fd) (D : Def P w K mg base 1 "is_over" ["letters", "value"] (spOver K)) : FnOk P w K mg base CX0 2 f fd ["letters", "row"] spChkRowR := by
  obtain ⟨fD, fdD, GD, gD, kD, bD⟩ := D.ex
  refine F.ok scChkRow (fun vs H Q E h => ?_) (fun cdv A outer s H vs Q E hr h => ?_)
  · obtain ⟨L, z, rfl, _⟩ := h
    rfl
  · obtain ⟨L, z, rfl, ho, hz, q⟩ := h
    refine ⟨_, pss_one (ps_if (pt_not (pt_val (pe_call GD hr rfl gD kD bD .nil pass0 (by exact (pa_cons (pv 0) (pa_cons (pv 1) pa_nil)))))) (pss_one ps_never) pss_nil), ?_⟩
    refine ⟨_, rfl, _, rfl, L, .str z, rfl, kind_str z, (fun y e => by cases e; exact hz), fun H1 s1 => ⟨_, rfl, ?_⟩⟩
    rw [ho]
    exact iteF (q H1 s1)
def spBeh (C : Addr) : Sp := fun vs H Q _ => ∃ (a sd t : Addr) (M : Md) (xs G : List Int) (z : Str), vs = [.ref a, .ref t, .str z] ∧ BookM H C a sd M ∧ M.Good ∧ (H t = some (.lst (xs.map V.int)) ∨ H t = some (.tup (xs.map V.int))) ∧ xs.Perm G ∧ SetOf M G ∧ RowOf M z ∧
  ∀ l H', Same H H' → H' l = some (.tup ((come M.T G z.cps.toList).map V.int)) → Q (.ref l) H'
theorem flat_ints (xs : List Int) : (xs.map V.int).all flatV = true := by
  rw [List.all_map, List.all_eq_true]
  intro x _
  rfl
theorem ok_beh {f C : Addr} {fd : FuncData} (F : Fun K "_behind" "Book._behind" sBeh f fd) (T : BkT K mg C) (D : Def P w K mg base 1 "ascending" ["size", "some"] (spAsc K)) (O : MetD P w K mg base C 1 "_onward" ["self", "states", "letter"] (spOnw C)) :
    FnOk P w K mg base CX0 2 f fd ["self", "states", "row"] (spBeh C) := by
  obtain ⟨fD, fdD, GD, gD, kD, bD⟩ := D.ex
  obtain ⟨fO, fdO, MO, GO, bO⟩ := O.ex
  refine F.ok scBeh (fun vs H Q E h => ?_) (fun cdv A outer s H vs Q E hr h => ?_)
  · obtain ⟨a, sd, t, M, xs, G, z, rfl, _⟩ := h
    rfl
  · obtain ⟨a, sd, t, M, xs, G, z, rfl, hb, g, ht, hp, hG, hz, q⟩ := h
    refine ⟨_, pss_cons (ps_set (i := 3) scBeh.nd rfl (.inl rfl) (pe_call GD hr rfl gD kD bD .nil pass0 (by exact (pa_cons (pe_fld (pv 0) rfl) (pa_cons (pv 1) pa_nil)))))
      (pss_cons (ps_for PassesOwn.never rfl (pi_str (pv 2)) (pg_name (i := 4) scBeh.nd rfl (.inl rfl)) (pss_one (ps_set (i := 3) scBeh.nd rfl (.inl rfl) (pe_meth (pv 0) T.cl MO GO hr bO .nil pass0 (by exact (pa_cons (pv 3) (pa_cons (pv 4) pa_nil)))))))
      (pss_one (ps_ret (pv 3)))), ?_⟩
    obtain ⟨zs, ⟨dx, st, en, ld, us0, k1, k2, k3, k4, k6, k7⟩, et⟩ := id hb
    have n1 := g.n1
    have n7 := g.n7
    refine ⟨_, rfl, a, C, dx, _, _, rfl, k1, T.cl, T.na _ (by decide +kernel), rfl, _, rfl, M.n, t, xs.map V.int, rfl, by omega, by omega, ht, flat_ints xs, fun l0 H1 s1 f1 g1 => ?_⟩
    rw [asc_perm hG.pw hG.r hp] at g1
    refine ⟨_, rfl, z, rfl, ?_⟩
    refine for_it walk_str (fun i σ H' => Same H H' ∧ ∃ l u4, σ = [some (.ref a), some (.ref t), some (.str z), some (.ref l), u4] ∧ H' l = some (.tup ((come M.T G (z.cps.toList.take i)).map V.int)))
      ⟨s1, l0, none, rfl, g1⟩ (fun _ _ _ _ _ => trivial) ?_ ?_
    · rintro i x σ Ha Hb hi ⟨sa, l, u4, rfl, hl⟩ ⟨rfl, c, hc, rfl⟩
      have hc2 : z.cps.toList[i]? = some c := by rw [Array.getElem?_toList]; exact hc
      refine ⟨_, rfl, a, dx, _, rfl, sa _ _ k1, rfl, _, rfl, _, rfl, a, sd, l, M, come M.T G (z.cps.toList.take i), c, rfl, hb.same sa, g, hl, come_set g hG, hz.1 c (List.mem_of_getElem? hc2), fun l2 H2 s2 _ g2 => ?_⟩
      refine ⟨sa.trans s2, l2, _, rfl, ?_⟩
      rw [come_snoc hc2]
      exact g2
    · rintro σ H' ⟨sa, l, u4, rfl, hl⟩
      rw [List.take_of_length_le (by simp)] at hl
      exact ⟨_, rfl, q l H' sa hl⟩
def spRds (C : Addr) : Sp := fun vs H Q _ => ∃ (a sd t : Addr) (M : Md) (xs G : List Int) (z : Str), vs = [.ref a, .ref t, .str z] ∧ BookM H C a sd M ∧ M.Good ∧ (H t = some (.lst (xs.map V.int)) ∨ H t = some (.tup (xs.map V.int))) ∧ xs.Perm G ∧ SetOf M G ∧ RowOf M z ∧
  ∀ H', Same H H' → Q (.bl (ends M (come M.T G z.cps.toList))) H'
theorem ok_rds {f C : Addr} {fd : FuncData} (F : Fun K "_reads" "Book._reads" sRds f fd) (an : mg "any" = none) (T : BkT K mg C) (O : MetD P w K mg base C 2 "_behind" ["self", "states", "row"] (spBeh C)) :
    FnOk P w K mg base CX0 3 f fd ["self", "states", "row"] (spRds C) := by
  obtain ⟨fO, fdO, MO, GO, bO⟩ := O.ex
  refine F.ok scRds (fun vs H Q E h => ?_) (fun cdv A outer s H vs Q E hr h => ?_)
  · obtain ⟨a, sd, t, M, xs, G, z, rfl, _⟩ := h
    rfl
  · obtain ⟨a, sd, t, M, xs, G, z, rfl, hb, g, ht, hp, hG, hz, q⟩ := h
    refine ⟨_, pss_one (ps_ret (pe_callB (cr_any rfl) (by rfl) an (by decide +kernel) (by exact (pa_cons (pe_lc (own := [("state", 3)]) (g := gName 3) (tt := tYes) (te := tOp (rIn K false) (tVar 3) (tFld K (tVar 0) "_ends")) (by rfl) scRds.nd
        (pi_tup (pe_meth (pv 0) T.cl MO GO hr bO .nil pass0 (by exact (pa_cons (pv 1) (pa_cons (pv 2) pa_nil)))))
        (blkOk_by (own := [("state", 3)]) (N := ["self", "states", "row", "state"]) (sc := defScope sRds) (by decide +kernel)) (fun _ _ _ _ _ => by exact (pg_name (i := 3) scRds.nd rfl (Or.inl rfl))) (fun _ _ _ _ _ => pts_nil)
        (fun _ _ _ _ _ => by exact (pe_cmpR op_in_seq (pv 3) (pe_fld (pv 0) rfl) (by rfl)))) pa_nil)))), ?_⟩
    obtain ⟨zs, ⟨dx, st, en, ld, us0, k1, k2, k3, k4, k6, k7⟩, et⟩ := id hb
    refine ⟨_, rfl, a, dx, _, rfl, k1, rfl, _, rfl, _, rfl, a, sd, t, M, xs, G, z, rfl, hb, g, ht, hp, hG, hz, fun l H1 s1 h1 => ?_⟩
    have ln := (come_set g (cs := z.cps.toList) hG).len g
    refine ⟨l, rfl, ⟨_, .inl (.inl h1)⟩, fun D hD => ?_⟩
    refine lc_map walk_tup (fun i => V.bl (decide ((come M.T G z.cps.toList).getD i 0 ∈ M.E))) hD (by rw [List.length_map]; omega) (fun H' s => .inl (.inl (s _ _ h1))) (fun i x Ha Hb Cc Z hi sm y k => ?_) (fun H' sm hD' => ?_)
    · obtain ⟨rfl, hx⟩ := y
      rw [List.getElem?_map] at hx
      obtain ⟨p, hpG, rfl⟩ := Option.map_eq_some_iff.mp hx
      refine ⟨rfl, _, rfl, _, rfl, a, C, dx, _, _, rfl, sm _ _ (s1 _ _ k1), T.cl, T.na _ (by decide +kernel), rfl, en, _, rfl, .inr (.inl (.inl (sm _ _ (s1 _ _ k3)))), rfl, flat_ints M.E, ?_⟩
      have e : inV (.int p) (M.E.map V.int) = decide ((come M.T G z.cps.toList).getD i 0 ∈ M.E) := by rw [inV_ints, getD_at hpG]
      have e2 : (if false = true then !inV (.int p) (M.E.map V.int) else inV (.int p) (M.E.map V.int)) = decide ((come M.T G z.cps.toList).getD i 0 ∈ M.E) := by
        rw [← e]
        rfl
      rw [e2]
      exact k _ (Same.refl _)
    · have e : firsts (fun i => V.bl (decide ((come M.T G z.cps.toList).getD i 0 ∈ M.E))) ((come M.T G z.cps.toList).map V.int).length = ((come M.T G z.cps.toList).map fun x => decide (x ∈ M.E)).map V.bl := by
        rw [List.length_map, firsts_map (fun x => V.bl (decide (x ∈ M.E))) 0, List.map_map]
        rfl
      rw [e] at hD'
      exact ⟨D, _, rfl, .inl (.inl hD'), q _ (s1.trans sm)⟩
def spCon (C : Addr) : Sp := fun vs H Q _ => ∃ (a sd : Addr) (M : Md) (z : Str), vs = [.ref a, .str z] ∧ BookM H C a sd M ∧ M.Good ∧ RowOf M z ∧ ∀ H', Same H H' → Q (.bl (ends M (come M.T M.S z.cps.toList))) H'
theorem start_set {M : Md} (g : M.Good) : SetOf M M.S := ⟨g.s, g.sr⟩
theorem ok_con {f C : Addr} {fd : FuncData} (F : Fun K "__contains__" "Book.__contains__" sCon f fd) (T : BkT K mg C) (D : Def P w K mg base 1 "is_over" ["letters", "value"] (spOver K)) (O : MetD P w K mg base C 3 "_reads" ["self", "states", "row"] (spRds C)) :
    FnOk P w K mg base CX0 4 f fd ["self", "x"] (spCon C) := by
  obtain ⟨fD, fdD, GD, gD, kD, bD⟩ := D.ex
  obtain ⟨fO, fdO, MO, GO, bO⟩ := O.ex
  refine F.ok scCon (fun vs H Q E h => ?_) (fun cdv A outer s H vs Q E hr h => ?_)
  · obtain ⟨a, sd, M, z, rfl, _⟩ := h
    rfl
  · obtain ⟨a, sd, M, z, rfl, hb, g, hz, q⟩ := h
    refine ⟨_, pss_one (ps_ret (pe_and (pe_call GD (hr.mono (by decide)) rfl gD kD bD .nil pass0 (by exact (pa_cons (pe_fld (pv 0) rfl) (pa_cons (pv 1) pa_nil))))
      (pe_one (pe_meth (pv 0) T.cl MO GO hr bO .nil pass0 (by exact (pa_cons (pe_fld (pv 0) rfl) (pa_cons (pv 1) pa_nil))))))), ?_⟩
    obtain ⟨zs, ⟨dx, st, en, ld, us0, k1, k2, k3, k4, k6, k7⟩, et⟩ := id hb
    refine ⟨_, rfl, a, C, dx, _, _, rfl, k1, T.cl, T.na _ (by decide +kernel), rfl, _, rfl, M.L, .str z, rfl, kind_str z, (fun y e => by cases e; exact hz.2), fun H1 s1 => ⟨_, rfl, ?_⟩⟩
    rw [hz.over]
    refine iteT ⟨_, rfl, a, dx, _, rfl, s1 _ _ k1, rfl, _, rfl, a, C, dx, _, _, rfl, s1 _ _ k1, T.cl, T.na _ (by decide +kernel), rfl, _, rfl, a, sd, st, M, M.S, M.S, z, rfl, hb.same s1, g, .inr (s1 _ _ k2), .refl _, start_set g, hz, fun H2 s2 => q H2 (s1.trans s2)⟩
def spCal (C : Addr) : Sp := fun vs H Q _ => ∃ (a sd : Addr) (M : Md) (z : Str), vs = [.ref a, .str z] ∧ BookM H C a sd M ∧ M.Good ∧ RowOf M z ∧ ∀ l H', Same H H' → H' l = some (.tup ((come M.T M.S z.cps.toList).map V.int)) → Q (.ref l) H'
theorem ok_cal {f C : Addr} {fd : FuncData} (F : Fun K "__call__" "Book.__call__" sCal f fd) (T : BkT K mg C) (D : Def P w K mg base 2 "check_row" ["letters", "row"] spChkRowR) (O : MetD P w K mg base C 2 "_behind" ["self", "states", "row"] (spBeh C)) :
    FnOk P w K mg base CX0 3 f fd ["self", "row"] (spCal C) := by
  obtain ⟨fD, fdD, GD, gD, kD, bD⟩ := D.ex
  obtain ⟨fO, fdO, MO, GO, bO⟩ := O.ex
  refine F.ok scCal (fun vs H Q E h => ?_) (fun cdv A outer s H vs Q E hr h => ?_)
  · obtain ⟨a, sd, M, z, rfl, _⟩ := h
    rfl
  · obtain ⟨a, sd, M, z, rfl, hb, g, hz, q⟩ := h
    refine ⟨_, pss_cons (ps_expr (pe_call GD hr rfl gD kD bD .nil pass0 (by exact (pa_cons (pe_fld (pv 0) rfl) (pa_cons (pv 1) pa_nil)))))
      (pss_one (ps_ret (pe_meth (pv 0) T.cl MO GO hr bO .nil pass0 (by exact (pa_cons (pe_fld (pv 0) rfl) (pa_cons (pv 1) pa_nil)))))), ?_⟩
    obtain ⟨zs, ⟨dx, st, en, ld, us0, k1, k2, k3, k4, k6, k7⟩, et⟩ := id hb
    refine ⟨_, rfl, a, C, dx, _, _, rfl, k1, T.cl, T.na _ (by decide +kernel), rfl, _, rfl, M.L, z, rfl, hz.over, hz.2, fun H1 s1 => ?_⟩
    exact ⟨_, rfl, a, dx, _, rfl, s1 _ _ k1, rfl, _, rfl, a, C, dx, _, _, rfl, s1 _ _ k1, T.cl, T.na _ (by decide +kernel), rfl, _, rfl, a, sd, st, M, M.S, M.S, z, rfl, hb.same s1, g, .inr (s1 _ _ k2), .refl _, start_set g, hz, fun l H2 s2 h2 => q l H2 (s1.trans s2) h2⟩
end
end Lw
set_option Elab.async false
set_option linter.all false
set_option maxRecDepth 100000
set_option maxHeartbeats 4000000
/-! operators on an instance of a class of the module and a value of a built-in class; an instance called -/
namespace Lw
open PySem PySem.Spec PyProof.Rows L2
section
variable {P : Program} {w : World} {A : Around} {E : Value → Shared → Prop} {s : Shared} {K : PySem.W.Frag} {x C L f : Addr} {ox : Obj} {od : Option Obj}
/-- x op b, b of a built-in class that the heap tells -/
theorem bin_looks {op : Operator} {b : Value} {T : String} {fo ro : Option Value} {Q : Value → Shared → Prop} (kin : K.In s.heap) (J : PySem.W.InstAt s.heap x ox C od) (tb : PySem.W.Looks (model P w) s.heap (typeOf b) (.type T)) (sf : PySem.W.selfFirst K C = true)
    (a1 : PySem.W.findIn K (.ref C) (PySem.dunder op.info.2) = some (some (.ref f))) (fn : PySem.W.isFn K (.ref f) = true) (a2 : PySem.W.findIn K (.ref C) (dunderR op.info.2) = some none)
    (b1 : PySem.W.findIn K (.type T) (PySem.dunder op.info.2) = some fo) (b2 : PySem.W.findIn K (.type T) (dunderR op.info.2) = some ro) (ns : PySem.W.subIn K (.type T) (.ref C) = some false)
    (go : wpAny (model P w) A (call (.ref f) [.ref x, b]) (PySem.W.CmpBack Q) E s) : wpAny (model P w) A (binaryOp op (.ref x) b) Q E s := by
  obtain ⟨cd, rest, hcd, hm⟩ := PySem.W.ksp_first sf
  rcases ei : op.info with ⟨sym, nm⟩
  rw [ei] at a1 a2 b1 b2
  dsimp only at a1 a2 b1 b2
  have tried := PySem.W.ksp_try kin J a1 fn go
  obtain ⟨hh, gg, dr, tt, os⟩ := s
  have y1 : PySem.W.Looks (model P w) hh (typeOf (.ref x)) (.ref C) := J.type
  have y2 : PySem.W.Looks (model P w) hh (typeOf b) (.type T) := tb
  have y3 : PySem.W.Looks (model P w) hh (fillsNumberSlot (.ref C) nm) true := PySem.W.fills_K kin hcd hm a1
  have y4 := PySem.W.ksp_fillsT (M := model P w) (nm := nm) kin b1 b2
  have y5 : PySem.W.Looks (model P w) hh (isSubtype (.type T) (.ref C)) false := PySem.W.looks_subIn kin ns
  have y6 : PySem.W.Looks (model P w) hh (numberSlotInPython (.ref C) nm) true := PySem.W.ksp_inPy kin a1 a2 (.inl rfl)
  have y7 : PySem.W.Looks (model P w) hh (numberSlotInPython (.type T) nm) false := PySem.W.Looks.of_pure rfl
  have y8 : PySem.W.Looks (model P w) hh (typeLookup (.type T) (dunderR nm)) ro := PySem.W.looks_findIn kin b2
  generalize ((fo.isSome && !isSeqSlot fo) || (ro.isSome && !isSeqSlot ro)) = right at y4
  have dif : (Value.ref C == Value.type T) = false := by
    rw [Bool.eq_false_iff]
    intro q
    cases beq_iff_eq.mp q
  simp only [binaryOp, ei]
  refine wpAny_holding (wpAny_bind ?_)
  unfold binaryOp1
  refine wpAny_bind (y1.at (wpAny_bind (y2.at (wpAny_bind (y3.at ?_)))))
  simp only [dif, Bool.false_eq_true, if_false]
  cases right <;>
  · ksp_lk
    refine wpAny_mono tried (fun r s2 z => ?_) fun _ _ e => e
    obtain ⟨v, rfl, hq⟩ := z
    ksp_lk
    exact hq
end
section
variable {X : Cx} {CX : CXT} {k : Nat} {f C : Addr} {fd : FuncData} {ps : List Str} {sp : Sp} {E : XK} {pins : List (Addr × Obj)} {σ : L2.St} {H : Hp} {s : Shared}
/-- what the class tells of an operator whose right side is of the built-in class T -/
structure BinM (K : PySem.W.Frag) (C : Addr) (nm T : String) (f : Addr) (fd : FuncData) (ps : List Str) : Prop where
  at_ : PySem.W.findIn K (.ref C) (PySem.dunder nm) = some (some (.ref f))
  fn : PySem.W.isFn K (.ref f) = true
  b : Binds K fd ps []
  first : PySem.W.selfFirst K C = true
  r : PySem.W.findIn K (.ref C) (dunderR nm) = some none
  t1 : ∃ fo, PySem.W.findIn K (.type T) (PySem.dunder nm) = some fo
  t2 : ∃ ro, PySem.W.findIn K (.type T) (dunderR nm) = some ro
  sub : PySem.W.subIn K (.type T) (.ref C) = some false
/-- x op t, t a tuple -/
def rBinT (C : Addr) (sp : Sp) (E : XK) : R2 := fun x y H Q => IsIns H C x ∧ (∃ t ys, y = .ref t ∧ H t = some (.tup ys)) ∧ sp [x, y] H (fun v H' => (∃ b, v = .ref b) ∧ Q v H') E
theorem op_binT {op : Operator} (F : FnOk X.prog X.w X.K X.mg X.base CX k f fd ps sp) (M : BinM X.K C op.info.2 "tuple" f fd ps) (hx : Passes CX X.nox E) (hr : Room k X.A) : OpR X (binaryOp op) (rBinT C sp E) := by
  intro pins s σ H x y v u Q I rx ry hq
  obtain ⟨hi, ⟨t, ys, rfl, ht⟩, hsp⟩ := hq
  obtain ⟨a, ox, od, rfl, J⟩ := hi.at_ I rx
  obtain ⟨fo, h1⟩ := M.t1
  obtain ⟨ro, h2⟩ := M.t2
  obtain ⟨Pk, kx, hp, _⟩ := kit_of (t := .type "tuple") I ry (.base (.tup ht))
  refine bin_looks I.kIn J (kx.ty _ _ I.kIn hp) M.first M.at_ M.fn M.r h1 h2 M.sub ?_
  refine wpAny_mono (own_call F M.b hx (sub_here hr) I (.cons rx (.cons ry .nil)) hsp) (fun r s' z => ?_) fun _ _ z => z
  obtain ⟨z, H', I', rz, ⟨b, rfl⟩, q⟩ := z
  cases rz
  exact ⟨.ref b, H', I', rfl, q⟩
/-- a def whose parameters are all given, called by its address -/
theorem fnR_of (F : FnOk X.prog X.w X.K X.mg X.base CX k f fd ps sp) (hb : Binds X.K fd ps []) : FnR X.prog X.w X.K X.mg X.base CX k f sp := fun A outer s H us vs Q E hr e0 r h =>
  F.run A outer s H ⟨us, []⟩ us vs Q E hr e0 (by
    have hl := F.len _ _ _ _ h
    have := hb s us (fun b o e => (e0.bs _ _ (e0.mod.kin b o e)).1) (by rw [List.append_nil, ← r.length]; exact hl)
    rw [List.append_nil] at this
    exact this) r h
end
end Lw
set_option Elab.async false
set_option linter.all false
set_option maxRecDepth 100000
set_option maxHeartbeats 4000000
/-! books.py: a book with other steps, starts, ends -/
namespace Lw
open PySem PySem.Spec PyProof.Rows L2
abbrev sOth : Stmt := inClass cBook 31
abbrev sWst : Stmt := inClass cBook 30
abbrev sAdd : Stmt := inClass cBook 16
abbrev sSub : Stmt := inClass cBook 17
abbrev sWSt : Stmt := inClass cBook 18
abbrev sWEn : Stmt := inClass cBook 19
theorem scChkStep' : FnScope ["letters", "size", "step"] ["letters", "size", "step"] (defScope sChkStep) := ⟨rfl, rfl, rfl, by decide +kernel, rfl, by decide +kernel, by decide +kernel⟩
theorem scOth : FnScope ["self", "step", "other"] ["self", "step"] (defScope sOth) := ⟨rfl, rfl, rfl, by decide +kernel, rfl, by decide +kernel, by decide +kernel⟩
theorem scWst : FnScope ["self", "steps"] ["self", "steps"] (defScope sWst) := ⟨rfl, rfl, rfl, by decide +kernel, rfl, by decide +kernel, by decide +kernel⟩
theorem scAdd : FnScope ["self", "other"] ["self", "other"] (defScope sAdd) := ⟨rfl, rfl, rfl, by decide +kernel, rfl, by decide +kernel, by decide +kernel⟩
theorem scSub : FnScope ["self", "other"] ["self", "other"] (defScope sSub) := ⟨rfl, rfl, rfl, by decide +kernel, rfl, by decide +kernel, by decide +kernel⟩
theorem scWSt : FnScope ["self", "some"] ["self", "some"] (defScope sWSt) := ⟨rfl, rfl, rfl, by decide +kernel, rfl, by decide +kernel, by decide +kernel⟩
theorem scWEn : FnScope ["self", "some"] ["self", "some"] (defScope sWEn) := ⟨rfl, rfl, rfl, by decide +kernel, rfl, by decide +kernel, by decide +kernel⟩
theorem pot_same {p : Addr} {H H' : Hp} (s : Same H H') (h : Pot H p) : Pot H' p := by
  obtain ⟨a, b, e, r⟩ := h
  exact ⟨a, b, s _ _ e, r⟩
/-- a step of a model's states and letters -/
def TrOf (M : Md) (x : Tr) : Prop := (0 ≤ x.1 ∧ x.1 < M.n) ∧ x.2.1 ∈ M.L.cps.toList ∧ 0 ≤ x.2.2 ∧ x.2.2 < M.n
theorem tr_dat {H : Hp} {t : Addr} {x : Tr} (ht : H t = some (.tup (trV x))) : Dat (t + 1) H 1 (.ref t) (trP x) :=
  .inr (.inr (.inl ⟨t, trV x, _, rfl, rfl, ht, Nat.ne_of_lt (Nat.lt_succ_self t), .cons (Flat.int _) (.cons (Flat.str _) (.cons (Flat.int _) .nil))⟩))
theorem tr_short (x : Tr) : short1 (trP x) = true := rfl
theorem perm_paired2 {α β γ : Type} {R : α → β → Prop} {f : γ → β} {zs S : List γ} (h : zs.Perm S) : ∀ {ys : List α}, Paired R ys (S.map f) → ∃ xs : List α, ys.Perm xs ∧ Paired R xs (zs.map f) := by
  induction h with
  | nil =>
    intro ys e
    cases e
    exact ⟨[], .nil, .nil⟩
  | cons x _ ih =>
    intro ys e
    cases e with
    | cons r t =>
      obtain ⟨xs, h1, h2⟩ := ih t
      exact ⟨_ :: xs, h1.cons _, .cons r h2⟩
  | swap x y l =>
    intro ys e
    cases e with
    | cons r1 t =>
      cases t with
      | cons r2 t => exact ⟨_, .swap _ _ _, .cons r2 (.cons r1 t)⟩
  | trans _ _ ih1 ih2 =>
    intro ys e
    obtain ⟨xs, h1, h2⟩ := ih2 e
    obtain ⟨ws, h3, h4⟩ := ih1 h2
    exact ⟨ws, h1.trans h3, h4⟩
/-- all steps but one -/
def but1 (T : List Tr) (x : Tr) : List Tr := T.filter fun y => !decide (y = x)
theorem but1_mem {T : List Tr} {x y : Tr} : y ∈ but1 T x ↔ y ∈ T ∧ y ≠ x := by
  unfold but1
  rw [List.mem_filter]
  simp
theorem Md.Good.withT {M : Md} (g : M.Good) {T : List Tr} (h1 : T.Pairwise trLt) (h2 : ∀ x ∈ T, TrOf M x) : ({ M with T := T } : Md).Good := ⟨g.l, g.n1, g.n7, g.s, g.sr, g.e, g.er, h1, h2⟩
theorem Md.Good.withS {M : Md} (g : M.Good) {S : List Int} (h : SetOf M S) : ({ M with S := S } : Md).Good := ⟨g.l, g.n1, g.n7, h.pw, h.r, g.e, g.er, g.t, g.tr⟩
theorem Md.Good.withE {M : Md} (g : M.Good) {E : List Int} (h : SetOf M E) : ({ M with E := E } : Md).Good := ⟨g.l, g.n1, g.n7, g.s, g.sr, h.pw, h.r, g.t, g.tr⟩
theorem Md.Good.but {M : Md} (g : M.Good) (x : Tr) : ({ M with T := but1 M.T x } : Md).Good := g.withT (g.t.filter _) fun y hy => g.tr y (but1_mem.mp hy).1
section
variable {P : Program} {w : World} {K : PySem.W.Frag} {mg : Str → Option Value} {base : Heap}
def spChkStepR : Sp := fun vs H Q _ => ∃ (M : Md) (t : Addr) (x : Tr), vs = [.str M.L, .int M.n, .ref t] ∧ H t = some (.tup (trV x)) ∧ TrOf M x ∧ Q .non H
theorem ok_chkstepR {f : Addr} {fd : FuncData} (F : Fun K "check_step" "check_step" sChkStep f fd) (D : Def P w K mg base 3 "is_step" ["letters", "size", "value"] spIsStep) : FnOk P w K mg base CX0 4 f fd ["letters", "size", "step"] spChkStepR := by
  obtain ⟨fD, fdD, GD, gD, kD, bD⟩ := D.ex
  refine F.ok scChkStep' (fun vs H Q E h => ?_) (fun cdv A outer s H vs Q E hr h => ?_)
  · obtain ⟨M, t, x, rfl, _⟩ := h
    rfl
  · obtain ⟨M, t, x, rfl, ht, hx, q⟩ := h
    refine ⟨_, pss_one (ps_if (pt_not (pt_val (pe_call GD hr rfl gD kD bD .nil pass0 (by exact (pa_cons (pv 0) (pa_cons (pv 1) (pa_cons (pv 2) pa_nil))))))) (pss_one ps_never) pss_nil), ?_⟩
    refine ⟨_, rfl, _, rfl, _, rfl, M.L, M.n, .ref t, t + 1, 1, trP x, rfl, tr_dat ht, tr_short x, _, rfl, ?_⟩
    rw [trOk hx]
    exact iteF q
def spChkSetR : Sp := fun vs H Q _ => ∃ (n : Int) (v : V) (p : Addr) (k : Nat) (z : PyData), vs = [.int n, v] ∧ Dat p H k v z ∧ (partsOf z).length < 100000 ∧ setP n z = true ∧ ∀ H', Same H H' → Q .non H'
theorem ok_chksetR {f : Addr} {fd : FuncData} (F : Fun K "check_set" "check_set" sChkSet f fd) (D : Def P w K mg base 4 "is_set" ["size", "value"] spIsSet) : FnOk P w K mg base CX0 5 f fd ["size", "some"] spChkSetR := by
  obtain ⟨f1, fd1, G1, g1, k1, b1⟩ := D.ex
  refine F.ok scChkSet (fun vs H Q E h => ?_) (fun cdv A outer s H vs Q E hr h => ?_)
  · obtain ⟨n, v, p, k, z, rfl, _⟩ := h
    rfl
  · obtain ⟨n, v, p, k, z, rfl, d, hz, e, q⟩ := h
    refine ⟨_, pss_one (ps_if (pt_not (pt_val (pe_call G1 hr rfl g1 k1 b1 .nil pass0 (by exact (pa_cons (pv 0) (pa_cons (pv 1) pa_nil)))))) (pss_one ps_never) pss_nil), ?_⟩
    refine ⟨_, rfl, _, rfl, n, v, p, k, z, rfl, d, hz, fun H1 s1 => ⟨_, rfl, ?_⟩⟩
    rw [e]
    exact iteF (q H1 s1)
/-- a set of a model's states, told as a list or a tuple in whatever sequence -/
theorem set_told {M : Md} (g : M.Good) {p t : Addr} {H : Hp} {o : List V} {S : List Int} (ht : H t = some (.lst o) ∨ H t = some (.tup o)) (np : t ≠ p) (hS : SetOf M S) (hp : o.Perm (S.map V.int)) : ∃ (k : Nat) (z : PyData), Dat p H k (.ref t) z ∧ (partsOf z).length < 100000 ∧ setP M.n z = true := by
  obtain ⟨⟨a, k, zs, e, ha, na, hx, hl, hw, _⟩, _⟩ := told_sts ht np hS.pw hS.r g.n7 hp
  cases e
  obtain ⟨z, d, e1, e2⟩ := Dat.seqOf ha na hx
  refine ⟨k + 1, z, d, by rw [e1]; exact hl, ?_⟩
  unfold setP
  rw [e1, hw, e2]
  rfl
def spOth (C : Addr) : Sp := fun vs H Q _ => ∃ (a sd t : Addr) (M : Md) (x : Tr), vs = [.ref a, .ref t] ∧ BookM H C a sd M ∧ M.Good ∧ H t = some (.tup (trV x)) ∧ TrOf M x ∧
  ∀ l us H', Same H H' → H l = none → H' l = some (.lst us) → TrsAt H' us (but1 M.T x) → Q (.ref l) H'
theorem ok_oth {f C : Addr} {fd : FuncData} (F : Fun K "_other_steps" "Book._other_steps" sOth f fd) (T : BkT K mg C) : FnOk P w K mg base CX0 1 f fd ["self", "step"] (spOth C) := by
  refine F.ok scOth (fun vs H Q E h => ?_) (fun cdv A outer s H vs Q E hr h => ?_)
  · obtain ⟨a, sd, t, M, x, rfl, _⟩ := h
    rfl
  · obtain ⟨a, sd, t, M, x, rfl, hb, g, ht, hx, q⟩ := h
    have hu3 : (A.deeper (envOfC "Book._other_steps" (defScope sOth) s.heap.objs.size f cdv)).units + 64 < cLine := by
      have := hr.units
      omega
    refine ⟨_, pss_one (ps_ret (pe_lc (own := [("other", 2)]) (g := gName 2) (tt := tTest (tOp (rNeD K) (tVar 2) (tVar 1))) (te := tVar 2) (by rfl) scOth.nd (pi_list (pe_fld (pv 0) rfl))
        (blkOk_by (own := [("other", 2)]) (N := ["self", "step", "other"]) (sc := defScope sOth) (by decide +kernel)) (fun _ _ _ _ _ => by exact (pg_name (i := 2) scOth.nd rfl (Or.inl rfl)))
        (fun _ _ _ _ _ => by exact (pts_one (pt_cmpR (op_neD hu3) (pv 2) (pv 1) (nomark _)))) (fun _ _ _ _ _ => by exact (pv 2)))), ?_⟩
    obtain ⟨zs, ⟨dx, st, en, ld, us, k1, k2, k3, k4, k6, k7⟩, et⟩ := id hb
    rw [et] at k7
    have lu : us.length = M.T.length := by rw [Paired.len k7, List.length_map]
    have lT := g.tlen
    refine ⟨_, rfl, a, C, dx, _, _, rfl, k1, T.cl, T.na _ (by decide +kernel), rfl, sd, rfl, ⟨_, .inl (.inl k6)⟩, fun D hD => ?_⟩
    refine lc_pick (walk_list (xs := us)) (fun i => ((us.zip M.T).getD i (.non, (0, 0, 0))).1) (fun i => !decide (((us.zip M.T).getD i (.non, (0, 0, 0))).2 = x)) hD (by omega) (fun H' sm => .inl (.inl (sm _ _ k6))) (fun i v Ha Hb Cc Z hi sa y k1' k2' => ?_) (fun H11 s11 hD11 => ?_)
    · obtain ⟨rfl, hv⟩ := y
      obtain ⟨y, h1', h2', h3'⟩ := zip_at k7 hv
      have ez : (us.zip M.T).getD i (.non, (0, 0, 0)) = (v, y) := getD_at h2'
      obtain ⟨ty, rfl, hty⟩ := h3'
      simp only [ez] at k1' k2'
      refine ⟨rfl, _, rfl, _, rfl, trP y, trP x, dp_tup (.inl (.inl (sa _ _ hty))) rfl, dp_tup (.inl (.inl (sa _ _ ht))) rfl, tr_cm g.l (g.tr y (List.mem_of_getElem? h1')).2.1, tr_cm g.l hx.2.1, _, rfl, ?_⟩
      rw [eqv_tr]
      cases ed : decide (y = x) with
      | true => exact iteF (k2' _ (by rw [ed]; rfl) (Same.refl _))
      | false => exact iteT ⟨_, rfl, k1' _ (by rw [ed]; rfl) (Same.refl _)⟩
    · have ep : picks (fun i => ((us.zip M.T).getD i (.non, (0, 0, 0))).1) (fun i => !decide (((us.zip M.T).getD i (.non, (0, 0, 0))).2 = x)) us.length = ((us.zip M.T).filter fun b => !decide (b.2 = x)).map (·.1) := by
        have := picks_filter (Prod.fst : V × Tr → V) (fun b => !decide (b.2 = x)) (.non, (0, 0, 0)) (us.zip M.T)
        rw [List.length_zip, ← lu, Nat.min_self] at this
        exact this
      rw [ep] at hD11
      exact q D _ H11 s11 hD hD11 (filt_pair (q := fun y => !decide (y = x)) (Paired.imp2 (fun _ _ z => TupAt.same s11 z) k7))
def spWst (C : Addr) : Sp := fun vs H Q _ => ∃ (p a sd l : Addr) (M : Md) (o us : List V) (T' : List Tr), vs = [.ref a, .ref l] ∧ Pot H p ∧ BookM H C a sd M ∧ M.Good ∧ ({ M with T := T' } : Md).Good ∧ H l = some (.lst o) ∧ l ≠ p ∧ TrsAt H us T' ∧ o.Perm us ∧
  ∀ b sb H', Same H H' → H b = none → H sb = none → BookM H' C b sb { M with T := T' } → Q (.ref b) H'
theorem ok_wst {f C : Addr} {fd : FuncData} (F : Fun K "_with_steps" "Book._with_steps" sWst f fd) (T : BkT K mg C) (Bk : BkMk P w K mg base C) : FnOk P w K mg base CX0 7 f fd ["self", "steps"] (spWst C) := by
  obtain ⟨fB, fdB, GB, mk, bB, _, _⟩ := Bk.ex
  refine F.ok scWst (fun vs H Q E h => ?_) (fun cdv A outer s H vs Q E hr h => ?_)
  · obtain ⟨p, a, sd, l, M, o, us, T', rfl, _⟩ := h
    rfl
  · obtain ⟨p, a, sd, l, M, o, us, T', rfl, hp, hb, g, g', hl, nl, hu, po, q⟩ := h
    refine ⟨_, pss_one (ps_ret (pe_make mk GB hr rfl Bk.gC bB .nil pass0 (by exact (pa_cons (pe_fld (pv 0) rfl) (pa_cons (pe_fld (pv 0) rfl) (pa_cons (pe_fld (pv 0) rfl) (pa_cons (pe_fld (pv 0) rfl) (pa_cons (pv 1) pa_nil)))))))), ?_⟩
    obtain ⟨zs, ⟨dx, st, en, ld, us0, k1, k2, k3, k4, k6, k7⟩, et⟩ := id hb
    have fl : ∀ g, g ∈ FSelf → NoAttr K C g := T.na
    refine ⟨_, rfl, a, C, dx, _, _, rfl, k1, T.cl, T.na _ (by decide +kernel), rfl, _, rfl, a, C, dx, _, _, rfl, k1, T.cl, T.na _ (by decide +kernel), rfl, _, rfl, a, C, dx, _, _, rfl, k1, T.cl, T.na _ (by decide +kernel), rfl, _, rfl, a, C, dx, _, _, rfl, k1, T.cl, T.na _ (by decide +kernel), rfl, _, rfl, fun x dy hx hdy nd => ?_⟩
    exact make_book (M := { M with T := T' }) (us := us) g' hp hx hdy nd (.inr k2) (hp.notTup k2) (.refl _) (.inr k3) (hp.notTup k3) (.refl _) (.inl hl) nl hu po fun H' sb s1 f1 bk => q x sb H' s1 hx f1 bk
def spAdd (C : Addr) : Sp := fun vs H Q _ => ∃ (p a sd t : Addr) (M : Md) (x : Tr) (T' : List Tr), vs = [.ref a, .ref t] ∧ Pot H p ∧ BookM H C a sd M ∧ M.Good ∧ H t = some (.tup (trV x)) ∧ TrOf M x ∧ T'.Pairwise trLt ∧ T'.Perm (but1 M.T x ++ [x]) ∧
  ∀ b sb H', Same H H' → H b = none → H sb = none → BookM H' C b sb { M with T := T' } → Q (.ref b) H'
theorem put_tr {M : Md} (g : M.Good) {x : Tr} (hx : TrOf M x) {T' : List Tr} (pm : T'.Perm (but1 M.T x ++ [x])) : ∀ y ∈ T', TrOf M y := fun y hy => by
  rcases List.mem_append.mp (pm.mem_iff.mp hy) with z | z
  · exact g.tr y (but1_mem.mp z).1
  · rw [List.mem_singleton.mp z]
    exact hx
theorem ok_add {f C : Addr} {fd : FuncData} (F : Fun K "__add__" "Book.__add__" sAdd f fd) (T : BkT K mg C) (D : Def P w K mg base 4 "check_step" ["letters", "size", "step"] spChkStepR) (O : MetD P w K mg base C 1 "_other_steps" ["self", "step"] (spOth C))
    (W : MetD P w K mg base C 7 "_with_steps" ["self", "steps"] (spWst C)) : FnOk P w K mg base CX0 8 f fd ["self", "other"] (spAdd C) := by
  obtain ⟨fD, fdD, GD, gD, kD, bD⟩ := D.ex
  obtain ⟨fO, fdO, MO, GO, bO⟩ := O.ex
  obtain ⟨fW, fdW, MW, GW, bW⟩ := W.ex
  refine F.ok scAdd (fun vs H Q E h => ?_) (fun cdv A outer s H vs Q E hr h => ?_)
  · obtain ⟨p, a, sd, t, M, x, T', rfl, _⟩ := h
    rfl
  · obtain ⟨p, a, sd, t, M, x, T', rfl, hp, hb, g, ht, hx, pw, pm, q⟩ := h
    refine ⟨_, pss_cons (ps_expr (pe_call GD (hr.mono (by decide)) rfl gD kD bD .nil pass0 (by exact (pa_cons (pe_fld (pv 0) rfl) (pa_cons (pe_fld (pv 0) rfl) (pa_cons (pv 1) pa_nil))))))
      (pss_one (ps_ret (pe_meth (pv 0) T.cl MW GW hr bW .nil pass0 (by exact (pa_cons (pe_lst (StX.pa_star (pe_meth (pv 0) T.cl MO GO (hr.mono (by decide)) bO .nil pass0 (by exact (pa_cons (pv 1) pa_nil))) (pa_cons (pv 1) pa_nil))) pa_nil))))), ?_⟩
    obtain ⟨zs, ⟨dx, st, en, ld, us0, k1, k2, k3, k4, k6, k7⟩, et⟩ := id hb
    refine ⟨_, rfl, a, C, dx, _, _, rfl, k1, T.cl, T.na _ (by decide +kernel), rfl, _, rfl, a, C, dx, _, _, rfl, k1, T.cl, T.na _ (by decide +kernel), rfl, _, rfl, M, t, x, rfl, ht, hx, ?_⟩
    refine ⟨_, rfl, a, dx, _, rfl, k1, rfl, _, rfl, a, dx, _, rfl, k1, rfl, _, rfl, a, sd, t, M, x, rfl, hb, g, ht, hx, fun l us H1 s1 f1 g1 u1 => ?_⟩
    refine ⟨l, us, rfl, .inr (.inl (.inl g1)), _, rfl, ?_, fun l2 hl2 => ?_⟩
    · have := Paired.len u1
      rw [List.length_map] at this
      have h2 : (but1 M.T x).length ≤ M.T.length := List.length_filter_le _ _
      have h3 := g.tlen
      rw [List.length_append]
      exact Nat.le_trans (show us.length + 1 ≤ 200 by omega) (by decide)
    · have s2 : Same H1 (upd H1 l2 (.lst (us ++ [.ref t]))) := Same.new' (Same.refl H1) hl2
      have g2 : (upd H1 l2 (.lst (us ++ [.ref t]))) l2 = some (.lst (us ++ [.ref t])) := upd_same
      generalize (upd H1 l2 (.lst (us ++ [.ref t]))) = H2 at s2 g2
      have s02 := s1.trans s2
      have pr : TrsAt H2 (us ++ [.ref t]) (but1 M.T x ++ [x]) := by
        show Paired _ _ ((but1 M.T x ++ [x]).map trV)
        rw [List.map_append]
        exact paired_snoc (Paired.imp2 (fun _ _ z => TupAt.same s2 z) u1) ⟨t, rfl, s02 _ _ ht⟩
      obtain ⟨us', pu, pr'⟩ := perm_paired2 pm pr
      refine ⟨p, a, sd, l2, M, us ++ [.ref t], us', T', rfl, pot_same s02 hp, hb.same s02, g, g.withT pw (put_tr g hx pm), g2, (Pot.ne (pot_same s1 hp) hl2).symm, pr', pu, fun b sb H' s3 fb fs bk => ?_⟩
      exact q b sb H' (s02.trans s3) (s02.free fb) (s02.free fs) bk
def spSub (C : Addr) : Sp := fun vs H Q _ => ∃ (p a sd t : Addr) (M : Md) (x : Tr), vs = [.ref a, .ref t] ∧ Pot H p ∧ BookM H C a sd M ∧ M.Good ∧ H t = some (.tup (trV x)) ∧ TrOf M x ∧
  ∀ b sb H', Same H H' → H b = none → H sb = none → BookM H' C b sb { M with T := but1 M.T x } → Q (.ref b) H'
theorem ok_sub {f C : Addr} {fd : FuncData} (F : Fun K "__sub__" "Book.__sub__" sSub f fd) (T : BkT K mg C) (D : Def P w K mg base 4 "check_step" ["letters", "size", "step"] spChkStepR) (O : MetD P w K mg base C 1 "_other_steps" ["self", "step"] (spOth C))
    (W : MetD P w K mg base C 7 "_with_steps" ["self", "steps"] (spWst C)) : FnOk P w K mg base CX0 8 f fd ["self", "other"] (spSub C) := by
  obtain ⟨fD, fdD, GD, gD, kD, bD⟩ := D.ex
  obtain ⟨fO, fdO, MO, GO, bO⟩ := O.ex
  obtain ⟨fW, fdW, MW, GW, bW⟩ := W.ex
  refine F.ok scSub (fun vs H Q E h => ?_) (fun cdv A outer s H vs Q E hr h => ?_)
  · obtain ⟨p, a, sd, t, M, x, rfl, _⟩ := h
    rfl
  · obtain ⟨p, a, sd, t, M, x, rfl, hp, hb, g, ht, hx, q⟩ := h
    refine ⟨_, pss_cons (ps_expr (pe_call GD (hr.mono (by decide)) rfl gD kD bD .nil pass0 (by exact (pa_cons (pe_fld (pv 0) rfl) (pa_cons (pe_fld (pv 0) rfl) (pa_cons (pv 1) pa_nil))))))
      (pss_one (ps_ret (pe_meth (pv 0) T.cl MW GW hr bW .nil pass0 (by exact (pa_cons (pe_meth (pv 0) T.cl MO GO (hr.mono (by decide)) bO .nil pass0 (by exact (pa_cons (pv 1) pa_nil))) pa_nil))))), ?_⟩
    obtain ⟨zs, ⟨dx, st, en, ld, us0, k1, k2, k3, k4, k6, k7⟩, et⟩ := id hb
    refine ⟨_, rfl, a, C, dx, _, _, rfl, k1, T.cl, T.na _ (by decide +kernel), rfl, _, rfl, a, C, dx, _, _, rfl, k1, T.cl, T.na _ (by decide +kernel), rfl, _, rfl, M, t, x, rfl, ht, hx, ?_⟩
    refine ⟨_, rfl, a, dx, _, rfl, k1, rfl, _, rfl, a, dx, _, rfl, k1, rfl, _, rfl, a, sd, t, M, x, rfl, hb, g, ht, hx, fun l us H1 s1 f1 g1 u1 => ?_⟩
    refine ⟨p, a, sd, l, M, us, us, but1 M.T x, rfl, pot_same s1 hp, hb.same s1, g, g.but x, g1, (Pot.ne hp f1).symm, u1, .refl _, fun b sb H' s3 fb fs bk => ?_⟩
    exact q b sb H' (s1.trans s3) (s1.free fb) (s1.free fs) bk
def spWith (C : Addr) (f : Md → List Int → Md) : Sp := fun vs H Q _ => ∃ (p a sd t : Addr) (M : Md) (o : List V) (S : List Int), vs = [.ref a, .ref t] ∧ Pot H p ∧ BookM H C a sd M ∧ M.Good ∧ (H t = some (.lst o) ∨ H t = some (.tup o)) ∧ t ≠ p ∧ SetOf M S ∧ o.Perm (S.map V.int) ∧
  ∀ b sb H', Same H H' → H b = none → H sb = none → BookM H' C b sb (f M S) → Q (.ref b) H'
theorem ok_wStarts {f C : Addr} {fd : FuncData} (F : Fun K "with_starts" "Book.with_starts" sWSt f fd) (T : BkT K mg C) (D : Def P w K mg base 5 "check_set" ["size", "some"] spChkSetR) (Bk : BkMk P w K mg base C) : FnOk P w K mg base CX0 7 f fd ["self", "some"] (spWith C fun M S => { M with S := S }) := by
  obtain ⟨fD, fdD, GD, gD, kD, bD⟩ := D.ex
  obtain ⟨fB, fdB, GB, mk, bB, _, _⟩ := Bk.ex
  refine F.ok scWSt (fun vs H Q E h => ?_) (fun cdv A outer s H vs Q E hr h => ?_)
  · obtain ⟨p, a, sd, t, M, o, S, rfl, _⟩ := h
    rfl
  · obtain ⟨p, a, sd, t, M, o, S, rfl, hp, hb, g, ht, nt, hS, po, q⟩ := h
    refine ⟨_, pss_cons (ps_expr (pe_call GD (hr.mono (by decide)) rfl gD kD bD .nil pass0 (by exact (pa_cons (pe_fld (pv 0) rfl) (pa_cons (pv 1) pa_nil)))))
      (pss_one (ps_ret (pe_make mk GB hr rfl Bk.gC bB .nil pass0 (by exact (pa_cons (pe_fld (pv 0) rfl) (pa_cons (pe_fld (pv 0) rfl) (pa_cons (pv 1) (pa_cons (pe_fld (pv 0) rfl) (pa_cons (pe_fld (pv 0) rfl) pa_nil))))))))), ?_⟩
    obtain ⟨zs, ⟨dx, st, en, ld, us0, k1, k2, k3, k4, k6, k7⟩, et⟩ := id hb
    rw [et] at k7
    obtain ⟨k, z, dz, hz, hs⟩ := set_told g ht nt hS po
    refine ⟨_, rfl, a, C, dx, _, _, rfl, k1, T.cl, T.na _ (by decide +kernel), rfl, _, rfl, M.n, .ref t, p, k, z, rfl, dz, hz, hs, fun H1 s1 => ?_⟩
    have k1' := s1 _ _ k1
    refine ⟨_, rfl, a, C, dx, _, _, rfl, k1', T.cl, T.na _ (by decide +kernel), rfl, _, rfl, a, C, dx, _, _, rfl, k1', T.cl, T.na _ (by decide +kernel), rfl, _, rfl, _, rfl, a, C, dx, _, _, rfl, k1', T.cl, T.na _ (by decide +kernel), rfl, _, rfl, a, C, dx, _, _, rfl, k1', T.cl, T.na _ (by decide +kernel), rfl, fun x dy hx hdy nd => ?_⟩
    exact make_book (M := { M with S := S }) (us := us0) (g.withS hS) (pot_same s1 hp) hx hdy nd (ht.imp (fun e => s1 _ _ e) (fun e => s1 _ _ e)) nt po (.inr (s1 _ _ k3)) (hp.notTup k3) (.refl _) (.inl (s1 _ _ k6)) (hb.notPot hp) (Paired.imp2 (fun _ _ z => TupAt.same s1 z) k7) (.refl _) fun H' sb s2 f2 bk => q x sb H' (s1.trans s2) (s1.free hx) (s1.free f2) bk
theorem ok_wEnds {f C : Addr} {fd : FuncData} (F : Fun K "with_ends" "Book.with_ends" sWEn f fd) (T : BkT K mg C) (D : Def P w K mg base 5 "check_set" ["size", "some"] spChkSetR) (Bk : BkMk P w K mg base C) : FnOk P w K mg base CX0 7 f fd ["self", "some"] (spWith C fun M S => { M with E := S }) := by
  obtain ⟨fD, fdD, GD, gD, kD, bD⟩ := D.ex
  obtain ⟨fB, fdB, GB, mk, bB, _, _⟩ := Bk.ex
  refine F.ok scWEn (fun vs H Q E h => ?_) (fun cdv A outer s H vs Q E hr h => ?_)
  · obtain ⟨p, a, sd, t, M, o, S, rfl, _⟩ := h
    rfl
  · obtain ⟨p, a, sd, t, M, o, S, rfl, hp, hb, g, ht, nt, hS, po, q⟩ := h
    refine ⟨_, pss_cons (ps_expr (pe_call GD (hr.mono (by decide)) rfl gD kD bD .nil pass0 (by exact (pa_cons (pe_fld (pv 0) rfl) (pa_cons (pv 1) pa_nil)))))
      (pss_one (ps_ret (pe_make mk GB hr rfl Bk.gC bB .nil pass0 (by exact (pa_cons (pe_fld (pv 0) rfl) (pa_cons (pe_fld (pv 0) rfl) (pa_cons (pe_fld (pv 0) rfl) (pa_cons (pv 1) (pa_cons (pe_fld (pv 0) rfl) pa_nil))))))))), ?_⟩
    obtain ⟨zs, ⟨dx, st, en, ld, us0, k1, k2, k3, k4, k6, k7⟩, et⟩ := id hb
    rw [et] at k7
    obtain ⟨k, z, dz, hz, hs⟩ := set_told g ht nt hS po
    refine ⟨_, rfl, a, C, dx, _, _, rfl, k1, T.cl, T.na _ (by decide +kernel), rfl, _, rfl, M.n, .ref t, p, k, z, rfl, dz, hz, hs, fun H1 s1 => ?_⟩
    have k1' := s1 _ _ k1
    refine ⟨_, rfl, a, C, dx, _, _, rfl, k1', T.cl, T.na _ (by decide +kernel), rfl, _, rfl, a, C, dx, _, _, rfl, k1', T.cl, T.na _ (by decide +kernel), rfl, _, rfl, a, C, dx, _, _, rfl, k1', T.cl, T.na _ (by decide +kernel), rfl, _, rfl, _, rfl, a, C, dx, _, _, rfl, k1', T.cl, T.na _ (by decide +kernel), rfl, fun x dy hx hdy nd => ?_⟩
    exact make_book (M := { M with E := S }) (us := us0) (g.withE hS) (pot_same s1 hp) hx hdy nd (.inr (s1 _ _ k2)) (hp.notTup k2) (.refl _) (ht.imp (fun e => s1 _ _ e) (fun e => s1 _ _ e)) nt po (.inl (s1 _ _ k6)) (hb.notPot hp) (Paired.imp2 (fun _ _ z => TupAt.same s1 z) k7) (.refl _) fun H' sb s2 f2 bk => q x sb H' (s1.trans s2) (s1.free hx) (s1.free f2) bk
end
end Lw
set_option Elab.async false
set_option linter.all false
set_option maxRecDepth 100000
set_option maxHeartbeats 4000000
/-! _law_next, _law_come, _law_stops -/
namespace Lw
open PySem PySem.Spec PyProof.Rows L2
abbrev sNext : Stmt := topS 56
abbrev sCome : Stmt := topS 57
abbrev sStops : Stmt := topS 58
abbrev NNext : List Str := ["_law_model_here", "_law_group", "_law_sign", "_law_found", "_law_link"]
abbrev NCome : List Str := ["_law_model_here", "_law_group", "_law_spelt", "_law_found", "_law_sign"]
theorem scNext : FnScope NNext ["_law_model_here", "_law_group", "_law_sign"] (defScope sNext) := ⟨rfl, rfl, rfl, by decide +kernel, rfl, by decide +kernel, by decide +kernel⟩
theorem scCome : FnScope NCome ["_law_model_here", "_law_group", "_law_spelt"] (defScope sCome) := ⟨rfl, rfl, rfl, by decide +kernel, rfl, by decide +kernel, by decide +kernel⟩
theorem scStops : FnScope ["_law_model_here", "_law_group", "_law_state"] ["_law_model_here", "_law_group"] (defScope sStops) := ⟨rfl, rfl, rfl, by decide +kernel, rfl, by decide +kernel, by decide +kernel⟩
theorem sort_intsN {xs : List Int} (nd : xs.Nodup) : ∃ S' : List Int, S'.Perm xs ∧ S'.Pairwise (· < ·) ∧
    ((xs.map fun i => (V.int i, PyData.int i)).mergeSort (PySem.W.dataLe false (fun b : V × PyData => b.2))).map (·.1) = S'.map V.int := by
  have nd2 : ((xs.map fun i => (V.int i, i)).map (·.2)).Nodup := by
    rw [List.map_map, show ((fun x => x.2) ∘ fun i => (V.int i, i)) = (id : Int → Int) from rfl, List.map_id]
    exact nd
  obtain ⟨c', h1, h2, h3⟩ := sort_gen (d := PyData.int) (lt := fun a b : Int => a < b) dataLt_int' (fun x y => by omega) (fun h1 h2 => Int.lt_trans h1 h2) (fun x => Int.lt_irrefl x) nd2
  obtain ⟨S', h4, rfl⟩ := perm_map (f := fun i : Int => (V.int i, i)) h1 rfl
  refine ⟨S', h4, ?_, ?_⟩
  · rw [List.map_map, show ((fun x : V × Int => x.2) ∘ fun i => (V.int i, i)) = (id : Int → Int) from rfl, List.map_id] at h3
    exact h3
  · rw [List.map_map] at h2
    show List.map (·.1) ((xs.map ((fun b : V × Int => (b.1, PyData.int b.2)) ∘ fun i => (V.int i, i))).mergeSort _) = _
    rw [h2, List.map_map, List.map_map]
    rfl
/-- what sorted asks of a list of ints -/
theorem ints_sortable {K : PySem.W.Frag} {H : Hp} {l : Addr} {xs : List Int} (hl : H l = some (.lst (xs.map V.int))) : SqL K H l ((xs.map fun i => (V.int i, PyData.int i)).map (·.1)) ∧ (∀ b ∈ (xs.map fun i => (V.int i, PyData.int i)), Dp K H b.1 b.2) ∧
    PySem.W.AllAlike ((xs.map fun i => (V.int i, PyData.int i)).map (fun b => b.2)) ∧ PySem.W.Sortable ((xs.map fun i => (V.int i, PyData.int i)).map (fun b => b.2)) ∧ ∀ b ∈ (xs.map fun i => (V.int i, PyData.int i)), b.2.depth ≤ 20 := by
  refine ⟨.inl (.inl ?_), fun z hz => ?_, fun x hx y hy => ?_, .inr fun x hx => ?_, fun z hz => ?_⟩
  · rw [List.map_map]
    exact hl
  · obtain ⟨i, _, rfl⟩ := List.mem_map.mp hz
    exact .int i
  · rw [List.map_map] at hx hy
    obtain ⟨i, _, rfl⟩ := List.mem_map.mp hx
    obtain ⟨j, _, rfl⟩ := List.mem_map.mp hy
    simp [PySem.W.alike]
  · rw [List.map_map] at hx
    obtain ⟨i, _, rfl⟩ := List.mem_map.mp hx
    exact ⟨nofun, fun _ => nofun⟩
  · obtain ⟨i, _, rfl⟩ := List.mem_map.mp hz
    simp [PyData.depth]
section
variable {P : Program} {w : World} {K : PySem.W.Frag} {mg : Str → Option Value} {base : Heap}
def spNext : Sp := fun vs H Q _ => ∃ (p m t : Addr) (M : Md) (G : List Int) (c : Nat), vs = [.ref m, .ref t, .str (sgn c)] ∧ MdAt p H m M ∧ M.Good ∧ H t = some (.tup (G.map V.int)) ∧ ∀ l H', Same H H' → H' l = some (.tup ((nxt M.T G c).map V.int)) → Q (.ref l) H'
theorem ok_next {f : Addr} {fd : FuncData} (F : Fun K "_law_next" "_law_next" sNext f fd) (B : Bl mg) (tn : mg "tuple" = none) (sn : mg "set" = none) : FnOk P w K mg base CX0 1 f fd ["_law_model_here", "_law_group", "_law_sign"] spNext := by
  refine F.ok scNext (fun vs H Q E h => ?_) (fun cdv A outer s H vs Q E hr h => ?_)
  · obtain ⟨p, m, t, M, G, c, rfl, _⟩ := h
    rfl
  · obtain ⟨p, m, t, M, G, c, rfl, hm, g, ht, q⟩ := h
    have hu := hu_of hr
    refine ⟨_, pss_cons (ps_set (i := 3) scNext.nd rfl (.inl rfl) (pe_lst pa_nil))
      (pss_cons (ps_for PassesOwn.never rfl (pi_list (pe_dget hu (pv 0) pe_str (fun _ _ => rfl))) (pg_name (i := 4) scNext.nd rfl (.inl rfl))
        (pss_one (ps_if (PW.pt (pw_and (pt_cmpR op_eq (pe_ix ix_tup (pv 4) pe_int (fun _ _ => rfl)) (pv 2) (nomark _)) (pw_and1 (pt_cmpR op_in_seq (pe_ix ix_tup (pv 4) pe_int (fun _ _ => rfl)) (pv 1) (by rfl)))))
          (pss_one (ps_expr (pe_bm PySem.F.plainAttrs_list PySem.F.slot_list_append PySem.F.type_list_append mt_append (pv 3) (pa_cons (pe_ix ix_tup (pv 4) pe_int (fun _ _ => rfl)) pa_nil)))) pss_nil)))
      (pss_one (ps_ret (pe_callTy call_tuple_of (by rfl) tn (by decide +kernel) (by exact (pa_cons (pe_callB (cr_sortedSet rfl) (by rfl) B.sorted (by decide +kernel) (by exact (pa_cons (pe_callTy (cr_setL rfl) (by rfl) sn (by decide +kernel) (by exact (pa_cons (pv 3) pa_nil))) pa_nil))) pa_nil)))))), ?_⟩
    obtain ⟨b, e, l, us, h1, h2, h3, h4, h5, n1, n2, n3⟩ := id hm
    have lu : us.length = M.T.length := by rw [Paired.len h5, List.length_map]
    have lT := g.tlen
    refine ⟨by show 0 ≤ sizeLine; decide, fun D hD => ⟨_, rfl, m, _, rfl, md_links (Same.new' (Same.refl H) hD _ _ h1), l, rfl, ⟨_, .inl (.inl (Same.new' (Same.refl H) hD _ _ h4))⟩, ?_⟩⟩
    refine for_it (walk_list (xs := us)) (fun i σ H' => Same H H' ∧ ∃ (ns : List Int) (u4 : Option V), σ = [some (.ref m), some (.ref t), some (.str (sgn c)), some (.ref D), u4] ∧ H' D = some (.lst (ns.map V.int)) ∧ ns.length ≤ i ∧ ∀ k, k ∈ ns ↔ ∃ x ∈ M.T.take i, x.2.1 = c ∧ x.1 ∈ G ∧ x.2.2 = k)
      ⟨Same.new' (Same.refl H) hD, [], none, rfl, upd_same, Nat.le_refl _, fun k => by simp⟩ (fun i σ H' _ h => .inl (.inl (h.1 _ _ h4))) ?_ ?_
    · rintro i v σ Ha Hb hi ⟨sa, ns, u4, rfl, hn, ln, hk⟩ ⟨rfl, hv⟩
      obtain ⟨x, hx1, hx2, tx, rfl, htx⟩ := zip_at h5 hv
      have gx := sa _ _ htx
      have e1 : ∀ k, (∃ y ∈ M.T.take (i + 1), y.2.1 = c ∧ y.1 ∈ G ∧ y.2.2 = k) ↔ (∃ y ∈ M.T.take i, y.2.1 = c ∧ y.1 ∈ G ∧ y.2.2 = k) ∨ (x.2.1 = c ∧ x.1 ∈ G ∧ x.2.2 = k) := fun k => by
        rw [take_snoc hx1]
        constructor
        · rintro ⟨y, hy, r⟩
          rcases List.mem_append.mp hy with z | z
          · exact .inl ⟨y, z, r⟩
          · rw [List.mem_singleton.mp z] at r
            exact .inr r
        · rintro (⟨y, hy, r⟩ | r)
          · exact ⟨y, List.mem_append_left _ hy, r⟩
          · exact ⟨x, List.mem_append_right _ List.mem_cons_self, r⟩
      refine ⟨_, rfl, tx, trV x, 1, .str (sgn x.2.1), rfl, rfl, .inl (.inl gx), rfl, _, rfl, rfl, _, rfl, ?_⟩
      have no : ¬ (x.2.1 = c ∧ x.1 ∈ G) → Same H Hb ∧ ∃ (ns : List Int) (u4 : Option V), [some (V.ref m), some (.ref t), some (.str (sgn c)), some (.ref D), some (.ref tx)] = [some (.ref m), some (.ref t), some (.str (sgn c)), some (.ref D), u4] ∧ Hb D = some (.lst (ns.map V.int)) ∧ ns.length ≤ i + 1 ∧ ∀ k, k ∈ ns ↔ ∃ x ∈ M.T.take (i + 1), x.2.1 = c ∧ x.1 ∈ G ∧ x.2.2 = k := fun nx =>
        ⟨sa, ns, _, rfl, hn, by omega, fun k => by
          rw [hk, e1]
          exact ⟨.inl, fun z => z.elim id fun r => absurd ⟨r.1, r.2.1⟩ nx⟩⟩
      refine ite2 (fun hc => ?_) (fun hc => no fun r => hc (decide_eq_true (by rw [r.1])))
      have hc := sgn_inj (V.str.inj (of_decide_eq_true hc))
      refine ⟨_, rfl, tx, trV x, 0, .int x.1, rfl, rfl, .inl (.inl gx), rfl, _, rfl, t, G.map V.int, rfl, .inr (.inl (.inl (sa _ _ ht))), rfl, flat_ints G, _, rfl, ?_⟩
      have ei : (if false = true then !inV (.int x.1) (G.map V.int) else inV (.int x.1) (G.map V.int)) = decide (x.1 ∈ G) := by
        rw [← inV_ints]
        rfl
      rw [ei]
      refine ite2 (fun hg => ?_) (fun hg => no fun r => hg (decide_eq_true r.2))
      have hg := of_decide_eq_true hg
      refine ⟨_, rfl, .inl ⟨rfl, _, .inl (.inl hn)⟩, _, rfl, tx, trV x, 2, .int x.2.2, rfl, rfl, .inl (.inl gx), rfl, D, _, _, rfl, rfl, hn, ?_, ?_⟩
      · rw [List.length_map]
        exact Nat.lt_of_le_of_lt (show ns.length ≤ 196 by omega) (by decide)
      · refine ⟨Same.mut' sa hD, ns ++ [x.2.2], _, rfl, by rw [upd_same, List.map_append]; rfl, by rw [List.length_append]; simp; omega, fun k => ?_⟩
        rw [List.mem_append, hk, e1, List.mem_singleton]
        exact ⟨fun z => z.imp id fun r => ⟨hc, hg, r.symm⟩, fun z => z.imp id fun r => r.2.2.symm⟩
    · rintro σ H' ⟨sa, ns, u4, rfl, hn, ln, hk⟩
      rw [List.take_of_length_le (by omega)] at hk
      refine ⟨_, rfl, D, ns, rfl, .inl (.inl hn), by omega, fun p2 c2 hp2 few => ?_⟩
      have few7 : c2 ≤ 7 := few ((List.range 7).map fun i : Nat => (i : Int)) fun k h => by
        obtain ⟨x, hx, _, _, rfl⟩ := (hk k).mp h
        have := (g.tr x hx).2.2
        have h7 := g.n7
        exact List.mem_map.mpr ⟨x.2.2.toNat, List.mem_range.mpr (by omega), by omega⟩
      refine ⟨p2, _, c2, rfl, upd_same, by omega, fun ns2 p3 pw mem _ hp3 => ?_⟩
      have e2 : ns2 = nxt M.T G c := asc_uniq pw nxt_pw fun k => by rw [mem, decide_eq_true_iff, hk, mem_nxt g]
      rw [e2]
      refine ⟨p3, _, rfl, .inl ⟨.inl (.inl upd_same), fun l2 hl2 => q l2 _ (Same.new' (Same.new' (Same.new' sa hp2) hp3) hl2) upd_same⟩⟩
def spCome : Sp := fun vs H Q _ => ∃ (p m t : Addr) (M : Md) (G : List Int) (z : Str), vs = [.ref m, .ref t, .str z] ∧ MdAt p H m M ∧ M.Good ∧ H t = some (.lst (G.map V.int)) ∧ SetOf M G ∧ ∀ l H', Same H H' → H' l = some (.tup ((come M.T G z.cps.toList).map V.int)) → Q (.ref l) H'
theorem ok_come {f : Addr} {fd : FuncData} (F : Fun K "_law_come" "_law_come" sCome f fd) (B : Bl mg) (tn : mg "tuple" = none) (D : Def P w K mg base 1 "_law_next" ["_law_model_here", "_law_group", "_law_sign"] spNext) : FnOk P w K mg base CX0 2 f fd ["_law_model_here", "_law_group", "_law_spelt"] spCome := by
  obtain ⟨fD, fdD, GD, gD, kD, bD⟩ := D.ex
  refine F.ok scCome (fun vs H Q E h => ?_) (fun cdv A outer s H vs Q E hr h => ?_)
  · obtain ⟨p, m, t, M, G, z, rfl, _⟩ := h
    rfl
  · obtain ⟨p, m, t, M, G, z, rfl, hm, g, ht, hG, q⟩ := h
    refine ⟨_, pss_cons (ps_set (i := 3) scCome.nd rfl (.inl rfl) (pe_callTy call_tuple_of (by rfl) tn (by decide +kernel) (by exact (pa_cons (pe_callB (cr_sortV hr) (by rfl) B.sorted (by decide +kernel) (by exact (pa_cons (pv 1) pa_nil))) pa_nil))))
      (pss_cons (ps_for PassesOwn.never rfl (pi_str (pv 2)) (pg_name (i := 4) scCome.nd rfl (.inl rfl)) (pss_one (ps_set (i := 3) scCome.nd rfl (.inl rfl) (pe_call GD hr rfl gD kD bD .nil pass0 (by exact (pa_cons (pv 0) (pa_cons (pv 3) (pa_cons (pv 4) pa_nil))))))))
      (pss_one (ps_ret (pv 3)))), ?_⟩
    obtain ⟨c1, c2, c3, c4, c5⟩ := ints_sortable (K := K) ht
    obtain ⟨S', pm, pw, es⟩ := sort_intsN (xs := G) (hG.pw.imp fun {a b} h => Int.ne_of_lt h)
    have eG : S' = G := asc_uniq pw hG.pw fun k => pm.mem_iff
    rw [eG] at es
    refine ⟨_, rfl, t, _, rfl, c1, c2, c3, c4, c5, fun l1 hl1 => ?_⟩
    rw [es]
    refine ⟨l1, _, rfl, .inl ⟨.inl (.inl upd_same), fun l2 hl2 => ⟨_, rfl, z, rfl, ?_⟩⟩⟩
    refine for_it walk_str (fun i σ H' => Same H H' ∧ ∃ l u4, σ = [some (.ref m), some (.ref t), some (.str z), some (.ref l), u4] ∧ H' l = some (.tup ((come M.T G (z.cps.toList.take i)).map V.int)))
      ⟨Same.new' (Same.new' (Same.refl H) hl1) hl2, l2, none, rfl, upd_same⟩ (fun _ _ _ _ _ => trivial) ?_ ?_
    · rintro i x σ Ha Hb hi ⟨sa, l, u4, rfl, hl⟩ ⟨rfl, c, hc, rfl⟩
      have hc2 : z.cps.toList[i]? = some c := by rw [Array.getElem?_toList]; exact hc
      refine ⟨_, rfl, _, rfl, _, rfl, p, m, l, M, come M.T G (z.cps.toList.take i), c, rfl, MdAt.same sa hm, g, hl, fun l2 H2 s2 g2 => ?_⟩
      refine ⟨sa.trans s2, l2, _, rfl, ?_⟩
      rw [come_snoc hc2]
      exact g2
    · rintro σ H' ⟨sa, l, u4, rfl, hl⟩
      rw [List.take_of_length_le (by simp)] at hl
      exact ⟨_, rfl, q l H' sa hl⟩
def spStops : Sp := fun vs H Q _ => ∃ (p m t : Addr) (M : Md) (G : List Int), vs = [.ref m, .ref t] ∧ MdAt p H m M ∧ M.Good ∧ H t = some (.tup (G.map V.int)) ∧ G.length ≤ 1000 ∧ ∀ H', Same H H' → Q (.bl (ends M G)) H'
theorem ok_stops {f : Addr} {fd : FuncData} (F : Fun K "_law_stops" "_law_stops" sStops f fd) (an : mg "any" = none) : FnOk P w K mg base CX0 1 f fd ["_law_model_here", "_law_group"] spStops := by
  refine F.ok scStops (fun vs H Q E h => ?_) (fun cdv A outer s H vs Q E hr h => ?_)
  · obtain ⟨p, m, t, M, G, rfl, _⟩ := h
    rfl
  · obtain ⟨p, m, t, M, G, rfl, hm, g, ht, lG, q⟩ := h
    refine ⟨_, pss_one (ps_ret (pe_callB (cr_any rfl) (by rfl) an (by decide +kernel) (by exact (pa_cons (pe_lc (own := [("_law_state", 2)]) (g := gName 2) (tt := tYes) (te := tOp (rIn K false) (tVar 2) (tDGet (tVar 0) (tC (.str "finals")))) (by rfl) scStops.nd
        (pi_tup (pv 1)) (blkOk_by (own := [("_law_state", 2)]) (N := ["_law_model_here", "_law_group", "_law_state"]) (sc := defScope sStops) (by decide +kernel)) (fun _ _ _ _ _ => by exact (pg_name (i := 2) scStops.nd rfl (Or.inl rfl))) (fun _ _ _ _ _ => pts_nil)
        (fun _ _ _ _ _ => by exact (pe_cmpR op_in_seq (pv 2) (pe_dget (hu_of hr) (pv 0) pe_str (fun _ _ => rfl)) (by rfl)))) pa_nil)))), ?_⟩
    obtain ⟨b, e, l, us, h1, h2, h3, h4, h5, n1, n2, n3⟩ := id hm
    refine ⟨_, rfl, t, rfl, ⟨_, .inl (.inl ht)⟩, fun D hD => ?_⟩
    refine lc_map walk_tup (fun i => V.bl (decide (G.getD i 0 ∈ M.E))) hD (by rw [List.length_map]; omega) (fun H' s => .inl (.inl (s _ _ ht))) (fun i x Ha Hb Cc Z hi sm y k => ?_) (fun H' sm hD' => ?_)
    · obtain ⟨rfl, hx⟩ := y
      rw [List.getElem?_map] at hx
      obtain ⟨v, hpG, rfl⟩ := Option.map_eq_some_iff.mp hx
      refine ⟨rfl, _, rfl, _, rfl, m, _, rfl, md_finals (sm _ _ h1), e, _, rfl, .inl (.inl (.inl (sm _ _ h3))), rfl, flat_ints M.E, ?_⟩
      have ei : (if false = true then !inV (.int v) (M.E.map V.int) else inV (.int v) (M.E.map V.int)) = decide (G.getD i 0 ∈ M.E) := by
        rw [getD_at hpG, ← inV_ints]
        rfl
      rw [ei]
      exact k _ (Same.refl _)
    · have ee : firsts (fun i => V.bl (decide (G.getD i 0 ∈ M.E))) (G.map V.int).length = (G.map fun x => decide (x ∈ M.E)).map V.bl := by
        rw [List.length_map, firsts_map (fun x => V.bl (decide (x ∈ M.E))) 0, List.map_map]
        rfl
      rw [ee] at hD'
      exact ⟨D, _, rfl, .inl (.inl hD'), q _ sm⟩
end
end Lw
set_option Elab.async false
set_option linter.all false
set_option maxRecDepth 100000
set_option maxHeartbeats 4000000
/-! steps sorted; models made of models -/
namespace Lw
open PySem PySem.Spec PyProof.Rows L2
theorem sort_trsN {us : List V} {T : List Tr} (hl : us.length = T.length) (nd : T.Nodup) {R : V → List V → Prop} (hu : Paired R us (T.map trV)) : ∃ (us' : List V) (T' : List Tr), T'.Perm T ∧ T'.Pairwise trLt ∧ Paired R us' (T'.map trV) ∧
    ((us.zip (T.map trP)).mergeSort (PySem.W.dataLe false (fun b : V × PyData => b.2))).map (fun b => b.1) = us' := by
  have ez : us.zip (T.map trP) = (us.zip T).map fun b => (b.1, trP b.2) := by
    rw [List.zip_map_right]
    rfl
  have e2 : (us.zip T).map (·.2) = T := List.map_snd_zip (by simp [hl])
  have nd2 : ((us.zip T).map (·.2)).Nodup := by rw [e2]; exact nd
  obtain ⟨c', h1, h2, h3⟩ := sort_gen (d := trP) (lt := trLt) dataLt_tr trLt_tri (fun h1 h2 => trLt_trans h1 h2) trLt_irrefl nd2
  have pr : ∀ b ∈ us.zip T, R b.1 (trV b.2) := by
    clear nd2 h1 h2 h3 ez e2 hl nd
    induction us generalizing T with
    | nil => intro b hb; simp at hb
    | cons v vs ih =>
      cases T with
      | nil => cases hu
      | cons y ys =>
        cases hu with
        | cons r1 r2 =>
          intro b hb
          rw [List.zip_cons_cons] at hb
          rcases List.mem_cons.mp hb with e | e
          · subst e; exact r1
          · exact ih r2 b e
  refine ⟨c'.map (·.1), c'.map (·.2), ?_, h3, ?_, ?_⟩
  · have := h1.map (·.2)
    rw [e2] at this
    exact this
  · have pc : ∀ b ∈ c', R b.1 (trV b.2) := fun b hb => pr b (h1.mem_iff.mp hb)
    clear h1 h2 h3
    induction c' with
    | nil => exact .nil
    | cons b r ih => exact .cons (pc b List.mem_cons_self) (ih fun b hb => pc b (List.mem_cons_of_mem _ hb))
  · rw [ez, h2, List.map_map]
    rfl
theorem trs_sortable {K : PySem.W.Frag} {H : Hp} {l : Addr} {us : List V} {T : List Tr} (hl : H l = some (.lst us)) (hu : TrsAt H us T) : SqL K H l ((us.zip (T.map trP)).map (·.1)) ∧ (∀ b ∈ us.zip (T.map trP), Dp K H b.1 b.2) ∧
    PySem.W.AllAlike ((us.zip (T.map trP)).map (fun b => b.2)) ∧ PySem.W.Sortable ((us.zip (T.map trP)).map (fun b => b.2)) ∧ ∀ b ∈ us.zip (T.map trP), b.2.depth ≤ 20 := by
  have lu : us.length = T.length := by rw [Paired.len hu, List.length_map]
  have z1 : (us.zip (T.map trP)).map (·.1) = us := List.map_fst_zip (by rw [List.length_map]; omega)
  have z2 : (us.zip (T.map trP)).map (fun b => b.2) = T.map trP := List.map_snd_zip (by rw [List.length_map]; omega)
  refine ⟨.inl (.inl (by rw [z1]; exact hl)), zip_dp hu, ?_, ?_, fun z hz => ?_⟩
  · rw [z2]
    intro x hx y hy
    obtain ⟨i, _, rfl⟩ := List.mem_map.mp hx
    obtain ⟨j, _, rfl⟩ := List.mem_map.mp hy
    exact alike_tr i j
  · rw [z2]
    refine .inl fun x hx => ?_
    obtain ⟨i, _, rfl⟩ := List.mem_map.mp hx
    exact ⟨_, _, rfl⟩
  · have : z.2 ∈ (us.zip (T.map trP)).map (fun b => b.2) := List.mem_map.mpr ⟨z, hz, rfl⟩
    rw [z2] at this
    obtain ⟨i, _, e⟩ := List.mem_map.mp this
    rw [← e]
    simp [trP, PyData.depth, PyData.depthAll]
/-- what the model with other things is, where the lists of neither are at y -/
def NewM (H H' : Hp) (m m' : Addr) (M M' : Md) : Prop := ∀ y o, H y = some o → MdAt y H m M → MdAt y H' m' M'
end Lw
set_option Elab.async false
set_option linter.all false
set_option maxRecDepth 100000
set_option maxHeartbeats 4000000
/-! rows read along and against: books turned about and cut -/
namespace Lw
open PySem PySem.Spec PyProof.Rows L2
/-- a way by a row -/
def Pth (T : List Tr) : Int → List Nat → Int → Prop
  | p, [], q => p = q
  | p, c :: cs, q => ∃ r, ((p, c, r) : Tr) ∈ T ∧ Pth T r cs q
theorem pth_app {T : List Tr} : ∀ {cs ds : List Nat} {p q : Int}, Pth T p (cs ++ ds) q ↔ ∃ r, Pth T p cs r ∧ Pth T r ds q
  | [], ds, p, q => ⟨fun h => ⟨p, rfl, h⟩, fun ⟨r, e, h⟩ => by cases e; exact h⟩
  | c :: cs, ds, p, q => by
    constructor
    · rintro ⟨r, h1, h2⟩
      obtain ⟨t, h3, h4⟩ := pth_app.mp h2
      exact ⟨t, ⟨r, h1, h3⟩, h4⟩
    · rintro ⟨t, ⟨r, h1, h3⟩, h4⟩
      exact ⟨r, h1, pth_app.mpr ⟨t, h3, h4⟩⟩
def flip (x : Tr) : Tr := (x.2.2, x.2.1, x.1)
theorem flip_flip (x : Tr) : flip (flip x) = x := rfl
theorem pth_flip {T T' : List Tr} (h : ∀ x, x ∈ T' ↔ flip x ∈ T) : ∀ {cs : List Nat} {p q : Int}, Pth T' q cs.reverse p ↔ Pth T p cs q
  | [], p, q => ⟨fun e => e.symm, fun e => e.symm⟩
  | c :: cs, p, q => by
    rw [List.reverse_cons, pth_app]
    constructor
    · rintro ⟨r, h1, s, h2, e⟩
      cases e
      exact ⟨r, (h _).mp h2, (pth_flip h).mp h1⟩
    · rintro ⟨r, h1, h2⟩
      exact ⟨r, (pth_flip h).mpr h2, p, (h (r, c, p)).mpr h1, rfl⟩
theorem come_mem {M : Md} (g : M.Good) : ∀ {cs : List Nat} {G : List Int} {q : Int}, q ∈ come M.T G cs ↔ ∃ p ∈ G, Pth M.T p cs q
  | [], G, q => ⟨fun h => ⟨q, h, rfl⟩, fun ⟨p, h, e⟩ => by cases e; exact h⟩
  | c :: cs, G, q => by
    show q ∈ come M.T (nxt M.T G c) cs ↔ _
    rw [come_mem g]
    constructor
    · rintro ⟨r, h1, h2⟩
      obtain ⟨⟨x1, x2, x3⟩, hx, rfl, h3, rfl⟩ := (mem_nxt g).mp h1
      exact ⟨x1, h3, x3, hx, h2⟩
    · rintro ⟨p, h1, r, h2, h3⟩
      exact ⟨r, (mem_nxt g).mpr ⟨_, h2, rfl, h1, rfl⟩, h3⟩
theorem ends_iff {M : Md} {G : List Int} : ends M G = true ↔ ∃ q ∈ G, q ∈ M.E := by
  unfold ends
  rw [List.any_eq_true]
  constructor
  · rintro ⟨b, hb, e⟩
    obtain ⟨q, hq, rfl⟩ := List.mem_map.mp hb
    exact ⟨q, hq, of_decide_eq_true e⟩
  · rintro ⟨q, h1, h2⟩
    exact ⟨true, List.mem_map.mpr ⟨q, h1, decide_eq_true h2⟩, rfl⟩
/-- the states from which a step by the letter leads to one of these -/
def prv (T : List Tr) (n : Int) (R : List Int) (c : Nat) : List Int := ((List.range n.toNat).map fun i : Nat => (i : Int)).filter fun k => T.any fun x => decide (x.2.1 = c) && decide (x.1 = k) && decide (x.2.2 ∈ R)
theorem prv_set {M : Md} {R : List Int} {c : Nat} : SetOf M (prv M.T M.n R c) := by
  refine ⟨?_, fun k hk => ?_⟩
  · unfold prv
    refine List.Pairwise.filter _ ?_
    rw [List.pairwise_map]
    exact List.pairwise_lt_range.imp fun {a b} h => by show ((a : Nat) : Int) < (b : Nat); omega
  · obtain ⟨i, hi, rfl⟩ := List.mem_map.mp (List.mem_filter.mp hk).1
    have := List.mem_range.mp hi
    omega
theorem mem_prv {M : Md} (g : M.Good) {R : List Int} {c : Nat} {k : Int} : k ∈ prv M.T M.n R c ↔ ∃ q ∈ R, ((k, c, q) : Tr) ∈ M.T := by
  unfold prv
  simp only [List.mem_filter, List.mem_map, List.mem_range, List.any_eq_true, Bool.and_eq_true, decide_eq_true_eq]
  constructor
  · rintro ⟨_, ⟨x1, x2, x3⟩, hx, ⟨rfl, rfl⟩, h3⟩
    exact ⟨x3, h3, hx⟩
  · rintro ⟨q, h1, h2⟩
    have := (g.tr _ h2).1
    exact ⟨⟨k.toNat, by omega, by omega⟩, _, h2, ⟨rfl, rfl⟩, h1⟩
/-- the states that read a row -/
def back (T : List Tr) (n : Int) (E : List Int) (cs : List Nat) : List Int := cs.foldr (fun c R => prv T n R c) E
theorem back_mem {M : Md} (g : M.Good) {E : List Int} : ∀ {cs : List Nat} {p : Int}, p ∈ back M.T M.n E cs ↔ ∃ q ∈ E, Pth M.T p cs q
  | [], p => ⟨fun h => ⟨p, h, rfl⟩, fun ⟨q, h, e⟩ => by cases e; exact h⟩
  | c :: cs, p => by
    show p ∈ prv M.T M.n (back M.T M.n E cs) c ↔ _
    rw [mem_prv g]
    constructor
    · rintro ⟨r, h1, h2⟩
      obtain ⟨q, h3, h4⟩ := (back_mem g).mp h1
      exact ⟨q, h3, r, h2, h4⟩
    · rintro ⟨q, h3, r, h2, h4⟩
      exact ⟨r, (back_mem g).mpr ⟨q, h3, h4⟩, h2⟩
theorem back_set {M : Md} {E : List Int} (h : SetOf M E) : ∀ {cs : List Nat}, SetOf M (back M.T M.n E cs)
  | [] => h
  | _ :: _ => prv_set
theorem back_app (T : List Tr) (n : Int) (E : List Int) (cs ds : List Nat) : back T n E (cs ++ ds) = back T n (back T n E ds) cs := by
  unfold back
  rw [List.foldr_append]
theorem come_app (T : List Tr) (G : List Int) (cs ds : List Nat) : come T G (cs ++ ds) = come T (come T G cs) ds := by
  unfold come
  rw [List.foldl_append]
theorem end_set {M : Md} (g : M.Good) : SetOf M M.E := ⟨g.e, g.er⟩
/-- the model with other starts; with other ends -/
def cutS (M : Md) (cs : List Nat) : Md := { M with S := come M.T M.S cs }
def cutE (M : Md) (cs : List Nat) : Md := { M with E := back M.T M.n M.E cs }
theorem cutS_good {M : Md} (g : M.Good) (cs : List Nat) : (cutS M cs).Good := g.withS (come_set g (start_set g))
theorem cutE_good {M : Md} (g : M.Good) (cs : List Nat) : (cutE M cs).Good := g.withE (back_set (end_set g))
theorem cutS_cutS (M : Md) (cs ds : List Nat) : cutS (cutS M cs) ds = cutS M (cs ++ ds) := by
  unfold cutS
  rw [come_app]
theorem cutE_cutE (M : Md) (cs ds : List Nat) : cutE (cutE M cs) ds = cutE M (ds ++ cs) := by
  unfold cutE
  rw [back_app]
theorem cutS_cutE (M : Md) (cs ds : List Nat) : cutS (cutE M cs) ds = cutE (cutS M ds) cs := rfl
theorem cutS_nil (M : Md) : cutS M [] = M := rfl
theorem cutE_nil (M : Md) : cutE M [] = M := rfl
/-- whether the book reads a row -/
def rdsM (M : Md) (cs : List Nat) : Bool := ends M (come M.T M.S cs)
theorem rdsM_iff {M : Md} (g : M.Good) {cs : List Nat} : rdsM M cs = true ↔ ∃ p ∈ M.S, ∃ q ∈ M.E, Pth M.T p cs q := by
  unfold rdsM
  rw [ends_iff]
  constructor
  · rintro ⟨q, h1, h2⟩
    obtain ⟨p, h3, h4⟩ := (come_mem g).mp h1
    exact ⟨p, h3, q, h2, h4⟩
  · rintro ⟨p, h3, q, h2, h4⟩
    exact ⟨q, (come_mem g).mpr ⟨p, h3, h4⟩, h2⟩
theorem rds_cutS (M : Md) (cs ds : List Nat) : rdsM (cutS M cs) ds = rdsM M (cs ++ ds) := by
  unfold rdsM
  rw [come_app]
  rfl
theorem rds_cutE {M : Md} (g : M.Good) (cs ds : List Nat) : rdsM (cutE M cs) ds = rdsM M (ds ++ cs) := by
  rw [Bool.eq_iff_iff, rdsM_iff (cutE_good g cs), rdsM_iff g]
  constructor
  · rintro ⟨p, h1, r, h2, h3⟩
    obtain ⟨q, h4, h5⟩ := (back_mem g).mp h2
    exact ⟨p, h1, q, h4, pth_app.mpr ⟨r, h3, h5⟩⟩
  · rintro ⟨p, h1, q, h4, h5⟩
    obtain ⟨r, h3, h6⟩ := pth_app.mp h5
    exact ⟨p, h1, r, (back_mem g).mpr ⟨q, h4, h6⟩, h3⟩
/-- M' is M turned about -/
structure Turn (M M' : Md) : Prop where
  l : M'.L = M.L
  n : M'.n = M.n
  s : M'.S = M.E
  e : M'.E = M.S
  t : M'.T.Perm (M.T.map flip)
  g : M'.Good
theorem Turn.mem {M M' : Md} (h : Turn M M') (x : Tr) : x ∈ M'.T ↔ flip x ∈ M.T := by
  rw [h.t.mem_iff, List.mem_map]
  constructor
  · rintro ⟨y, hy, rfl⟩
    exact hy
  · intro hx
    exact ⟨flip x, hx, flip_flip x⟩
theorem trs_uniq {T T' : List Tr} (h1 : T.Pairwise trLt) (h2 : T'.Pairwise trLt) (h : ∀ x, x ∈ T ↔ x ∈ T') : T = T' := by
  have nd : ∀ {l : List Tr}, l.Pairwise trLt → l.Nodup := fun hl => hl.imp fun {a b} q e => by subst e; exact trLt_irrefl _ q
  exact List.Perm.eq_of_pairwise (le := trLt) (fun a b _ _ h1 h2 => absurd (trLt_trans h1 h2) (trLt_irrefl _)) h1 h2 ((List.perm_ext_iff_of_nodup (nd h1) (nd h2)).mpr h)
theorem md_ext {M M' : Md} (h1 : M.L = M'.L) (h2 : M.n = M'.n) (h3 : M.S = M'.S) (h4 : M.E = M'.E) (h5 : M.T = M'.T) : M = M' := by
  obtain ⟨a, b, c, d, e⟩ := M
  obtain ⟨a', b', c', d', e'⟩ := M'
  cases h1; cases h2; cases h3; cases h4; cases h5
  rfl
theorem Turn.uniq {M M' M'' : Md} (h : Turn M M') (k : Turn M M'') : M' = M'' :=
  md_ext (h.l.trans k.l.symm) (h.n.trans k.n.symm) (h.s.trans k.s.symm) (h.e.trans k.e.symm) (trs_uniq h.g.t k.g.t fun x => (h.mem x).trans (k.mem x).symm)
theorem Turn.symm {M M' : Md} (g : M.Good) (h : Turn M M') : Turn M' M := by
  refine ⟨h.l.symm, h.n.symm, h.e.symm, h.s.symm, ?_, g⟩
  have := h.t.map flip
  rw [List.map_map, show (flip ∘ flip : Tr → Tr) = id from rfl, List.map_id] at this
  exact this.symm
theorem Turn.rds {M M' : Md} (g : M.Good) (h : Turn M M') (cs : List Nat) : rdsM M' cs.reverse = rdsM M cs := by
  rw [Bool.eq_iff_iff, rdsM_iff h.g, rdsM_iff g, h.s, h.e]
  constructor
  · rintro ⟨q, h1, p, h2, h3⟩
    exact ⟨p, h2, q, h1, (pth_flip h.mem).mp h3⟩
  · rintro ⟨p, h2, q, h1, h3⟩
    exact ⟨q, h1, p, h2, (pth_flip h.mem).mpr h3⟩
/-- ~(row >> book) is ~book << turned row -/
theorem turn_cutS {M M' : Md} (g : M.Good) (h : Turn M M') (cs : List Nat) : Turn (cutS M cs) (cutE M' cs.reverse) := by
  refine ⟨h.l, h.n, h.s, ?_, h.t, cutE_good h.g _⟩
  show back M'.T M'.n M'.E cs.reverse = come M.T M.S cs
  have b := back_set (M := M') (E := M'.E) (end_set h.g) (cs := cs.reverse)
  refine asc_uniq b.pw (come_set g (start_set g)).pw fun k => ?_
  rw [back_mem h.g, come_mem g, h.e]
  exact ⟨fun ⟨p, h1, h2⟩ => ⟨p, h1, (pth_flip h.mem).mp h2⟩, fun ⟨p, h1, h2⟩ => ⟨p, h1, (pth_flip h.mem).mpr h2⟩⟩
theorem turn_cutE {M M' : Md} (g : M.Good) (h : Turn M M') (cs : List Nat) : Turn (cutE M cs) (cutS M' cs.reverse) := by
  have k := turn_cutS h.g (h.symm g) cs.reverse
  rw [List.reverse_reverse] at k
  exact k.symm (cutS_good h.g _)
theorem flip_good {M : Md} (g : M.Good) {T : List Tr} (h : ∀ x ∈ T, x ∈ M.T.map flip) : ∀ x ∈ T, TrOf M x := fun x hx => by
  obtain ⟨y, hy, rfl⟩ := List.mem_map.mp (h x hx)
  have := g.tr y hy
  exact ⟨⟨this.2.2.1, this.2.2.2⟩, this.2.1, this.1.1, this.1.2⟩
theorem flip_nodup {M : Md} (g : M.Good) : (M.T.map flip).Nodup := by
  rw [List.nodup_iff_pairwise_ne, List.pairwise_map]
  refine g.t.imp fun {a b} h e => ?_
  have : a = b := by rw [← flip_flip a, e, flip_flip]
  subst this
  exact trLt_irrefl _ h
theorem turn_of {M : Md} (g : M.Good) {T' : List Tr} (pw : T'.Pairwise trLt) (pm : T'.Perm (M.T.map flip)) : Turn M ⟨M.L, M.n, M.E, M.S, T'⟩ :=
  ⟨rfl, rfl, rfl, rfl, pm, ⟨g.l, g.n1, g.n7, g.e, g.er, g.s, g.sr, pw, flip_good g fun x hx => pm.mem_iff.mp hx⟩⟩
/-- the states that read a row, one by one -/
theorem back_filter {M : Md} (g : M.Good) (cs : List Nat) : back M.T M.n M.E cs = ((List.range M.n.toNat).map fun i : Nat => (i : Int)).filter fun k => ends M (come M.T [k] cs) := by
  have pw : (((List.range M.n.toNat).map fun i : Nat => (i : Int)).filter fun k => ends M (come M.T [k] cs)).Pairwise (· < ·) := by
    refine List.Pairwise.filter _ ?_
    rw [List.pairwise_map]
    exact List.pairwise_lt_range.imp fun {a b} h => by show ((a : Nat) : Int) < (b : Nat); omega
  refine asc_uniq (back_set (end_set g)).pw pw fun k => ?_
  rw [back_mem g, List.mem_filter, ends_iff]
  constructor
  · rintro ⟨q, h1, h2⟩
    have hk := (back_set (M := M) (end_set g) (cs := cs)).r k ((back_mem g).mpr ⟨q, h1, h2⟩)
    exact ⟨List.mem_map.mpr ⟨k.toNat, List.mem_range.mpr (by omega), by omega⟩, q, (come_mem g).mpr ⟨k, List.mem_singleton.mpr rfl, h2⟩, h1⟩
  · rintro ⟨_, q, h1, h2⟩
    obtain ⟨p, hp, h3⟩ := (come_mem g).mp h1
    rw [List.mem_singleton.mp hp] at h3
    exact ⟨q, h2, h3⟩
end Lw
set_option Elab.async false
set_option linter.all false
set_option maxRecDepth 100000
set_option maxHeartbeats 4000000
/-! an operator by the right side's own method; ~x -/
namespace Lw
open PySem PySem.Spec PyProof.Rows L2
section
variable {P : Program} {w : World} {A : Around} {E : Value → Shared → Prop} {s : Shared} {K : PySem.W.Frag} {x C L f : Addr} {ox : Obj} {od : Option Obj}
theorem fills_R {M : Model} {h : Heap} {nm : String} {cd : ClassData} {rest : List Value} (X : K.In h) (hc : PySem.W.clsIn K C = some cd) (hm : cd.mro = .ref C :: rest) (h0 : PySem.W.findIn K (.ref C) (PySem.dunder nm) = some none) (hs : PySem.W.findIn K (.ref C) (dunderR nm) = some (some (.ref f))) :
    PySem.W.Looks M h (fillsNumberSlot (.ref C) nm) true := by
  intro A Q E s k q
  unfold fillsNumberSlot
  refine wpAny_bind ((PySem.W.looks_clsIn X hc).andThen (f := fun cd => pure cd.mro) .now A _ E s k ?_)
  rw [hm, List.anyM_cons]
  refine wpAny_bind ?_
  show wpAny M A (List.anyM _ [PySem.dunder nm, dunderR nm]) _ _ _
  rw [List.anyM_cons, List.anyM_cons]
  refine wpAny_bind (wpAny_bind (PySem.W.looks_findIn X h0 A _ E s k ?_))
  refine wpAny_pure ?_
  simp only [Bool.false_eq_true, if_false]
  refine wpAny_bind (wpAny_bind (PySem.W.looks_findIn X hs A _ E s k ?_))
  dsimp only
  rw [if_pos (show (!ownNameWrapper (.ref f) (dunderR nm)) = true from rfl)]
  refine wpAny_pure ?_
  rw [if_pos rfl]
  refine wpAny_pure ?_
  rw [if_pos rfl]
  exact wpAny_pure q
/-- a op x, by x's own reflected method -/
theorem rbin_looks {op : Operator} {a : Value} {T : String} {Q : Value → Shared → Prop} (kin : K.In s.heap) (J : PySem.W.InstAt s.heap x ox C od) (ta : typeOf a = pure (.type T)) (sf : PySem.W.selfFirst K C = true)
    (a1 : PySem.W.findIn K (.ref C) (PySem.dunder op.info.2) = some none) (a2 : PySem.W.findIn K (.ref C) (dunderR op.info.2) = some (some (.ref f))) (fn : PySem.W.isFn K (.ref f) = true)
    (b1 : PySem.W.findIn K (.type T) (PySem.dunder op.info.2) = some none) (b2 : PySem.W.findIn K (.type T) (dunderR op.info.2) = some none)
    (go : wpAny (model P w) A (call (.ref f) [.ref x, a]) (PySem.W.CmpBack Q) E s) : wpAny (model P w) A (binaryOp op a (.ref x)) Q E s := by
  obtain ⟨cd, rest, hcd, hm⟩ := PySem.W.ksp_first sf
  rcases ei : op.info with ⟨sym, nm⟩
  rw [ei] at a1 a2 b1 b2
  dsimp only at a1 a2 b1 b2
  have tried := PySem.W.ksp_try kin J a2 fn go
  obtain ⟨hh, gg, dr, tt, os⟩ := s
  have y1 : PySem.W.Looks (model P w) hh (typeOf (.ref x)) (.ref C) := J.type
  have y2 : PySem.W.Looks (model P w) hh (typeOf a) (.type T) := PySem.W.Looks.of_pure ta
  have y3 : PySem.W.Looks (model P w) hh (fillsNumberSlot (.ref C) nm) true := fills_R kin hcd hm a1 a2
  have y4 : PySem.W.Looks (model P w) hh (fillsNumberSlot (.type T) nm) false := PySem.W.ksp_fillsT (M := model P w) (nm := nm) kin b1 b2
  have dif : (Value.type T == Value.ref C) = false := by
    rw [Bool.eq_false_iff]
    intro q
    cases beq_iff_eq.mp q
  simp only [binaryOp, ei]
  refine wpAny_holding (wpAny_bind ?_)
  unfold binaryOp1
  refine wpAny_bind (y2.at (wpAny_bind (y1.at (wpAny_bind (y4.at ?_)))))
  simp only [dif, Bool.false_eq_true, if_false]
  ksp_lk
  refine wpAny_mono tried (fun r s2 z => ?_) fun _ _ e => e
  obtain ⟨v, rfl, hq⟩ := z
  ksp_lk
  exact hq
end
section
variable {X : Cx} {CX : CXT} {k : Nat} {f C : Addr} {fd : FuncData} {ps : List Str} {sp : Sp} {E : XK} {pins : List (Addr × Obj)} {σ : L2.St} {H : Hp} {s : Shared}
/-- what the class tells of an operator whose left side is a text -/
structure BinRM (K : PySem.W.Frag) (C : Addr) (nm : String) (f : Addr) (fd : FuncData) (ps : List Str) : Prop where
  at_ : PySem.W.findIn K (.ref C) (dunderR nm) = some (some (.ref f))
  no : PySem.W.findIn K (.ref C) (PySem.dunder nm) = some none
  fn : PySem.W.isFn K (.ref f) = true
  b : Binds K fd ps []
  first : PySem.W.selfFirst K C = true
  t1 : PySem.W.findIn K (.type "str") (PySem.dunder nm) = some none
  t2 : PySem.W.findIn K (.type "str") (dunderR nm) = some none
def rBinR (C : Addr) (sp : Sp) (E : XK) : R2 := fun x y H Q => (∃ z, x = .str z) ∧ IsIns H C y ∧ sp [y, x] H (fun v H' => (∃ b, v = .ref b) ∧ Q v H') E
theorem op_binR {op : Operator} (F : FnOk X.prog X.w X.K X.mg X.base CX k f fd ps sp) (M : BinRM X.K C op.info.2 f fd ps) (hx : Passes CX X.nox E) (hr : Room k X.A) : OpR X (binaryOp op) (rBinR C sp E) := by
  intro pins s σ H x y v u Q I rx ry hq
  obtain ⟨⟨z, rfl⟩, hi, hsp⟩ := hq
  have rx0 := rx
  obtain ⟨t, rfl⟩ := rx
  obtain ⟨a, ox, od, rfl, J⟩ := hi.at_ I ry
  refine rbin_looks I.kIn J (T := "str") rfl M.first M.no M.at_ M.fn M.t1 M.t2 ?_
  refine wpAny_mono (own_call F M.b hx (sub_here hr) I (.cons ry (.cons rx0 .nil)) hsp) (fun r s' z => ?_) fun _ _ z => z
  obtain ⟨z, H', I', rz, ⟨b, rfl⟩, q⟩ := z
  cases rz
  exact ⟨.ref b, H', I', rfl, q⟩
/-- x op z, z a text -/
def rBinS (C : Addr) (sp : Sp) (E : XK) : R2 := fun x y H Q => IsIns H C x ∧ (∃ z, y = .str z) ∧ sp [x, y] H (fun v H' => (∃ b, v = .ref b) ∧ Q v H') E
theorem op_binS {op : Operator} (F : FnOk X.prog X.w X.K X.mg X.base CX k f fd ps sp) (M : BinM X.K C op.info.2 "str" f fd ps) (hx : Passes CX X.nox E) (hr : Room k X.A) : OpR X (binaryOp op) (rBinS C sp E) := by
  intro pins s σ H x y v u Q I rx ry hq
  obtain ⟨hi, ⟨z, rfl⟩, hsp⟩ := hq
  obtain ⟨a, ox, od, rfl, J⟩ := hi.at_ I rx
  have ry0 := ry
  obtain ⟨t, rfl⟩ := ry
  obtain ⟨fo, h1⟩ := M.t1
  obtain ⟨ro, h2⟩ := M.t2
  refine bin_looks I.kIn J (PySem.W.Looks.of_pure rfl) M.first M.at_ M.fn M.r h1 h2 M.sub ?_
  refine wpAny_mono (own_call F M.b hx (sub_here hr) I (.cons rx (.cons ry0 .nil)) hsp) (fun r s' z => ?_) fun _ _ z => z
  obtain ⟨z, H', I', rz, ⟨b, rfl⟩, q⟩ := z
  cases rz
  exact ⟨.ref b, H', I', rfl, q⟩
/-- ~x -/
theorem un_invI (F : FnOk X.prog X.w X.K X.mg X.base CX k f fd ps sp) (M : OwnM X.K C "__invert__" f fd ps) (hx : Passes CX X.nox E) (hr : Room k X.A) : UnR X (unaryOp .Invert) (fun x H Q => IsIns H C x ∧ sp [x] H Q E) := by
  intro pins s σ H x v Q I rx hq
  obtain ⟨hi, hsp⟩ := hq
  obtain ⟨a, ox, od, rfl, J⟩ := hi.at_ I rx
  obtain ⟨m, hF⟩ := I.fr
  refine PySem.W.ksp_inv hF I.ok.mod.kin J M.at_ M.fn (wpAny_mono (own_call F M.b hx (sub_here hr) I (.cons rx .nil) hsp) (fun r s' z => z) fun _ _ z => z)
end
end Lw
set_option Elab.async false
set_option linter.all false
set_option maxRecDepth 100000
set_option maxHeartbeats 4000000
/-! z[::-1], z a text -/
namespace Lw
open PySem PySem.Spec PyProof.Rows L2
theorem revS_pick (z : Str) : (Builtin.Str.strSliceIndices none none (-1) z.length).filterMap (z.cps[·]?) = z.cps.toList.reverse := by
  show (sliceRange ((z.cps.size : Int) - 1) (-1) (-1)).filterMap (z.cps[·]?) = _
  rw [PySem.W.krv_sliceRange, PySem.W.krv_range, List.filterMap_reverse, PySem.W.krv_all]
def revStr (z : Str) : Str := ⟨z.cps.toList.reverse.toArray⟩
section
variable {X : Cx}
def tRevS (te : TE) : TE := fun σ H Q => te σ H fun x H1 => ∃ z, x = .str z ∧ z.length ≤ sizeLine ∧ Q (.str (revStr z)) H1
theorem pe_revS {e : Expr} {te : TE} {k : Nat} {p1 p2 p3 pos : Pos} (he : PE X e te) : PE X (.Subscript e (.Slice none none (some (.UnaryOp .USub (.Constant (.int 1) k p1) p2)) p3) pos) (tRevS te) := by
  refine ⟨fun pins s σ H Q I h => ?_⟩
  refine Subscript_ (thn (he.run pins s σ H _ I h) fun v s1 ⟨x, H1, I1, r1, q1⟩ => ?_)
  obtain ⟨z, ex, hz, q⟩ := q1
  subst ex
  obtain ⟨t, rfl⟩ := r1
  have st : PO X (some (.UnaryOp .USub (.Constant (.int 1) k p1) p2)) (tPart (tUn (rU fun i => .int (-i)) (tC (.int 1)))) := po_some (pe_un un_neg pe_int)
  refine wpAny_Slice (thn (po_none.run pins s1 σ H1 (fun o H2 => o = none ∧ H2 = H1) I1 ⟨rfl, rfl⟩) fun vl s2 ⟨l, H2, I2, pl, el, e2⟩ => ?_)
  subst el e2
  refine thn (po_none.run pins s2 σ H2 (fun o H3 => o = none ∧ H3 = H2) I2 ⟨rfl, rfl⟩) fun vu s3 ⟨u, H3, I3, pu, eu, e3⟩ => ?_
  subst eu e3
  refine thn (st.run pins s3 σ H3 (fun o H4 => o = some (-1) ∧ H4 = H3) I3 ⟨1, rfl, -1, rfl, rfl, rfl⟩) fun vs s4 ⟨o, H4, I4, ps, eo, e4⟩ => ?_
  subst eo e4
  have I5 : Inv X pins σ H4 { s4 with heap := s4.heap.push { cls := .type "slice", data := .fields #[vl, vu, vs] } } := I4.kept (t' := s4.toks) fun b ob q => Heap.get?_push_of_some _ q
  obtain ⟨l', rfl, hl'⟩ := IsPart.raw pl
  obtain ⟨u', rfl, hu'⟩ := IsPart.raw pu
  obtain ⟨k', rfl, hk'⟩ := IsPart.raw ps
  have el : l' = none := by cases l' with | none => rfl | some _ => cases hl'
  have eu : u' = none := by cases u' with | none => rfl | some _ => cases hu'
  subst el eu
  obtain ⟨tk, rfl⟩ : ∃ tk, k' = some (-1, tk) := by
    cases k' with
    | none => cases hk'
    | some p =>
      obtain ⟨i, tk⟩ := p
      have : i = -1 := Option.some.inj hk'
      exact ⟨tk, by rw [this]⟩
  show wpAny (model X.prog X.w) X.A (subscriptTail e (.Slice none none (some (.UnaryOp .USub (.Constant (.int 1) k p1) p2)) p3) (.str z t) (.ref s4.heap.objs.size)) (EP X pins σ Q) X.xe _
  refine tail_any (ops := [.str z t, .ref s4.heap.objs.size]) (typeIs_str _ _ _) PySem.F.slot_str_getitem.lookup ?_ (by with_unfolding_all rfl)
  refine wpAny_getItem_str_slice (l := none) (u := none) (st := some (-1, tk)) ⟨_, Heap.get?_push_size _ rfl, rfl, rfl⟩ rfl ?_
  have hl : (revStr z).length ≤ sizeLine := by
    show (z.cps.toList.reverse.toArray).size ≤ sizeLine
    rw [List.size_toArray, List.length_reverse, Array.length_toList]
    exact hz
  show Made.post (if ((-1 : Int) == 1 && (Builtin.Str.strSliceIndices none none (-1) z.length).length == z.length) = true then Made.val (.str z t)
    else Made.str ⟨((Builtin.Str.strSliceIndices none none (-1) z.length).filterMap (z.cps[·]?)).toArray⟩) (EP X pins σ Q) _
  rw [if_neg (by simp), revS_pick]
  exact ⟨hl, .str (revStr z), H4, I5.tok _, ⟨_, rfl⟩, q⟩
end
end Lw
set_option Elab.async false
set_option linter.all false
/-! a comprehension within a comprehension -/
namespace Lw
open PySem PySem.Spec PyProof.Rows L2
theorem lookup_rel (c : Str → NameKind → Bool) (x : Str) : ∀ l : List (Str × NameKind), (l.lookup x = some .cell ∨ l.lookup x = some .free) →
    (l.map fun (n, k) => if (k == NameKind.free && c n k) = true then (n, NameKind.cell) else (n, k)).lookup x = some .cell ∨ (l.map fun (n, k) => if (k == NameKind.free && c n k) = true then (n, NameKind.cell) else (n, k)).lookup x = some .free
  | [], h => by simp at h
  | (n, k) :: l, h => by
    have ih := lookup_rel c x l
    by_cases e : x = n
    · subst e
      simp only [List.lookup_cons, beq_self_eq_true, ite_true, Option.some.injEq] at h
      simp only [List.map_cons]
      split <;> simp_all
    · have e' : (x == n) = false := by simpa using e
      simp only [List.lookup_cons, e'] at h
      simp only [List.map_cons]
      split <;> simpa [List.lookup_cons, e'] using ih h
theorem blkOk_rel {N : List Str} {sc scope : Scope} {own : List (Str × Nat)} (env : Env) (h : BlkOk N sc scope own) : BlkOk N (relabel sc env) scope own :=
  ⟨h.kind, h.uniq, h.ix, fun y hy e => by
    have := lookup_rel (fun n _ => (env.scope.kind == ScopeKind.function && env.kindOf n == some NameKind.cell)) y.fst sc.names (h.free y hy e)
    simp only [relabel]
    simpa [Bool.and_assoc] using this, h.own⟩
end Lw
set_option Elab.async false
set_option linter.all false
set_option maxRecDepth 100000
set_option maxHeartbeats 4000000
/-! books.py: a book turned about, cut -/
namespace Lw
open PySem PySem.Spec PyProof.Rows L2
abbrev sInv : Stmt := inClass cBook 22
abbrev sRsh : Stmt := inClass cBook 23
abbrev sLsh : Stmt := inClass cBook 24
abbrev sAhd : Stmt := inClass cBook 35
abbrev sRal : Stmt := inClass cBook 36
abbrev NInv : List Str := ["self", "turned", "before", "letter", "behind"]
theorem scInv : FnScope NInv ["self"] (defScope sInv) := ⟨rfl, rfl, rfl, by decide +kernel, rfl, by decide +kernel, by decide +kernel⟩
theorem scRsh : FnScope ["self", "other"] ["self", "other"] (defScope sRsh) := ⟨rfl, rfl, rfl, by decide +kernel, rfl, by decide +kernel, by decide +kernel⟩
theorem scLsh : FnScope ["self", "other"] ["self", "other"] (defScope sLsh) := ⟨rfl, rfl, rfl, by decide +kernel, rfl, by decide +kernel, by decide +kernel⟩
abbrev NAhd : List Str := ["self", "states", "letter", "state", "behind"]
theorem scAhd : FnScope NAhd ["self", "states", "letter"] (defScope sAhd) := ⟨rfl, rfl, rfl, by decide +kernel, rfl, by decide +kernel, by decide +kernel⟩
def callArg : Expr → Expr
  | .Call _ (e :: _) _ _ => e
  | e => e
/-- the scope of the outer comprehension -/
def scAhdC : Scope := compSc (callArg (bodyRet (defBody sAhd)))
theorem scRal : FnScope ["self", "row", "readers", "letter"] ["self", "row"] (defScope sRal) := ⟨rfl, rfl, rfl, by decide +kernel, rfl, by decide +kernel, by decide +kernel⟩
section
variable {P : Program} {w : World} {K : PySem.W.Frag} {mg : Str → Option Value} {base : Heap}
def spInv (C : Addr) : Sp := fun vs H Q _ => ∃ (p a sd : Addr) (M : Md) (T' : List Tr), vs = [.ref a] ∧ Pot H p ∧ BookM H C a sd M ∧ M.Good ∧ T'.Pairwise trLt ∧ T'.Perm (M.T.map flip) ∧
  ∀ b sb H', Same H H' → H b = none → H sb = none → BookM H' C b sb ⟨M.L, M.n, M.E, M.S, T'⟩ → Q (.ref b) H'
theorem ok_inv {f C : Addr} {fd : FuncData} (F : Fun K "__invert__" "Book.__invert__" sInv f fd) (T : BkT K mg C) (Bk : BkMk P w K mg base C) : FnOk P w K mg base CX0 7 f fd ["self"] (spInv C) := by
  obtain ⟨fB, fdB, GB, mk, bB, _, _⟩ := Bk.ex
  refine F.ok scInv (fun vs H Q E h => ?_) (fun cdv A outer s H vs Q E hr h => ?_)
  · obtain ⟨p, a, sd, M, T', rfl, _⟩ := h
    rfl
  · obtain ⟨p, a, sd, M, T', rfl, hp, hb, g, pw, pm, q⟩ := h
    refine ⟨_, pss_cons (ps_setLc (i := 1) (own := [("before", 2), ("letter", 3), ("behind", 4)]) (g := gTup K 3 (gCons (gName 2) (gCons (gName 3) (gCons (gName 4) gNil)))) (tt := tYes) (te := tTup (tCons (tVar 4) (tCons (tVar 3) (tCons (tVar 2) tNil)))) rfl scInv.nd rfl rfl (sw_true rfl rfl rfl (by decide +kernel)) (pi_list (pe_fld (pv 0) rfl))
        (blkOk_by (own := [("before", 2), ("letter", 3), ("behind", 4)]) (N := NInv) (sc := defScope sInv) (by decide +kernel)) (fun _ _ _ _ _ => by exact (pg_tup (by rfl) (pgs_cons (pg_name (i := 2) scInv.nd rfl (Or.inl rfl)) (pgs_cons (pg_name (i := 3) scInv.nd rfl (Or.inl rfl)) (pgs_cons (pg_name (i := 4) scInv.nd rfl (Or.inl rfl)) pgs_nil)))))
        (fun _ _ _ _ _ => pts_nil) (fun _ _ _ _ _ => by exact (pe_tup (pa_cons (pv 4) (pa_cons (pv 3) (pa_cons (pv 2) pa_nil))))))
      (pss_one (ps_ret (pe_make mk GB hr rfl Bk.gC bB .nil pass0 (by exact (pa_cons (pe_fld (pv 0) rfl) (pa_cons (pe_fld (pv 0) rfl) (pa_cons (pe_fld (pv 0) rfl) (pa_cons (pe_fld (pv 0) rfl) (pa_cons (pv 1) pa_nil))))))))), ?_⟩
    obtain ⟨zs, ⟨dx, st, en, ld, us, k1, k2, k3, k4, k6, k7⟩, et⟩ := id hb
    rw [et] at k7
    have lu : us.length = M.T.length := by rw [Paired.len k7, List.length_map]
    have lT := g.tlen
    refine ⟨_, rfl, a, C, dx, _, _, rfl, k1, T.cl, T.na _ (by decide +kernel), rfl, sd, rfl, ⟨_, .inl (.inl k6)⟩, fun D hD => ?_⟩
    refine lc_it (walk_list (xs := us)) (fun i H' => Same H H' ∧ ∃ ts : List V, H' D = some (.lst ts) ∧ TrsAt H' ts ((M.T.take i).map flip)) ⟨Same.new' (Same.refl H) hD, [], upd_same, .nil⟩ (fun i H' _ h => .inl (.inl (h.1 _ _ k6))) (fun i v Ha Hb hi hv y => ?_) (fun H1 h1 => ?_)
    · obtain ⟨rfl, hx⟩ := y
      obtain ⟨sm, ts, hts, pts⟩ := hv
      obtain ⟨x, hx1, hx2, tx, rfl, htx⟩ := zip_at k7 hx
      refine ⟨tx, _, rfl, .inl (.inl (sm _ _ htx)), rfl, _, _, rfl, _, _, rfl, _, _, rfl, rfl, rfl, ?_⟩
      refine ⟨_, rfl, _, rfl, _, rfl, by show 3 ≤ sizeLine; decide, fun T2 hT2 => ?_⟩
      have sT : Same Hb (upd Hb T2 (.tup [.int x.2.2, .str (sgn x.2.1), .int x.1])) := Same.new' (Same.refl Hb) hT2
      have nT : D ≠ T2 := ne_of_none hts hT2
      have lt : ts.length ≤ 196 := by
        rw [Paired.len pts, List.length_map, List.length_map, List.length_take]
        omega
      refine ⟨ts, sT _ _ hts, Nat.lt_of_le_of_lt lt (by decide), Same.mut' (sm.trans sT) hD, _, upd_same, ?_⟩
      rw [take_snoc hx1, List.map_append]
      show Paired _ _ (((M.T.take i).map flip ++ [x].map flip).map trV)
      rw [List.map_append]
      refine paired_snoc (Paired.imp2 (fun v d z => TupAt.keep (fun b o e nb => by rw [upd_ne nb]; exact sT _ _ e) hts z) pts) ⟨T2, rfl, ?_⟩
      rw [upd_ne nT.symm]
      exact upd_same
    · obtain ⟨s1, ts, hts, pts⟩ := h1
      rw [List.take_of_length_le (by omega)] at pts
      obtain ⟨us', pu, pr'⟩ := perm_paired2 pm pts
      have k1' := s1 _ _ k1
      have hp1 := pot_same s1 hp
      refine ⟨_, rfl, a, C, dx, _, _, rfl, k1', T.cl, T.na _ (by decide +kernel), rfl, _, rfl, a, C, dx, _, _, rfl, k1', T.cl, T.na _ (by decide +kernel), rfl, _, rfl, a, C, dx, _, _, rfl, k1', T.cl, T.na _ (by decide +kernel), rfl, _, rfl, a, C, dx, _, _, rfl, k1', T.cl, T.na _ (by decide +kernel), rfl, _, rfl, fun x dy hx hdy nd => ?_⟩
      exact make_book (M := ⟨M.L, M.n, M.E, M.S, T'⟩) (us := us') (turn_of g pw pm).g hp1 hx hdy nd (.inr (s1 _ _ k3)) (hp.notTup k3) (.refl _) (.inr (s1 _ _ k2)) (hp.notTup k2) (.refl _) (.inl hts) (Pot.ne hp hD).symm pr' pu fun H' sb s2 f2 bk => q x sb H' (s1.trans s2) (s1.free hx) (s1.free f2) bk
def spRsh (C : Addr) : Sp := fun vs H Q _ => ∃ (p a sd : Addr) (M : Md) (z : Str), vs = [.ref a, .str z] ∧ Pot H p ∧ BookM H C a sd M ∧ M.Good ∧ RowOf M z ∧ ∀ b sb H', Same H H' → H b = none → H sb = none → BookM H' C b sb (cutS M z.cps.toList) → Q (.ref b) H'
theorem ok_rsh {f C : Addr} {fd : FuncData} (F : Fun K "__rrshift__" "Book.__rrshift__" sRsh f fd) (T : BkT K mg C) (D : Def P w K mg base 2 "check_row" ["letters", "row"] spChkRowR) (O : MetD P w K mg base C 2 "_behind" ["self", "states", "row"] (spBeh C))
    (W : MetD P w K mg base C 7 "with_starts" ["self", "some"] (spWith C fun M S => { M with S := S })) : FnOk P w K mg base CX0 8 f fd ["self", "other"] (spRsh C) := by
  obtain ⟨fD, fdD, GD, gD, kD, bD⟩ := D.ex
  obtain ⟨fO, fdO, MO, GO, bO⟩ := O.ex
  obtain ⟨fW, fdW, MW, GW, bW⟩ := W.ex
  refine F.ok scRsh (fun vs H Q E h => ?_) (fun cdv A outer s H vs Q E hr h => ?_)
  · obtain ⟨p, a, sd, M, z, rfl, _⟩ := h
    rfl
  · obtain ⟨p, a, sd, M, z, rfl, hp, hb, g, hz, q⟩ := h
    refine ⟨_, pss_cons (ps_expr (pe_call GD (hr.mono (by decide)) rfl gD kD bD .nil pass0 (by exact (pa_cons (pe_fld (pv 0) rfl) (pa_cons (pv 1) pa_nil)))))
      (pss_one (ps_ret (pe_meth (pv 0) T.cl MW GW hr bW .nil pass0 (by exact (pa_cons (pe_meth (pv 0) T.cl MO GO (hr.mono (by decide)) bO .nil pass0 (by exact (pa_cons (pe_fld (pv 0) rfl) (pa_cons (pv 1) pa_nil)))) pa_nil))))), ?_⟩
    obtain ⟨zs, ⟨dx, st, en, ld, us0, k1, k2, k3, k4, k6, k7⟩, et⟩ := id hb
    refine ⟨_, rfl, a, C, dx, _, _, rfl, k1, T.cl, T.na _ (by decide +kernel), rfl, _, rfl, M.L, z, rfl, hz.over, hz.2, fun H1 s1 => ?_⟩
    have k1' := s1 _ _ k1
    refine ⟨_, rfl, a, dx, _, rfl, k1', rfl, _, rfl, a, dx, _, rfl, k1', rfl, _, rfl, a, C, dx, _, _, rfl, k1', T.cl, T.na _ (by decide +kernel), rfl, _, rfl, a, sd, st, M, M.S, M.S, z, rfl, hb.same s1, g, .inr (s1 _ _ k2), .refl _, start_set g, hz, fun l H2 s2 h2 => ?_⟩
    have s02 := s1.trans s2
    have hp2 := pot_same s02 hp
    refine ⟨p, a, sd, l, M, _, come M.T M.S z.cps.toList, rfl, hp2, hb.same s02, g, .inr h2, hp2.notTup h2, come_set g (start_set g), .refl _, fun b sb H3 s3 fb fs bk => ?_⟩
    exact q b sb H3 (s02.trans s3) (s02.free fb) (s02.free fs) bk
def spAhd (C : Addr) : Sp := fun vs H Q _ => ∃ (a sd t : Addr) (M : Md) (G : List Int) (c : Nat), vs = [.ref a, .ref t, .str (sgn c)] ∧ BookM H C a sd M ∧ M.Good ∧ H t = some (.tup (G.map V.int)) ∧ SetOf M G ∧ c ∈ M.L.cps.toList ∧
  ∀ l H', Same H H' → H l = none → H' l = some (.tup ((prv M.T M.n G c).map V.int)) → Q (.ref l) H'
theorem ok_ahd {f C : Addr} {fd : FuncData} (F : Fun K "_ahead" "Book._ahead" sAhd f fd) (tn : mg "tuple" = none) (rn : mg "range" = none) (an : mg "any" = none) (T : BkT K mg C) : FnOk P w K mg base CX0 1 f fd ["self", "states", "letter"] (spAhd C) := by
  refine F.ok scAhd (fun vs H Q E h => ?_) (fun cdv A outer s H vs Q E hr h => ?_)
  · obtain ⟨a, sd, t, M, G, c, rfl, _⟩ := h
    rfl
  · obtain ⟨a, sd, t, M, G, c, rfl, hb, g, ht, hG, hc, q⟩ := h
    refine ⟨_, pss_one (ps_ret (pe_callTy call_tuple_of (by rfl) tn (by decide +kernel) (by exact (pa_cons (pe_lc (own := [("state", 3)]) (g := gName 3)
        (tt := tTest (tCB (rAny K) (tCons (tLc (iTup K (tDGet (tFld K (tVar 0) "_leads") (tTup (tCons (tVar 3) (tCons (tVar 2) tNil))))) (gName 4) tYes (tOp (rIn K false) (tVar 4) (tVar 1)) [4]) tNil))) (te := tVar 3) (by rfl) scAhd.nd
        (pi_range1 (by rfl) rn (pa_cons (pe_fld (pv 0) rfl) pa_nil)) (blkOk_by (own := [("state", 3)]) (N := NAhd) (sc := defScope sAhd) (by decide +kernel)) (fun _ _ _ _ _ => by exact (pg_name (i := 3) scAhd.nd rfl (Or.inl rfl)))
        (fun _ _ _ _ _ => by exact (pts_one (pt_val (pe_callB (cr_any rfl) (by rfl) an (by decide +kernel) (by exact (pa_cons (pe_lc (own := [("behind", 4)]) (g := gName 4) (tt := tYes) (te := tOp (rIn K false) (tVar 4) (tVar 1)) (by rfl) scAhd.nd
            (pi_tup (pe_dget (hu_of hr) (pe_fld (pv 0) rfl) (pe_tup (pa_cons (pv 3) (pa_cons (pv 2) pa_nil))) (fun _ _ => rfl)))
            (by exact blkOk_rel _ (blkOk_by (own := [("behind", 4)]) (N := NAhd) (sc := scAhdC) (by decide +kernel))) (fun _ _ _ _ _ => by exact (pg_name (i := 4) scAhd.nd rfl (Or.inl rfl))) (fun _ _ _ _ _ => pts_nil)
            (fun _ _ _ _ _ => by exact (pe_cmpR op_in_seq (pv 4) (pv 1) (by rfl)))) pa_nil))))))
        (fun _ _ _ _ _ => by exact (pv 3))) pa_nil)))), ?_⟩
    obtain ⟨zs, ⟨dx, st, en, ld, us0, k1, k2, k3, k4, k6, k7⟩, et⟩ := id hb
    have n1 := g.n1
    have n7 := g.n7
    have ndL := lettersV_nodup g.l
    have pe : ∀ i : Nat, i < M.n.toNat → (((behinds M.n zs (0 + (i : Int)) (sgn c)).map fun v => decide (v ∈ G.map V.int)).any id) = (M.T.any fun x => decide (x.2.1 = c) && decide (x.1 = 0 + (i : Int)) && decide (x.2.2 ∈ G)) := by
      intro i hi
      have hr' : 0 ≤ 0 + (i : Int) ∧ 0 + (i : Int) < M.n := by omega
      rw [Bool.eq_iff_iff, List.any_eq_true, List.any_eq_true]
      constructor
      · rintro ⟨b, hb1, hb2⟩
        obtain ⟨v, hv, rfl⟩ := List.mem_map.mp hb1
        obtain ⟨k, hk, rfl⟩ := List.mem_map.mp (of_decide_eq_true hb2)
        exact ⟨_, (behinds_mem et hr' hc).mp hv, by simp [hk]⟩
      · rintro ⟨⟨x1, x2, x3⟩, hx, h⟩
        simp only [Bool.and_eq_true, decide_eq_true_eq] at h
        obtain ⟨⟨rfl, rfl⟩, h3⟩ := h
        exact ⟨true, List.mem_map.mpr ⟨.int x3, (behinds_mem et hr' hc).mpr hx, by simp [h3]⟩, rfl⟩
    refine ⟨_, rfl, a, C, dx, _, _, rfl, k1, T.cl, T.na _ (by decide +kernel), rfl, M.n, rfl, by omega, by omega, fun D hD => ?_⟩
    refine lc_pick walk_range (fun i => V.int (0 + (i : Int))) (fun i => M.T.any fun x => decide (x.2.1 = c) && decide (x.1 = 0 + (i : Int)) && decide (x.2.2 ∈ G)) hD (by omega) (fun _ _ => trivial) (fun i x Ha Hb Cc Z hi sm y k1' k2' => ?_) (fun H' sm hD' => ?_)
    · obtain ⟨rfl, rfl⟩ := y
      have hr' : 0 ≤ 0 + (i : Int) ∧ 0 + (i : Int) < M.n := by omega
      obtain ⟨kvs, t', l1, l2, l3⟩ := lead_get ndL k4 hr' hc
      refine ⟨rfl, _, rfl, a, C, dx, _, _, rfl, sm _ _ k1, T.cl, T.na _ (by decide +kernel), rfl, _, rfl, _, rfl, by show 2 ≤ sizeLine; decide, fun T2 hT2 => ?_⟩
      have sT : Same Hb (upd Hb T2 (.tup [.int (0 + (i : Int)), .str (sgn c)])) := Same.new' (Same.refl Hb) hT2
      have sH := sm.trans sT
      refine ⟨ld, .ref t', rfl, .inr ⟨kvs, [.inl (0 + (i : Int)), .inr (sgn c)], T2, .inl (sH _ _ l1), rfl, upd_same, l2.symm⟩, t', rfl, ⟨_, .inl (.inl (sH _ _ l3))⟩, fun D2 hD2 => ?_⟩
      have bl := behinds_len (zs := zs) (b := 0 + (i : Int)) (c := sgn c) n7
      refine lc_map walk_tup (fun j => V.bl (decide ((behinds M.n zs (0 + (i : Int)) (sgn c)).getD j .non ∈ G.map V.int))) hD2 (by omega) (fun H' s => .inl (.inl (s _ _ (sH _ _ l3)))) (fun j x Hc Hd Cd Z' hj sm2 y k => ?_) (fun H2 sm2 hD2' => ?_)
      · obtain ⟨rfl, hx⟩ := y
        obtain ⟨kk, rfl⟩ := behinds_int (List.mem_of_getElem? hx)
        refine ⟨rfl, _, rfl, _, rfl, t, G.map V.int, rfl, .inr (.inl (.inl (sm2 _ _ (sH _ _ ht)))), rfl, flat_ints G, ?_⟩
        have e : inV (.int kk) (G.map V.int) = decide ((behinds M.n zs (0 + (i : Int)) (sgn c)).getD j .non ∈ G.map V.int) := by
          rw [inV_ints, getD_at hx]
          simp
        have e2 : (if false = true then !inV (.int kk) (G.map V.int) else inV (.int kk) (G.map V.int)) = decide ((behinds M.n zs (0 + (i : Int)) (sgn c)).getD j .non ∈ G.map V.int) := by
          rw [← e]
          rfl
        rw [e2]
        exact k _ (Same.refl _)
      · have e : firsts (fun j => V.bl (decide ((behinds M.n zs (0 + (i : Int)) (sgn c)).getD j .non ∈ G.map V.int))) (behinds M.n zs (0 + (i : Int)) (sgn c)).length = ((behinds M.n zs (0 + (i : Int)) (sgn c)).map fun v => decide (v ∈ G.map V.int)).map V.bl := by
          rw [firsts_map (fun v => V.bl (decide (v ∈ G.map V.int))) .non, List.map_map]
          rfl
        rw [e] at hD2'
        refine ⟨D2, _, rfl, .inl (.inl hD2'), _, rfl, ?_⟩
        rw [pe i hi]
        have sz := sT.trans sm2
        cases ed : (M.T.any fun x => decide (x.2.1 = c) && decide (x.1 = 0 + (i : Int)) && decide (x.2.2 ∈ G)) with
        | true => exact iteT ⟨_, rfl, k1' _ ed sz⟩
        | false => exact iteF (k2' _ ed sz)
    · have ep : picks (fun i => V.int (0 + (i : Int))) (fun i => M.T.any fun x => decide (x.2.1 = c) && decide (x.1 = 0 + (i : Int)) && decide (x.2.2 ∈ G)) M.n.toNat = (prv M.T M.n G c).map V.int := by
        unfold picks prv
        rw [List.filter_map, List.map_map]
        have e1 : (fun i : Nat => M.T.any fun x => decide (x.2.1 = c) && decide (x.1 = 0 + (i : Int)) && decide (x.2.2 ∈ G)) = ((fun k : Int => M.T.any fun x => decide (x.2.1 = c) && decide (x.1 = k) && decide (x.2.2 ∈ G)) ∘ fun i : Nat => (i : Int)) := by
          funext i
          show _ = (M.T.any fun x => decide (x.2.1 = c) && decide (x.1 = (i : Int)) && decide (x.2.2 ∈ G))
          rw [Int.zero_add]
        rw [e1]
        exact List.map_congr_left fun i _ => by show V.int _ = V.int _; rw [Int.zero_add]
      rw [ep] at hD'
      exact ⟨D, _, rfl, .inl ⟨.inl (.inl hD'), fun l hl => q l _ (Same.new' sm hl) (sm.free hl) upd_same⟩⟩
end
end Lw
set_option Elab.async false
set_option linter.all false
set_option maxRecDepth 100000
set_option maxHeartbeats 4000000
/-! books.py: what reads the rest of a row -/
namespace Lw
open PySem PySem.Spec PyProof.Rows L2
theorem paired_unsnoc {α β : Type} {R : α → β → Prop} {y : β} : ∀ {ys : List β} {xs : List α}, Paired R xs (ys ++ [y]) → ∃ xs0 x, xs = xs0 ++ [x] ∧ Paired R xs0 ys ∧ R x y
  | [], _, .cons r .nil => ⟨[], _, rfl, .nil, r⟩
  | _ :: _, _, .cons r t => by
    obtain ⟨xs0, x, rfl, h1, h2⟩ := paired_unsnoc t
    exact ⟨_ :: xs0, x, rfl, .cons r h1, h2⟩
theorem paired_rev {α β : Type} {R : α → β → Prop} : ∀ {xs : List α} {ys : List β}, Paired R xs ys → Paired R xs.reverse ys.reverse
  | _, _, .nil => .nil
  | _, _, .cons r t => by
    rw [List.reverse_cons, List.reverse_cons]
    exact paired_snoc (paired_rev t) r
theorem paired_use {α β : Type} {R : α → β → Prop} {p : β → Prop} : ∀ {xs : List α} {ys : List β}, Paired (fun x y => p y → R x y) xs ys → (∀ y ∈ ys, p y) → Paired R xs ys
  | _, _, .nil, _ => .nil
  | _, _, .cons r t, h => .cons (r (h _ List.mem_cons_self)) (paired_use t fun y hy => h y (List.mem_cons_of_mem _ hy))
/-- the states that read what follows position i -/
def bkAt (M : Md) (cs : List Nat) (i : Nat) : List Int := back M.T M.n M.E (cs.drop i)
theorem back_rev_snoc (T : List Tr) (n : Int) (E : List Int) {w : List Nat} {i c : Nat} (h : w[i]? = some c) : back T n E (w.take (i + 1)).reverse = prv T n (back T n E (w.take i).reverse) c := by
  rw [take_snoc h, List.reverse_append]
  rfl
section
variable {P : Program} {w : World} {K : PySem.W.Frag} {mg : Str → Option Value} {base : Heap}
def spRal (C : Addr) : Sp := fun vs H Q _ => ∃ (a sd : Addr) (M : Md) (z : Str), vs = [.ref a, .str z] ∧ BookM H C a sd M ∧ M.Good ∧ RowOf M z ∧
  ∀ l rs H', Same H H' → H l = none → H' l = some (.lst (rs.map V.ref)) → Paired (fun (r : Addr) (i : Nat) => H' r = some (.tup ((bkAt M z.cps.toList i).map V.int))) rs (List.range (z.length + 1)) → Q (.ref l) H'
theorem ok_ral {f C : Addr} {fd : FuncData} (F : Fun K "_readers_along" "Book._readers_along" sRal f fd) (T : BkT K mg C) (O : MetD P w K mg base C 1 "_ahead" ["self", "states", "letter"] (spAhd C)) :
    FnOk P w K mg base CX0 2 f fd ["self", "row"] (spRal C) := by
  obtain ⟨fO, fdO, MO, GO, bO⟩ := O.ex
  refine F.ok scRal (fun vs H Q E h => ?_) (fun cdv A outer s H vs Q E hr h => ?_)
  · obtain ⟨a, sd, M, z, rfl, _⟩ := h
    rfl
  · obtain ⟨a, sd, M, z, rfl, hb, g, hz, q⟩ := h
    refine ⟨_, pss_cons (ps_set (i := 2) scRal.nd rfl (.inl rfl) (pe_lst (pa_cons (pe_fld (pv 0) rfl) pa_nil)))
      (pss_cons (ps_for PassesOwn.never rfl (pi_str (pe_revS (pv 1))) (pg_name (i := 3) scRal.nd rfl (.inl rfl))
        (pss_one (ps_expr (pe_bm PySem.F.plainAttrs_list PySem.F.slot_list_append PySem.F.type_list_append mt_append (pv 2) (by exact (pa_cons (pe_meth (pv 0) T.cl MO GO hr bO .nil pass0 (by exact (pa_cons (pe_ix ix_list (pv 2) (pe_un un_neg pe_int) (fun _ _ => rfl)) (pa_cons (pv 3) pa_nil)))) pa_nil))))))
      (pss_one (ps_ret (pe_revL (pv 2))))), ?_⟩
    obtain ⟨zs, ⟨dx, st, en, ld, us0, k1, k2, k3, k4, k6, k7⟩, et⟩ := id hb
    have n1 := g.n1
    have n7 := g.n7
    have zl : (revStr z).cps.toList = z.cps.toList.reverse := by
      show (z.cps.toList.reverse.toArray).toList = _
      rw [List.toList_toArray]
    have zsz : (revStr z).cps.size = z.length := by
      show (z.cps.toList.reverse.toArray).size = z.cps.size
      rw [List.size_toArray, List.length_reverse, Array.length_toList]
    have hz2 := hz.2
    refine ⟨_, rfl, a, C, dx, _, _, rfl, k1, T.cl, T.na _ (by decide +kernel), rfl, by show 1 ≤ sizeLine; decide, fun D hD => ?_⟩
    have sD : Same H (upd H D (.lst [.ref en])) := Same.new' (Same.refl H) hD
    refine ⟨_, rfl, z, rfl, Nat.le_of_lt (Nat.lt_of_lt_of_le hz.2 (by decide)), _, rfl, ?_⟩
    refine for_it (walk_str (z := revStr z)) (fun i σ H' => Same H H' ∧ ∃ (rs : List Addr) (u4 : Option V), σ = [some (.ref a), some (.str z), some (.ref D), u4] ∧ H' D = some (.lst (rs.map V.ref)) ∧ Paired (fun (r : Addr) (j : Nat) => H' r = some (.tup ((back M.T M.n M.E (z.cps.toList.reverse.take j).reverse).map V.int))) rs (List.range (i + 1)))
      ⟨sD, [en], none, rfl, upd_same, .cons (sD _ _ k3) .nil⟩ (fun _ _ _ _ _ => trivial) ?_ ?_
    · rintro i x σ Ha Hb hi ⟨sa, rs, u4, rfl, hl, pr⟩ ⟨rfl, c, hc, rfl⟩
      have hc2 : z.cps.toList.reverse[i]? = some c := by rw [← zl, Array.getElem?_toList]; exact hc
      rw [List.range_succ] at pr
      obtain ⟨rs0, r, rfl, pr0, hr0⟩ := paired_unsnoc pr
      have cm : c ∈ M.L.cps.toList := hz.1 c (List.mem_reverse.mp (List.mem_of_getElem? hc2))
      have gb : SetOf M (back M.T M.n M.E (z.cps.toList.reverse.take i).reverse) := back_set (end_set g)
      rw [List.map_append] at hl
      have lr := Paired.len pr
      rw [← List.range_succ, List.length_range] at lr
      have hi2 : i < z.length := by
        have := (List.getElem?_eq_some_iff.mp hc2).1
        rw [List.length_reverse, Array.length_toList] at this
        exact this
      refine ⟨_, rfl, .inl ⟨rfl, _, .inl (.inl hl)⟩, _, rfl, a, dx, _, rfl, sa _ _ k1, rfl, _, rfl, 1, rfl, D, _, -1, .ref r, rfl, rfl, .inl (.inl hl), atI_last _ _, _, rfl, a, sd, r, M, _, c, rfl, hb.same sa, g, hr0, gb, cm, fun l2 H2 s2 f2 g2 => ?_⟩
      refine ⟨D, _, _, rfl, rfl, s2 _ _ hl, ?_, ?_⟩
      · rw [List.length_append, List.length_map, List.length_map, ← List.length_append, lr]
        exact Nat.lt_of_lt_of_le (show i + 1 < 100001 by omega) (by decide)
      · refine ⟨Same.mut' (sa.trans s2) hD, rs0 ++ [r] ++ [l2], _, rfl, by rw [upd_same, List.map_append, List.map_append]; rfl, ?_⟩
        have kp : ∀ b o, Hb b = some o → b ≠ D → (upd H2 D (.lst (rs0.map V.ref ++ [r].map V.ref ++ [.ref l2]))) b = some o := fun b o e nb => by
          rw [upd_ne nb]
          exact s2 _ _ e
        rw [List.range_succ, List.range_succ]
        refine paired_snoc (Paired.imp2 (fun r' j e => kp _ _ e (fun ee => by rw [ee, hl] at e; cases e)) pr) ?_
        rw [back_rev_snoc _ _ _ hc2, upd_ne (ne_of_none hl f2).symm]
        exact g2
    · rintro σ H' ⟨sa, rs, u4, rfl, hl, pr⟩
      refine ⟨_, rfl, D, _, rfl, .inl (.inl hl), fun l hl2 => ?_⟩
      rw [← List.map_reverse]
      rw [zsz] at pr
      refine q l rs.reverse _ (Same.new' sa hl2) (sa.free hl2) upd_same ?_
      have pr2 := paired_rev pr
      have e : (List.range (z.length + 1)).reverse = (List.range (z.length + 1)).map fun i => z.length - i := by
        apply List.ext_getElem?
        intro i
        by_cases hi : i < z.length + 1
        · rw [List.getElem?_reverse (by rw [List.length_range]; exact hi), List.getElem?_map, List.getElem?_range hi, List.length_range, List.getElem?_range (by omega)]
          simp
        · rw [List.getElem?_eq_none (by rw [List.length_reverse, List.length_range]; omega), List.getElem?_eq_none (by rw [List.length_map, List.length_range]; omega)]
      rw [e] at pr2
      have pr3 := Paired.unmap (f := fun i : Nat => z.length - i) (g := fun i : Nat => i) (S := fun (r : Addr) (i : Nat) => i < z.length + 1 → (upd H' l (.lst (rs.reverse.map V.ref))) r = some (.tup ((bkAt M z.cps.toList i).map V.int))) (fun r i h hi => by
        have h : H' r = some (.tup ((back M.T M.n M.E (z.cps.toList.reverse.take (z.length - i)).reverse).map V.int)) := h
        rw [upd_ne (ne_of_none h hl2)]
        rw [List.take_reverse, List.reverse_reverse, Array.length_toList, show z.cps.size - (z.length - i) = i from by show z.length - (z.length - i) = i; omega] at h
        exact h) pr2
      rw [List.map_id'] at pr3
      exact paired_use pr3 fun i hi => List.mem_range.mp hi
def spLsh (C : Addr) : Sp := fun vs H Q _ => ∃ (p a sd : Addr) (M : Md) (z : Str), vs = [.ref a, .str z] ∧ Pot H p ∧ BookM H C a sd M ∧ M.Good ∧ RowOf M z ∧ ∀ b sb H', Same H H' → H b = none → H sb = none → BookM H' C b sb (cutE M z.cps.toList) → Q (.ref b) H'
theorem ok_lsh {f C : Addr} {fd : FuncData} (F : Fun K "__lshift__" "Book.__lshift__" sLsh f fd) (T : BkT K mg C) (D : Def P w K mg base 2 "check_row" ["letters", "row"] spChkRowR) (O : MetD P w K mg base C 2 "_readers_along" ["self", "row"] (spRal C))
    (W : MetD P w K mg base C 7 "with_ends" ["self", "some"] (spWith C fun M E => { M with E := E })) : FnOk P w K mg base CX0 8 f fd ["self", "other"] (spLsh C) := by
  obtain ⟨fD, fdD, GD, gD, kD, bD⟩ := D.ex
  obtain ⟨fO, fdO, MO, GO, bO⟩ := O.ex
  obtain ⟨fW, fdW, MW, GW, bW⟩ := W.ex
  refine F.ok scLsh (fun vs H Q E h => ?_) (fun cdv A outer s H vs Q E hr h => ?_)
  · obtain ⟨p, a, sd, M, z, rfl, _⟩ := h
    rfl
  · obtain ⟨p, a, sd, M, z, rfl, hp, hb, g, hz, q⟩ := h
    refine ⟨_, pss_cons (ps_expr (pe_call GD (hr.mono (by decide)) rfl gD kD bD .nil pass0 (by exact (pa_cons (pe_fld (pv 0) rfl) (pa_cons (pv 1) pa_nil)))))
      (pss_one (ps_ret (pe_meth (pv 0) T.cl MW GW hr bW .nil pass0 (by exact (pa_cons (pe_ix ix_list (pe_meth (pv 0) T.cl MO GO (hr.mono (by decide)) bO .nil pass0 (by exact (pa_cons (pv 1) pa_nil))) pe_int (fun _ _ => rfl)) pa_nil))))), ?_⟩
    obtain ⟨zs, ⟨dx, st, en, ld, us0, k1, k2, k3, k4, k6, k7⟩, et⟩ := id hb
    refine ⟨_, rfl, a, C, dx, _, _, rfl, k1, T.cl, T.na _ (by decide +kernel), rfl, _, rfl, M.L, z, rfl, hz.over, hz.2, fun H1 s1 => ?_⟩
    have k1' := s1 _ _ k1
    refine ⟨_, rfl, a, dx, _, rfl, k1', rfl, _, rfl, a, dx, _, rfl, k1', rfl, _, rfl, a, sd, M, z, rfl, hb.same s1, g, hz, fun l rs H2 s2 fl hl pr => ?_⟩
    have s02 := s1.trans s2
    have hp2 := pot_same s02 hp
    rw [List.range_succ_eq_map] at pr
    obtain ⟨r, rs', rfl, hr0⟩ : ∃ r rs', rs = r :: rs' ∧ H2 r = some (.tup ((bkAt M z.cps.toList 0).map V.int)) := by
      cases pr with
      | cons r t => exact ⟨_, _, rfl, r⟩
    refine ⟨l, _, 0, .ref r, rfl, rfl, .inl (.inl hl), atI_nat (j := 0) rfl, ?_⟩
    refine ⟨p, a, sd, r, M, _, back M.T M.n M.E z.cps.toList, rfl, hp2, hb.same s02, g, .inr hr0, hp2.notTup hr0, back_set (end_set g), .refl _, fun b sb H3 s3 fb fs bk => ?_⟩
    exact q b sb H3 (s02.trans s3) (s02.free fb) (s02.free fs) bk
end
end Lw
set_option Elab.async false
set_option linter.all false
set_option maxRecDepth 100000
set_option maxHeartbeats 4000000
/-! _law_rows, _law_reads -/
namespace Lw
open PySem PySem.Spec PyProof.Rows L2
abbrev sRows : Stmt := topS 59
abbrev sReads : Stmt := topS 60
abbrev NRows : List Str := ["_law_signs_here", "_law_few", "_law_found", "_law_last", "_law_turn", "_law_longer", "_law_spelt", "_law_sign"]
theorem scRows : FnScope NRows ["_law_signs_here", "_law_few"] (defScope sRows) := ⟨rfl, rfl, rfl, by decide +kernel, rfl, by decide +kernel, by decide +kernel⟩
theorem scReads : FnScope ["_law_model_here", "_law_spelt"] ["_law_model_here", "_law_spelt"] (defScope sReads) := ⟨rfl, rfl, rfl, by decide +kernel, rfl, by decide +kernel, by decide +kernel⟩
/-- a row over letters, of at most k -/
def RowL (L : Str) (k : Nat) (z : Str) : Prop := (∀ c ∈ z.cps.toList, c ∈ L.cps.toList) ∧ z.length ≤ k
theorem RowL.mono {L z : Str} {k j : Nat} (h : RowL L k z) (hk : k ≤ j) : RowL L j z := ⟨h.1, Nat.le_trans h.2 hk⟩
theorem RowL.nil {L : Str} {k : Nat} : RowL L k "" := ⟨fun c hc => absurd hc (by simp [show (Str.ofString "").cps.toList = [] from by decide]), by rw [show (Str.ofString "").length = 0 from by decide]; exact Nat.zero_le _⟩
theorem cat_list (x y : Str) : (x ++ y).cps.toList = x.cps.toList ++ y.cps.toList := by
  show (x.cps ++ y.cps).toList = _
  rw [Array.toList_append]
theorem RowL.cat {L x y : Str} {k j : Nat} (h : RowL L k x) (h' : RowL L j y) : RowL L (k + j) (x ++ y) := by
  refine ⟨fun c hc => ?_, by rw [strLen]; exact Nat.add_le_add h.2 h'.2⟩
  rw [cat_list] at hc
  exact (List.mem_append.mp hc).elim (h.1 c) (h'.1 c)
theorem RowL.sgn {L : Str} {c : Nat} (h : c ∈ L.cps.toList) : RowL L 1 (sgn c) := ⟨fun d hd => by
  have : d = c := by simpa [Lw.sgn] using hd
  rw [this]; exact h, Nat.le_refl _⟩
theorem RowL.row {M : Md} {k : Nat} {z : Str} (h : RowL M.L k z) (hk : k < 100000) : RowOf M z := ⟨h.1, Nat.lt_of_le_of_lt h.2 hk⟩
section
variable {P : Program} {w : World} {K : PySem.W.Frag} {mg : Str → Option Value} {base : Heap}
def spRows : Sp := fun vs H Q _ => ∃ (L : Str) (k : Nat), vs = [.str L, .int (k : Int)] ∧ L.length ≤ 4 ∧ k ≤ 3 ∧
  ∀ (l : Addr) (zs : List Str) (H' : Hp), Same H H' → H l = none → H' l = some (.lst (zs.map V.str)) → (∀ z ∈ zs, RowL L k z) → zs.length ≤ 1000 → Q (.ref l) H'
theorem ok_rows {f : Addr} {fd : FuncData} (F : Fun K "_law_rows" "_law_rows" sRows f fd) (B : Bl mg) : FnOk P w K mg base CX0 1 f fd ["_law_signs_here", "_law_few"] spRows := by
  refine F.ok scRows (fun vs H Q E h => ?_) (fun cdv A outer s H vs Q E hr h => ?_)
  · obtain ⟨L, k, rfl, _⟩ := h
    rfl
  · obtain ⟨L, k, rfl, hL, hk, q⟩ := h
    refine ⟨_, pss_cons (ps_par rfl scRows.nd (i := 2) (j := 3) rfl rfl (by decide) rfl rfl (pa_cons (pe_lst (pa_cons pe_str pa_nil)) (pa_cons (pe_lst (pa_cons pe_str pa_nil)) pa_nil)) (by rfl))
      (pss_cons (ps_for PassesOwn.never rfl (pi_range1 (by rfl) B.range (pa_cons (pv 1) pa_nil)) (pg_name (i := 4) scRows.nd rfl (.inl rfl))
        (pss_cons (ps_set (i := 5) scRows.nd rfl (.inl rfl) (pe_lst pa_nil))
        (pss_cons (ps_for PassesOwn.never rfl (pi_list (pv 3)) (pg_name (i := 6) scRows.nd rfl (.inr rfl))
          (pss_one (ps_set (i := 5) scRows.nd rfl (.inl rfl) (pe_op op_cat (pv 5) (pe_lc (own := [("_law_sign", 7)]) (g := gName 7) (tt := tYes) (te := tOp (fun x y H Q => ∃ i j, x = V.str i ∧ y = V.str j ∧ i.length + j.length ≤ sizeLine ∧ Q (V.str (i ++ j)) H) (tVar 6) (tVar 7)) (by rfl) scRows.nd (pi_str (pv 0))
              (blkOk_by (own := [("_law_sign", 7)]) (N := NRows) (sc := defScope sRows) (by decide +kernel)) (fun _ _ _ _ _ => by exact (pg_name (i := 7) scRows.nd rfl (Or.inl rfl))) (fun _ _ _ _ _ => pts_nil)
              (fun _ _ _ _ _ => by exact (pe_op op_add_str (pv 6) (pv 7))))))))
        (pss_one (ps_par rfl scRows.nd (i := 2) (j := 3) rfl rfl (by decide) rfl rfl (pa_cons (pe_op op_cat (pv 2) (pv 5)) (pa_cons (pv 5) pa_nil)) (by rfl))))))
      (pss_one (ps_ret (pv 2)))), ?_⟩
    refine ⟨by show 1 ≤ sizeLine; decide, fun fa hfa => ⟨by show 1 ≤ sizeLine; decide, fun la hla => ⟨_, _, rfl, ?_⟩⟩⟩
    have sA : Same H (upd H fa (.lst [.str ""])) := Same.new' (Same.refl H) hfa
    have sB : Same H (upd (upd H fa (.lst [.str ""])) la (.lst [.str ""])) := Same.new' sA hla
    have gA : (upd (upd H fa (.lst [.str ""])) la (.lst [.str ""])) fa = some (.lst (([""] : List Str).map V.str)) := by
      rw [upd_ne (ne_of_none (o := .lst [.str ""]) upd_same hla)]
      exact upd_same
    have one : ∀ z ∈ ([""] : List Str), RowL L 0 z := fun z hz => by
      rw [List.mem_singleton.mp hz]
      exact RowL.nil
    refine ⟨_, rfl, (k : Int), rfl, by omega, by omega, ?_⟩
    refine for_it walk_range (fun i σ H' => Same H H' ∧ ∃ (fa la : Addr) (fs ls : List Str) (u4 u5 u6 : Option V), σ = [some (.str L), some (.int (k : Int)), some (.ref fa), some (.ref la), u4, u5, u6, none] ∧ H fa = none ∧ H' fa = some (.lst (fs.map V.str)) ∧ H' la = some (.lst (ls.map V.str)) ∧
        (∀ z ∈ fs, RowL L i z) ∧ (∀ z ∈ ls, RowL L i z) ∧ ls.length ≤ 4 ^ i ∧ fs.length ≤ 5 ^ i)
      ⟨sB, fa, la, [""], [""], none, none, none, rfl, hfa, gA, upd_same, one, one, Nat.le_refl _, Nat.le_refl _⟩ (fun _ _ _ _ _ => trivial) (fun i x σ Ha Hb hi hI y => ?_) (fun σ H' h => ?_)
    · obtain ⟨rfl, rfl⟩ := y
      obtain ⟨sa, fa, la, fs, ls, u4, u5, u6, rfl, nf, h1, h2, r1, r2, l1, l2⟩ := hI
      have hi3 : i ≤ 2 := by omega
      have p3 : 4 ^ i ≤ 16 := Nat.pow_le_pow_right (n := 4) (by decide) hi3
      have p4 : 5 ^ i ≤ 25 := Nat.pow_le_pow_right (n := 5) (by decide) hi3
      have p34 : 4 ^ i ≤ 5 ^ i := Nat.pow_le_pow_left (by decide) i
      refine ⟨by show 0 ≤ sizeLine; decide, fun lo hlo => ?_⟩
      have s0 : Same Hb (upd Hb lo (.lst [])) := Same.new' (Same.refl Hb) hlo
      refine ⟨_, rfl, la, rfl, ⟨_, .inl (.inl (s0 _ _ h2))⟩, ?_⟩
      refine for_it (walk_list (xs := ls.map V.str)) (fun j σ H' => Same Hb H' ∧ ∃ (lo : Addr) (gs : List Str) (u6 : Option V), σ = [some (.str L), some (.int (k : Int)), some (.ref fa), some (.ref la), some (.int (0 + (i : Int))), some (.ref lo), u6, none] ∧ H' lo = some (.lst (gs.map V.str)) ∧ (∀ z ∈ gs, RowL L (i + 1) z) ∧ gs.length ≤ 4 * j)
        ⟨s0, lo, [], _, rfl, upd_same, fun z hz => absurd hz List.not_mem_nil, Nat.le_refl _⟩ (fun j σ H' _ h => .inl (.inl (h.1 _ _ h2))) (fun j x σ Hc Hd hj hI y => ?_) (fun σ H' h => ?_)
      · obtain ⟨rfl, hx⟩ := y
        obtain ⟨sc, lo, gs, u6, rfl, g1, g2, g3⟩ := hI
        rw [List.getElem?_map] at hx
        obtain ⟨z, hz, rfl⟩ := Option.map_eq_some_iff.mp hx
        have rz := r2 z (List.mem_of_getElem? hz)
        rw [List.length_map] at hj
        refine ⟨_, rfl, _, rfl, L, rfl, fun D hD => ?_⟩
        refine lc_map (walk_str (z := L)) (fun m => V.str (z ++ sgn (L.cps.toList.getD m 0))) hD (by have : L.cps.size ≤ 4 := hL; omega) (fun H' s => trivial) (fun m x He Hf Cd Z hm sm y kk => ?_) (fun H2 sm hD2 => ?_)
        · obtain ⟨rfl, c, hc, rfl⟩ := y
          have hc2 : L.cps.toList[m]? = some c := by rw [Array.getElem?_toList]; exact hc
          have := kk _ (Same.refl _)
          rw [getD_at hc2] at this
          refine ⟨rfl, _, rfl, _, rfl, z, sgn c, rfl, rfl, Nat.le_trans (show z.length + (sgn c).length ≤ 1000 by have := rz.2; rw [show (sgn c).length = 1 from rfl]; omega) (by decide), this⟩
        · have ee : firsts (fun m => V.str (z ++ sgn (L.cps.toList.getD m 0))) L.cps.size = (L.cps.toList.map fun c => z ++ sgn c).map V.str := by
            rw [← Array.length_toList, firsts_map (fun c => V.str (z ++ sgn c)) 0, List.map_map]
            rfl
          rw [ee] at hD2
          have lL : L.cps.toList.length ≤ 4 := by rw [Array.length_toList]; exact hL
          refine ⟨lo, D, _, _, rfl, rfl, sm _ _ g1, hD2, ?_, fun l9 hl9 => ?_⟩
          · rw [List.length_map, List.length_map, List.length_map]
            exact Nat.le_trans (show gs.length + L.cps.toList.length ≤ 1000 by omega) (by decide)
          · refine ⟨Same.new' (sc.trans sm) hl9, l9, gs ++ L.cps.toList.map fun c => z ++ sgn c, _, rfl, by rw [upd_same, List.map_append], fun z' hz' => ?_, by rw [List.length_append, List.length_map]; omega⟩
            rcases List.mem_append.mp hz' with h | h
            · exact g2 _ h
            · obtain ⟨c, hc, rfl⟩ := List.mem_map.mp h
              exact rz.cat (RowL.sgn hc)
      · obtain ⟨sc, lo, gs, u6, rfl, g1, g2, g3⟩ := h
        rw [List.length_map] at g3
        refine ⟨_, rfl, _, rfl, fa, lo, _, _, rfl, rfl, sc _ _ h1, g1, ?_, fun l9 hl9 => ?_⟩
        · rw [List.length_map, List.length_map]
          exact Nat.le_trans (show fs.length + gs.length ≤ 1000 by omega) (by decide)
        · have s9 := Same.new' (H1 := H') (Same.refl H') (o := .lst (fs.map V.str ++ gs.map V.str)) hl9
          refine ⟨_, rfl, _, _, rfl, (sa.trans sc).trans s9, l9, lo, fs ++ gs, gs, _, _, _, rfl, (sa.trans sc).free hl9, by rw [upd_same, List.map_append], s9 _ _ g1, fun z hz => ?_, g2, ?_, ?_⟩
          · rcases List.mem_append.mp hz with h | h
            · exact (r1 _ h).mono (Nat.le_succ _)
            · exact g2 _ h
          · rw [Nat.pow_succ]; omega
          · rw [List.length_append, Nat.pow_succ]; omega
    · obtain ⟨sa, fa, la, fs, ls, u4, u5, u6, rfl, nf, h1, h2, r1, r2, l1, l2⟩ := h
      have p4 : 5 ^ k ≤ 125 := Nat.pow_le_pow_right (n := 5) (by decide) hk
      exact ⟨_, rfl, q fa fs H' sa nf h1 r1 (by simp at l2; omega)⟩
def spReads : Sp := fun vs H Q _ => ∃ (p m : Addr) (M : Md) (z : Str), vs = [.ref m, .str z] ∧ MdAt p H m M ∧ M.Good ∧ ∀ H', Same H H' → Q (.bl (rdsM M z.cps.toList)) H'
theorem ok_reads {f : Addr} {fd : FuncData} (F : Fun K "_law_reads" "_law_reads" sReads f fd) (Co : Def P w K mg base 2 "_law_come" ["_law_model_here", "_law_group", "_law_spelt"] spCome)
    (St : Def P w K mg base 1 "_law_stops" ["_law_model_here", "_law_group"] spStops) : FnOk P w K mg base CX0 3 f fd ["_law_model_here", "_law_spelt"] spReads := by
  obtain ⟨fO, fdO, GO, gO, kO, bO⟩ := Co.ex
  obtain ⟨fT, fdT, GT, gT, kT, bT⟩ := St.ex
  refine F.ok scReads (fun vs H Q E h => ?_) (fun cdv A outer s H vs Q E hr h => ?_)
  · obtain ⟨p, m, M, z, rfl, _⟩ := h
    rfl
  · obtain ⟨p, m, M, z, rfl, hm, g, q⟩ := h
    have hu := hu_of hr
    refine ⟨_, pss_one (ps_ret (pe_call GT (hr.mono (by decide)) rfl gT kT bT .nil pass0 (by exact (pa_cons (pv 0) (pa_cons (pe_call GO hr rfl gO kO bO .nil pass0 (by exact (pa_cons (pv 0) (pa_cons (pe_dget hu (pv 0) pe_str (fun _ _ => rfl)) (pa_cons (pv 1) pa_nil))))) pa_nil))))), ?_⟩
    obtain ⟨b, e, l, us, h1, h2, h3, h4, h5, n1, n2, n3⟩ := id hm
    refine ⟨_, rfl, _, rfl, _, rfl, m, _, rfl, md_begins h1, _, rfl, p, m, b, M, M.S, z, rfl, hm, g, h2, start_set g, fun lw H1 s1 gw => ?_⟩
    have lG := (come_set g (cs := z.cps.toList) (start_set g)).len g
    have n7 := g.n7
    exact ⟨p, m, lw, M, _, rfl, MdAt.same s1 hm, g, gw, by omega, fun H2 s2 => q H2 (s1.trans s2)⟩
end
end Lw
set_option Elab.async false
set_option linter.all false
set_option maxRecDepth 100000
set_option maxHeartbeats 4000000
/-! _law_turned -/
namespace Lw
open PySem PySem.Spec PyProof.Rows L2
abbrev sTurned : Stmt := topS 61
abbrev NTurned : List Str := ["_law_model_here", "_law_links", "_law_found", "_law_link", "_law_kind"]
theorem scTurned : FnScope NTurned ["_law_model_here"] (defScope sTurned) := ⟨rfl, rfl, rfl, by decide +kernel, rfl, by decide +kernel, by decide +kernel⟩
theorem upd_upd {H : Hp} {a : Addr} {o o' : HO} : upd (upd H a o) a o' = upd H a o' := by
  funext c
  by_cases e : c = a
  · subst e
    rw [upd_same, upd_same]
  · rw [upd_ne e, upd_ne e, upd_ne e]
theorem ne_of_none' {H : Hp} {a b : Addr} {o : HO} (h : H a = some o) (hb : H b = none) : b ≠ a := fun e => by rw [e, h] at hb; cases hb
section
variable {P : Program} {w : World} {K : PySem.W.Frag} {mg : Str → Option Value} {base : Heap}
def spTurned : Sp := fun vs H Q _ => ∃ (p m : Addr) (M : Md), vs = [.ref m] ∧ Pot H p ∧ MdAt p H m M ∧ M.Good ∧ ∀ m' M' H', Same H H' → H m' = none → MdAt p H' m' M' → Turn M M' → Q (.ref m') H'
theorem ok_turned {f : Addr} {fd : FuncData} (F : Fun K "_law_turned" "_law_turned" sTurned f fd) (B : Bl mg) (dn : mg "dict" = none) : FnOk P w K mg base CX0 1 f fd ["_law_model_here"] spTurned := by
  refine F.ok scTurned (fun vs H Q E h => ?_) (fun cdv A outer s H vs Q E hr h => ?_)
  · obtain ⟨p, m, M, rfl, _⟩ := h
    rfl
  · obtain ⟨p, m, M, rfl, hp, hm, g, q⟩ := h
    have hu := hu_of hr
    refine ⟨_, pss_cons (ps_set (i := 1) scTurned.nd rfl (.inl rfl) (pe_callB (cr_sortV hr) (by rfl) B.sorted (by decide +kernel) (by exact (pa_cons (pe_lc (own := [("_law_link", 3)]) (g := gName 3) (tt := tYes) (te := tTup (tCons (tOp (rIxT K) (tVar 3) (tC (.int 2))) (tCons (tOp (rIxT K) (tVar 3) (tC (.int 1))) (tCons (tOp (rIxT K) (tVar 3) (tC (.int 0))) tNil)))) (by rfl) scTurned.nd (pi_list (pe_dget hu (pv 0) pe_str (fun _ _ => rfl)))
        (blkOk_by (own := [("_law_link", 3)]) (N := NTurned) (sc := defScope sTurned) (by decide +kernel)) (fun _ _ _ _ _ => by exact (pg_name (i := 3) scTurned.nd rfl (Or.inl rfl))) (fun _ _ _ _ _ => pts_nil)
        (fun _ _ _ _ _ => by exact (pe_tup (pa_cons (pe_ix ix_tup (pv 3) pe_int (fun _ _ => rfl)) (pa_cons (pe_ix ix_tup (pv 3) pe_int (fun _ _ => rfl)) (pa_cons (pe_ix ix_tup (pv 3) pe_int (fun _ _ => rfl)) pa_nil)))))) pa_nil))))
      (pss_cons (ps_set (i := 2) scTurned.nd rfl (.inl rfl) (pe_callTy (call_dictP rfl) (by rfl) dn (by decide +kernel) (by exact (pa_cons (pe_lock (pe_lc (own := [("_law_kind", 4)]) (g := gName 4) (tt := tYes) (te := tTup (tCons (tVar 4) (tCons (tDGet (tVar 0) (tVar 4)) tNil))) (by rfl) scTurned.nd (pi_keys (pv 0))
        (blkOk_by (own := [("_law_kind", 4)]) (N := NTurned) (sc := defScope sTurned) (by decide +kernel)) (fun _ _ _ _ _ => by exact (pg_name (i := 4) scTurned.nd rfl (Or.inl rfl))) (fun _ _ _ _ _ => pts_nil)
        (fun _ _ _ _ _ => by exact (pe_tup (pa_cons (pv 4) (pa_cons (pe_dget (hu_of hr) (pv 0) (pv 4) (fun _ _ => rfl)) pa_nil)))))) pa_nil))))
      (pss_cons (ps_asg (pe_tup (pa_cons (pe_dget hu (pv 0) pe_str (fun _ _ => rfl)) (pa_cons (pe_dget hu (pv 0) pe_str (fun _ _ => rfl)) pa_nil))) (pg_tup (by rfl) (pgs_cons (pg_sub (pv 2) pe_str (set_dict hu)) (pgs_cons (pg_sub (pv 2) pe_str (set_dict hu)) pgs_nil))))
      (pss_cons (ps_dput hu (pv 2) pe_str (pv 1) (by rfl))
      (pss_one (ps_ret (pv 2)))))), ?_⟩
    obtain ⟨b, e, l, us, g1, g2, g3, g4, h5, n1, n2, n3⟩ := id hm
    have lu : us.length = M.T.length := by rw [Paired.len h5, List.length_map]
    have lT := g.tlen
    -- the steps turned about
    refine ⟨_, rfl, m, _, rfl, md_links g1, l, rfl, ⟨_, .inl (.inl g4)⟩, fun D hD => ?_⟩
    refine lc_it (walk_list (xs := us)) (fun i H' => Same H H' ∧ ∃ ts : List V, H' D = some (.lst ts) ∧ TrsAt H' ts ((M.T.take i).map flip)) ⟨Same.new' (Same.refl H) hD, [], upd_same, .nil⟩ (fun i H' _ h => .inl (.inl (h.1 _ _ g4))) (fun i v Ha Hb hi hv y => ?_) (fun H1 h1' => ?_)
    · obtain ⟨rfl, hx⟩ := y
      obtain ⟨sm, ts, hts, pts⟩ := hv
      obtain ⟨x, hx1, hx2, tx, rfl, htx⟩ := zip_at h5 hx
      have gx := sm _ _ htx
      refine ⟨rfl, _, rfl, tx, trV x, 2, .int x.2.2, rfl, rfl, .inl (.inl gx), rfl, _, rfl, tx, trV x, 1, .str (sgn x.2.1), rfl, rfl, .inl (.inl gx), rfl, _, rfl, tx, trV x, 0, .int x.1, rfl, rfl, .inl (.inl gx), rfl, by show 3 ≤ sizeLine; decide, fun T2 hT2 => ?_⟩
      have sT : Same Hb (upd Hb T2 (.tup [.int x.2.2, .str (sgn x.2.1), .int x.1])) := Same.new' (Same.refl Hb) hT2
      have nT : D ≠ T2 := ne_of_none hts hT2
      have lt : ts.length ≤ 196 := by
        rw [Paired.len pts, List.length_map, List.length_map, List.length_take]
        omega
      refine ⟨ts, sT _ _ hts, Nat.lt_of_le_of_lt lt (by decide), Same.mut' (sm.trans sT) hD, _, upd_same, ?_⟩
      rw [take_snoc hx1, List.map_append]
      show Paired _ _ (((M.T.take i).map flip ++ [x].map flip).map trV)
      rw [List.map_append]
      refine paired_snoc (Paired.imp2 (fun v d z => TupAt.keep (fun b o e nb => by rw [upd_ne nb]; exact sT _ _ e) hts z) pts) ⟨T2, rfl, ?_⟩
      rw [upd_ne nT.symm]
      exact upd_same
    obtain ⟨s1, ts, hts, pts⟩ := h1'
    rw [List.take_of_length_le (by omega)] at pts
    obtain ⟨c1, c2, c3, c4, c5⟩ := trs_sortable (K := K) hts pts
    obtain ⟨ts', T', pm, pw, pr', es⟩ := sort_trsN (by rw [Paired.len pts, List.length_map]) (flip_nodup g) pts
    refine ⟨D, _, rfl, c1, c2, c3, c4, c5, fun l2 hl2 => ?_⟩
    rw [es]
    have sL : Same H1 (upd H1 l2 (.lst ts')) := Same.new' (Same.refl H1) hl2
    have gL : (upd H1 l2 (.lst ts')) l2 = some (.lst ts') := upd_same
    have prL : TrsAt (upd H1 l2 (.lst ts')) ts' T' := Paired.imp2 (fun _ _ z => TupAt.same sL z) pr'
    have nl2 : l2 ≠ p := (Pot.ne (pot_same s1 hp) hl2).symm
    generalize (upd H1 l2 (.lst ts')) = HC at sL gL prL
    have sC := s1.trans sL
    have h1 := sC _ _ g1
    -- the copy
    refine ⟨m, _, h1, trivial, fun od => ?_⟩
    generalize hHL : upd HC m (.frz od (.dK (mdF M.L M.n b e l))) = HL
    have hmL : HL m = some (.frz od (.dK (mdF M.L M.n b e l))) := by rw [← hHL]; exact upd_same
    have keepL : ∀ b o, HC b = some o → b ≠ m → HL b = some o := fun b o e nb => by rw [← hHL, upd_ne nb]; exact e
    refine ⟨_, rfl, m, od, rfl, .inl ⟨_, hmL, fun D hD => ?_⟩⟩
    have nD : m ≠ D := ne_of_none hmL hD
    refine lc_it walk_keys (fun i H' => Same HL H' ∧ ∃ ps : List Addr, H' D = some (.lst (ps.map V.ref)) ∧ Paired (fun p kv => H' p = some (.tup [kV kv.1, kv.2])) ps ((mdF M.L M.n b e l).take i)) ⟨Same.new' (Same.refl HL) hD, [], upd_same, .nil⟩
      (fun i H' _ h => h.1 _ _ hmL) (fun i x Ha Hb hi hI y => ?_) (fun H2 h => ?_)
    · obtain ⟨rfl, k, v, hk, rfl⟩ := y
      obtain ⟨sm, ps, hps, pr⟩ := hI
      have hv : valV (mdF M.L M.n b e l) k = some v := valV_at (show ([.inr "signs", .inr "size", .inr "begins", .inr "finals", .inr "links"] : List Key).Nodup by decide) hk
      refine ⟨rfl, _, rfl, _, rfl, _, rfl, m, v, rfl, .inl ⟨_, k, .inr ⟨od, sm _ _ hmL⟩, rfl, hv.symm⟩, by show 2 ≤ sizeLine; decide, fun T hT => ?_⟩
      have sT : Same Hb (upd Hb T (.tup [kV k, v])) := Same.new' (Same.refl Hb) hT
      have nDT : D ≠ T := ne_of_none hps hT
      have lp : ps.length ≤ 5 := by
        rw [Paired.len pr, List.length_take]
        exact Nat.min_le_right _ _
      refine ⟨ps.map V.ref, sT _ _ hps, by rw [List.length_map]; exact Nat.lt_of_le_of_lt lp (by decide), Same.mut' (sm.trans sT) hD, ps ++ [T], by rw [upd_same, List.map_append]; rfl, ?_⟩
      rw [take_snoc hk]
      refine paired_snoc (Paired.imp2 (fun q kv z => ?_) pr) ?_
      · rw [upd_ne (fun e => by rw [e, hps] at z; cases z)]
        exact sT _ _ z
      · show (upd (upd Hb T (.tup [kV k, v])) D _) T = _
        rw [upd_ne nDT.symm, upd_same]
    obtain ⟨s2, ps, hps, pr⟩ := h
    refine ⟨s2 _ _ hmL, ?_⟩
    have s3 : Same HC (upd H2 m (.dK (mdF M.L M.n b e l))) := fun c o e => by
      by_cases ec : c = m
      · subst ec
        rw [upd_same]
        rw [h1] at e
        exact e
      · rw [upd_ne ec]
        exact s2 _ _ (keepL _ _ e ec)
    refine ⟨D, ps, mdF M.L M.n b e l, rfl, .inl (.inl (by rw [upd_ne nD.symm]; exact hps)), ?_, fun F0 hF0 => ?_⟩
    · refine Paired.imp2 (fun q kv z => .inl (.inl ?_)) pr
      rw [upd_ne (fun e => by rw [e, s2 _ _ hmL] at z; cases z)]
      exact z
    have s4 : Same HC (upd (upd H2 m (.dK (mdF M.L M.n b e l))) F0 (.dK (mergeK [] (mdF M.L M.n b e l)))) := s3.trans (Same.new' (Same.refl _) hF0)
    have hF4 : (upd (upd H2 m (.dK (mdF M.L M.n b e l))) F0 (.dK (mergeK [] (mdF M.L M.n b e l)))) F0 = some (.dK (mdF M.L M.n b e l)) := upd_same
    have fF : HC F0 = none := by
      cases ee : HC F0 with
      | none => rfl
      | some o => rw [s3 _ _ ee] at hF0; cases hF0
    generalize (upd (upd H2 m (.dK (mdF M.L M.n b e l))) F0 (.dK (mergeK [] (mdF M.L M.n b e l)))) = H4 at s4 hF4 ⊢
    have s04 := sC.trans s4
    have g14 := s04 _ _ g1
    refine ⟨_, rfl, m, _, rfl, md_finals g14, _, rfl, m, _, rfl, md_begins g14, by show 2 ≤ sizeLine; decide, fun T0 hT0 => ?_⟩
    have s5 : Same H4 (upd H4 T0 (.tup [.ref e, .ref b])) := Same.new' (Same.refl H4) hT0
    have g5 : (upd H4 T0 (.tup [.ref e, .ref b])) T0 = some (.tup [.ref e, .ref b]) := upd_same
    generalize (upd H4 T0 (.tup [.ref e, .ref b])) = H5 at s5 g5
    have hF5 := s5 _ _ hF4
    have put : ∀ {kvs : List (Key × V)} c u, H c = some u → (upd H5 F0 (.dK kvs)) c = some u := fun {kvs} c u ec => by
      rw [upd_ne (ne_of_none (sC _ _ ec) fF)]
      exact s5 _ _ (s04 _ _ ec)
    refine ⟨T0, _, rfl, .inl (.inl g5), rfl, _, _, rfl, _, rfl, F0, _, rfl, DPut.k (k := .inr "begins") hF5 (by show 5 < sizeLine; decide), ?_⟩
    refine ⟨_, _, rfl, _, rfl, F0, _, rfl, DPut.k (k := .inr "finals") upd_same (by show 5 < sizeLine; decide), rfl, ?_⟩
    refine ⟨_, rfl, _, rfl, F0, _, rfl, DPut.k (k := .inr "links") upd_same (by show 5 < sizeLine; decide), _, rfl, ?_⟩
    rw [upd_upd, upd_upd]
    have nF2 : F0 ≠ l2 := ne_of_none' gL fF
    have putC : ∀ {kvs : List (Key × V)} c u, HC c = some u → (upd H5 F0 (.dK kvs)) c = some u := fun {kvs} c u ec => by
      rw [upd_ne (ne_of_none ec fF)]
      exact s5 _ _ (s4 _ _ ec)
    refine q F0 ⟨M.L, M.n, M.E, M.S, T'⟩ _ (fun c u ec => put c u ec) (sC.free fF) ⟨e, b, l2, ts', upd_same, put _ _ g3, put _ _ g2, putC _ _ gL, Paired.imp2 (fun _ _ z => TupAt.same putC z) prL, n2, n1, nl2⟩ (turn_of g pw pm)
end
end Lw
set_option Elab.async false
set_option linter.all false
set_option maxRecDepth 100000
set_option maxHeartbeats 4000000
/-! _law_cut -/
namespace Lw
open PySem PySem.Spec PyProof.Rows L2
abbrev sCutL : Stmt := topS 62
abbrev NCutL : List Str := ["_law_model_here", "_law_front", "_law_back", "_law_found", "_law_state", "_law_kind"]
theorem scCutL : FnScope NCutL ["_law_model_here", "_law_front", "_law_back"] (defScope sCutL) := ⟨rfl, rfl, rfl, by decide +kernel, rfl, by decide +kernel, by decide +kernel⟩
section
variable {P : Program} {w : World} {K : PySem.W.Frag} {mg : Str → Option Value} {base : Heap}
def spCutL : Sp := fun vs H Q _ => ∃ (p m : Addr) (M : Md) (zf zb : Str), vs = [.ref m, .str zf, .str zb] ∧ Pot H p ∧ MdAt p H m M ∧ M.Good ∧ ∀ m' H', Same H H' → H m' = none → MdAt p H' m' (cutE (cutS M zf.cps.toList) zb.cps.toList) → Q (.ref m') H'
theorem ok_cutL {f : Addr} {fd : FuncData} (F : Fun K "_law_cut" "_law_cut" sCutL f fd) (B : Bl mg) (dn : mg "dict" = none) (Co : Def P w K mg base 2 "_law_come" ["_law_model_here", "_law_group", "_law_spelt"] spCome)
    (St : Def P w K mg base 1 "_law_stops" ["_law_model_here", "_law_group"] spStops) : FnOk P w K mg base CX0 3 f fd ["_law_model_here", "_law_front", "_law_back"] spCutL := by
  obtain ⟨fO, fdO, GO, gO, kO, bO⟩ := Co.ex
  obtain ⟨fT, fdT, GT, gT, kT, bT⟩ := St.ex
  refine F.ok scCutL (fun vs H Q E h => ?_) (fun cdv A outer s H vs Q E hr h => ?_)
  · obtain ⟨p, m, M, zf, zb, rfl, _⟩ := h
    rfl
  · obtain ⟨p, m, M, zf, zb, rfl, hp, hm, g, q⟩ := h
    have hu := hu_of hr
    refine ⟨_, pss_cons (ps_set (i := 3) scCutL.nd rfl (.inl rfl) (pe_callTy (call_dictP rfl) (by rfl) dn (by decide +kernel) (by exact (pa_cons (pe_lock (pe_lc (own := [("_law_kind", 5)]) (g := gName 5) (tt := tYes) (te := tTup (tCons (tVar 5) (tCons (tDGet (tVar 0) (tVar 5)) tNil))) (by rfl) scCutL.nd (pi_keys (pv 0))
        (blkOk_by (own := [("_law_kind", 5)]) (N := NCutL) (sc := defScope sCutL) (by decide +kernel)) (fun _ _ _ _ _ => by exact (pg_name (i := 5) scCutL.nd rfl (Or.inl rfl))) (fun _ _ _ _ _ => pts_nil)
        (fun _ _ _ _ _ => by exact (pe_tup (pa_cons (pv 5) (pa_cons (pe_dget (hu_of hr) (pv 0) (pv 5) (fun _ _ => rfl)) pa_nil)))))) pa_nil))))
      (pss_cons (ps_dput hu (pv 3) pe_str (pe_callTy call_list_of (by rfl) B.list (by decide +kernel) (by exact (pa_cons (pe_call GO hr rfl gO kO bO .nil pass0 (by exact (pa_cons (pv 0) (pa_cons (pe_dget hu (pv 0) pe_str (fun _ _ => rfl)) (pa_cons (pv 1) pa_nil))))) pa_nil))) (by rfl))
      (pss_cons (ps_dput hu (pv 3) pe_str (pe_lst pa_nil) (by rfl))
      (pss_cons (ps_for PassesOwn.never rfl (pi_range1 (by rfl) B.range (by exact (pa_cons (pe_dget hu (pv 0) pe_str (fun _ _ => rfl)) pa_nil))) (pg_name (i := 4) scCutL.nd rfl (.inl rfl))
        (pss_one (ps_if (pt_val (pe_call GT (hr.mono (by decide)) rfl gT kT bT .nil pass0 (by exact (pa_cons (pv 0) (pa_cons (pe_call GO hr rfl gO kO bO .nil pass0 (by exact (pa_cons (pv 0) (pa_cons (pe_lst (pa_cons (pv 4) pa_nil)) (pa_cons (pv 2) pa_nil))))) pa_nil)))))
          (pss_one (ps_expr (pe_bm PySem.F.plainAttrs_list PySem.F.slot_list_append PySem.F.type_list_append mt_append (pe_dget hu (pv 3) pe_str (fun _ _ => rfl)) (pa_cons (pv 4) pa_nil)))) pss_nil)))
      (pss_one (ps_ret (pv 3)))))), ?_⟩
    obtain ⟨b, e, l, us, h1, g2, g3, g4, h5, n1, n2, n3⟩ := id hm
    have hn1 := g.n1
    have hn7 := g.n7
    -- the copy
    refine ⟨m, _, h1, trivial, fun od => ?_⟩
    generalize hHL : upd H m (.frz od (.dK (mdF M.L M.n b e l))) = HL
    have hmL : HL m = some (.frz od (.dK (mdF M.L M.n b e l))) := by rw [← hHL]; exact upd_same
    have keepL : ∀ b o, H b = some o → b ≠ m → HL b = some o := fun b o e nb => by rw [← hHL, upd_ne nb]; exact e
    refine ⟨_, rfl, m, od, rfl, .inl ⟨_, hmL, fun D hD => ?_⟩⟩
    have nD : m ≠ D := ne_of_none hmL hD
    refine lc_it walk_keys (fun i H' => Same HL H' ∧ ∃ ps : List Addr, H' D = some (.lst (ps.map V.ref)) ∧ Paired (fun p kv => H' p = some (.tup [kV kv.1, kv.2])) ps ((mdF M.L M.n b e l).take i)) ⟨Same.new' (Same.refl HL) hD, [], upd_same, .nil⟩
      (fun i H' _ h => h.1 _ _ hmL) (fun i x Ha Hb hi hI y => ?_) (fun H2 h => ?_)
    · obtain ⟨rfl, k, v, hk, rfl⟩ := y
      obtain ⟨sm, ps, hps, pr⟩ := hI
      have hv : valV (mdF M.L M.n b e l) k = some v := valV_at (show ([.inr "signs", .inr "size", .inr "begins", .inr "finals", .inr "links"] : List Key).Nodup by decide) hk
      refine ⟨rfl, _, rfl, _, rfl, _, rfl, m, v, rfl, .inl ⟨_, k, .inr ⟨od, sm _ _ hmL⟩, rfl, hv.symm⟩, by show 2 ≤ sizeLine; decide, fun T hT => ?_⟩
      have sT : Same Hb (upd Hb T (.tup [kV k, v])) := Same.new' (Same.refl Hb) hT
      have nDT : D ≠ T := ne_of_none hps hT
      have lp : ps.length ≤ 5 := by
        rw [Paired.len pr, List.length_take]
        exact Nat.min_le_right _ _
      refine ⟨ps.map V.ref, sT _ _ hps, by rw [List.length_map]; exact Nat.lt_of_le_of_lt lp (by decide), Same.mut' (sm.trans sT) hD, ps ++ [T], by rw [upd_same, List.map_append]; rfl, ?_⟩
      rw [take_snoc hk]
      refine paired_snoc (Paired.imp2 (fun q kv z => ?_) pr) ?_
      · rw [upd_ne (fun e => by rw [e, hps] at z; cases z)]
        exact sT _ _ z
      · show (upd (upd Hb T (.tup [kV k, v])) D _) T = _
        rw [upd_ne nDT.symm, upd_same]
    obtain ⟨s2, ps, hps, pr⟩ := h
    refine ⟨s2 _ _ hmL, ?_⟩
    have s3 : Same H (upd H2 m (.dK (mdF M.L M.n b e l))) := fun c o e => by
      by_cases ec : c = m
      · subst ec
        rw [upd_same]
        rw [h1] at e
        exact e
      · rw [upd_ne ec]
        exact s2 _ _ (keepL _ _ e ec)
    refine ⟨D, ps, mdF M.L M.n b e l, rfl, .inl (.inl (by rw [upd_ne nD.symm]; exact hps)), ?_, fun F0 hF0 => ?_⟩
    · refine Paired.imp2 (fun q kv z => .inl (.inl ?_)) pr
      rw [upd_ne (fun e => by rw [e, s2 _ _ hmL] at z; cases z)]
      exact z
    have s4 : Same H (upd (upd H2 m (.dK (mdF M.L M.n b e l))) F0 (.dK (mergeK [] (mdF M.L M.n b e l)))) := s3.trans (Same.new' (Same.refl _) hF0)
    have hF4 : (upd (upd H2 m (.dK (mdF M.L M.n b e l))) F0 (.dK (mergeK [] (mdF M.L M.n b e l)))) F0 = some (.dK (mdF M.L M.n b e l)) := upd_same
    have fF : H F0 = none := by
      cases ee : H F0 with
      | none => rfl
      | some o => rw [s3 _ _ ee] at hF0; cases hF0
    generalize (upd (upd H2 m (.dK (mdF M.L M.n b e l))) F0 (.dK (mergeK [] (mdF M.L M.n b e l)))) = H4 at s4 hF4 ⊢
    have hm4 := MdAt.same s4 hm
    have g14 := s4 _ _ h1
    refine ⟨_, rfl, _, rfl, m, _, rfl, md_begins g14, _, rfl, p, m, b, M, M.S, zf, rfl, hm4, g, s4 _ _ g2, start_set g, fun lw H5 s5 gw => ?_⟩
    have lG := (come_set g (cs := zf.cps.toList) (start_set g)).len g
    have s05 := s4.trans s5
    have hF5 := s5 _ _ hF4
    refine ⟨lw, _, rfl, .inr (.inl (.inl gw)), fun l1 hl1 => ?_⟩
    have s6 : Same H5 (upd H5 l1 (.lst ((come M.T M.S zf.cps.toList).map V.int))) := Same.new' (Same.refl H5) hl1
    have g6 : (upd H5 l1 (.lst ((come M.T M.S zf.cps.toList).map V.int))) l1 = some (.lst ((come M.T M.S zf.cps.toList).map V.int)) := upd_same
    generalize (upd H5 l1 (.lst ((come M.T M.S zf.cps.toList).map V.int))) = H6 at s6 g6
    have s06 := s05.trans s6
    have f1 : H l1 = none := s05.free hl1
    refine ⟨_, rfl, F0, _, rfl, DPut.k (k := .inr "begins") (s6 _ _ hF5) (by show 5 < sizeLine; decide), by show 0 ≤ sizeLine; decide, fun l2 hl2 => ?_⟩
    have s07 : Same H (upd H6 F0 (.dK (putK (mdF M.L M.n b e l) (.inr "begins") (.ref l1)))) := fun c u ec => by
      rw [upd_ne (ne_of_none ec fF)]
      exact s06 _ _ ec
    have g71 : (upd H6 F0 (.dK (putK (mdF M.L M.n b e l) (.inr "begins") (.ref l1)))) l1 = some (.lst ((come M.T M.S zf.cps.toList).map V.int)) := by
      rw [upd_ne (ne_of g6 (s6 _ _ hF5) (fun z => nomatch z))]
      exact g6
    have g7F : (upd H6 F0 (.dK (putK (mdF M.L M.n b e l) (.inr "begins") (.ref l1)))) F0 = some (.dK (mdF M.L M.n l1 e l)) := upd_same
    generalize (upd H6 F0 (.dK (putK (mdF M.L M.n b e l) (.inr "begins") (.ref l1)))) = H7 at s07 g71 g7F hl2
    have f2 : H l2 = none := s07.free hl2
    have s8 : Same H7 (upd H7 l2 (.lst [])) := Same.new' (Same.refl H7) hl2
    have g8 : (upd H7 l2 (.lst [])) l2 = some (.lst []) := upd_same
    generalize (upd H7 l2 (.lst [])) = H8 at s8 g8
    have g8F := s8 _ _ g7F
    have g81 := s8 _ _ g71
    have n12 : l1 ≠ l2 := ne_of_none g71 hl2
    refine ⟨_, rfl, F0, _, rfl, DPut.k (k := .inr "finals") g8F (by show 5 < sizeLine; decide), ?_⟩
    have s09 : Same H (upd H8 F0 (.dK (putK (mdF M.L M.n l1 e l) (.inr "finals") (.ref l2)))) := fun c u ec => by
      rw [upd_ne (ne_of_none ec fF)]
      exact s8 _ _ (s07 _ _ ec)
    have g91 : (upd H8 F0 (.dK (putK (mdF M.L M.n l1 e l) (.inr "finals") (.ref l2)))) l1 = some (.lst ((come M.T M.S zf.cps.toList).map V.int)) := by
      rw [upd_ne (ne_of g81 g8F (fun z => nomatch z))]
      exact g81
    have g92 : (upd H8 F0 (.dK (putK (mdF M.L M.n l1 e l) (.inr "finals") (.ref l2)))) l2 = some (.lst []) := by
      rw [upd_ne (ne_of g8 g8F (fun z => nomatch z))]
      exact g8
    have g9F : (upd H8 F0 (.dK (putK (mdF M.L M.n l1 e l) (.inr "finals") (.ref l2)))) F0 = some (.dK (mdF M.L M.n l1 l2 l)) := upd_same
    generalize (upd H8 F0 (.dK (putK (mdF M.L M.n l1 e l) (.inr "finals") (.ref l2)))) = H9 at s09 g91 g92 g9F
    refine ⟨_, rfl, m, _, rfl, md_size (s09 _ _ h1), M.n, rfl, by omega, by omega, ?_⟩
    refine for_it walk_range (fun i σ H' => Same H H' ∧ H' l1 = some (.lst ((come M.T M.S zf.cps.toList).map V.int)) ∧ H' F0 = some (.dK (mdF M.L M.n l1 l2 l)) ∧
        H' l2 = some (.lst (((((List.range i).map fun j : Nat => (j : Int)).filter fun k => ends M (come M.T [k] zb.cps.toList))).map V.int)) ∧ ∃ u4 : Option V, σ = [some (.ref m), some (.str zf), some (.str zb), some (.ref F0), u4, none])
      ⟨s09, g91, g9F, g92, none, rfl⟩ (fun _ _ _ _ _ => trivial) (fun i x σ Ha Hb hi hI y => ?_) (fun σ H' h => ?_)
    · obtain ⟨rfl, rfl⟩ := y
      obtain ⟨sa, k1, kF, k2, u4, rfl⟩ := hI
      have hk : SetOf M [(0 + (i : Int))] := ⟨List.pairwise_singleton _ _, fun k h => by rw [List.mem_singleton.mp h]; omega⟩
      refine ⟨_, rfl, _, rfl, _, rfl, by show 1 ≤ sizeLine; decide, fun l3 hl3 => ?_⟩
      have s10 : Same Hb (upd Hb l3 (.lst [.int (0 + (i : Int))])) := Same.new' (Same.refl Hb) hl3
      have g10 : (upd Hb l3 (.lst [.int (0 + (i : Int))])) l3 = some (.lst (([(0 + (i : Int))] : List Int).map V.int)) := upd_same
      generalize (upd Hb l3 (.lst [.int (0 + (i : Int))])) = H10 at s10 g10
      have lG2 := (come_set g (cs := zb.cps.toList) hk).len g
      refine ⟨_, rfl, p, m, l3, M, _, zb, rfl, MdAt.same (sa.trans s10) hm, g, g10, hk, fun lv H11 s11 gv => ?_⟩
      have s111 := s10.trans s11
      refine ⟨p, m, lv, M, _, rfl, MdAt.same (sa.trans s111) hm, g, gv, by omega, fun H12 s12 => ⟨_, rfl, ?_⟩⟩
      have sz := s111.trans s12
      have er : (((List.range (i + 1)).map fun j : Nat => (j : Int)).filter fun k => ends M (come M.T [k] zb.cps.toList)) = (((List.range i).map fun j : Nat => (j : Int)).filter fun k => ends M (come M.T [k] zb.cps.toList)) ++ (if ends M (come M.T [0 + (i : Int)] zb.cps.toList) = true then [0 + (i : Int)] else []) := by
        rw [List.range_succ, List.map_append, List.filter_append]
        congr 1
        show (([(i : Int)] : List Int).filter _) = _
        rw [Int.zero_add]
        by_cases h : ends M (come M.T [(i : Int)] zb.cps.toList) = true <;> simp [h]
      cases ed : ends M (come M.T [0 + (i : Int)] zb.cps.toList) with
      | true =>
        rw [ed, if_pos rfl] at er
        refine iteT ⟨_, rfl, F0, _, rfl, md_finals (sz _ _ kF), .inl ⟨rfl, _, .inl (.inl (sz _ _ k2))⟩, _, rfl, l2, _, _, rfl, rfl, sz _ _ k2, ?_, ?_⟩
        · rw [List.length_map]
          exact Nat.lt_of_le_of_lt (Nat.le_trans (List.length_filter_le _ _) (by rw [List.length_map, List.length_range]; show i ≤ 1000; omega)) (by decide)
        · refine ⟨fun c u ec => ?_, ?_, ?_, ?_, _, rfl⟩
          · rw [upd_ne (ne_of_none ec f2)]
            exact sz _ _ (sa _ _ ec)
          · rw [upd_ne n12]
            exact sz _ _ k1
          · rw [upd_ne (ne_of kF k2 (fun z => nomatch z))]
            exact sz _ _ kF
          · rw [upd_same, er, List.map_append]
            rfl
      | false =>
        rw [ed, if_neg (by decide), List.append_nil] at er
        refine iteF ⟨sa.trans sz, sz _ _ k1, sz _ _ kF, ?_, _, rfl⟩
        rw [er]
        exact sz _ _ k2
    · obtain ⟨sa, k1, kF, k2, u4, rfl⟩ := h
      have g0 := cutS_good g zf.cps.toList
      have eb : back (cutS M zf.cps.toList).T (cutS M zf.cps.toList).n (cutS M zf.cps.toList).E zb.cps.toList = back M.T M.n M.E zb.cps.toList := rfl
      rw [← back_filter g] at k2
      refine ⟨_, rfl, q F0 H' sa fF ⟨l1, l2, l, us, kF, k1, k2, sa _ _ g4, Paired.imp2 (fun _ _ z => TupAt.same sa z) h5, ?_, ?_, n3⟩⟩
      · obtain ⟨x, y, e, _⟩ := id hp
        exact fun z => by rw [z, e] at f1; cases f1
      · obtain ⟨x, y, e, _⟩ := id hp
        exact fun z => by rw [z, e] at f2; cases f2
end
end Lw
set_option Elab.async false
set_option linter.all false
set_option maxRecDepth 100000
set_option maxHeartbeats 4000000
/-! sorted of a text: its signs -/
namespace Lw
open PySem PySem.Spec PyProof.Rows L2
/-- the items of a text that has been gone through are its signs -/
theorem signs_are {z : Str} {acc : Array Value} (it : ItemsOf (SignAt z) acc z.cps.size) : StrsAre acc.toList (z.cps.toList.map sgn) ∧ acc.toList.length = z.cps.size := by
  have n : acc.toList.length = z.cps.size := by rw [Array.length_toList, it.1]
  refine ⟨strs_at (by rw [n, List.length_map, Array.length_toList]) fun j v e => ?_, n⟩
  rw [Array.getElem?_toList] at e
  obtain ⟨c, tk, hc, rfl⟩ := it.2 j v e
  exact ⟨sgn c, tk, by rw [List.getElem?_map, Array.getElem?_toList, hc]; rfl, rfl⟩
section
variable {X : Cx} {pins : List (Addr × Obj)} {σ : L2.St} {H : Hp} {s : Shared}
/-- a list of texts that has just been made is sorted in its place -/
theorem sort_fresh {vs : List Value} {zs : List Str} {Q : VK} (I : Inv X pins σ H s) (hS : StrsAre vs zs) (n : vs.length < 64) (nz : zs.length < 64)
    (q : ∀ ys p, ys.Perm zs → sortedS ys = true → H p = none → Q (.ref p) (upd H p (.lst (ys.map V.str)))) :
    wpAny (model X.prog X.w) X.A.in1 (do let l ← newList vs; let _ ← holding [l] (call (.builtin "list.sort") [l] []); ret l)
      (fun fin s' => ∃ v, fin = .done (.ret v) ∧ EP X pins σ Q v s') X.xe s := by
  have at0 : (s.heap.push (seqObj "list" vs.toArray 0)).get? s.heap.objs.size = some (seqObj "list" vs.toArray 0) := Heap.get?_push_size _ rfl
  refine wpAny_bind (wpAny_newList ?_ (by rw [sizeLine_eq]; omega)); show wpAny _ _ _ _ _ { s with heap := s.heap.push (seqObj "list" vs.toArray 0) }
  refine wpAny_bind (wpAny_holding (wpAny_call_entry slot_list_sort ⟨_, at0, rfl⟩ entry_list_sort (list_sort_treeK strKind_oneLt (s := { s with heap := s.heap.push (seqObj "list" vs.toArray 0) }) at0 hS.keysOf (fun _ _ _ e => keyKind_strs (by rw [← e]; exact hS)) n fun t hp hs => ⟨_, rfl, ?_⟩) (args_list_sort _)))
  obtain ⟨ys, r1, r2, r3⟩ := sorted_out_str hS hp hs; obtain ⟨ep, at1⟩ := sortedHeap_at (vs := vs) (out := (arrOf t).map (·.2)) at0
  have ny : (ys.map V.str).length ≤ sizeLine := by rw [List.length_map, r2.length_eq]; exact Nat.le_trans (Nat.le_of_lt nz) (by decide)
  refine wpAny_pure ⟨_, rfl, .ref s.heap.objs.size, upd H s.heap.objs.size (.lst (ys.map V.str)), I.laid (t' := s.toks) (fun b u e => ?_) (Nat.le_refl _) ⟨ny, ((arrOf t).map (·.2)).toList, ep, vals_of_strs r1, by rw [Array.toArray_toList]; exact at1⟩, rfl, q ys _ r2 r3 (I.hok.fresh (Nat.le_refl _))⟩
  have lb : b < s.heap.objs.size := Heap.lt_size e
  exact (sortedHeap_old (Nat.ne_of_lt lb) (by rw [size_push']; exact Nat.lt_succ_of_lt lb)).trans (Heap.get?_push_of_some _ e)
end
section
variable {X : Cx}
theorem call_sortedTxt (hc : X.calm = true) : CallR X (.builtin "sorted") (fun xs H Q => ∃ z : Str, xs = [.str z] ∧ z.length < 64 ∧ ∀ ys p, ys.Perm (z.cps.toList.map sgn) → sortedS ys = true → H p = none → Q (.ref p) (upd H p (.lst (ys.map V.str)))) := by
  intro pins s σ H xs us Q I r ⟨z, ez, n, q⟩
  subst ez
  obtain ⟨u, rfl, t, rfl⟩ := vals1 r
  have n : z.cps.size < 64 := n
  refine Calls.call_function_entry kind_sorted plain_sorted entry_sorted (args_sorted1 _) (by
    unfold Builtin.«sorted»
    refine wpAny_bind (m := checkCount "sorted" 1 1 _) (wpAny_pure (wpAny_bind ?_))
    refine wpAny_collect_str (A := X.A.in1) (I.ok.hd hc) z t (fun s2 acc hk hg hd ho it => ?_) (by rw [sizeLine_eq]; omega)
    obtain ⟨hS, nS⟩ := signs_are it
    have e2 : s2 = { s with heap := s2.heap, toks := s2.toks } := by
      obtain ⟨_, _, _, _, _⟩ := s2
      obtain ⟨_, _, _, _, _⟩ := s
      simp only at hg hd ho
      subst hg hd ho
      rfl
    rw [e2]
    exact sort_fresh (I.kept hk) hS (by omega) (by rw [List.length_map, Array.length_toList]; exact n) q)
end
end Lw
set_option Elab.async false
set_option linter.all false
set_option maxRecDepth 100000
set_option maxHeartbeats 4000000
/-! books compared with books and with other values; letters made wider -/
namespace Lw
open PySem PySem.Spec PyProof.Rows L2
/-! all sequences of some items -/
def inss {α : Type} (x : α) : List α → List (List α)
  | [] => [[x]]
  | y :: r => (x :: y :: r) :: (inss x r).map (y :: ·)
def prms {α : Type} : List α → List (List α)
  | [] => [[]]
  | x :: r => (prms r).flatMap (inss x)
theorem mem_inss {α : Type} {x : α} : ∀ {a b : List α}, a ++ x :: b ∈ inss x (a ++ b)
  | [], [] => by simp [inss]
  | [], y :: r => by simp [inss]
  | y :: a, b => by
    show y :: (a ++ x :: b) ∈ (x :: y :: (a ++ b)) :: (inss x (a ++ b)).map (y :: ·)
    exact List.mem_cons_of_mem _ (List.mem_map.mpr ⟨_, mem_inss (a := a), rfl⟩)
theorem mem_prms {α : Type} : ∀ {zs ys : List α}, ys.Perm zs → ys ∈ prms zs
  | [], ys, h => by rw [List.perm_nil.mp h]; exact List.mem_singleton.mpr rfl
  | x :: r, ys, h => by
    obtain ⟨a, b, rfl⟩ := List.append_of_mem (h.mem_iff.mpr List.mem_cons_self)
    have h2 : (a ++ b).Perm r := (List.perm_cons x).mp (List.perm_middle.symm.trans h)
    exact List.mem_flatMap.mpr ⟨_, mem_prms h2, mem_inss⟩
/-- the letters and a c -/
theorem wider_all : ∀ L ∈ LETS, L.length < 4 → ∀ ys ∈ prms ((L ++ sgn 99).cps.toList.map sgn), sortedS ys = true →
    lettersV (.str (Txt.join "" ys)) = true ∧ Txt.join "" ys ≠ L ∧ (∀ c ∈ L.cps.toList, c ∈ (Txt.join "" ys).cps.toList) := by decide +kernel
theorem off_all : ∀ L ∈ LETS, ∀ c ∈ ("cdexy" : Str).cps.toList, c ∉ L.cps.toList := by decide +kernel
theorem LETS_len : ∀ L ∈ LETS, L.length ≤ 4 := by decide +kernel
/-- kinds that a book is not -/
def kinds : List Value := [.type "NoneType", .type "int", .type "str", .type "list", .type "tuple", .type "dict"]
structure EqUse (P : Program) (w : World) (K : PySem.W.Frag) (mg : Str → Option Value) (base : Heap) (C : Addr) : Prop where
  U : BkUse P w K mg base C
  Te : BkE K C
  eq : ∃ (g : Addr) (fd : FuncData), OwnM K C "__eq__" g fd ["self", "other"] ∧ FnOk P w K mg base CX0 1 g fd ["self", "other"] (spBEq K C)
  ne : PySem.W.findIn K (.ref C) "__ne__" = some (some (.builtin "object.__ne__"))
  kinds : ∀ t ∈ Lw.kinds, PySem.W.notFirst K C t = true ∧ PySem.W.kitOne K t (.ref C) = some false
section
variable {K : PySem.W.Frag} {H : Hp} {C : Addr}
theorem BookM.ins {a sd : Addr} {M : Md} (h : BookM H C a sd M) : IsIns H C (.ref a) := by
  obtain ⟨zs, ⟨dx, st, en, ld, uz, k1, _⟩, _⟩ := h
  exact ⟨a, dx, _, rfl, k1⟩
theorem beq_bk {a a' sd sd' : Addr} {M M' : Md} {Q : VK} {E : XK} (g : M.Good) (g' : M'.Good) (h : BookM H C a sd M) (h' : BookM H C a' sd' M') (q : Q (.bl (decide (M = M'))) H) : spBEq K C [.ref a, .ref a'] H Q E := by
  obtain ⟨zs, hb, e⟩ := h.at_
  obtain ⟨zs', hb', e'⟩ := h'.at_
  refine ⟨a, _, M.L, M.n, _, _, zs, rfl, hb, .inl ⟨a', M'.L, M'.n, _, _, zs', rfl, hb', plain_ints, plain_ints, plain_ints, plain_ints, g.n7, g'.n7, bk_shaped g e, bk_shaped g' e', ?_⟩⟩
  rw [eqv_bk e e']
  exact q
theorem beq_odd {a sd : Addr} {M : Md} {v : V} {t : Value} {Q : VK} {E : XK} (h : BookM H C a sd M) (ht : TyX K H v t) (hk : PySem.W.kitOne K t (.ref C) = some false) (q : Q (.bl false) H) : spBEq K C [.ref a, v] H Q E := by
  obtain ⟨zs, hb, e⟩ := h.at_
  exact ⟨a, v, M.L, M.n, _, _, zs, rfl, hb, .inr ⟨t, ht, hk, q⟩⟩
/-- x == y, x != y: of two books -/
theorem eq_bk {a a' sd sd' : Addr} {M M' : Md} {Q : VK} {E : XK} (g : M.Good) (g' : M'.Good) (h : BookM H C a sd M) (h' : BookM H C a' sd' M') (q : Q (.bl (decide (M = M'))) H) : rEqI K C (spBEq K C) E (.ref a) (.ref a') H Q :=
  ⟨h.ins, .inl h'.ins, beq_bk g g' h h' ⟨⟨_, rfl⟩, q⟩⟩
/-- x != y -/
def rNeI (K : PySem.W.Frag) (C : Addr) (sp : Sp) (E : XK) : R2 := fun x y H Q => IsIns H C x ∧ (IsIns H C y ∨ ∃ t, TyX K H y t ∧ PySem.W.notFirst K C t = true) ∧ sp [x, y] H (fun v H' => ∃ b, v = .bl b ∧ Q (.bl (!b)) H') E
theorem ne_bk {a a' sd sd' : Addr} {M M' : Md} {Q : VK} {E : XK} (g : M.Good) (g' : M'.Good) (h : BookM H C a sd M) (h' : BookM H C a' sd' M') (q : Q (.bl (!decide (M = M'))) H) : rNeI K C (spBEq K C) E (.ref a) (.ref a') H Q :=
  ⟨h.ins, .inl h'.ins, beq_bk g g' h h' ⟨_, rfl, q⟩⟩
theorem eq_odd {a sd : Addr} {M : Md} {v : V} {t : Value} {Q : VK} {E : XK} (h : BookM H C a sd M) (ht : TyX K H v t) (hn : PySem.W.notFirst K C t = true) (hk : PySem.W.kitOne K t (.ref C) = some false) (q : Q (.bl false) H) : rEqI K C (spBEq K C) E (.ref a) v H Q :=
  ⟨h.ins, .inr ⟨t, ht, hn⟩, beq_odd h ht hk ⟨⟨_, rfl⟩, q⟩⟩
theorem ne_odd {a sd : Addr} {M : Md} {v : V} {t : Value} {Q : VK} {E : XK} (h : BookM H C a sd M) (ht : TyX K H v t) (hn : PySem.W.notFirst K C t = true) (hk : PySem.W.kitOne K t (.ref C) = some false) (q : Q (.bl true) H) : rNeI K C (spBEq K C) E (.ref a) v H Q :=
  ⟨h.ins, .inr ⟨t, ht, hn⟩, beq_odd h ht hk ⟨_, rfl, q⟩⟩
end
end Lw
set_option Elab.async false
set_option linter.all false
set_option maxRecDepth 100000
set_option maxHeartbeats 4000000
/-! xs != ys, lists of instances that are pairwise equal by their own == -/
namespace Lw
open PySem PySem.Spec PyProof.Rows L2 GQ PySem.SeqAt MeetsSeq MeetsSeq2 MeetsSeq3 SeqRoads2
open AutoSeq1 (wpAny_loadPart')
section
variable {P : Program} {w : World} {A : Around} {R : Result → Shared → Prop}
theorem ne_loopG (l b : Addr) (N : Nat) (I : Nat → Shared → Prop) (hl : ListI P w A (fun e s' => R (.error e) s') l b N I) (fin : ∀ s, I N s → R (.ok (.ret (.bool false))) s) : ∀ (k i : Nat), N - i = k → i ≤ N → ∀ s, I i s →
    wpAny (model P w) A.in1 (Builtin.«list.__eq__.loop» ⟨[.ref l, .ref b, rawInt i, rawInt 3], []⟩) (FinOf P w A R) (fun e s' => R (.error e) s') s := by
  intro k
  induction k with
  | zero =>
    intro i hk hi s h
    obtain ⟨xs, ys, n, n2, g1, g2, z1, z2, _⟩ := hl _ _ h
    have ei : i = N := by omega
    have done : R (.ok (.ret (.bool false))) s := fin s (ei ▸ h)
    obtain ⟨hp, gg, d, tk, os⟩ := s
    wp_walk using wpAny_loadPart' g1, wpAny_loadPart' g2
    have o1 : xs[((i : Nat) : Int).toNat]? = none := by simp; omega
    have o2 : ys[((i : Nat) : Int).toNat]? = none := by simp; omega
    rw [o1, o2]
    wp_walk using wpAny_loadPart' g1, wpAny_loadPart' g2
    show R (.ok (.ret (.bool (xs.size != ys.size)))) _
    rw [z1, z2]
    simpa using done
  | succ k ih =>
    intro i hk hi s h
    obtain ⟨xs, ys, n, n2, g1, g2, z1, z2, turn⟩ := hl _ _ h
    have lt1 : i < xs.size := by omega
    have lt2 : i < ys.size := by omega
    have tn := turn lt1 lt2
    obtain ⟨hp, gg, d, tk, os⟩ := s
    wp_walk using wpAny_loadPart' g1, wpAny_loadPart' g2
    have o1 : xs[((i : Nat) : Int).toNat]? = some xs[i] := by simp [lt1]
    have o2 : ys[((i : Nat) : Int).toNat]? = some ys[i] := by simp [lt2]
    have ec : ((i : Int) + 1) = ((i + 1 : Nat) : Int) := by omega
    rw [o1, o2]
    refine wpAny_bind (wpAny_mono tn (fun r s2 z => ?_) fun _ _ x => x)
    obtain ⟨rfl, z⟩ := z
    have next := ih (i + 1) (by omega) (by omega) s2 z
    obtain ⟨hp2, gg2, d2, tk2, os2⟩ := s2
    wp_walk
    rw [ec]
    refine ⟨plainId_quiet plain_eq_loop _, codeAny_builtin entry_eq_loop ?_⟩
    rw [Around.under_plainId plain_eq_loop _]
    exact next
theorem list_neG (l b : Addr) (N : Nat) (I : Nat → Shared → Prop) (hl : ListI P w A (fun e s' => R (.error e) s') l b N I) (fin : ∀ s, I N s → R (.ok (.ret (.bool false))) s) {s : Shared} (h : I 0 s) :
    wpAny (model P w) A.in1 (Builtin.«list.__ne__» ⟨[.ref l, .ref b], []⟩) (FinOf P w A R) (fun e s' => R (.error e) s') s := by
  obtain ⟨xs, ys, n, n2, g1, g2, z1, z2, _⟩ := hl _ _ h
  have loop := ne_loopG (A := A) (R := R) l b N I hl fin _ 0 rfl (Nat.zero_le _) s h
  obtain ⟨hp, gg, d, tk, os⟩ := s
  have sb := AutoSeq1.sub_list_list
  have same : ¬ (xs.size != ys.size) = true := by simp [z1, z2]
  wp_walk using wpAny_loadPart' g1, wpAny_loadPart' g2
  refine ⟨plainId_quiet plain_eq_loop _, codeAny_builtin entry_eq_loop ?_⟩
  rw [Around.under_plainId plain_eq_loop _]
  exact loop
end
section
variable {P : Program} {w : World} {A : Around} {E : Value → Shared → Prop} {s : Shared}
theorem rc_listNe {l b : Addr} {N : Nat} {Q : Value → Shared → Prop} (hu : A.units < cLine) (I : Nat → Shared → Prop) (hl : ListI P w A E l b N I) (fin : ∀ s, I N s → Q (.bool false) s) (h : I 0 s) : wpAny (model P w) A (richCompare .NotEq (.ref l) (.ref b)) Q E s := by
  obtain ⟨xs, ys, n, n2, g1, g2, _, _, _⟩ := hl _ _ h
  refine wpAny_richCompare_same_room (op := .NotEq) ⟨_, g1, rfl⟩ ⟨_, g2, rfl⟩ PySem.F.slot_list_ne (call_here PySem.F.slot_list_ne ⟨_, g1, rfl⟩ PySem.F.entry_list_ne (PySem.F.args_list_ne_2 _ _) ?_) hu
  exact list_neG (R := wants (fun v s' => v ≠ .notImplemented ∧ Q v s') E) l b N I hl (fun s' q => ⟨(fun x => nomatch x), fin s' q⟩) h
end
section
variable {X : Cx} {n : Nat} {D : Eqv}
/-- as rcG_list, of != -/
def rNeG (D : Eqv) : R2 := fun x y H Q => DList D x y H ∧ ∀ H', Ext H H' → Q (.bl false) H'
theorem op_neL (hD : Mon D) (h : EqG X n D) (hr : Room (n + 1) X.A) : OpR X (compareOp .NotEq) (rNeG D) := by
  intro pins s σ H x y v u Q I rx ry hq
  obtain ⟨⟨a, b, xs, ys, rfl, rfl, ha, hb, p⟩, q⟩ := hq
  cases rx
  cases ry
  show wpAny (model X.prog X.w) X.A (richCompare .NotEq (.ref a) (.ref b)) (EP X pins σ Q) X.xe s
  refine rc_listNe (N := xs.length) hr.units0 (fun _ s' => LoopI X pins σ H s') (fun i s' z => ?_) (fun s' z => ?_) ⟨H, I, Ext.rfl'⟩
  · obtain ⟨H1, I1, e1⟩ := id z
    obtain ⟨_, its, k, r, e⟩ := I1.hok a _ (e1 _ _ ha)
    obtain ⟨_, its2, k2, r2, e2⟩ := I1.hok b _ (e1 _ _ hb)
    exact ⟨its.toArray, its2.toArray, k, k2, e, e2, by rw [List.size_toArray, ← r.length], by rw [List.size_toArray, ← r2.length, ← p.1], fun h1 h2 => turnG hD h ⟨hr, rfl⟩ p r r2 i h1 h2 s' z⟩
  · obtain ⟨H', I', e⟩ := z
    exact ⟨.bl false, H', I', rfl, q H' e⟩
/-- two books of one model -/
def TwoBk (C : Addr) : Addr → Addr → Hp → Prop := fun a b H => ∃ (M : Md) (sd sd' : Addr), M.Good ∧ BookM H C a sd M ∧ BookM H C b sd' M
theorem twoBk_mon {C : Addr} : Mon (DIns C (TwoBk C)) := mon_ins fun a b H H' e r => by
  obtain ⟨M, sd, sd', g, h1, h2⟩ := r
  exact ⟨M, sd, sd', g, h1.same e, h2.same e⟩
theorem twoBk_eq {CX : CXT} {C f : Addr} {fd : FuncData} {E : XK} (F : FnOk X.prog X.w X.K X.mg X.base CX n f fd ["self", "other"] (spBEq X.K C)) (M : OwnM X.K C "__eq__" f fd ["self", "other"]) (hx : Passes CX X E) : EqG X n (DIns C (TwoBk C)) := by
  have F2 : FnOk X.prog X.w X.K X.mg X.base CX n f fd ["self", "other"] (spEq (TwoBk C)) := F.imp fun vs H Q E h => by
    obtain ⟨a, b, rfl, ⟨M, sd, sd', g, h1, h2⟩, q⟩ := h
    refine beq_bk g g h1 h2 ?_
    rw [decide_eq_true (rfl : M = M)]
    exact q H Ext.rfl'
  exact eqG_ins F2 M.at_ M.fn M.b hx
end
end Lw
set_option Elab.async false
set_option linter.all false
set_option maxRecDepth 100000
set_option maxHeartbeats 4000000
/-! _law_turned_right -/
namespace Lw
open PySem PySem.Spec PyProof.Rows L2
abbrev sTR : Stmt := topS 63
abbrev NTR : List Str := ["_law_pot_here", "_law_model_here", "_law_tome", "_law_turned_here", "_law_lot", "_law_spelt"]
theorem scTR : FnScope NTR ["_law_pot_here", "_law_model_here", "_law_tome"] (defScope sTR) := ⟨rfl, rfl, rfl, by decide +kernel, rfl, by decide +kernel, by decide +kernel⟩
/-- how a book is turned, cut and asked -/
structure BkTc (P : Program) (w : World) (K : PySem.W.Frag) (mg : Str → Option Value) (base : Heap) (C : Addr) : Prop where
  inv : ∃ (g : Addr) (fd : FuncData), OwnM K C "__invert__" g fd ["self"] ∧ FnOk P w K mg base CX0 7 g fd ["self"] (spInv C)
  rsh : ∃ (g : Addr) (fd : FuncData), BinRM K C "rshift" g fd ["self", "other"] ∧ FnOk P w K mg base CX0 8 g fd ["self", "other"] (spRsh C)
  lsh : ∃ (g : Addr) (fd : FuncData), BinM K C "lshift" "str" g fd ["self", "other"] ∧ FnOk P w K mg base CX0 8 g fd ["self", "other"] (spLsh C)
  con : ∃ (g : Addr) (fd : FuncData), OwnM K C "__contains__" g fd ["self", "x"] ∧ FnOk P w K mg base CX0 4 g fd ["self", "x"] (spCon C)
theorem inv_use {C p a sd : Addr} {H : Hp} {M M' : Md} {Q : VK} {E : XK} (t : Turn M M') (hp : Pot H p) (hb : BookM H C a sd M) (g : M.Good) (q : ∀ b sb H', Same H H' → H b = none → H sb = none → BookM H' C b sb M' → Q (.ref b) H') : spInv C [.ref a] H Q E := by
  refine ⟨p, a, sd, M, M'.T, rfl, hp, hb, g, t.g.t, t.t, fun b sb H' s f1 f2 k => q b sb H' s f1 f2 ?_⟩
  have e : (⟨M.L, M.n, M.E, M.S, M'.T⟩ : Md) = M' := md_ext t.l.symm t.n.symm t.s.symm t.e.symm rfl
  rw [e] at k
  exact k
theorem ends_eq {M : Md} {z : Str} : ends M (come M.T M.S z.cps.toList) = rdsM M z.cps.toList := rfl
theorem rev_list (z : Str) : (revStr z).cps.toList = z.cps.toList.reverse := by
  show (z.cps.toList.reverse.toArray).toList = _
  rw [List.toList_toArray]
theorem RowL.rev {L z : Str} {k : Nat} (h : RowL L k z) : RowL L k (revStr z) := by
  refine ⟨fun c hc => h.1 c (List.mem_reverse.mp (by rw [← rev_list]; exact hc)), ?_⟩
  show (z.cps.toList.reverse.toArray).size ≤ k
  rw [List.size_toArray, List.length_reverse, Array.length_toList]
  exact h.2
theorem Turn.row {M M' : Md} {z : Str} (t : Turn M M') (h : RowOf M z) : RowOf M' z := ⟨fun c hc => by rw [t.l]; exact h.1 c hc, h.2⟩
section
variable {P : Program} {w : World} {K : PySem.W.Frag} {mg : Str → Option Value} {base : Heap}
def spTR (C : Addr) : Sp := fun vs H Q _ => ∃ (p a sd m : Addr) (M : Md), vs = [.ref p, .ref m, .ref a] ∧ Pot H p ∧ BookM H C a sd M ∧ MdAt p H m M ∧ M.Good ∧ M.L.length ≤ 4 ∧ ∀ H', But p H H' → Pot H' p → Q (.bl true) H'
theorem ok_tr {f C : Addr} {fd : FuncData} (F : Fun K "_law_turned_right" "_law_turned_right" sTR f fd) (B : Bl mg) (U : EqUse P w K mg base C) (O : BkTc P w K mg base C)
    (Tu : Def P w K mg base 1 "_law_turned" ["_law_model_here"] spTurned) (Bo : Def P w K mg base 7 "_law_book" ["_law_pot_here", "_law_model_here"] (spBook C)) (Ro : Def P w K mg base 1 "_law_rows" ["_law_signs_here", "_law_few"] spRows)
    (Re : Def P w K mg base 3 "_law_reads" ["_law_model_here", "_law_spelt"] spReads) : FnOk P w K mg base CX0 8 f fd ["_law_pot_here", "_law_model_here", "_law_tome"] (spTR C) := by
  obtain ⟨gE, fdE, ME, GE⟩ := U.eq
  obtain ⟨gV, fdV, MV, GV⟩ := O.inv
  obtain ⟨gI, fdI, MI, GI⟩ := O.con
  obtain ⟨fU, fdU, GU, gU, kU, bU⟩ := Tu.ex
  obtain ⟨fB, fdB, GB, gB, kB, bB⟩ := Bo.ex
  obtain ⟨fO, fdO, GO, gO, kO, bO⟩ := Ro.ex
  obtain ⟨fR, fdR, GR, gR, kR, bR⟩ := Re.ex
  refine F.ok scTR (fun vs H Q E h => ?_) (fun cdv A outer s H vs Q E hr h => ?_)
  · obtain ⟨p, a, sd, m, M, rfl, _⟩ := h
    rfl
  · obtain ⟨p, a, sd, m, M, rfl, hp, hb, hm, g, hL, q⟩ := h
    have hu := hu_of hr
    refine ⟨_, pss_cons (ps_set (i := 3) scTR.nd rfl (.inl rfl) (pe_call GU (hr.mono (by decide)) rfl gU kU bU .nil pass0 (by exact (pa_cons (pv 1) pa_nil))))
      (pss_cons (ps_if (PW.pt (pw_or (pt_cmpR (r := rNeI K C (spBEq K C) E0) (op_neI (E := E0) GE ME U.ne U.Te.hm pass0 (hr.mono (by decide))) (pe_un (un_invI (E := E0) GV MV pass0 (hr.mono (by decide))) (pv 2)) (pe_call GB hr rfl gB kB bB .nil pass0 (by exact (pa_cons (pv 0) (pa_cons (pv 3) pa_nil)))) (nomark _))
          (pw_or1 (pt_cmpR (r := rNeI K C (spBEq K C) E0) (op_neI (E := E0) GE ME U.ne U.Te.hm pass0 (hr.mono (by decide))) (pe_un (un_invI (E := E0) GV MV pass0 (hr.mono (by decide))) (pe_un (un_invI (E := E0) GV MV pass0 (hr.mono (by decide))) (pv 2))) (pv 2) (nomark _))))) (pss_one (ps_ret pe_bl)) pss_nil)
      (pss_cons (ps_set (i := 4) scTR.nd rfl (.inl rfl) (pe_call GO (hr.mono (by decide)) rfl gO kO bO .nil pass0 (by exact (pa_cons (pe_dget hu (pv 1) pe_str (fun _ _ => rfl)) (pa_cons pe_int pa_nil)))))
      (pss_one (ps_ret (pe_callB (cr_all rfl) (by rfl) B.all (by decide +kernel) (by exact (pa_cons (pe_lc (own := [("_law_spelt", 5)]) (g := gName 5) (tt := tYes)
          (te := tOp rEq (tOp (fun y x H Q => IsIns H C x ∧ spCon C [x, y] H (fun v H' => ∃ b, v = V.bl b ∧ Q (V.bl b) H') E0) (tRevS (tVar 5)) (tUn (fun x H Q => IsIns H C x ∧ spInv C [x] H Q E0) (tVar 2))) (tCall spReads [] E0 (tCons (tVar 1) (tCons (tVar 5) tNil)))) (by rfl) scTR.nd (pi_list (pv 4))
          (blkOk_by (own := [("_law_spelt", 5)]) (N := NTR) (sc := defScope sTR) (by decide +kernel)) (fun _ _ _ _ _ => by exact (pg_name (i := 5) scTR.nd rfl (Or.inl rfl))) (fun _ _ _ _ _ => pts_nil)
          (fun _ _ _ _ _ => by exact (pe_cmpR op_eq (pe_cmpR (op_inI (E := E0) GI MI pass0 (hr.mono (by decide))) (pe_revS (pv 5)) (pe_un (un_invI (E := E0) GV MV pass0 (hr.mono (by decide))) (pv 2)) (by rfl)) (pe_call GR (hr.mono (by decide)) rfl gR kR bR .nil pass0 (by exact (pa_cons (pv 1) (pa_cons (pv 5) pa_nil)))) (nomark _)))) pa_nil))))))), ?_⟩
    have nm : m ≠ p := by
      obtain ⟨x, z, ep, _⟩ := hp
      obtain ⟨_, _, _, _, h1, _⟩ := hm
      exact ne_of h1 ep (fun z => nomatch z)
    refine ⟨_, rfl, p, m, M, rfl, hp, hm, g, fun mt M' H1 s1 _ hmt t => ?_⟩
    have hp1 := pot_same s1 hp
    have hb1 := hb.same s1
    refine ⟨_, rfl, hb1.ins, inv_use t hp1 hb1 g fun b1 sb1 H2 s2 _ _ k2 => ?_⟩
    have s02 := s1.trans s2
    refine ⟨_, rfl, _, rfl, p, mt, M', rfl, pot_same s2 hp1, MdAt.same s2 hmt, t.g, fun b2 sb2 H3 b3 hp3 _ _ k3 => ?_⟩
    have b03 : But p H H3 := (But.of (p := p) s02).trans b3
    have hp2 := pot_same s2 hp1
    refine ne_bk t.g t.g (k2.but hp2 b3) k3 ⟨_, rfl, ?_⟩
    rw [decide_eq_true (rfl : M' = M')]
    have hb3 := hb.but hp b03
    refine iteF ⟨_, rfl, hb3.ins, inv_use t hp3 hb3 g fun b4 sb4 H4 s4 _ _ k4 => ⟨k4.ins, inv_use (t.symm g) (pot_same s4 hp3) k4 t.g fun b5 sb5 H5 s5 _ _ k5 => ⟨_, rfl, ?_⟩⟩⟩
    have s35 := s4.trans s5
    refine ne_bk g g k5 (hb3.same s35) ⟨_, rfl, ?_⟩
    rw [decide_eq_true (rfl : M = M)]
    have b05 : But p H H5 := b03.trans (But.of (p := p) s35)
    have hp5 := pot_same s35 hp3
    obtain ⟨bb, e, l, us, h1, h2, h3, h4, h5, n1, n2, n3⟩ := id hm
    refine iteF ⟨_, rfl, m, _, rfl, md_signs (b05 _ _ nm h1), M.L, 3, rfl, hL, by decide, fun lr zs H6 s6 _ g6 hz lz => ?_⟩
    have b06 : But p H H6 := b05.trans (But.of (p := p) s6)
    have hb6 := hb.but hp b06
    have hm6 := MdAt.but hp b06 hm
    have hp6 := pot_same s6 hp5
    refine ⟨_, rfl, lr, rfl, ⟨_, .inl (.inl g6)⟩, fun D hD => ?_⟩
    refine lc_map (walk_list (xs := zs.map V.str)) (fun i => V.bl true) hD (by rw [List.length_map]; omega) (fun H' s => .inl (.inl (s _ _ g6))) (fun i x Ha Hb Cc Z hi sm y kk => ?_) (fun H' sm hD' => ?_)
    · obtain ⟨rfl, hx⟩ := y
      rw [List.getElem?_map] at hx
      obtain ⟨z, hz1, rfl⟩ := Option.map_eq_some_iff.mp hx
      have rz := hz z (List.mem_of_getElem? hz1)
      have hbb := hb6.same sm
      refine ⟨rfl, _, rfl, z, rfl, Nat.le_trans (Nat.le_trans rz.2 (show 3 ≤ 1000 by decide)) (by decide), _, rfl, hbb.ins, inv_use t (pot_same sm hp6) hbb g fun b7 sb7 H7 s7 _ _ k7 => ?_⟩
      refine ⟨k7.ins, b7, sb7, M', revStr z, rfl, k7, t.g, t.row (rz.rev.row (by decide)), fun H8 s8 => ⟨_, rfl, ?_⟩⟩
      have s78 := s7.trans s8
      refine ⟨_, rfl, _, rfl, p, m, M, z, rfl, MdAt.same (sm.trans s78) hm6, g, fun H9 s9 => ⟨rfl, ?_⟩⟩
      have e : ends M' (come M'.T M'.S (revStr z).cps.toList) = rdsM M z.cps.toList := by
        rw [ends_eq, rev_list]
        exact t.rds g _
      rw [e, decide_eq_true rfl]
      exact kk _ (s78.trans s9)
    · have eb : firsts (fun i => V.bl true) (zs.map V.str).length = (List.replicate zs.length true).map V.bl := by
        unfold firsts
        rw [List.length_map, List.map_replicate, List.map_const', List.length_range]
      rw [eb] at hD'
      refine ⟨D, List.replicate zs.length true, rfl, .inl (.inl hD'), ?_⟩
      have ea : (List.replicate zs.length true).all id = true := by
        rw [List.all_eq_true]
        intro b hb
        exact List.eq_of_mem_replicate hb
      rw [ea]
      exact q H' (b06.trans (But.of (p := p) sm)) (pot_same sm hp6)
end
end Lw
set_option Elab.async false
set_option linter.all false
set_option maxRecDepth 100000
set_option maxHeartbeats 4000000
/-! _law_cut_right -/
namespace Lw
open PySem PySem.Spec PyProof.Rows L2
abbrev sCR : Stmt := topS 64
abbrev NCR : List Str := ["_law_pot_here", "_law_model_here", "_law_tome", "_law_front", "_law_back", "_law_told", "_law_due", "_law_spelt", "_law_whole", "_law_near"]
theorem scCR : FnScope NCR ["_law_pot_here", "_law_model_here", "_law_tome", "_law_front", "_law_back"] (defScope sCR) := ⟨rfl, rfl, rfl, by decide +kernel, rfl, by decide +kernel, by decide +kernel⟩
theorem Sh.bl3 (b : Bool) : Sh 87 2 (.bool b) := by cases b <;> exact ⟨rfl, rfl, by simp [PyData.depth], by decide +kernel⟩
theorem three_ok (a b c : Bool) : showOk (.list [.bool a, .bool b, .bool c]) = true := by
  refine (Sh.list (n := 87) (d := 2) (k := 3) (fun z hz => ?_) (by show 3 ≤ 3; decide)).ok (by decide) (by decide)
  simp only [List.mem_cons, List.not_mem_nil, or_false] at hz
  rcases hz with rfl | rfl | rfl <;> exact Sh.bl3 _
theorem three_dp {K : PySem.W.Frag} {H : Hp} {l : Addr} {a b c : Bool} (h : H l = some (.lst [.bl a, .bl b, .bl c])) : Dp K H (.ref l) (.list [.bool a, .bool b, .bool c]) := .lst (.inl (.inl h)) (.cons (.bl _) (.cons (.bl _) (.cons (.bl _) .nil)))
abbrev tRS (C : Addr) (ta tb : TE) : TE := tOp (rBinR C (spRsh C) E0) ta tb
theorem din {C a b sd sd' : Addr} {H : Hp} {N : Md} (g : N.Good) (h : BookM H C a sd N) (h' : BookM H C b sd' N) : DIns C (TwoBk C) (.ref a) (.ref b) H := by
  obtain ⟨x, dx, fs, e, hx⟩ := h.ins
  cases e
  obtain ⟨y, dy, gs, e, hy⟩ := h'.ins
  cases e
  exact ⟨_, _, dx, dy, fs, gs, rfl, rfl, hx, hy, N, sd, sd', g, h, h'⟩
section
variable {P : Program} {w : World} {K : PySem.W.Frag} {mg : Str → Option Value} {base : Heap}
def spCR (C : Addr) : Sp := fun vs H Q _ => ∃ (p a sd m : Addr) (M : Md) (zf zb : Str), vs = [.ref p, .ref m, .ref a, .str zf, .str zb] ∧ Pot H p ∧ BookM H C a sd M ∧ MdAt p H m M ∧ M.Good ∧ M.L.length ≤ 4 ∧ RowL M.L 50 zf ∧ RowL M.L 50 zb ∧ ∀ H', But p H H' → Pot H' p → Q (.bl true) H'
theorem ok_cr {f C : Addr} {fd : FuncData} (F : Fun K "_law_cut_right" "_law_cut_right" sCR f fd) (B : Bl mg) (U : EqUse P w K mg base C) (O : BkTc P w K mg base C)
    (Cu : Def P w K mg base 3 "_law_cut" ["_law_model_here", "_law_front", "_law_back"] spCutL) (Bo : Def P w K mg base 7 "_law_book" ["_law_pot_here", "_law_model_here"] (spBook C)) (Ro : Def P w K mg base 1 "_law_rows" ["_law_signs_here", "_law_few"] spRows)
    (Re : Def P w K mg base 3 "_law_reads" ["_law_model_here", "_law_spelt"] spReads) : FnG P w K mg base CX0 9 f fd ["_law_pot_here", "_law_model_here", "_law_tome", "_law_front", "_law_back"] (spCR C) := by
  obtain ⟨gE, fdE, ME, GE⟩ := U.eq
  obtain ⟨gR', fdR', MR, GR'⟩ := O.rsh
  obtain ⟨gL', fdL', ML, GL'⟩ := O.lsh
  obtain ⟨gI, fdI, MI, GI⟩ := O.con
  obtain ⟨fU, fdU, GU, gU, kU, bU⟩ := Cu.ex
  obtain ⟨fB, fdB, GB, gB, kB, bB⟩ := Bo.ex
  obtain ⟨fO, fdO, GO, gO, kO, bO⟩ := Ro.ex
  obtain ⟨fR, fdR, GR, gR, kR, bR⟩ := Re.ex
  refine fng_of0 F scCR (fun vs H Q E h => ?_) (fun cdv A outer s H vs Q E gd hr h => ?_)
  · obtain ⟨p, a, sd, m, M, zf, zb, rfl, _⟩ := h
    rfl
  · obtain ⟨p, a, sd, m, M, zf, zb, rfl, hp, hb, hm, g, hL, rf, rb, q⟩ := h
    have hu := hu_of hr
    refine ⟨_, pss_cons (ps_set (i := 5) scCR.nd rfl (.inl rfl) (pe_lst (pa_cons (pe_op (op_binR (op := .RShift) (E := E0) GR' MR pass0 hr) (pv 3) (pv 2)) (pa_cons (pe_op (op_binS (op := .LShift) (E := E0) GL' ML pass0 hr) (pv 2) (pv 4))
        (pa_cons (pe_op (op_binR (op := .RShift) (E := E0) GR' MR pass0 hr) (pv 3) (pe_op (op_binS (op := .LShift) (E := E0) GL' ML pass0 hr) (pv 2) (pv 4))) (pa_cons (pe_op (op_binS (op := .LShift) (E := E0) GL' ML pass0 hr) (pe_op (op_binR (op := .RShift) (E := E0) GR' MR pass0 hr) (pv 3) (pv 2)) (pv 4)) pa_nil))))))
      (pss_cons (ps_set (i := 6) scCR.nd rfl (.inl rfl) (pe_op op_cat (pe_lst (pa_cons (pe_call GU (hr.mono (by decide)) rfl gU kU bU .nil pass0 (by exact (pa_cons (pv 1) (pa_cons (pv 3) (pa_cons pe_str pa_nil))))) (pa_cons (pe_call GU (hr.mono (by decide)) rfl gU kU bU .nil pass0 (by exact (pa_cons (pv 1) (pa_cons pe_str (pa_cons (pv 4) pa_nil))))) pa_nil)))
          (pe_op op_rep (pe_lst (pa_cons (pe_call GU (hr.mono (by decide)) rfl gU kU bU .nil pass0 (by exact (pa_cons (pv 1) (pa_cons (pv 3) (pa_cons (pv 4) pa_nil))))) pa_nil)) pe_int)))
      (pss_cons (ps_if (pt_cmpR (r := rNeG (DIns C (TwoBk C))) (op_neL twoBk_mon (twoBk_eq (E := E0) GE ME pass0) (hr.mono (by decide))) (pv 5) (pe_lc (own := [("_law_near", 9)]) (g := gName 9) (tt := tYes) (te := tCall (spBook C) [] E0 (tCons (tVar 0) (tCons (tVar 9) tNil))) (by rfl) scCR.nd (pi_list (pv 6))
          (blkOk_by (own := [("_law_near", 9)]) (N := NCR) (sc := defScope sCR) (by decide +kernel)) (fun _ _ _ _ _ => by exact (pg_name (i := 9) scCR.nd rfl (Or.inl rfl))) (fun _ _ _ _ _ => pts_nil)
          (fun _ _ _ _ _ => by exact (pe_call GB (hr.mono (by decide)) rfl gB kB bB .nil pass0 (by exact (pa_cons (pv 0) (pa_cons (pv 9) pa_nil)))))) (nomark _)) (pss_one (ps_ret pe_bl)) pss_nil)
      (pss_cons (ps_for PassesOwn.never rfl (pi_list (pe_call GO (hr.mono (by decide)) rfl gO kO bO .nil pass0 (by exact (pa_cons (pe_dget hu (pv 1) pe_str (fun _ _ => rfl)) (pa_cons pe_int pa_nil))))) (pg_name (i := 7) scCR.nd rfl (.inl rfl))
        (pss_cons (ps_setLc (i := 8) (own := [("_law_near", 9)]) (g := gName 9) (tt := tYes) (te := tCall spReads [] E0 (tCons (tVar 1) (tCons (tVar 9) tNil))) rfl scCR.nd rfl rfl (sw_true rfl rfl rfl (by decide +kernel))
            (pi_tup (pe_tup (pa_cons (pe_op op_add_str (pv 3) (pv 7)) (pa_cons (pe_op op_add_str (pv 7) (pv 4)) (pa_cons (pe_op op_add_str (pe_op op_add_str (pv 3) (pv 7)) (pv 4)) pa_nil)))))
            (blkOk_by (own := [("_law_near", 9)]) (N := NCR) (sc := defScope sCR) (by decide +kernel)) (fun _ _ _ _ _ => by exact (pg_name (i := 9) scCR.nd rfl (Or.inl rfl))) (fun _ _ _ _ _ => pts_nil)
            (fun _ _ _ _ _ => by exact (pe_call GR (hr.mono (by decide)) rfl gR kR bR .nil pass0 (by exact (pa_cons (pv 1) (pa_cons (pv 9) pa_nil))))))
        (pss_one (ps_if (pt_cmpR op_ne (pe_callB (call_reprD gd hr) (by rfl) B.repr (by decide +kernel) (by exact (pa_cons (pe_lst (pa_cons (pe_cmpR (op_inI (E := E0) GI MI pass0 (hr.mono (by decide))) (pv 7) (pe_ix ix_list (pv 5) pe_int (fun _ _ => rfl)) (by rfl)) (pa_cons (pe_cmpR (op_inI (E := E0) GI MI pass0 (hr.mono (by decide))) (pv 7) (pe_ix ix_list (pv 5) pe_int (fun _ _ => rfl)) (by rfl))
              (pa_cons (pe_cmpR (op_inI (E := E0) GI MI pass0 (hr.mono (by decide))) (pv 7) (pe_ix ix_list (pv 5) pe_int (fun _ _ => rfl)) (by rfl)) pa_nil)))) pa_nil)))
            (pe_callB (call_reprD gd hr) (by rfl) B.repr (by decide +kernel) (by exact (pa_cons (pv 8) pa_nil))) (nomark _)) (pss_one (ps_ret pe_bl)) pss_nil))))
      (pss_one (ps_ret pe_bl))))), ?_⟩
    have nm : m ≠ p := by
      obtain ⟨x, z, ep, _⟩ := hp
      obtain ⟨_, _, _, _, h1, _⟩ := hm
      exact ne_of h1 ep (fun z => nomatch z)
    have rof := rf.row (by decide)
    have rob := rb.row (by decide)
    have e0 : (Str.ofString "").cps.toList = [] := by decide
    have gE' := cutE_good g zb.cps.toList
    have gS := cutS_good g zf.cps.toList
    have gSE := cutE_good gS zb.cps.toList
    -- the books as told
    refine ⟨_, rfl, _, rfl, ⟨zf, rfl⟩, hb.ins, p, a, sd, M, zf, rfl, hp, hb, g, rof, fun t0 v0 H1 s1 _ _ k0 => ⟨⟨_, rfl⟩, ?_⟩⟩
    have hp1 := pot_same s1 hp
    have hb1 := hb.same s1
    refine ⟨_, rfl, _, rfl, hb1.ins, ⟨zb, rfl⟩, p, a, sd, M, zb, rfl, hp1, hb1, g, rob, fun t1 v1 H2 s2 _ _ k1 => ⟨⟨_, rfl⟩, ?_⟩⟩
    have s02 := s1.trans s2
    have hp2 := pot_same s02 hp
    have hb2 := hb.same s02
    refine ⟨_, rfl, _, rfl, _, rfl, hb2.ins, ⟨zb, rfl⟩, p, a, sd, M, zb, rfl, hp2, hb2, g, rob, fun x2 y2 H3 s3 _ _ j2 => ⟨⟨_, rfl⟩, ⟨zf, rfl⟩, j2.ins, p, x2, y2, cutE M zb.cps.toList, zf, rfl, pot_same s3 hp2, j2, gE', ⟨rof.1, rof.2⟩, fun t2 v2 H4 s4 _ _ k2 => ⟨⟨_, rfl⟩, ?_⟩⟩⟩
    have s04 := s02.trans (s3.trans s4)
    have hp4 := pot_same s04 hp
    have hb4 := hb.same s04
    refine ⟨_, rfl, _, rfl, ⟨zf, rfl⟩, hb4.ins, p, a, sd, M, zf, rfl, hp4, hb4, g, rof, fun x3 y3 H5 s5 _ _ j3 => ⟨⟨_, rfl⟩, _, rfl, j3.ins, ⟨zb, rfl⟩, p, x3, y3, cutS M zf.cps.toList, zb, rfl, pot_same s5 hp4, j3, gS, ⟨rob.1, rob.2⟩, fun t3 v3 H6 s6 _ _ k3 => ⟨⟨_, rfl⟩, ?_⟩⟩⟩
    have s46 := s5.trans s6
    refine ⟨by show 4 ≤ sizeLine; decide, fun lt hlt => ?_⟩
    have s7 : Same H6 (upd H6 lt (.lst [.ref t0, .ref t1, .ref t2, .ref t3])) := Same.new' (Same.refl H6) hlt
    have g7 : (upd H6 lt (.lst [.ref t0, .ref t1, .ref t2, .ref t3])) lt = some (.lst [.ref t0, .ref t1, .ref t2, .ref t3]) := upd_same
    generalize (upd H6 lt (.lst [.ref t0, .ref t1, .ref t2, .ref t3])) = H7 at s7 g7
    have s27 := (s3.trans s4).trans (s46.trans s7)
    have s17 := s2.trans s27
    have s07 := s1.trans s17
    have k0 := k0.same s17
    have k1 := k1.same s27
    have k2 := k2.same (s46.trans s7)
    have k3 := k3.same s7
    have hp7 := pot_same s07 hp
    have hm7 := MdAt.same s07 hm
    -- the models due
    refine ⟨_, rfl, _, rfl, p, m, M, zf, "", rfl, hp7, hm7, g, fun m0 H8 s8 f0 d0 => ?_⟩
    rw [e0, cutE_nil] at d0
    have hp8 := pot_same s8 hp7
    refine ⟨_, rfl, _, rfl, p, m, M, "", zb, rfl, hp8, MdAt.same s8 hm7, g, fun m1 H9 s9 f1 d1 => ?_⟩
    rw [e0, cutS_nil] at d1
    refine ⟨by show 2 ≤ sizeLine; decide, fun l1 hl1 => ?_⟩
    have s10 : Same H9 (upd H9 l1 (.lst [.ref m0, .ref m1])) := Same.new' (Same.refl H9) hl1
    have g10 : (upd H9 l1 (.lst [.ref m0, .ref m1])) l1 = some (.lst [.ref m0, .ref m1]) := upd_same
    generalize (upd H9 l1 (.lst [.ref m0, .ref m1])) = H10 at s10 g10
    have s710 := (s8.trans s9).trans s10
    have hp10 := pot_same s710 hp7
    refine ⟨_, rfl, _, rfl, _, rfl, p, m, M, zf, zb, rfl, hp10, MdAt.same s710 hm7, g, fun m2 H11 s11 f2 d2 => ⟨by show 1 ≤ sizeLine; decide, fun l2 hl2 => ?_⟩⟩
    have s12 : Same H11 (upd H11 l2 (.lst [.ref m2])) := Same.new' (Same.refl H11) hl2
    have g12 : (upd H11 l2 (.lst [.ref m2])) l2 = some (.lst [.ref m2]) := upd_same
    generalize (upd H11 l2 (.lst [.ref m2])) = H12 at s12 g12
    refine ⟨l2, 2, _, rfl, rfl, g12, by decide, by decide, by show 1 * 2 ≤ sizeLine; decide, fun l3 hl3 => ?_⟩
    have s13 : Same H12 (upd H12 l3 (.lst [.ref m2, .ref m2])) := Same.new' (Same.refl H12) hl3
    have g13 : (upd H12 l3 (.lst [.ref m2, .ref m2])) l3 = some (.lst [.ref m2, .ref m2]) := upd_same
    have ef : (List.replicate (2 : Int).toNat [V.ref m2]).flatten = [.ref m2, .ref m2] := rfl
    rw [ef]
    generalize (upd H12 l3 (.lst [.ref m2, .ref m2])) = H13 at s13 g13
    have s1113 := s12.trans s13
    have s1013 := s11.trans s1113
    refine ⟨l1, l3, _, _, rfl, rfl, s1013 _ _ g10, g13, by show 2 + 2 ≤ sizeLine; decide, fun l4 hl4 => ?_⟩
    have s14 : Same H13 (upd H13 l4 (.lst ([.ref m0, .ref m1] ++ [.ref m2, .ref m2]))) := Same.new' (Same.refl H13) hl4
    have g14 : (upd H13 l4 (.lst ([.ref m0, .ref m1] ++ [.ref m2, .ref m2]))) l4 = some (.lst (([m0, m1, m2, m2] : List Addr).map V.ref)) := upd_same
    generalize (upd H13 l4 (.lst ([.ref m0, .ref m1] ++ [.ref m2, .ref m2]))) = H14 at s14 g14
    have s1114 := s1113.trans s14
    have s914 := s10.trans (s11.trans s1114)
    have s814 := s9.trans s914
    have s714 := s8.trans s814
    have d0 := MdAt.same s814 d0
    have d1 := MdAt.same s914 d1
    have d2 := MdAt.same s1114 d2
    have hp14 := pot_same s714 hp7
    have hMs : Paired (fun (x : Addr) (N : Md) => MdAt p H14 x N ∧ N.Good) [m0, m1, m2, m2] [cutS M zf.cps.toList, cutE M zb.cps.toList, cutE (cutS M zf.cps.toList) zb.cps.toList, cutE (cutS M zf.cps.toList) zb.cps.toList] := .cons ⟨d0, gS⟩ (.cons ⟨d1, gE'⟩ (.cons ⟨d2, gSE⟩ (.cons ⟨d2, gSE⟩ .nil)))
    refine ⟨_, rfl, _, rfl, l4, rfl, ⟨_, .inl (.inl g14)⟩, fun D hD => ?_⟩
    have nDp : D ≠ p := (Pot.ne hp14 hD).symm
    have nl4 : l4 ≠ p := (Pot.ne (pot_same (s710.trans s1013) hp7) hl4).symm
    refine lc_it (walk_list (xs := ([m0, m1, m2, m2] : List Addr).map V.ref)) (fun i H' => But p H14 H' ∧ Pot H' p ∧ ∃ bs : List Addr, H' D = some (.lst (bs.map V.ref)) ∧ bs.length ≤ i ∧ Paired (fun (x : Addr) (N : Md) => ∃ y, y ≠ D ∧ BookM H' C x y N) bs (([cutS M zf.cps.toList, cutE M zb.cps.toList, cutE (cutS M zf.cps.toList) zb.cps.toList, cutE (cutS M zf.cps.toList) zb.cps.toList] : List Md).take i))
      ⟨(But.refl p H14).new hD, pot_same (Same.new' (Same.refl H14) hD) hp14, [], upd_same, Nat.le_refl _, .nil⟩ (fun i H' _ h => .inl (.inl (h.1 _ _ nl4 g14))) (fun i v Ha Hb hi hv y => ?_) (fun H15 hv => ?_)
    · obtain ⟨rfl, hx⟩ := y
      obtain ⟨b15, hp15, bs, hbs, lbs, pbs⟩ := hv
      rw [List.getElem?_map] at hx
      obtain ⟨mi, hmi, rfl⟩ := Option.map_eq_some_iff.mp hx
      obtain ⟨N, hN, dN, gN⟩ := paired_get hMs hmi
      refine ⟨rfl, _, rfl, _, rfl, p, mi, N, rfl, hp15, MdAt.but hp14 b15 dN, gN, fun c yc H16 b16 hp16 fc fy kc => ?_⟩
      refine ⟨bs.map V.ref, b16 _ _ nDp hbs, by rw [List.length_map]; exact Nat.lt_of_le_of_lt (show bs.length ≤ 4 by have : i < 4 := hi; omega) (by decide), ?_, ?_, bs ++ [c], by rw [upd_same, List.map_append]; rfl, by rw [List.length_append]; simp; omega, ?_⟩
      · exact fun z o nz ez => by
          rw [upd_ne (ne_of_none ez hD)]
          exact b16 _ _ nz (b15 _ _ nz ez)
      · obtain ⟨x1, x2, ex, rx⟩ := hp16
        exact ⟨x1, x2, by rw [upd_ne nDp.symm]; exact ex, rx⟩
      · have hD16 : H16 D = some (.lst (bs.map V.ref)) := b16 _ _ nDp hbs
        have bD : But D H16 (upd H16 D (.lst (bs.map V.ref ++ [.ref c]))) := (But.refl D H16).set
        rw [take_snoc hN]
        refine paired_snoc (Paired.imp2 (fun x N z => ?_) pbs) ⟨yc, ne_of_none' hbs fy, kc.butL hD16 (ne_of_none' hbs fy) bD⟩
        obtain ⟨y, ny, ky⟩ := z
        exact ⟨y, ny, (ky.but hp15 b16).butL hD16 ny bD⟩
    obtain ⟨b15, hp15, bs, hbs, lbs, pbs⟩ := hv
    have lt7 : lt ≠ p := (Pot.ne (pot_same (s1.trans (s2.trans ((s3.trans s4).trans s46))) hp) hlt).symm
    have b715 : But p H7 H15 := (But.of (p := p) s714).trans b15
    obtain ⟨c0, c1, c2, c3, rfl, ⟨y0, q0⟩, ⟨y1, q1⟩, ⟨y2', q2⟩, ⟨y3', q3⟩⟩ : ∃ c0 c1 c2 c3, bs = [c0, c1, c2, c3] ∧ (∃ y, BookM H15 C c0 y (cutS M zf.cps.toList)) ∧ (∃ y, BookM H15 C c1 y (cutE M zb.cps.toList)) ∧ (∃ y, BookM H15 C c2 y (cutE (cutS M zf.cps.toList) zb.cps.toList)) ∧ (∃ y, BookM H15 C c3 y (cutE (cutS M zf.cps.toList) zb.cps.toList)) := by
      cases pbs with
      | cons r0 t => cases t with
        | cons r1 t => cases t with
          | cons r2 t => cases t with
            | cons r3 t => cases t with
              | nil => exact ⟨_, _, _, _, rfl, ⟨_, r0.choose_spec.2⟩, ⟨_, r1.choose_spec.2⟩, ⟨_, r2.choose_spec.2⟩, ⟨_, r3.choose_spec.2⟩⟩
    refine ⟨⟨lt, D, _, _, rfl, rfl, b715 _ _ lt7 g7, hbs, .cons (din gS (k0.but hp7 b715) q0) (.cons (din gE' (k1.but hp7 b715) q1) (.cons (din gSE (k2.but hp7 b715) q2) (.cons (din gSE (k3.but hp7 b715) q3) .nil)))⟩, fun H16 s16 => ⟨_, rfl, iteF ?_⟩⟩
    have b716 : But p H7 H16 := b715.trans (But.of (p := p) s16)
    have b016 : But p H H16 := (But.of (p := p) s07).trans b716
    have hp16 := pot_same s16 hp15
    have g16 := b716 _ _ lt7 g7
    have k0 := k0.but hp7 b716
    have k1 := k1.but hp7 b716
    have k2 := k2.but hp7 b716
    have hm16 := MdAt.but hp b016 hm
    clear hbs pbs q0 q1 q2 q3 k3 hMs d0 d1 d2 g14 g13 g12 g10 g7 j2 j3 hb1 hb2 hb4
    obtain ⟨bb, e, l, us, h1, h2, h3, h4, h5, n1, n2, n3⟩ := id hm
    refine ⟨_, rfl, m, _, rfl, md_signs (b016 _ _ nm h1), M.L, 2, rfl, hL, by decide, fun lr zs H17 s17' _ g17 hz lz => ?_⟩
    have hm17 := MdAt.same s17' hm16
    refine ⟨lr, rfl, ⟨_, .inl (.inl g17)⟩, ?_⟩
    refine for_it (walk_list (xs := zs.map V.str)) (fun i σ H' => Same H17 H' ∧ ∃ (u7 u8 : Option V), σ = [some (.ref p), some (.ref m), some (.ref a), some (.str zf), some (.str zb), some (.ref lt), some (.ref l4), u7, u8, none]) ⟨Same.refl H17, none, none, rfl⟩ (fun i σ H' _ h => .inl (.inl (h.1 _ _ g17))) ?_ ?_
    · rintro i v σ Ha Hb hi ⟨sa, u7, u8, rfl⟩ ⟨rfl, hx⟩
      rw [List.getElem?_map] at hx
      obtain ⟨z, hz1, rfl⟩ := Option.map_eq_some_iff.mp hx
      have rz := hz z (List.mem_of_getElem? hz1)
      have roz := rz.row (M := M) (by decide)
      have r1 := rf.cat rz
      have r2 := rz.cat rb
      have r3 := r1.cat rb
      refine ⟨_, rfl, _, rfl, zf, z, rfl, rfl, Nat.le_trans (show zf.length + z.length ≤ 1000 by have := rf.2; have := rz.2; omega) (by decide), _, rfl, _, rfl, z, zb, rfl, rfl, Nat.le_trans (show z.length + zb.length ≤ 1000 by have := rb.2; have := rz.2; omega) (by decide),
        _, rfl, _, rfl, zf, z, rfl, rfl, Nat.le_trans (show zf.length + z.length ≤ 1000 by have := rf.2; have := rz.2; omega) (by decide), _, rfl, zf ++ z, zb, rfl, rfl, Nat.le_trans (show (zf ++ z).length + zb.length ≤ 1000 by have := rb.2; have := r1.2; omega) (by decide), by show 3 ≤ sizeLine; decide, fun T hT => ?_⟩
      have sT : Same Hb (upd Hb T (.tup [.str (zf ++ z), .str (z ++ zb), .str (zf ++ z ++ zb)])) := Same.new' (Same.refl Hb) hT
      have gT : (upd Hb T (.tup [.str (zf ++ z), .str (z ++ zb), .str (zf ++ z ++ zb)])) T = some (.tup (([zf ++ z, z ++ zb, zf ++ z ++ zb] : List Str).map V.str)) := upd_same
      generalize (upd Hb T (.tup [.str (zf ++ z), .str (z ++ zb), .str (zf ++ z ++ zb)])) = H18 at sT gT
      have s1718 := sa.trans sT
      have hm18 := MdAt.same s1718 hm17
      refine ⟨T, rfl, ⟨_, .inl (.inl gT)⟩, fun D2 hD2 => ?_⟩
      refine lc_map walk_tup (fun i => V.bl (rdsM M (([zf ++ z, z ++ zb, zf ++ z ++ zb] : List Str).getD i "").cps.toList)) hD2 (by show 3 < 100000; decide) (fun H' s => .inl (.inl (s _ _ gT))) (fun j x Hc Hd Cd Z' hj sm2 y kk => ?_) (fun H2 sm2 hD2' => ?_)
      · obtain ⟨rfl, hx⟩ := y
        rw [List.getElem?_map] at hx
        obtain ⟨x, hx1, rfl⟩ := Option.map_eq_some_iff.mp hx
        refine ⟨rfl, _, rfl, _, rfl, p, m, M, x, rfl, MdAt.same sm2 hm18, g, fun H19 s19 => ?_⟩
        have := kk _ s19
        rw [getD_at hx1] at this
        exact this
      have ew : firsts (fun i => V.bl (rdsM M (([zf ++ z, z ++ zb, zf ++ z ++ zb] : List Str).getD i "").cps.toList)) (([zf ++ z, z ++ zb, zf ++ z ++ zb] : List Str).map V.str).length = [V.bl (rdsM M (zf ++ z).cps.toList), V.bl (rdsM M (z ++ zb).cps.toList), V.bl (rdsM M (zf ++ z ++ zb).cps.toList)] := rfl
      rw [ew] at hD2'
      have s172 := s1718.trans sm2
      have s162 := s17'.trans s172
      have gt2 := s162 _ _ g16
      refine ⟨_, rfl, _, rfl, lt, _, 0, .ref t0, rfl, rfl, .inl (.inl gt2), atI_nat (j := 0) rfl, (k0.same s162).ins, t0, v0, _, z, rfl, k0.same s162, gS, ⟨roz.1, roz.2⟩, fun H20 s20 => ⟨_, rfl, ?_⟩⟩
      have s1620 := s162.trans s20
      refine ⟨_, rfl, _, rfl, lt, _, 1, .ref t1, rfl, rfl, .inl (.inl (s20 _ _ gt2)), atI_nat (j := 1) rfl, (k1.same s1620).ins, t1, v1, _, z, rfl, k1.same s1620, gE', ⟨roz.1, roz.2⟩, fun H21 s21 => ⟨_, rfl, ?_⟩⟩
      have s1621 := s1620.trans s21
      refine ⟨_, rfl, _, rfl, lt, _, 2, .ref t2, rfl, rfl, .inl (.inl (s21 _ _ (s20 _ _ gt2))), atI_nat (j := 2) rfl, (k2.same s1621).ins, t2, v2, _, z, rfl, k2.same s1621, gSE, ⟨roz.1, roz.2⟩, fun H22 s22 => ⟨_, rfl, by show 3 ≤ sizeLine; decide, fun lr2 hlr2 => ?_⟩⟩
      have b0 : ends (cutS M zf.cps.toList) (come (cutS M zf.cps.toList).T (cutS M zf.cps.toList).S z.cps.toList) = rdsM M (zf ++ z).cps.toList := by
        rw [ends_eq, rds_cutS, cat_list]
      have b1 : ends (cutE M zb.cps.toList) (come (cutE M zb.cps.toList).T (cutE M zb.cps.toList).S z.cps.toList) = rdsM M (z ++ zb).cps.toList := by
        rw [ends_eq, rds_cutE g, cat_list]
      have b2 : ends (cutS (cutE M zb.cps.toList) zf.cps.toList) (come (cutS (cutE M zb.cps.toList) zf.cps.toList).T (cutS (cutE M zb.cps.toList) zf.cps.toList).S z.cps.toList) = rdsM M (zf ++ z ++ zb).cps.toList := by
        rw [ends_eq, rds_cutS, rds_cutE g, cat_list, cat_list]
      rw [b0, b1, b2]
      have s23 : Same H22 (upd H22 lr2 (.lst [V.bl (rdsM M (zf ++ z).cps.toList), V.bl (rdsM M (z ++ zb).cps.toList), V.bl (rdsM M (zf ++ z ++ zb).cps.toList)])) := Same.new' (Same.refl H22) hlr2
      have g23 : (upd H22 lr2 (.lst [V.bl (rdsM M (zf ++ z).cps.toList), V.bl (rdsM M (z ++ zb).cps.toList), V.bl (rdsM M (zf ++ z ++ zb).cps.toList)])) lr2 = some (.lst [V.bl (rdsM M (zf ++ z).cps.toList), V.bl (rdsM M (z ++ zb).cps.toList), V.bl (rdsM M (zf ++ z ++ zb).cps.toList)]) := upd_same
      generalize (upd H22 lr2 (.lst [V.bl (rdsM M (zf ++ z).cps.toList), V.bl (rdsM M (z ++ zb).cps.toList), V.bl (rdsM M (zf ++ z ++ zb).cps.toList)])) = H23 at s23 g23
      have s2023 := s20.trans (s21.trans (s22.trans s23))
      refine ⟨_, _, rfl, three_dp g23, three_ok _ _ _, _, rfl, _, _, rfl, three_dp (s2023 _ _ hD2'), three_ok _ _ _, rfl, _, rfl, ?_⟩
      rw [decide_eq_true (rfl : V.str _ = V.str _)]
      exact iteF ⟨s172.trans s2023, _, _, rfl⟩
    · rintro σ H' ⟨sa, u7, u8, rfl⟩
      exact q H' (b016.trans (But.of (p := p) (s17'.trans sa))) (pot_same (s17'.trans sa) hp16)
end
end Lw
set_option Elab.async false
set_option linter.all false
set_option maxRecDepth 100000
set_option maxHeartbeats 4000000
/-! _law_row -/
namespace Lw
open PySem PySem.Spec PyProof.Rows L2
abbrev sRowL : Stmt := topS 65
abbrev NRowL : List Str := ["_law_pot_here", "_law_signs_here", "_law_turn"]
theorem scRowL : FnScope NRowL ["_law_pot_here", "_law_signs_here"] (defScope sRowL) := ⟨rfl, rfl, rfl, by decide +kernel, rfl, by decide +kernel, by decide +kernel⟩
theorem fold_sgn : ∀ (cs : List Nat) (A : Array Nat), (cs.map sgn).foldl (fun acc p => acc ++ (Str.ofString "").cps ++ p.cps) A = A ++ cs.toArray
  | [], A => by simp
  | c :: cs, A => by
    have e : (Str.ofString "").cps = #[] := by decide
    rw [List.map_cons, List.foldl_cons, fold_sgn cs]
    rw [e]
    simp [Lw.sgn]
theorem join_csN : ∀ cs : List Nat, Txt.join "" (cs.map sgn) = ⟨cs.toArray⟩
  | [] => rfl
  | c :: cs => by
    show (⟨(cs.map sgn).foldl (fun acc p => acc ++ (Str.ofString "").cps ++ p.cps) (sgn c).cps⟩ : Str) = _
    rw [fold_sgn]
    congr 1
    simp [Lw.sgn]
theorem cs_sumN (cs : List Nat) (h : cs.length ≤ 100) : ((cs.map sgn).map (·.length)).sum + (cs.map sgn).length * (Str.ofString "").length ≤ 16777216 := by
  have e : (Str.ofString "").length = 0 := by decide
  rw [e, Nat.mul_zero, Nat.add_zero, List.map_map]
  have : ∀ l : List Nat, (l.map ((·.length) ∘ sgn)).sum = l.length := fun l => by
    induction l with
    | nil => rfl
    | cons x r ih => rw [List.map_cons, List.sum_cons, ih, List.length_cons]; show 1 + r.length = _; omega
  rw [this]
  omega
theorem rowL_cs {L : Str} {cs : List Nat} {k : Nat} (h : cs.length ≤ k) (hc : ∀ c ∈ cs, c ∈ L.cps.toList) : RowL L k ⟨cs.toArray⟩ := ⟨by simpa using hc, by show cs.toArray.size ≤ k; simpa using h⟩
section
variable {P : Program} {w : World} {K : PySem.W.Frag} {mg : Str → Option Value} {base : Heap}
def spRowL : Sp := fun vs H Q _ => ∃ (p : Addr) (L : Str), vs = [.ref p, .str L] ∧ Pot H p ∧ 0 < L.length ∧ L.length ≤ 4 ∧ ∀ (z : Str) (H' : Hp), But p H H' → Pot H' p → RowL L 4 z → Q (.str z) H'
theorem ok_rowL {f : Addr} {fd : FuncData} (F : Fun K "_law_row" "_law_row" sRowL f fd) (B : Bl mg) (D : Def P w K mg base 1 "_law_draw" ["_law_pot_here", "_law_span"] spDraw)
    (Ps : Def P w K mg base 2 "_law_pick" ["_law_pot_here", "_law_lot"] spPickS) : FnOk P w K mg base CX0 3 f fd ["_law_pot_here", "_law_signs_here"] spRowL := by
  obtain ⟨fD, fdD, GD, gD, kD, bD⟩ := D.ex
  obtain ⟨fS, fdS, GS, gS, kS, bS⟩ := Ps.ex
  refine F.ok scRowL (fun vs H Q E h => ?_) (fun cdv A outer s H vs Q E hr h => ?_)
  · obtain ⟨p, L, rfl, _⟩ := h
    rfl
  · obtain ⟨p, L, rfl, hp, l1, l4, q⟩ := h
    refine ⟨_, pss_one (ps_ret (pe_join pe_str (pe_lc (own := [("_law_turn", 2)]) (g := gName 2) (tt := tYes) (te := tCall spPickS [] E0 (tCons (tVar 0) (tCons (tVar 1) tNil))) (by rfl) scRowL.nd
          (pi_range1 (by rfl) B.range (pa_cons (pe_call GD (hr.mono (by decide)) rfl gD kD bD .nil pass0 (by exact (pa_cons (pv 0) (pa_cons pe_int pa_nil)))) pa_nil))
          (blkOk_by (own := [("_law_turn", 2)]) (N := NRowL) (sc := defScope sRowL) (by decide +kernel)) (fun _ _ _ _ _ => by exact (pg_name (i := 2) scRowL.nd rfl (Or.inl rfl))) (fun _ _ _ _ _ => pts_nil)
          (fun _ _ _ _ _ => by exact (pe_call GS (hr.mono (by decide)) rfl gS kS bS .nil pass0 (by exact (pa_cons (pv 0) (pa_cons (pv 1) pa_nil)))))))), ?_⟩
    refine ⟨⟨_, rfl⟩, _, rfl, p, 5, rfl, hp, by decide, by decide, fun d H7 d0 d7 b7 hp7 => ⟨d, rfl, by omega, by omega, fun D hD => ?_⟩⟩
    have nDp : D ≠ p := (Pot.ne hp7 hD).symm
    refine lc_it walk_range (fun i H' => But p H7 H' ∧ Pot H' p ∧ ∃ cs : List Nat, H' D = some (.lst ((cs.map sgn).map V.str)) ∧ cs.length = i ∧ ∀ c ∈ cs, c ∈ L.cps.toList) ⟨(But.refl p H7).new hD, pot_same (Same.new' (Same.refl H7) hD) hp7, [], upd_same, rfl, fun c hc => absurd hc List.not_mem_nil⟩
      (fun _ _ _ _ => trivial) (fun i x Ha Hb hi hv y => ?_) (fun H8 hv => ?_)
    · obtain ⟨rfl, rfl⟩ := y
      obtain ⟨e3, q3, cs, c1, c2, c3⟩ := hv
      refine ⟨rfl, _, rfl, _, rfl, p, L, rfl, q3, by omega, by omega, fun c H9 hc b9 hp9 => ?_⟩
      refine ⟨_, b9 _ _ nDp c1, by rw [List.length_map, List.length_map, c2]; exact Nat.lt_of_le_of_lt (show i ≤ 1000 by omega) (by decide), fun z o nz ez => ?_, ?_, cs ++ [c], ?_, by rw [List.length_append, c2]; rfl, fun c' hc' => ?_⟩
      · rw [upd_ne (ne_of_none ez hD)]
        exact b9 _ _ nz (e3 _ _ nz ez)
      · obtain ⟨x1, x2, ex, rx⟩ := hp9
        exact ⟨x1, x2, by rw [upd_ne nDp.symm]; exact ex, rx⟩
      · rw [upd_same, List.map_append, List.map_append]
        rfl
      · rcases List.mem_append.mp hc' with z | z
        · exact c3 _ z
        · rw [List.mem_singleton.mp z]; exact hc
    · obtain ⟨b8, hp8, cs, c1, c2, c3⟩ := hv
      refine ⟨_, D, cs.map sgn, rfl, rfl, .inl (.inl (.inl c1)), cs_sumN cs (by omega), ?_⟩
      rw [join_csN]
      exact q _ H8 (b7.trans b8) hp8 (rowL_cs (by omega) c3)
end
end Lw
set_option Elab.async false
set_option linter.all false
set_option maxRecDepth 100000
set_option maxHeartbeats 4000000
/-! _law_right -/
namespace Lw
open PySem PySem.Spec PyProof.Rows L2
abbrev sRight : Stmt := topS 66
abbrev NRight : List Str := ["_law_pot_here", "_law_model_here", "_law_tome", "_law_signs_here", "_law_turn", "_law_front", "_law_back", "_law_more", "_law_far"]
theorem scRight : FnScope NRight ["_law_pot_here"] (defScope sRight) := ⟨rfl, rfl, rfl, by decide +kernel, rfl, by decide +kernel, by decide +kernel⟩
theorem ex_turn {M : Md} (g : M.Good) : ∃ M', Turn M M' := by
  have pr : ∀ l : List Tr, Paired (fun (_ : V) (_ : List V) => True) (l.map fun _ => V.non) (l.map trV) := fun l => by
    induction l with
    | nil => exact .nil
    | cons x r ih => exact .cons trivial ih
  obtain ⟨_, T', h1, h2, _⟩ := sort_trsN (us := (M.T.map flip).map fun _ => V.non) (by rw [List.length_map]) (flip_nodup g) (R := fun _ _ => True) (pr _)
  exact ⟨_, turn_of g h2 h1⟩
section
variable {P : Program} {w : World} {K : PySem.W.Frag} {mg : Str → Option Value} {base : Heap}
def spRight : Sp := fun vs H Q _ => ∃ (p : Addr), vs = [.ref p] ∧ Pot H p ∧ ∀ H', But p H H' → Pot H' p → Q (.bl true) H'
theorem ok_right {f C : Addr} {fd : FuncData} (F : Fun K "_law_right" "_law_right" sRight f fd) (B : Bl mg) (U : EqUse P w K mg base C) (O : BkTc P w K mg base C) (D : Def P w K mg base 1 "_law_draw" ["_law_pot_here", "_law_span"] spDraw)
    (Ps : Def P w K mg base 2 "_law_pick" ["_law_pot_here", "_law_lot"] spPickS) (Si : Def P w K mg base 3 "_law_signs" ["_law_pot_here", "_law_few"] spSigns) (Mo : Def P w K mg base 2 "_law_model" ["_law_pot_here", "_law_signs_here", "_law_much"] spModel)
    (Bo : Def P w K mg base 7 "_law_book" ["_law_pot_here", "_law_model_here"] (spBook C)) (Cu : Def P w K mg base 3 "_law_cut" ["_law_model_here", "_law_front", "_law_back"] spCutL) (Rl : Def P w K mg base 3 "_law_row" ["_law_pot_here", "_law_signs_here"] spRowL)
    (Tr : Def P w K mg base 8 "_law_turned_right" ["_law_pot_here", "_law_model_here", "_law_tome"] (spTR C)) (Cr : DefQ P w K mg base 9 "_law_cut_right" ["_law_pot_here", "_law_model_here", "_law_tome", "_law_front", "_law_back"] (spCR C)) :
    FnG P w K mg base CX0 10 f fd ["_law_pot_here"] spRight := by
  obtain ⟨gE, fdE, ME, GE⟩ := U.eq
  obtain ⟨gV, fdV, MV, GV⟩ := O.inv
  obtain ⟨gR', fdR', MR, GR'⟩ := O.rsh
  obtain ⟨gL', fdL', ML, GL'⟩ := O.lsh
  obtain ⟨fD, fdD, GD, gD, kD, bD⟩ := D.ex
  obtain ⟨fP, fdP, GP, gP, kP, bP⟩ := Ps.ex
  obtain ⟨fS, fdS, GS, gS, kS, bS⟩ := Si.ex
  obtain ⟨fM, fdM, GM, gM, kM, bM⟩ := Mo.ex
  obtain ⟨fB, fdB, GB, gB, kB, bB⟩ := Bo.ex
  obtain ⟨fU, fdU, GU, gU, kU, bU⟩ := Cu.ex
  obtain ⟨fW, fdW, GW, gW, kW, bW⟩ := Rl.ex
  obtain ⟨fT, fdT, GT, gT, kT, bT⟩ := Tr.ex
  obtain ⟨fC, fdC, GC, gC, kC, bC⟩ := Cr.ex
  refine fng_of0 F scRight (fun vs H Q E h => ?_) (fun cdv A outer s H vs Q E gd hr h => ?_)
  · obtain ⟨p, rfl, _⟩ := h
    rfl
  · obtain ⟨p, rfl, hp, q⟩ := h
    have hu := hu_of hr
    have RS := fun {ea eb : Expr} {ta tb : TE} {pos : Pos} (ha : PE (cxOf CX0 P w K mg base NRight "_law_right" (defScope sRight) f cdv A outer s H E).nox ea ta) (hb : PE (cxOf CX0 P w K mg base NRight "_law_right" (defScope sRight) f cdv A outer s H E).nox eb tb) => pe_op (pos := pos) (op_binR (op := .RShift) (E := E0) GR' MR pass0 (hr.mono (by decide))) ha hb
    have LS := fun {ea eb : Expr} {ta tb : TE} {pos : Pos} (ha : PE (cxOf CX0 P w K mg base NRight "_law_right" (defScope sRight) f cdv A outer s H E).nox ea ta) (hb : PE (cxOf CX0 P w K mg base NRight "_law_right" (defScope sRight) f cdv A outer s H E).nox eb tb) => pe_op (pos := pos) (op_binS (op := .LShift) (E := E0) GL' ML pass0 (hr.mono (by decide))) ha hb
    have NE := op_neI (X := (cxOf CX0 P w K mg base NRight "_law_right" (defScope sRight) f cdv A outer s H E).nox) (E := E0) GE ME U.ne U.Te.hm pass0 (hr.mono (by decide))
    have EQ := op_eqI (X := (cxOf CX0 P w K mg base NRight "_law_right" (defScope sRight) f cdv A outer s H E).nox) (E := E0) GE ME pass0 (hr.mono (by decide))
    have IV := un_invI (X := (cxOf CX0 P w K mg base NRight "_law_right" (defScope sRight) f cdv A outer s H E).nox) (E := E0) GV MV pass0 (hr.mono (by decide))
    refine ⟨_, pss_cons (ps_set (i := 1) scRight.nd rfl (.inl rfl) (pe_call GM (hr.mono (by decide)) rfl gM kM bM .nil pass0 (by exact (pa_cons (pv 0) (pa_cons (pe_call GS (hr.mono (by decide)) rfl gS kS bS .nil pass0 (by exact (pa_cons (pv 0) (pa_cons pe_int pa_nil)))) (pa_cons pe_int pa_nil))))))
      (pss_cons (ps_asg (pe_tup (pa_cons (pe_call GB (hr.mono (by decide)) rfl gB kB bB .nil pass0 (by exact (pa_cons (pv 0) (pa_cons (pv 1) pa_nil)))) (pa_cons (pe_dget hu (pv 1) pe_str (fun _ _ => rfl)) pa_nil))) (pg_tup (by rfl) (pgs_cons (pg_name (i := 2) scRight.nd rfl (.inl rfl)) (pgs_cons (pg_name (i := 3) scRight.nd rfl (.inr rfl)) pgs_nil))))
      (pss_cons (ps_if (pt_not (pt_val (pe_call GT (hr.mono (by decide)) rfl gT kT bT .nil pass0 (by exact (pa_cons (pv 0) (pa_cons (pv 1) (pa_cons (pv 2) pa_nil))))))) (pss_one (ps_ret pe_bl)) pss_nil)
      (pss_cons (ps_for PassesOwn.never rfl (pi_range1 (by rfl) B.range (by exact (pa_cons pe_int pa_nil))) (pg_name (i := 4) scRight.nd rfl (.inl rfl))
        (pss_cons (ps_par3 rfl scRight.nd (i := 5) (j := 6) (l := 7) rfl rfl rfl (by decide) (by decide) (by decide) rfl rfl rfl (pa_cons (pe_call GW (hr.mono (by decide)) rfl gW kW bW .nil pass0 (by exact (pa_cons (pv 0) (pa_cons (pv 3) pa_nil)))) (pa_cons (pe_call GW (hr.mono (by decide)) rfl gW kW bW .nil pass0 (by exact (pa_cons (pv 0) (pa_cons (pv 3) pa_nil))))
            (pa_cons (pe_call GW (hr.mono (by decide)) rfl gW kW bW .nil pass0 (by exact (pa_cons (pv 0) (pa_cons (pv 3) pa_nil)))) pa_nil))) (by rfl))
        (pss_cons (ps_if (pt_not (pt_val (pe_callG gd GC (hr.mono (by decide)) rfl gC kC bC pass0 (by exact (pa_cons (pv 0) (pa_cons (pv 1) (pa_cons (pv 2) (pa_cons (pv 5) (pa_cons (pv 6) pa_nil))))))))) (pss_one (ps_ret pe_bl)) pss_nil)
        (pss_cons (ps_if (pt_cmpR (r := rNeI K C (spBEq K C) E0) NE (RS (pv 7) (RS (pv 5) (pv 2))) (RS (pe_op op_add_str (pv 5) (pv 7)) (pv 2)) (nomark _)) (pss_one (ps_ret pe_bl)) pss_nil)
        (pss_cons (ps_if (pt_cmpR (r := rNeI K C (spBEq K C) E0) NE (LS (LS (pv 2) (pv 6)) (pv 7)) (LS (pv 2) (pe_op op_add_str (pv 7) (pv 6))) (nomark _)) (pss_one (ps_ret pe_bl)) pss_nil)
        (pss_one (ps_if (PW.pt (pw_or (pt_cmpR (r := rNeI K C (spBEq K C) E0) NE (pe_un IV (RS (pv 5) (pv 2))) (LS (pe_un IV (pv 2)) (pe_revS (pv 5))) (nomark _))
            (pw_or1 (pt_cmpR (r := rNeI K C (spBEq K C) E0) NE (pe_un IV (LS (pv 2) (pv 6))) (RS (pe_revS (pv 6)) (pe_un IV (pv 2))) (nomark _))))) (pss_one (ps_ret pe_bl)) pss_nil)))))))
      (pss_cons (ps_set (i := 8) scRight.nd rfl (.inl rfl) (pe_join pe_str (pe_lc (own := [("_law_turn", 4)]) (g := gName 4) (tt := tYes) (te := tCall spPickS [] E0 (tCons (tVar 0) (tCons (tVar 3) tNil))) (by rfl) scRight.nd
          (pi_range1 (by rfl) B.range (pa_cons (pe_call GD (hr.mono (by decide)) rfl gD kD bD .nil pass0 (by exact (pa_cons (pv 0) (pa_cons pe_int pa_nil)))) pa_nil))
          (blkOk_by (own := [("_law_turn", 4)]) (N := NRight) (sc := defScope sRight) (by decide +kernel)) (fun _ _ _ _ _ => by exact (pg_name (i := 4) scRight.nd rfl (Or.inl rfl))) (fun _ _ _ _ _ => pts_nil)
          (fun _ _ _ _ _ => by exact (pe_call GP (hr.mono (by decide)) rfl gP kP bP .nil pass0 (by exact (pa_cons (pv 0) (pa_cons (pv 3) pa_nil))))))))
      (pss_cons (ps_if (pt_cmpR (r := rNeI K C (spBEq K C) E0) NE (RS (pv 8) (pv 2)) (pe_call GB (hr.mono (by decide)) rfl gB kB bB .nil pass0 (by exact (pa_cons (pv 0) (pa_cons (pe_call GU (hr.mono (by decide)) rfl gU kU bU .nil pass0 (by exact (pa_cons (pv 1) (pa_cons (pv 8) (pa_cons pe_str pa_nil))))) pa_nil)))) (nomark _)) (pss_one (ps_ret pe_bl)) pss_nil)
      (pss_cons (ps_if (pt_cmpR (r := rNeI K C (spBEq K C) E0) NE (LS (pv 2) (pv 8)) (pe_call GB (hr.mono (by decide)) rfl gB kB bB .nil pass0 (by exact (pa_cons (pv 0) (pa_cons (pe_call GU (hr.mono (by decide)) rfl gU kU bU .nil pass0 (by exact (pa_cons (pv 1) (pa_cons pe_str (pa_cons (pv 8) pa_nil))))) pa_nil)))) (nomark _)) (pss_one (ps_ret pe_bl)) pss_nil)
      (pss_one (ps_ret (pe_and (pe_cmpR EQ (RS pe_str (pv 2)) (pv 2) (nomark _)) (pe_and (pe_cmpR EQ (LS (pv 2) pe_str) (pv 2) (nomark _)) (pe_one (pe_cmpR EQ (pv 2) (pe_call GB (hr.mono (by decide)) rfl gB kB bB .nil pass0 (by exact (pa_cons (pv 0) (pa_cons (pv 1) pa_nil)))) (nomark _))))))))))))), ?_⟩
    clear RS LS NE EQ IV GE GV GR' GL' GD GP GS GM GB GU GW GT GC
    have e0 : (Str.ofString "").cps.toList = [] := by decide
    refine ⟨_, rfl, _, rfl, p, 3, rfl, hp, by decide, by decide, fun L H1 hL b1 hp1 => ?_⟩
    refine ⟨p, L, 4, rfl, hp1, LETS_ok L hL, by decide, by decide, fun m M H2 b2 hp2 hm0 hm g eL hn5 => ?_⟩
    have b02 := b1.trans b2
    have lL := lettersV_len g.l
    obtain ⟨Mt, t⟩ := ex_turn g
    have nm : m ≠ p := by
      obtain ⟨x, z, ep, _⟩ := id hp2
      obtain ⟨_, _, _, _, h1, _⟩ := id hm
      exact ne_of h1 ep (fun z => nomatch z)
    obtain ⟨bb, ee, ll, us, h1, h2, h3, h4, h5, n1, n2, n3⟩ := id hm
    refine ⟨_, rfl, _, rfl, p, m, M, rfl, hp2, hm, g, fun a sd H3 b3 hp3 ha hsd hbk => ?_⟩
    refine ⟨_, rfl, m, _, rfl, md_signs (b3 _ _ nm h1), by show 2 ≤ sizeLine; decide, fun T0 hT0 => ?_⟩
    have s4 : Same H3 (upd H3 T0 (.tup [.ref a, .str M.L])) := Same.new' (Same.refl H3) hT0
    refine ⟨T0, _, rfl, .inl (.inl upd_same), rfl, _, _, rfl, _, _, rfl, rfl, ?_⟩
    have hb4 := hbk.same s4
    have b24 : But p H2 (upd H3 T0 (.tup [.ref a, .str M.L])) := b3.trans (But.of s4)
    have hm4 := MdAt.but hp2 b24 hm
    have hp4 := pot_same s4 hp3
    have b04 := b02.trans b24
    generalize (upd H3 T0 (.tup [.ref a, .str M.L])) = H4 at hb4 hm4 hp4 b04
    refine ⟨_, rfl, _, rfl, _, rfl, p, a, sd, m, M, rfl, hp4, hb4, hm4, g, lL.2, fun H5 b5 hp5 => ⟨_, rfl, iteF ?_⟩⟩
    refine ⟨3, rfl, by decide, by decide, ?_⟩
    refine for_it walk_range (fun i σ H' => But p H4 H' ∧ Pot H' p ∧ ∃ (u4 u5 u6 u7 : Option V), σ = [some (.ref p), some (.ref m), some (.ref a), some (.str M.L), u4, u5, u6, u7, none]) ⟨b5, hp5, none, none, none, none, rfl⟩ (fun _ _ _ _ _ => trivial) (fun i x σ Ha Hb hi hI y => ?_) (fun σ H6 h => ?_)
    · obtain ⟨rfl, rfl⟩ := y
      obtain ⟨ba, hpa, u4, u5, u6, u7, rfl⟩ := hI
      refine ⟨_, rfl, _, rfl, p, M.L, rfl, hpa, by omega, lL.2, fun zf H5 b5 hp5 rf => ⟨_, rfl, _, rfl, p, M.L, rfl, hp5, by omega, lL.2, fun zb H6 b6 hp6 rb => ⟨_, rfl, _, rfl, p, M.L, rfl, hp6, by omega, lL.2, fun zm H7 b7 hp7 rm => ⟨_, _, _, rfl, ?_⟩⟩⟩⟩
      have b47 := ba.trans (b5.trans (b6.trans b7))
      refine ⟨_, rfl, _, rfl, _, rfl, _, rfl, _, rfl, p, a, sd, m, M, zf, zb, rfl, hp7, hb4.but hp4 b47, MdAt.but hp4 b47 hm4, g, lL.2, rf.mono (by decide), rb.mono (by decide), fun H8 b8 hp8 => ⟨_, rfl, iteF ?_⟩⟩
      have b48 := b47.trans b8
      have hb8 := hb4.but hp4 b48
      have rof := rf.row (M := M) (by decide)
      have rob := rb.row (M := M) (by decide)
      have rom := rm.row (M := M) (by decide)
      have gS := cutS_good g zf.cps.toList
      have gE := cutE_good g zb.cps.toList
      -- more >> (front >> tome) != (front + more) >> tome
      refine ⟨_, rfl, _, rfl, _, rfl, ⟨zf, rfl⟩, hb8.ins, p, a, sd, M, zf, rfl, hp8, hb8, g, rof, fun c1 d1 H9 s9 _ _ k9 => ⟨⟨_, rfl⟩, ⟨zm, rfl⟩, k9.ins, p, c1, d1, cutS M zf.cps.toList, zm, rfl, pot_same s9 hp8, k9, gS, ⟨rom.1, rom.2⟩, fun c2 d2 H10 s10 _ _ k10 => ⟨⟨_, rfl⟩, ?_⟩⟩⟩
      have s810 := s9.trans s10
      have hp10 := pot_same s810 hp8
      have hb10 := hb8.same s810
      have rfm := (rf.cat rm).row (M := M) (by decide)
      refine ⟨_, rfl, _, rfl, zf, zm, rfl, rfl, Nat.le_trans (show zf.length + zm.length ≤ 1000 by have := rf.2; have := rm.2; omega) (by decide), _, rfl, ⟨zf ++ zm, rfl⟩, hb10.ins, p, a, sd, M, zf ++ zm, rfl, hp10, hb10, g, rfm, fun c3 d3 H11 s11 _ _ k11 => ⟨⟨_, rfl⟩, ?_⟩⟩
      rw [cutS_cutS] at k10
      rw [cat_list] at k11
      refine ne_bk (cutS_good g _) (cutS_good g _) (k10.same s11) k11 ⟨_, rfl, ?_⟩
      rw [decide_eq_true rfl]
      have s811 := s810.trans s11
      have hp11 := pot_same s811 hp8
      have hb11 := hb8.same s811
      clear k9 k10 k11 hb10 hp10
      -- (tome << back) << more != tome << more + back
      refine iteF ⟨_, rfl, _, rfl, hb11.ins, ⟨zb, rfl⟩, p, a, sd, M, zb, rfl, hp11, hb11, g, rob, fun c1 d1 H12 s12 _ _ k12 => ⟨⟨_, rfl⟩, _, rfl, k12.ins, ⟨zm, rfl⟩, p, c1, d1, cutE M zb.cps.toList, zm, rfl, pot_same s12 hp11, k12, gE, ⟨rom.1, rom.2⟩, fun c2 d2 H13 s13 _ _ k13 => ⟨⟨_, rfl⟩, ?_⟩⟩⟩
      have s1113 := s12.trans s13
      have hp13 := pot_same s1113 hp11
      have hb13 := hb11.same s1113
      have rmb := (rm.cat rb).row (M := M) (by decide)
      refine ⟨_, rfl, _, rfl, _, rfl, zm, zb, rfl, rfl, Nat.le_trans (show zm.length + zb.length ≤ 1000 by have := rb.2; have := rm.2; omega) (by decide), hb13.ins, ⟨zm ++ zb, rfl⟩, p, a, sd, M, zm ++ zb, rfl, hp13, hb13, g, rmb, fun c3 d3 H14 s14 _ _ k14 => ⟨⟨_, rfl⟩, ?_⟩⟩
      rw [cutE_cutE] at k13
      rw [cat_list] at k14
      refine ne_bk (cutE_good g _) (cutE_good g _) (k13.same s14) k14 ⟨_, rfl, ?_⟩
      rw [decide_eq_true rfl]
      have s1114 := s1113.trans s14
      have hp14 := pot_same s1114 hp11
      have hb14 := hb11.same s1114
      clear k12 k13 k14 hb13 hp13
      -- ~(front >> tome) != ~tome << front[::-1]
      refine iteF ⟨_, rfl, _, rfl, ⟨zf, rfl⟩, hb14.ins, p, a, sd, M, zf, rfl, hp14, hb14, g, rof, fun c1 d1 H15 s15 _ _ k15 => ⟨⟨_, rfl⟩, k15.ins, inv_use (turn_cutS g t _) (pot_same s15 hp14) k15 gS fun c2 d2 H16 s16 _ _ k16 => ?_⟩⟩
      have s1416 := s15.trans s16
      have hp16 := pot_same s1416 hp14
      have hb16 := hb14.same s1416
      refine ⟨_, rfl, hb16.ins, inv_use t hp16 hb16 g fun c3 d3 H17 s17 _ _ k17 => ⟨_, rfl, zf, rfl, Nat.le_trans (show zf.length ≤ 1000 by have := rf.2; omega) (by decide), k17.ins, ⟨revStr zf, rfl⟩, p, c3, d3, Mt, revStr zf, rfl, pot_same s17 hp16, k17, t.g, t.row (rf.rev.row (by decide)), fun c4 d4 H18 s18 _ _ k18 => ⟨⟨_, rfl⟩, ?_⟩⟩⟩
      rw [rev_list] at k18
      refine ne_bk (cutE_good t.g _) (cutE_good t.g _) (k16.same (s17.trans s18)) k18 ⟨_, rfl, ?_⟩
      rw [decide_eq_true rfl]
      have s1418 := s1416.trans (s17.trans s18)
      have hp18 := pot_same s1418 hp14
      have hb18 := hb14.same s1418
      clear k15 k16 k17 k18 hb16 hp16
      -- ~(tome << back) != back[::-1] >> ~tome
      refine iteF ⟨_, rfl, _, rfl, hb18.ins, ⟨zb, rfl⟩, p, a, sd, M, zb, rfl, hp18, hb18, g, rob, fun c1 d1 H19 s19 _ _ k19 => ⟨⟨_, rfl⟩, k19.ins, inv_use (turn_cutE g t _) (pot_same s19 hp18) k19 gE fun c2 d2 H20 s20 _ _ k20 => ?_⟩⟩
      have s1820 := s19.trans s20
      have hp20 := pot_same s1820 hp18
      have hb20 := hb18.same s1820
      refine ⟨_, rfl, zb, rfl, Nat.le_trans (show zb.length ≤ 1000 by have := rb.2; omega) (by decide), _, rfl, hb20.ins, inv_use t hp20 hb20 g fun c3 d3 H21 s21 _ _ k21 => ⟨⟨revStr zb, rfl⟩, k21.ins, p, c3, d3, Mt, revStr zb, rfl, pot_same s21 hp20, k21, t.g, t.row (rb.rev.row (by decide)), fun c4 d4 H22 s22 _ _ k22 => ⟨⟨_, rfl⟩, ?_⟩⟩⟩
      rw [rev_list] at k22
      refine ne_bk (cutS_good t.g _) (cutS_good t.g _) (k20.same (s21.trans s22)) k22 ⟨_, rfl, ?_⟩
      rw [decide_eq_true rfl]
      have s822 := s811.trans (s1114.trans (s1418.trans (s1820.trans (s21.trans s22))))
      exact iteF ⟨b48.trans (But.of (p := p) s822), pot_same s822 hp8, _, _, _, _, rfl⟩
    · obtain ⟨b46, hp6, u4, u5, u6, u7, rfl⟩ := h
      refine ⟨⟨_, rfl⟩, _, rfl, p, 41, rfl, hp6, by decide, by decide, fun d H7 d0 d7 b7 hp7 => ⟨d, rfl, by omega, by omega, fun D hD => ?_⟩⟩
      have nDp : D ≠ p := (Pot.ne hp7 hD).symm
      refine lc_it walk_range (fun i H' => But p H7 H' ∧ Pot H' p ∧ ∃ cs : List Nat, H' D = some (.lst ((cs.map sgn).map V.str)) ∧ cs.length = i ∧ ∀ c ∈ cs, c ∈ M.L.cps.toList) ⟨(But.refl p H7).new hD, pot_same (Same.new' (Same.refl H7) hD) hp7, [], upd_same, rfl, fun c hc => absurd hc List.not_mem_nil⟩
        (fun _ _ _ _ => trivial) (fun i x Ha Hb hi hv y => ?_) (fun H8 hv => ?_)
      · obtain ⟨rfl, rfl⟩ := y
        obtain ⟨e3, q3, cs, c1, c2, c3⟩ := hv
        refine ⟨rfl, _, rfl, _, rfl, p, M.L, rfl, q3, by omega, by omega, fun c H9 hc b9 hp9 => ?_⟩
        refine ⟨_, b9 _ _ nDp c1, by rw [List.length_map, List.length_map, c2]; exact Nat.lt_of_le_of_lt (show i ≤ 1000 by omega) (by decide), fun z o nz ez => ?_, ?_, cs ++ [c], ?_, by rw [List.length_append, c2]; rfl, fun c' hc' => ?_⟩
        · rw [upd_ne (ne_of_none ez hD)]
          exact b9 _ _ nz (e3 _ _ nz ez)
        · obtain ⟨x1, x2, ex, rx⟩ := hp9
          exact ⟨x1, x2, by rw [upd_ne nDp.symm]; exact ex, rx⟩
        · rw [upd_same, List.map_append, List.map_append]
          rfl
        · rcases List.mem_append.mp hc' with z | z
          · exact c3 _ z
          · rw [List.mem_singleton.mp z]; exact hc
      · obtain ⟨b8, hp8, cs, c1, c2, c3⟩ := hv
        have lcs : cs.length ≤ 40 := by omega
        refine ⟨_, D, cs.map sgn, rfl, rfl, .inl (.inl (.inl c1)), cs_sumN cs (by omega), ?_⟩
        rw [join_csN]
        have rF : RowL M.L 40 ⟨cs.toArray⟩ := rowL_cs lcs c3
        generalize (⟨cs.toArray⟩ : Str) = zF at rF
        have roF := rF.row (M := M) (by decide)
        have b48 := b46.trans (b7.trans b8)
        have hb8 := hb4.but hp4 b48
        -- far >> tome
        refine ⟨_, rfl, _, rfl, ⟨zF, rfl⟩, hb8.ins, p, a, sd, M, zF, rfl, hp8, hb8, g, roF, fun e1 f1 H9 s9 _ _ k9 => ⟨⟨_, rfl⟩, ?_⟩⟩
        have b49 : But p H4 H9 := b48.trans (But.of (p := p) s9)
        have hp9 := pot_same s9 hp8
        refine ⟨_, rfl, _, rfl, _, rfl, p, m, M, zF, "", rfl, hp9, MdAt.but hp4 b49 hm4, g, fun m1 H10 s10 _ d10 => ?_⟩
        rw [e0, cutE_nil] at d10
        have hp10 := pot_same s10 hp9
        refine ⟨p, m1, _, rfl, hp10, d10, cutS_good g _, fun e2 f2 H11 b11 hp11 _ _ k11 => ?_⟩
        have b911 : But p H9 H11 := (But.of (p := p) s10).trans b11
        have b411 := b49.trans b911
        refine ne_bk (cutS_good g _) (cutS_good g _) (k9.but hp9 b911) k11 ⟨_, rfl, ?_⟩
        rw [decide_eq_true rfl]
        have hb11 := hb4.but hp4 b411
        clear k9 k11 d10
        -- tome << far
        refine iteF ⟨_, rfl, _, rfl, hb11.ins, ⟨zF, rfl⟩, p, a, sd, M, zF, rfl, hp11, hb11, g, roF, fun e1 f1 H12 s12 _ _ k12 => ⟨⟨_, rfl⟩, ?_⟩⟩
        have b412 : But p H4 H12 := b411.trans (But.of (p := p) s12)
        have hp12 := pot_same s12 hp11
        refine ⟨_, rfl, _, rfl, _, rfl, p, m, M, "", zF, rfl, hp12, MdAt.but hp4 b412 hm4, g, fun m1 H13 s13 _ d13 => ?_⟩
        rw [e0, cutS_nil] at d13
        have hp13 := pot_same s13 hp12
        refine ⟨p, m1, _, rfl, hp13, d13, cutE_good g _, fun e2 f2 H14 b14 hp14 _ _ k14 => ?_⟩
        have b1214 : But p H12 H14 := (But.of (p := p) s13).trans b14
        have b414 := b412.trans b1214
        refine ne_bk (cutE_good g _) (cutE_good g _) (k12.but hp12 b1214) k14 ⟨_, rfl, ?_⟩
        rw [decide_eq_true rfl]
        have hb14 := hb4.but hp4 b414
        clear k12 k14 d13
        have roN : RowOf M "" := (RowL.nil (L := M.L) (k := 0)).row (by decide)
        -- by nothing
        refine iteF ⟨_, rfl, ⟨"", rfl⟩, hb14.ins, p, a, sd, M, "", rfl, hp14, hb14, g, roN, fun e1 f1 H15 s15 _ _ k15 => ⟨⟨_, rfl⟩, ?_⟩⟩
        rw [e0, cutS_nil] at k15
        have hp15 := pot_same s15 hp14
        have hb15 := hb14.same s15
        refine ⟨_, rfl, eq_bk g g k15 hb15 ⟨_, rfl, ?_⟩⟩
        rw [decide_eq_true (rfl : M = M)]
        refine iteT ⟨_, rfl, hb15.ins, ⟨"", rfl⟩, p, a, sd, M, "", rfl, hp15, hb15, g, roN, fun e2 f2 H16 s16 _ _ k16 => ⟨⟨_, rfl⟩, ?_⟩⟩
        rw [e0, cutE_nil] at k16
        have hp16 := pot_same s16 hp15
        have hb16 := hb15.same s16
        refine ⟨_, rfl, eq_bk g g k16 hb16 ⟨_, rfl, ?_⟩⟩
        rw [decide_eq_true (rfl : M = M)]
        have b416 : But p H4 H16 := b414.trans (But.of (p := p) (s15.trans s16))
        refine iteT ⟨_, rfl, _, rfl, _, rfl, p, m, M, rfl, hp16, MdAt.but hp4 b416 hm4, g, fun e3 f3 H17 b17 hp17 _ _ k17 => ?_⟩
        refine eq_bk g g (hb16.but hp16 b17) k17 ?_
        rw [decide_eq_true (rfl : M = M)]
        exact q H17 (b04.trans (b416.trans b17)) hp17
end
end Lw
set_option Elab.async false
set_option linter.all false
set_option maxRecDepth 100000
set_option maxHeartbeats 4000000
/-! the law -/
namespace Lw
open PySem PySem.Spec PyProof.Rows L2
abbrev sLaw : Stmt := topS 67
def lawN : List Str := ["_law_script", "_law_k", "_law_pot_here", "_law_turn"]
theorem scLaw : FnScope lawN ["_law_script"] (defScope sLaw) := ⟨rfl, rfl, rfl, by decide +kernel, rfl, by decide +kernel, by decide +kernel⟩
def spLaw (K : PySem.W.Frag) : Sp := fun vs H Q _ => ∃ (a : Addr) (ns : List Int), vs = [.ref a] ∧ SqL K H a (ns.map V.int) ∧ ns.length ≤ 63 ∧ ∀ H', Q (.bl true) H'
theorem trues (n : Nat) : (List.replicate n (V.bl true)) ++ [V.bl true] = List.replicate (n + 1) (V.bl true) := by rw [List.replicate_succ']
section
variable {P : Program} {w : World} {K : PySem.W.Frag} {mg : Str → Option Value} {base : Heap}
theorem ok_law {f : Addr} {fd : FuncData} (F : Fun K "law" "law" sLaw f fd) (B : Bl mg) (D0 : Def P w K mg base 1 "_law_pot" ["_law_script", "_law_k"] (spPot K))
    (D1 : DefQ P w K mg base 10 "_law_right" ["_law_pot_here"] spRight) : FnG P w K mg base CX0 11 f fd ["_law_script"] (spLaw K) := by
  obtain ⟨f0, fd0, G0, g0, k0, b0⟩ := D0.ex
  obtain ⟨f1, fd1, G1, g1, k1, b1⟩ := D1.ex
  refine fng_of0 F scLaw (fun vs H Q E h => ?_) (fun cdv A outer s H vs Q E gd hr h => ?_)
  · obtain ⟨a, ns, rfl, _⟩ := h
    rfl
  · obtain ⟨a, ns, rfl, hS, hlen, q⟩ := h
    refine ⟨_, pss_cons (ps_for PassesOwn.never rfl (pi_range1 (by rfl) B.range (by exact (pa_cons (pe_callB (call_max2 rfl) (by rfl) B.max (by decide +kernel) (pa_cons pe_int (pa_cons (pe_callB (call_min2 rfl) (by rfl) B.min (by decide +kernel) (pa_cons pe_int (pa_cons (pe_callB call_len_seq (by rfl) B.len PySem.boot_len (pa_cons (pv 0) pa_nil)) pa_nil))) pa_nil))) pa_nil))) (pg_name (i := 1) scLaw.nd rfl (Or.inl rfl))
        (pss_cons (ps_set (i := 2) scLaw.nd rfl (.inr rfl) (pe_call G0 (hr.mono (by decide)) rfl g0 k0 b0 .nil pass0 (by exact (pa_cons (pv 0) (pa_cons (pv 1) pa_nil)))))
        (pss_one (ps_if (pt_not (pt_val (pe_callB (cr_all rfl) (by rfl) B.all (by decide +kernel) (by exact (pa_cons (pe_lc (own := [("_law_turn", 3)]) (g := gName 3) (tt := tYes) (te := tCall spRight [] E0 (tCons (tVar 2) tNil)) (by rfl) scLaw.nd (pi_range1 (by rfl) B.range (pa_cons pe_int pa_nil))
            (blkOk_by (own := [("_law_turn", 3)]) (N := lawN) (sc := defScope sLaw) (by decide +kernel)) (fun _ _ _ _ _ => pg_name (i := 3) scLaw.nd rfl (Or.inl rfl)) (fun _ _ _ _ _ => pts_nil)
            (fun _ _ _ _ _ => by exact (pe_callG gd G1 hr rfl g1 k1 b1 pass0 (by exact (pa_cons (pv 2) pa_nil))))) pa_nil))))) (pss_one (ps_ret pe_bl)) pss_nil))))
      (pss_one (ps_ret pe_bl)), ?_⟩
    have hl : (ns.map V.int).length ≤ 63 := by rw [List.length_map]; exact hlen
    refine ⟨_, rfl, a, _, rfl, .inl hS, 2, _, rfl, 1, _, rfl, _, rfl, ?_, ?_, ?_⟩
    · split <;> split <;> omega
    · split <;> split <;> omega
    have hj : ∀ (j : Int), j = (if (if (((ns.map V.int).length : Nat) : Int) < 2 then (((ns.map V.int).length : Nat) : Int) else 2) > 1 then (if (((ns.map V.int).length : Nat) : Int) < 2 then (((ns.map V.int).length : Nat) : Int) else 2) else 1) → j.toNat ≤ 3 := by
      intro j e
      rw [e]
      split <;> split <;> omega
    have hj' := hj _ rfl
    generalize (if (if (((ns.map V.int).length : Nat) : Int) < 2 then (((ns.map V.int).length : Nat) : Int) else 2) > 1 then (if (((ns.map V.int).length : Nat) : Int) < 2 then (((ns.map V.int).length : Nat) : Int) else 2) else 1) = j0 at *
    refine for_range (lo := 0) (n := j0.toNat) (fun i σ H' => SqL K H' a (ns.map V.int) ∧ ∃ u1 u2 u3, σ = [some (.ref a), u1, u2, u3]) ⟨hS, none, none, none, rfl⟩ ?_ ?_
    · rintro i σ H' hi ⟨hS', u1, u2, u3, rfl⟩
      refine ⟨_, rfl, _, rfl, a, ns, _, rfl, hS', hlen, by omega, by omega, fun p H2 hp s2 hpot => ?_⟩
      have nap : ∀ o, H' a = some o → a ≠ p := fun o e => ne_of_none e hp
      refine ⟨2, rfl, by decide, by decide, fun D hD => ?_⟩
      have nDp : D ≠ p := (Pot.ne hpot hD).symm
      refine lc_it walk_range (fun n H3 => But p H2 H3 ∧ Pot H3 p ∧ H3 D = some (.lst (List.replicate n (V.bl true)))) ⟨(But.refl p H2).new hD, pot_same (Same.new' (Same.refl H2) hD) hpot, upd_same⟩ (fun _ _ _ _ => trivial) (fun n x Ha Hb hn hv y => ?_) (fun H3 hv => ?_)
      · obtain ⟨rfl, rfl⟩ := y
        obtain ⟨e3, p3, d3⟩ := hv
        refine ⟨rfl, _, rfl, p, rfl, p3, fun H4 b4 p4 => ⟨_, b4 _ _ nDp d3, ?_, ?_, ?_, ?_⟩⟩
        · rw [List.length_replicate]; exact Evl.sz_lt (by omega)
        · intro b o nb e
          rw [upd_ne (ne_of_none e hD)]
          exact b4 _ _ nb (e3 _ _ nb e)
        · obtain ⟨x1, x2, ex, rx⟩ := p4
          exact ⟨x1, x2, by rw [upd_ne nDp.symm]; exact ex, rx⟩
        · rw [upd_same, trues]
      · obtain ⟨e3, p3, d3⟩ := hv
        refine ⟨D, [true, true], rfl, .inl (.inl d3), _, rfl, ?_⟩
        refine iteF ?_
        refine ⟨?_, _, _, _, rfl⟩
        rcases hS' with (h | ⟨o, h⟩) | h
        · exact .inl (.inl (e3 _ _ (nap _ h) (s2 _ _ h)))
        · exact .inl (.inr ⟨o, e3 _ _ (nap _ h) (s2 _ _ h)⟩)
        · exact .inr h
    · rintro σ H' ⟨_, u1, u2, u3, rfl⟩
      exact q H'
end
end Lw
set_option Elab.async false
set_option linter.all false
set_option maxRecDepth 100000
set_option maxHeartbeats 4000000
/-! how Book's parameters bind; what is told of a book, as defs -/
namespace Lw
open PySem PySem.Spec PyProof.Rows L2
abbrev FunI (K : PySem.W.Frag) (dvs : List V) (f : Addr) (fd : FuncData) : Prop := FunD K "__init__" "Book.__init__" (defArgs sBInit) (defBody sBInit) (defScope sBInit) dvs [] f fd
section
variable {K : PySem.W.Frag} {f : Addr} {fd : FuncData} {d1 d2 d3 : V}
theorem len3 {α β : Type} {R : α → β → Prop} {a b c : α} {its : List β} (h : its.length = [a, b, c].length) : ∃ x y z, its = [x, y, z] := by
  match its, h with
  | [x, y, z], _ => exact ⟨x, y, z, rfl⟩
theorem init_all (F : FunI K [d1, d2, d3] f fd) : Binds K fd psB [] := by
  obtain ⟨ds, h1, h2⟩ := FunD.binds1 (ps := psB) F 6 3 (by simp) rfl (fun T kV doc pm an cdv ct us its hu hi => by
    match us, hu, its, hi with
    | [_, _, _, _, _, _], _, [_, _, _], _ => exact ⟨_, rfl, rfl⟩)
  cases h1
  exact h2
theorem init_bare (F : FunI K [d1, d2, d3] f fd) : ∃ ds, Vals [d1, d2, d3] ds ∧ Binds K fd psB ds := by
  obtain ⟨ds, h1, h2⟩ := FunD.binds1 (ps := psB) F 3 0 (by simp) rfl (fun T kV doc pm an cdv ct us its hu hi => by
    match us, hu, its, hi with
    | [_, _, _], _, [_, _, _], _ => exact ⟨_, rfl, rfl⟩)
  exact ⟨ds, h1, h2⟩
theorem rb5_rel {vs zs : List V} {us ws : List Value} (r : Vals vs us) (q : Vals zs ws) : Vals (rb5 vs zs) (rb5 us ws) := by
  cases r with
  | nil => exact .nil
  | cons r1 r2 => cases r2 with
    | cons r3 r4 => exact .cons r1 (.cons r3 r4)
    | nil => cases q with
      | nil => exact .cons r1 .nil
      | cons a1 q => cases q with
        | nil => exact .cons r1 .nil
        | cons a2 q => cases q with
          | nil => exact .cons r1 .nil
          | cons a3 q => cases q with
            | nil => exact .cons r1 .nil
            | cons a4 q => cases q with
              | nil => exact .cons r1 .nil
              | cons a5 q => cases q with
                | nil => exact .cons r1 (.cons a5 (.cons a4 (.cons a3 (.cons a2 (.cons a1 .nil)))))
                | cons a6 q => exact .cons r1 .nil
theorem rb2_rel {vs zs : List V} {us ws : List Value} (r : Vals vs us) (q : Vals zs ws) : Vals (rb2 vs zs) (rb2 us ws) := by
  cases r with
  | nil => exact .nil
  | cons r1 r => cases r with
    | nil => exact .cons r1 .nil
    | cons r2 r => cases r with
      | nil => exact .cons r1 (.cons r2 .nil)
      | cons r3 r => cases r with
        | nil => exact .cons r1 (.cons r2 (.cons r3 .nil))
        | cons r4 r => cases r with
          | cons r5 r => exact .cons r1 (.cons r2 (.cons r3 (.cons r4 (.cons r5 r))))
          | nil => cases q with
            | nil => exact .cons r1 (.cons r2 (.cons r3 (.cons r4 .nil)))
            | cons a1 q => cases q with
              | nil => exact .cons r1 (.cons r2 (.cons r3 (.cons r4 .nil)))
              | cons a2 q => cases q with
                | nil => exact .cons r1 (.cons r2 (.cons r3 (.cons r4 (.cons a2 (.cons a1 .nil)))))
                | cons a3 q => exact .cons r1 (.cons r2 (.cons r3 (.cons r4 .nil)))
/-- by keywords, the defaults read but not used -/
theorem init_kw {n : Nat} {ks : List Str} {g : List Value → List Value → List Value} {gV : List V → List V → List V} (F : FunI K [d1, d2, d3] f fd) (rel : ∀ {vs us zs ws}, Vals vs us → Vals zs ws → Vals (gV vs zs) (g us ws))
    (h : ∀ (T : Addr) (kV doc pm : Value) (an : Option Addr) (cdv ct : Value) (us its ws : List Value), us.length = n → its.length = 3 → ws.length = ks.length →
      ∃ k, bindArgs (PySem.W.fnOf "__init__" "Book.__init__" (defArgs sBInit) (defBody sBInit) (defScope sBInit) (.ref T) kV doc pm an cdv ct) ⟨us, ks.zip ws⟩ = seqItems? (.ref T) >>= k ∧ k (some its.toArray) = pure (psB.zip (g us ws))) : KBn K fd psB n ks g gV := by
  obtain ⟨oc, od, dV, kV, doc, pm, an, cdv, ct, osl, rfl, lk, hcd, hD, hK⟩ := F.ex
  rcases hD with ⟨e, _⟩ | ⟨_, T, o, its, m, rfl, lT, oT, rT⟩
  · cases e
  · refine ⟨fun s us ws X l1 l2 => ?_, rel⟩
    obtain ⟨k, e1, e2⟩ := h T kV doc pm an cdv ct us its ws l1 rT.length.symm l2
    exact BindsTo.of_looks fun M => by
      rw [e1]
      exact looks_items X lT oT (.of_pure e2)
theorem init_kw5 (F : FunI K [d1, d2, d3] f fd) : KBn K fd psB 1 ["steps", "ends", "starts", "size", "letters"] rb5 rb5 :=
  init_kw F (fun r q => rb5_rel r q) fun T kV doc pm an cdv ct us its ws hu hi hw => by
    match us, hu, its, hi, ws, hw with
    | [_], _, [_, _, _], _, [_, _, _, _, _], _ => exact ⟨_, rfl, rfl⟩
theorem init_kw2 (F : FunI K [d1, d2, d3] f fd) : KBn K fd psB 4 ["steps", "ends"] rb2 rb2 :=
  init_kw F (fun r q => rb2_rel r q) fun T kV doc pm an cdv ct us its ws hu hi hw => by
    match us, hu, its, hi, ws, hw with
    | [_, _, _, _], _, [_, _, _], _, [_, _], _ => exact ⟨_, rfl, rfl⟩
end
section
variable {P : Program} {w : World} {K : PySem.W.Frag} {mg : Str → Option Value} {base : Heap}
theorem ok_get {m q a : Str} {st : Stmt} {g C : Addr} {fd : FuncData} {p1 p2 p3 : Pos} (F : Fun K m q st g fd) (S : FnScope ["self"] ["self"] (defScope st)) (hb : defBody st = [.Return (some (.Attribute (.Name "self" p1) a p2)) p3]) (c : Cls K C) (n : NoAttr K C a) : FnOk P w K mg base CX0 1 g fd ["self"] (getSp C a) := by
  obtain ⟨oc, od, kV, doc, pm, an, cdv, ct, osl, rfl, lk, hcd⟩ := F.ex
  exact fn_getter lk hcd S rfl hb c n
theorem scGet : ∀ i ∈ [2, 3, 4, 5], FnScope ["self"] ["self"] (defScope (inClass cBook i)) := by
  intro i hi
  simp only [List.mem_cons, List.not_mem_nil, or_false] at hi
  rcases hi with rfl | rfl | rfl | rfl <;> exact ⟨rfl, rfl, rfl, by decide +kernel, rfl, by decide +kernel, by decide +kernel⟩
end
end Lw
set_option Elab.async false
set_option linter.all false
set_option maxRecDepth 100000
set_option maxHeartbeats 4000000
/-! the end: a law whose promise wants that no repr is under way, with tables of code objects -/
namespace Lw
open PySem PySem.Spec PyProof.Rows L2 LamX
/-- the abstract heap at the law's entry: the tables, and the script unless the fragment tells of it -/
def entryH (lst : Option HO) (a : Addr) (tabs : List Addr) : Hp := fun b => if b ∈ tabs then some (.tbl #[]) else if b = a then lst else none
section
variable {lst : Option HO} {a : Addr} {tabs : List Addr}
theorem entry_cases {b : Addr} {u : HO} (h : entryH lst a tabs b = some u) : (b ∈ tabs ∧ u = .tbl #[]) ∨ (b = a ∧ lst = some u) := by
  unfold entryH at h
  by_cases h1 : b ∈ tabs
  · rw [if_pos h1] at h
    exact .inl ⟨h1, (Option.some.inj h).symm⟩
  · rw [if_neg h1] at h
    by_cases h2 : b = a
    · rw [if_pos h2] at h
      exact .inr ⟨h2, h⟩
    · rw [if_neg h2] at h
      cases h
theorem entry_tab {b : Addr} (h : b ∈ tabs) : entryH lst a tabs b = some (.tbl #[]) := if_pos h
theorem entry_scr (h : a ∉ tabs) : entryH lst a tabs a = lst := (if_neg h).trans (if_pos rfl)
end
abbrev scriptObj (vs : List Value) : Obj := { cls := .type "list", data := .seq vs.toArray }
section
variable {P : Program} {w : World} {K : PySem.W.Frag} {mg mb : Str → Option Value}
theorem law_run {k : Nat} {fa a : Addr} {cs : List (Addr × Addr)} {fd : FuncData} {x : Str} {sp : Sp} {s : Shared} {vs : List Value} {ns : List Int} (kin : K.In s.heap) (gl : s.heap.Ns mainGlobals mg) (bl : s.heap.Ns builtinsNs mb) (bb : ∀ y : Str, y ≠ "__name__" → mb y = bootBuiltins y)
    (nl : s.heap.NoLimit) (noGen : s.gens = #[]) (tb : ∀ p ∈ cs, s.heap.get? p.2 = some (PySem.W.tabObj #[])) (nk : ∀ p ∈ cs, K.lookup p.2 = none) (cd : ∀ p ∈ cs, PySem.W.CodeHd s.heap p.1 p.2)
    (bmain : ∃ (bm : Addr) (ob : Obj), mg "__builtins__" = some (.ref bm) ∧ bm ≠ builtinsNs ∧ s.heap.get? bm = some ob ∧ ob.cls = .type "module" ∧ ob.dict = some builtinsNs ∧ ob.data = .plain)
    (ha : s.heap.get? a = some (scriptObj vs)) (hi : IntsAre vs ns) (hl : ns.length ≤ sizeLine) (hr : Room k callerA)
    (F : ∀ base : Heap, K.In base → base.Ns mainGlobals mg → (∀ p ∈ cs, TabB base mg p.1 p.2) → FnG P w K mg base CX0 k fa fd [x] sp) (bind : ∀ (s' : Shared) (u : Value), BindsTo s' fd ⟨[u], []⟩ [(x, u)])
    (told : ∀ H : Hp, (∀ p ∈ cs, H p.2 = some (.tbl #[])) → SqL K H a (ns.map V.int) → sp [.ref a] H (fun v _ => v = .bl true) fun _ _ _ => False) :
    codeAny (model P w) callerA (.call (.ref fa) ⟨[.ref a], []⟩) (fun r s' => r = .ok (.ret (.bool true)) ∧ OldK s.heap s'.heap ∧ s'.os = s.os ∧ AllBare s'.gens) s := by
  have rel := vals_ints hi
  let tabs := cs.map (·.2)
  let lst : Option HO := if (K.lookup a).isNone = true then some (.frz (scriptObj vs) (.lst (ns.map V.int))) else none
  let H := entryH lst a tabs
  have isTab : ∀ {b : Addr}, b ∈ tabs → ∃ p ∈ cs, p.2 = b := fun hb => List.mem_map.mp hb
  have tabOf : ∀ {b : Addr}, b ∈ tabs → s.heap.get? b = some (PySem.W.tabObj #[]) := fun hb => by
    obtain ⟨p, hp, e⟩ := isTab hb
    rw [← e]
    exact tb p hp
  have aNo : a ∉ tabs := fun hm => by
    have z := ha.symm.trans (tabOf hm)
    have z2 : Data.seq vs.toArray _ = Data.fields #[] := congrArg Obj.data (Option.some.inj z)
    cases z2
  have cases_ : ∀ {b : Addr} {u : HO}, H b = some u → (b ∈ tabs ∧ u = .tbl #[]) ∨ (b = a ∧ (K.lookup a).isNone = true ∧ u = .frz (scriptObj vs) (.lst (ns.map V.int))) := fun {b u} e => by
    rcases entry_cases e with z | ⟨z1, z2⟩
    · exact .inl z
    · by_cases hn : (K.lookup a).isNone = true
      · have z3 : lst = some (.frz (scriptObj vs) (.lst (ns.map V.int))) := if_pos hn
        rw [z3] at z2
        exact .inr ⟨z1, hn, (Option.some.inj z2).symm⟩
      · have z3 : lst = none := if_neg hn
        rw [z3] at z2
        cases z2
  -- what is not tracked
  have seen : ∀ {b : Addr} {o : Obj}, s.heap.get? b = some o → o.data ≠ .fields #[] → (∀ xs n, o.data ≠ .seq xs n) → H b = none := fun {b o} e d1 d2 => by
    cases q : H b with
    | none => rfl
    | some u =>
      rcases cases_ q with ⟨z, _⟩ | ⟨z, _⟩
      · cases e.symm.trans (tabOf z)
        exact absurd rfl d1
      · rw [z] at e
        cases e.symm.trans ha
        exact absurd rfl (d2 _ _)
  have inK : ∀ {b : Addr} {o : Obj}, K.lookup b = some o → H b = none := fun {b o} e => by
    cases q : H b with
    | none => rfl
    | some u =>
      rcases cases_ q with ⟨z, _⟩ | ⟨z, z2, _⟩
      · obtain ⟨p, hp, ep⟩ := isTab z
        rw [← ep, nk p hp] at e
        cases e
      · rw [z] at e
        rw [e] at z2
        cases z2
  have nsOf : ∀ {b : Addr} {m : Str → Option Value}, s.heap.Ns b m → (hidT s.heap H).Ns b m := fun {b m} ⟨o, es, ep, e, d, r⟩ =>
    ⟨o, es, ep, hidT_get e (seen e (fun z => by rw [d] at z; cases z) fun _ _ z => by rw [d] at z; cases z), d, r⟩
  have kinB : K.In (hidT s.heap H) := fun b o e => hidT_get (kin b o e) (inK e)
  have md : L2.Mod K mg (hidT s.heap H) := ⟨kinB, nsOf gl, ⟨mb, nsOf bl, bb⟩, let ⟨mc, h1, h2⟩ := nl; ⟨mc, nsOf h1, h2⟩⟩
  have dictNe : ∀ {b c : Addr} {m : Str → Option Value} {o : Obj}, s.heap.Ns b m → s.heap.get? c = some o → (∀ es n, o.data ≠ .dict es n) → b ≠ c := fun {b c m o} ⟨o1, es, ep, e, d, _⟩ e2 hd q => by
    subst q
    cases e.symm.trans e2
    exact hd _ _ d
  have tbs : ∀ p ∈ cs, TabB (hidT s.heap H) mg p.1 p.2 := fun p hp => by
    obtain ⟨bm, ob, m1, m2, m3, m4, m5, m6⟩ := bmain
    have g1 : mainGlobals ≠ bm := dictNe gl m3 (fun _ _ z => by rw [m6] at z; cases z)
    have g2 : mainGlobals ≠ p.2 := dictNe gl (tb p hp) (fun _ _ z => by cases z)
    have g3 : bm ≠ p.2 := fun z => by
      rw [z] at m3
      cases m3.symm.trans (tb p hp)
      cases m6
    refine ⟨?_, ⟨bm, ob, m1, m2, g1.symm, g3, hidT_get m3 (seen m3 (fun z => by rw [m6] at z; cases z) fun _ _ z => by rw [m6] at z; cases z), m4, m5, m6⟩, g2⟩
    obtain ⟨o, us, file, tf, flags, tg, inF, text, tt, e1, e2, e3, e4, more⟩ := cd p hp
    have nb : H p.1 = none := seen e1 (fun z => by
      rw [e3] at z
      cases z
      simp at e4) fun _ _ z => by rw [e3] at z; cases z
    exact ⟨o, us, file, tf, flags, tg, inF, text, tt, hidT_get e1 nb, e2, e3, e4, more⟩
  have tabsH : ∀ p ∈ cs, H p.2 = some (.tbl #[]) := fun p hp => entry_tab (List.mem_map.mpr ⟨p, hp, rfl⟩)
  have okH : HOk P w H s.heap := fun b u e => by
    rcases cases_ e with ⟨z, rfl⟩ | ⟨z, _, rfl⟩
    · exact tabOf z
    · rw [z]
      exact ⟨ha, by rw [List.length_map]; exact hl, vs, _, rel, ha⟩
  have scr : SqL K H a (ns.map V.int) := by
    cases q : K.lookup a with
    | none =>
      refine .inl (.inr ⟨scriptObj vs, ?_⟩)
      have z3 : lst = some (.frz (scriptObj vs) (.lst (ns.map V.int))) := if_pos (by rw [q]; rfl)
      exact (entry_scr aNo).trans z3
    | some o =>
      cases (kin a o q).symm.trans ha
      refine .inr ⟨_, vs.toArray, _, q, rfl, rfl, rfl, ?_, by simpa using rel⟩
      rw [List.size_toArray, ← rel.length, List.length_map]
      exact hl
  have e0 : Env0 P w K mg (hidT s.heap H) callerA [] s H := ⟨rfl, md, fun b o e => of_hidT e, Nat.le_of_eq (hidT_size _ _), trivial, fun b hb => absurd (show b ∈ ([] : List Addr) from hb) List.not_mem_nil, okH, .of_eq noGen⟩
  refine codeAny_mono ((F _ kinB (nsOf gl) tbs).goes callerA [] s H [.ref a] [.ref a] _ _ rfl hr e0 (bind s (.ref a)) (.cons rfl .nil) (told H tabsH scr)) fun r s' out => ?_
  cases r with
  | error e => exact False.elim out
  | ok fl =>
    cases fl with
    | next => exact out.elim
    | brk => exact out.elim
    | cont => exact out.elim
    | ret u =>
      obtain ⟨v, H', os, bare, un, okH', ru, q⟩ := out
      cases (show v = .bl true from q)
      cases (show u = Value.bool true from ru)
      have kept : ∀ b o, b ∉ tabs → s.heap.get? b = some o → s'.heap.get? b = some o := fun b o nt e => by
        cases q : H b with
        | none => exact un.keep b o e q (fun z => absurd (show b ∈ ([] : List Addr) from z) List.not_mem_nil) List.not_mem_nil
        | some y =>
          rcases cases_ q with ⟨z, _⟩ | ⟨z, _, rfl⟩
          · exact absurd z nt
          · obtain ⟨e1, _⟩ := okH' b _ (un.frzs b _ _ q)
            rw [z] at e e1 ⊢
            cases e.symm.trans ha
            exact e1
      have grows : ∀ p ∈ cs, ∃ more : Array Value, s'.heap.get? p.2 = some { cls := .none, data := .fields more } := fun p hp => by
        obtain ⟨more, z⟩ := un.tbls p.2 #[] (tabsH p hp)
        exact ⟨_, okH' p.2 _ z⟩
      refine ⟨rfl, ⟨fun b o e => ?_, fun b o e => ?_⟩, os, bare⟩
      · by_cases nt : b ∈ tabs
        · obtain ⟨p, hp, ep⟩ := isTab nt
          obtain ⟨more, hm⟩ := grows p hp
          cases e.symm.trans (tabOf nt)
          rw [← ep]
          exact .inr (.inl ⟨((cd p hp).tab (tb p hp)).isCodeTable, rfl, #[], more, rfl, by rw [Array.empty_append]; exact hm⟩)
        · exact .inl (kept b o nt e)
      · by_cases nt : b ∈ tabs
        · obtain ⟨p, hp, ep⟩ := isTab nt
          obtain ⟨more, hm⟩ := grows p hp
          rw [← ep]
          exact ⟨_, hm⟩
        · exact ⟨o, kept b o nt e⟩
end
end Lw
set_option Elab.async false
set_option linter.all false
set_option maxRecDepth 100000
set_option maxHeartbeats 4000000
/-! what the top has written, and the law's end -/
namespace Lw
open PySem PySem.Spec PyProof.Rows L2
def FunAt (K : PySem.W.Frag) (x : Str) (st : Stmt) : Prop := ∃ (f : Addr) (fd : FuncData), L2.Fun K x x st f fd ∧ PySem.W.nsIn K mainGlobals x = some (some (.ref f))
/-- a method of the class -/
def MetAt (K : PySem.W.Frag) (C : Addr) (m q : Str) (st : Stmt) : Prop := ∃ (f : Addr) (fd : FuncData), L2.Fun K m q st f fd ∧ PySem.W.findIn K (.ref C) m = some (some (.ref f)) ∧ PySem.W.isFn K (.ref f) = true
/-- a property of it -/
def PrpAt (K : PySem.W.Frag) (C : Addr) (m q : Str) (st : Stmt) : Prop := ∃ (p f : Addr) (fd : FuncData), L2.Fun K m q st f fd ∧ PropOf K C m p f
/-- its __init__, whose last three parameters may be left out -/
def IniAt (K : PySem.W.Frag) (C : Addr) : Prop := ∃ (f : Addr) (fd : FuncData) (t1 t2 t3 : Addr), FunI K [.ref t1, .ref t2, .ref t3] f fd ∧ Mk K C f ∧ Zt K t1 ∧ Zt K t2 ∧ Zt K t3
section
variable {K : PySem.W.Frag} {C : Addr}
theorem funAt {x : Str} {st : Stmt} {f : Addr} {oc : Value} {od an : Option Addr} {osl : Array (Option Value)} {kV doc pm cdv ct : Value} (a : PySem.W.nsIn K mainGlobals x = some (some (.ref f)))
    (l : K.lookup f = some ⟨oc, od, .func (PySem.W.fnOf x x (defArgs st) (defBody st) (defScope st) .none kV doc pm an cdv ct), osl⟩) (c : PySem.W.codeIn K cdv x = true) (k : PySem.W.keepIn K (.ref f) = true) : FunAt K x st := ⟨f, _, fun_mk l c k, a⟩
theorem metAt {m q : Str} {st : Stmt} {f : Addr} {oc : Value} {od an : Option Addr} {osl : Array (Option Value)} {kV doc pm cdv ct : Value} (i : PySem.W.findIn K (.ref C) m = some (some (.ref f)))
    (l : K.lookup f = some ⟨oc, od, .func (PySem.W.fnOf m q (defArgs st) (defBody st) (defScope st) .none kV doc pm an cdv ct), osl⟩) (c : PySem.W.codeIn K cdv q = true) (k : PySem.W.keepIn K (.ref f) = true) (n : PySem.W.isFn K (.ref f) = true) : MetAt K C m q st := ⟨f, _, fun_mk l c k, i, n⟩
theorem prpAt {m q : Str} {st : Stmt} {p f : Addr} {rest : List Value} {oc : Value} {od an : Option Addr} {osl : Array (Option Value)} {kV doc pm cdv ct : Value} (i : PySem.W.findIn K (.ref C) m = some (some (.ref p))) (r : PySem.W.recIn K p "property" = some (.ref f :: rest))
    (l : K.lookup f = some ⟨oc, od, .func (PySem.W.fnOf m q (defArgs st) (defBody st) (defScope st) .none kV doc pm an cdv ct), osl⟩) (c : PySem.W.codeIn K cdv q = true) (k : PySem.W.keepIn K (.ref f) = true)
    (g : PySem.W.specialIn K (.ref p) "__get__" = some (some (.builtin "property.__get__"))) (t : PySem.W.takesIn K (.ref p) = some true) : PrpAt K C m q st := ⟨p, f, _, fun_mk l c k, ⟨i, g, t, rest, r⟩⟩
theorem iniAt {f T t1 t2 t3 : Addr} {oc : Value} {od an : Option Addr} {osl : Array (Option Value)} {kV doc pm cdv ct : Value} {oT o1 o2 o3 : Obj} {nT n1 n2 n3 : Nat} (i : PySem.W.findIn K (.ref C) "__init__" = some (some (.ref f)))
    (l : K.lookup f = some ⟨oc, od, .func (PySem.W.fnOf "__init__" "Book.__init__" (defArgs sBInit) (defBody sBInit) (defScope sBInit) (.ref T) kV doc pm an cdv ct), osl⟩) (c : PySem.W.codeIn K cdv "Book.__init__" = true) (k : PySem.W.keepIn K (.ref f) = true) (n : PySem.W.isFn K (.ref f) = true)
    (m : PySem.W.makesIn K C = true) (kc : PySem.W.keepIn K (.ref C) = true) (lT : K.lookup T = some oT) (dT : oT.data = .seq #[.ref t1, .ref t2, .ref t3] nT) (l1 : K.lookup t1 = some o1) (c1 : o1.cls = .type "tuple") (d1 : o1.data = .seq #[] n1) (l2 : K.lookup t2 = some o2) (c2 : o2.cls = .type "tuple") (d2 : o2.data = .seq #[] n2)
    (l3 : K.lookup t3 = some o3) (c3 : o3.cls = .type "tuple") (d3 : o3.data = .seq #[] n3) : IniAt K C :=
  ⟨f, _, t1, t2, t3, ⟨⟨oc, od, .ref T, kV, doc, pm, an, cdv, ct, osl, rfl, l, c, .inr ⟨by simp, T, oT, [.ref t1, .ref t2, .ref t3], nT, rfl, lT, dT, .cons rfl (.cons rfl (.cons rfl .nil))⟩, .inl rfl⟩, k⟩, ⟨m, i, n, kc⟩, ⟨o1, n1, l1, c1, d1⟩, ⟨o2, n2, l2, c2, d2⟩, ⟨o3, n3, l3, c3, d3⟩⟩
end
structure AllAt (K : PySem.W.Frag) (C : Addr) : Prop where
  d16 : FunAt K "is_integer" (topS 16)
  d17 : FunAt K "is_list" (topS 17)
  d21 : FunAt K "is_letters" (topS 21)
  d22 : FunAt K "is_over" (topS 22)
  d23 : FunAt K "check_letters" (topS 23)
  d26 : FunAt K "is_state" (topS 26)
  d27 : FunAt K "is_letter" (topS 27)
  d28 : FunAt K "is_step" (topS 28)
  d29 : FunAt K "ascending" (topS 29)
  d30 : FunAt K "first_wrong" (topS 30)
  d31 : FunAt K "wrong_state_at" (topS 31)
  d24 : FunAt K "check_row" (topS 24)
  d32 : FunAt K "is_set" (topS 32)
  d33 : FunAt K "check_set" (topS 33)
  d34 : FunAt K "check_states" (topS 34)
  d36 : FunAt K "check_steps" (topS 36)
  d41 : FunAt K "leads_of" (topS 41)
  d42 : FunAt K "steps_of" (topS 42)
  d49 : FunAt K "_law_pot" (topS 49)
  d50 : FunAt K "_law_draw" (topS 50)
  d51 : FunAt K "_law_pick" (topS 51)
  d52 : FunAt K "_law_mixed" (topS 52)
  d53 : FunAt K "_law_signs" (topS 53)
  d54 : FunAt K "_law_model" (topS 54)
  d55 : FunAt K "_law_book" (topS 55)
  d56 : FunAt K "_law_next" (topS 56)
  d57 : FunAt K "_law_come" (topS 57)
  d58 : FunAt K "_law_stops" (topS 58)
  d59 : FunAt K "_law_rows" (topS 59)
  d60 : FunAt K "_law_reads" (topS 60)
  d61 : FunAt K "_law_turned" (topS 61)
  d62 : FunAt K "_law_cut" (topS 62)
  d63 : FunAt K "_law_turned_right" (topS 63)
  d64 : FunAt K "_law_cut_right" (topS 64)
  d65 : FunAt K "_law_row" (topS 65)
  d66 : FunAt K "_law_right" (topS 66)
  d67 : FunAt K "law" (topS 67)
  ini : IniAt K C
  stp : MetAt K C "steps" "Book.steps" sBSteps
  len : MetAt K C "__len__" "Book.__len__" sBLen
  eqq : MetAt K C "__eq__" "Book.__eq__" sBEq
  rpr : MetAt K C "__repr__" "Book.__repr__" sBRepr
  wst : MetAt K C "with_starts" "Book.with_starts" sWSt
  wen : MetAt K C "with_ends" "Book.with_ends" sWEn
  onw : MetAt K C "_onward" "Book._onward" sOnw
  beh : MetAt K C "_behind" "Book._behind" sBeh
  rds : MetAt K C "_reads" "Book._reads" sRds
  con : MetAt K C "__contains__" "Book.__contains__" sCon
  ahd : MetAt K C "_ahead" "Book._ahead" sAhd
  ral : MetAt K C "_readers_along" "Book._readers_along" sRal
  inv : MetAt K C "__invert__" "Book.__invert__" sInv
  rsh : MetAt K C "__rrshift__" "Book.__rrshift__" sRsh
  lsh : MetAt K C "__lshift__" "Book.__lshift__" sLsh
  p_letters : PrpAt K C "letters" "Book.letters" (inClass cBook 2)
  p_size : PrpAt K C "size" "Book.size" (inClass cBook 3)
  p_starts : PrpAt K C "starts" "Book.starts" (inClass cBook 4)
  p_ends : PrpAt K C "ends" "Book.ends" (inClass cBook 5)
  gC : PySem.W.nsIn K mainGlobals "Book" = some (some (.ref C))
  c1 : PySem.W.plainGet K C Str.empty = true
  c2 : PySem.W.hasDictIn K C = true
  c3 : PySem.W.plainOver K C = true
  c4 : PySem.W.findIn K (.ref C) "__setattr__" = some (some (.builtin "object.__setattr__"))
  na_letters : PySem.W.findIn K (.ref C) "_letters" = some none
  na_size : PySem.W.findIn K (.ref C) "_size" = some none
  na_starts : PySem.W.findIn K (.ref C) "_starts" = some none
  na_ends : PySem.W.findIn K (.ref C) "_ends" = some none
  na_leads : PySem.W.findIn K (.ref C) "_leads" = some none
  na_steps : PySem.W.findIn K (.ref C) "_steps" = some none
  r1 : PySem.W.readsIn K C (.type "type") = true
  r2 : PySem.W.specialIn K (.ref C) "__getattribute__" = some (some (.builtin "type.__getattribute__"))
  mo : ∃ t, PySem.W.findCls K (.ref C) (.type "type") "MOST_STATES" = some (.val (.int 7 t))
  e1 : PySem.W.findIn K (.ref C) "__class__" = some (some (.builtin "object.__class__"))
  e2 : PySem.W.specialIn K (.builtin "object.__class__") "__get__" = some (some (.builtin "getset_descriptor.__get__"))
  e3 : PySem.W.takesIn K (.builtin "object.__class__") = some true
  e4 : PySem.W.mroIn K C (.type "object") = some true
  e5 : PySem.W.kitOne K (.ref C) (.ref C) = some true
  e6 : PySem.W.findIn K (.ref C) "__ne__" = some (some (.builtin "object.__ne__"))
  o1 : PySem.W.selfFirst K C = true
  o2 : PySem.W.findIn K (.ref C) "__rshift__" = some none
  o3 : PySem.W.findIn K (.ref C) "__rlshift__" = some none
  o4 : ∃ v, PySem.W.findIn K (.type "str") "__lshift__" = some v
  o5 : ∃ v, PySem.W.findIn K (.type "str") "__rlshift__" = some v
  o6 : PySem.W.findIn K (.type "str") "__rshift__" = some none
  o7 : PySem.W.findIn K (.type "str") "__rrshift__" = some none
  o8 : PySem.W.subIn K (.type "str") (.ref C) = some false
  nf_NoneType : PySem.W.notFirst K C (.type "NoneType") = true
  kf_NoneType : PySem.W.kitOne K (.type "NoneType") (.ref C) = some false
  nf_int : PySem.W.notFirst K C (.type "int") = true
  kf_int : PySem.W.kitOne K (.type "int") (.ref C) = some false
  nf_str : PySem.W.notFirst K C (.type "str") = true
  kf_str : PySem.W.kitOne K (.type "str") (.ref C) = some false
  nf_list : PySem.W.notFirst K C (.type "list") = true
  kf_list : PySem.W.kitOne K (.type "list") (.ref C) = some false
  nf_tuple : PySem.W.notFirst K C (.type "tuple") = true
  kf_tuple : PySem.W.kitOne K (.type "tuple") (.ref C) = some false
  nf_dict : PySem.W.notFirst K C (.type "dict") = true
  kf_dict : PySem.W.kitOne K (.type "dict") (.ref C) = some false
  alpha : ∃ t, PySem.W.nsIn K mainGlobals "ALPHABET" = some (some (.str alphabet t))
  most : ∃ t, PySem.W.nsIn K mainGlobals "MOST_LETTERS" = some (some (.int 4 t))
  n_divmod : PySem.W.nsIn K mainGlobals "divmod" = some none
  n_int : PySem.W.nsIn K mainGlobals "int" = some none
  n_len : PySem.W.nsIn K mainGlobals "len" = some none
  n_abs : PySem.W.nsIn K mainGlobals "abs" = some none
  n_max : PySem.W.nsIn K mainGlobals "max" = some none
  n_min : PySem.W.nsIn K mainGlobals "min" = some none
  n_list : PySem.W.nsIn K mainGlobals "list" = some none
  n_range : PySem.W.nsIn K mainGlobals "range" = some none
  n_sorted : PySem.W.nsIn K mainGlobals "sorted" = some none
  n_all : PySem.W.nsIn K mainGlobals "all" = some none
  n_isinstance : PySem.W.nsIn K mainGlobals "isinstance" = some none
  n_str : PySem.W.nsIn K mainGlobals "str" = some none
  n_bool : PySem.W.nsIn K mainGlobals "bool" = some none
  n_zip : PySem.W.nsIn K mainGlobals "zip" = some none
  n_repr : PySem.W.nsIn K mainGlobals "repr" = some none
  n_tuple : PySem.W.nsIn K mainGlobals "tuple" = some none
  n_enumerate : PySem.W.nsIn K mainGlobals "enumerate" = some none
  n_dict : PySem.W.nsIn K mainGlobals "dict" = some none
  n_any : PySem.W.nsIn K mainGlobals "any" = some none
  n_set : PySem.W.nsIn K mainGlobals "set" = some none
section
variable {P : Program} {w : World} {K : PySem.W.Frag} {mg : Str → Option Value} {h : Heap} {C : Addr}
theorem bl_of (X : K.In h) (G : h.Ns mainGlobals mg) (A : AllAt K C) : Bl mg :=
  ⟨PySem.W.mg_none_of X G A.n_divmod, PySem.W.mg_none_of X G A.n_int, PySem.W.mg_none_of X G A.n_len, PySem.W.mg_none_of X G A.n_abs, PySem.W.mg_none_of X G A.n_max, PySem.W.mg_none_of X G A.n_min, PySem.W.mg_none_of X G A.n_list, PySem.W.mg_none_of X G A.n_range, PySem.W.mg_none_of X G A.n_sorted, PySem.W.mg_none_of X G A.n_all, PySem.W.mg_none_of X G A.n_isinstance, PySem.W.mg_none_of X G A.n_str, PySem.W.mg_none_of X G A.n_bool, PySem.W.mg_none_of X G A.n_zip, PySem.W.mg_none_of X G A.n_repr⟩
theorem cs_of (X : K.In h) (G : h.Ns mainGlobals mg) (A : AllAt K C) : Cs mg := by
  obtain ⟨t1, h1⟩ := A.alpha
  obtain ⟨t2, h2⟩ := A.most
  exact ⟨⟨t1, PySem.W.mg_of X G h1⟩, ⟨t2, PySem.W.mg_of X G h2⟩⟩
theorem bkt_of (X : K.In h) (G : h.Ns mainGlobals mg) (A : AllAt K C) : BkT K mg C := by
  obtain ⟨t, ht⟩ := A.mo
  refine ⟨PySem.W.mg_of X G A.gC, ⟨A.c1, A.c2, A.c3, A.c4⟩, fun f hf => ?_, ⟨A.r1, A.r2⟩, ⟨_, ht, ⟨t, rfl⟩⟩⟩
  simp only [FSelf, List.mem_cons, List.not_mem_nil, or_false] at hf
  rcases hf with rfl | rfl | rfl | rfl | rfl | rfl
  · exact A.na_letters
  · exact A.na_size
  · exact A.na_starts
  · exact A.na_ends
  · exact A.na_leads
  · exact A.na_steps
theorem fnIn_of {m qn : Str} {st : Stmt} {f : Addr} {fd : FuncData} (F : L2.Fun K m qn st f fd) : PySem.W.fnIn K f = true := by
  obtain ⟨oc, od, kV, doc, pm, an, cdv, ct, osl, _, lk, _⟩ := F.ex
  unfold PySem.W.fnIn
  rw [lk]
theorem made {base : Heap} (X : K.In h) (G : h.Ns mainGlobals mg) (A : AllAt K C) : Bl mg ∧ Def P w K mg base 1 "_law_pot" ["_law_script", "_law_k"] (spPot K) ∧ DefQ P w K mg base 10 "_law_right" ["_law_pot_here"] spRight := by
  have B := bl_of X G A
  have Cc := cs_of X G A
  have T := bkt_of X G A
  have tn := PySem.W.mg_none_of X G A.n_tuple
  have en := PySem.W.mg_none_of X G A.n_enumerate
  have dn := PySem.W.mg_none_of X G A.n_dict
  have an := PySem.W.mg_none_of X G A.n_any
  have sn := PySem.W.mg_none_of X G A.n_set
  have rn := PySem.W.mg_none_of X G A.n_range
  obtain ⟨f16, fd16, F16, a16⟩ := A.d16
  have m16 := PySem.W.mg_of X G a16
  have b16 := F16.binds (ps := ["value"]) fun _ _ _ _ _ _ us hl => match us, hl with | [_], _ => rfl
  obtain ⟨f17, fd17, F17, a17⟩ := A.d17
  have m17 := PySem.W.mg_of X G a17
  have b17 := F17.binds (ps := ["value"]) fun _ _ _ _ _ _ us hl => match us, hl with | [_], _ => rfl
  obtain ⟨f21, fd21, F21, a21⟩ := A.d21
  have m21 := PySem.W.mg_of X G a21
  have b21 := F21.binds (ps := ["value"]) fun _ _ _ _ _ _ us hl => match us, hl with | [_], _ => rfl
  obtain ⟨f22, fd22, F22, a22⟩ := A.d22
  have m22 := PySem.W.mg_of X G a22
  have b22 := F22.binds (ps := ["letters", "value"]) fun _ _ _ _ _ _ us hl => match us, hl with | [_, _], _ => rfl
  obtain ⟨f23, fd23, F23, a23⟩ := A.d23
  have m23 := PySem.W.mg_of X G a23
  have b23 := F23.binds (ps := ["letters"]) fun _ _ _ _ _ _ us hl => match us, hl with | [_], _ => rfl
  obtain ⟨f26, fd26, F26, a26⟩ := A.d26
  have m26 := PySem.W.mg_of X G a26
  have b26 := F26.binds (ps := ["size", "value"]) fun _ _ _ _ _ _ us hl => match us, hl with | [_, _], _ => rfl
  obtain ⟨f27, fd27, F27, a27⟩ := A.d27
  have m27 := PySem.W.mg_of X G a27
  have b27 := F27.binds (ps := ["letters", "value"]) fun _ _ _ _ _ _ us hl => match us, hl with | [_, _], _ => rfl
  obtain ⟨f28, fd28, F28, a28⟩ := A.d28
  have m28 := PySem.W.mg_of X G a28
  have b28 := F28.binds (ps := ["letters", "size", "value"]) fun _ _ _ _ _ _ us hl => match us, hl with | [_, _, _], _ => rfl
  obtain ⟨f29, fd29, F29, a29⟩ := A.d29
  have m29 := PySem.W.mg_of X G a29
  have b29 := F29.binds (ps := ["size", "some"]) fun _ _ _ _ _ _ us hl => match us, hl with | [_, _], _ => rfl
  obtain ⟨f30, fd30, F30, a30⟩ := A.d30
  have m30 := PySem.W.mg_of X G a30
  have b30 := F30.binds (ps := ["values", "rights"]) fun _ _ _ _ _ _ us hl => match us, hl with | [_, _], _ => rfl
  obtain ⟨f31, fd31, F31, a31⟩ := A.d31
  have m31 := PySem.W.mg_of X G a31
  have b31 := F31.binds (ps := ["size", "values"]) fun _ _ _ _ _ _ us hl => match us, hl with | [_, _], _ => rfl
  obtain ⟨f24, fd24, F24, a24⟩ := A.d24
  have m24 := PySem.W.mg_of X G a24
  have b24 := F24.binds (ps := ["letters", "row"]) fun _ _ _ _ _ _ us hl => match us, hl with | [_, _], _ => rfl
  obtain ⟨f32, fd32, F32, a32⟩ := A.d32
  have m32 := PySem.W.mg_of X G a32
  have b32 := F32.binds (ps := ["size", "value"]) fun _ _ _ _ _ _ us hl => match us, hl with | [_, _], _ => rfl
  obtain ⟨f33, fd33, F33, a33⟩ := A.d33
  have m33 := PySem.W.mg_of X G a33
  have b33 := F33.binds (ps := ["size", "some"]) fun _ _ _ _ _ _ us hl => match us, hl with | [_, _], _ => rfl
  obtain ⟨f34, fd34, F34, a34⟩ := A.d34
  have m34 := PySem.W.mg_of X G a34
  have b34 := F34.binds (ps := ["size", "values"]) fun _ _ _ _ _ _ us hl => match us, hl with | [_, _], _ => rfl
  obtain ⟨f36, fd36, F36, a36⟩ := A.d36
  have m36 := PySem.W.mg_of X G a36
  have b36 := F36.binds (ps := ["letters", "size", "values"]) fun _ _ _ _ _ _ us hl => match us, hl with | [_, _, _], _ => rfl
  obtain ⟨f41, fd41, F41, a41⟩ := A.d41
  have m41 := PySem.W.mg_of X G a41
  have b41 := F41.binds (ps := ["letters", "size", "steps"]) fun _ _ _ _ _ _ us hl => match us, hl with | [_, _, _], _ => rfl
  obtain ⟨f42, fd42, F42, a42⟩ := A.d42
  have m42 := PySem.W.mg_of X G a42
  have b42 := F42.binds (ps := ["leads"]) fun _ _ _ _ _ _ us hl => match us, hl with | [_], _ => rfl
  obtain ⟨f49, fd49, F49, a49⟩ := A.d49
  have m49 := PySem.W.mg_of X G a49
  have b49 := F49.binds (ps := ["_law_script", "_law_k"]) fun _ _ _ _ _ _ us hl => match us, hl with | [_, _], _ => rfl
  obtain ⟨f50, fd50, F50, a50⟩ := A.d50
  have m50 := PySem.W.mg_of X G a50
  have b50 := F50.binds (ps := ["_law_pot_here", "_law_span"]) fun _ _ _ _ _ _ us hl => match us, hl with | [_, _], _ => rfl
  obtain ⟨f51, fd51, F51, a51⟩ := A.d51
  have m51 := PySem.W.mg_of X G a51
  have b51 := F51.binds (ps := ["_law_pot_here", "_law_lot"]) fun _ _ _ _ _ _ us hl => match us, hl with | [_, _], _ => rfl
  obtain ⟨f52, fd52, F52, a52⟩ := A.d52
  have m52 := PySem.W.mg_of X G a52
  have b52 := F52.binds (ps := ["_law_pot_here", "_law_lot"]) fun _ _ _ _ _ _ us hl => match us, hl with | [_, _], _ => rfl
  obtain ⟨f53, fd53, F53, a53⟩ := A.d53
  have m53 := PySem.W.mg_of X G a53
  have b53 := F53.binds (ps := ["_law_pot_here", "_law_few"]) fun _ _ _ _ _ _ us hl => match us, hl with | [_, _], _ => rfl
  obtain ⟨f54, fd54, F54, a54⟩ := A.d54
  have m54 := PySem.W.mg_of X G a54
  have b54 := F54.binds (ps := ["_law_pot_here", "_law_signs_here", "_law_much"]) fun _ _ _ _ _ _ us hl => match us, hl with | [_, _, _], _ => rfl
  obtain ⟨f55, fd55, F55, a55⟩ := A.d55
  have m55 := PySem.W.mg_of X G a55
  have b55 := F55.binds (ps := ["_law_pot_here", "_law_model_here"]) fun _ _ _ _ _ _ us hl => match us, hl with | [_, _], _ => rfl
  obtain ⟨f56, fd56, F56, a56⟩ := A.d56
  have m56 := PySem.W.mg_of X G a56
  have b56 := F56.binds (ps := ["_law_model_here", "_law_group", "_law_sign"]) fun _ _ _ _ _ _ us hl => match us, hl with | [_, _, _], _ => rfl
  obtain ⟨f57, fd57, F57, a57⟩ := A.d57
  have m57 := PySem.W.mg_of X G a57
  have b57 := F57.binds (ps := ["_law_model_here", "_law_group", "_law_spelt"]) fun _ _ _ _ _ _ us hl => match us, hl with | [_, _, _], _ => rfl
  obtain ⟨f58, fd58, F58, a58⟩ := A.d58
  have m58 := PySem.W.mg_of X G a58
  have b58 := F58.binds (ps := ["_law_model_here", "_law_group"]) fun _ _ _ _ _ _ us hl => match us, hl with | [_, _], _ => rfl
  obtain ⟨f59, fd59, F59, a59⟩ := A.d59
  have m59 := PySem.W.mg_of X G a59
  have b59 := F59.binds (ps := ["_law_signs_here", "_law_few"]) fun _ _ _ _ _ _ us hl => match us, hl with | [_, _], _ => rfl
  obtain ⟨f60, fd60, F60, a60⟩ := A.d60
  have m60 := PySem.W.mg_of X G a60
  have b60 := F60.binds (ps := ["_law_model_here", "_law_spelt"]) fun _ _ _ _ _ _ us hl => match us, hl with | [_, _], _ => rfl
  obtain ⟨f61, fd61, F61, a61⟩ := A.d61
  have m61 := PySem.W.mg_of X G a61
  have b61 := F61.binds (ps := ["_law_model_here"]) fun _ _ _ _ _ _ us hl => match us, hl with | [_], _ => rfl
  obtain ⟨f62, fd62, F62, a62⟩ := A.d62
  have m62 := PySem.W.mg_of X G a62
  have b62 := F62.binds (ps := ["_law_model_here", "_law_front", "_law_back"]) fun _ _ _ _ _ _ us hl => match us, hl with | [_, _, _], _ => rfl
  obtain ⟨f63, fd63, F63, a63⟩ := A.d63
  have m63 := PySem.W.mg_of X G a63
  have b63 := F63.binds (ps := ["_law_pot_here", "_law_model_here", "_law_tome"]) fun _ _ _ _ _ _ us hl => match us, hl with | [_, _, _], _ => rfl
  obtain ⟨f64, fd64, F64, a64⟩ := A.d64
  have m64 := PySem.W.mg_of X G a64
  have b64 := F64.binds (ps := ["_law_pot_here", "_law_model_here", "_law_tome", "_law_front", "_law_back"]) fun _ _ _ _ _ _ us hl => match us, hl with | [_, _, _, _, _], _ => rfl
  obtain ⟨f65, fd65, F65, a65⟩ := A.d65
  have m65 := PySem.W.mg_of X G a65
  have b65 := F65.binds (ps := ["_law_pot_here", "_law_signs_here"]) fun _ _ _ _ _ _ us hl => match us, hl with | [_, _], _ => rfl
  obtain ⟨f66, fd66, F66, a66⟩ := A.d66
  have m66 := PySem.W.mg_of X G a66
  have b66 := F66.binds (ps := ["_law_pot_here"]) fun _ _ _ _ _ _ us hl => match us, hl with | [_], _ => rfl
  have D16 : Def P w K mg base 1 "is_integer" ["value"] (spIsInt K) := ⟨f16, fd16, ok_isint F16 B, m16, F16.kp, b16⟩
  have D17 : Def P w K mg base 1 "is_list" ["value"] spIsList := ⟨f17, fd17, ok_islist F17 B tn, m17, F17.kp, b17⟩
  have D22 : Def P w K mg base 1 "is_over" ["letters", "value"] (spOver K) := ⟨f22, fd22, ok_over F22 B, m22, F22.kp, b22⟩
  have D21 : Def P w K mg base 2 "is_letters" ["value"] (spIsLet K) := ⟨f21, fd21, ok_islet F21 B Cc D22, m21, F21.kp, b21⟩
  have D23 : Def P w K mg base 3 "check_letters" ["letters"] spChkLetR := ⟨f23, fd23, ok_chkletR F23 D21, m23, F23.kp, b23⟩
  have D26 : Def P w K mg base 2 "is_state" ["size", "value"] spIsState := ⟨f26, fd26, ok_isstate F26 D16, m26, F26.kp, b26⟩
  have D27 : Def P w K mg base 1 "is_letter" ["letters", "value"] spIsLetter := ⟨f27, fd27, ok_isletter F27 B, m27, F27.kp, b27⟩
  have D28 : Def P w K mg base 3 "is_step" ["letters", "size", "value"] spIsStep := ⟨f28, fd28, ok_isstep F28 B tn D26 D27, m28, F28.kp, b28⟩
  have D29 : Def P w K mg base 1 "ascending" ["size", "some"] (spAsc K) := ⟨f29, fd29, ok_asc F29 B tn rn, m29, F29.kp, b29⟩
  have D30 : Def P w K mg base 1 "first_wrong" ["values", "rights"] spFirst := ⟨f30, fd30, ok_first F30 en, m30, F30.kp, b30⟩
  have D31 : Def P w K mg base 3 "wrong_state_at" ["size", "values"] spWrongSt := ⟨f31, fd31, ok_wrongst F31 D26 D30, m31, F31.kp, b31⟩
  have D34 : Def P w K mg base 4 "check_states" ["size", "values"] spChkStatesR := ⟨f34, fd34, ok_chkstatesR F34 D17 D31, m34, F34.kp, b34⟩
  have D36 : Def P w K mg base 4 "check_steps" ["letters", "size", "values"] spChkStepsR := ⟨f36, fd36, ok_chkstepsR F36 D17 D30 D28, m36, F36.kp, b36⟩
  have D41 : Def P w K mg base 1 "leads_of" ["letters", "size", "steps"] (spLeads K) := ⟨f41, fd41, ok_leads F41 tn rn, m41, F41.kp, b41⟩
  have D42 : Def P w K mg base 1 "steps_of" ["leads"] spStepsOf := ⟨f42, fd42, ok_stepsof F42, m42, F42.kp, b42⟩
  obtain ⟨fI, fdI, t1, t2, t3, FI, mk, z1, z2, z3⟩ := A.ini
  have GI : FnOk P w K mg base CX0 5 fI fdI psB (spBInit C) := ok_binit FI B T D23 D16 D34 D36 D29 D41 D42
  have BM : BkMk P w K mg base C := ⟨PySem.W.mg_of X G A.gC, fI, fdI, GI, mk, init_all FI, init_kw5 FI, init_kw2 FI⟩
  obtain ⟨p2', g2', fd2', Fp2, PO2⟩ := A.p_letters
  have gb2 : GetB P w K mg base C "letters" "_letters" := ⟨p2', g2', fd2', PO2, ok_get Fp2 (scGet 2 (by decide)) rfl T.cl (T.na _ (by decide +kernel)), Fp2.binds (ps := ["self"]) fun _ _ _ _ _ _ us hl => match us, hl with | [_], _ => rfl⟩
  obtain ⟨p3', g3', fd3', Fp3, PO3⟩ := A.p_size
  have gb3 : GetB P w K mg base C "size" "_size" := ⟨p3', g3', fd3', PO3, ok_get Fp3 (scGet 3 (by decide)) rfl T.cl (T.na _ (by decide +kernel)), Fp3.binds (ps := ["self"]) fun _ _ _ _ _ _ us hl => match us, hl with | [_], _ => rfl⟩
  obtain ⟨p4', g4', fd4', Fp4, PO4⟩ := A.p_starts
  have gb4 : GetB P w K mg base C "starts" "_starts" := ⟨p4', g4', fd4', PO4, ok_get Fp4 (scGet 4 (by decide)) rfl T.cl (T.na _ (by decide +kernel)), Fp4.binds (ps := ["self"]) fun _ _ _ _ _ _ us hl => match us, hl with | [_], _ => rfl⟩
  obtain ⟨p5', g5', fd5', Fp5, PO5⟩ := A.p_ends
  have gb5 : GetB P w K mg base C "ends" "_ends" := ⟨p5', g5', fd5', PO5, ok_get Fp5 (scGet 5 (by decide)) rfl T.cl (T.na _ (by decide +kernel)), Fp5.binds (ps := ["self"]) fun _ _ _ _ _ _ us hl => match us, hl with | [_], _ => rfl⟩
  obtain ⟨gs, fds, Fs, is, ns⟩ := A.stp
  obtain ⟨gl, fdl, Fl, il, nl⟩ := A.len
  obtain ⟨ge, fde, Fe, ie, ne⟩ := A.eqq
  obtain ⟨gr, fdr, Fr, ir, nr⟩ := A.rpr
  have Te : BkE K C := ⟨A.e1, A.e2, A.e3, A.e4, A.e5⟩
  have BU : BkUse P w K mg base C := ⟨T, gb2, gb3, gb4, gb5, ⟨gs, fds, ⟨is, ns, Fs.kp⟩, ok_bsteps Fs B T, Fs.binds (ps := ["self"]) fun _ _ _ _ _ _ us hl => match us, hl with | [_], _ => rfl⟩,
    ⟨gl, fdl, ⟨il, nl, Fl.binds (ps := ["self"]) fun _ _ _ _ _ _ us hl => match us, hl with | [_], _ => rfl⟩, ok_blen Fl B T⟩, ⟨gr, fdr, ⟨ir, nr, Fr.binds (ps := ["self"]) fun _ _ _ _ _ _ us hl => match us, hl with | [_], _ => rfl⟩, ok_brepr Fr T⟩⟩
  have EU : EqUse P w K mg base C := by
    refine ⟨BU, Te, ⟨ge, fde, ⟨ie, ne, Fe.binds (ps := ["self", "other"]) fun _ _ _ _ _ _ us hl => match us, hl with | [_, _], _ => rfl⟩, ok_beq Fe B T Te⟩, A.e6, fun t ht => ?_⟩
    simp only [kinds, List.mem_cons, List.not_mem_nil, or_false] at ht
    rcases ht with rfl | rfl | rfl | rfl | rfl | rfl
    · exact ⟨A.nf_NoneType, A.kf_NoneType⟩
    · exact ⟨A.nf_int, A.kf_int⟩
    · exact ⟨A.nf_str, A.kf_str⟩
    · exact ⟨A.nf_list, A.kf_list⟩
    · exact ⟨A.nf_tuple, A.kf_tuple⟩
    · exact ⟨A.nf_dict, A.kf_dict⟩
  have D49 : Def P w K mg base 1 "_law_pot" ["_law_script", "_law_k"] (spPot K) := ⟨f49, fd49, ok_pot F49 B, m49, F49.kp, b49⟩
  have D50 : Def P w K mg base 1 "_law_draw" ["_law_pot_here", "_law_span"] spDraw := ⟨f50, fd50, ok_draw F50 B, m50, F50.kp, b50⟩
  have D51 : Def P w K mg base 2 "_law_pick" ["_law_pot_here", "_law_lot"] (spPick K) := ⟨f51, fd51, ok_pick F51 B D50, m51, F51.kp, b51⟩
  have D51S : Def P w K mg base 2 "_law_pick" ["_law_pot_here", "_law_lot"] spPickS := ⟨f51, fd51, ok_pickS F51 B D50, m51, F51.kp, b51⟩
  have D52 : Def P w K mg base 2 "_law_mixed" ["_law_pot_here", "_law_lot"] (spMixed K) := ⟨f52, fd52, ok_mixed F52 B D50, m52, F52.kp, b52⟩
  have D53 : Def P w K mg base 3 "_law_signs" ["_law_pot_here", "_law_few"] spSigns := ⟨f53, fd53, ok_signs F53 B D50 D52, m53, F53.kp, b53⟩
  have D54 : Def P w K mg base 2 "_law_model" ["_law_pot_here", "_law_signs_here", "_law_much"] spModel := ⟨f54, fd54, ok_model F54 B D50, m54, F54.kp, b54⟩
  have D55 : Def P w K mg base 7 "_law_book" ["_law_pot_here", "_law_model_here"] (spBook C) := ⟨f55, fd55, ok_book F55 tn BM D52, m55, F55.kp, b55⟩
  have D24 : Def P w K mg base 2 "check_row" ["letters", "row"] spChkRowR := ⟨f24, fd24, ok_chkrowR F24 D22, m24, F24.kp, b24⟩
  have D32 : Def P w K mg base 4 "is_set" ["size", "value"] spIsSet := ⟨f32, fd32, ok_isset F32 D17 D31, m32, F32.kp, b32⟩
  have D33 : Def P w K mg base 5 "check_set" ["size", "some"] spChkSetR := ⟨f33, fd33, ok_chksetR F33 D32, m33, F33.kp, b33⟩
  obtain ⟨g_wst, fd_wst, F_wst, i_wst, n_wst⟩ := A.wst
  have b_wst := F_wst.binds (ps := ["self", "some"]) fun _ _ _ _ _ _ us hl => match us, hl with | [_, _], _ => rfl
  obtain ⟨g_wen, fd_wen, F_wen, i_wen, n_wen⟩ := A.wen
  have b_wen := F_wen.binds (ps := ["self", "some"]) fun _ _ _ _ _ _ us hl => match us, hl with | [_, _], _ => rfl
  obtain ⟨g_onw, fd_onw, F_onw, i_onw, n_onw⟩ := A.onw
  have b_onw := F_onw.binds (ps := ["self", "states", "letter"]) fun _ _ _ _ _ _ us hl => match us, hl with | [_, _, _], _ => rfl
  obtain ⟨g_beh, fd_beh, F_beh, i_beh, n_beh⟩ := A.beh
  have b_beh := F_beh.binds (ps := ["self", "states", "row"]) fun _ _ _ _ _ _ us hl => match us, hl with | [_, _, _], _ => rfl
  obtain ⟨g_rds, fd_rds, F_rds, i_rds, n_rds⟩ := A.rds
  have b_rds := F_rds.binds (ps := ["self", "states", "row"]) fun _ _ _ _ _ _ us hl => match us, hl with | [_, _, _], _ => rfl
  obtain ⟨g_con, fd_con, F_con, i_con, n_con⟩ := A.con
  have b_con := F_con.binds (ps := ["self", "x"]) fun _ _ _ _ _ _ us hl => match us, hl with | [_, _], _ => rfl
  obtain ⟨g_ahd, fd_ahd, F_ahd, i_ahd, n_ahd⟩ := A.ahd
  have b_ahd := F_ahd.binds (ps := ["self", "states", "letter"]) fun _ _ _ _ _ _ us hl => match us, hl with | [_, _, _], _ => rfl
  obtain ⟨g_ral, fd_ral, F_ral, i_ral, n_ral⟩ := A.ral
  have b_ral := F_ral.binds (ps := ["self", "row"]) fun _ _ _ _ _ _ us hl => match us, hl with | [_, _], _ => rfl
  obtain ⟨g_inv, fd_inv, F_inv, i_inv, n_inv⟩ := A.inv
  have b_inv := F_inv.binds (ps := ["self"]) fun _ _ _ _ _ _ us hl => match us, hl with | [_], _ => rfl
  obtain ⟨g_rsh, fd_rsh, F_rsh, i_rsh, n_rsh⟩ := A.rsh
  have b_rsh := F_rsh.binds (ps := ["self", "other"]) fun _ _ _ _ _ _ us hl => match us, hl with | [_, _], _ => rfl
  obtain ⟨g_lsh, fd_lsh, F_lsh, i_lsh, n_lsh⟩ := A.lsh
  have b_lsh := F_lsh.binds (ps := ["self", "other"]) fun _ _ _ _ _ _ us hl => match us, hl with | [_, _], _ => rfl
  have Ronw : MetD P w K mg base C 1 "_onward" ["self", "states", "letter"] (spOnw C) := ⟨g_onw, fd_onw, ⟨i_onw, n_onw, F_onw.kp⟩, ok_onw F_onw B tn T, b_onw⟩
  have Rbeh : MetD P w K mg base C 2 "_behind" ["self", "states", "row"] (spBeh C) := ⟨g_beh, fd_beh, ⟨i_beh, n_beh, F_beh.kp⟩, ok_beh F_beh T D29 Ronw, b_beh⟩
  have Rrds : MetD P w K mg base C 3 "_reads" ["self", "states", "row"] (spRds C) := ⟨g_rds, fd_rds, ⟨i_rds, n_rds, F_rds.kp⟩, ok_rds F_rds an T Rbeh, b_rds⟩
  have Rahd : MetD P w K mg base C 1 "_ahead" ["self", "states", "letter"] (spAhd C) := ⟨g_ahd, fd_ahd, ⟨i_ahd, n_ahd, F_ahd.kp⟩, ok_ahd F_ahd tn rn an T, b_ahd⟩
  have Rral : MetD P w K mg base C 2 "_readers_along" ["self", "row"] (spRal C) := ⟨g_ral, fd_ral, ⟨i_ral, n_ral, F_ral.kp⟩, ok_ral F_ral T Rahd, b_ral⟩
  have Rwst : MetD P w K mg base C 7 "with_starts" ["self", "some"] (spWith C fun M S => { M with S := S }) := ⟨g_wst, fd_wst, ⟨i_wst, n_wst, F_wst.kp⟩, ok_wStarts F_wst T D33 BM, b_wst⟩
  have Rwen : MetD P w K mg base C 7 "with_ends" ["self", "some"] (spWith C fun M E => { M with E := E }) := ⟨g_wen, fd_wen, ⟨i_wen, n_wen, F_wen.kp⟩, ok_wEnds F_wen T D33 BM, b_wen⟩
  have TC : BkTc P w K mg base C := ⟨⟨g_inv, fd_inv, ⟨i_inv, n_inv, b_inv⟩, ok_inv F_inv T BM⟩, ⟨g_rsh, fd_rsh, ⟨i_rsh, A.o2, n_rsh, b_rsh, A.o1, A.o6, A.o7⟩, ok_rsh F_rsh T D24 Rbeh Rwst⟩,
    ⟨g_lsh, fd_lsh, ⟨i_lsh, n_lsh, b_lsh, A.o1, A.o3, A.o4, A.o5, A.o8⟩, ok_lsh F_lsh T D24 Rral Rwen⟩, ⟨g_con, fd_con, ⟨i_con, n_con, b_con⟩, ok_con F_con T D22 Rrds⟩⟩
  have D56 : Def P w K mg base 1 "_law_next" ["_law_model_here", "_law_group", "_law_sign"] spNext := ⟨f56, fd56, ok_next F56 B tn sn, m56, F56.kp, b56⟩
  have D57 : Def P w K mg base 2 "_law_come" ["_law_model_here", "_law_group", "_law_spelt"] spCome := ⟨f57, fd57, ok_come F57 B tn D56, m57, F57.kp, b57⟩
  have D58 : Def P w K mg base 1 "_law_stops" ["_law_model_here", "_law_group"] spStops := ⟨f58, fd58, ok_stops F58 an, m58, F58.kp, b58⟩
  have D59 : Def P w K mg base 1 "_law_rows" ["_law_signs_here", "_law_few"] spRows := ⟨f59, fd59, ok_rows F59 B, m59, F59.kp, b59⟩
  have D60 : Def P w K mg base 3 "_law_reads" ["_law_model_here", "_law_spelt"] spReads := ⟨f60, fd60, ok_reads F60 D57 D58, m60, F60.kp, b60⟩
  have D61 : Def P w K mg base 1 "_law_turned" ["_law_model_here"] spTurned := ⟨f61, fd61, ok_turned F61 B dn, m61, F61.kp, b61⟩
  have D62 : Def P w K mg base 3 "_law_cut" ["_law_model_here", "_law_front", "_law_back"] spCutL := ⟨f62, fd62, ok_cutL F62 B dn D57 D58, m62, F62.kp, b62⟩
  have D63 : Def P w K mg base 8 "_law_turned_right" ["_law_pot_here", "_law_model_here", "_law_tome"] (spTR C) := ⟨f63, fd63, ok_tr F63 B EU TC D61 D55 D59 D60, m63, F63.kp, b63⟩
  have D64 : DefQ P w K mg base 9 "_law_cut_right" ["_law_pot_here", "_law_model_here", "_law_tome", "_law_front", "_law_back"] (spCR C) := ⟨f64, fd64, ok_cr F64 B EU TC D62 D55 D59 D60, m64, F64.kp, b64⟩
  have D65 : Def P w K mg base 3 "_law_row" ["_law_pot_here", "_law_signs_here"] spRowL := ⟨f65, fd65, ok_rowL F65 B D50 D51S, m65, F65.kp, b65⟩
  exact ⟨B, D49, ⟨f66, fd66, ok_right F66 B EU TC D50 D51S D53 D54 D55 D62 D65 D63 D64, m66, F66.kp, b66⟩⟩
end
theorem exStr {K : PySem.W.Frag} {x y : Str} {t : Tok} (h : PySem.W.nsIn K mainGlobals x = some (some (.str y t))) : ∃ t, PySem.W.nsIn K mainGlobals x = some (some (.str y t)) := ⟨t, h⟩
theorem exInt {K : PySem.W.Frag} {x : Str} {i : Int} {t : Tok} (h : PySem.W.nsIn K mainGlobals x = some (some (.int i t))) : ∃ t, PySem.W.nsIn K mainGlobals x = some (some (.int i t)) := ⟨t, h⟩
theorem exFi {K : PySem.W.Frag} {c : Value} {x : Str} {v : Option Value} (h : PySem.W.findIn K c x = some v) : ∃ v, PySem.W.findIn K c x = some v := ⟨v, h⟩
theorem exMo {K : PySem.W.Frag} {C : Addr} {t : Tok} (h : PySem.W.findCls K (.ref C) (.type "type") "MOST_STATES" = some (.val (.int 7 t))) : ∃ t, PySem.W.findCls K (.ref C) (.type "type") "MOST_STATES" = some (.val (.int 7 t)) := ⟨t, h⟩
theorem walk {l : PySem.W.OpenLaw} {q : Program} {loose : List Str} {XP : (Str → Option Value) → Heap → Prop} {d : DefRec} {K : Params → PySem.W.Frag} {as : List Addr} {e : ∀ P, as = (K P).map (·.1)} (hn : l.most = some 63) (hdf : d.params.defaults = []) (hname : d.name = "law")
    (all : ∀ w : World, ∃ C, AllAt (K w.params) C) : PySem.W.WalkO q loose XP (PySem.W.kHook K as e).says l.row.toRowW d [] (fun f vs => PySem.call f vs) := by
  refine Att.attach_callB hn hdf fun w s₀ s₁ mg mb fa o pm cd doc a vs ns G Y ho hd hcd hmg hobj hints hlen hbits hg => ?_
  have KX := PySem.W.kIn_of Y
  obtain ⟨C, A⟩ := all w
  obtain ⟨f67, fd67, F67, a67⟩ := A.d67
  rw [hname] at hmg
  cases hmg.symm.trans (PySem.W.mg_of KX G.T.g a67)
  have bd : ∀ (s' : Shared) (u : Value), BindsTo s' fd67 ⟨[u], []⟩ [("_law_script", u)] := by
    obtain ⟨oc, od, kV, doc', pm', an, cdv, ct, osl, rfl, _⟩ := F67.ex
    exact fun s' u => .of_eq rfl
  refine law_run (P := l.prog) (w := w) (K := K w.params) (k := 11) (cs := []) (x := "_law_script") (sp := spLaw (K w.params)) KX G.T.g G.T.b G.T.builtins G.T.nolimit hg (fun _ hp => absurd hp List.not_mem_nil) (fun _ hp => absurd hp List.not_mem_nil)
    (fun _ hp => absurd hp List.not_mem_nil) G.T.bmain hobj hints (Nat.le_trans hlen (by decide)) ⟨rfl, by decide, by decide⟩ (fun base kinB glB tb => ?_) bd (fun H hH hS => ⟨a, ns, rfl, hS, hlen, fun _ => rfl⟩)
  obtain ⟨B, DP, DR⟩ := made (P := l.prog) (w := w) (base := base) KX G.T.g A
  exact ok_law F67 B DP DR
end Lw
set_option Elab.async false
set_option linter.all false
set_option maxRecDepth 100000
open PySem PySem.W PyProof.Rows
set_option maxHeartbeats 0 in
theorem PySem.Challenge.cw_fewheld_k17_whole_books_turned_and_cut_holds : PySem.Challenge.rw_fewheld_k17_whole_books_turned_and_cut.Holds := by
  w_on; o_law; k_head; (case hw => w_witness2)
  k_fill
  refine Lw.walk rfl rfl rfl (fun w => ?_)
  refine' ⟨_, ?A⟩
  case A =>
    refine' Lw.AllAt.mk ?d16 ?d17 ?d21 ?d22 ?d23 ?d26 ?d27 ?d28 ?d29 ?d30 ?d31 ?d24 ?d32 ?d33 ?d34 ?d36 ?d41 ?d42 ?d49 ?d50 ?d51 ?d52 ?d53 ?d54 ?d55 ?d56 ?d57 ?d58 ?d59 ?d60 ?d61 ?d62 ?d63 ?d64 ?d65 ?d66 ?d67 ?ini ?stp ?len ?eqq ?rpr ?wst ?wen ?onw ?beh ?rds ?con ?ahd ?ral ?inv ?rsh ?lsh ?p_letters ?p_size ?p_starts ?p_ends ?gC ?c1 ?c2 ?c3 ?c4 ?na_letters ?na_size ?na_starts ?na_ends ?na_leads ?na_steps ?r1 ?r2 ?mo ?e1 ?e2 ?e3 ?e4 ?e5 ?e6 ?o1 ?o2 ?o3 ?o4 ?o5 ?o6 ?o7 ?o8 ?nf_NoneType ?kf_NoneType ?nf_int ?kf_int ?nf_str ?kf_str ?nf_list ?kf_list ?nf_tuple ?kf_tuple ?nf_dict ?kf_dict ?alpha ?most ?n_divmod ?n_int ?n_len ?n_abs ?n_max ?n_min ?n_list ?n_range ?n_sorted ?n_all ?n_isinstance ?n_str ?n_bool ?n_zip ?n_repr ?n_tuple ?n_enumerate ?n_dict ?n_any ?n_set
    (case gC => k_is)
    case ini =>
      refine' Lw.iniAt ?i ?l ?c ?k ?n ?m ?kc ?lT ?dT ?y1 ?y2 ?y3 ?y4 ?y5 ?y6 ?y7 ?y8 ?y9
      (case i => k_is); (case l => k_is); (case c => k_is); (case k => k_is); (case n => k_is); (case m => kernel_rfl); (case kc => k_is)
      (case lT => k_is); (case dT => rfl); (case y1 => k_is); (case y2 => rfl); (case y3 => rfl); (case y4 => k_is); (case y5 => rfl); (case y6 => rfl); (case y7 => k_is); (case y8 => rfl); (case y9 => rfl)
    (case stp => (refine' Lw.metAt ?i ?l ?c ?k ?n; (case i => k_is); (case l => k_is); (case c => k_is); (case k => k_is); (case n => k_is)))
    (case len => (refine' Lw.metAt ?i ?l ?c ?k ?n; (case i => k_is); (case l => k_is); (case c => k_is); (case k => k_is); (case n => k_is)))
    (case eqq => (refine' Lw.metAt ?i ?l ?c ?k ?n; (case i => k_is); (case l => k_is); (case c => k_is); (case k => k_is); (case n => k_is)))
    (case rpr => (refine' Lw.metAt ?i ?l ?c ?k ?n; (case i => k_is); (case l => k_is); (case c => k_is); (case k => k_is); (case n => k_is)))
    (case wst => (refine' Lw.metAt ?i ?l ?c ?k ?n; (case i => k_is); (case l => k_is); (case c => k_is); (case k => k_is); (case n => k_is)))
    (case wen => (refine' Lw.metAt ?i ?l ?c ?k ?n; (case i => k_is); (case l => k_is); (case c => k_is); (case k => k_is); (case n => k_is)))
    (case onw => (refine' Lw.metAt ?i ?l ?c ?k ?n; (case i => k_is); (case l => k_is); (case c => k_is); (case k => k_is); (case n => k_is)))
    (case beh => (refine' Lw.metAt ?i ?l ?c ?k ?n; (case i => k_is); (case l => k_is); (case c => k_is); (case k => k_is); (case n => k_is)))
    (case rds => (refine' Lw.metAt ?i ?l ?c ?k ?n; (case i => k_is); (case l => k_is); (case c => k_is); (case k => k_is); (case n => k_is)))
    (case con => (refine' Lw.metAt ?i ?l ?c ?k ?n; (case i => k_is); (case l => k_is); (case c => k_is); (case k => k_is); (case n => k_is)))
    (case ahd => (refine' Lw.metAt ?i ?l ?c ?k ?n; (case i => k_is); (case l => k_is); (case c => k_is); (case k => k_is); (case n => k_is)))
    (case ral => (refine' Lw.metAt ?i ?l ?c ?k ?n; (case i => k_is); (case l => k_is); (case c => k_is); (case k => k_is); (case n => k_is)))
    (case inv => (refine' Lw.metAt ?i ?l ?c ?k ?n; (case i => k_is); (case l => k_is); (case c => k_is); (case k => k_is); (case n => k_is)))
    (case rsh => (refine' Lw.metAt ?i ?l ?c ?k ?n; (case i => k_is); (case l => k_is); (case c => k_is); (case k => k_is); (case n => k_is)))
    (case lsh => (refine' Lw.metAt ?i ?l ?c ?k ?n; (case i => k_is); (case l => k_is); (case c => k_is); (case k => k_is); (case n => k_is)))
    (case p_letters => (refine' Lw.prpAt ?i ?r ?l ?c ?k ?g ?t; (case i => k_is); (case r => k_is); (case l => k_is); (case c => k_is); (case k => k_is); (case g => k_is); (case t => k_is)))
    (case p_size => (refine' Lw.prpAt ?i ?r ?l ?c ?k ?g ?t; (case i => k_is); (case r => k_is); (case l => k_is); (case c => k_is); (case k => k_is); (case g => k_is); (case t => k_is)))
    (case p_starts => (refine' Lw.prpAt ?i ?r ?l ?c ?k ?g ?t; (case i => k_is); (case r => k_is); (case l => k_is); (case c => k_is); (case k => k_is); (case g => k_is); (case t => k_is)))
    (case p_ends => (refine' Lw.prpAt ?i ?r ?l ?c ?k ?g ?t; (case i => k_is); (case r => k_is); (case l => k_is); (case c => k_is); (case k => k_is); (case g => k_is); (case t => k_is)))
    (case c1 => kernel_rfl)
    (case c3 => kernel_rfl)
    (case r1 => kernel_rfl)
    (case e5 => kernel_rfl)
    (case o1 => kernel_rfl)
    (case o8 => kernel_rfl)
    (case c2 => k_is)
    (case c4 => k_is)
    (case r2 => k_is)
    (case e1 => k_is)
    (case e2 => k_is)
    (case e3 => k_is)
    (case e4 => k_is)
    (case e6 => k_is)
    (case o2 => k_is)
    (case o3 => k_is)
    (case o6 => k_is)
    (case o7 => k_is)
    (case na_letters => k_is)
    (case na_size => k_is)
    (case na_starts => k_is)
    (case na_ends => k_is)
    (case na_leads => k_is)
    (case na_steps => k_is)
    (case o4 => (refine' Lw.exFi ?h; (case h => first | k_is | kernel_rfl)))
    (case o5 => (refine' Lw.exFi ?h; (case h => first | k_is | kernel_rfl)))
    (case nf_NoneType => kernel_rfl)
    (case kf_NoneType => kernel_rfl)
    (case nf_int => kernel_rfl)
    (case kf_int => kernel_rfl)
    (case nf_str => kernel_rfl)
    (case kf_str => kernel_rfl)
    (case nf_list => kernel_rfl)
    (case kf_list => kernel_rfl)
    (case nf_tuple => kernel_rfl)
    (case kf_tuple => kernel_rfl)
    (case nf_dict => kernel_rfl)
    (case kf_dict => kernel_rfl)
    (case alpha => (refine' Lw.exStr ?h; (case h => k_is)))
    (case mo => (refine' Lw.exMo ?h; (case h => k_is)))
    (case most => (refine' Lw.exInt ?h; (case h => k_is)))
    (case n_divmod => k_is)
    (case n_int => k_is)
    (case n_len => k_is)
    (case n_abs => k_is)
    (case n_max => k_is)
    (case n_min => k_is)
    (case n_list => k_is)
    (case n_range => k_is)
    (case n_sorted => k_is)
    (case n_all => k_is)
    (case n_isinstance => k_is)
    (case n_str => k_is)
    (case n_bool => k_is)
    (case n_zip => k_is)
    (case n_repr => k_is)
    (case n_tuple => k_is)
    (case n_enumerate => k_is)
    (case n_dict => k_is)
    (case n_any => k_is)
    (case n_set => k_is)
    (case d16 => (refine' Lw.funAt ?a ?l ?c ?k; (case a => k_is); (case l => k_is); (case c => k_is); (case k => k_is)))
    (case d17 => (refine' Lw.funAt ?a ?l ?c ?k; (case a => k_is); (case l => k_is); (case c => k_is); (case k => k_is)))
    (case d21 => (refine' Lw.funAt ?a ?l ?c ?k; (case a => k_is); (case l => k_is); (case c => k_is); (case k => k_is)))
    (case d22 => (refine' Lw.funAt ?a ?l ?c ?k; (case a => k_is); (case l => k_is); (case c => k_is); (case k => k_is)))
    (case d23 => (refine' Lw.funAt ?a ?l ?c ?k; (case a => k_is); (case l => k_is); (case c => k_is); (case k => k_is)))
    (case d26 => (refine' Lw.funAt ?a ?l ?c ?k; (case a => k_is); (case l => k_is); (case c => k_is); (case k => k_is)))
    (case d27 => (refine' Lw.funAt ?a ?l ?c ?k; (case a => k_is); (case l => k_is); (case c => k_is); (case k => k_is)))
    (case d28 => (refine' Lw.funAt ?a ?l ?c ?k; (case a => k_is); (case l => k_is); (case c => k_is); (case k => k_is)))
    (case d29 => (refine' Lw.funAt ?a ?l ?c ?k; (case a => k_is); (case l => k_is); (case c => k_is); (case k => k_is)))
    (case d30 => (refine' Lw.funAt ?a ?l ?c ?k; (case a => k_is); (case l => k_is); (case c => k_is); (case k => k_is)))
    (case d31 => (refine' Lw.funAt ?a ?l ?c ?k; (case a => k_is); (case l => k_is); (case c => k_is); (case k => k_is)))
    (case d24 => (refine' Lw.funAt ?a ?l ?c ?k; (case a => k_is); (case l => k_is); (case c => k_is); (case k => k_is)))
    (case d32 => (refine' Lw.funAt ?a ?l ?c ?k; (case a => k_is); (case l => k_is); (case c => k_is); (case k => k_is)))
    (case d33 => (refine' Lw.funAt ?a ?l ?c ?k; (case a => k_is); (case l => k_is); (case c => k_is); (case k => k_is)))
    (case d34 => (refine' Lw.funAt ?a ?l ?c ?k; (case a => k_is); (case l => k_is); (case c => k_is); (case k => k_is)))
    (case d36 => (refine' Lw.funAt ?a ?l ?c ?k; (case a => k_is); (case l => k_is); (case c => k_is); (case k => k_is)))
    (case d41 => (refine' Lw.funAt ?a ?l ?c ?k; (case a => k_is); (case l => k_is); (case c => k_is); (case k => k_is)))
    (case d42 => (refine' Lw.funAt ?a ?l ?c ?k; (case a => k_is); (case l => k_is); (case c => k_is); (case k => k_is)))
    (case d49 => (refine' Lw.funAt ?a ?l ?c ?k; (case a => k_is); (case l => k_is); (case c => k_is); (case k => k_is)))
    (case d50 => (refine' Lw.funAt ?a ?l ?c ?k; (case a => k_is); (case l => k_is); (case c => k_is); (case k => k_is)))
    (case d51 => (refine' Lw.funAt ?a ?l ?c ?k; (case a => k_is); (case l => k_is); (case c => k_is); (case k => k_is)))
    (case d52 => (refine' Lw.funAt ?a ?l ?c ?k; (case a => k_is); (case l => k_is); (case c => k_is); (case k => k_is)))
    (case d53 => (refine' Lw.funAt ?a ?l ?c ?k; (case a => k_is); (case l => k_is); (case c => k_is); (case k => k_is)))
    (case d54 => (refine' Lw.funAt ?a ?l ?c ?k; (case a => k_is); (case l => k_is); (case c => k_is); (case k => k_is)))
    (case d55 => (refine' Lw.funAt ?a ?l ?c ?k; (case a => k_is); (case l => k_is); (case c => k_is); (case k => k_is)))
    (case d56 => (refine' Lw.funAt ?a ?l ?c ?k; (case a => k_is); (case l => k_is); (case c => k_is); (case k => k_is)))
    (case d57 => (refine' Lw.funAt ?a ?l ?c ?k; (case a => k_is); (case l => k_is); (case c => k_is); (case k => k_is)))
    (case d58 => (refine' Lw.funAt ?a ?l ?c ?k; (case a => k_is); (case l => k_is); (case c => k_is); (case k => k_is)))
    (case d59 => (refine' Lw.funAt ?a ?l ?c ?k; (case a => k_is); (case l => k_is); (case c => k_is); (case k => k_is)))
    (case d60 => (refine' Lw.funAt ?a ?l ?c ?k; (case a => k_is); (case l => k_is); (case c => k_is); (case k => k_is)))
    (case d61 => (refine' Lw.funAt ?a ?l ?c ?k; (case a => k_is); (case l => k_is); (case c => k_is); (case k => k_is)))
    (case d62 => (refine' Lw.funAt ?a ?l ?c ?k; (case a => k_is); (case l => k_is); (case c => k_is); (case k => k_is)))
    (case d63 => (refine' Lw.funAt ?a ?l ?c ?k; (case a => k_is); (case l => k_is); (case c => k_is); (case k => k_is)))
    (case d64 => (refine' Lw.funAt ?a ?l ?c ?k; (case a => k_is); (case l => k_is); (case c => k_is); (case k => k_is)))
    (case d65 => (refine' Lw.funAt ?a ?l ?c ?k; (case a => k_is); (case l => k_is); (case c => k_is); (case k => k_is)))
    (case d66 => (refine' Lw.funAt ?a ?l ?c ?k; (case a => k_is); (case l => k_is); (case c => k_is); (case k => k_is)))
    (case d67 => (refine' Lw.funAt ?a ?l ?c ?k; (case a => k_is); (case l => k_is); (case c => k_is); (case k => k_is)))
